/- Span: every term. Span. Anchored. Anchored, whole. speaks of the width's statements. speaks of the width's statements. -/
import Derived.Test.YtnaecagmcpndhaaW10
import Derived.Test.YtnaecagmcpndhaaW7
import Derived.Test.YtnaecagmcpndhaaW8
import Derived.Test.YtnaecagmcpndhaaJ8
namespace Go.Proofs.Ytnaecagmcpndhaa
open Go.RowKit
theorem span_any : ∀ (t : Tm) (d : TD) (p : Nat) (w : World), TR w t d → Ok t → Fun w p 36 → Calls Try.prog 36 #[d.val, .pointer (some ⟨p, 0, none⟩)] w (Tells w (spanT t).val) := by
  intro t
  induction t using Tm.ind with
  | h op f lo hi ks ih =>
  intro d p w ht hok hF
  by_cases h5 : op = 1 ∨ op = 4 ∨ op = 5 ∨ op = 3 ∨ op = 2
  · exact span_leaf op f lo hi ks d p w ht h5
  by_cases h6 : op = 6
  · subst h6
    exact span_cat f lo hi ks d p w ht hok hF ih
  by_cases h7 : op = 7
  · subst h7
    exact span_alt f lo hi ks d p w ht hok hF ih
  by_cases h8 : op = 8 ∧ ks.length = 1
  · obtain ⟨rfl, h1⟩ := h8
    obtain ⟨kt, rfl⟩ := List.length_eq_one_iff.mp h1
    exact span_rep f lo hi kt d p w ht hok hF (ih kt (by simp))
  · exact span_other op f lo hi ks d p w ht (by omega) (fun a b => h8 ⟨a, b⟩)
end Go.Proofs.Ytnaecagmcpndhaa
namespace Go.Proofs.Ytnaecagmcpndhaa
open Go.RowKit
set_option maxRecDepth 100000 in
theorem spanwhole_any (t : Tm) (d : TD) (w : World) (ht : TR w t d) (hok : Ok t) : Calls Try.prog 21 #[d.val] w (Tells w (.tuple #[.int .i64 (spanT t).l, .int .i64 (spanT t).m, .bool (spanT t).a])) := by
  have hmf : ∀ (fn : Fn) (first cap : Array Value) (w : World), (Instr.makeFunc fn first cap).run Try.prog w = .ok (.func fn first cap) w := fun _ _ _ _ => rfl
  have hst : ∀ (a : Addr) (fn : Fn) (first cap : Array Value) (m : Mode) (W : World), (store a (.func fn first cap) m).run Try.prog W = stored Try.prog W a (.func fn first cap) m := fun a fn first cap m W => run_store Try.prog W a _ m rfl
  have b2 := below2 w (.cells d.cells 29) (.cells #[.func (.func 36) #[] #[.pointer (some ⟨w.heap.size + 1, 0, none⟩)]] 60)
  have hF : Fun ((w.alloc (.cells d.cells 29)).alloc (.cells #[.func (.func 36) #[] #[.pointer (some ⟨w.heap.size + 1, 0, none⟩)]] 60)) (w.heap.size + 1) 36 := by
    refine ⟨?_, by simp⟩
    have h := heap_alloc_new (w.alloc (.cells d.cells 29)) (.cells #[.func (.func 36) #[] #[.pointer (some ⟨w.heap.size + 1, 0, none⟩)]] 60)
    rw [World.size_alloc] at h
    rw [cell_of_row _ (w.heap.size + 1) 0 _ 60 (0, 0) h]
    rfl
  have D1 := Lib.hid (span_any t d (w.heap.size + 1) _ (ht.keeps b2) hok hF)
  have B2 := Lib.hid b2
  clear b2 hF
  generalize spanT t = x at *
  unfold Ex.val at *
  unfold TD.val TD.cells at *
  go_enter Try.func21, Try.ntmps21
  go_wp2_with fail
  refine D1.out.mono ?_
  rintro e w5 ⟨rfl, hb5⟩
  have B5 := Lib.hid (B2.out.trans (hb5.mono B2.out.size))
  clear D1 B2 hb5
  have bb := below_new w5 (.cells #[.int .i64 x.l, .int .i64 x.m, .bool x.a] 62)
  have B6 := Lib.hid (B5.out.trans (bb.mono B5.out.size))
  obtain ⟨⟨x0, x1, x2⟩, _⟩ := (EB.new w5 x).all
  clear bb B5
  go_wp2
  go_region
  go_wp2
  refine bodyPost_ret (v := .tuple #[.int .i64 x.l, .int .i64 x.m, .bool x.a]) (by simp [results, Try.results21, go_sem]) rfl ?_
  exact ⟨rfl, B6.out.drew⟩
set_option maxRecDepth 100000 in
theorem nullable_any (t : Tm) (d : TD) (w : World) (ht : TR w t d) (hok : Ok t) : Calls Try.prog 24 #[d.val] w (Tells w (.bool ((spanT t).a && ((spanT t).l == 0)))) := by
  have D1 := Lib.hid (spanwhole_any t d (w.alloc (.cells d.cells 29)) (ht.keeps (below_new _ _)) hok)
  have B1 := Lib.hid (below_new w (.cells d.cells 29))
  generalize spanT t = x at *
  unfold TD.val TD.cells at *
  go_enter Try.func24, Try.ntmps24
  go_wp2_with fail
  refine D1.out.mono ?_
  rintro e w5 ⟨rfl, hb5⟩
  have B5 := Lib.hid (B1.out.trans (hb5.mono B1.out.size))
  clear D1 B1 hb5
  obtain ⟨l, m, a⟩ := x
  cases a
  · go_wp2
    go_ret
    exact ⟨rfl, B5.out⟩
  · go_wp2
    go_ret
    exact ⟨rfl, B5.out⟩
end Go.Proofs.Ytnaecagmcpndhaa
namespace Go.Proofs.Ytnaecagmcpndhaa
open Go.RowKit
mutual
def ancT : Tm → Bool
  | .mk op _ _ _ ks => (op == 4) || ((op == 5) || ancL ks)
def ancL : List Tm → Bool
  | [] => false
  | k :: r => ancT k || ancL r
end
set_option maxRecDepth 100000 in
theorem idx_any (ks : List Tm) (ds : List TD) (A : Option Addr) (n c p : Nat) (w : World) (hnn : ks.length = n) (hl : ds.length = ks.length) (hn : n ≤ 9223372036854775807) (hk : ∀ (i : Nat) (t : Tm) (d : TD), ks[i]? = some t → ds[i]? = some d → TR w t d) (hr : RowAt w A ds) (hF : Fun w p 46)
    (ih : ∀ k ∈ ks, ∀ (d : TD) (p : Nat) (w : World), TR w k d → Fun w p 46 → Calls Try.prog 46 #[d.val, .pointer (some ⟨p, 0, none⟩)] w (Tells w (.bool (ancT k)))) :
    Calls Try.prog 61 #[.slice A n c, .func (.func 46) #[] #[.pointer (some ⟨p, 0, none⟩)]] w fun e w' => ∃ z : Int, e = .returned (.int .i64 z) ∧ decide (z ≥ 0) = ancL ks ∧ Below w.heap.size w w' := by
  have IH := Lib.hid ih; have HK := Lib.hid hk; have HR := Lib.hid hr; have HL := Lib.hid hl; have HN := Lib.hid hnn; have F1 := Lib.hid hF
  clear ih hk hr hl hnn hF
  go_enter Try.func61, Try.ntmps61
  go_wp2_with fail
  go_loopw [8] (fun v wr => ∃ (i : Nat), i ≤ n ∧ v = .int .i64 (i : Nat) ∧ Hid (ancL (ks.drop i) = ancL ks) ∧ Hid (Below w.heap.size w wr ∧ Fun wr p 46)) (fun v _ => n - (intOf v).toNat)
  case atStart => exact ⟨0, Nat.zero_le _, rfl, Lib.hid (by rw [List.drop_zero]), Lib.hid ⟨Below.refl _ _, F1.out⟩⟩
  case round =>
    obtain ⟨i, hi1, rfl, hZ, hW⟩ := hrel
    clear F1
    by_cases hlt : i < n
    · have qi : (i : Int) < (n : Int) := by omega
      have hi2 : i < ks.length := by have := HN.out; omega
      have hi4 : i < ds.length := by have h1 := HL.out; omega
      obtain ⟨kb1, off1, rfl, hb1, hc1⟩ := HR.out (by omega)
      obtain ⟨a0, a1, a2, a3, a4, a5, a6, a7⟩ := kid_cells hW.out.1 hb1 hc1 (List.getElem?_eq_getElem hi4)
      have k1 := (HK.out i _ _ (List.getElem?_eq_getElem hi2) (List.getElem?_eq_getElem hi4)).keeps hW.out.1
      have zz : (ancT ks[i] || ancL (ks.drop (i + 1))) = ancL ks := by rw [← hZ.out, List.drop_eq_getElem_cons hi2, ancL]
      have hm := List.getElem_mem hi2
      generalize ks[i] = kt at *
      generalize ds[i] = dt at *
      have D1 := Lib.hid (IH.out kt hm dt p _ k1 hW.out.2)
      have ZZ := Lib.hid zz
      have kbl : kb1 < wr.heap.size := Nat.lt_of_lt_of_le hb1 hW.out.1.size
      have q6 : IntKind.i64.wrap ((i : Int) + 1) = ((i + 1 : Nat) : Int) := by rw [IntWalk.i64_in _ (by omega)]; omega
      clear hc1 k1 hi2 hi4 hb1 zz hm hZ
      unfold TD.val at D1
      go_wp2_with fail
      refine D1.out.mono ?_
      rintro e w5 ⟨rfl, hb5⟩
      have W5 : Hid (Below w.heap.size w w5 ∧ Fun w5 p 46) := ⟨hW.out.1.trans (hb5.mono hW.out.1.size), hW.out.2.below hb5⟩
      clear D1 hW hb5 a0 a1 a2 a3 a4 a5 a6 a7 kbl
      generalize ancT kt = b at *
      cases b
      · have Z2 : Hid (ancL (ks.drop (i + 1)) = ancL ks) := by have := ZZ.out; rw [Bool.false_or] at this; exact this
        go_wp2_with fail
        go_roundw
        case rel => exact ⟨i + 1, by omega, by simp, Z2, W5⟩
        case measure => simp [intOf]; omega
      · go_wp2
        go_ret
        exact ⟨_, rfl, by rw [← ZZ.out]; simp, W5.out.1⟩
    · have qi : ¬ (i : Int) < (n : Int) := by omega
      have hin : i = n := by omega
      have Z2 : Hid (false = ancL ks) := by
        have h := hZ.out
        rw [List.drop_eq_nil_of_le (by have := HN.out; omega), ancL] at h
        exact h
      clear hZ
      go_wp2
      go_ret
      exact ⟨_, rfl, by rw [← Z2.out]; rfl, hW.out.1⟩
set_option maxRecDepth 100000 in
theorem con_any (ks : List Tm) (ds : List TD) (A : Option Addr) (n c p : Nat) (w : World) (hnn : ks.length = n) (hl : ds.length = ks.length) (hn : n ≤ 9223372036854775807) (hk : ∀ (i : Nat) (t : Tm) (d : TD), ks[i]? = some t → ds[i]? = some d → TR w t d) (hr : RowAt w A ds) (hF : Fun w p 46)
    (ih : ∀ k ∈ ks, ∀ (d : TD) (p : Nat) (w : World), TR w k d → Fun w p 46 → Calls Try.prog 46 #[d.val, .pointer (some ⟨p, 0, none⟩)] w (Tells w (.bool (ancT k)))) :
    Calls Try.prog 47 #[.slice A n c, .func (.func 46) #[] #[.pointer (some ⟨p, 0, none⟩)]] w (Tells w (.bool (ancL ks))) := by
  have D1 := Lib.hid (idx_any ks ds A n c p w hnn hl hn hk hr hF ih)
  clear ih hk hr hl hnn hF
  go_enter Try.func47, Try.ntmps47
  go_wp2_with fail
  refine D1.out.mono ?_
  rintro e w5 ⟨z, rfl, hz, hb⟩
  have Z := Lib.hid hz; have B := Lib.hid hb
  clear D1 hz hb
  go_wp2
  go_ret
  refine ⟨?_, B.out⟩
  rw [← Z.out]
  rfl
end Go.Proofs.Ytnaecagmcpndhaa
namespace Go.Proofs.Ytnaecagmcpndhaa
open Go.RowKit
set_option maxRecDepth 100000 in
theorem anc_any : ∀ (t : Tm) (d : TD) (p : Nat) (w : World), TR w t d → Fun w p 46 → Calls Try.prog 46 #[d.val, .pointer (some ⟨p, 0, none⟩)] w (Tells w (.bool (ancT t))) := by
  intro t
  induction t using Tm.ind with
  | h op f lo hi ks ih =>
  intro d p w ht hF
  cases ht with
  | mk _ _ _ _ _ q A c ds hq hl hn hk hr =>
  obtain ⟨n, hnn⟩ : ∃ n, ks.length = n := ⟨_, rfl⟩
  rw [hnn] at hn ⊢
  have b1 := below_new w (.cells #[.int .i64 op, .int .u64 (uv (q 0)), .int .u64 (uv (q 1)), .int .u64 (uv (q 2)), .int .u64 (uv (q 3)), .int .i64 lo, .int .i64 hi, .slice A n c] 29)
  have f1 := hF.below b1
  have D1 := Lib.hid (con_any ks ds A n c p _ hnn hl hn (fun i t d a b => (hk i t d a b).keeps b1) (hr.below b1) f1 ih)
  have B1 := Lib.hid b1
  obtain ⟨⟨x0, x1, x2, x3, x4, x5, x6, x7⟩, _⟩ := (TB.new w ⟨op, q, lo, hi, A, n, c⟩).all
  have R : Hid (ancT (.mk op f lo hi ks) = ((op == 4) || ((op == 5) || ancL ks))) := by show ancT _ = _; rw [ancT]
  obtain ⟨f2, f3⟩ := f1
  unfold TD.val
  generalize ancT (.mk op f lo hi ks) = r at *
  generalize ancL ks = s at *
  have e := R.out
  clear ih hk hr hl hF b1 R
  subst e
  by_cases h4 : op = 4
  · subst h4
    go_enter Try.func46, Try.ntmps46
    go_wp2
    go_ret
    exact ⟨rfl, B1.out⟩
  have q4 : (op == 4) = false := by rw [beq_eq_false_iff_ne]; exact h4
  by_cases h5 : op = 5
  · subst h5
    go_enter Try.func46, Try.ntmps46
    go_wp2
    go_ret
    exact ⟨rfl, B1.out⟩
  have q5 : (op == 5) = false := by rw [beq_eq_false_iff_ne]; exact h5
  rw [q4, q5, Bool.false_or, Bool.false_or]
  go_enter Try.func46, Try.ntmps46
  go_wp2_with fail
  refine D1.out.mono ?_
  rintro e w5 ⟨rfl, hb5⟩
  have B5 := Lib.hid (B1.out.trans (hb5.mono B1.out.size))
  clear D1 B1 hb5 x0 x1 x2 x3 x4 x5 x6 x7 f2 f3
  go_wp2
  go_ret
  exact ⟨rfl, B5.out⟩
set_option maxRecDepth 100000 in
theorem anchored_any (t : Tm) (d : TD) (w : World) (ht : TR w t d) : Calls Try.prog 23 #[d.val] w (Tells w (.bool (ancT t))) := by
  have hmf : ∀ (fn : Fn) (first cap : Array Value) (w : World), (Instr.makeFunc fn first cap).run Try.prog w = .ok (.func fn first cap) w := fun _ _ _ _ => rfl
  have hst : ∀ (a : Addr) (fn : Fn) (first cap : Array Value) (m : Mode) (W : World), (store a (.func fn first cap) m).run Try.prog W = stored Try.prog W a (.func fn first cap) m := fun a fn first cap m W => run_store Try.prog W a _ m rfl
  have b2 := below2 w (.cells d.cells 29) (.cells #[.func (.func 46) #[] #[.pointer (some ⟨w.heap.size + 1, 0, none⟩)]] 40)
  have hF : Fun ((w.alloc (.cells d.cells 29)).alloc (.cells #[.func (.func 46) #[] #[.pointer (some ⟨w.heap.size + 1, 0, none⟩)]] 40)) (w.heap.size + 1) 46 := by
    refine ⟨?_, by simp⟩
    have h := heap_alloc_new (w.alloc (.cells d.cells 29)) (.cells #[.func (.func 46) #[] #[.pointer (some ⟨w.heap.size + 1, 0, none⟩)]] 40)
    rw [World.size_alloc] at h
    rw [cell_of_row _ (w.heap.size + 1) 0 _ 40 (0, 0) h]
    rfl
  have D1 := Lib.hid (anc_any t d (w.heap.size + 1) _ (ht.keeps b2) hF)
  have B2 := Lib.hid b2
  clear b2 hF
  unfold TD.val TD.cells at *
  go_enter Try.func23, Try.ntmps23
  go_wp2_with fail
  refine D1.out.mono ?_
  rintro e w5 ⟨rfl, hb5⟩
  have B5 := Lib.hid (B2.out.trans (hb5.mono B2.out.size))
  clear D1 B2 hb5
  go_wp2
  go_ret
  exact ⟨rfl, B5.out⟩
end Go.Proofs.Ytnaecagmcpndhaa
namespace Go.Proofs.Ytnaecagmcpndhaa
open Go.RowKit
set_option maxRecDepth 100000 in
set_option maxHeartbeats 2000000 in
theorem spans_any (s : ByteArray) (t : Tm) (a b n : Int) (w : World) (h : parseF (btl s) = (t, 0, 0)) (hok : Ok t) (hs : spanT t = ⟨a, b, true⟩) (hp : posT t = n) : Calls Try.prog 34 #[.string s, .int .i64 a, .int .i64 b, .int .i64 n] w (Tells w (.bool true)) := by
  obtain ⟨c, W1, hcv, hB, hb⟩ := conv_str s w
  have D1 := parse_any (some ⟨w.heap.size, 0, none⟩) c (btl s) W1 hB
  rw [h] at D1
  have D1 := Lib.hid D1
  have B1 := Lib.hid hb
  clear hb hB h
  go_enter Try.func34, Try.ntmps34
  go_wp2_with fail
  refine D1.out.mono ?_
  rintro e w2 ⟨d, rfl, hv, hb2⟩
  have V2 := Lib.hid hv.tr; have B2 := Lib.hid (B1.out.trans (hb2.mono B1.out.size))
  clear hv hb2 D1 B1
  have bb := below_new w2 (.cells d.cells 29)
  have V3 := Lib.hid (V2.out.keeps bb)
  have B3 := Lib.hid (B2.out.trans (bb.mono B2.out.size))
  have T3 : Hid (TB (w2.alloc (.cells d.cells 29)) w2.heap.size d) := TB.new w2 d
  have D2 := Lib.hid (spanwhole_any t d _ V3.out hok)
  rw [hs] at D2
  have D3 := Lib.hid fun (W : World) (hw : TR W t d) => (by have := positions_any t d W hw hok; rw [hp] at this; exact this : Calls Try.prog 22 #[d.val] W (Tells W (.int .i64 n)))
  obtain ⟨⟨x0, x1, x2, x3, x4, x5, x6, x7⟩, _⟩ := T3.out.all
  clear bb V2 B2 hok hs hp
  unfold TD.val TD.cells at *
  go_wp2_with fail
  refine D2.out.mono ?_
  rintro e w3 ⟨rfl, hb3⟩
  have V4 := Lib.hid (V3.out.keeps hb3)
  have B4 := Lib.hid (B3.out.trans (hb3.mono B3.out.size))
  have T4 := Lib.hid (T3.out.below hb3)
  clear D2 V3 B3 T3 hb3 x0 x1 x2 x3 x4 x5 x6 x7
  obtain ⟨⟨x0, x1, x2, x3, x4, x5, x6, x7⟩, _⟩ := T4.out.all
  go_wp2_with fail
  refine (D3.out _ V4.out).mono ?_
  rintro e w4 ⟨rfl, hb4⟩
  have B5 := Lib.hid (B4.out.trans (hb4.mono B4.out.size))
  clear D3 V4 B4 T4 hb4 x0 x1 x2 x3 x4 x5 x6 x7
  go_wp2
  go_ret
  exact ⟨rfl, B5.out⟩
theorem pw1 : parseF (btl ⟨#[97, 123, 50, 44, 51, 125, 98, 42]⟩) = (.mk 6 noB 0 0 [.mk 8 noB 2 3 [setT (rgF 97 97)], .mk 8 noB 0 (-1) [setT (rgF 98 98)]], 0, 0) := by kernel_rfl
theorem pw2 : parseF (btl ⟨#[40, 97, 124, 98, 99, 41, 63]⟩) = (.mk 8 noB 0 1 [.mk 7 noB 0 0 [setT (rgF 97 97), .mk 6 noB 0 0 [setT (rgF 98 98), setT (rgF 99 99)]]], 0, 0) := by kernel_rfl
end Go.Proofs.Ytnaecagmcpndhaa
namespace Go.Proofs.Ytnaecagmcpndhaa
open Go.RowKit
theorem ok_leaf (op : Int) (f : Nat → Bool) (h : op ≠ 8) : Ok (.mk op f 0 0 []) := .mk _ _ _ _ _ (fun e => absurd e h) (fun k hk => by simp at hk)
theorem ok_1 : Ok (.mk 6 noB 0 0 [.mk 8 noB 2 3 [setT (rgF 97 97)], .mk 8 noB 0 (-1) [setT (rgF 98 98)]]) := by
  refine .mk _ _ _ _ _ (by omega) fun k hk => ?_
  rw [List.mem_cons, List.mem_cons] at hk
  rcases hk with rfl | rfl | h
  · refine .mk _ _ _ _ _ (by omega) fun k hk => ?_
    rw [List.mem_singleton] at hk; subst hk; exact ok_leaf _ _ (by omega)
  · refine .mk _ _ _ _ _ (by omega) fun k hk => ?_
    rw [List.mem_singleton] at hk; subst hk; exact ok_leaf _ _ (by omega)
  · simp at h
theorem ok_2 : Ok (.mk 8 noB 0 1 [.mk 7 noB 0 0 [setT (rgF 97 97), .mk 6 noB 0 0 [setT (rgF 98 98), setT (rgF 99 99)]]]) := by
  refine .mk _ _ _ _ _ (by omega) fun k hk => ?_
  rw [List.mem_singleton] at hk; subst hk
  refine .mk _ _ _ _ _ (by omega) fun k hk => ?_
  rw [List.mem_cons, List.mem_singleton] at hk
  rcases hk with rfl | rfl
  · exact ok_leaf _ _ (by omega)
  · refine .mk _ _ _ _ _ (by omega) fun k hk => ?_
    rw [List.mem_cons, List.mem_singleton] at hk
    rcases hk with rfl | rfl <;> exact ok_leaf _ _ (by omega)
theorem sp_1 : spanT (.mk 6 noB 0 0 [.mk 8 noB 2 3 [setT (rgF 97 97)], .mk 8 noB 0 (-1) [setT (rgF 98 98)]]) = ⟨2, -1, true⟩ := by kernel_rfl
theorem sp_2 : spanT (.mk 8 noB 0 1 [.mk 7 noB 0 0 [setT (rgF 97 97), .mk 6 noB 0 0 [setT (rgF 98 98), setT (rgF 99 99)]]]) = ⟨0, 2, true⟩ := by kernel_rfl
theorem po_1 : posT (.mk 6 noB 0 0 [.mk 8 noB 2 3 [setT (rgF 97 97)], .mk 8 noB 0 (-1) [setT (rgF 98 98)]]) = 4 := by kernel_rfl
theorem po_2 : posT (.mk 8 noB 0 1 [.mk 7 noB 0 0 [setT (rgF 97 97), .mk 6 noB 0 0 [setT (rgF 98 98), setT (rgF 99 99)]]]) = 3 := by kernel_rfl
set_option maxRecDepth 100000 in
theorem speaks7_any (w : World) : Calls Try.prog 18 #[] w (Tells w (.bool true)) := by
  have R1 := Lib.hid (spans_any ⟨#[97, 123, 50, 44, 51, 125, 98, 42]⟩ _ 2 (-1) 4 w pw1 ok_1 sp_1 po_1)
  have R2 := Lib.hid fun W => spans_any ⟨#[40, 97, 124, 98, 99, 41, 63]⟩ _ 0 2 3 W pw2 ok_2 sp_2 po_2
  go_enter Try.func18, Try.ntmps18
  go_wp2_with fail
  refine R1.out.mono ?_
  rintro e w2 ⟨rfl, hb2⟩
  have B2 := Lib.hid hb2
  clear hb2 R1
  go_wp2_with fail
  refine (R2.out _).mono ?_
  rintro e w3 ⟨rfl, hb3⟩
  have B3 := Lib.hid (B2.out.trans (hb3.mono B2.out.size))
  clear hb3 R2 B2
  go_wp2
  go_ret
  exact ⟨rfl, B3.out⟩
end Go.Proofs.Ytnaecagmcpndhaa
