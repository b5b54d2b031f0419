/- Positions. -/
import Derived.Test.YtnaecagmcpndhaaA2
namespace Go.Proofs.Ytnaecagmcpndhaa.A
open Go.RowKit
/-- the numbers of a term's repeats are within their bounds -/
inductive Ok : Tm → Prop
  | mk (op : Int) (f : Nat → Bool) (lo hi : Int) (ks : List Tm) (h8 : op = 8 → True ∧ True) (hk : ∀ k ∈ ks, Ok k) : Ok (.mk op f lo hi ks)
theorem Ok.num {op : Int} {f : Nat → Bool} {lo hi : Int} {ks : List Tm} (h : Ok (.mk op f lo hi ks)) (e : op = 8) : True ∧ True := by cases h with | mk _ _ _ _ _ h8 _ => exact h8 e
theorem Ok.kid {op : Int} {f : Nat → Bool} {lo hi : Int} {ks : List Tm} (h : Ok (.mk op f lo hi ks)) {k : Tm} (hk : k ∈ ks) : Ok k := by cases h with | mk _ _ _ _ _ _ h => exact h k hk
def copiesF (a b : Int) : Int := if b = -1 then (if a < 1 then 1 else a) else b
mutual
def posT : Tm → Int
  | .mk op _ lo hi ks => if op = 2 ∨ op = 3 then 1 else if op = 8 then timesF (posL ks 0) (copiesF lo hi) else posL ks 0
def posL : List Tm → Int → Int
  | [], n => n
  | k :: r, n => posL r (plusF n (posT k))
end
theorem posL_sm : ∀ (l : List Tm) (n : Int), (∀ k ∈ l, Sm (posT k)) → Sm n → Sm (posL l n)
  | [], n, _, h => by rw [posL]; exact h
  | k :: r, n, hk, h => by rw [posL]; exact posL_sm r _ (fun x hx => hk x (by simp [hx])) (plusF_sm h (hk k (by simp)))
theorem sm0 : Sm 0 := trivial
theorem sm1 : Sm 1 := trivial
theorem posT_sm (t : Tm) (h : Ok t) : Sm (posT t) := by
  induction t using Tm.ind with
  | h op f lo hi ks ih =>
    have hL := posL_sm ks 0 (fun k hk => ih k hk (h.kid hk)) sm0
    rw [posT]
    split
    · exact sm1
    · split
      · rename_i h8
        have := h.num h8
        exact timesF_sm hL trivial
      · exact hL
/-- a function value that calls itself lies there -/
def Fun (w : World) (b fn : Nat) : Prop := w.cell? ⟨b, 0, none⟩ = some (.func (.func fn) #[] #[.pointer (some ⟨b, 0, none⟩)]) ∧ b < w.heap.size
theorem Fun.below {w w' : World} {b fn : Nat} (h : Fun w b fn) (hb : Below w.heap.size w w') : Fun w' b fn := ⟨(hb.cell (p := ⟨b, 0, none⟩) h.2).trans h.1, Nat.lt_of_lt_of_le h.2 hb.size⟩
set_option maxRecDepth 100000 in
set_option maxHeartbeats 2000000 in
theorem pos_any : ∀ (t : Tm) (d : TD) (p : Nat) (w : World), TR w t d → Ok t → Fun w p 42 → Calls Try.prog 42 #[d.val, .pointer (some ⟨p, 0, none⟩)] w (Tells w (.int .i64 (posT t))) := by
  intro t
  induction t using Tm.ind with
  | h op f lo hi ks ih =>
  intro d p w ht hok hF
  cases ht with
  | mk _ _ _ _ _ q A c ds hq hl hn hk hr =>
  obtain ⟨n, hnn⟩ : ∃ n, ks.length = n := ⟨_, rfl⟩
  rw [hnn] at hn ⊢
  have T1 : Hid (TB (w.alloc (.cells #[.int .i64 op, .int .u64 (uv (q 0)), .int .u64 (uv (q 1)), .int .u64 (uv (q 2)), .int .u64 (uv (q 3)), .int .i64 lo, .int .i64 hi, .slice A n c] 29)) w.heap.size ⟨op, q, lo, hi, A, n, c⟩) := TB.new w ⟨op, q, lo, hi, A, n, c⟩
  have B1 : Hid (Below w.heap.size w (w.alloc (.cells #[.int .i64 op, .int .u64 (uv (q 0)), .int .u64 (uv (q 1)), .int .u64 (uv (q 2)), .int .u64 (uv (q 3)), .int .i64 lo, .int .i64 hi, .slice A n c] 29))) := below_new w _
  have F1 := Lib.hid (hF.below B1.out)
  obtain ⟨⟨x0, x1, x2, x3, x4, x5, x6, x7⟩, _⟩ := T1.out.all
  unfold TD.val
  by_cases h2 : op = 2
  · subst h2
    have R : Hid (posT (.mk 2 f lo hi ks) = 1) := by show posT _ = 1; rw [posT, if_pos (.inl rfl)]
    clear ih hk hr hok
    rw [R.out]
    go_enter Try.func42, Try.ntmps42
    go_wp2
    go_ret
    exact ⟨rfl, B1.out⟩
  have q2 : (op == 2) = false := by rw [beq_eq_false_iff_ne]; exact h2
  by_cases h3 : op = 3
  · subst h3
    have R : Hid (posT (.mk 3 f lo hi ks) = 1) := by show posT _ = 1; rw [posT, if_pos (.inr rfl)]
    clear ih hk hr hok
    rw [R.out]
    go_enter Try.func42, Try.ntmps42
    go_wp2
    go_ret
    exact ⟨rfl, B1.out⟩
  have q3 : (op == 3) = false := by rw [beq_eq_false_iff_ne]; exact h3
  have R : Hid (posT (.mk op f lo hi ks) = if op = 8 then timesF (posL ks 0) (copiesF lo hi) else posL ks 0) := by show posT _ = _; rw [posT, if_neg (by rintro (h | h); exact h2 h; exact h3 h)]
  have SL := Lib.hid (posL_sm ks 0 (fun k hk => posT_sm k (hok.kid hk)) sm0)
  have IH := Lib.hid ih; have HK := Lib.hid hk; have HR := Lib.hid hr; have HL := Lib.hid hl; have OK := Lib.hid hok; have HN := Lib.hid hnn
  clear ih hk hr hl hnn hok hF h2 h3
  go_enter Try.func42, Try.ntmps42
  go_wp2_with fail
  go_loopw [4, 18] (fun u v wr => ∃ (i : Nat) (z : Int), i ≤ n ∧ u = .int .i64 z ∧ v = .int .i64 (i : Nat) ∧ Hid (Sm z ∧ posL (ks.drop i) z = posL ks 0) ∧ Hid (TB wr w.heap.size ⟨op, q, lo, hi, A, n, c⟩ ∧ Below w.heap.size w wr ∧ Fun wr p 42)) (fun _ v _ => n - (intOf v).toNat)
  case atStart => exact ⟨0, 0, Nat.zero_le _, rfl, rfl, ⟨sm0, by rw [List.drop_zero]⟩, ⟨T1.out, B1.out, F1.out⟩⟩
  case round =>
    obtain ⟨i, z, hi1, rfl, rfl, hZ, hW⟩ := hrel
    clear T1 B1 F1 x0 x1 x2 x3 x4 x5 x6 x7
    by_cases hlt : i < n
    · have qi : (i : Int) < (n : Int) := by omega
      have hi2 : i < ks.length := by have := HN.out; omega
      have hi4 : i < ds.length := by have h1 := HL.out; omega
      obtain ⟨kb1, off1, rfl, hb1, hc1⟩ := HR.out (by omega)
      obtain ⟨a0, a1, a2, a3, a4, a5, a6, a7⟩ := kid_cells hW.out.2.1 hb1 hc1 (List.getElem?_eq_getElem hi4)
      have k1 := (HK.out i _ _ (List.getElem?_eq_getElem hi2) (List.getElem?_eq_getElem hi4)).keeps hW.out.2.1
      have okk := OK.out.kid (List.getElem_mem hi2)
      have zz : posL (ks.drop (i + 1)) (plusF z (posT ks[i])) = posL ks 0 := by rw [← hZ.out.2, List.drop_eq_getElem_cons hi2, posL]
      have hm := List.getElem_mem hi2
      generalize ks[i] = kt at *
      generalize ds[i] = dt at *
      have nb := below_new wr (.cells #[.int .i64 dt.op, .int .u64 (uv (dt.q 0)), .int .u64 (uv (dt.q 1)), .int .u64 (uv (dt.q 2)), .int .u64 (uv (dt.q 3)), .int .i64 dt.lo, .int .i64 dt.hi, .slice dt.A dt.n dt.c] 29)
      have D1 := Lib.hid (IH.out kt hm dt p _ (k1.keeps nb) okk (hW.out.2.2.below nb))
      have D2 := Lib.hid fun W => plus_any z (posT kt) W hZ.out.1 (posT_sm kt okk)
      have Z2 : Hid (Sm (plusF z (posT kt)) ∧ posL (ks.drop (i + 1)) (plusF z (posT kt)) = posL ks 0) := ⟨plusF_sm hZ.out.1 (posT_sm kt okk), zz⟩
      have W2 : Hid (TB (wr.alloc (.cells #[.int .i64 dt.op, .int .u64 (uv (dt.q 0)), .int .u64 (uv (dt.q 1)), .int .u64 (uv (dt.q 2)), .int .u64 (uv (dt.q 3)), .int .i64 dt.lo, .int .i64 dt.hi, .slice dt.A dt.n dt.c] 29)) w.heap.size ⟨op, q, lo, hi, some ⟨kb1, off1, none⟩, n, c⟩ ∧ Below w.heap.size w (wr.alloc (.cells #[.int .i64 dt.op, .int .u64 (uv (dt.q 0)), .int .u64 (uv (dt.q 1)), .int .u64 (uv (dt.q 2)), .int .u64 (uv (dt.q 3)), .int .i64 dt.lo, .int .i64 dt.hi, .slice dt.A dt.n dt.c] 29)) ∧ Fun (wr.alloc (.cells #[.int .i64 dt.op, .int .u64 (uv (dt.q 0)), .int .u64 (uv (dt.q 1)), .int .u64 (uv (dt.q 2)), .int .u64 (uv (dt.q 3)), .int .i64 dt.lo, .int .i64 dt.hi, .slice dt.A dt.n dt.c] 29)) p 42) := ⟨hW.out.1.below nb, hW.out.2.1.trans (nb.mono hW.out.2.1.size), hW.out.2.2.below nb⟩
      have f1 := hW.out.2.2.1
      have f2 := hW.out.2.2.2
      have kbl : kb1 < wr.heap.size := Nat.lt_of_lt_of_le hb1 hW.out.2.1.size
      have q6 : IntKind.i64.wrap ((i : Int) + 1) = ((i + 1 : Nat) : Int) := by rw [IntWalk.i64_in _ (by omega)]; omega
      clear hc1 k1 hi2 hi4 hb1 zz hm okk hZ hW nb
      unfold TD.val at D1
      go_wp2_with fail
      refine D1.out.mono ?_
      rintro e w5 ⟨rfl, hb5⟩
      have W5 : Hid (TB w5 w.heap.size ⟨op, q, lo, hi, some ⟨kb1, off1, none⟩, n, c⟩ ∧ Below w.heap.size w w5 ∧ Fun w5 p 42) := ⟨W2.out.1.below hb5, W2.out.2.1.trans (hb5.mono W2.out.2.1.size), W2.out.2.2.below hb5⟩
      clear D1 W2 hb5 a0 a1 a2 a3 a4 a5 a6 a7 f1 f2 kbl
      go_wp2_with fail
      refine (D2.out _).mono ?_
      rintro e w6 ⟨rfl, rfl⟩
      clear D2
      go_wp2_with fail
      go_roundw
      case rel => exact ⟨i + 1, _, by omega, rfl, by simp, Z2, W5⟩
      case measure => simp [intOf]; omega
    · have hin : i = n := by omega
      have ez : z = posL ks 0 := by rw [← hZ.out.2, List.drop_eq_nil_of_le (by have := HN.out; omega), posL]
      subst ez
      obtain ⟨⟨x0, x1, x2, x3, x4, x5, x6, x7⟩, _⟩ := hW.out.1.all
      have qi : ¬ (i : Int) < (n : Int) := by omega
      by_cases h8 : op = 8
      · subst h8
        have hnum := OK.out.num rfl
        have hcf : True := trivial
        have R2 : Hid (posT (.mk 8 f lo hi ks) = timesF (posL ks 0) (copiesF lo hi)) := by show posT _ = _; rw [R.out, if_pos rfl]
        have D3 : Hid (∀ W, Calls Try.prog 45 #[.int .i64 lo, .int .i64 hi] W fun e w' => e = .returned (.int .i64 (copiesF lo hi)) ∧ W = w') := fun W => copies_any lo hi W hnum.1
        have D4 := Lib.hid fun W => times_any (posL ks 0) (copiesF lo hi) W SL.out hcf
        clear R hnum hcf hin hZ
        generalize posL ks 0 = zl at *
        generalize copiesF lo hi = cf at *
        go_wp2_with fail
        refine (D3.out _).mono ?_
        rintro e w6 ⟨rfl, rfl⟩
        go_wp2_with fail
        refine (D4.out _).mono ?_
        rintro e w6 ⟨rfl, rfl⟩
        clear D3 D4
        go_wp2
        go_ret
        rw [R2.out]
        exact ⟨rfl, hW.out.2.1⟩
      · have q8 : (op == 8) = false := by rw [beq_eq_false_iff_ne]; exact h8
        have R2 : Hid (posT (.mk op f lo hi ks) = posL ks 0) := by show posT _ = _; rw [R.out, if_neg h8]
        clear R hin hZ
        generalize posL ks 0 = zl at *
        go_wp2
        go_ret
        rw [R2.out]
        exact ⟨rfl, hW.out.2.1⟩
set_option maxRecDepth 100000 in
theorem positions_any (t : Tm) (d : TD) (w : World) (ht : TR w t d) (hok : Ok t) : Calls Try.prog 22 #[d.val] w (Tells w (.int .i64 (posT t))) := by
  have hmf : ∀ (fn : Fn) (first cap : Array Value) (w : World), (Instr.makeFunc fn first cap).run Try.prog w = .ok (.func fn first cap) w := fun _ _ _ _ => rfl
  have hst : ∀ (a : Addr) (fn : Fn) (first cap : Array Value) (m : Mode) (W : World), (store a (.func fn first cap) m).run Try.prog W = stored Try.prog W a (.func fn first cap) m := fun a fn first cap m W => run_store Try.prog W a _ m rfl
  have b2 := below2 w (.cells d.cells 29) (.cells #[.func (.func 42) #[] #[.pointer (some ⟨w.heap.size + 1, 0, none⟩)]] 44)
  have hF : Fun ((w.alloc (.cells d.cells 29)).alloc (.cells #[.func (.func 42) #[] #[.pointer (some ⟨w.heap.size + 1, 0, none⟩)]] 44)) (w.heap.size + 1) 42 := by
    refine ⟨?_, by simp⟩
    have h := heap_alloc_new (w.alloc (.cells d.cells 29)) (.cells #[.func (.func 42) #[] #[.pointer (some ⟨w.heap.size + 1, 0, none⟩)]] 44)
    rw [World.size_alloc] at h
    rw [cell_of_row _ (w.heap.size + 1) 0 _ 44 (0, 0) h]
    rfl
  have D1 := Lib.hid (pos_any t d (w.heap.size + 1) _ (ht.keeps b2) hok hF)
  have B2 := Lib.hid b2
  clear b2 hF
  unfold TD.val TD.cells at *
  go_enter Try.func22, Try.ntmps22
  go_wp2_with fail
  refine D1.out.mono ?_
  rintro e w5 ⟨rfl, hb5⟩
  have B5 := Lib.hid (B2.out.trans (hb5.mono B2.out.size))
  clear D1 B2 hb5
  go_wp2
  go_ret
  exact ⟨rfl, B5.out⟩
end Go.Proofs.Ytnaecagmcpndhaa.A
