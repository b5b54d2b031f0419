/- Terms that are only read; whether two are the same. -/
import Derived.Test.YtkljagffccommaaT9
import Derived.StillTailTactics
namespace Go.Proofs.Ytkljagffccommaa
open Go.RowKit

theorem Tm.ind {P : Tm → Prop} (h : ∀ op f lo hi ks, (∀ k ∈ ks, P k) → P (.mk op f lo hi ks)) : ∀ t, P t
  | .mk op f lo hi ks => h op f lo hi ks fun k _ => Tm.ind h k
/-- a row of terms lies there -/
def RowAt (w : World) (A : Option Addr) (ds : List TD) : Prop := 0 < ds.length → ∃ b off, A = some ⟨b, off, none⟩ ∧ b < w.heap.size ∧ ∀ (i : Nat) (d : TD), ds[i]? = some d → ∀ j, j < 8 → w.cell? ⟨b, off + i * 8 + j, none⟩ = d.cells[j]?
theorem RowAt.below {w w' : World} {A : Option Addr} {ds : List TD} (h : RowAt w A ds) (hb : Below w.heap.size w w') : RowAt w' A ds := fun h0 => by
  obtain ⟨b, off, e, hlt, hc⟩ := h h0
  refine ⟨b, off, e, Nat.lt_of_lt_of_le hlt hb.size, fun i d hd j hj => ?_⟩
  rw [World.cell?_of_block (a := ⟨b, off + i * 8 + j, none⟩) (hb.block b hlt)]
  exact hc i d hd j hj
/-- cells tell a term, wherever they lie -/
inductive TR (w : World) : Tm → TD → Prop
  | mk (op : Int) (f : Nat → Bool) (lo hi : Int) (kids : List Tm) (q : Nat → BitVec 64) (A : Option Addr) (c : Nat) (ds : List TD)
      (hq : IsK f q) (hl : ds.length = kids.length) (hn : kids.length ≤ 9223372036854775807) (hk : ∀ (i : Nat) (t : Tm) (d : TD), kids[i]? = some t → ds[i]? = some d → TR w t d)
      (hr : RowAt w A ds) : TR w (.mk op f lo hi kids) ⟨op, q, lo, hi, A, kids.length, c⟩
theorem TR.keeps {w w' : World} {t : Tm} {d : TD} (h : TR w t d) (hb : Below w.heap.size w w') : TR w' t d := by
  induction h with
  | mk op f lo hi kids q A c ds hq hl hn hk hr ih => exact .mk op f lo hi kids q A c ds hq hl hn ih (hr.below hb)
theorem TV.tr {w : World} {S : Nat → Prop} {t : Tm} {d : TD} (h : TV w S t d) : TR w t d := by
  induction h with
  | mk op f lo hi kids q A c ds hq hl hn hk hr ih =>
    refine .mk op f lo hi kids q A c ds hq hl (by omega) ih fun h0 => ?_
    obtain ⟨b, e, _, hrow⟩ := hr (by omega)
    refine ⟨b, 0, e, ?_, fun i d hd j hj => ?_⟩
    · obtain ⟨cur, h1, _⟩ := hrow
      rcases Nat.lt_or_ge b w.heap.size with h | h
      · exact h
      · rw [Array.getElem?_eq_none h] at h1; cases h1
    · rw [Nat.zero_add]; exact hrow.cell hd j hj
def eqK (f g : Nat → Bool) : Bool := (List.range 256).all fun i => f i == g i
theorem eqK_iff (f g : Nat → Bool) : eqK f g = true ↔ ∀ i, i < 256 → f i = g i := by
  unfold eqK
  rw [List.all_eq_true]
  constructor
  · intro h i hi
    have := h i (List.mem_range.2 hi)
    simpa using this
  · intro h i hi
    simp [h i (List.mem_range.1 hi)]
theorem eqk_is {f g : Nat → Bool} {q r : Nat → BitVec 64} (hf : IsK f q) (hg : IsK g r) (w : World) : (Op.equalIn 10000 26 (.agg #[.int .u64 (uv (q 0)), .int .u64 (uv (q 1)), .int .u64 (uv (q 2)), .int .u64 (uv (q 3))]) (.agg #[.int .u64 (uv (r 0)), .int .u64 (uv (r 1)), .int .u64 (uv (r 2)), .int .u64 (uv (r 3))])).run Try.prog w = .ok (eqK f g) w := by
  cases h : eqK f g with
  | true =>
    rw [eqK_iff] at h
    exact eqk_true q r (fun i hi => by rw [hf i hi, hg i hi, h i hi]) w
  | false =>
    have : ¬ ∀ i, i < 256 → f i = g i := fun h' => by rw [(eqK_iff f g).2 h'] at h; cases h
    have h2 : ∃ i, i < 256 ∧ f i ≠ g i := Classical.byContradiction fun hn => this fun i hi => Classical.byContradiction fun he => hn ⟨i, hi, he⟩
    obtain ⟨i, hi, hne⟩ := h2
    exact eqk_false q r i hi (by rw [hf i hi, hg i hi]; exact hne) w
mutual
def sameT : Tm → Tm → Bool
  | .mk op f lo hi ks, .mk op' f' lo' hi' ks' => decide (op = op') && (eqK f f' && (decide (lo = lo') && (decide (hi = hi') && sameL ks ks')))
def sameL : List Tm → List Tm → Bool
  | [], [] => true
  | t :: ts, u :: us => sameT t u && sameL ts us
  | _, _ => false
end
theorem sameL_len : ∀ (a b : List Tm), a.length ≠ b.length → sameL a b = false
  | [], [], h => absurd rfl h
  | [], _ :: _, _ => by simp [sameL]
  | _ :: _, [], _ => by simp [sameL]
  | t :: a, u :: b, h => by rw [sameL, sameL_len a b (by simp at h; omega), Bool.and_false]
/-- a call that only makes memory -/
def Tells (w : World) (v : Value) (e : Ending) (w' : World) : Prop := e = .returned v ∧ Below w.heap.size w w'

theorem kid_cells {w W : World} {b off i : Nat} {ds : List TD} {d : TD} (hb : Below w.heap.size w W) (hlt : b < w.heap.size) (hc : ∀ (i : Nat) (d : TD), ds[i]? = some d → ∀ j, j < 8 → w.cell? ⟨b, off + i * 8 + j, none⟩ = d.cells[j]?) (hd : ds[i]? = some d) :
    W.cell? ⟨b, off + i * 8, none⟩ = some (.int .i64 d.op) ∧ W.cell? ⟨b, off + i * 8 + 1, none⟩ = some (.int .u64 (uv (d.q 0))) ∧ W.cell? ⟨b, off + i * 8 + 2, none⟩ = some (.int .u64 (uv (d.q 1))) ∧ W.cell? ⟨b, off + i * 8 + 3, none⟩ = some (.int .u64 (uv (d.q 2))) ∧ W.cell? ⟨b, off + i * 8 + 4, none⟩ = some (.int .u64 (uv (d.q 3))) ∧ W.cell? ⟨b, off + i * 8 + 5, none⟩ = some (.int .i64 d.lo) ∧ W.cell? ⟨b, off + i * 8 + 6, none⟩ = some (.int .i64 d.hi) ∧ W.cell? ⟨b, off + i * 8 + 7, none⟩ = some (.slice d.A d.n d.c) := by
  have h := fun j hj => (World.cell?_of_block (a := ⟨b, off + i * 8 + j, none⟩) (hb.block b hlt)).trans (hc i d hd j hj)
  exact ⟨h 0 (by omega), h 1 (by omega), h 2 (by omega), h 3 (by omega), h 4 (by omega), h 5 (by omega), h 6 (by omega), h 7 (by omega)⟩
set_option maxRecDepth 100000 in
set_option maxHeartbeats 4000000 in
theorem same_any : ∀ (t u : Tm) (d e : TD) (w : World), TR w t d → TR w u e → Calls Try.prog 13 #[d.val, e.val] w (Tells w (.bool (sameT t u))) := by
  intro t
  induction t using Tm.ind with
  | h op f lo hi ks ih =>
  intro u d e w ht hu
  cases ht with
  | mk _ _ _ _ _ q A c ds hq hl hn hk hr =>
  cases hu with
  | mk op' f' lo' hi' ks' q' A' c' ds' hq' hl' hn' hk' hr' =>
  have T1 : Hid (TB ((w.alloc (.cells #[.int .i64 op, .int .u64 (uv (q 0)), .int .u64 (uv (q 1)), .int .u64 (uv (q 2)), .int .u64 (uv (q 3)), .int .i64 lo, .int .i64 hi, .slice A ks.length c] 29)).alloc (.cells #[.int .i64 op', .int .u64 (uv (q' 0)), .int .u64 (uv (q' 1)), .int .u64 (uv (q' 2)), .int .u64 (uv (q' 3)), .int .i64 lo', .int .i64 hi', .slice A' ks'.length c'] 29)) w.heap.size ⟨op, q, lo, hi, A, ks.length, c⟩) := (TB.new w ⟨op, q, lo, hi, A, ks.length, c⟩).alloc _
  have T2 : Hid (TB ((w.alloc (.cells #[.int .i64 op, .int .u64 (uv (q 0)), .int .u64 (uv (q 1)), .int .u64 (uv (q 2)), .int .u64 (uv (q 3)), .int .i64 lo, .int .i64 hi, .slice A ks.length c] 29)).alloc (.cells #[.int .i64 op', .int .u64 (uv (q' 0)), .int .u64 (uv (q' 1)), .int .u64 (uv (q' 2)), .int .u64 (uv (q' 3)), .int .i64 lo', .int .i64 hi', .slice A' ks'.length c'] 29)) (w.heap.size + 1) ⟨op', q', lo', hi', A', ks'.length, c'⟩) := by
    have := TB.new (w.alloc (.cells #[.int .i64 op, .int .u64 (uv (q 0)), .int .u64 (uv (q 1)), .int .u64 (uv (q 2)), .int .u64 (uv (q 3)), .int .i64 lo, .int .i64 hi, .slice A ks.length c] 29)) ⟨op', q', lo', hi', A', ks'.length, c'⟩
    rw [World.size_alloc] at this
    exact this
  have B1 : Hid (Below w.heap.size w ((w.alloc (.cells #[.int .i64 op, .int .u64 (uv (q 0)), .int .u64 (uv (q 1)), .int .u64 (uv (q 2)), .int .u64 (uv (q 3)), .int .i64 lo, .int .i64 hi, .slice A ks.length c] 29)).alloc (.cells #[.int .i64 op', .int .u64 (uv (q' 0)), .int .u64 (uv (q' 1)), .int .u64 (uv (q' 2)), .int .u64 (uv (q' 3)), .int .i64 lo', .int .i64 hi', .slice A' ks'.length c'] 29))) := ((Below.refl _ _).alloc (Nat.le_refl _) _).alloc (by simp) _
  obtain ⟨⟨x0, x1, x2, x3, x4, x5, x6, x7⟩, _⟩ := T1.out.all
  obtain ⟨⟨z0, z1, z2, z3, z4, z5, z6, z7⟩, _⟩ := T2.out.all
  have hE := eqk_is hq hq'
  have OUT : Hid (∀ W', Below w.heap.size w W' → sameT (.mk op f lo hi ks) (.mk op' f' lo' hi' ks') = false → Tells w (.bool (sameT (.mk op f lo hi ks) (.mk op' f' lo' hi' ks'))) (.returned (.bool false)) W') := fun W' hW hs => by rw [hs]; exact ⟨rfl, hW⟩
  unfold TD.val
  by_cases h1 : op = op'
  · subst h1
    cases h2 : eqK f f' with
    | false =>
      have S0 : Hid (sameT (.mk op f lo hi ks) (.mk op f' lo' hi' ks') = false) := by show sameT (.mk op f lo hi ks) (.mk op f' lo' hi' ks') = false; simp [sameT, h2]
      rw [h2] at hE
      clear ih hk hk' hr hr'
      go_enter Try.func13, Try.ntmps13
      go_wp2
      go_ret
      exact OUT.out _ B1.out S0.out
    | true =>
    rw [h2] at hE
    by_cases h3 : lo = lo'
    · subst h3
      by_cases h4 : hi = hi'
      · subst h4
        by_cases h5 : ks.length = ks'.length
        · have hds : ds.length = ds'.length := by omega
          have IH := Lib.hid ih; have HK := Lib.hid hk; have HK' := Lib.hid hk'; have HR := Lib.hid hr; have HR' := Lib.hid hr'
          have HL := Lib.hid hl; have HL' := Lib.hid hl'; have H5 := Lib.hid h5; have H2 := Lib.hid h2
          have e5 : (ks'.length : Int) = (ks.length : Int) := by omega
          obtain ⟨n, hnn⟩ : ∃ n, ks.length = n := ⟨_, rfl⟩
          have hnn' : ks'.length = n := by omega
          rw [hnn, hnn'] at T1 T2 B1 x0 x1 x2 x3 x4 x5 x6 x7 z0 z1 z2 z3 z4 z5 z6 z7
          clear ih hk hk' hr hr' hl hl' h5 hds e5
          go_enter Try.func13, Try.ntmps13
          go_wp2_with fail
          go_loopw [5] (fun v wr => ∃ i : Nat, i ≤ n ∧ v = .int .i64 (i : Nat) ∧ Hid (sameL (ks.drop i) (ks'.drop i) = sameL ks ks') ∧ Hid (TB wr w.heap.size ⟨op, q, lo, hi, A, n, c⟩ ∧ TB wr (w.heap.size + 1) ⟨op, q', lo, hi, A', n, c'⟩ ∧ Below w.heap.size w wr)) (fun v _ => n - (intOf v).toNat)
          case atStart => exact ⟨0, Nat.zero_le _, rfl, by show sameL (ks.drop 0) (ks'.drop 0) = _; rw [List.drop_zero, List.drop_zero], ⟨T1.out, T2.out, B1.out⟩⟩
          case round =>
            obtain ⟨i, hi1, rfl, hS, hW⟩ := hrel
            obtain ⟨t1, t2, b1⟩ := hW.out
            obtain ⟨⟨x0, x1, x2, x3, x4, x5, x6, x7⟩, _⟩ := t1.all
            obtain ⟨⟨z0, z1, z2, z3, z4, z5, z6, z7⟩, _⟩ := t2.all
            clear T1 T2 B1
            by_cases hlt : i < n
            · have qi : (i : Int) < (n : Int) := by omega
              have hi2 : i < ks.length := by omega
              have hi3 : i < ks'.length := by omega
              have hi4 : i < ds.length := by have := HL.out; omega
              have hi5 : i < ds'.length := by have := HL'.out; omega
              obtain ⟨kb1, off1, rfl, hb1, hc1⟩ := HR.out (by omega)
              obtain ⟨kb2, off2, rfl, hb2, hc2⟩ := HR'.out (by omega)
              have g1 := kid_cells b1 hb1 hc1 (List.getElem?_eq_getElem hi4)
              have g2 := kid_cells b1 hb2 hc2 (List.getElem?_eq_getElem hi5)
              obtain ⟨a0, a1, a2, a3, a4, a5, a6, a7⟩ := g1
              obtain ⟨e0, e1, e2, e3, e4, e5, e6, e7⟩ := g2
              have k1 := (HK.out i _ _ (List.getElem?_eq_getElem hi2) (List.getElem?_eq_getElem hi4)).keeps b1
              have k2 := (HK'.out i _ _ (List.getElem?_eq_getElem hi3) (List.getElem?_eq_getElem hi5)).keeps b1
              have hm := List.getElem_mem hi2
              have hS2 : sameL ks ks' = (sameT ks[i] ks'[i] && sameL (ks.drop (i + 1)) (ks'.drop (i + 1))) := by rw [← hS.out, List.drop_eq_getElem_cons hi2, List.drop_eq_getElem_cons hi3, sameL]
              have HS2 := Lib.hid hS2
              have K1 := Lib.hid k1; have K2 := Lib.hid k2
              generalize ks[i] = kt at *
              generalize ks'[i] = ku at *
              generalize ds[i] = dt at *
              generalize ds'[i] = du at *
              have D1 := Lib.hid fun (W : World) (h1 : TR W kt dt) (h2 : TR W ku du) => IH.out kt hm ku dt du W h1 h2
              clear hc1 hc2 hS2 hS k1 k2 hm t1 t2 b1 hi2 hi3 hi4 hi5 hb1 hb2
              go_wp2_with fail
              go_still_tail 10, (by kernel_rfl)
              change wpList _ _ _ _ _ wr.drew
              have hwd : Below wr.heap.size wr wr.drew := (Below.refl _ _).drew
              have K1d := Lib.hid (K1.out.keeps hwd); have K2d := Lib.hid (K2.out.keeps hwd)
              have W2 : Hid (TB wr.drew w.heap.size ⟨op, q, lo, hi, some ⟨kb1, off1, none⟩, n, c⟩ ∧ TB wr.drew (w.heap.size + 1) ⟨op, q', lo, hi, some ⟨kb2, off2, none⟩, n, c'⟩ ∧ Below w.heap.size w wr.drew) := ⟨hW.out.1, hW.out.2.1, hW.out.2.2.drew⟩
              clear K1 K2 hW x0 x1 x2 x3 x4 x5 x6 x7 z0 z1 z2 z3 z4 z5 z6 z7 a0 a1 a2 a3 a4 a5 a6 a7 e0 e1 e2 e3 e4 e5 e6 e7 hwd
              generalize wr.drew = wd at *
              have D2 := Lib.hid (D1.out wd K1d.out K2d.out)
              clear D1 K1d K2d
              unfold TD.val at D2
              go_wp2_with fail
              refine D2.out.mono ?_
              rintro e w5 ⟨rfl, hb5⟩
              have W5 : Hid (TB w5 w.heap.size ⟨op, q, lo, hi, some ⟨kb1, off1, none⟩, n, c⟩ ∧ TB w5 (w.heap.size + 1) ⟨op, q', lo, hi, some ⟨kb2, off2, none⟩, n, c'⟩ ∧ Below w.heap.size w w5) := ⟨W2.out.1.below hb5, W2.out.2.1.below hb5, W2.out.2.2.trans (hb5.mono W2.out.2.2.size)⟩
              clear D2 W2 hb5
              cases h6 : sameT kt ku with
              | false =>
                have S0 : Hid (sameT (.mk op f lo hi ks) (.mk op f' lo hi ks') = false) := by show sameT (.mk op f lo hi ks) (.mk op f' lo hi ks') = false; simp [sameT, HS2.out, h6]
                clear h6
                go_wp2
                go_ret
                exact OUT.out _ W5.out.2.2 S0.out
              | true =>
                have S1 : Hid (sameL (ks.drop (i + 1)) (ks'.drop (i + 1)) = sameL ks ks') := by show sameL (ks.drop (i + 1)) (ks'.drop (i + 1)) = sameL ks ks'; rw [HS2.out, h6, Bool.true_and]
                have q6 : IntKind.i64.wrap ((i : Int) + 1) = ((i + 1 : Nat) : Int) := by rw [IntWalk.i64_in _ (by omega)]; omega
                clear h6
                go_wp2_with fail
                go_roundw
                case rel => exact ⟨i + 1, by omega, by simp, S1, W5⟩
                case measure => simp [intOf]; omega
            · have hin : i = n := by omega
              subst hin
              have S0 : Hid (sameT (.mk op f lo hi ks) (.mk op f' lo hi ks') = true) := by
                show sameT (.mk op f lo hi ks) (.mk op f' lo hi ks') = true
                have e1 : sameL ks ks' = true := by rw [← hS.out, List.drop_eq_nil_of_le (by omega), List.drop_eq_nil_of_le (by omega)]; simp [sameL]
                simp [sameT, H2.out, e1]
              clear hS hlt
              go_wp2
              go_ret
              rw [S0.out]
              exact ⟨rfl, hW.out.2.2⟩
        · have n1 : ((ks.length : Int) == (ks'.length : Int)) = false := by rw [beq_eq_false_iff_ne]; omega
          have S0 : Hid (sameT (.mk op f lo hi ks) (.mk op f' lo hi ks') = false) := by show sameT (.mk op f lo hi ks) (.mk op f' lo hi ks') = false; simp [sameT, sameL_len ks ks' h5]
          clear ih hk hk' hr hr'
          go_enter Try.func13, Try.ntmps13
          go_wp2
          go_ret
          exact OUT.out _ B1.out S0.out
      · have n1 : (hi == hi') = false := by rw [beq_eq_false_iff_ne]; exact h4
        have S0 : Hid (sameT (.mk op f lo hi ks) (.mk op f' lo hi' ks') = false) := by show sameT (.mk op f lo hi ks) (.mk op f' lo hi' ks') = false; simp [sameT, h4]
        clear ih hk hk' hr hr'
        go_enter Try.func13, Try.ntmps13
        go_wp2
        go_ret
        exact OUT.out _ B1.out S0.out
    · have n1 : (lo == lo') = false := by rw [beq_eq_false_iff_ne]; exact h3
      have S0 : Hid (sameT (.mk op f lo hi ks) (.mk op f' lo' hi' ks') = false) := by show sameT (.mk op f lo hi ks) (.mk op f' lo' hi' ks') = false; simp [sameT, h3]
      clear ih hk hk' hr hr'
      go_enter Try.func13, Try.ntmps13
      go_wp2
      go_ret
      exact OUT.out _ B1.out S0.out
  · have n1 : (op == op') = false := by rw [beq_eq_false_iff_ne]; exact h1
    have S0 : Hid (sameT (.mk op f lo hi ks) (.mk op' f' lo' hi' ks') = false) := by show sameT (.mk op f lo hi ks) (.mk op' f' lo' hi' ks') = false; simp [sameT, h1]
    clear ih hk hk' hr hr'
    go_enter Try.func13, Try.ntmps13
    go_wp2
    go_ret
    exact OUT.out _ B1.out S0.out
end Go.Proofs.Ytkljagffccommaa
