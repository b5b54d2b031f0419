/- How great a term is: some number. -/
import Derived.Test.YtegehcdjnnajcaaDoorU1
namespace Go.Proofs.YtegehcdjnnajcaaDoor
open Go.RowKit
set_option maxRecDepth 100000 in
set_option maxHeartbeats 2000000 in
theorem size_any : ∀ (t : Tm) (d : TD) (dp : Nat) (w : World), TR w t d → dp ≤ 61 → Calls Tryd.prog 18 #[d.val, .int .i64 (dp : Nat)] w (fun e w' => ∃ n : Nat, e = .returned (.int .i64 (n : Nat)) ∧ n ≤ 1000000 + 500 * (61 - dp) ∧ Below w.heap.size w w') := by
  intro t
  induction t using Tm.ind with
  | h op f lo hi ks ih =>
  intro d dp w ht hdp
  cases ht with
  | mk _ _ _ _ _ q A c ds hq hl hn hk hr =>
  have T1 : Hid (TB (w.alloc (.cells #[.int .i64 op, .int .u64 (uv (q 0)), .int .u64 (uv (q 1)), .int .u64 (uv (q 2)), .int .u64 (uv (q 3)), .int .i64 lo, .int .i64 hi, .slice A ks.length c] 27)) w.heap.size ⟨op, q, lo, hi, A, ks.length, c⟩) := TB.new w ⟨op, q, lo, hi, A, ks.length, c⟩
  have B1 : Hid (Below w.heap.size w (w.alloc (.cells #[.int .i64 op, .int .u64 (uv (q 0)), .int .u64 (uv (q 1)), .int .u64 (uv (q 2)), .int .u64 (uv (q 3)), .int .i64 lo, .int .i64 hi, .slice A ks.length c] 27))) := below_new w _
  obtain ⟨⟨x0, x1, x2, x3, x4, x5, x6, x7⟩, _⟩ := T1.out.all
  unfold TD.val
  by_cases h60 : 60 < dp
  · have q1 : (60 : Int) < (dp : Int) := by omega
    clear ih hk hr
    go_enter Tryd.func18, Tryd.ntmps18
    go_wp2
    go_ret
    exact ⟨1000000, rfl, by omega, B1.out⟩
  have q1 : ¬ (60 : Int) < (dp : Int) := by omega
  have IH := Lib.hid ih; have HK := Lib.hid hk; have HR := Lib.hid hr; have HL := Lib.hid hl
  obtain ⟨n, hnn⟩ : ∃ n, ks.length = n := ⟨_, rfl⟩
  rw [hnn] at T1 B1 x0 x1 x2 x3 x4 x5 x6 x7 hn
  have HN := Lib.hid hnn
  simp only [hnn]
  clear ih hk hr hl hnn
  go_enter Tryd.func18, Tryd.ntmps18
  go_wp2_with fail
  go_loopw [5, 6] (fun u v wr => ∃ m i : Nat, i ≤ n ∧ m ≤ 1000000 + 500 * (61 - dp) ∧ u = .int .i64 (m : Nat) ∧ v = .int .i64 (i : Nat) ∧ Hid (TB wr w.heap.size ⟨op, q, lo, hi, A, n, c⟩ ∧ Below w.heap.size w wr)) (fun _ v _ => n - (intOf v).toNat)
  case atStart => exact ⟨1, 0, Nat.zero_le _, by omega, rfl, rfl, ⟨T1.out, B1.out⟩⟩
  case round =>
    obtain ⟨m, i, hi1, hm, rfl, rfl, hW⟩ := hrel
    obtain ⟨⟨x0, x1, x2, x3, x4, x5, x6, x7⟩, _⟩ := hW.out.1.all
    clear T1 B1
    by_cases hlt : i < n
    · have qi : (i : Int) < (n : Int) := by omega
      by_cases hm5 : m ≤ 500
      · have qm : (m : Int) ≤ 500 := by omega
        have hi2 : i < ks.length := by have := HN.out; omega
        have hi4 : i < ds.length := by have h1 := HL.out; omega
        obtain ⟨kb1, off1, rfl, hb1, hc1⟩ := HR.out (by omega)
        obtain ⟨a0, a1, a2, a3, a4, a5, a6, a7⟩ := kid_cells hW.out.2 hb1 hc1 (List.getElem?_eq_getElem hi4)
        have k1 := (HK.out i _ _ (List.getElem?_eq_getElem hi2) (List.getElem?_eq_getElem hi4)).keeps hW.out.2
        have D1 := Lib.hid (IH.out _ (List.getElem_mem hi2) _ (dp + 1) wr k1 (by omega))
        have q7 : ((dp + 1 : Nat) : Int) = (dp : Int) + 1 := by omega
        rw [q7] at D1
        generalize ds[i] = dt at *
        have q5 : IntKind.i64.wrap ((dp : Int) + 1) = (dp : Int) + 1 := by rw [IntWalk.i64_in _ (by omega)]
        have HM : Hid (m ≤ 500) := hm5
        clear hc1 k1 hi2 hi4 hb1 q7 hm hm5
        unfold TD.val at D1
        go_wp2_with fail
        refine D1.out.mono ?_
        rintro e w5 ⟨n5, rfl, hn5, hb5⟩
        have W5 : Hid (TB w5 w.heap.size ⟨op, q, lo, hi, some ⟨kb1, off1, none⟩, n, c⟩ ∧ Below w.heap.size w w5) := ⟨hW.out.1.below hb5, hW.out.2.trans (hb5.mono hW.out.2.size)⟩
        have hsum : m + n5 ≤ 1000000 + 500 * (61 - dp) := by have := HM.out; omega
        have q6 : IntKind.i64.wrap ((i : Int) + 1) = ((i + 1 : Nat) : Int) := by rw [IntWalk.i64_in _ (by omega)]; omega
        have q8 : IntKind.i64.wrap ((m : Int) + (n5 : Int)) = ((m + n5 : Nat) : Int) := by rw [IntWalk.i64_in _ (by omega)]; omega
        clear D1 hW hb5 a0 a1 a2 a3 a4 a5 a6 a7 x0 x1 x2 x3 x4 x5 x6 x7
        go_wp2_with fail
        go_roundw
        case rel => exact ⟨m + n5, i + 1, by omega, hsum, by simp, by simp, W5⟩
        case measure => simp [intOf]; omega
      · have qm : ¬ (m : Int) ≤ 500 := by omega
        go_wp2
        go_ret
        exact ⟨m, rfl, hm, hW.out.2⟩
    · have qi : ¬ (i : Int) < (n : Int) := by omega
      go_wp2
      go_ret
      exact ⟨m, rfl, hm, hW.out.2⟩
/-- whether a term is great is told, somehow -/
theorem great_any (t : Tm) (d : TD) (w : World) (ht : TR w t d) : Calls Tryd.prog 8 #[d.val] w (fun e w' => ∃ b, Tells w (.bool b) e w') := by
  have nb := below_new w (.cells d.cells 27)
  have D1 := Lib.hid (size_any t d 0 _ (ht.keeps nb) (by omega))
  have B1 := Lib.hid nb
  obtain ⟨⟨x0, x1, x2, x3, x4, x5, x6, x7⟩, _⟩ := (TB.new w d).all
  clear nb
  unfold TD.val TD.cells at *
  go_enter Tryd.func8, Tryd.ntmps8
  go_wp2_with fail
  refine D1.out.mono ?_
  rintro e w2 ⟨n, rfl, _, hb2⟩
  have B2 := Lib.hid (B1.out.trans (hb2.mono B1.out.size))
  clear D1 B1 hb2 x0 x1 x2 x3 x4 x5 x6 x7
  go_wp2
  go_ret
  exact ⟨_, rfl, B2.out⟩
end Go.Proofs.YtegehcdjnnajcaaDoor
