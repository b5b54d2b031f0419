/- Walks: the law's speaks. -/
import Derived.Test.YtodcnpjhkkifcaaC5
import Derived.Lib.SlBytesConst
import Derived.Laws.BytesArg
namespace Go.Proofs.Ytodcnpjhkkifcaa
open Go.RowKit

theorem bts_lit (w : World) (l : List Nat) (cs : Array Value) (m : Nat × Nat) (hl : ∀ j, bn l j < 256) (hcs : cs = (yvals l).toArray) : Bts (w.alloc (.cells cs 5 m)) (some ⟨w.heap.size, 0, none⟩) l := by
  subst hcs
  refine ⟨hl, fun _ => ⟨w.heap.size, 0, rfl, by simp, fun j hj => ?_⟩⟩
  have hh := cell_of_row (w.alloc (.cells (yvals l).toArray 5 m)) w.heap.size j (yvals l).toArray 5 m (heap_alloc_new w _)
  rw [Nat.zero_add, hh]
  simp [yvals, bn, List.getD, hj]

/-- the bytes below n that f tells -/
def bylF (f : Nat → Bool) (n : Nat) : List Nat := (List.range n).filter f
theorem byl_is {f : Nat → Bool} {q : Nat → BitVec 64} (h : IsK f q) : byl q 256 = bylF f 256 := by
  unfold byl bylF
  apply List.filter_congr
  intro i hi
  exact h i (List.mem_range.1 hi)
theorem is_congr {f g : Nat → Bool} {q : Nat → BitVec 64} (h : IsK f q) (e : ∀ i, i < 256 → f i = g i) : IsK g q := fun i hi => by rw [h i hi, e i hi]

/-- the letters of a class folded, told by f alone -/
def foldG (f : Nat → Bool) (k i : Nat) : Bool := f i || (decide (65 ≤ i ∧ i < 65 + k) && f (i + 32)) || (decide (97 ≤ i ∧ i < 97 + k) && f (i - 32))
theorem fold_is {f : Nat → Bool} {q : Nat → BitVec 64} (h : IsK f q) (i : Nat) (hi : i < 256) : foldF q 26 i = foldG f 26 i := by
  unfold foldF foldG
  rw [h i hi]
  congr 1
  · congr 1
    by_cases e : 65 ≤ i ∧ i < 65 + 26
    · rw [h (i + 32) (by omega)]
    · rw [decide_eq_false e]; rfl
  · rw [h (i - 32) (by omega)]

def inL (l : List Nat) (i : Nat) : Bool := l.contains i
theorem ofF_inL (l : List Nat) (i : Nat) : ofF l l.length i = inL l i := by
  unfold ofF inL
  rw [Bool.eq_iff_iff, decide_eq_true_eq, List.contains_iff_mem]
  constructor
  · rintro ⟨j, hj, e⟩
    have : bn l j = l[j] := by simp [bn, List.getD, hj]
    rw [← e, this]; exact List.getElem_mem hj
  · intro hm
    obtain ⟨j, hj, e⟩ := List.getElem_of_mem hm
    exact ⟨j, hj, by simp [bn, List.getD, hj, e]⟩

theorem v_runs : runsK (bylF (inL [98, 99, 97, 48]) 256) (bylF (inL [98, 99, 97, 48]) 256).length = [(48, 48), (97, 99)] := by decide +kernel
theorem v_fold : bylF (foldG (inL [97, 90, 95]) 26) 256 = [65, 90, 95, 97, 122] := by decide +kernel

theorem pp0 (a0 a1 : Int) (w : World) : (part 5 #[.int .u8 a0, .int .u8 a1] 0).run Try.prog w = .ok (.int .u8 a0) w := by kernel_rfl
theorem pp1 (a0 a1 : Int) (w : World) : (part 5 #[.int .u8 a0, .int .u8 a1] 1).run Try.prog w = .ok (.int .u8 a1) w := by kernel_rfl
theorem sz5 (w : World) : (sizeOf 5).run Try.prog w = .ok 1 w := by kernel_rfl
theorem eq_pair (d : Nat) (a0 a1 b0 b1 : Int) (w : World) : (Op.equalIn (d + 1 + 1) 41 (.agg #[.int .u8 a0, .int .u8 a1]) (.agg #[.int .u8 b0, .int .u8 b1])).run Try.prog w = .ok ((a0 == b0) && (a1 == b1)) w := by
  have e : ∀ (a b : Int) (w : World), (Op.equalIn (d + 1) 5 (.int .u8 a) (.int .u8 b)).run Try.prog w = .ok (a == b) w := fun a b w => run_equalIn_int (P := Try.prog) w d 5 .u8 .u8 a b Try.underlying5
  rw [Op.equalIn]
  generalize d + 1 = d1 at *
  simp only [Sem.run_bind, run_underlying Try.underlying41, Result.andThen_ok, sz5, Std.Legacy.Range.forIn_eq_forIn_range', Std.Legacy.Range.size, List.range', List.forIn_cons, List.forIn_nil, Nat.mul_one, Nat.reduceAdd, pp0, pp1, e]
  generalize (a0 == b0) = c0
  cases c0
  · simp [Sem.run_pure, Result.andThen]
  · simp only [Bool.not_true, Bool.false_eq_true, if_false, Sem.run_pure, Result.andThen_ok, Sem.run_bind, pp1, e, Bool.true_and]
    generalize (a1 == b1) = c1
    cases c1 <;> simp [Sem.run_pure, Result.andThen]
theorem pair_same (a b : Int) (w : World) : (Op.equalIn 10000 41 (.agg #[.int .u8 a, .int .u8 b]) (.agg #[.int .u8 a, .int .u8 b])).run Try.prog w = .ok true w := by
  have := eq_pair 9998 a b a b w
  simp only [beq_self_eq_true, Bool.and_self] at this
  exact this

set_option maxRecDepth 100000 in
set_option maxHeartbeats 1000000 in
theorem speaks_any (w : World) : Calls Try.prog 9 #[] w fun e w' => e = .returned (.bool true) ∧ Below w.heap.size w w' := by
  have kc := fun (w : World) (C : Array Value) (n c : Nat) => Lib.run_convert_bytes_const (P := Try.prog) w 22 5 C n c Try.underlying22 Try.underlying5
  have hl1 : Bts (w.alloc (.cells #[.int .u8 98, .int .u8 99, .int .u8 97, .int .u8 48] 5 (4, 5))) (some ⟨w.heap.size, 0, none⟩) [98, 99, 97, 48] :=
    bts_lit w [98, 99, 97, 48] _ (4, 5) (fun j => by
      match j with
      | 0 => decide
      | 1 => decide
      | 2 => decide
      | 3 => decide
      | j + 4 => simp [bn]) rfl
  have H1 := of_any (some ⟨w.heap.size, 0, none⟩) 4 [98, 99, 97, 48] _ hl1 (by simp)
  have H1 := Lib.hid H1
  clear hl1
  go_enter Try.func9, Try.ntmps9
  go_wp2_with fail
  refine H1.out.mono ?_
  rintro e w1 ⟨q1, rfl, hq1, hb1⟩
  have B1 := Lib.hid (((Below.refl w.heap.size w).alloc (Nat.le_refl _) (.cells #[.int .u8 98, .int .u8 99, .int .u8 97, .int .u8 48] 5 (4, 5))).trans (hb1.mono (by simp)))
  have H2 := runs_any q1 w1
  rw [byl_is (is_congr hq1 fun i _ => ofF_inL _ i), v_runs] at H2
  have H2 := Lib.hid H2
  clear hb1 hq1 H1
  unfold cw at H2 ⊢
  go_wp2_with fail
  refine H2.out.mono ?_
  rintro e w2 ⟨A2, c2, rfl, hp2, hb2⟩
  have B2 := Lib.hid (B1.out.trans (hb2.mono B1.out.size))
  obtain ⟨g, rfl, hg, hc⟩ := hp2 (by decide)
  have a0 := (hc 0 (by decide)).1; have a1 := (hc 0 (by decide)).2; have a2 := (hc 1 (by decide)).1; have a3 := (hc 1 (by decide)).2
  simp only [pr, List.getD_cons_zero, List.getD_cons_succ, Nat.zero_mul, Nat.zero_add, Nat.one_mul, Nat.reduceAdd] at a0 a1 a2 a3
  clear hc hb2 H2 B1 hp2
  have ps1 := fun w' => pair_same 48 48 w'
  have ps2 := fun w' => pair_same 97 99 w'
  have hl2 : Bts (w2.alloc (.cells #[.int .u8 97, .int .u8 90, .int .u8 95] 5 (3, 4))) (some ⟨w2.heap.size, 0, none⟩) [97, 90, 95] :=
    bts_lit w2 [97, 90, 95] _ (3, 4) (fun j => by
      match j with
      | 0 => decide
      | 1 => decide
      | 2 => decide
      | j + 3 => simp [bn]) rfl
  have H3 := Lib.hid (of_any (some ⟨w2.heap.size, 0, none⟩) 3 [97, 90, 95] _ hl2 (by simp))
  clear hl2
  go_wp2_with fail
  refine H3.out.mono ?_
  rintro e w3 ⟨q3, rfl, hq3, hb3⟩
  have B3 := Lib.hid (B2.out.trans ((((Below.refl w2.heap.size w2).alloc (Nat.le_refl _) (.cells #[.int .u8 97, .int .u8 90, .int .u8 95] 5 (3, 4))).trans (hb3.mono (by simp))).mono B2.out.size))
  have HQ3 : Hid (IsK (inL [97, 90, 95]) q3) := is_congr hq3 fun i _ => ofF_inL _ i
  clear hb3 hq3 H3 a0 a1 a2 a3 B2 ps1 ps2 hg
  have H4 := Lib.hid (fold_any q3 w3)
  unfold cw at H4 ⊢
  go_wp2_with fail
  refine H4.out.mono ?_
  rintro e w4 ⟨q4, rfl, hq4, hb4⟩
  have B4 := Lib.hid (B3.out.trans (hb4.mono B3.out.size))
  have H5 := bytes_any q4 w4
  rw [byl_is (is_congr hq4 fun i hi => fold_is HQ3.out i hi), v_fold] at H5
  have H5 := Lib.hid H5
  clear hb4 hq4 H4 B3 HQ3
  unfold cw at H5 ⊢
  go_wp2_with fail
  refine H5.out.mono ?_
  rintro e w5 ⟨A5, c5, rfl, hy, hb5⟩
  have B5 := Lib.hid (B4.out.trans (hb5.mono B4.out.size))
  obtain ⟨b, off, rfl, hbb, hc⟩ := hy.2 (by decide)
  clear hb5 H5 B4
  have hcv : (convert 22 9 (.slice (some ⟨b, off, none⟩) 5 c5)).run Try.prog w5 = .ok (.string ⟨#[65, 90, 95, 97, 122]⟩) w5 :=
    run_convert_bytes_arg (P := Try.prog) w5 22 5 Try.underlying22 Try.underlying5 b off 5 c5 [65, 90, 95, 97, 122] rfl (fun i hi => by
      rw [hc i hi]
      match i, hi with
      | 0, _ => rfl
      | 1, _ => rfl
      | 2, _ => rfl
      | 3, _ => rfl
      | 4, _ => rfl) 9 Try.underlying9
  clear hc hy
  go_wp2
  go_ret
  exact ⟨rfl, B5.out⟩
end Go.Proofs.Ytodcnpjhkkifcaa
