/- The walk of ShowSets. -/
import Derived.Test.YtegehcdjnnajcaaDoorB21
import Derived.Test.YtegehcdjnnajcaaDoorB23h
namespace Go.Proofs.YtegehcdjnnajcaaDoor
open Go.RowKit
def repT (f : Nat → Bool) (lo hi : Int) : Tm := .mk 8 noB lo hi [setT f]
theorem set_right (f : Nat → Bool) : rightT (setT f) = true := right_leaf 2 f (by omega) (by omega) (fun h => absurd rfl h)
/-- the three ways in which a set, or a repeat of one, is shown -/
def Ways (x : Tm) : Prop := showR x = ([], 1) ∨ (showR x = ([], 2) ∧ rightT x = false ∧ opOf x = 8) ∨ ∃ l t', showR x = (l, 0) ∧ parseF l = (t', 0, 0) ∧ sameT t' x = true
theorem ways_of (x : Tm) (hd : depT x ≤ 30) (ho : rightT x = false → opOf x = 8) : Ways x := by
  rcases show_ways x with ⟨c, hc, hs⟩ | ⟨_, _, _, hs, t', hp, hsm⟩
  · rcases hc with rfl | rfl | rfl
    · exact .inl hs
    · refine .inr (.inl ⟨hs, ?_⟩)
      have hr : rightT x = false := by
        rw [Bool.eq_false_iff]; intro hr
        unfold showR at hs
        rw [if_pos hr] at hs
        split at hs
        · injection hs with _ h; cases h
        · split at hs
          · injection hs with _ h; cases h
          · injection hs with _ h; cases h
      exact ⟨hr, ho hr⟩
    · exfalso
      unfold showR at hs
      split at hs
      · split at hs
        · injection hs with _ h; cases h
        · rw [if_neg (by omega)] at hs; injection hs with _ h; cases h
      · injection hs with _ h; cases h
  · exact .inr (.inr ⟨formT x, t', hs, hp, hsm⟩)
theorem ways_set (f : Nat → Bool) : Ways (setT f) := ways_of _ (by rw [setT, depT]; simp) (fun h => by rw [set_right] at h; cases h)
theorem ways_rep (f : Nat → Bool) (lo hi : Int) : Ways (repT f lo hi) := ways_of _ (by
  have e : depT (setT f) = 0 := by rw [setT, depT]; simp
  have n : needs 8 (opOf (setT f)) = false := by unfold setT opOf needs; simp
  have e3 : kidD 8 (setT f) = 0 := by unfold kidD; rw [e, n]; simp
  unfold repT
  have e2 : depT (.mk 8 noB lo hi [setT f]) = depL 8 [setT f] := by rw [depT]; simp
  rw [e2, depL_cons, e3, depL]; simp) (fun _ => rfl)
/-- the row of both -/
theorem sets_mem (q : Nat → BitVec 64) (lo hi : Int) (w : World) : ∃ W f, W = ((((w.alloc (.cells #[.int .i64 2, .int .u64 (uv (q 0)), .int .u64 (uv (q 1)), .int .u64 (uv (q 2)), .int .u64 (uv (q 3)), .int .i64 0, .int .i64 0, .slice none 0 0] 27)).alloc (.cells #[.int .i64 2, .int .u64 (uv (q 0)), .int .u64 (uv (q 1)), .int .u64 (uv (q 2)), .int .u64 (uv (q 3)), .int .i64 0, .int .i64 0, .slice none 0 0] 27)).alloc (.cells #[.int .i64 8, .int .u64 0, .int .u64 0, .int .u64 0, .int .u64 0, .int .i64 lo, .int .i64 hi, .slice (some ⟨w.heap.size + 1, 0, none⟩) 1 1] 27)).alloc (.cells #[.int .i64 2, .int .u64 (uv (q 0)), .int .u64 (uv (q 1)), .int .u64 (uv (q 2)), .int .u64 (uv (q 3)), .int .i64 0, .int .i64 0, .slice none 0 0, .int .i64 8, .int .u64 0, .int .u64 0, .int .u64 0, .int .u64 0, .int .i64 lo, .int .i64 hi, .slice (some ⟨w.heap.size + 1, 0, none⟩) 1 1] 27)) ∧ Below w.heap.size w W ∧ w.heap.size + 3 < W.heap.size ∧ RowAt W (some ⟨w.heap.size + 3, 0, none⟩) [setD q, opD 8 (some ⟨w.heap.size + 1, 0, none⟩) 1 1 lo hi] ∧ TR W (setT f) (setD q) ∧ TR W (repT f lo hi) (opD 8 (some ⟨w.heap.size + 1, 0, none⟩) 1 1 lo hi) := by
  refine ⟨_, fun i => kb q i, rfl, ?_⟩
  generalize hS : (Obj.cells #[.int .i64 2, .int .u64 (uv (q 0)), .int .u64 (uv (q 1)), .int .u64 (uv (q 2)), .int .u64 (uv (q 3)), .int .i64 0, .int .i64 0, .slice none 0 0] 27) = S
  generalize hR : (Obj.cells #[.int .i64 8, .int .u64 0, .int .u64 0, .int .u64 0, .int .u64 0, .int .i64 lo, .int .i64 hi, .slice (some ⟨w.heap.size + 1, 0, none⟩) 1 1] 27) = R
  generalize hB : (Obj.cells #[.int .i64 2, .int .u64 (uv (q 0)), .int .u64 (uv (q 1)), .int .u64 (uv (q 2)), .int .u64 (uv (q 3)), .int .i64 0, .int .i64 0, .slice none 0 0, .int .i64 8, .int .u64 0, .int .u64 0, .int .u64 0, .int .u64 0, .int .i64 lo, .int .i64 hi, .slice (some ⟨w.heap.size + 1, 0, none⟩) 1 1] 27) = B
  have b1 := below_new w S
  have b2 := below_new (w.alloc S) S
  have b3 := below_new ((w.alloc S).alloc S) R
  have b4 := below_new (((w.alloc S).alloc S).alloc R) B
  have b14 := ((b1.trans (b2.mono b1.size)).trans (b3.mono (Nat.le_trans b1.size b2.size))).trans (b4.mono (Nat.le_trans b1.size (Nat.le_trans b2.size b3.size)))
  have h1 : ((((w.alloc S).alloc S).alloc R).alloc B).heap[w.heap.size + 1]? = some S := by
    rw [b4.block _ (by simp), b3.block _ (by simp)]
    have := heap_alloc_new (w.alloc S) S
    rw [World.size_alloc] at this; exact this
  have h3 : ((((w.alloc S).alloc S).alloc R).alloc B).heap[w.heap.size + 3]? = some B := by
    have := heap_alloc_new (((w.alloc S).alloc S).alloc R) B
    rw [World.size_alloc, World.size_alloc, World.size_alloc] at this; exact this
  refine ⟨b14, by simp, ?_⟩
  generalize (((w.alloc S).alloc S).alloc R).alloc B = W at *
  have tS : TR W (setT fun i => kb q i) (setD q) := setD_tr fun i _ => rfl
  have r1 : RowAt W (some ⟨w.heap.size + 1, 0, none⟩) [setD q] := row_lit (h1.trans (congrArg some hS.symm)) [setD q] rfl
  refine ⟨row_lit (h3.trans (congrArg some hB.symm)) [setD q, opD 8 (some ⟨w.heap.size + 1, 0, none⟩) 1 1 lo hi] rfl, tS, ?_⟩
  exact opD_tr _ _ rfl (by simp) (fun i t d ht hd => by
    match i with
    | 0 =>
      obtain rfl : setT (fun i => kb q i) = t := by simpa using ht
      obtain rfl : setD q = d := by simpa using hd
      exact tS
    | i + 1 => simp at ht) r1
end Go.Proofs.YtegehcdjnnajcaaDoor
