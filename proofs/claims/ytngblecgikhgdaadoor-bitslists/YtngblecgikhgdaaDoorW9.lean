/- Walks: the law's speaks. -/
import Derived.Test.YtngblecgikhgdaaDoorW8
namespace Go.Proofs.YtngblecgikhgdaaDoor
open Go.RowKit

theorem own_lit (w : World) (ys : List (BitVec 64)) (cs : Array Value) (h : cs = (cellsOf ys).toArray) : Own (w.alloc (.cells cs 45)) w.heap.size ys := by
  subst h
  exact heap_alloc_new w _
theorem i64s_lit (w : World) (zs : List Int) (cs : Array Value) (t : TypeId) (h : cs = (zs.map (Value.int .i64)).toArray) : I64s (w.alloc (.cells cs t)) (some ⟨w.heap.size, 0, none⟩) zs := by
  subst h
  intro _
  refine ⟨w.heap.size, 0, rfl, by simp, fun j hj => ?_⟩
  rw [Nat.zero_add]
  have := cell_of_row (w.alloc (.cells (zs.map (Value.int .i64)).toArray t)) w.heap.size j _ t (0, 0) (heap_alloc_new w _)
  rw [this]
  simp [zd, List.getD, hj]

theorem same_b (A B : Option Addr) (c d : Nat) (xs : List (BitVec 64)) (w : World) (hx : U64s w A xs) (hy : U64s w B xs) (lx : xs.length ≤ 35184372088832) :
    Calls Tryd.prog 18 #[.slice A xs.length c, .slice B xs.length d] w fun e w' => e = .returned (.bool true) ∧ Below w.heap.size w w' := by
  refine (same_eq A B c d xs w hx hy lx).mono ?_
  rintro e w' ⟨rfl, n, rfl⟩
  exact ⟨rfl, below_drewN (Below.refl _ _) n⟩
theorem sameI_b (A B : Option Addr) (c d : Nat) (zs : List Int) (w : World) (hx : I64s w A zs) (hy : I64s w B zs) (lx : zs.length ≤ 35184372088832) :
    Calls Tryd.prog 35 #[.slice A zs.length c, .slice B zs.length d] w fun e w' => e = .returned (.bool true) ∧ Below w.heap.size w w' := by
  refine (sameI_eq A B c d zs w hx hy lx).mono ?_
  rintro e w' ⟨rfl, n, rfl⟩
  exact ⟨rfl, below_drewN (Below.refl _ _) n⟩
theorem below_alloc (w : World) (o : Obj) : Below w.heap.size w (w.alloc o) := (Below.refl _ _).alloc (Nat.le_refl _) _

theorem v_ofv : ofv [0, 64, 3] = [9#64, 1#64] := by decide +kernel
theorem v_upv : upv [9#64, 1#64] 1 = [18#64, 2#64] := by decide +kernel
theorem v_low : canon ((([9#64, 1#64] : List (BitVec 64)).take (0 + 1)).set 0 (wd (([9#64, 1#64] : List (BitVec 64)).take (0 + 1)) 0 &&& (1#64 <<< (4 % 64) - 1#64))) = [9#64] := by decide +kernel
theorem v_list : ints (places [18#64, 2#64] (64 * [18#64, 2#64].length)) = [1, 4, 65] := by decide +kernel

set_option maxHeartbeats 1000000 in
theorem speaks_any (w : World) (hT : Tab w) (hw0 : 0 < w.heap.size) :
    Calls Tryd.prog 12 #[] w fun e w' => e = .returned (.bool true) ∧ Below w.heap.size w w' := by
  have hz := i64s_lit w [0, 64, 3] #[.int .i64 0, .int .i64 64, .int .i64 3] 3 rfl
  have hb0 : Below w.heap.size w (w.alloc (.cells #[.int .i64 0, .int .i64 64, .int .i64 3] 3)) := (Below.refl _ _).alloc (Nat.le_refl _) _
  have H1 := of_ok (some ⟨w.heap.size, 0, none⟩) 3 [0, 64, 3] _ hz (by decide) (fun j hj => by
    match j, hj with
    | 0, _ => exact ⟨by decide, by decide⟩
    | 1, _ => exact ⟨by decide, by decide⟩
    | 2, _ => exact ⟨by decide, by decide⟩)
  rw [v_ofv] at H1
  have H1 := Lib.hid H1
  have HB0 := Lib.hid hb0
  clear hz hb0
  go_enter Tryd.func12, Tryd.ntmps12
  go_wp2_with fail
  refine H1.out.mono ?_
  rintro e w1 ⟨A, c, rfl, hc, hx, _, hb⟩
  have B1 := Lib.hid (HB0.out.trans (hb.mono (by simp)))
  have H2 : Calls Tryd.prog 29 #[.slice A 2 c, .int .i64 1] w1 (GivesOk w1 [18#64, 2#64]) := by
    have := up_any A c 1 _ w1 hx hc (by decide) (by decide)
    rw [v_upv] at this
    exact this
  have H2 := Lib.hid H2
  have HX := Lib.hid hx; have HC := Lib.hid hc
  clear hx hc hb HB0 H1
  go_wp2_with fail
  refine H2.out.mono ?_
  rintro e w2 ⟨A2, c2, rfl, hc2, hx2, _, hb2⟩
  have B2 := Lib.hid (B1.out.trans (hb2.mono B1.out.size))
  have X1 := Lib.hid (HX.out.below hb2)
  have X2 := Lib.hid hx2; have C2 := Lib.hid hc2
  clear hx2 hc2 hb2 H2 HX
  have S1 : Calls Tryd.prog 18 #[.slice A 2 c, .slice (some ⟨w2.heap.size, 0, none⟩) 2 2] (w2.alloc (.cells #[.int .u64 9, .int .u64 1] 45)) _ :=
    same_b A _ c 2 [9#64, 1#64] _ (X1.out.below (below_alloc _ _)) (own_lit w2 [9#64, 1#64] _ rfl).u64s (by decide)
  have S1 := Lib.hid S1
  go_wp2_with fail
  refine S1.out.mono ?_
  rintro e w3 ⟨rfl, hb3⟩
  have hb3 := (below_alloc w2 (.cells #[.int .u64 9, .int .u64 1] 45)).trans (hb3.mono (by simp))
  have X13 := Lib.hid (X1.out.below hb3)
  have X23 := Lib.hid (X2.out.below hb3)
  have B3 := Lib.hid (B2.out.trans (hb3.mono B2.out.size))
  clear hb3 S1 X1 X2 B2
  have S2 : Calls Tryd.prog 18 #[.slice A2 2 c2, .slice (some ⟨w3.heap.size, 0, none⟩) 2 2] (w3.alloc (.cells #[.int .u64 18, .int .u64 2] 45)) _ :=
    same_b A2 _ c2 2 [18#64, 2#64] _ (X23.out.below (below_alloc _ _)) (own_lit w3 [18#64, 2#64] _ rfl).u64s (by decide)
  have S2 := Lib.hid S2
  go_wp2_with fail
  refine S2.out.mono ?_
  rintro e w4 ⟨rfl, hb4⟩
  have hb4 := (below_alloc w3 (.cells #[.int .u64 18, .int .u64 2] 45)).trans (hb4.mono (by simp))
  have X14 := Lib.hid (X13.out.below hb4)
  have X24 := Lib.hid (X23.out.below hb4)
  have B4 := Lib.hid (B3.out.trans (hb4.mono B3.out.size))
  clear hb4 S2 X13 X23 B3
  have S3 : Calls Tryd.prog 30 #[.slice A 2 c, .int .i64 4] w4 (Gives w4 [9#64]) := by
    have := low_in A c 4 0 [9#64, 1#64] w4 X14.out (by decide) (by decide) (by decide) rfl (by decide)
    rw [v_low] at this
    exact this
  have S3 := Lib.hid S3
  go_wp2_with fail
  refine S3.out.mono ?_
  rintro e w5 ⟨A5, c5, rfl, _, hx5, _, hb5⟩
  have X25 := Lib.hid (X24.out.below hb5)
  have B5 := Lib.hid (B4.out.trans (hb5.mono B4.out.size))
  have S4 : Calls Tryd.prog 18 #[.slice A5 1 c5, .slice (some ⟨w5.heap.size, 0, none⟩) 1 1] (w5.alloc (.cells #[.int .u64 9] 45)) _ :=
    same_b A5 _ c5 1 [9#64] _ (hx5.below (below_alloc _ _)) (own_lit w5 [9#64] _ rfl).u64s (by decide)
  have S4 := Lib.hid S4
  clear hb5 S3 X24 B4 hx5
  go_wp2_with fail
  refine S4.out.mono ?_
  rintro e w6 ⟨rfl, hb6⟩
  have hb6 := (below_alloc w5 (.cells #[.int .u64 9] 45)).trans (hb6.mono (by simp))
  have X26 := Lib.hid (X25.out.below hb6)
  have B6 := Lib.hid (B5.out.trans (hb6.mono B5.out.size))
  clear hb6 S4 X25 B5
  have S5 : Calls Tryd.prog 33 #[.slice A2 2 c2] w6 (GivesI w6 [1, 4, 65]) := by
    have := list_any A2 c2 [18#64, 2#64] w6 X26.out (hT.below B6.out hw0) (by have := B6.out.size; omega) (by decide)
    rw [v_list] at this
    exact this
  have S5 := Lib.hid S5
  go_wp2_with fail
  refine S5.out.mono ?_
  rintro e w7 ⟨A7, c7, rfl, hx7, _, hb7⟩
  have B7 := Lib.hid (B6.out.trans (hb7.mono B6.out.size))
  have S6 : Calls Tryd.prog 35 #[.slice A7 3 c7, .slice (some ⟨w7.heap.size, 0, none⟩) 3 3] (w7.alloc (.cells #[.int .i64 1, .int .i64 4, .int .i64 65] 3)) _ :=
    sameI_b A7 _ c7 3 [1, 4, 65] _ (hx7.below (below_alloc _ _)) (i64s_lit w7 [1, 4, 65] _ 3 rfl) (by decide)
  have S6 := Lib.hid S6
  clear hb7 S5 X26 B6 hx7
  go_wp2_with fail
  refine S6.out.mono ?_
  rintro e w8 ⟨rfl, hb8⟩
  have hb8 := (below_alloc w7 (.cells #[.int .i64 1, .int .i64 4, .int .i64 65] 3)).trans (hb8.mono (by simp))
  have B8 := Lib.hid (B7.out.trans (hb8.mono B7.out.size))
  clear hb8 S6 B7
  go_wp2
  go_ret
  exact ⟨rfl, B8.out⟩
end Go.Proofs.YtngblecgikhgdaaDoor
