/- Walks over the class package: classes in memory, And, Or, Not. -/
import Derived.Test.YtcognpfihojphaaRows
import Derived.WalkKit
import Derived.WalkSpells
import Derived.WalkLawsBesides
import Derived.Lib.Hide
import Derived.Deep.QuietTactic
import Derived.BigQuiet
import Derived.Deep.RegionHeld3
namespace Go.Proofs.Ytcognpfihojphaa.K
open Go.RowKit

/-- the number that a word stands for -/
def uv (x : BitVec 64) : Int := (x.toNat : Int)
/-- a class as its four words -/
def cw (q : Nat → BitVec 64) : Array Value := #[.int .u64 (uv (q 0)), .int .u64 (uv (q 1)), .int .u64 (uv (q 2)), .int .u64 (uv (q 3))]

theorem uv_lt (x : BitVec 64) : 0 ≤ uv x ∧ uv x < 18446744073709551616 := by
  have := x.isLt
  unfold uv; omega
theorem uv_and (x y : BitVec 64) : bits .and .u64 (uv x) (uv y) = uv (x &&& y) := by
  have hx := uv_lt x; have hy := uv_lt y
  rw [u64_and _ _ hx.1 hx.2 hy.1 hy.2]; simp [uv]
theorem uv_or (x y : BitVec 64) : bits .or .u64 (uv x) (uv y) = uv (x ||| y) := by
  have hx := uv_lt x; have hy := uv_lt y
  rw [u64_or _ _ hx.1 hx.2 hy.1 hy.2]; simp [uv]

/-- block g is just the class q -/
def CB (w : World) (g : Nat) (q : Nat → BitVec 64) : Prop := w.heap[g]? = some (.cells (cw q) 24 (0, 0))
theorem CB.lt {w : World} {g : Nat} {q : Nat → BitVec 64} (h : CB w g q) : g < w.heap.size := by
  rcases Nat.lt_or_ge g w.heap.size with hlt | hge
  · exact hlt
  · unfold CB at h; rw [Array.getElem?_eq_none hge] at h; cases h
theorem CB.cell {w : World} {g : Nat} {q : Nat → BitVec 64} (h : CB w g q) (j : Nat) (hj : j < 4) : w.cell? ⟨g, j, none⟩ = some (.int .u64 (uv (q j))) := by
  have := cell_of_row w g j (cw q) 24 (0, 0) h
  rw [this]
  match j, hj with
  | 0, _ => rfl
  | 1, _ => rfl
  | 2, _ => rfl
  | 3, _ => rfl
theorem CB.frozen {w : World} {g : Nat} {q : Nat → BitVec 64} (h : CB w g q) (j : Nat) : w.frozen? ⟨g, j, none⟩ = false := by
  unfold CB at h
  simp [World.frozen?, h]
theorem CB.set_ {w : World} {g : Nat} {q : Nat → BitVec 64} (h : CB w g q) (j : Nat) (hj : j < 4) (x : BitVec 64) : CB (w.setCell ⟨g, j, none⟩ (.int .u64 (uv x))) g (fun i => if i = j then x else q i) := by
  unfold CB at h ⊢
  simp only [World.setCell, Array.getElem?_modify, h]
  simp only [if_true, Option.map_some]
  match j, hj with
  | 0, _ => rfl
  | 1, _ => rfl
  | 2, _ => rfl
  | 3, _ => rfl
theorem CB.far {w : World} {g : Nat} {q : Nat → BitVec 64} (h : CB w g q) {p : Addr} (hp : g ≠ p.block) (u : Value) : CB (w.setCell p u) g q := (Below.heap_setCell w p u g hp).trans h
theorem CB.below {w w' : World} {g B : Nat} {q : Nat → BitVec 64} (h : CB w g q) (hb : Below B w w') (hg : g < B) : CB w' g q := (hb.block g hg).trans h
theorem CB.new (w : World) (q : Nat → BitVec 64) : CB (w.alloc (.cells (cw q) 24)) w.heap.size q := heap_alloc_new w _
theorem CB.alloc {w : World} {g : Nat} {q : Nat → BitVec 64} (h : CB w g q) (o : Obj) : CB (w.alloc o) g q := (Below.heap_alloc w o g h.lt).trans h
theorem CB.congr {w : World} {g : Nat} {q r : Nat → BitVec 64} (h : CB w g q) (e : ∀ j, j < 4 → q j = r j) : CB w g r := by
  unfold CB cw at *
  rw [← e 0 (by omega), ← e 1 (by omega), ← e 2 (by omega), ← e 3 (by omega)]; exact h

/-- a call that gives a class -/
def GivesC (w : World) (q : Nat → BitVec 64) (e : Ending) (w' : World) : Prop := e = .returned (.agg (cw q)) ∧ Below w.heap.size w w'

end Go.Proofs.Ytcognpfihojphaa.K
