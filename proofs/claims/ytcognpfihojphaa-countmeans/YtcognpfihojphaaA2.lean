/- Blocks known whole; what a call leaves of all others: a frame. -/
import Derived.Test.YtcognpfihojphaaBt
import Derived.Test.YtcognpfihojphaaKC13
import Derived.Test.YtcognpfihojphaaA1
import Derived.StillTailTactics
namespace Go.Proofs.Ytcognpfihojphaa
open Go.RowKit

/-- block g is just these cells -/
def Rw (w : World) (g : Nat) (cs : Array Value) (t : TypeId) : Prop := w.heap[g]? = some (.cells cs t (0, 0))
section
variable {w w' : World} {g : Nat} {cs : Array Value} {t : TypeId}
theorem Rw.lt (h : Rw w g cs t) : g < w.heap.size := by
  rcases Nat.lt_or_ge g w.heap.size with hlt | hge
  · exact hlt
  · unfold Rw at h; rw [Array.getElem?_eq_none hge] at h; cases h
theorem Rw.cell (h : Rw w g cs t) (j : Nat) : w.cell? ⟨g, j, none⟩ = cs[j]? := cell_of_row w g j cs t (0, 0) h
theorem Rw.frozen (h : Rw w g cs t) (j : Nat) : w.frozen? ⟨g, j, none⟩ = false := frozen_of_row w g j cs t h
theorem Rw.set_ (h : Rw w g cs t) (j : Nat) (v : Value) : Rw (w.setCell ⟨g, j, none⟩ v) g (cs.setIfInBounds j v) t := heap_setCell_same w g j cs t v h
theorem Rw.far (h : Rw w g cs t) {p : Addr} (hp : g ≠ p.block) (u : Value) : Rw (w.setCell p u) g cs t := (Below.heap_setCell w p u g hp).trans h
theorem Rw.new (w : World) (cs : Array Value) (t : TypeId) : Rw (w.alloc (.cells cs t)) w.heap.size cs t := heap_alloc_new w _
theorem Rw.alloc (h : Rw w g cs t) (o : Obj) : Rw (w.alloc o) g cs t := (Below.heap_alloc w o g h.lt).trans h
theorem Rw.drewN (h : Rw w g cs t) (n : Nat) : Rw (w.drewN n) g cs t := h
theorem Rw.below {B : Nat} (h : Rw w g cs t) (hb : Below B w w') (hg : g < B) : Rw w' g cs t := (hb.block g hg).trans h
end

/-- all old blocks but those of o are as they were -/
structure Kp (o : List Nat) (w w' : World) : Prop where
  os : w'.os = w.os
  tape : w'.tape = w.tape
  output : w'.output = w.output
  size : w.heap.size ≤ w'.heap.size
  block : ∀ k, k < w.heap.size → k ∉ o → w'.heap[k]? = w.heap[k]?
section
variable {o : List Nat} {w w1 w' : World} {g : Nat}
theorem Kp.refl (o : List Nat) (w : World) : Kp o w w := ⟨rfl, rfl, rfl, Nat.le_refl _, fun _ _ _ => rfl⟩
theorem Kp.drew (h : Kp o w w') : Kp o w w'.drew := ⟨h.os, h.tape, h.output, h.size, h.block⟩
theorem Kp.drewN (h : Kp o w w') (n : Nat) : Kp o w (w'.drewN n) := ⟨h.os, h.tape, h.output, h.size, h.block⟩
theorem Kp.alloc (h : Kp o w w') (x : Obj) : Kp o w (w'.alloc x) := ⟨h.os, h.tape, h.output, Nat.le_trans h.size (by simp), fun k hk hg => (Below.heap_alloc w' x k (Nat.lt_of_lt_of_le hk h.size)).trans (h.block k hk hg)⟩
theorem Kp.set_ (h : Kp o w w') {p : Addr} (hp : p.block ∈ o ∨ w.heap.size ≤ p.block) (u : Value) : Kp o w (w'.setCell p u) :=
  ⟨h.os, h.tape, h.output, by simpa [World.setCell] using h.size, fun k hk hg => (Below.heap_setCell w' p u k (fun e => by
    subst e
    rcases hp with hp | hp
    · exact hg hp
    · omega)).trans (h.block k hk hg)⟩
theorem Kp.trans (h : Kp o w w1) (k : Kp o w1 w') : Kp o w w' :=
  ⟨k.os.trans h.os, k.tape.trans h.tape, k.output.trans h.output, Nat.le_trans h.size k.size, fun i hi ho => (k.block i (Nat.lt_of_lt_of_le hi h.size) ho).trans (h.block i hi ho)⟩
theorem Kp.of_below (o : List Nat) (h : Below w.heap.size w w') : Kp o w w' := ⟨h.os, h.tape, h.output, h.size, fun k hk _ => h.block k hk⟩
theorem Kp.below {B : Nat} (h : Kp o w w') (ho : ∀ k, k ∈ o → B ≤ k) (hB : B ≤ w.heap.size) : Below B w w' :=
  ⟨h.os, h.tape, h.output, h.size, fun k hk => h.block k (by omega) (fun e => by have := ho k e; omega)⟩
theorem Rw.kp {cs : Array Value} {t : TypeId} (h : Rw w g cs t) (hk : Kp o w w') (hg : g ∉ o) : Rw w' g cs t := (hk.block g h.lt hg).trans h
end
theorem Rw.drew {w : World} {g : Nat} {cs : Array Value} {t : TypeId} (h : Rw w g cs t) : Rw w.drew g cs t := h
end Go.Proofs.Ytcognpfihojphaa
