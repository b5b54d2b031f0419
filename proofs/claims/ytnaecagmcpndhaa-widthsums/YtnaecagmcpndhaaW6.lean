/- Span: what its loops keep. -/
import Derived.Test.YtnaecagmcpndhaaW5
namespace Go.Proofs.Ytnaecagmcpndhaa
open Go.RowKit
/-- what a round of the loops keeps -/
structure KS (w W : World) (p rb kx : Nat) (D : TD) (x : Ex) (kt : Tm) (dt : TD) : Prop where
  t : TB W w.heap.size D
  z : EB W (w.heap.size + 1) ⟨0, 0, false⟩
  r : EB W rb x
  b : Below w.heap.size w W
  f : Fun W p 36
  k : TB W kx dt
  v : TR W kt dt
theorem step_ks {w W W' : World} {p rb kx : Nat} {D : TD} {x : Ex} {kt : Tm} {dt : TD} (h : Hid (KS w W p rb kx D x kt dt)) (hb : Below W.heap.size W W') : Hid (KS w W' p rb kx D x kt dt) :=
  ⟨h.out.t.below hb, h.out.z.below hb, h.out.r.below hb, h.out.b.trans (hb.mono h.out.b.size), h.out.f.below hb, h.out.k.below hb, h.out.v.keeps hb⟩
theorem ksk {w W : World} {p rb kx : Nat} {D : TD} {x : Ex} {kt : Tm} {dt : TD} (h : Hid (KS w W p rb kx D x kt dt)) : W.cell? ⟨rb, 0, none⟩ = some (.int .i64 x.l) ∧ W.cell? ⟨rb, 1, none⟩ = some (.int .i64 x.m) ∧ W.cell? ⟨rb, 2, none⟩ = some (.bool x.a) ∧ W.cell? ⟨p, 0, none⟩ = some (.func (.func 36) #[] #[.pointer (some ⟨p, 0, none⟩)]) ∧ W.cell? ⟨kx, 0, none⟩ = some (.int .i64 dt.op) ∧ W.cell? ⟨kx, 1, none⟩ = some (.int .u64 (uv (dt.q 0))) ∧ W.cell? ⟨kx, 2, none⟩ = some (.int .u64 (uv (dt.q 1))) ∧ W.cell? ⟨kx, 3, none⟩ = some (.int .u64 (uv (dt.q 2))) ∧ W.cell? ⟨kx, 4, none⟩ = some (.int .u64 (uv (dt.q 3))) ∧ W.cell? ⟨kx, 5, none⟩ = some (.int .i64 dt.lo) ∧ W.cell? ⟨kx, 6, none⟩ = some (.int .i64 dt.hi) ∧ W.cell? ⟨kx, 7, none⟩ = some (.slice dt.A dt.n dt.c) := by
  obtain ⟨⟨a0, a1, a2⟩, _⟩ := h.out.r.all
  obtain ⟨⟨b0, b1, b2, b3, b4, b5, b6, b7⟩, _⟩ := h.out.k.all
  exact ⟨a0, a1, a2, h.out.f.1, b0, b1, b2, b3, b4, b5, b6, b7⟩
theorem set3_heap (W : World) (k j : Nat) (x : Ex) (h : j ≠ k) : (set3 W k x).heap[j]? = W.heap[j]? := by
  unfold set3
  rw [Below.heap_setCell _ ⟨k, 2, none⟩ _ j h, Below.heap_setCell _ ⟨k, 1, none⟩ _ j h, Below.heap_setCell _ ⟨k, 0, none⟩ _ j h]
theorem set3_size (W : World) (k : Nat) (x : Ex) : (set3 W k x).heap.size = W.heap.size := by simp [set3, World.setCell]
theorem ks_end {w W : World} {p rb kx : Nat} {D : TD} {x : Ex} {kt : Tm} {dt : TD} (h : Hid (KS w W p rb kx D x kt dt)) (hrb : w.heap.size + 1 < rb) (hp : p < w.heap.size) (y : Ex) :
    TB (set3 W rb y) w.heap.size D ∧ EB (set3 W rb y) (w.heap.size + 1) ⟨0, 0, false⟩ ∧ EB (set3 W rb y) rb y ∧ Below w.heap.size w (set3 W rb y) ∧ Fun (set3 W rb y) p 36 :=
  ⟨(set3_heap W rb _ y (by omega)).trans h.out.t, (set3_heap W rb _ y (by omega)).trans h.out.z, h.out.r.set3 y, set3_below h.out.b (by omega) y, ⟨(World.cell?_of_block (a := ⟨p, 0, none⟩) (set3_heap W rb p y (by omega))).trans h.out.f.1, by rw [set3_size]; exact h.out.f.2⟩⟩
end Go.Proofs.Ytnaecagmcpndhaa
