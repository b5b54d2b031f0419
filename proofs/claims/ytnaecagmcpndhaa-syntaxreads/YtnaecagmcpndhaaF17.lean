/- The document's tokens: in memory, and what is read as one. -/
import Derived.Test.YtnaecagmcpndhaaF16
namespace Go.Proofs.Ytnaecagmcpndhaa
open Go.RowKit
structure Tk where
  kind : Nat
  pos : Nat
  set : Nat → Bool
  lo : Int
  hi : Int
/-- a token as values -/
structure KD where
  kind : Nat
  pos : Nat
  q : Nat → BitVec 64
  lo : Int
  hi : Int
def KD.cells (d : KD) : Array Value := #[.int .u8 (d.kind : Nat), .int .i64 (d.pos : Nat), .int .u64 (uv (d.q 0)), .int .u64 (uv (d.q 1)), .int .u64 (uv (d.q 2)), .int .u64 (uv (d.q 3)), .int .i64 d.lo, .int .i64 d.hi]
def KD.val (d : KD) : Value := .agg #[.int .u8 (d.kind : Nat), .int .i64 (d.pos : Nat), .int .u64 (uv (d.q 0)), .int .u64 (uv (d.q 1)), .int .u64 (uv (d.q 2)), .int .u64 (uv (d.q 3)), .int .i64 d.lo, .int .i64 d.hi]
def zK : KD := ⟨0, 0, fun _ => 0#64, 0, 0⟩
structure TkI (t : Tk) (d : KD) : Prop where
  kind : d.kind = t.kind
  pos : d.pos = t.pos
  set : IsK t.set d.q
  lo : d.lo = t.lo
  hi : d.hi = t.hi
/-- block k is that token -/
def TkB (w : World) (k : Nat) (d : KD) : Prop := w.heap[k]? = some (.cells d.cells 56 (0, 0))
section
variable {w w' : World} {k g : Nat} {d : KD}
theorem TkB.lt (h : TkB w k d) : k < w.heap.size := by
  rcases Nat.lt_or_ge k w.heap.size with hlt | hge
  · exact hlt
  · unfold TkB at h; rw [Array.getElem?_eq_none hge] at h; cases h
theorem TkB.all (h : TkB w k d) : (w.cell? ⟨k, 0, none⟩ = some (.int .u8 (d.kind : Nat)) ∧ w.cell? ⟨k, 1, none⟩ = some (.int .i64 (d.pos : Nat)) ∧ w.cell? ⟨k, 2, none⟩ = some (.int .u64 (uv (d.q 0))) ∧ w.cell? ⟨k, 3, none⟩ = some (.int .u64 (uv (d.q 1))) ∧ w.cell? ⟨k, 4, none⟩ = some (.int .u64 (uv (d.q 2))) ∧ w.cell? ⟨k, 5, none⟩ = some (.int .u64 (uv (d.q 3))) ∧ w.cell? ⟨k, 6, none⟩ = some (.int .i64 d.lo) ∧ w.cell? ⟨k, 7, none⟩ = some (.int .i64 d.hi)) ∧ ∀ j, w.frozen? ⟨k, j, none⟩ = false := by
  refine ⟨⟨?_, ?_, ?_, ?_, ?_, ?_, ?_, ?_⟩, fun j => by simp [World.frozen?, show w.heap[k]? = _ from h]⟩ <;> rw [cell_of_row w k _ _ 56 (0, 0) h] <;> rfl
theorem TkB.fg (h : TkB w k d) (hf : Fg w w' g) (hne : k ≠ g) : TkB w' k d := (hf.block k h.lt hne).trans h
theorem TkB.below (h : TkB w k d) (hb : Below w.heap.size w w') : TkB w' k d := (hb.block k h.lt).trans h
theorem TkB.new (w : World) (d : KD) : TkB (w.alloc (.cells d.cells 56)) w.heap.size d := heap_alloc_new w _
theorem TkB.far (h : TkB w k d) {p : Addr} (hp : k ≠ p.block) (u : Value) : TkB (w.setCell p u) k d := (Below.heap_setCell w p u k hp).trans h
theorem TkB.kind (h : TkB w k d) (x : Nat) : TkB (w.setCell ⟨k, 0, none⟩ (.int .u8 (x : Nat))) k { d with kind := x } := by unfold TkB at h ⊢; simp [World.setCell, Array.getElem?_modify, h, KD.cells]
theorem TkB.lo_ (h : TkB w k d) (x : Int) : TkB (w.setCell ⟨k, 6, none⟩ (.int .i64 x)) k { d with lo := x } := by unfold TkB at h ⊢; simp [World.setCell, Array.getElem?_modify, h, KD.cells]
theorem TkB.hi_ (h : TkB w k d) (x : Int) : TkB (w.setCell ⟨k, 7, none⟩ (.int .i64 x)) k { d with hi := x } := by unfold TkB at h ⊢; simp [World.setCell, Array.getElem?_modify, h, KD.cells]
theorem TkB.set (h : TkB w k d) (q : Nat → BitVec 64) : TkB ((((w.setCell ⟨k, 2, none⟩ (.int .u64 (uv (q 0)))).setCell ⟨k, 3, none⟩ (.int .u64 (uv (q 1)))).setCell ⟨k, 4, none⟩ (.int .u64 (uv (q 2)))).setCell ⟨k, 5, none⟩ (.int .u64 (uv (q 3)))) k { d with q := q } := by unfold TkB at h ⊢; simp [World.setCell, Array.getElem?_modify, h, KD.cells]
end
theorem Sr.farc {wr : World} {g : Nat} {A : Option Addr} {c : Nat} {bs : List Nat} {s : Sc} (h : Sr wr g A c bs s) {p : Addr} (hk : p.block ≠ g) (hl : 0 < bs.length → ow A ≠ some p.block) (u : Value) : Sr (wr.setCell p u) g A c bs s :=
  ⟨(Below.heap_setCell wr p u g (fun e => hk e.symm)).trans h.block, h.text.blocks (by simp [World.setCell]) fun h0 j hj _ => Below.heap_setCell wr p u j (fun e => hl h0 (by rw [hj, e])), h.far, h.len⟩
/-- what token carries: the answer's block, the token's block k -/
structure Ts (w wr : World) (g : Nat) (A : Option Addr) (c : Nat) (bs : List Nat) (k : Nat) (d : KD) (s : Sc) : Prop where
  sr : Sr wr g A c bs s
  fg : Fg w wr g
  ret : TkB wr w.heap.size zK
  tok : TkB wr k d
  lt : g < w.heap.size
  ltk : w.heap.size < k
  old : 0 < bs.length → ow A ≠ some w.heap.size
  oldk : 0 < bs.length → ow A ≠ some k
section
variable {w wr w' : World} {g : Nat} {A : Option Addr} {c : Nat} {bs : List Nat} {s s' : Sc} {k : Nat} {d d' : KD}
theorem Ts.to (h : Ts w wr g A c bs k d s) (hr : Sr w' g A c bs s') (hf : Fg wr w' g) : Ts w w' g A c bs k d s' := ⟨hr, h.fg.trans hf, h.ret.fg hf (by have := h.lt; omega), h.tok.fg hf (by have := h.lt; have := h.ltk; omega), h.lt, h.ltk, h.old, h.oldk⟩
theorem Ts.below (h : Ts w wr g A c bs k d s) (hb : Below wr.heap.size wr w') : Ts w w' g A c bs k d s := h.to (h.sr.below hb) (Fg.of_below hb g)
theorem Ts.drewN (h : Ts w wr g A c bs k d s) (n : Nat) : Ts w (wr.drewN n) g A c bs k d s := h.to (h.sr.drewN n) ((Fg.refl _ _).drewN n)
theorem Ts.put (h : Ts w wr g A c bs k d s) (o : Nat) (u : Value) (ht : TkB (wr.setCell ⟨k, o, none⟩ u) k d') : Ts w (wr.setCell ⟨k, o, none⟩ u) g A c bs k d' s :=
  ⟨h.sr.farc (by have := h.lt; have := h.ltk; show k ≠ g; omega) h.oldk u, h.fg.set_new (by have := h.ltk; show w.heap.size ≤ k; omega) u, h.ret.far (by have := h.ltk; show w.heap.size ≠ k; omega) u, ht, h.lt, h.ltk, h.old, h.oldk⟩
theorem Ts.kind (h : Ts w wr g A c bs k d s) (x : Nat) : Ts w (wr.setCell ⟨k, 0, none⟩ (.int .u8 (x : Nat))) g A c bs k { d with kind := x } s := h.put 0 _ (h.tok.kind x)
theorem Ts.lo (h : Ts w wr g A c bs k d s) (x : Int) : Ts w (wr.setCell ⟨k, 6, none⟩ (.int .i64 x)) g A c bs k { d with lo := x } s := h.put 6 _ (h.tok.lo_ x)
theorem Ts.hi (h : Ts w wr g A c bs k d s) (x : Int) : Ts w (wr.setCell ⟨k, 7, none⟩ (.int .i64 x)) g A c bs k { d with hi := x } s := h.put 7 _ (h.tok.hi_ x)
theorem Ts.set (h : Ts w wr g A c bs k d s) (q : Nat → BitVec 64) : Ts w ((((wr.setCell ⟨k, 2, none⟩ (.int .u64 (uv (q 0)))).setCell ⟨k, 3, none⟩ (.int .u64 (uv (q 1)))).setCell ⟨k, 4, none⟩ (.int .u64 (uv (q 2)))).setCell ⟨k, 5, none⟩ (.int .u64 (uv (q 3)))) g A c bs k { d with q := q } s :=
  ⟨h.sr.farc (by have := h.lt; have := h.ltk; show k ≠ g; omega) h.oldk _ |>.farc (by have := h.lt; have := h.ltk; show k ≠ g; omega) h.oldk _ |>.farc (by have := h.lt; have := h.ltk; show k ≠ g; omega) h.oldk _ |>.farc (by have := h.lt; have := h.ltk; show k ≠ g; omega) h.oldk _,
    (((h.fg.set_new (by have := h.ltk; show w.heap.size ≤ k; omega) _).set_new (by have := h.ltk; show w.heap.size ≤ k; omega) _).set_new (by have := h.ltk; show w.heap.size ≤ k; omega) _).set_new (by have := h.ltk; show w.heap.size ≤ k; omega) _, h.ret.far (by have := h.ltk; show w.heap.size ≠ k; omega) _ |>.far (by have := h.ltk; show w.heap.size ≠ k; omega) _ |>.far (by have := h.ltk; show w.heap.size ≠ k; omega) _ |>.far (by have := h.ltk; show w.heap.size ≠ k; omega) _, h.tok.set q, h.lt, h.ltk, h.old, h.oldk⟩
end
/-- a brace's upper number -/
def upR (bs : List Nat) (lo : Nat) (j : Nat) : Except Nat (Int × Nat) :=
  if sb bs j 44 then (if sb bs (j + 1) 125 then .ok (-1, j + 1) else thR (numR bs (j + 1)) fun h k => .ok ((h : Int), k)) else .ok ((lo : Int), j)
def tokR (bs : List Nat) (i : Nat) : Except Nat (Tk × Nat) :=
  if bn bs i = 91 then thR (classR bs (i + 1)) fun f j => .ok (⟨115, i, f, 0, 0⟩, j)
  else if bn bs i = 92 then thR (escR bs (i + 1) true) fun a j => .ok (⟨115, i, a.1, 0, 0⟩, j)
  else if bn bs i = 42 then .ok (⟨113, i, noB, 0, -1⟩, i + 1) else if bn bs i = 43 then .ok (⟨113, i, noB, 1, -1⟩, i + 1) else if bn bs i = 63 then .ok (⟨113, i, noB, 0, 1⟩, i + 1)
  else if bn bs i = 123 then thR (numR bs (i + 1)) fun lo j => thR (upR bs lo j) fun hi k => if sb bs k 125 then .ok (⟨113, i, noB, (lo : Int), hi⟩, k + 1) else .error k
  else if bn bs i = 93 ∨ bn bs i = 125 then .error i
  else if bn bs i = 46 ∨ bn bs i = 94 ∨ bn bs i = 36 ∨ bn bs i = 124 ∨ bn bs i = 40 ∨ bn bs i = 41 then .ok (⟨bn bs i, i, noB, 0, 0⟩, i + 1)
  else .ok (⟨115, i, rgF (bn bs i) (bn bs i), 0, 0⟩, i + 1)
def DoT (w : World) (g : Nat) (A : Option Addr) (c : Nat) (bs : List Nat) (i : Nat) (r : Except Nat (Tk × Nat)) (e : Ending) (w' : World) : Prop :=
  match r with
  | .error p => ∃ (d : KD) (i' : Nat), e = .returned d.val ∧ Sr w' g A c bs ⟨i', (p : Int)⟩ ∧ Fg w w' g
  | .ok (t, j) => ∃ d : KD, e = .returned d.val ∧ TkI t d ∧ Sr w' g A c bs ⟨j, -1⟩ ∧ Fg w w' g ∧ i < j ∧ j ≤ bs.length
section
variable {w w' : World} {g : Nat} {A : Option Addr} {c : Nat} {bs : List Nat} {i : Nat} {r : Except Nat (Tk × Nat)}
theorem DoT.err {p i' : Nat} {d : KD} (h : r = .error p) (hr : Sr w' g A c bs ⟨i', (p : Int)⟩) (hf : Fg w w' g) : DoT w g A c bs i r (.returned d.val) w' := by subst h; exact ⟨d, i', rfl, hr, hf⟩
theorem DoT.okk {t : Tk} {j : Nat} {d : KD} (h : r = .ok (t, j)) (ht : TkI t d) (hr : Sr w' g A c bs ⟨j, -1⟩) (hf : Fg w w' g) (hi : i < j) (hl : j ≤ bs.length) : DoT w g A c bs i r (.returned d.val) w' := by subst h; exact ⟨d, rfl, ht, hr, hf, hi, hl⟩
end
/-- the answer, written into its block -/
def setK (w : World) (k : Nat) (d : KD) : World :=
  (((((((w.setCell ⟨k, 0, none⟩ (.int .u8 (d.kind : Nat))).setCell ⟨k, 1, none⟩ (.int .i64 (d.pos : Nat))).setCell ⟨k, 2, none⟩ (.int .u64 (uv (d.q 0)))).setCell ⟨k, 3, none⟩ (.int .u64 (uv (d.q 1)))).setCell ⟨k, 4, none⟩ (.int .u64 (uv (d.q 2)))).setCell ⟨k, 5, none⟩ (.int .u64 (uv (d.q 3)))).setCell ⟨k, 6, none⟩ (.int .i64 d.lo)).setCell ⟨k, 7, none⟩ (.int .i64 d.hi)
theorem setK_size (w : World) (k : Nat) (d : KD) : (setK w k d).heap.size = w.heap.size := by simp [setK, World.setCell]
theorem setK_heap (w : World) (k j : Nat) (d : KD) (h : j ≠ k) : (setK w k d).heap[j]? = w.heap[j]? := by
  unfold setK
  rw [Below.heap_setCell _ ⟨k, 7, none⟩ _ j h, Below.heap_setCell _ ⟨k, 6, none⟩ _ j h, Below.heap_setCell _ ⟨k, 5, none⟩ _ j h, Below.heap_setCell _ ⟨k, 4, none⟩ _ j h, Below.heap_setCell _ ⟨k, 3, none⟩ _ j h, Below.heap_setCell _ ⟨k, 2, none⟩ _ j h, Below.heap_setCell _ ⟨k, 1, none⟩ _ j h, Below.heap_setCell _ ⟨k, 0, none⟩ _ j h]
theorem Ts.ends {w wr : World} {g : Nat} {A : Option Addr} {c : Nat} {bs : List Nat} {s : Sc} {k : Nat} {d : KD} (h : Ts w wr g A c bs k d s) (d' : KD) : Sr (setK wr w.heap.size d') g A c bs s ∧ Fg w (setK wr w.heap.size d') g := by
  refine ⟨⟨(setK_heap wr _ g d' (by have := h.lt; omega)).trans h.sr.block, h.sr.text.blocks (by rw [setK_size]; exact Nat.le_refl _) fun h0 j hj _ => setK_heap wr _ j d' (fun e => h.old h0 (by rw [hj, e])), h.sr.far, h.sr.len⟩, ?_⟩
  unfold setK
  exact ((((((((h.fg).set_new (p := ⟨w.heap.size, 0, none⟩) (Nat.le_refl _) _).set_new (p := ⟨w.heap.size, 1, none⟩) (Nat.le_refl _) _).set_new (p := ⟨w.heap.size, 2, none⟩) (Nat.le_refl _) _).set_new (p := ⟨w.heap.size, 3, none⟩) (Nat.le_refl _) _).set_new (p := ⟨w.heap.size, 4, none⟩) (Nat.le_refl _) _).set_new (p := ⟨w.heap.size, 5, none⟩) (Nat.le_refl _) _).set_new (p := ⟨w.heap.size, 6, none⟩) (Nat.le_refl _) _).set_new (p := ⟨w.heap.size, 7, none⟩) (Nat.le_refl _) _
end Go.Proofs.Ytnaecagmcpndhaa
