/- What the document's scan reads behind a backslash: pure; what its calls carry. -/
import Derived.Test.YtnaecagmcpndhaaF7
import Derived.Test.YtnaecagmcpndhaaF8
namespace Go.Proofs.Ytnaecagmcpndhaa
open Go.RowKit
theorem isW_word (k : Nat) : isW k = wordF k := by
  unfold isW isL isD wordF rgF
  rw [Bool.eq_iff_iff]; simp; omega
theorem spc_space (k : Nat) : spc k = spaceF k := by
  unfold spc spaceF rgF
  rw [Bool.eq_iff_iff]; simp; omega
theorem isD_rg (k : Nat) : isD k = rgF 48 57 k := rfl
theorem let_some {c : Nat} {f : Nat → Bool} (h : mng c = some f) : isLet c = true ∧ ∀ k, lvF c (bits .or .u8 (c : Int) 32) k = f k := by
  have hc : c = 100 ∨ c = 119 ∨ c = 115 ∨ c = 68 ∨ c = 87 ∨ c = 83 := by
    unfold mng at h
    split at h
    · omega
    · unfold mngLow at h
      split at h
      · omega
      split at h
      · omega
      split at h
      · omega
      · cases h
  rcases hc with rfl | rfl | rfl | rfl | rfl | rfl
  · have e : some (rgF 48 57) = some f := h
    injection e with e; subst e
    refine ⟨rfl, fun k => ?_⟩
    have e1 : bits .or .u8 ((100 : Nat) : Int) 32 = 100 := by kernel_rfl
    rw [e1]; show (isD k == true) = _; rw [isD_rg]; cases rgF 48 57 k <;> rfl
  · have e : some wordF = some f := h
    injection e with e; subst e
    refine ⟨rfl, fun k => ?_⟩
    have e1 : bits .or .u8 ((119 : Nat) : Int) 32 = 119 := by kernel_rfl
    rw [e1]; show (isW k == true) = _; rw [isW_word]; cases wordF k <;> rfl
  · have e : some spaceF = some f := h
    injection e with e; subst e
    refine ⟨rfl, fun k => ?_⟩
    have e1 : bits .or .u8 ((115 : Nat) : Int) 32 = 115 := by kernel_rfl
    rw [e1]; show (spc k == true) = _; rw [spc_space]; cases spaceF k <;> rfl
  · have e : some (fun i => !rgF 48 57 i) = some f := h
    injection e with e; subst e
    refine ⟨rfl, fun k => ?_⟩
    have e1 : bits .or .u8 ((68 : Nat) : Int) 32 = 100 := by kernel_rfl
    rw [e1]; show (isD k == false) = !rgF 48 57 k; rw [isD_rg]; cases rgF 48 57 k <;> rfl
  · have e : some (fun i => !wordF i) = some f := h
    injection e with e; subst e
    refine ⟨rfl, fun k => ?_⟩
    have e1 : bits .or .u8 ((87 : Nat) : Int) 32 = 119 := by kernel_rfl
    rw [e1]; show (isW k == false) = !wordF k; rw [isW_word]; cases wordF k <;> rfl
  · have e : some (fun i => !spaceF i) = some f := h
    injection e with e; subst e
    refine ⟨rfl, fun k => ?_⟩
    have e1 : bits .or .u8 ((83 : Nat) : Int) 32 = 115 := by kernel_rfl
    rw [e1]; show (spc k == false) = !spaceF k; rw [spc_space]; cases spaceF k <;> rfl
theorem let_none {c : Nat} (h : mng c = none) : isLet c = false := by
  cases hl : isLet c with
  | false => rfl
  | true =>
    unfold isLet at hl
    simp at hl
    have hc : c = 100 ∨ c = 119 ∨ c = 115 ∨ c = 68 ∨ c = 87 ∨ c = 83 := by omega
    rcases hc with rfl | rfl | rfl | rfl | rfl | rfl <;> (unfold mng mngLow at h; simp at h)
def hexR (bs : List Nat) (i : Nat) : Except Nat (Nat × Nat) := if i < bs.length then (match hexv (bn bs i) with | some v => .ok (v, i + 1) | none => .error i) else .error bs.length
/-- a class, a byte, and whether it is a single one -/
abbrev Esc := (Nat → Bool) × Nat × Bool
def one (b : Nat) : Esc := (rgF b b, b, true)
def thR {α β : Type} (r : Except Nat (α × Nat)) (f : α → Nat → Except Nat (β × Nat)) : Except Nat (β × Nat) :=
  match r with
  | .error p => .error p
  | .ok (a, j) => f a j
def escR (bs : List Nat) (i : Nat) (many : Bool) : Except Nat (Esc × Nat) :=
  if i < bs.length then
    if bn bs i = 110 then .ok (one 10, i + 1) else if bn bs i = 116 then .ok (one 9, i + 1) else if bn bs i = 114 then .ok (one 13, i + 1)
    else if bn bs i = 120 then thR (hexR bs (i + 1)) fun h j => thR (hexR bs j) fun l k => .ok (one (16 * h + l), k)
    else if isM (bn bs i) then .ok (one (bn bs i), i + 1)
    else match mng (bn bs i) with | some f => if many then .ok ((f, 0, false), i + 1) else .error i | none => .error i
  else .error bs.length
theorem hexv_le {x v : Nat} (h : hexv x = some v) : v ≤ 15 := by
  unfold hexv at h
  split at h
  · rename_i hd; have := of_decide_eq_true hd; injection h; omega
  split at h
  · injection h; omega
  split at h
  · injection h; omega
  · cases h
/-- what a call of the scan with a class to answer carries: the answer's block is the first new one -/
structure Es (w wr : World) (g : Nat) (A : Option Addr) (c : Nat) (bs : List Nat) (s : Sc) : Prop where
  sr : Sr wr g A c bs s
  fg : Fg w wr g
  cb : CB wr w.heap.size (fun _ => 0#64)
  lt : g < w.heap.size
section
variable {w wr w' : World} {g : Nat} {A : Option Addr} {c : Nat} {bs : List Nat} {s s' : Sc}
theorem Es.new (h : Sr w g A c bs s) : Es w (w.alloc (.cells #[.int .u64 0, .int .u64 0, .int .u64 0, .int .u64 0] 26)) g A c bs s := ⟨h.alloc _, (Fg.refl _ _).alloc _, CB.new w (fun _ => 0#64), h.lt⟩
theorem Es.to (h : Es w wr g A c bs s) (hr : Sr w' g A c bs s') (hf : Fg wr w' g) : Es w w' g A c bs s' := ⟨hr, h.fg.trans hf, h.cb.fg hf (by have := h.lt; omega), h.lt⟩
theorem Es.below (h : Es w wr g A c bs s) (hb : Below wr.heap.size wr w') : Es w w' g A c bs s := h.to (h.sr.below hb) (Fg.of_below hb g)
theorem Es.drewN (h : Es w wr g A c bs s) (n : Nat) : Es w (wr.drewN n) g A c bs s := h.to (h.sr.drewN n) ((Fg.refl _ _).drewN n)
theorem Es.ret (h : Es w wr g A c bs s) : (wr.cell? ⟨w.heap.size, 0, none⟩ = some (.int .u64 0) ∧ wr.cell? ⟨w.heap.size, 1, none⟩ = some (.int .u64 0) ∧ wr.cell? ⟨w.heap.size, 2, none⟩ = some (.int .u64 0) ∧ wr.cell? ⟨w.heap.size, 3, none⟩ = some (.int .u64 0)) ∧ wr.frozen? ⟨w.heap.size, 0, none⟩ = false ∧ wr.frozen? ⟨w.heap.size, 1, none⟩ = false ∧ wr.frozen? ⟨w.heap.size, 2, none⟩ = false ∧ wr.frozen? ⟨w.heap.size, 3, none⟩ = false :=
  ⟨⟨h.cb.cell 0 (by omega), h.cb.cell 1 (by omega), h.cb.cell 2 (by omega), h.cb.cell 3 (by omega)⟩, h.cb.frozen 0, h.cb.frozen 1, h.cb.frozen 2, h.cb.frozen 3⟩
theorem Es.ends (h : Es w wr g A c bs s) (hl : 0 < bs.length → ow A ≠ some w.heap.size) (x0 x1 x2 x3 : Value) : Sr ((((wr.setCell ⟨w.heap.size, 0, none⟩ x0).setCell ⟨w.heap.size, 1, none⟩ x1).setCell ⟨w.heap.size, 2, none⟩ x2).setCell ⟨w.heap.size, 3, none⟩ x3) g A c bs s ∧ Fg w ((((wr.setCell ⟨w.heap.size, 0, none⟩ x0).setCell ⟨w.heap.size, 1, none⟩ x1).setCell ⟨w.heap.size, 2, none⟩ x2).setCell ⟨w.heap.size, 3, none⟩ x3) g := by
  refine ⟨?_, h.fg.ends4 (Nat.le_refl _) _ _ _ _⟩
  have hb : ∀ k, k ≠ w.heap.size → ((((wr.setCell ⟨w.heap.size, 0, none⟩ x0).setCell ⟨w.heap.size, 1, none⟩ x1).setCell ⟨w.heap.size, 2, none⟩ x2).setCell ⟨w.heap.size, 3, none⟩ x3).heap[k]? = wr.heap[k]? := fun k hk => by
    rw [Below.heap_setCell _ ⟨w.heap.size, 3, none⟩ _ k hk, Below.heap_setCell _ ⟨w.heap.size, 2, none⟩ _ k hk, Below.heap_setCell _ ⟨w.heap.size, 1, none⟩ _ k hk, Below.heap_setCell _ ⟨w.heap.size, 0, none⟩ _ k hk]
  refine ⟨(hb g (by have := h.lt; omega)).trans h.sr.block, ?_, h.sr.far, h.sr.len⟩
  exact h.sr.text.blocks (by simp [World.setCell]) fun h0 k hk _ => hb k (fun e => hl h0 (by rw [hk, e]))
end
theorem Bts.old {w : World} {A : Option Addr} {bs : List Nat} (h : Bts w A bs) : 0 < bs.length → ow A ≠ some w.heap.size := fun h0 e => by
  obtain ⟨b, off, rfl, hlt, _⟩ := h.2 h0
  simp [ow] at e
  omega
theorem isK_one {x : Nat} {q : Nat → BitVec 64} (h : IsK (ofF [x] 1) q) : IsK (rgF x x) q := fun i hi => by
  rw [h i hi]
  unfold ofF rgF
  rw [Bool.eq_iff_iff]
  simp only [decide_eq_true_eq]
  constructor
  · rintro ⟨j, hj, e⟩
    obtain rfl : j = 0 := by omega
    have : x = i := e
    omega
  · intro e
    exact ⟨0, by omega, show x = i by omega⟩
theorem bts_one (w : World) (x : Nat) (hx : x < 256) : Bts (w.alloc (.cells #[.int .u8 (x : Int)] 5)) (some ⟨w.heap.size, 0, none⟩) [x] := by
  refine ⟨fun j => ?_, fun _ => ⟨w.heap.size, 0, rfl, by simp, fun j hj => ?_⟩⟩
  · cases j with
    | zero => exact hx
    | succ j => show bn [x] (j + 1) < 256; simp [bn]
  · obtain rfl : j = 0 := by simp at hj; omega
    rw [cell_of_row _ w.heap.size _ _ 5 (0, 0) (heap_alloc_new w _)]
    rfl
/-- the class of one byte, of a new row -/
theorem of1_any (x : Nat) (hx : x < 256) (w : World) : Calls Try.prog 70 #[.slice (some ⟨w.heap.size, 0, none⟩) 1 1] (w.alloc (.cells #[.int .u8 (x : Int)] 5)) (GivesK (w.alloc (.cells #[.int .u8 (x : Int)] 5)) (rgF x x)) :=
  (of2_any (some ⟨w.heap.size, 0, none⟩) 1 [x] _ (bts_one w x hx) (by simp)).mono fun e w' ⟨q, he, hq, hb⟩ => ⟨q, he, isK_one hq, hb⟩
def isEsc : Esc → Value → Prop := fun a v => ∃ q, v = .tuple #[.agg (cw q), .int .i64 (a.2.1 : Nat), .bool a.2.2] ∧ IsK a.1 q ∧ a.2.1 < 256
def anEsc : Value → Prop := fun v => ∃ q z b, v = .tuple #[.agg (cw q), .int .i64 z, .bool b] ∧ 0 ≤ z ∧ z < 256
end Go.Proofs.Ytnaecagmcpndhaa
