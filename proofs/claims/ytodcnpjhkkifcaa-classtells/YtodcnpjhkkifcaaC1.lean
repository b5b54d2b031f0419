/- Walks over the class package: classes in memory, And, Or, Not. -/
import Derived.Test.YtodcnpjhkkifcaaRows
import Derived.WalkKit
import Derived.WalkSpells
import Derived.WalkLawsBesides
import Derived.Lib.Hide
import Derived.Deep.QuietTactic
import Derived.BigQuiet
import Derived.Deep.RegionHeld3
namespace Go.Proofs.Ytodcnpjhkkifcaa
open Go.RowKit

/-- the number that a word stands for -/
def uv (x : BitVec 64) : Int := (x.toNat : Int)
/-- a class as its four words -/
def cw (q : Nat → BitVec 64) : Array Value := #[.int .u64 (uv (q 0)), .int .u64 (uv (q 1)), .int .u64 (uv (q 2)), .int .u64 (uv (q 3))]

theorem uv_lt (x : BitVec 64) : 0 ≤ uv x ∧ uv x < 18446744073709551616 := by
  have := x.isLt
  unfold uv; omega
theorem uv_and (x y : BitVec 64) : bits .and .u64 (uv x) (uv y) = uv (x &&& y) := by
  have hx := uv_lt x; have hy := uv_lt y
  rw [u64_and _ _ hx.1 hx.2 hy.1 hy.2]; simp [uv]
theorem uv_or (x y : BitVec 64) : bits .or .u64 (uv x) (uv y) = uv (x ||| y) := by
  have hx := uv_lt x; have hy := uv_lt y
  rw [u64_or _ _ hx.1 hx.2 hy.1 hy.2]; simp [uv]

/-- block g is just the class q -/
def CB (w : World) (g : Nat) (q : Nat → BitVec 64) : Prop := w.heap[g]? = some (.cells (cw q) 26 (0, 0))
theorem CB.lt {w : World} {g : Nat} {q : Nat → BitVec 64} (h : CB w g q) : g < w.heap.size := by
  rcases Nat.lt_or_ge g w.heap.size with hlt | hge
  · exact hlt
  · unfold CB at h; rw [Array.getElem?_eq_none hge] at h; cases h
theorem CB.cell {w : World} {g : Nat} {q : Nat → BitVec 64} (h : CB w g q) (j : Nat) (hj : j < 4) : w.cell? ⟨g, j, none⟩ = some (.int .u64 (uv (q j))) := by
  have := cell_of_row w g j (cw q) 26 (0, 0) h
  rw [this]
  match j, hj with
  | 0, _ => rfl
  | 1, _ => rfl
  | 2, _ => rfl
  | 3, _ => rfl
theorem CB.frozen {w : World} {g : Nat} {q : Nat → BitVec 64} (h : CB w g q) (j : Nat) : w.frozen? ⟨g, j, none⟩ = false := by
  unfold CB at h
  simp [World.frozen?, h]
theorem CB.set_ {w : World} {g : Nat} {q : Nat → BitVec 64} (h : CB w g q) (j : Nat) (hj : j < 4) (x : BitVec 64) : CB (w.setCell ⟨g, j, none⟩ (.int .u64 (uv x))) g (fun i => if i = j then x else q i) := by
  unfold CB at h ⊢
  simp only [World.setCell, Array.getElem?_modify, h]
  simp only [if_true, Option.map_some]
  match j, hj with
  | 0, _ => rfl
  | 1, _ => rfl
  | 2, _ => rfl
  | 3, _ => rfl
theorem CB.far {w : World} {g : Nat} {q : Nat → BitVec 64} (h : CB w g q) {p : Addr} (hp : g ≠ p.block) (u : Value) : CB (w.setCell p u) g q := (Below.heap_setCell w p u g hp).trans h
theorem CB.below {w w' : World} {g B : Nat} {q : Nat → BitVec 64} (h : CB w g q) (hb : Below B w w') (hg : g < B) : CB w' g q := (hb.block g hg).trans h
theorem CB.new (w : World) (q : Nat → BitVec 64) : CB (w.alloc (.cells (cw q) 26)) w.heap.size q := heap_alloc_new w _
theorem CB.alloc {w : World} {g : Nat} {q : Nat → BitVec 64} (h : CB w g q) (o : Obj) : CB (w.alloc o) g q := (Below.heap_alloc w o g h.lt).trans h
theorem CB.congr {w : World} {g : Nat} {q r : Nat → BitVec 64} (h : CB w g q) (e : ∀ j, j < 4 → q j = r j) : CB w g r := by
  unfold CB cw at *
  rw [← e 0 (by omega), ← e 1 (by omega), ← e 2 (by omega), ← e 3 (by omega)]; exact h

/-- a call that gives a class -/
def GivesC (w : World) (q : Nat → BitVec 64) (e : Ending) (w' : World) : Prop := e = .returned (.agg (cw q)) ∧ Below w.heap.size w w'

set_option maxHeartbeats 1000000 in
theorem or_any (q r : Nat → BitVec 64) (w : World) : Calls Try.prog 18 #[.agg (cw q), .agg (cw r)] w (GivesC w fun j => q j ||| r j) := by
  have h1 := ((CB.new w q).alloc (.cells (cw r) 26)).alloc (.cells #[.int .u64 0, .int .u64 0, .int .u64 0, .int .u64 0] 26)
  have h2 : CB (((w.alloc (.cells (cw q) 26)).alloc (.cells (cw r) 26)).alloc (.cells #[.int .u64 0, .int .u64 0, .int .u64 0, .int .u64 0] 26)) (w.heap.size + 1) r := by
    have := (CB.new (w.alloc (.cells (cw q) 26)) r).alloc (.cells #[.int .u64 0, .int .u64 0, .int .u64 0, .int .u64 0] 26)
    rw [World.size_alloc] at this; exact this
  have h3 : CB (((w.alloc (.cells (cw q) 26)).alloc (.cells (cw r) 26)).alloc (.cells #[.int .u64 0, .int .u64 0, .int .u64 0, .int .u64 0] 26)) (w.heap.size + 1 + 1) (fun _ => 0#64) := by
    have := CB.new ((w.alloc (.cells (cw q) 26)).alloc (.cells (cw r) 26)) (fun _ => 0#64)
    rw [World.size_alloc, World.size_alloc] at this; exact this
  have hb : Below w.heap.size w (((w.alloc (.cells (cw q) 26)).alloc (.cells (cw r) 26)).alloc (.cells #[.int .u64 0, .int .u64 0, .int .u64 0, .int .u64 0] 26)) :=
    (((Below.refl _ _).alloc (Nat.le_refl _) _).alloc (by simp) _).alloc (by simp; omega) _
  unfold cw at h1 h2 h3 hb ⊢
  have H1 := Lib.hid h1; have H2 := Lib.hid h2; have H3 := Lib.hid h3; have HB := Lib.hid hb
  clear h1 h2 h3 hb
  go_enter Try.func18, Try.ntmps18
  go_wp2_with fail
  go_loopw [6] (fun i wr => ∃ k : Nat, k ≤ 4 ∧ i = .int .i64 k ∧ CB wr w.heap.size (fun j => if j < k then q j ||| r j else q j) ∧ CB wr (w.heap.size + 1) r ∧ CB wr (w.heap.size + 1 + 1) (fun _ => 0#64) ∧ Below w.heap.size w wr) (fun i _ => 4 - (intOf i).toNat)
  case atStart => exact ⟨0, by omega, rfl, H1.out, H2.out, H3.out, HB.out⟩
  case round =>
    obtain ⟨k, hk, rfl, h1, h2, h3, hb⟩ := hrel
    clear H1 H2 H3 HB
    have H1 := Lib.hid h1; have H2 := Lib.hid h2; have H3 := Lib.hid h3; have HB := Lib.hid hb
    by_cases hlt : k < 4
    · have c1 := h1.cell k hlt
      rw [if_neg (by omega)] at c1
      have c2 := h2.cell k hlt
      have f1 := h1.frozen k
      clear h1 h2 h3 hb
      have q1 : (0 : Int) ≤ (k : Int) := by omega
      have q2 : (k : Int) < 4 := by omega
      generalize hx : q k = x at c1
      generalize hy : r k = y at c2
      have HX := Lib.hid hx; have HY := Lib.hid hy; clear hx hy
      go_wp2
      go_region
      all_goals
        simp only [uv_or]
        have S1 := Lib.hid (((H1.out.set_ k hlt (x ||| y)).congr (r := fun j => if j < k + 1 then q j ||| r j else q j) fun j hj => by
          have e1 := HX.out; have e2 := HY.out
          by_cases e : j = k
          · subst e; rw [if_pos rfl, if_pos (by omega), e1, e2]
          · by_cases h : j < k
            · rw [if_neg e, if_pos h, if_pos (by omega)]
            · rw [if_neg e, if_neg h, if_neg (by omega)]))
        go_wp2
        go_roundw
        case rel => exact ⟨k + 1, by omega, by go_num, S1.out, H2.out.far (by simp) _, H3.out.far (by simp; omega) _, (HB.out.setCell (Nat.le_refl _) _).drew⟩
        case measure => simp [intOf]; omega
    · obtain rfl : k = 4 := by omega
      have a0 := h1.cell 0 (by omega); have a1 := h1.cell 1 (by omega); have a2 := h1.cell 2 (by omega); have a3 := h1.cell 3 (by omega)
      simp only [show (0 : Nat) < 4 from by omega, show (1 : Nat) < 4 from by omega, show (2 : Nat) < 4 from by omega, show (3 : Nat) < 4 from by omega, if_true] at a0 a1 a2 a3
      have b0 := h3.cell 0 (by omega); have b1 := h3.cell 1 (by omega); have b2 := h3.cell 2 (by omega); have b3 := h3.cell 3 (by omega)
      have z0 := h3.frozen 0; have z1 := h3.frozen 1; have z2 := h3.frozen 2; have z3 := h3.frozen 3
      clear h1 h2 h3 hb
      go_wp2
      exact bodyPost_ret (v := .agg (cw fun j => q j ||| r j)) (by simp [results, Try.results18, go_sem, cw, a0, a1, a2, a3, b0, b1, b2, b3]) rfl ⟨rfl, ((((HB.out.setCell (by simp; omega) _).setCell (by simp; omega) _).setCell (by simp; omega) _).setCell (by simp; omega) _)⟩
set_option maxHeartbeats 1000000 in
theorem and_any (q r : Nat → BitVec 64) (w : World) : Calls Try.prog 16 #[.agg (cw q), .agg (cw r)] w (GivesC w fun j => q j &&& r j) := by
  have h1 := ((CB.new w q).alloc (.cells (cw r) 26)).alloc (.cells #[.int .u64 0, .int .u64 0, .int .u64 0, .int .u64 0] 26)
  have h2 : CB (((w.alloc (.cells (cw q) 26)).alloc (.cells (cw r) 26)).alloc (.cells #[.int .u64 0, .int .u64 0, .int .u64 0, .int .u64 0] 26)) (w.heap.size + 1) r := by
    have := (CB.new (w.alloc (.cells (cw q) 26)) r).alloc (.cells #[.int .u64 0, .int .u64 0, .int .u64 0, .int .u64 0] 26)
    rw [World.size_alloc] at this; exact this
  have h3 : CB (((w.alloc (.cells (cw q) 26)).alloc (.cells (cw r) 26)).alloc (.cells #[.int .u64 0, .int .u64 0, .int .u64 0, .int .u64 0] 26)) (w.heap.size + 1 + 1) (fun _ => 0#64) := by
    have := CB.new ((w.alloc (.cells (cw q) 26)).alloc (.cells (cw r) 26)) (fun _ => 0#64)
    rw [World.size_alloc, World.size_alloc] at this; exact this
  have hb : Below w.heap.size w (((w.alloc (.cells (cw q) 26)).alloc (.cells (cw r) 26)).alloc (.cells #[.int .u64 0, .int .u64 0, .int .u64 0, .int .u64 0] 26)) :=
    (((Below.refl _ _).alloc (Nat.le_refl _) _).alloc (by simp) _).alloc (by simp; omega) _
  unfold cw at h1 h2 h3 hb ⊢
  have H1 := Lib.hid h1; have H2 := Lib.hid h2; have H3 := Lib.hid h3; have HB := Lib.hid hb
  clear h1 h2 h3 hb
  go_enter Try.func16, Try.ntmps16
  go_wp2_with fail
  go_loopw [6] (fun i wr => ∃ k : Nat, k ≤ 4 ∧ i = .int .i64 k ∧ CB wr w.heap.size (fun j => if j < k then q j &&& r j else q j) ∧ CB wr (w.heap.size + 1) r ∧ CB wr (w.heap.size + 1 + 1) (fun _ => 0#64) ∧ Below w.heap.size w wr) (fun i _ => 4 - (intOf i).toNat)
  case atStart => exact ⟨0, by omega, rfl, H1.out, H2.out, H3.out, HB.out⟩
  case round =>
    obtain ⟨k, hk, rfl, h1, h2, h3, hb⟩ := hrel
    clear H1 H2 H3 HB
    have H1 := Lib.hid h1; have H2 := Lib.hid h2; have H3 := Lib.hid h3; have HB := Lib.hid hb
    by_cases hlt : k < 4
    · have c1 := h1.cell k hlt
      rw [if_neg (by omega)] at c1
      have c2 := h2.cell k hlt
      have f1 := h1.frozen k
      clear h1 h2 h3 hb
      have q1 : (0 : Int) ≤ (k : Int) := by omega
      have q2 : (k : Int) < 4 := by omega
      generalize hx : q k = x at c1
      generalize hy : r k = y at c2
      have HX := Lib.hid hx; have HY := Lib.hid hy; clear hx hy
      go_wp2
      go_region
      all_goals
        simp only [uv_and]
        have S1 := Lib.hid (((H1.out.set_ k hlt (x &&& y)).congr (r := fun j => if j < k + 1 then q j &&& r j else q j) fun j hj => by
          have e1 := HX.out; have e2 := HY.out
          by_cases e : j = k
          · subst e; rw [if_pos rfl, if_pos (by omega), e1, e2]
          · by_cases h : j < k
            · rw [if_neg e, if_pos h, if_pos (by omega)]
            · rw [if_neg e, if_neg h, if_neg (by omega)]))
        go_wp2
        go_roundw
        case rel => exact ⟨k + 1, by omega, by go_num, S1.out, H2.out.far (by simp) _, H3.out.far (by simp; omega) _, (HB.out.setCell (Nat.le_refl _) _).drew⟩
        case measure => simp [intOf]; omega
    · obtain rfl : k = 4 := by omega
      have a0 := h1.cell 0 (by omega); have a1 := h1.cell 1 (by omega); have a2 := h1.cell 2 (by omega); have a3 := h1.cell 3 (by omega)
      simp only [show (0 : Nat) < 4 from by omega, show (1 : Nat) < 4 from by omega, show (2 : Nat) < 4 from by omega, show (3 : Nat) < 4 from by omega, if_true] at a0 a1 a2 a3
      have b0 := h3.cell 0 (by omega); have b1 := h3.cell 1 (by omega); have b2 := h3.cell 2 (by omega); have b3 := h3.cell 3 (by omega)
      have z0 := h3.frozen 0; have z1 := h3.frozen 1; have z2 := h3.frozen 2; have z3 := h3.frozen 3
      clear h1 h2 h3 hb
      go_wp2
      exact bodyPost_ret (v := .agg (cw fun j => q j &&& r j)) (by simp [results, Try.results16, go_sem, cw, a0, a1, a2, a3, b0, b1, b2, b3]) rfl ⟨rfl, ((((HB.out.setCell (by simp; omega) _).setCell (by simp; omega) _).setCell (by simp; omega) _).setCell (by simp; omega) _)⟩

theorem uv_xor (x y : BitVec 64) : bits .xor .u64 (uv x) (uv y) = uv (x ^^^ y) := by
  have hx := uv_lt x; have hy := uv_lt y
  rw [u64_xor _ _ hx.1 hx.2 hy.1 hy.2]; simp [uv]
theorem uv_not (x : BitVec 64) : bits .xor .u64 (if IntKind.u64.signed = true then -1 else IntKind.u64.max) (uv x) = uv (~~~x) := by
  have e : (if IntKind.u64.signed = true then -1 else IntKind.u64.max) = uv (BitVec.allOnes 64) := by decide
  rw [e, uv_xor, BitVec.allOnes_xor]

set_option maxHeartbeats 1000000 in
theorem not_any (q : Nat → BitVec 64) (w : World) : Calls Try.prog 19 #[.agg (cw q)] w (GivesC w fun j => ~~~q j) := by
  have h1 := (CB.new w q).alloc (.cells #[.int .u64 0, .int .u64 0, .int .u64 0, .int .u64 0] 26)
  have h3 : CB ((w.alloc (.cells (cw q) 26)).alloc (.cells #[.int .u64 0, .int .u64 0, .int .u64 0, .int .u64 0] 26)) (w.heap.size + 1) (fun _ => 0#64) := by
    have := CB.new (w.alloc (.cells (cw q) 26)) (fun _ => 0#64)
    rw [World.size_alloc] at this; exact this
  have hb : Below w.heap.size w ((w.alloc (.cells (cw q) 26)).alloc (.cells #[.int .u64 0, .int .u64 0, .int .u64 0, .int .u64 0] 26)) :=
    ((Below.refl _ _).alloc (Nat.le_refl _) _).alloc (by simp) _
  unfold cw at h1 h3 hb ⊢
  have H1 := Lib.hid h1; have H3 := Lib.hid h3; have HB := Lib.hid hb
  clear h1 h3 hb
  go_enter Try.func19, Try.ntmps19
  go_wp2_with fail
  go_loopw [4] (fun i wr => ∃ k : Nat, k ≤ 4 ∧ i = .int .i64 k ∧ CB wr w.heap.size (fun j => if j < k then ~~~q j else q j) ∧ CB wr (w.heap.size + 1) (fun _ => 0#64) ∧ Below w.heap.size w wr) (fun i _ => 4 - (intOf i).toNat)
  case atStart => exact ⟨0, by omega, rfl, H1.out, H3.out, HB.out⟩
  case round =>
    obtain ⟨k, hk, rfl, h1, h3, hb⟩ := hrel
    clear H1 H3 HB
    have H1 := Lib.hid h1; have H3 := Lib.hid h3; have HB := Lib.hid hb
    by_cases hlt : k < 4
    · have c1 := h1.cell k hlt
      rw [if_neg (by omega)] at c1
      have f1 := h1.frozen k
      clear h1 h3 hb
      generalize hx : q k = x at c1
      have HX := Lib.hid hx; clear hx
      go_wp2
      go_roundw
      case rel =>
        simp only [uv_not]
        refine ⟨k + 1, by omega, by go_num, ?_, H3.out.far (by simp) _, (HB.out.setCell (Nat.le_refl _) _)⟩
        exact (H1.out.set_ k hlt (~~~x)).congr fun j hj => by
          have e1 := HX.out
          by_cases e : j = k
          · subst e; rw [if_pos rfl, if_pos (by omega), e1]
          · by_cases h : j < k
            · rw [if_neg e, if_pos h, if_pos (by omega)]
            · rw [if_neg e, if_neg h, if_neg (by omega)]
      case measure => simp [intOf]; omega
    · obtain rfl : k = 4 := by omega
      have a0 := h1.cell 0 (by omega); have a1 := h1.cell 1 (by omega); have a2 := h1.cell 2 (by omega); have a3 := h1.cell 3 (by omega)
      simp only [show (0 : Nat) < 4 from by omega, show (1 : Nat) < 4 from by omega, show (2 : Nat) < 4 from by omega, show (3 : Nat) < 4 from by omega, if_true] at a0 a1 a2 a3
      have b0 := h3.cell 0 (by omega); have b1 := h3.cell 1 (by omega); have b2 := h3.cell 2 (by omega); have b3 := h3.cell 3 (by omega)
      have z0 := h3.frozen 0; have z1 := h3.frozen 1; have z2 := h3.frozen 2; have z3 := h3.frozen 3
      clear h1 h3 hb
      go_wp2
      exact bodyPost_ret (v := .agg (cw fun j => ~~~q j)) (by simp [results, Try.results19, go_sem, cw, a0, a1, a2, a3, b0, b1, b2, b3]) rfl ⟨rfl, ((((HB.out.setCell (by simp) _).setCell (by simp) _).setCell (by simp) _).setCell (by simp) _)⟩
end Go.Proofs.Ytodcnpjhkkifcaa
