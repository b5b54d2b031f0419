/- Walks over the lanes package: Add, AddCap, Equal, Least; arrays of eight. -/
import Derived.Test.YthohifibkhdmpaaL2
namespace Go.Proofs.Ythohifibkhdmpaa
open Go.RowKit

/-- two words joined lane by lane -/
def jn (g : Nat → Nat → Nat) (a b : Nat) : Nat := wo (fun k => g (ln a k) (ln b k)) 8
theorem gAdd_lt (x y : Nat) : gAdd x y < 256 := by unfold gAdd; omega
theorem gCap_lt (x y : Nat) : gCap x y < 256 := by unfold gCap; omega
theorem gEq_lt (x y : Nat) : gEq x y < 256 := by unfold gEq; split <;> omega
theorem gMin_lt (x y : Nat) (hx : x < 256) : gMin x y < 256 := by unfold gMin; omega

/-- a call that gives a word -/
def GivesW (w : World) (v : Nat) (e : Ending) (w' : World) : Prop := e = .returned (.int .u64 (v : Nat)) ∧ Below w.heap.size w w'

set_option maxHeartbeats 400000 in
theorem add_any (a b : Nat) (w : World) (ha : a < 18446744073709551616) (hb : b < 18446744073709551616) : Calls Try.prog 10 #[.int .u64 (a : Nat), .int .u64 (b : Nat)] w (GivesW w (jn gAdd a b)) := by
  have H := Lib.hid (join_any 28 gAdd a b w (fun _ _ => rfl) two_add (fun x y _ _ => gAdd_lt x y) ha hb)
  go_enter Try.func10, Try.ntmps10
  go_wp2_with fail
  refine H.out.mono ?_
  rintro e w' ⟨rfl, hb⟩
  go_wp2
  go_ret
  exact ⟨rfl, hb⟩
set_option maxHeartbeats 400000 in
theorem cap_any (a b : Nat) (w : World) (ha : a < 18446744073709551616) (hb : b < 18446744073709551616) : Calls Try.prog 12 #[.int .u64 (a : Nat), .int .u64 (b : Nat)] w (GivesW w (jn gCap a b)) := by
  have H := Lib.hid (join_any 29 gCap a b w (fun _ _ => rfl) two_cap (fun x y _ _ => gCap_lt x y) ha hb)
  go_enter Try.func12, Try.ntmps12
  go_wp2_with fail
  refine H.out.mono ?_
  rintro e w' ⟨rfl, hb⟩
  go_wp2
  go_ret
  exact ⟨rfl, hb⟩
set_option maxHeartbeats 400000 in
theorem eq_any (a b : Nat) (w : World) (ha : a < 18446744073709551616) (hb : b < 18446744073709551616) : Calls Try.prog 13 #[.int .u64 (a : Nat), .int .u64 (b : Nat)] w (GivesW w (jn gEq a b)) := by
  have H := Lib.hid (join_any 30 gEq a b w (fun _ _ => rfl) two_eq (fun x y _ _ => gEq_lt x y) ha hb)
  go_enter Try.func13, Try.ntmps13
  go_wp2_with fail
  refine H.out.mono ?_
  rintro e w' ⟨rfl, hb⟩
  go_wp2
  go_ret
  exact ⟨rfl, hb⟩
set_option maxHeartbeats 400000 in
theorem least_any (a b : Nat) (w : World) (ha : a < 18446744073709551616) (hb : b < 18446744073709551616) : Calls Try.prog 14 #[.int .u64 (a : Nat), .int .u64 (b : Nat)] w (GivesW w (jn gMin a b)) := by
  have H := Lib.hid (join_any 31 gMin a b w (fun _ _ => rfl) two_min (fun x y hx _ => gMin_lt x y hx) ha hb)
  go_enter Try.func14, Try.ntmps14
  go_wp2_with fail
  refine H.out.mono ?_
  rintro e w' ⟨rfl, hb⟩
  go_wp2
  go_ret
  exact ⟨rfl, hb⟩

/-- an array of eight -/
def ar (kd : IntKind) (q : Nat → Nat) : Array Value := #[.int kd (q 0 : Nat), .int kd (q 1 : Nat), .int kd (q 2 : Nat), .int kd (q 3 : Nat), .int kd (q 4 : Nat), .int kd (q 5 : Nat), .int kd (q 6 : Nat), .int kd (q 7 : Nat)]
/-- block g is just that array -/
def AB (w : World) (g : Nat) (t : TypeId) (kd : IntKind) (q : Nat → Nat) : Prop := w.heap[g]? = some (.cells (ar kd q) t (0, 0))
section
variable {w w' : World} {g : Nat} {t : TypeId} {kd : IntKind} {q r : Nat → Nat}
theorem AB.lt (h : AB w g t kd q) : g < w.heap.size := by
  rcases Nat.lt_or_ge g w.heap.size with hlt | hge
  · exact hlt
  · unfold AB at h; rw [Array.getElem?_eq_none hge] at h; cases h
theorem AB.cell (h : AB w g t kd q) (j : Nat) (hj : j < 8) : w.cell? ⟨g, j, none⟩ = some (.int kd (q j : Nat)) := by
  rw [cell_of_row w g j (ar kd q) t (0, 0) h]
  match j, hj with
  | 0, _ => rfl
  | 1, _ => rfl
  | 2, _ => rfl
  | 3, _ => rfl
  | 4, _ => rfl
  | 5, _ => rfl
  | 6, _ => rfl
  | 7, _ => rfl
theorem AB.frozen (h : AB w g t kd q) (j : Nat) : w.frozen? ⟨g, j, none⟩ = false := by
  unfold AB at h
  simp [World.frozen?, h]
theorem AB.set_ (h : AB w g t kd q) (j : Nat) (hj : j < 8) (x : Nat) : AB (w.setCell ⟨g, j, none⟩ (.int kd (x : Nat))) g t kd (fun i => if i = j then x else q i) := by
  unfold AB at h ⊢
  simp only [World.setCell, Array.getElem?_modify, h]
  simp only [if_true, Option.map_some]
  match j, hj with
  | 0, _ => rfl
  | 1, _ => rfl
  | 2, _ => rfl
  | 3, _ => rfl
  | 4, _ => rfl
  | 5, _ => rfl
  | 6, _ => rfl
  | 7, _ => rfl
theorem AB.far (h : AB w g t kd q) {p : Addr} (hp : g ≠ p.block) (u : Value) : AB (w.setCell p u) g t kd q := (Below.heap_setCell w p u g hp).trans h
theorem AB.below {B : Nat} (h : AB w g t kd q) (hb : Below B w w') (hg : g < B) : AB w' g t kd q := (hb.block g hg).trans h
theorem AB.new (w : World) (t : TypeId) (kd : IntKind) (q : Nat → Nat) : AB (w.alloc (.cells (ar kd q) t)) w.heap.size t kd q := heap_alloc_new w _
theorem AB.alloc (h : AB w g t kd q) (o : Obj) : AB (w.alloc o) g t kd q := (Below.heap_alloc w o g h.lt).trans h
theorem AB.congr (h : AB w g t kd q) (e : ∀ j, j < 8 → q j = r j) : AB w g t kd r := by
  unfold AB ar at *
  rw [← e 0 (by omega), ← e 1 (by omega), ← e 2 (by omega), ← e 3 (by omega), ← e 4 (by omega), ← e 5 (by omega), ← e 6 (by omega), ← e 7 (by omega)]; exact h
end
theorem ar_congr {kd : IntKind} {q r : Nat → Nat} (e : ∀ j, j < 8 → q j = r j) : ar kd q = ar kd r := by
  unfold ar
  rw [e 0 (by omega), e 1 (by omega), e 2 (by omega), e 3 (by omega), e 4 (by omega), e 5 (by omega), e 6 (by omega), e 7 (by omega)]

/-- the zeros of a new array -/
def zz (kd : IntKind) : Array Value := #[.int kd 0, .int kd 0, .int kd 0, .int kd 0, .int kd 0, .int kd 0, .int kd 0, .int kd 0]
theorem zz_ar (kd : IntKind) : zz kd = ar kd (fun _ => 0) := rfl
theorem ends8 {B : Nat} {w wr : World} {g : Nat} (hb : Below B w wr) (hg : B ≤ g) (a0 a1 a2 a3 a4 a5 a6 a7 : Value) :
    Below B w ((((((((wr.setCell ⟨g, 0, none⟩ a0).setCell ⟨g, 1, none⟩ a1).setCell ⟨g, 2, none⟩ a2).setCell ⟨g, 3, none⟩ a3).setCell ⟨g, 4, none⟩ a4).setCell ⟨g, 5, none⟩ a5).setCell ⟨g, 6, none⟩ a6).setCell ⟨g, 7, none⟩ a7) :=
  (((((((hb.setCell hg _).setCell hg _).setCell hg _).setCell hg _).setCell hg _).setCell hg _).setCell hg _).setCell hg _

/-- the lanes below k are told, the others are 0 -/
def upto (f : Nat → Nat) (k j : Nat) : Nat := if j < k then f j else 0
theorem upto_zero (f : Nat → Nat) : upto f 0 = fun _ => 0 := rfl
theorem upto_succ (f : Nat → Nat) (k j : Nat) : (if j = k then f k else upto f k j) = upto f (k + 1) j := by
  unfold upto
  by_cases e : j = k
  · subst e; rw [if_pos rfl, if_pos (by omega)]
  · rw [if_neg e]
    by_cases h : j < k
    · rw [if_pos h, if_pos (by omega)]
    · rw [if_neg h, if_neg (by omega)]
theorem AB.step {w : World} {g k : Nat} {t : TypeId} {kd : IntKind} {f : Nat → Nat} (h : AB w g t kd (upto f k)) (hk : k < 8) : AB (w.setCell ⟨g, k, none⟩ (.int kd (f k : Nat))) g t kd (upto f (k + 1)) :=
  (h.set_ k hk (f k)).congr fun j _ => upto_succ f k j
theorem AB.full {w : World} {g : Nat} {t : TypeId} {kd : IntKind} {f : Nat → Nat} (h : AB w g t kd (upto f 8)) : AB w g t kd f :=
  h.congr fun j hj => if_pos hj

theorem lane_tmod (v k : Nat) : wrap64 (((v : Int) / 2 ^ (8 * k)).tmod 256) = (ln v k : Nat) := by
  have h0 : (0 : Int) ≤ (v : Int) / 2 ^ (8 * k) := Int.ediv_nonneg (by omega) (Int.le_of_lt (Int.pow_pos (by omega)))
  rw [Int.tmod_eq_emod_of_nonneg h0, lane_num]
  have := ln_lt v k
  unfold wrap64; omega
set_option maxHeartbeats 400000 in
theorem lanes2_any (v : Nat) (w : World) (hv : v < 18446744073709551616) : Calls Try.prog 17 #[.int .u64 (v : Nat)] w fun e w' => e = .returned (.agg (ar .i64 (ln v))) ∧ Below w.heap.size w w' := by
  have h1 : AB ((w.alloc (.cells (zz .i64) 31)).alloc (.cells (zz .i64) 31)) w.heap.size 31 .i64 (fun _ => 0) := (AB.new w 31 .i64 (fun _ => 0)).alloc _
  have h2 : AB ((w.alloc (.cells (zz .i64) 31)).alloc (.cells (zz .i64) 31)) (w.heap.size + 1) 31 .i64 (upto (ln v) 0) := by
    have := AB.new (w.alloc (.cells (zz .i64) 31)) 31 .i64 (fun _ => 0)
    rw [World.size_alloc] at this; exact this
  have hb : Below w.heap.size w ((w.alloc (.cells (zz .i64) 31)).alloc (.cells (zz .i64) 31)) := ((Below.refl _ _).alloc (Nat.le_refl _) _).alloc (by simp) _
  have H1 := Lib.hid h1; have H2 := Lib.hid h2; have HB := Lib.hid hb
  clear h1 h2 hb
  go_enter Try.func17, Try.ntmps17
  go_wp2_with fail
  go_loopw [4] (fun i wr => ∃ k : Nat, k ≤ 8 ∧ i = .int .i64 k ∧ AB wr w.heap.size 31 .i64 (fun _ => 0) ∧ AB wr (w.heap.size + 1) 31 .i64 (upto (ln v) k) ∧ Below w.heap.size w wr) (fun i _ => 8 - (intOf i).toNat)
  case atStart => exact ⟨0, by omega, rfl, H1.out, H2.out, HB.out⟩
  case round =>
    obtain ⟨k, hk, rfl, h1, h2, hb⟩ := hrel
    clear H1 H2 HB
    have H1 := Lib.hid h1; have H2 := Lib.hid h2; have HB := Lib.hid hb
    by_cases hlt : k < 8
    · have c1 := h2.cell k hlt
      have f1 := h2.frozen k
      have HS := Lib.hid (h2.step hlt)
      clear h1 h2 hb
      go_wp2
      go_roundw
      case rel =>
        refine ⟨k + 1, by omega, by go_num, H1.out.far (by simp) _, ?_, HB.out.setCell (by simp) _⟩
        rw [lane_tmod]; exact HS.out
      case measure => simp [intOf]; omega
    · obtain rfl : k = 8 := by omega
      have h2 := h2.full
      have a0 := h2.cell 0 (by omega); have a1 := h2.cell 1 (by omega); have a2 := h2.cell 2 (by omega); have a3 := h2.cell 3 (by omega)
      have a4 := h2.cell 4 (by omega); have a5 := h2.cell 5 (by omega); have a6 := h2.cell 6 (by omega); have a7 := h2.cell 7 (by omega)
      have b0 := h1.cell 0 (by omega); have b1 := h1.cell 1 (by omega); have b2 := h1.cell 2 (by omega); have b3 := h1.cell 3 (by omega)
      have b4 := h1.cell 4 (by omega); have b5 := h1.cell 5 (by omega); have b6 := h1.cell 6 (by omega); have b7 := h1.cell 7 (by omega)
      have z0 := h1.frozen 0; have z1 := h1.frozen 1; have z2 := h1.frozen 2; have z3 := h1.frozen 3
      have z4 := h1.frozen 4; have z5 := h1.frozen 5; have z6 := h1.frozen 6; have z7 := h1.frozen 7
      clear h1 h2 hb
      go_wp2
      exact bodyPost_ret (v := .agg (ar .i64 (ln v))) (by simp [results, Try.results17, go_sem, ar, a0, a1, a2, a3, a4, a5, a6, a7, b0, b1, b2, b3, b4, b5, b6, b7]) rfl ⟨rfl, ends8 HB.out (Nat.le_refl _) _ _ _ _ _ _ _ _⟩
end Go.Proofs.Ythohifibkhdmpaa
