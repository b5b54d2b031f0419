/- Classes in memory: Or, Not, Range, and classes compared. -/
import Derived.Test.YtkljagffccommaaRows
import Derived.WalkKit
import Derived.WalkSpells
import Derived.WalkLawsBesides
import Derived.Lib.Hide
import Derived.Deep.QuietTactic
import Derived.BigQuiet
import Derived.Deep.RegionHeld3
namespace Go.Proofs.Ytkljagffccommaa
open Go.RowKit

/-- the number that a word stands for -/
def uv (x : BitVec 64) : Int := (x.toNat : Int)
/-- a class as its four words -/
def cw (q : Nat → BitVec 64) : Array Value := #[.int .u64 (uv (q 0)), .int .u64 (uv (q 1)), .int .u64 (uv (q 2)), .int .u64 (uv (q 3))]

theorem uv_lt (x : BitVec 64) : 0 ≤ uv x ∧ uv x < 18446744073709551616 := by
  have := x.isLt
  unfold uv; omega
theorem uv_and (x y : BitVec 64) : bits .and .u64 (uv x) (uv y) = uv (x &&& y) := by
  have hx := uv_lt x; have hy := uv_lt y
  rw [u64_and _ _ hx.1 hx.2 hy.1 hy.2]; simp [uv]
theorem uv_or (x y : BitVec 64) : bits .or .u64 (uv x) (uv y) = uv (x ||| y) := by
  have hx := uv_lt x; have hy := uv_lt y
  rw [u64_or _ _ hx.1 hx.2 hy.1 hy.2]; simp [uv]

/-- block g is just the class q -/
def CB (w : World) (g : Nat) (q : Nat → BitVec 64) : Prop := w.heap[g]? = some (.cells (cw q) 26 (0, 0))
theorem CB.lt {w : World} {g : Nat} {q : Nat → BitVec 64} (h : CB w g q) : g < w.heap.size := by
  rcases Nat.lt_or_ge g w.heap.size with hlt | hge
  · exact hlt
  · unfold CB at h; rw [Array.getElem?_eq_none hge] at h; cases h
theorem CB.cell {w : World} {g : Nat} {q : Nat → BitVec 64} (h : CB w g q) (j : Nat) (hj : j < 4) : w.cell? ⟨g, j, none⟩ = some (.int .u64 (uv (q j))) := by
  have := cell_of_row w g j (cw q) 26 (0, 0) h
  rw [this]
  match j, hj with
  | 0, _ => rfl
  | 1, _ => rfl
  | 2, _ => rfl
  | 3, _ => rfl
theorem CB.frozen {w : World} {g : Nat} {q : Nat → BitVec 64} (h : CB w g q) (j : Nat) : w.frozen? ⟨g, j, none⟩ = false := by
  unfold CB at h
  simp [World.frozen?, h]
theorem CB.set_ {w : World} {g : Nat} {q : Nat → BitVec 64} (h : CB w g q) (j : Nat) (hj : j < 4) (x : BitVec 64) : CB (w.setCell ⟨g, j, none⟩ (.int .u64 (uv x))) g (fun i => if i = j then x else q i) := by
  unfold CB at h ⊢
  simp only [World.setCell, Array.getElem?_modify, h]
  simp only [if_true, Option.map_some]
  match j, hj with
  | 0, _ => rfl
  | 1, _ => rfl
  | 2, _ => rfl
  | 3, _ => rfl
theorem CB.far {w : World} {g : Nat} {q : Nat → BitVec 64} (h : CB w g q) {p : Addr} (hp : g ≠ p.block) (u : Value) : CB (w.setCell p u) g q := (Below.heap_setCell w p u g hp).trans h
theorem CB.below {w w' : World} {g B : Nat} {q : Nat → BitVec 64} (h : CB w g q) (hb : Below B w w') (hg : g < B) : CB w' g q := (hb.block g hg).trans h
theorem CB.new (w : World) (q : Nat → BitVec 64) : CB (w.alloc (.cells (cw q) 26)) w.heap.size q := heap_alloc_new w _
theorem CB.alloc {w : World} {g : Nat} {q : Nat → BitVec 64} (h : CB w g q) (o : Obj) : CB (w.alloc o) g q := (Below.heap_alloc w o g h.lt).trans h
theorem CB.congr {w : World} {g : Nat} {q r : Nat → BitVec 64} (h : CB w g q) (e : ∀ j, j < 4 → q j = r j) : CB w g r := by
  unfold CB cw at *
  rw [← e 0 (by omega), ← e 1 (by omega), ← e 2 (by omega), ← e 3 (by omega)]; exact h

/-- a call that gives a class -/
def GivesC (w : World) (q : Nat → BitVec 64) (e : Ending) (w' : World) : Prop := e = .returned (.agg (cw q)) ∧ Below w.heap.size w w'

set_option maxHeartbeats 1000000 in
theorem or_any (q r : Nat → BitVec 64) (w : World) : Calls Try.prog 63 #[.agg (cw q), .agg (cw r)] w (GivesC w fun j => q j ||| r j) := by
  have h1 := ((CB.new w q).alloc (.cells (cw r) 26)).alloc (.cells #[.int .u64 0, .int .u64 0, .int .u64 0, .int .u64 0] 26)
  have h2 : CB (((w.alloc (.cells (cw q) 26)).alloc (.cells (cw r) 26)).alloc (.cells #[.int .u64 0, .int .u64 0, .int .u64 0, .int .u64 0] 26)) (w.heap.size + 1) r := by
    have := (CB.new (w.alloc (.cells (cw q) 26)) r).alloc (.cells #[.int .u64 0, .int .u64 0, .int .u64 0, .int .u64 0] 26)
    rw [World.size_alloc] at this; exact this
  have h3 : CB (((w.alloc (.cells (cw q) 26)).alloc (.cells (cw r) 26)).alloc (.cells #[.int .u64 0, .int .u64 0, .int .u64 0, .int .u64 0] 26)) (w.heap.size + 1 + 1) (fun _ => 0#64) := by
    have := CB.new ((w.alloc (.cells (cw q) 26)).alloc (.cells (cw r) 26)) (fun _ => 0#64)
    rw [World.size_alloc, World.size_alloc] at this; exact this
  have hb : Below w.heap.size w (((w.alloc (.cells (cw q) 26)).alloc (.cells (cw r) 26)).alloc (.cells #[.int .u64 0, .int .u64 0, .int .u64 0, .int .u64 0] 26)) :=
    (((Below.refl _ _).alloc (Nat.le_refl _) _).alloc (by simp) _).alloc (by simp; omega) _
  unfold cw at h1 h2 h3 hb ⊢
  have H1 := Lib.hid h1; have H2 := Lib.hid h2; have H3 := Lib.hid h3; have HB := Lib.hid hb
  clear h1 h2 h3 hb
  go_enter Try.func63, Try.ntmps63
  go_wp2_with fail
  go_loopw [6] (fun i wr => ∃ k : Nat, k ≤ 4 ∧ i = .int .i64 k ∧ CB wr w.heap.size (fun j => if j < k then q j ||| r j else q j) ∧ CB wr (w.heap.size + 1) r ∧ CB wr (w.heap.size + 1 + 1) (fun _ => 0#64) ∧ Below w.heap.size w wr) (fun i _ => 4 - (intOf i).toNat)
  case atStart => exact ⟨0, by omega, rfl, H1.out, H2.out, H3.out, HB.out⟩
  case round =>
    obtain ⟨k, hk, rfl, h1, h2, h3, hb⟩ := hrel
    clear H1 H2 H3 HB
    have H1 := Lib.hid h1; have H2 := Lib.hid h2; have H3 := Lib.hid h3; have HB := Lib.hid hb
    by_cases hlt : k < 4
    · have c1 := h1.cell k hlt
      rw [if_neg (by omega)] at c1
      have c2 := h2.cell k hlt
      have f1 := h1.frozen k
      clear h1 h2 h3 hb
      have q1 : (0 : Int) ≤ (k : Int) := by omega
      have q2 : (k : Int) < 4 := by omega
      generalize hx : q k = x at c1
      generalize hy : r k = y at c2
      have HX := Lib.hid hx; have HY := Lib.hid hy; clear hx hy
      go_wp2
      go_region
      all_goals
        simp only [uv_or]
        have S1 := Lib.hid (((H1.out.set_ k hlt (x ||| y)).congr (r := fun j => if j < k + 1 then q j ||| r j else q j) fun j hj => by
          have e1 := HX.out; have e2 := HY.out
          by_cases e : j = k
          · subst e; rw [if_pos rfl, if_pos (by omega), e1, e2]
          · by_cases h : j < k
            · rw [if_neg e, if_pos h, if_pos (by omega)]
            · rw [if_neg e, if_neg h, if_neg (by omega)]))
        go_wp2
        go_roundw
        case rel => exact ⟨k + 1, by omega, by go_num, S1.out, H2.out.far (by simp) _, H3.out.far (by simp; omega) _, (HB.out.setCell (Nat.le_refl _) _).drew⟩
        case measure => simp [intOf]; omega
    · obtain rfl : k = 4 := by omega
      have a0 := h1.cell 0 (by omega); have a1 := h1.cell 1 (by omega); have a2 := h1.cell 2 (by omega); have a3 := h1.cell 3 (by omega)
      simp only [show (0 : Nat) < 4 from by omega, show (1 : Nat) < 4 from by omega, show (2 : Nat) < 4 from by omega, show (3 : Nat) < 4 from by omega, if_true] at a0 a1 a2 a3
      have b0 := h3.cell 0 (by omega); have b1 := h3.cell 1 (by omega); have b2 := h3.cell 2 (by omega); have b3 := h3.cell 3 (by omega)
      have z0 := h3.frozen 0; have z1 := h3.frozen 1; have z2 := h3.frozen 2; have z3 := h3.frozen 3
      clear h1 h2 h3 hb
      go_wp2
      exact bodyPost_ret (v := .agg (cw fun j => q j ||| r j)) (by simp [results, Try.results63, go_sem, cw, a0, a1, a2, a3, b0, b1, b2, b3]) rfl ⟨rfl, ((((HB.out.setCell (by simp; omega) _).setCell (by simp; omega) _).setCell (by simp; omega) _).setCell (by simp; omega) _)⟩
theorem uv_xor (x y : BitVec 64) : bits .xor .u64 (uv x) (uv y) = uv (x ^^^ y) := by
  have hx := uv_lt x; have hy := uv_lt y
  rw [u64_xor _ _ hx.1 hx.2 hy.1 hy.2]; simp [uv]
theorem uv_not (x : BitVec 64) : bits .xor .u64 (if IntKind.u64.signed = true then -1 else IntKind.u64.max) (uv x) = uv (~~~x) := by
  have e : (if IntKind.u64.signed = true then -1 else IntKind.u64.max) = uv (BitVec.allOnes 64) := by decide
  rw [e, uv_xor, BitVec.allOnes_xor]

set_option maxHeartbeats 1000000 in
theorem not_any (q : Nat → BitVec 64) (w : World) : Calls Try.prog 60 #[.agg (cw q)] w (GivesC w fun j => ~~~q j) := by
  have h1 := (CB.new w q).alloc (.cells #[.int .u64 0, .int .u64 0, .int .u64 0, .int .u64 0] 26)
  have h3 : CB ((w.alloc (.cells (cw q) 26)).alloc (.cells #[.int .u64 0, .int .u64 0, .int .u64 0, .int .u64 0] 26)) (w.heap.size + 1) (fun _ => 0#64) := by
    have := CB.new (w.alloc (.cells (cw q) 26)) (fun _ => 0#64)
    rw [World.size_alloc] at this; exact this
  have hb : Below w.heap.size w ((w.alloc (.cells (cw q) 26)).alloc (.cells #[.int .u64 0, .int .u64 0, .int .u64 0, .int .u64 0] 26)) :=
    ((Below.refl _ _).alloc (Nat.le_refl _) _).alloc (by simp) _
  unfold cw at h1 h3 hb ⊢
  have H1 := Lib.hid h1; have H3 := Lib.hid h3; have HB := Lib.hid hb
  clear h1 h3 hb
  go_enter Try.func60, Try.ntmps60
  go_wp2_with fail
  go_loopw [4] (fun i wr => ∃ k : Nat, k ≤ 4 ∧ i = .int .i64 k ∧ CB wr w.heap.size (fun j => if j < k then ~~~q j else q j) ∧ CB wr (w.heap.size + 1) (fun _ => 0#64) ∧ Below w.heap.size w wr) (fun i _ => 4 - (intOf i).toNat)
  case atStart => exact ⟨0, by omega, rfl, H1.out, H3.out, HB.out⟩
  case round =>
    obtain ⟨k, hk, rfl, h1, h3, hb⟩ := hrel
    clear H1 H3 HB
    have H1 := Lib.hid h1; have H3 := Lib.hid h3; have HB := Lib.hid hb
    by_cases hlt : k < 4
    · have c1 := h1.cell k hlt
      rw [if_neg (by omega)] at c1
      have f1 := h1.frozen k
      clear h1 h3 hb
      generalize hx : q k = x at c1
      have HX := Lib.hid hx; clear hx
      go_wp2
      go_roundw
      case rel =>
        simp only [uv_not]
        refine ⟨k + 1, by omega, by go_num, ?_, H3.out.far (by simp) _, (HB.out.setCell (Nat.le_refl _) _)⟩
        exact (H1.out.set_ k hlt (~~~x)).congr fun j hj => by
          have e1 := HX.out
          by_cases e : j = k
          · subst e; rw [if_pos rfl, if_pos (by omega), e1]
          · by_cases h : j < k
            · rw [if_neg e, if_pos h, if_pos (by omega)]
            · rw [if_neg e, if_neg h, if_neg (by omega)]
      case measure => simp [intOf]; omega
    · obtain rfl : k = 4 := by omega
      have a0 := h1.cell 0 (by omega); have a1 := h1.cell 1 (by omega); have a2 := h1.cell 2 (by omega); have a3 := h1.cell 3 (by omega)
      simp only [show (0 : Nat) < 4 from by omega, show (1 : Nat) < 4 from by omega, show (2 : Nat) < 4 from by omega, show (3 : Nat) < 4 from by omega, if_true] at a0 a1 a2 a3
      have b0 := h3.cell 0 (by omega); have b1 := h3.cell 1 (by omega); have b2 := h3.cell 2 (by omega); have b3 := h3.cell 3 (by omega)
      have z0 := h3.frozen 0; have z1 := h3.frozen 1; have z2 := h3.frozen 2; have z3 := h3.frozen 3
      clear h1 h3 hb
      go_wp2
      exact bodyPost_ret (v := .agg (cw fun j => ~~~q j)) (by simp [results, Try.results60, go_sem, cw, a0, a1, a2, a3, b0, b1, b2, b3]) rfl ⟨rfl, ((((HB.out.setCell (by simp) _).setCell (by simp) _).setCell (by simp) _).setCell (by simp) _)⟩

theorem ret_int {k : IntKind} {a b : Int} (h : a = b) : Ending.returned (.int k a) = .returned (.int k b) := by rw [h]
theorem wrap_pow (k : Nat) (h : k < 64) : IntKind.u64.wrap (2 ^ k) = uv (1#64 <<< k) := by
  rw [IntKind.wrap_u64]
  have h1 : (2 : Nat) ^ k < 2 ^ 64 := Nat.pow_lt_pow_right (by omega) h
  simp only [uv, BitVec.toNat_shiftLeft, BitVec.toNat_ofNat, Nat.shiftLeft_eq]
  rw [show (1 % 2 ^ 64 * 2 ^ k) = 2 ^ k by simp, Nat.mod_eq_of_lt h1]
  have : ((2 : Int) ^ k) = ((2 ^ k : Nat) : Int) := by simp
  rw [this]
  generalize (2 : Nat) ^ k = m at h1 ⊢
  omega

theorem mask_any (b : Nat) (w : World) (hb : b < 256) : Calls Try.prog 84 #[.int .u8 b] w fun e w' => e = .returned (.int .u64 (uv (1#64 <<< (b % 64)))) ∧ w = w' := by
  go_enter Try.func84, Try.ntmps84
  go_wp2
  go_ret
  exact ⟨ret_int (wrap_pow _ (by omega)), rfl⟩

theorem uv_eq_zero (x : BitVec 64) : (uv x == 0) = decide (x = 0#64) := by
  rw [Bool.eq_iff_iff]
  simp [uv]
  constructor
  · intro h; exact BitVec.eq_of_toNat_eq (by simpa using h)
  · intro h; rw [h]; rfl
theorem and_mask (x : BitVec 64) (k : Nat) (hk : k < 64) : (uv (x &&& 1#64 <<< k) != 0) = x.getLsbD k := by
  have h1 : (uv (x &&& 1#64 <<< k) == 0) = decide (x &&& 1#64 <<< k = 0#64) := uv_eq_zero _
  rw [bne, h1]
  rw [Bool.eq_iff_iff]
  simp only [Bool.not_eq_true', decide_eq_false_iff_not]
  constructor
  · intro h
    cases hb : x.getLsbD k with
    | true => rfl
    | false =>
      exfalso; apply h
      apply BitVec.eq_of_getLsbD_eq
      intro l hl
      simp only [BitVec.getLsbD_and, BitVec.getLsbD_shiftLeft, BitVec.getLsbD_zero]
      by_cases hlk : l = k
      · subst hlk; simp [hb]
      · by_cases h2 : l < k
        · simp [h2]
        · have : ¬ (l - k = 0) := by omega
          simp [BitVec.getLsbD_one, this]
  · intro h h0
    have h2 : (x &&& 1#64 <<< k).getLsbD k = true := by simp [h, hk]
    rw [h0] at h2
    simp at h2

/-- the byte i is in the class q -/
def kb (q : Nat → BitVec 64) (i : Nat) : Bool := (q (i / 64)).getLsbD (i % 64)

/-- a class by its bytes -/
def IsK (f : Nat → Bool) (q : Nat → BitVec 64) : Prop := ∀ i, i < 256 → kb q i = f i
theorem word_ext (q r : Nat → BitVec 64) (h : ∀ i, i < 256 → kb q i = kb r i) (j : Nat) (hj : j < 4) : q j = r j := by
  apply BitVec.eq_of_getLsbD_eq
  intro l hl
  have := h (64 * j + l) (by omega)
  unfold kb at this
  rw [show (64 * j + l) / 64 = j by omega, show (64 * j + l) % 64 = l by omega] at this
  exact this
theorem cw_ext (q r : Nat → BitVec 64) (h : ∀ i, i < 256 → kb q i = kb r i) : cw q = cw r := by
  unfold cw
  rw [word_ext q r h 0 (by omega), word_ext q r h 1 (by omega), word_ext q r h 2 (by omega), word_ext q r h 3 (by omega)]
def GivesK (w : World) (f : Nat → Bool) (e : Ending) (w' : World) : Prop := ∃ q, e = .returned (.agg (cw q)) ∧ IsK f q ∧ Below w.heap.size w w'

/-- a class with the byte i -/
def setb (q : Nat → BitVec 64) (i : Nat) : Nat → BitVec 64 := fun j => if j = i / 64 then q (i / 64) ||| 1#64 <<< (i % 64) else q j
theorem kb_setb (q : Nat → BitVec 64) (i j : Nat) : kb (setb q i) j = (kb q j || decide (j = i)) := by
  unfold kb setb
  by_cases e : j / 64 = i / 64
  · rw [if_pos e, BitVec.getLsbD_or, BitVec.getLsbD_shiftLeft, e]
    congr 1
    by_cases h2 : j = i
    · subst h2; simp; omega
    · have h3 : j % 64 ≠ i % 64 := by omega
      rw [decide_eq_false h2]
      by_cases h4 : j % 64 < i % 64
      · simp [h4]
      · have : j % 64 - i % 64 ≠ 0 := by omega
        simp [BitVec.getLsbD_one, this]
  · rw [if_neg e, decide_eq_false (by omega), Bool.or_false]

/-- bytes in memory -/
def bn (bs : List Nat) (j : Nat) : Nat := bs.getD j 0
def Bts (w : World) (A : Option Addr) (bs : List Nat) : Prop :=
  (∀ j, bn bs j < 256) ∧ (0 < bs.length → ∃ b off, A = some ⟨b, off, none⟩ ∧ b < w.heap.size ∧ ∀ j, j < bs.length → w.cell? ⟨b, off + j, none⟩ = some (.int .u8 (bn bs j : Nat)))
theorem Bts.below {w w' : World} {A : Option Addr} {bs : List Nat} (h : Bts w A bs) (hb : Below w.heap.size w w') : Bts w' A bs := ⟨h.1, fun h0 => by
  obtain ⟨b, off, e, hlt, hc⟩ := h.2 h0
  exact ⟨b, off, e, Nat.lt_of_lt_of_le hlt hb.size, fun j hj => (hb.cell (p := ⟨b, off + j, none⟩) hlt).trans (hc j hj)⟩⟩
theorem ends4 {B : Nat} {w wr : World} {g : Nat} (hb : Below B w wr) (hg : B ≤ g) (a b c d : Value) :
    Below B w ((((wr.setCell ⟨g, 0, none⟩ a).setCell ⟨g, 1, none⟩ b).setCell ⟨g, 2, none⟩ c).setCell ⟨g, 3, none⟩ d) :=
  (((hb.setCell hg _).setCell hg _).setCell hg _).setCell hg _


def rgq (lo : Nat) : Nat → Nat → BitVec 64
  | 0 => fun _ => 0#64
  | k + 1 => setb (rgq lo k) (lo + k)
def rgF (lo hi i : Nat) : Bool := decide (lo ≤ i ∧ i ≤ hi)
theorem kb_rgq (lo i : Nat) : ∀ k, kb (rgq lo k) i = decide (lo ≤ i ∧ i < lo + k)
  | 0 => by rw [decide_eq_false (by omega)]; simp [kb, rgq]
  | k + 1 => by
    rw [rgq, kb_setb, kb_rgq lo i k, Bool.eq_iff_iff]
    simp only [Bool.or_eq_true, decide_eq_true_eq]
    omega

set_option maxHeartbeats 1000000 in
theorem range_any (lo hi : Nat) (w : World) (hlo : lo < 256) (hhi : hi < 256) :
    Calls Try.prog 126 #[.int .u8 (lo : Nat), .int .u8 (hi : Nat)] w (GivesK w (rgF lo hi)) := by
  have h3 : CB ((w.alloc (.cells #[.int .u64 0, .int .u64 0, .int .u64 0, .int .u64 0] 26)).alloc (.cells #[.int .u64 0, .int .u64 0, .int .u64 0, .int .u64 0] 26)) w.heap.size (fun _ => 0#64) :=
    (CB.new w (fun _ => 0#64)).alloc _
  have h1 : CB ((w.alloc (.cells #[.int .u64 0, .int .u64 0, .int .u64 0, .int .u64 0] 26)).alloc (.cells #[.int .u64 0, .int .u64 0, .int .u64 0, .int .u64 0] 26)) (w.heap.size + 1) (rgq lo 0) := by
    have := CB.new (w.alloc (.cells #[.int .u64 0, .int .u64 0, .int .u64 0, .int .u64 0] 26)) (fun _ => 0#64)
    rw [World.size_alloc] at this; exact this
  have hb : Below w.heap.size w ((w.alloc (.cells #[.int .u64 0, .int .u64 0, .int .u64 0, .int .u64 0] 26)).alloc (.cells #[.int .u64 0, .int .u64 0, .int .u64 0, .int .u64 0] 26)) :=
    ((Below.refl _ _).alloc (Nat.le_refl _) _).alloc (by simp) _
  have H1 := Lib.hid h1; have H3 := Lib.hid h3; have HB := Lib.hid hb
  clear h1 h3 hb
  go_enter Try.func126, Try.ntmps126
  go_wp2_with fail
  go_loopw [6] (fun i wr => ∃ k : Nat, (lo + k ≤ hi + 1 ∨ k = 0) ∧ i = .int .i64 ((lo + k : Nat) : Int) ∧ CB wr (w.heap.size + 1) (rgq lo k) ∧ CB wr w.heap.size (fun _ => 0#64) ∧ Below w.heap.size w wr) (fun i _ => hi + 1 - (intOf i).toNat)
  case atStart => exact ⟨0, Or.inr rfl, by go_num, H1.out, H3.out, HB.out⟩
  case round =>
    obtain ⟨k, hk, rfl, h1, h3, hb⟩ := hrel
    clear H1 H3 HB
    have H1 := Lib.hid h1; have H3 := Lib.hid h3; have HB := Lib.hid hb
    obtain ⟨q, hbk⟩ : ∃ q : Nat, q = lo + k := ⟨_, rfl⟩
    rw [← hbk]
    have HBK := Lib.hid hbk
    by_cases hlt : q ≤ hi
    · have hq : q < 256 := by omega
      have HS := Lib.hid (h1.set_ (q / 64) (by omega) (rgq lo k (q / 64) ||| 1#64 <<< (q % 64)))
      have c1 := h1.cell (q / 64) (by omega)
      have f1 := h1.frozen (q / 64)
      generalize hold : rgq lo k (q / 64) = x at HS c1
      have HOLD := Lib.hid hold
      clear h1 h3 hb hold hbk hk
      go_wp2_with fail
      have q1 : (0 : Int) ≤ (q : Int) / 64 := by omega
      have q2 : (q : Int) / 64 < 4 := by omega
      have q3 : ((q : Int) / 64).toNat = q / 64 := by omega
      have q4 : (q : Int).tdiv 64 = (q : Int) / 64 := by rw [Int.tdiv_eq_ediv_of_nonneg (by omega)]
      have q5 : IntKind.i64.wrap ((q : Int) / 64) = (q : Int) / 64 := IntWalk.i64_in _ (by omega)
      have q6 : IntKind.u8.wrap (q : Int) = (q : Int) := by rw [IntKind.wrap_u8']; omega
      go_region_with (go_at_call 84; refine (mask_any q _ (by omega)).mono ?_; rintro e w' ⟨rfl, rfl⟩)
      all_goals
        clear q1 q2 q3 q4 q5 q6
        simp only [uv_or]
        go_wp2
        go_roundw
        case rel =>
          refine ⟨k + 1, Or.inl (by have := HBK.out; omega), by rw [HBK.out]; go_num, ?_, H3.out.far (by simp) _, (HB.out.setCell (by simp) _).drew⟩
          have e : rgq lo (k + 1) = fun i => if i = q / 64 then x ||| 1#64 <<< (q % 64) else rgq lo k i := by
            show setb (rgq lo k) (lo + k) = _
            unfold setb; rw [← HBK.out, HOLD.out]
          rw [e]
          exact HS.out
        case measure => simp [intOf]; omega
    · have hkk : ∀ i, kb (rgq lo k) i = rgF lo hi i := fun i => by
        rw [kb_rgq]; unfold rgF; rw [Bool.eq_iff_iff]; simp only [decide_eq_true_eq]; omega
      generalize rgq lo k = qq at h1 hkk
      have HKK := Lib.hid hkk
      have a0 := h1.cell 0 (by omega); have a1 := h1.cell 1 (by omega); have a2 := h1.cell 2 (by omega); have a3 := h1.cell 3 (by omega)
      have b0 := h3.cell 0 (by omega); have b1 := h3.cell 1 (by omega); have b2 := h3.cell 2 (by omega); have b3 := h3.cell 3 (by omega)
      have z0 := h3.frozen 0; have z1 := h3.frozen 1; have z2 := h3.frozen 2; have z3 := h3.frozen 3
      clear h1 h3 hb hkk hbk hk H1 H3
      go_wp2
      exact bodyPost_ret (v := .agg (cw qq)) (by simp [results, Try.results126, go_sem, cw, a0, a1, a2, a3, b0, b1, b2, b3]) rfl ⟨qq, rfl, fun i _ => HKK.out i, ends4 HB.out (Nat.le_refl _) _ _ _ _⟩


theorem pt0 (a0 a1 a2 a3 : Int) (w : World) : (part 24 #[.int .u64 a0, .int .u64 a1, .int .u64 a2, .int .u64 a3] 0).run Try.prog w = .ok (.int .u64 a0) w := by kernel_rfl
theorem pt1 (a0 a1 a2 a3 : Int) (w : World) : (part 24 #[.int .u64 a0, .int .u64 a1, .int .u64 a2, .int .u64 a3] 1).run Try.prog w = .ok (.int .u64 a1) w := by kernel_rfl
theorem pt2 (a0 a1 a2 a3 : Int) (w : World) : (part 24 #[.int .u64 a0, .int .u64 a1, .int .u64 a2, .int .u64 a3] 2).run Try.prog w = .ok (.int .u64 a2) w := by kernel_rfl
theorem pt3 (a0 a1 a2 a3 : Int) (w : World) : (part 24 #[.int .u64 a0, .int .u64 a1, .int .u64 a2, .int .u64 a3] 3).run Try.prog w = .ok (.int .u64 a3) w := by kernel_rfl
theorem sz24 (w : World) : (sizeOf 24).run Try.prog w = .ok 1 w := by kernel_rfl
theorem eq_arr (d : Nat) (a0 a1 a2 a3 b0 b1 b2 b3 : Int) (w : World) : (Op.equalIn (d + 1 + 1) 26 (.agg #[.int .u64 a0, .int .u64 a1, .int .u64 a2, .int .u64 a3]) (.agg #[.int .u64 b0, .int .u64 b1, .int .u64 b2, .int .u64 b3])).run Try.prog w
    = .ok ((a0 == b0) && ((a1 == b1) && ((a2 == b2) && (a3 == b3)))) w := by
  have e : ∀ (a b : Int) (w : World), (Op.equalIn (d + 1) 24 (.int .u64 a) (.int .u64 b)).run Try.prog w = .ok (a == b) w := fun a b w => run_equalIn_int (P := Try.prog) w d 24 .u64 .u64 a b Try.underlying24
  rw [Op.equalIn]
  generalize d + 1 = d1 at *
  simp only [Sem.run_bind, run_underlying Try.underlying26, Result.andThen_ok, sz24, Std.Legacy.Range.forIn_eq_forIn_range', Std.Legacy.Range.size, List.range', List.forIn_cons, List.forIn_nil, Nat.mul_one, Nat.reduceAdd, pt0, pt1, pt2, pt3, e]
  generalize (a0 == b0) = c0
  cases c0
  · simp [Sem.run_pure, Result.andThen]
  · simp only [Bool.not_true, Bool.false_eq_true, if_false, Sem.run_pure, Result.andThen_ok, Sem.run_bind, pt1, e, Bool.true_and]
    generalize (a1 == b1) = c1
    cases c1
    · simp [Sem.run_pure, Result.andThen]
    · simp only [Bool.not_true, Bool.false_eq_true, if_false, Sem.run_pure, Result.andThen_ok, Sem.run_bind, pt2, e, Bool.true_and]
      generalize (a2 == b2) = c2
      cases c2
      · simp [Sem.run_pure, Result.andThen]
      · simp only [Bool.not_true, Bool.false_eq_true, if_false, Sem.run_pure, Result.andThen_ok, Sem.run_bind, pt3, e, Bool.true_and]
        generalize (a3 == b3) = c3
        cases c3 <;> simp [Sem.run_pure, Result.andThen]

theorem eqk_run (q r : Nat → BitVec 64) (w : World) : (Op.equalIn 10000 26 (.agg (cw q)) (.agg (cw r))).run Try.prog w
    = .ok ((uv (q 0) == uv (r 0)) && ((uv (q 1) == uv (r 1)) && ((uv (q 2) == uv (r 2)) && (uv (q 3) == uv (r 3))))) w :=
  eq_arr 9998 _ _ _ _ _ _ _ _ w
theorem uv_inj (x y : BitVec 64) (h : uv x = uv y) : x = y := by
  unfold uv at h
  exact BitVec.eq_of_toNat_eq (by omega)
theorem eqk_true (q r : Nat → BitVec 64) (h : ∀ i, i < 256 → kb q i = kb r i) (w : World) : (Op.equalIn 10000 26 (.agg (cw q)) (.agg (cw r))).run Try.prog w = .ok true w := by
  rw [eqk_run, word_ext q r h 0 (by omega), word_ext q r h 1 (by omega), word_ext q r h 2 (by omega), word_ext q r h 3 (by omega)]
  simp
theorem eqk_false (q r : Nat → BitVec 64) (i : Nat) (hi : i < 256) (h : kb q i ≠ kb r i) (w : World) : (Op.equalIn 10000 26 (.agg (cw q)) (.agg (cw r))).run Try.prog w = .ok false w := by
  rw [eqk_run]
  congr 1
  apply Bool.eq_false_iff.2
  intro hb
  simp only [Bool.and_eq_true, beq_iff_eq] at hb
  apply h
  have hj : i / 64 < 4 := by omega
  have e : q (i / 64) = r (i / 64) := by
    rcases (show i / 64 = 0 ∨ i / 64 = 1 ∨ i / 64 = 2 ∨ i / 64 = 3 by omega) with e | e | e | e <;> rw [e]
    · exact uv_inj _ _ hb.1
    · exact uv_inj _ _ hb.2.1
    · exact uv_inj _ _ hb.2.2.1
    · exact uv_inj _ _ hb.2.2.2
  unfold kb; rw [e]

end Go.Proofs.Ytkljagffccommaa
