/- Classes in memory: Or, Not, Range, and classes compared. The reader in memory: what it sees, what it takes, how it gives up. The reader's digits, numbers and braces. The reader's numbers, braces and quants. -/
import Derived.Test.YtnaecagmcpndhaaRows
import Derived.WalkKit
import Derived.WalkSpells
import Derived.WalkLawsBesides
import Derived.Lib.Hide
import Derived.Deep.QuietTactic
import Derived.BigQuiet
import Derived.Deep.RegionHeld3
import Derived.Defers
import Derived.Recover
import Derived.RegionTactic
import Derived.OwnWalk
namespace Go.Proofs.Ytnaecagmcpndhaa
open Go.RowKit

/-- the number that a word stands for -/
def uv (x : BitVec 64) : Int := (x.toNat : Int)
/-- a class as its four words -/
def cw (q : Nat → BitVec 64) : Array Value := #[.int .u64 (uv (q 0)), .int .u64 (uv (q 1)), .int .u64 (uv (q 2)), .int .u64 (uv (q 3))]

theorem uv_lt (x : BitVec 64) : 0 ≤ uv x ∧ uv x < 18446744073709551616 := by
  have := x.isLt
  unfold uv; omega
theorem uv_and (x y : BitVec 64) : bits .and .u64 (uv x) (uv y) = uv (x &&& y) := by
  have hx := uv_lt x; have hy := uv_lt y
  rw [u64_and _ _ hx.1 hx.2 hy.1 hy.2]; simp [uv]
theorem uv_or (x y : BitVec 64) : bits .or .u64 (uv x) (uv y) = uv (x ||| y) := by
  have hx := uv_lt x; have hy := uv_lt y
  rw [u64_or _ _ hx.1 hx.2 hy.1 hy.2]; simp [uv]

/-- block g is just the class q -/
def CB (w : World) (g : Nat) (q : Nat → BitVec 64) : Prop := w.heap[g]? = some (.cells (cw q) 26 (0, 0))
theorem CB.lt {w : World} {g : Nat} {q : Nat → BitVec 64} (h : CB w g q) : g < w.heap.size := by
  rcases Nat.lt_or_ge g w.heap.size with hlt | hge
  · exact hlt
  · unfold CB at h; rw [Array.getElem?_eq_none hge] at h; cases h
theorem CB.cell {w : World} {g : Nat} {q : Nat → BitVec 64} (h : CB w g q) (j : Nat) (hj : j < 4) : w.cell? ⟨g, j, none⟩ = some (.int .u64 (uv (q j))) := by
  have := cell_of_row w g j (cw q) 26 (0, 0) h
  rw [this]
  match j, hj with
  | 0, _ => rfl
  | 1, _ => rfl
  | 2, _ => rfl
  | 3, _ => rfl
theorem CB.frozen {w : World} {g : Nat} {q : Nat → BitVec 64} (h : CB w g q) (j : Nat) : w.frozen? ⟨g, j, none⟩ = false := by
  unfold CB at h
  simp [World.frozen?, h]
theorem CB.set_ {w : World} {g : Nat} {q : Nat → BitVec 64} (h : CB w g q) (j : Nat) (hj : j < 4) (x : BitVec 64) : CB (w.setCell ⟨g, j, none⟩ (.int .u64 (uv x))) g (fun i => if i = j then x else q i) := by
  unfold CB at h ⊢
  simp only [World.setCell, Array.getElem?_modify, h]
  simp only [if_true, Option.map_some]
  match j, hj with
  | 0, _ => rfl
  | 1, _ => rfl
  | 2, _ => rfl
  | 3, _ => rfl
theorem CB.far {w : World} {g : Nat} {q : Nat → BitVec 64} (h : CB w g q) {p : Addr} (hp : g ≠ p.block) (u : Value) : CB (w.setCell p u) g q := (Below.heap_setCell w p u g hp).trans h
theorem CB.below {w w' : World} {g B : Nat} {q : Nat → BitVec 64} (h : CB w g q) (hb : Below B w w') (hg : g < B) : CB w' g q := (hb.block g hg).trans h
theorem CB.new (w : World) (q : Nat → BitVec 64) : CB (w.alloc (.cells (cw q) 26)) w.heap.size q := heap_alloc_new w _
theorem CB.alloc {w : World} {g : Nat} {q : Nat → BitVec 64} (h : CB w g q) (o : Obj) : CB (w.alloc o) g q := (Below.heap_alloc w o g h.lt).trans h
theorem CB.congr {w : World} {g : Nat} {q r : Nat → BitVec 64} (h : CB w g q) (e : ∀ j, j < 4 → q j = r j) : CB w g r := by
  unfold CB cw at *
  rw [← e 0 (by omega), ← e 1 (by omega), ← e 2 (by omega), ← e 3 (by omega)]; exact h

/-- a call that gives a class -/
def GivesC (w : World) (q : Nat → BitVec 64) (e : Ending) (w' : World) : Prop := e = .returned (.agg (cw q)) ∧ Below w.heap.size w w'

set_option maxHeartbeats 1000000 in
theorem or_any (q r : Nat → BitVec 64) (w : World) : Calls Try.prog 92 #[.agg (cw q), .agg (cw r)] w (GivesC w fun j => q j ||| r j) := by
  have h1 := ((CB.new w q).alloc (.cells (cw r) 26)).alloc (.cells #[.int .u64 0, .int .u64 0, .int .u64 0, .int .u64 0] 26)
  have h2 : CB (((w.alloc (.cells (cw q) 26)).alloc (.cells (cw r) 26)).alloc (.cells #[.int .u64 0, .int .u64 0, .int .u64 0, .int .u64 0] 26)) (w.heap.size + 1) r := by
    have := (CB.new (w.alloc (.cells (cw q) 26)) r).alloc (.cells #[.int .u64 0, .int .u64 0, .int .u64 0, .int .u64 0] 26)
    rw [World.size_alloc] at this; exact this
  have h3 : CB (((w.alloc (.cells (cw q) 26)).alloc (.cells (cw r) 26)).alloc (.cells #[.int .u64 0, .int .u64 0, .int .u64 0, .int .u64 0] 26)) (w.heap.size + 1 + 1) (fun _ => 0#64) := by
    have := CB.new ((w.alloc (.cells (cw q) 26)).alloc (.cells (cw r) 26)) (fun _ => 0#64)
    rw [World.size_alloc, World.size_alloc] at this; exact this
  have hb : Below w.heap.size w (((w.alloc (.cells (cw q) 26)).alloc (.cells (cw r) 26)).alloc (.cells #[.int .u64 0, .int .u64 0, .int .u64 0, .int .u64 0] 26)) :=
    (((Below.refl _ _).alloc (Nat.le_refl _) _).alloc (by simp) _).alloc (by simp; omega) _
  unfold cw at h1 h2 h3 hb ⊢
  have H1 := Lib.hid h1; have H2 := Lib.hid h2; have H3 := Lib.hid h3; have HB := Lib.hid hb
  clear h1 h2 h3 hb
  go_enter Try.func92, Try.ntmps92
  go_wp2_with fail
  go_loopw [6] (fun i wr => ∃ k : Nat, k ≤ 4 ∧ i = .int .i64 k ∧ CB wr w.heap.size (fun j => if j < k then q j ||| r j else q j) ∧ CB wr (w.heap.size + 1) r ∧ CB wr (w.heap.size + 1 + 1) (fun _ => 0#64) ∧ Below w.heap.size w wr) (fun i _ => 4 - (intOf i).toNat)
  case atStart => exact ⟨0, by omega, rfl, H1.out, H2.out, H3.out, HB.out⟩
  case round =>
    obtain ⟨k, hk, rfl, h1, h2, h3, hb⟩ := hrel
    clear H1 H2 H3 HB
    have H1 := Lib.hid h1; have H2 := Lib.hid h2; have H3 := Lib.hid h3; have HB := Lib.hid hb
    by_cases hlt : k < 4
    · have c1 := h1.cell k hlt
      rw [if_neg (by omega)] at c1
      have c2 := h2.cell k hlt
      have f1 := h1.frozen k
      clear h1 h2 h3 hb
      have q1 : (0 : Int) ≤ (k : Int) := by omega
      have q2 : (k : Int) < 4 := by omega
      generalize hx : q k = x at c1
      generalize hy : r k = y at c2
      have HX := Lib.hid hx; have HY := Lib.hid hy; clear hx hy
      go_wp2
      go_region
      all_goals
        simp only [uv_or]
        have S1 := Lib.hid (((H1.out.set_ k hlt (x ||| y)).congr (r := fun j => if j < k + 1 then q j ||| r j else q j) fun j hj => by
          have e1 := HX.out; have e2 := HY.out
          by_cases e : j = k
          · subst e; rw [if_pos rfl, if_pos (by omega), e1, e2]
          · by_cases h : j < k
            · rw [if_neg e, if_pos h, if_pos (by omega)]
            · rw [if_neg e, if_neg h, if_neg (by omega)]))
        go_wp2
        go_roundw
        case rel => exact ⟨k + 1, by omega, by go_num, S1.out, H2.out.far (by simp) _, H3.out.far (by simp; omega) _, (HB.out.setCell (Nat.le_refl _) _).drew⟩
        case measure => simp [intOf]; omega
    · obtain rfl : k = 4 := by omega
      have a0 := h1.cell 0 (by omega); have a1 := h1.cell 1 (by omega); have a2 := h1.cell 2 (by omega); have a3 := h1.cell 3 (by omega)
      simp only [show (0 : Nat) < 4 from by omega, show (1 : Nat) < 4 from by omega, show (2 : Nat) < 4 from by omega, show (3 : Nat) < 4 from by omega, if_true] at a0 a1 a2 a3
      have b0 := h3.cell 0 (by omega); have b1 := h3.cell 1 (by omega); have b2 := h3.cell 2 (by omega); have b3 := h3.cell 3 (by omega)
      have z0 := h3.frozen 0; have z1 := h3.frozen 1; have z2 := h3.frozen 2; have z3 := h3.frozen 3
      clear h1 h2 h3 hb
      go_wp2
      exact bodyPost_ret (v := .agg (cw fun j => q j ||| r j)) (by simp [results, Try.results92, go_sem, cw, a0, a1, a2, a3, b0, b1, b2, b3]) rfl ⟨rfl, ((((HB.out.setCell (by simp; omega) _).setCell (by simp; omega) _).setCell (by simp; omega) _).setCell (by simp; omega) _)⟩
theorem uv_xor (x y : BitVec 64) : bits .xor .u64 (uv x) (uv y) = uv (x ^^^ y) := by
  have hx := uv_lt x; have hy := uv_lt y
  rw [u64_xor _ _ hx.1 hx.2 hy.1 hy.2]; simp [uv]
theorem uv_not (x : BitVec 64) : bits .xor .u64 (if IntKind.u64.signed = true then -1 else IntKind.u64.max) (uv x) = uv (~~~x) := by
  have e : (if IntKind.u64.signed = true then -1 else IntKind.u64.max) = uv (BitVec.allOnes 64) := by decide
  rw [e, uv_xor, BitVec.allOnes_xor]

set_option maxHeartbeats 1000000 in
theorem not_any (q : Nat → BitVec 64) (w : World) : Calls Try.prog 93 #[.agg (cw q)] w (GivesC w fun j => ~~~q j) := by
  have h1 := (CB.new w q).alloc (.cells #[.int .u64 0, .int .u64 0, .int .u64 0, .int .u64 0] 26)
  have h3 : CB ((w.alloc (.cells (cw q) 26)).alloc (.cells #[.int .u64 0, .int .u64 0, .int .u64 0, .int .u64 0] 26)) (w.heap.size + 1) (fun _ => 0#64) := by
    have := CB.new (w.alloc (.cells (cw q) 26)) (fun _ => 0#64)
    rw [World.size_alloc] at this; exact this
  have hb : Below w.heap.size w ((w.alloc (.cells (cw q) 26)).alloc (.cells #[.int .u64 0, .int .u64 0, .int .u64 0, .int .u64 0] 26)) :=
    ((Below.refl _ _).alloc (Nat.le_refl _) _).alloc (by simp) _
  unfold cw at h1 h3 hb ⊢
  have H1 := Lib.hid h1; have H3 := Lib.hid h3; have HB := Lib.hid hb
  clear h1 h3 hb
  go_enter Try.func93, Try.ntmps93
  go_wp2_with fail
  go_loopw [4] (fun i wr => ∃ k : Nat, k ≤ 4 ∧ i = .int .i64 k ∧ CB wr w.heap.size (fun j => if j < k then ~~~q j else q j) ∧ CB wr (w.heap.size + 1) (fun _ => 0#64) ∧ Below w.heap.size w wr) (fun i _ => 4 - (intOf i).toNat)
  case atStart => exact ⟨0, by omega, rfl, H1.out, H3.out, HB.out⟩
  case round =>
    obtain ⟨k, hk, rfl, h1, h3, hb⟩ := hrel
    clear H1 H3 HB
    have H1 := Lib.hid h1; have H3 := Lib.hid h3; have HB := Lib.hid hb
    by_cases hlt : k < 4
    · have c1 := h1.cell k hlt
      rw [if_neg (by omega)] at c1
      have f1 := h1.frozen k
      clear h1 h3 hb
      generalize hx : q k = x at c1
      have HX := Lib.hid hx; clear hx
      go_wp2
      go_roundw
      case rel =>
        simp only [uv_not]
        refine ⟨k + 1, by omega, by go_num, ?_, H3.out.far (by simp) _, (HB.out.setCell (Nat.le_refl _) _)⟩
        exact (H1.out.set_ k hlt (~~~x)).congr fun j hj => by
          have e1 := HX.out
          by_cases e : j = k
          · subst e; rw [if_pos rfl, if_pos (by omega), e1]
          · by_cases h : j < k
            · rw [if_neg e, if_pos h, if_pos (by omega)]
            · rw [if_neg e, if_neg h, if_neg (by omega)]
      case measure => simp [intOf]; omega
    · obtain rfl : k = 4 := by omega
      have a0 := h1.cell 0 (by omega); have a1 := h1.cell 1 (by omega); have a2 := h1.cell 2 (by omega); have a3 := h1.cell 3 (by omega)
      simp only [show (0 : Nat) < 4 from by omega, show (1 : Nat) < 4 from by omega, show (2 : Nat) < 4 from by omega, show (3 : Nat) < 4 from by omega, if_true] at a0 a1 a2 a3
      have b0 := h3.cell 0 (by omega); have b1 := h3.cell 1 (by omega); have b2 := h3.cell 2 (by omega); have b3 := h3.cell 3 (by omega)
      have z0 := h3.frozen 0; have z1 := h3.frozen 1; have z2 := h3.frozen 2; have z3 := h3.frozen 3
      clear h1 h3 hb
      go_wp2
      exact bodyPost_ret (v := .agg (cw fun j => ~~~q j)) (by simp [results, Try.results93, go_sem, cw, a0, a1, a2, a3, b0, b1, b2, b3]) rfl ⟨rfl, ((((HB.out.setCell (by simp) _).setCell (by simp) _).setCell (by simp) _).setCell (by simp) _)⟩

theorem ret_int {k : IntKind} {a b : Int} (h : a = b) : Ending.returned (.int k a) = .returned (.int k b) := by rw [h]
theorem wrap_pow (k : Nat) (h : k < 64) : IntKind.u64.wrap (2 ^ k) = uv (1#64 <<< k) := by
  rw [IntKind.wrap_u64]
  have h1 : (2 : Nat) ^ k < 2 ^ 64 := Nat.pow_lt_pow_right (by omega) h
  simp only [uv, BitVec.toNat_shiftLeft, BitVec.toNat_ofNat, Nat.shiftLeft_eq]
  rw [show (1 % 2 ^ 64 * 2 ^ k) = 2 ^ k by simp, Nat.mod_eq_of_lt h1]
  have : ((2 : Int) ^ k) = ((2 ^ k : Nat) : Int) := by simp
  rw [this]
  generalize (2 : Nat) ^ k = m at h1 ⊢
  omega

theorem mask_any (b : Nat) (w : World) (hb : b < 256) : Calls Try.prog 103 #[.int .u8 b] w fun e w' => e = .returned (.int .u64 (uv (1#64 <<< (b % 64)))) ∧ w = w' := by
  go_enter Try.func103, Try.ntmps103
  go_wp2
  go_ret
  exact ⟨ret_int (wrap_pow _ (by omega)), rfl⟩

theorem uv_eq_zero (x : BitVec 64) : (uv x == 0) = decide (x = 0#64) := by
  rw [Bool.eq_iff_iff]
  simp [uv]
  constructor
  · intro h; exact BitVec.eq_of_toNat_eq (by simpa using h)
  · intro h; rw [h]; rfl
theorem and_mask (x : BitVec 64) (k : Nat) (hk : k < 64) : (uv (x &&& 1#64 <<< k) != 0) = x.getLsbD k := by
  have h1 : (uv (x &&& 1#64 <<< k) == 0) = decide (x &&& 1#64 <<< k = 0#64) := uv_eq_zero _
  rw [bne, h1]
  rw [Bool.eq_iff_iff]
  simp only [Bool.not_eq_true', decide_eq_false_iff_not]
  constructor
  · intro h
    cases hb : x.getLsbD k with
    | true => rfl
    | false =>
      exfalso; apply h
      apply BitVec.eq_of_getLsbD_eq
      intro l hl
      simp only [BitVec.getLsbD_and, BitVec.getLsbD_shiftLeft, BitVec.getLsbD_zero]
      by_cases hlk : l = k
      · subst hlk; simp [hb]
      · by_cases h2 : l < k
        · simp [h2]
        · have : ¬ (l - k = 0) := by omega
          simp [BitVec.getLsbD_one, this]
  · intro h h0
    have h2 : (x &&& 1#64 <<< k).getLsbD k = true := by simp [h, hk]
    rw [h0] at h2
    simp at h2

/-- the byte i is in the class q -/
def kb (q : Nat → BitVec 64) (i : Nat) : Bool := (q (i / 64)).getLsbD (i % 64)

/-- a class by its bytes -/
def IsK (f : Nat → Bool) (q : Nat → BitVec 64) : Prop := ∀ i, i < 256 → kb q i = f i
theorem word_ext (q r : Nat → BitVec 64) (h : ∀ i, i < 256 → kb q i = kb r i) (j : Nat) (hj : j < 4) : q j = r j := by
  apply BitVec.eq_of_getLsbD_eq
  intro l hl
  have := h (64 * j + l) (by omega)
  unfold kb at this
  rw [show (64 * j + l) / 64 = j by omega, show (64 * j + l) % 64 = l by omega] at this
  exact this
theorem cw_ext (q r : Nat → BitVec 64) (h : ∀ i, i < 256 → kb q i = kb r i) : cw q = cw r := by
  unfold cw
  rw [word_ext q r h 0 (by omega), word_ext q r h 1 (by omega), word_ext q r h 2 (by omega), word_ext q r h 3 (by omega)]
def GivesK (w : World) (f : Nat → Bool) (e : Ending) (w' : World) : Prop := ∃ q, e = .returned (.agg (cw q)) ∧ IsK f q ∧ Below w.heap.size w w'

/-- a class with the byte i -/
def setb (q : Nat → BitVec 64) (i : Nat) : Nat → BitVec 64 := fun j => if j = i / 64 then q (i / 64) ||| 1#64 <<< (i % 64) else q j
theorem kb_setb (q : Nat → BitVec 64) (i j : Nat) : kb (setb q i) j = (kb q j || decide (j = i)) := by
  unfold kb setb
  by_cases e : j / 64 = i / 64
  · rw [if_pos e, BitVec.getLsbD_or, BitVec.getLsbD_shiftLeft, e]
    congr 1
    by_cases h2 : j = i
    · subst h2; simp; omega
    · have h3 : j % 64 ≠ i % 64 := by omega
      rw [decide_eq_false h2]
      by_cases h4 : j % 64 < i % 64
      · simp [h4]
      · have : j % 64 - i % 64 ≠ 0 := by omega
        simp [BitVec.getLsbD_one, this]
  · rw [if_neg e, decide_eq_false (by omega), Bool.or_false]

/-- bytes in memory -/
def bn (bs : List Nat) (j : Nat) : Nat := bs.getD j 0
def Bts (w : World) (A : Option Addr) (bs : List Nat) : Prop :=
  (∀ j, bn bs j < 256) ∧ (0 < bs.length → ∃ b off, A = some ⟨b, off, none⟩ ∧ b < w.heap.size ∧ ∀ j, j < bs.length → w.cell? ⟨b, off + j, none⟩ = some (.int .u8 (bn bs j : Nat)))
theorem Bts.below {w w' : World} {A : Option Addr} {bs : List Nat} (h : Bts w A bs) (hb : Below w.heap.size w w') : Bts w' A bs := ⟨h.1, fun h0 => by
  obtain ⟨b, off, e, hlt, hc⟩ := h.2 h0
  exact ⟨b, off, e, Nat.lt_of_lt_of_le hlt hb.size, fun j hj => (hb.cell (p := ⟨b, off + j, none⟩) hlt).trans (hc j hj)⟩⟩
theorem ends4 {B : Nat} {w wr : World} {g : Nat} (hb : Below B w wr) (hg : B ≤ g) (a b c d : Value) :
    Below B w ((((wr.setCell ⟨g, 0, none⟩ a).setCell ⟨g, 1, none⟩ b).setCell ⟨g, 2, none⟩ c).setCell ⟨g, 3, none⟩ d) :=
  (((hb.setCell hg _).setCell hg _).setCell hg _).setCell hg _


def rgq (lo : Nat) : Nat → Nat → BitVec 64
  | 0 => fun _ => 0#64
  | k + 1 => setb (rgq lo k) (lo + k)
def rgF (lo hi i : Nat) : Bool := decide (lo ≤ i ∧ i ≤ hi)
theorem kb_rgq (lo i : Nat) : ∀ k, kb (rgq lo k) i = decide (lo ≤ i ∧ i < lo + k)
  | 0 => by rw [decide_eq_false (by omega)]; simp [kb, rgq]
  | k + 1 => by
    rw [rgq, kb_setb, kb_rgq lo i k, Bool.eq_iff_iff]
    simp only [Bool.or_eq_true, decide_eq_true_eq]
    omega

set_option maxHeartbeats 1000000 in
theorem range_any (lo hi : Nat) (w : World) (hlo : lo < 256) (hhi : hi < 256) :
    Calls Try.prog 96 #[.int .u8 (lo : Nat), .int .u8 (hi : Nat)] w (GivesK w (rgF lo hi)) := by
  have h3 : CB ((w.alloc (.cells #[.int .u64 0, .int .u64 0, .int .u64 0, .int .u64 0] 26)).alloc (.cells #[.int .u64 0, .int .u64 0, .int .u64 0, .int .u64 0] 26)) w.heap.size (fun _ => 0#64) :=
    (CB.new w (fun _ => 0#64)).alloc _
  have h1 : CB ((w.alloc (.cells #[.int .u64 0, .int .u64 0, .int .u64 0, .int .u64 0] 26)).alloc (.cells #[.int .u64 0, .int .u64 0, .int .u64 0, .int .u64 0] 26)) (w.heap.size + 1) (rgq lo 0) := by
    have := CB.new (w.alloc (.cells #[.int .u64 0, .int .u64 0, .int .u64 0, .int .u64 0] 26)) (fun _ => 0#64)
    rw [World.size_alloc] at this; exact this
  have hb : Below w.heap.size w ((w.alloc (.cells #[.int .u64 0, .int .u64 0, .int .u64 0, .int .u64 0] 26)).alloc (.cells #[.int .u64 0, .int .u64 0, .int .u64 0, .int .u64 0] 26)) :=
    ((Below.refl _ _).alloc (Nat.le_refl _) _).alloc (by simp) _
  have H1 := Lib.hid h1; have H3 := Lib.hid h3; have HB := Lib.hid hb
  clear h1 h3 hb
  go_enter Try.func96, Try.ntmps96
  go_wp2_with fail
  go_loopw [6] (fun i wr => ∃ k : Nat, (lo + k ≤ hi + 1 ∨ k = 0) ∧ i = .int .i64 ((lo + k : Nat) : Int) ∧ CB wr (w.heap.size + 1) (rgq lo k) ∧ CB wr w.heap.size (fun _ => 0#64) ∧ Below w.heap.size w wr) (fun i _ => hi + 1 - (intOf i).toNat)
  case atStart => exact ⟨0, Or.inr rfl, by go_num, H1.out, H3.out, HB.out⟩
  case round =>
    obtain ⟨k, hk, rfl, h1, h3, hb⟩ := hrel
    clear H1 H3 HB
    have H1 := Lib.hid h1; have H3 := Lib.hid h3; have HB := Lib.hid hb
    obtain ⟨q, hbk⟩ : ∃ q : Nat, q = lo + k := ⟨_, rfl⟩
    rw [← hbk]
    have HBK := Lib.hid hbk
    by_cases hlt : q ≤ hi
    · have hq : q < 256 := by omega
      have HS := Lib.hid (h1.set_ (q / 64) (by omega) (rgq lo k (q / 64) ||| 1#64 <<< (q % 64)))
      have c1 := h1.cell (q / 64) (by omega)
      have f1 := h1.frozen (q / 64)
      generalize hold : rgq lo k (q / 64) = x at HS c1
      have HOLD := Lib.hid hold
      clear h1 h3 hb hold hbk hk
      go_wp2_with fail
      have q1 : (0 : Int) ≤ (q : Int) / 64 := by omega
      have q2 : (q : Int) / 64 < 4 := by omega
      have q3 : ((q : Int) / 64).toNat = q / 64 := by omega
      have q4 : (q : Int).tdiv 64 = (q : Int) / 64 := by rw [Int.tdiv_eq_ediv_of_nonneg (by omega)]
      have q5 : IntKind.i64.wrap ((q : Int) / 64) = (q : Int) / 64 := IntWalk.i64_in _ (by omega)
      have q6 : IntKind.u8.wrap (q : Int) = (q : Int) := by rw [IntKind.wrap_u8']; omega
      go_region_with (go_at_call 103; refine (mask_any q _ (by omega)).mono ?_; rintro e w' ⟨rfl, rfl⟩)
      all_goals
        clear q1 q2 q3 q4 q5 q6
        simp only [uv_or]
        go_wp2
        go_roundw
        case rel =>
          refine ⟨k + 1, Or.inl (by have := HBK.out; omega), by rw [HBK.out]; go_num, ?_, H3.out.far (by simp) _, (HB.out.setCell (by simp) _).drew⟩
          have e : rgq lo (k + 1) = fun i => if i = q / 64 then x ||| 1#64 <<< (q % 64) else rgq lo k i := by
            show setb (rgq lo k) (lo + k) = _
            unfold setb; rw [← HBK.out, HOLD.out]
          rw [e]
          exact HS.out
        case measure => simp [intOf]; omega
    · have hkk : ∀ i, kb (rgq lo k) i = rgF lo hi i := fun i => by
        rw [kb_rgq]; unfold rgF; rw [Bool.eq_iff_iff]; simp only [decide_eq_true_eq]; omega
      generalize rgq lo k = qq at h1 hkk
      have HKK := Lib.hid hkk
      have a0 := h1.cell 0 (by omega); have a1 := h1.cell 1 (by omega); have a2 := h1.cell 2 (by omega); have a3 := h1.cell 3 (by omega)
      have b0 := h3.cell 0 (by omega); have b1 := h3.cell 1 (by omega); have b2 := h3.cell 2 (by omega); have b3 := h3.cell 3 (by omega)
      have z0 := h3.frozen 0; have z1 := h3.frozen 1; have z2 := h3.frozen 2; have z3 := h3.frozen 3
      clear h1 h3 hb hkk hbk hk H1 H3
      go_wp2
      exact bodyPost_ret (v := .agg (cw qq)) (by simp [results, Try.results96, go_sem, cw, a0, a1, a2, a3, b0, b1, b2, b3]) rfl ⟨qq, rfl, fun i _ => HKK.out i, ends4 HB.out (Nat.le_refl _) _ _ _ _⟩


theorem pt0 (a0 a1 a2 a3 : Int) (w : World) : (part 24 #[.int .u64 a0, .int .u64 a1, .int .u64 a2, .int .u64 a3] 0).run Try.prog w = .ok (.int .u64 a0) w := by kernel_rfl
theorem pt1 (a0 a1 a2 a3 : Int) (w : World) : (part 24 #[.int .u64 a0, .int .u64 a1, .int .u64 a2, .int .u64 a3] 1).run Try.prog w = .ok (.int .u64 a1) w := by kernel_rfl
theorem pt2 (a0 a1 a2 a3 : Int) (w : World) : (part 24 #[.int .u64 a0, .int .u64 a1, .int .u64 a2, .int .u64 a3] 2).run Try.prog w = .ok (.int .u64 a2) w := by kernel_rfl
theorem pt3 (a0 a1 a2 a3 : Int) (w : World) : (part 24 #[.int .u64 a0, .int .u64 a1, .int .u64 a2, .int .u64 a3] 3).run Try.prog w = .ok (.int .u64 a3) w := by kernel_rfl
theorem sz24 (w : World) : (sizeOf 24).run Try.prog w = .ok 1 w := by kernel_rfl
theorem eq_arr (d : Nat) (a0 a1 a2 a3 b0 b1 b2 b3 : Int) (w : World) : (Op.equalIn (d + 1 + 1) 26 (.agg #[.int .u64 a0, .int .u64 a1, .int .u64 a2, .int .u64 a3]) (.agg #[.int .u64 b0, .int .u64 b1, .int .u64 b2, .int .u64 b3])).run Try.prog w
    = .ok ((a0 == b0) && ((a1 == b1) && ((a2 == b2) && (a3 == b3)))) w := by
  have e : ∀ (a b : Int) (w : World), (Op.equalIn (d + 1) 24 (.int .u64 a) (.int .u64 b)).run Try.prog w = .ok (a == b) w := fun a b w => run_equalIn_int (P := Try.prog) w d 24 .u64 .u64 a b Try.underlying24
  rw [Op.equalIn]
  generalize d + 1 = d1 at *
  simp only [Sem.run_bind, run_underlying Try.underlying26, Result.andThen_ok, sz24, Std.Legacy.Range.forIn_eq_forIn_range', Std.Legacy.Range.size, List.range', List.forIn_cons, List.forIn_nil, Nat.mul_one, Nat.reduceAdd, pt0, pt1, pt2, pt3, e]
  generalize (a0 == b0) = c0
  cases c0
  · simp [Sem.run_pure, Result.andThen]
  · simp only [Bool.not_true, Bool.false_eq_true, if_false, Sem.run_pure, Result.andThen_ok, Sem.run_bind, pt1, e, Bool.true_and]
    generalize (a1 == b1) = c1
    cases c1
    · simp [Sem.run_pure, Result.andThen]
    · simp only [Bool.not_true, Bool.false_eq_true, if_false, Sem.run_pure, Result.andThen_ok, Sem.run_bind, pt2, e, Bool.true_and]
      generalize (a2 == b2) = c2
      cases c2
      · simp [Sem.run_pure, Result.andThen]
      · simp only [Bool.not_true, Bool.false_eq_true, if_false, Sem.run_pure, Result.andThen_ok, Sem.run_bind, pt3, e, Bool.true_and]
        generalize (a3 == b3) = c3
        cases c3 <;> simp [Sem.run_pure, Result.andThen]

theorem eqk_run (q r : Nat → BitVec 64) (w : World) : (Op.equalIn 10000 26 (.agg (cw q)) (.agg (cw r))).run Try.prog w
    = .ok ((uv (q 0) == uv (r 0)) && ((uv (q 1) == uv (r 1)) && ((uv (q 2) == uv (r 2)) && (uv (q 3) == uv (r 3))))) w :=
  eq_arr 9998 _ _ _ _ _ _ _ _ w
theorem uv_inj (x y : BitVec 64) (h : uv x = uv y) : x = y := by
  unfold uv at h
  exact BitVec.eq_of_toNat_eq (by omega)
theorem eqk_true (q r : Nat → BitVec 64) (h : ∀ i, i < 256 → kb q i = kb r i) (w : World) : (Op.equalIn 10000 26 (.agg (cw q)) (.agg (cw r))).run Try.prog w = .ok true w := by
  rw [eqk_run, word_ext q r h 0 (by omega), word_ext q r h 1 (by omega), word_ext q r h 2 (by omega), word_ext q r h 3 (by omega)]
  simp
theorem eqk_false (q r : Nat → BitVec 64) (i : Nat) (hi : i < 256) (h : kb q i ≠ kb r i) (w : World) : (Op.equalIn 10000 26 (.agg (cw q)) (.agg (cw r))).run Try.prog w = .ok false w := by
  rw [eqk_run]
  congr 1
  apply Bool.eq_false_iff.2
  intro hb
  simp only [Bool.and_eq_true, beq_iff_eq] at hb
  apply h
  have hj : i / 64 < 4 := by omega
  have e : q (i / 64) = r (i / 64) := by
    rcases (show i / 64 = 0 ∨ i / 64 = 1 ∨ i / 64 = 2 ∨ i / 64 = 3 by omega) with e | e | e | e <;> rw [e]
    · exact uv_inj _ _ hb.1
    · exact uv_inj _ _ hb.2.1
    · exact uv_inj _ _ hb.2.2.1
    · exact uv_inj _ _ hb.2.2.2
  unfold kb; rw [e]

end Go.Proofs.Ytnaecagmcpndhaa
namespace Go.Proofs.Ytnaecagmcpndhaa
open Go.RowKit

theorem bn_mem {bs : List Nat} (h : ∀ j, bn bs j < 256) : ∀ x ∈ bs, x < 256 := by
  intro x hx
  obtain ⟨j, hj, e⟩ := List.getElem_of_mem hx
  have := h j
  simp [bn, List.getD, hj, e] at this
  exact this
theorem mem_bn {bs : List Nat} (h : ∀ x ∈ bs, x < 256) (j : Nat) : bn bs j < 256 := by
  unfold bn
  rcases Nat.lt_or_ge j bs.length with hj | hj
  · simp only [List.getD, List.getElem?_eq_getElem hj, Option.getD_some]; exact h _ (List.getElem_mem hj)
  · simp [List.getD, List.getElem?_eq_none hj]
def ow (A : Option Addr) : Option Nat := A.map (·.block)
/-- all old blocks but g are as they were -/
structure Fg (w w' : World) (g : Nat) : Prop where
  os : w'.os = w.os
  tape : w'.tape = w.tape
  output : w'.output = w.output
  size : w.heap.size ≤ w'.heap.size
  block : ∀ k, k < w.heap.size → k ≠ g → w'.heap[k]? = w.heap[k]?
section
variable {w w1 w' : World} {g : Nat}
theorem Fg.refl (w : World) (g : Nat) : Fg w w g := ⟨rfl, rfl, rfl, Nat.le_refl _, fun _ _ _ => rfl⟩
theorem Fg.drewN (h : Fg w w' g) (n : Nat) : Fg w (w'.drewN n) g := ⟨h.os, h.tape, h.output, h.size, h.block⟩
theorem Fg.drew (h : Fg w w' g) : Fg w w'.drew g := ⟨h.os, h.tape, h.output, h.size, h.block⟩
theorem Fg.alloc (h : Fg w w' g) (o : Obj) : Fg w (w'.alloc o) g := ⟨h.os, h.tape, h.output, Nat.le_trans h.size (by simp), fun k hk hg => (Below.heap_alloc w' o k (Nat.lt_of_lt_of_le hk h.size)).trans (h.block k hk hg)⟩
theorem Fg.set_ (h : Fg w w' g) (o : Nat) (u : Value) : Fg w (w'.setCell ⟨g, o, none⟩ u) g := ⟨h.os, h.tape, h.output, by simpa [World.setCell] using h.size, fun k hk hg => (Below.heap_setCell w' ⟨g, o, none⟩ u k hg).trans (h.block k hk hg)⟩
theorem Fg.set_new (h : Fg w w' g) {p : Addr} (hp : w.heap.size ≤ p.block) (u : Value) : Fg w (w'.setCell p u) g := ⟨h.os, h.tape, h.output, by simpa [World.setCell] using h.size, fun k hk hg => (Below.heap_setCell w' p u k (by omega)).trans (h.block k hk hg)⟩
theorem Fg.trans (h : Fg w w1 g) (h2 : Fg w1 w' g) : Fg w w' g := ⟨h2.os.trans h.os, h2.tape.trans h.tape, h2.output.trans h.output, Nat.le_trans h.size h2.size, fun k hk hg => (h2.block k (Nat.lt_of_lt_of_le hk h.size) hg).trans (h.block k hk hg)⟩
theorem Fg.of_below (h : Below w.heap.size w w') (g : Nat) : Fg w w' g := ⟨h.os, h.tape, h.output, h.size, fun k hk _ => h.block k hk⟩
theorem Fg.below {B : Nat} (h : Fg w w' g) (hg : B ≤ g) (hB : B ≤ w.heap.size) : Below B w w' := ⟨h.os, h.tape, h.output, h.size, fun k hk => h.block k (by omega) (by omega)⟩
end
/-- where a reading stands -/
structure St where
  i : Nat
  op : Nat
  dp : Int
  rp : Int
def St.nx (s : St) : St := { s with i := s.i + 1 }
/-- block g is a reader of the text bs that stands at s -/
structure Rd (w : World) (g : Nat) (A : Option Addr) (c : Nat) (bs : List Nat) (s : St) : Prop where
  block : w.heap[g]? = some (.cells #[.slice A bs.length c, .int .i64 (s.i : Nat), .int .i64 (s.op : Nat), .int .i64 s.dp, .int .i64 s.rp] 49 (0, 0))
  text : Bts w A bs
  far : 0 < bs.length → ow A ≠ some g
  le : s.i ≤ bs.length
  op : s.op ≤ s.i + 1
  len : bs.length ≤ 200
section
variable {w w' : World} {g : Nat} {A : Option Addr} {c : Nat} {bs : List Nat} {s : St}
theorem Rd.lt (h : Rd w g A c bs s) : g < w.heap.size := by
  rcases Nat.lt_or_ge g w.heap.size with hlt | hge
  · exact hlt
  · have := h.block; rw [Array.getElem?_eq_none hge] at this; cases this
theorem Rd.cells (h : Rd w g A c bs s) : w.cell? ⟨g, 0, none⟩ = some (.slice A bs.length c) ∧ w.cell? ⟨g, 1, none⟩ = some (.int .i64 (s.i : Nat)) ∧ w.cell? ⟨g, 2, none⟩ = some (.int .i64 (s.op : Nat)) ∧ w.cell? ⟨g, 3, none⟩ = some (.int .i64 s.dp) ∧ w.cell? ⟨g, 4, none⟩ = some (.int .i64 s.rp) := by
  refine ⟨?_, ?_, ?_, ?_, ?_⟩ <;> rw [cell_of_row w g _ _ 49 (0, 0) h.block] <;> rfl
theorem Rd.frozen (h : Rd w g A c bs s) (j : Nat) : w.frozen? ⟨g, j, none⟩ = false := by
  simp [World.frozen?, h.block]
theorem Bts.blocks (h : Bts w A bs) (hs : w.heap.size ≤ w'.heap.size) (hb : 0 < bs.length → ∀ k, ow A = some k → k < w.heap.size → w'.heap[k]? = w.heap[k]?) : Bts w' A bs :=
  ⟨h.1, fun h0 => by
    have hb := hb h0
    obtain ⟨b, off, rfl, hlt, hc⟩ := h.2 h0
    refine ⟨b, off, rfl, Nat.lt_of_lt_of_le hlt hs, fun j hj => ?_⟩
    rw [World.cell?_of_block (a := ⟨b, off + j, none⟩) (hb b rfl hlt)]
    exact hc j hj⟩
theorem Rd.below (h : Rd w g A c bs s) (hb : Below w.heap.size w w') : Rd w' g A c bs s := ⟨(hb.block g h.lt).trans h.block, h.text.below hb, h.far, h.le, h.op, h.len⟩
theorem Rd.drewN (h : Rd w g A c bs s) (n : Nat) : Rd (w.drewN n) g A c bs s := ⟨h.block, h.text, h.far, h.le, h.op, h.len⟩
theorem Rd.drew (h : Rd w g A c bs s) : Rd w.drew g A c bs s := ⟨h.block, h.text, h.far, h.le, h.op, h.len⟩
theorem Rd.alloc (h : Rd w g A c bs s) (o : Obj) : Rd (w.alloc o) g A c bs s := h.below ((Below.refl _ _).alloc (Nat.le_refl _) _)
theorem Rd.set_new (h : Rd w g A c bs s) {p : Addr} (hp : w.heap.size ≤ p.block) (u : Value) : Rd (w.setCell p u) g A c bs s := h.below ((Below.refl _ _).setCell hp _)
theorem Rd.set_text (h : Rd w g A c bs s) (j : Nat) (u : Value) : Bts (w.setCell ⟨g, j, none⟩ u) A bs :=
  h.text.blocks (by simp [World.setCell]) fun h0 k hk _ => Below.heap_setCell w ⟨g, j, none⟩ u k (fun e => h.far h0 (by rw [hk, e]))
theorem Rd.set1 (h : Rd w g A c bs s) (i : Nat) (hi : i ≤ bs.length) (ho : s.op ≤ i + 1) : Rd (w.setCell ⟨g, 1, none⟩ (.int .i64 (i : Nat))) g A c bs { s with i := i } :=
  ⟨by simp [World.setCell, Array.getElem?_modify, h.block], h.set_text _ _, h.far, hi, ho, h.len⟩
theorem Rd.put1 (h : Rd w g A c bs s) (v : Int) (i : Nat) (hv : v = (i : Int)) (hi : i ≤ bs.length) (ho : s.op ≤ i + 1) : Rd (w.setCell ⟨g, 1, none⟩ (.int .i64 v)) g A c bs { s with i := i } := by subst hv; exact h.set1 i hi ho
theorem Rd.put2 (h : Rd w g A c bs s) (v : Int) (n : Nat) (hv : v = (n : Int)) (hn : n ≤ s.i + 1) : Rd (w.setCell ⟨g, 2, none⟩ (.int .i64 v)) g A c bs { s with op := n } := by
  subst hv
  exact ⟨by simp [World.setCell, Array.getElem?_modify, h.block], h.set_text _ _, h.far, h.le, hn, h.len⟩
theorem Rd.set2 (h : Rd w g A c bs s) (n : Nat) (hn : n ≤ s.i + 1) : Rd (w.setCell ⟨g, 2, none⟩ (.int .i64 (n : Nat))) g A c bs { s with op := n } :=
  ⟨by simp [World.setCell, Array.getElem?_modify, h.block], h.set_text _ _, h.far, h.le, hn, h.len⟩
theorem Rd.set3 (h : Rd w g A c bs s) (d : Int) : Rd (w.setCell ⟨g, 3, none⟩ (.int .i64 d)) g A c bs { s with dp := d } :=
  ⟨by simp [World.setCell, Array.getElem?_modify, h.block], h.set_text _ _, h.far, h.le, h.op, h.len⟩
theorem Rd.set4 (h : Rd w g A c bs s) (d : Int) : Rd (w.setCell ⟨g, 4, none⟩ (.int .i64 d)) g A c bs { s with rp := d } :=
  ⟨by simp [World.setCell, Array.getElem?_modify, h.block], h.set_text _ _, h.far, h.le, h.op, h.len⟩
theorem Rd.byte (h : Rd w g A c bs s) (j : Nat) (hj : j < bs.length) : ∃ b off, A = some ⟨b, off, none⟩ ∧ w.cell? ⟨b, off + j, none⟩ = some (.int .u8 (bn bs j : Nat)) ∧ bn bs j < 256 := by
  obtain ⟨b, off, e, _, hc⟩ := h.text.2 (by omega)
  exact ⟨b, off, e, hc j hj, h.text.1 j⟩
end

/-- the next byte is b -/
def sb (bs : List Nat) (i b : Nat) : Bool := decide (i < bs.length ∧ bn bs i = b)
/-- a quiet call -/
def Quiet (w : World) (v : Value) (e : Ending) (w' : World) : Prop := e = .returned v ∧ ∃ m, w' = w.drewN m

set_option maxHeartbeats 400000 in
theorem ended_any (g : Nat) (A : Option Addr) (c : Nat) (bs : List Nat) (s : St) (w : World) (h : Rd w g A c bs s) :
    Calls Try.prog 57 #[.pointer (some ⟨g, 0, none⟩)] w (Quiet w (.bool (decide (s.i = bs.length)))) := by
  obtain ⟨c0, c1, _⟩ := h.cells
  have hl := h.le
  have q : ((s.i : Int) == (bs.length : Int)) = decide (s.i = bs.length) := by rw [Bool.eq_iff_iff]; simp; omega
  clear h
  go_enter Try.func57, Try.ntmps57
  go_wp2_with fail
  go_quiet (fail)
  go_wp2
  go_ret
  exact ⟨by rw [← q]; rfl, nq, rfl⟩
def Fact20 (W : World) (g : Nat) (b : Bool) : Prop := ∃ A c bs s, Rd W g A c bs s ∧ decide (s.i = bs.length) = b
theorem quiet20 (g : Nat) (b : Bool) (W : World) (m : Nat) (h : Fact20 W g b) : Calls Try.prog 57 #[.pointer (some ⟨g, 0, none⟩)] (W.drewN m) fun e w' => e = .returned (.bool b) ∧ ∃ m', w' = W.drewN m' := by
  obtain ⟨A, c, bs, s, he, rfl⟩ := h
  refine (ended_any g A c bs s (W.drewN m) (he.drewN m)).mono fun e w' ⟨h1, m2, h2⟩ => ⟨h1, m + m2, ?_⟩
  rw [h2]
  simp [World.drewN, Nat.add_assoc]
set_option maxHeartbeats 400000 in
theorem sees_any (g : Nat) (A : Option Addr) (c : Nat) (bs : List Nat) (s : St) (b : Nat) (w : World) (h : Rd w g A c bs s) :
    Calls Try.prog 71 #[.pointer (some ⟨g, 0, none⟩), .int .u8 (b : Nat)] w (Quiet w (.bool (sb bs s.i b))) := by
  obtain ⟨c0, c1, _⟩ := h.cells
  have hl := h.le
  by_cases he : s.i = bs.length
  · have F1 : Hid (Fact20 w g true) := ⟨A, c, bs, s, h, by simp [he]⟩
    have q : sb bs s.i b = false := by unfold sb; rw [decide_eq_false]; omega
    rw [q]
    clear h
    go_enter Try.func71, Try.ntmps71
    go_wp2_with fail
    go_quiet ((go_at_call 57; with_reducible exact quiet20 _ _ _ _ (by exact F1.out)))
    go_wp2
    go_ret
    exact ⟨rfl, nq, rfl⟩
  · have F1 : Hid (Fact20 w g false) := ⟨A, c, bs, s, h, by simp [he]⟩
    obtain ⟨bb, off, rfl, hc, hb⟩ := h.byte s.i (by omega)
    have q : ((bn bs s.i : Int) == (b : Int)) = sb bs s.i b := by unfold sb; rw [Bool.eq_iff_iff]; simp; omega
    have q2 : (s.i : Int) < (bs.length : Int) := by omega
    clear h
    generalize bn bs s.i = y at *
    go_enter Try.func71, Try.ntmps71
    go_wp2_with fail
    go_quiet ((go_at_call 57; with_reducible exact quiet20 _ _ _ _ (by exact F1.out)))
    go_wp2
    go_ret
    exact ⟨by rw [← q]; rfl, nq, rfl⟩
def Fact33 (W : World) (g b : Nat) (r : Bool) : Prop := ∃ A c bs s, Rd W g A c bs s ∧ sb bs s.i b = r
theorem quiet33 (g b : Nat) (r : Bool) (W : World) (m : Nat) (h : Fact33 W g b r) : Calls Try.prog 71 #[.pointer (some ⟨g, 0, none⟩), .int .u8 (b : Nat)] (W.drewN m) fun e w' => e = .returned (.bool r) ∧ ∃ m', w' = W.drewN m' := by
  obtain ⟨A, c, bs, s, he, rfl⟩ := h
  refine (sees_any g A c bs s b (W.drewN m) (he.drewN m)).mono fun e w' ⟨h1, m2, h2⟩ => ⟨h1, m + m2, ?_⟩
  rw [h2]
  simp [World.drewN, Nat.add_assoc]

/-- what a reader's call leaves: it stands at s' -/
def To (w : World) (g : Nat) (A : Option Addr) (c : Nat) (bs : List Nat) (s' : St) (v : Value) (e : Ending) (w' : World) : Prop := e = .returned v ∧ Rd w' g A c bs s' ∧ Fg w w' g
theorem takes_any (g : Nat) (A : Option Addr) (c : Nat) (bs : List Nat) (s : St) (b : Nat) (w : World) (h : Rd w g A c bs s) :
    Calls Try.prog 63 #[.pointer (some ⟨g, 0, none⟩), .int .u8 (b : Nat)] w (To w g A c bs (if sb bs s.i b then s.nx else s) (.bool (sb bs s.i b))) := by
  have D1 := Lib.hid (sees_any g A c bs s b w h)
  have H := Lib.hid h
  clear h
  cases hs : sb bs s.i b with
  | false =>
    rw [hs] at D1
    go_enter Try.func63, Try.ntmps63
    go_wp2_with fail
    refine D1.out.mono ?_
    rintro e w' ⟨rfl, m, rfl⟩
    go_wp2
    go_ret
    exact ⟨rfl, H.out.drewN m, (Fg.refl _ _).drewN m⟩
  | true =>
    rw [hs] at D1
    have hlt : s.i < bs.length := by unfold sb at hs; exact (of_decide_eq_true hs).1
    go_enter Try.func63, Try.ntmps63
    go_wp2_with fail
    refine D1.out.mono ?_
    rintro e w' ⟨rfl, m, rfl⟩
    have hl := H.out.len
    obtain ⟨c0, c1, _⟩ := (H.out.drewN m).cells
    have f1 := (H.out.drewN m).frozen 1
    have R2 := Lib.hid ((H.out.drewN m).set1 (s.i + 1) (by omega) (by have := H.out.op; omega))
    go_wp2
    go_ret
    exact ⟨rfl, R2.out, ((Fg.refl _ _).drewN m).set_ 1 _⟩
/-- a reading that gives up at p -/
def Up (w : World) (g p : Nat) (e : Ending) (w' : World) : Prop := e = .panicked [{ v := .iface 70 (.agg #[.int .i64 (p : Nat)]), recovered := false }] ∧ Fg w w' g
theorem giveUp_any (g : Nat) (A : Option Addr) (c : Nat) (bs : List Nat) (s : St) (w : World) (h : Rd w g A c bs s) :
    Calls Try.prog 58 #[.pointer (some ⟨g, 0, none⟩)] w (Up w g s.i) := by
  obtain ⟨c0, c1, _⟩ := h.cells
  clear h
  go_enter Try.func58, Try.ntmps58
  go_wp2
  exact ⟨rfl, rfl, Fg.refl _ _⟩
end Go.Proofs.Ytnaecagmcpndhaa
namespace Go.Proofs.Ytnaecagmcpndhaa
open Go.RowKit

/-- what a reader's call does: it gives up at a place, or gives something and stands further on -/
def Does {α : Type} (w : World) (g : Nat) (A : Option Addr) (c : Nat) (bs : List Nat) (s : St) (d : Nat) (r : Except Nat (α × St)) (val : World → α → Value → Prop) (e : Ending) (w' : World) : Prop :=
  match r with
  | .error p => Up w g p e w'
  | .ok (a, s') => ∃ v, e = .returned v ∧ val w' a v ∧ Rd w' g A c bs s' ∧ Fg w w' g ∧ s.i + d ≤ s'.i ∧ s'.op = s.op
def thn {α β : Type} (r : Except Nat (α × St)) (f : α → St → Except Nat (β × St)) : Except Nat (β × St) :=
  match r with
  | .error p => .error p
  | .ok (a, s) => f a s
theorem sb_lt {bs : List Nat} {i b : Nat} (h : sb bs i b = true) : i < bs.length ∧ bn bs i = b := by unfold sb at h; exact of_decide_eq_true h
def mustF (bs : List Nat) (s : St) (b : Nat) : Except Nat (Unit × St) := if sb bs s.i b then .ok ((), s.nx) else .error s.i
def isUnit : World → Unit → Value → Prop := fun _ _ v => v = .tuple #[]
theorem Up.fr {w w1 w' : World} {g p : Nat} {e : Ending} (hf : Fg w w1 g) (h : Up w1 g p e w') : Up w g p e w' := ⟨h.1, hf.trans h.2⟩
theorem must_any (g : Nat) (A : Option Addr) (c : Nat) (bs : List Nat) (s : St) (b : Nat) (w : World) (h : Rd w g A c bs s) :
    Calls Try.prog 90 #[.pointer (some ⟨g, 0, none⟩), .int .u8 (b : Nat)] w (Does w g A c bs s 1 (mustF bs s b) isUnit) := by
  have D1 := Lib.hid (takes_any g A c bs s b w h)
  clear h
  unfold mustF
  cases hs : sb bs s.i b with
  | false =>
    rw [hs] at D1
    go_enter Try.func90, Try.ntmps90
    go_wp2_with fail
    refine D1.out.mono ?_
    rintro e w1 ⟨rfl, hr, hf⟩
    have D2 := Lib.hid (giveUp_any g A c bs s w1 hr)
    have F := Lib.hid hf
    clear hr hf D1
    go_wp2_with fail
    refine D2.out.mono ?_
    rintro e w2 ⟨rfl, hf2⟩
    go_wp2
    exact ⟨rfl, rfl, F.out.trans hf2⟩
  | true =>
    rw [hs] at D1
    go_enter Try.func90, Try.ntmps90
    go_wp2_with fail
    refine D1.out.mono ?_
    rintro e w1 ⟨rfl, hr, hf⟩
    have R := Lib.hid hr; have F := Lib.hid hf
    clear hr hf D1
    go_wp2
    refine bodyPost_ret (results_none rfl _ _ _) rfl ?_
    exact ⟨_, rfl, rfl, R.out, F.out, by simp [St.nx], rfl⟩

def isD (x : Nat) : Bool := decide (48 ≤ x ∧ x ≤ 57)
theorem isDigit_any (x : Nat) (w : World) (hx : x < 256) : Calls Try.prog 105 #[.int .u8 (x : Nat)] w fun e w' => e = .returned (.bool (isD x)) ∧ w = w' := by
  unfold isD
  by_cases h1 : 48 ≤ x
  · by_cases h2 : x ≤ 57
    · rw [decide_eq_true ⟨h1, h2⟩]
      have q1 : (48 : Int) ≤ (x : Int) := by omega
      have q2 : (x : Int) ≤ 57 := by omega
      go_enter Try.func105, Try.ntmps105
      go_wp2
      go_ret
      exact ⟨by simp [q2], rfl⟩
    · rw [decide_eq_false (by omega)]
      have q1 : (48 : Int) ≤ (x : Int) := by omega
      have q2 : ¬ (x : Int) ≤ 57 := by omega
      go_enter Try.func105, Try.ntmps105
      go_wp2
      go_ret
      exact ⟨by simp, rfl⟩
  · rw [decide_eq_false (by omega)]
    have q1 : ¬ (48 : Int) ≤ (x : Int) := by omega
    go_enter Try.func105, Try.ntmps105
    go_wp2
    go_ret
    exact ⟨rfl, rfl⟩
def Fact67 (x : Nat) (r : Bool) : Prop := x < 256 ∧ isD x = r
theorem quiet67 (x : Nat) (r : Bool) (W : World) (m : Nat) (h : Fact67 x r) : Calls Try.prog 105 #[.int .u8 (x : Nat)] (W.drewN m) fun e w' => e = .returned (.bool r) ∧ ∃ m', w' = W.drewN m' := by
  obtain ⟨hx, rfl⟩ := h
  exact (isDigit_any x (W.drewN m) hx).mono fun e w' ⟨h1, h2⟩ => ⟨h1, m, h2.symm⟩

/-- a digit comes next -/
def dg (bs : List Nat) (i : Nat) : Bool := decide (i < bs.length) && isD (bn bs i)
def digitF (bs : List Nat) (s : St) : Except Nat (Nat × St) := if dg bs s.i then .ok (bn bs s.i - 48, s.nx) else .error s.i
def isNum (m : Nat) : World → Nat → Value → Prop := fun _ n v => v = .int .i64 (n : Nat) ∧ n ≤ m

set_option maxHeartbeats 1000000 in
theorem digit_any (g : Nat) (A : Option Addr) (c : Nat) (bs : List Nat) (s : St) (w : World) (h : Rd w g A c bs s) :
    Calls Try.prog 104 #[.pointer (some ⟨g, 0, none⟩)] w (Does w g A c bs s 1 (digitF bs s) (isNum 9)) := by
  obtain ⟨c0, c1, _⟩ := h.cells
  have hl := h.le
  have hlen := h.len
  have H := Lib.hid h
  unfold digitF
  by_cases he : s.i = bs.length
  · have F1 : Hid (Fact20 w g true) := ⟨A, c, bs, s, h, by simp [he]⟩
    have q : dg bs s.i = false := by unfold dg; rw [decide_eq_false (by omega)]; rfl
    rw [q]
    clear h
    go_enter Try.func104, Try.ntmps104
    go_wp2_with fail
    go_quiet ((go_at_call 57; with_reducible exact quiet20 _ _ _ _ (by exact F1.out)))
    have D2 := Lib.hid (giveUp_any g A c bs s (w.drewN nq) (H.out.drewN nq))
    go_wp2_with fail
    refine D2.out.mono ?_
    rintro e w2 ⟨rfl, hf2⟩
    go_wp2
    exact ⟨rfl, rfl, ((Fg.refl _ _).drewN nq).trans hf2⟩
  · have F1 : Hid (Fact20 w g false) := ⟨A, c, bs, s, h, by simp [he]⟩
    obtain ⟨bb, off, rfl, hc, hb⟩ := h.byte s.i (by omega)
    have q2 : (s.i : Int) < (bs.length : Int) := by omega
    cases hd : isD (bn bs s.i) with
    | false =>
      have q : dg bs s.i = false := by unfold dg; rw [hd]; simp
      rw [q]
      have F2 : Hid (Fact67 (bn bs s.i) false) := ⟨hb, hd⟩
      clear h
      generalize bn bs s.i = y at *
      go_enter Try.func104, Try.ntmps104
      go_wp2_with fail
      go_quiet (first | (go_at_call 57; with_reducible exact quiet20 _ _ _ _ (by exact F1.out)) | (go_at_call 105; with_reducible exact quiet67 _ _ _ _ (by exact F2.out)))
      have D2 := Lib.hid (giveUp_any g _ c bs s (w.drewN nq) (H.out.drewN nq))
      go_wp2_with fail
      refine D2.out.mono ?_
      rintro e w2 ⟨rfl, hf2⟩
      go_wp2
      exact ⟨rfl, rfl, ((Fg.refl _ _).drewN nq).trans hf2⟩
    | true =>
      have q : dg bs s.i = true := by unfold dg; rw [hd, decide_eq_true (by omega)]; rfl
      rw [q]
      have F2 : Hid (Fact67 (bn bs s.i) true) := ⟨hb, hd⟩
      have hy := of_decide_eq_true hd
      clear h
      generalize bn bs s.i = y at *
      go_enter Try.func104, Try.ntmps104
      go_wp2_with fail
      go_quiet (first | (go_at_call 57; with_reducible exact quiet20 _ _ _ _ (by exact F1.out)) | (go_at_call 105; with_reducible exact quiet67 _ _ _ _ (by exact F2.out)))
      have R1 := Lib.hid ((H.out.drewN nq).put1 ((s.i : Int) + 1) (s.i + 1) (by omega) (by omega) (by have := H.out.op; omega))
      have f1 := H.out.frozen 1
      have G1 : Hid (Fg w ((w.drewN nq).setCell ⟨g, 1, none⟩ (.int .i64 ((s.i : Int) + 1))) g) := ((Fg.refl _ _).drewN nq).set_ 1 _
      have hc2 : ((w.drewN nq).setCell ⟨g, 1, none⟩ (.int .i64 ((s.i : Int) + 1))).cell? ⟨bb, off + s.i, none⟩ = some (.int .u8 (y : Nat)) := by
        have hne : bb ≠ g := fun e => H.out.far (by omega) (by rw [e]; rfl)
        rw [World.cell?_of_block (a := ⟨bb, off + s.i, none⟩) (Below.heap_setCell (w.drewN nq) ⟨g, 1, none⟩ _ bb hne)]
        exact hc
      have q4 : IntKind.i64.wrap ((s.i : Int) + 1 - 1) = (s.i : Int) := by rw [IntWalk.i64_in _ (by omega)]; omega
      have q5 : IntKind.u8.wrap ((y : Int) - 48) = ((y - 48 : Nat) : Int) := by rw [IntKind.wrap_u8']; omega
      clear hc
      go_wp2_with fail
      go_quiet (fail)
      go_wp2
      go_ret
      exact ⟨_, rfl, ⟨rfl, by omega⟩, R1.out.drewN _, G1.out.drewN _, by simp [St.nx], rfl⟩
end Go.Proofs.Ytnaecagmcpndhaa
namespace Go.Proofs.Ytnaecagmcpndhaa
open Go.RowKit

def numL (bs : List Nat) : Nat → Nat → St → Nat × St
  | 0, n, s => (n, s)
  | k + 1, n, s => if dg bs s.i then numL bs k (10 * n + (bn bs s.i - 48)) s.nx else (n, s)
def numberF (bs : List Nat) (s : St) : Except Nat (Nat × St) := thn (digitF bs s) fun n s1 => .ok (numL bs 2 n s1)
theorem Does.err {α : Type} {w w' : World} {g : Nat} {A : Option Addr} {c : Nat} {bs : List Nat} {s : St} {d p : Nat} {r : Except Nat (α × St)} {val : World → α → Value → Prop} (h : r = .error p) (hf : Fg w w' g) :
    Does w g A c bs s d r val (.panicked [{ v := .iface 70 (.agg #[.int .i64 (p : Nat)]), recovered := false }]) w' := by subst h; exact ⟨rfl, hf⟩
theorem Does.okk {α : Type} {w w' : World} {g : Nat} {A : Option Addr} {c : Nat} {bs : List Nat} {s s' : St} {d : Nat} {r : Except Nat (α × St)} {val : World → α → Value → Prop} {a : α} {v : Value} (h : r = .ok (a, s')) (hv : val w' a v) (hr : Rd w' g A c bs s') (hf : Fg w w' g) (hi : s.i + d ≤ s'.i) (ho : s'.op = s.op) :
    Does w g A c bs s d r val (.returned v) w' := by subst h; exact ⟨v, rfl, hv, hr, hf, hi, ho⟩

set_option maxHeartbeats 1000000 in
theorem number_any (g : Nat) (A : Option Addr) (c : Nat) (bs : List Nat) (s : St) (w : World) (h : Rd w g A c bs s) :
    Calls Try.prog 97 #[.pointer (some ⟨g, 0, none⟩)] w (Does w g A c bs s 1 (numberF bs s) (isNum 999)) := by
  have D1 := Lib.hid (digit_any g A c bs s w h)
  cases hd : digitF bs s with
  | error p =>
    have E : Hid (numberF bs s = .error p) := by show numberF bs s = _; unfold numberF; rw [hd]; rfl
    rw [hd] at D1
    clear h
    go_enter Try.func97, Try.ntmps97
    go_wp2_with fail
    refine D1.out.mono ?_
    rintro e w2 ⟨rfl, hf2⟩
    go_wp2
    exact ⟨rfl, Does.err E.out hf2⟩
  | ok x =>
    obtain ⟨n0, s1⟩ := x
    rw [hd] at D1
    obtain ⟨R, hR⟩ : ∃ R, numL bs 2 n0 s1 = R := ⟨_, rfl⟩
    have E : Hid (numberF bs s = .ok R) := by show numberF bs s = _; unfold numberF; rw [hd, ← hR]; rfl
    have HR := Lib.hid hR
    clear h hd hR
    go_enter Try.func97, Try.ntmps97
    go_wp2_with fail
    refine D1.out.mono ?_
    rintro e w1 ⟨v, rfl, ⟨rfl, hn0⟩, hr1, hf1, hi1, ho1⟩
    have R1 := Lib.hid hr1; have F1 := Lib.hid hf1
    clear hr1 hf1 D1
    go_wp2_with fail
    go_loopw [3, 4] (fun n i wr => ∃ (k j m : Nat) (s' : St), j + k = 3 ∧ 1 ≤ j ∧ i = .int .i64 (j : Nat) ∧ n = .int .i64 (m : Nat) ∧ m + 1 ≤ 10 ^ j ∧ Hid (numL bs k m s' = R) ∧ Rd wr g A c bs s' ∧ Fg w wr g ∧ s.i + 1 ≤ s'.i ∧ s'.op = s.op) (fun _ i _ => 3 - (intOf i).toNat)
    case atStart => exact ⟨2, 1, n0, s1, rfl, by omega, rfl, rfl, by omega, HR, R1.out, F1.out, hi1, ho1⟩
    case round =>
      obtain ⟨k, j, m, s', hjk, hj1, rfl, rfl, hm, hnum, hr, hf, hi, ho⟩ := hrel
      clear HR R1 F1
      have RR := Lib.hid hr; have FF := Lib.hid hf
      have hmm : m ≤ 999 ∧ (k ≠ 0 → m ≤ 99) ∧ (k ≠ 0 → 10 * m + 10 ≤ 10 ^ (j + 1)) := by
        rcases (show j = 1 ∨ j = 2 ∨ j = 3 by omega) with rfl | rfl | rfl <;> simp at hm ⊢ <;> omega
      cases k with
      | zero =>
        obtain rfl : j = 3 := by omega
        have E2 : Hid (numberF bs s = .ok (m, s')) := by show numberF bs s = _; rw [E.out, ← hnum.out]; rfl
        clear hr hf hm hnum
        go_wp2_with fail
        go_quiet (fail)
        go_wp2
        go_ret
        exact Does.okk E2.out ⟨rfl, hmm.1⟩ (RR.out.drewN _) (FF.out.drewN _) hi ho
      | succ k =>
        have qj : (j : Int) < 3 := by omega
        obtain ⟨c0, c1, _⟩ := hr.cells
        have hle := hr.le
        have hlen := hr.len
        by_cases he : s'.i = bs.length
        · have F1 : Hid (Fact20 wr g true) := ⟨A, c, bs, s', hr, by simp [he]⟩
          have q : dg bs s'.i = false := by unfold dg; rw [decide_eq_false (by omega)]; rfl
          have E2 : Hid (numberF bs s = .ok (m, s')) := by show numberF bs s = _; rw [E.out, ← hnum.out, numL, q]; rfl
          clear hr hf hm hnum q
          go_wp2_with fail
          go_quiet ((go_at_call 57; with_reducible exact quiet20 _ _ _ _ (by exact F1.out)))
          go_wp2
          go_ret
          exact Does.okk E2.out ⟨rfl, hmm.1⟩ (RR.out.drewN _) (FF.out.drewN _) hi ho
        · have F1 : Hid (Fact20 wr g false) := ⟨A, c, bs, s', hr, by simp [he]⟩
          obtain ⟨bb, off, rfl, hc, hb⟩ := hr.byte s'.i (by omega)
          have q2 : (s'.i : Int) < (bs.length : Int) := by omega
          cases hd : isD (bn bs s'.i) with
          | false =>
            have q : dg bs s'.i = false := by unfold dg; rw [hd]; simp
            have E2 : Hid (numberF bs s = .ok (m, s')) := by show numberF bs s = _; rw [E.out, ← hnum.out, numL, q]; rfl
            have F2 : Hid (Fact67 (bn bs s'.i) false) := ⟨hb, hd⟩
            clear hr hf hm hnum q hd
            generalize bn bs s'.i = y at *
            go_wp2_with fail
            go_quiet (first | (go_at_call 57; with_reducible exact quiet20 _ _ _ _ (by exact F1.out)) | (go_at_call 105; with_reducible exact quiet67 _ _ _ _ (by exact F2.out)))
            go_wp2
            go_ret
            exact Does.okk E2.out ⟨rfl, hmm.1⟩ (RR.out.drewN _) (FF.out.drewN _) hi ho
          | true =>
            have q : dg bs s'.i = true := by unfold dg; rw [hd, decide_eq_true (by omega)]; rfl
            have hn2 := hnum.out
            rw [numL, q] at hn2
            have HN2 : Hid (numL bs k (10 * m + (bn bs s'.i - 48)) s'.nx = R) := hn2
            have F2 : Hid (Fact67 (bn bs s'.i) true) := ⟨hb, hd⟩
            have hdd : digitF bs s' = .ok (bn bs s'.i - 48, s'.nx) := by unfold digitF; rw [q]; rfl
            have hy := of_decide_eq_true hd
            clear hr hf hm hnum q hd hn2
            generalize bn bs s'.i = y at *
            have HDD := Lib.hid hdd
            clear hdd
            go_wp2_with fail
            go_quiet (first | (go_at_call 57; with_reducible exact quiet20 _ _ _ _ (by exact F1.out)) | (go_at_call 105; with_reducible exact quiet67 _ _ _ _ (by exact F2.out)))
            have D2 := digit_any g _ c bs s' (wr.drewN nq) (RR.out.drewN nq)
            rw [HDD.out] at D2
            have D3 := Lib.hid D2
            clear D2 hc c0 c1
            go_wp2_with fail
            refine D3.out.mono ?_
            rintro e w2 ⟨v, rfl, ⟨rfl, hn2⟩, hr2, hf2, hi2, ho2⟩
            have R2 := Lib.hid hr2; have G2 := Lib.hid ((FF.out.drewN nq).trans hf2)
            clear hr2 hf2 D3 RR FF
            have q6 : IntKind.i64.wrap (10 * (m : Int)) = ((10 * m : Nat) : Int) := by rw [IntWalk.i64_in _ (by omega)]; omega
            have q7 : IntKind.i64.wrap (((10 * m : Nat) : Int) + ((y - 48 : Nat) : Int)) = ((10 * m + (y - 48) : Nat) : Int) := by rw [IntWalk.i64_in _ (by omega)]; omega
            go_wp2_with fail
            go_roundw
            case rel => exact ⟨k, j + 1, 10 * m + (y - 48), s'.nx, by omega, by omega, by go_num, by first | rfl | go_num, by have := hmm.2.2 (by omega); omega, HN2, R2.out, G2.out, by simp [St.nx]; omega, by simp [St.nx, ho]⟩
            case measure => simp [intOf]; omega

def fitsF (lo hi : Int) : Bool := if hi = -1 then decide (lo ≤ 200) else decide (lo ≤ hi ∧ hi ≤ 200)
theorem fits_any (lo hi : Int) (w : World) : Calls Try.prog 98 #[.int .i64 lo, .int .i64 hi] w fun e w' => e = .returned (.bool (fitsF lo hi)) ∧ w = w' := by
  unfold fitsF
  by_cases h : hi = -1
  · rw [if_pos h]
    subst h
    go_enter Try.func98, Try.ntmps98
    go_wp2
    go_ret
    exact ⟨rfl, rfl⟩
  · rw [if_neg h]
    have q0 : (hi == -1) = false := by simpa using h
    by_cases h1 : lo ≤ hi
    · have q : decide (lo ≤ hi ∧ hi ≤ 200) = decide (hi ≤ 200) := by rw [Bool.eq_iff_iff]; simp [h1]
      rw [q]
      go_enter Try.func98, Try.ntmps98
      go_wp2
      go_ret
      exact ⟨rfl, rfl⟩
    · have q : decide (lo ≤ hi ∧ hi ≤ 200) = false := by rw [decide_eq_false]; omega
      rw [q]
      go_enter Try.func98, Try.ntmps98
      go_wp2
      go_ret
      exact ⟨rfl, rfl⟩
end Go.Proofs.Ytnaecagmcpndhaa
