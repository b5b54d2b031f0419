/- Walks over the class package: mask, Has, Of, OnesCount64, Len. -/
import Derived.Test.YtcognpfihojphaaKC1

namespace Go.Proofs.Ytcognpfihojphaa.K
open Go.RowKit

theorem ret_int {k : IntKind} {a b : Int} (h : a = b) : Ending.returned (.int k a) = .returned (.int k b) := by rw [h]
theorem wrap_pow (k : Nat) (h : k < 64) : IntKind.u64.wrap (2 ^ k) = uv (1#64 <<< k) := by
  rw [IntKind.wrap_u64]
  have h1 : (2 : Nat) ^ k < 2 ^ 64 := Nat.pow_lt_pow_right (by omega) h
  simp only [uv, BitVec.toNat_shiftLeft, BitVec.toNat_ofNat, Nat.shiftLeft_eq]
  rw [show (1 % 2 ^ 64 * 2 ^ k) = 2 ^ k by simp, Nat.mod_eq_of_lt h1]
  have : ((2 : Int) ^ k) = ((2 ^ k : Nat) : Int) := by simp
  rw [this]
  generalize (2 : Nat) ^ k = m at h1 ⊢
  omega

theorem mask_any (b : Nat) (w : World) (hb : b < 256) : Calls Try.prog 28 #[.int .u8 b] w fun e w' => e = .returned (.int .u64 (uv (1#64 <<< (b % 64)))) ∧ w = w' := by
  go_enter Try.func28, Try.ntmps28
  go_wp2
  go_ret
  exact ⟨ret_int (wrap_pow _ (by omega)), rfl⟩

theorem uv_eq_zero (x : BitVec 64) : (uv x == 0) = decide (x = 0#64) := by
  rw [Bool.eq_iff_iff]
  simp [uv]
  constructor
  · intro h; exact BitVec.eq_of_toNat_eq (by simpa using h)
  · intro h; rw [h]; rfl
theorem and_mask (x : BitVec 64) (k : Nat) (hk : k < 64) : (uv (x &&& 1#64 <<< k) != 0) = x.getLsbD k := by
  have h1 : (uv (x &&& 1#64 <<< k) == 0) = decide (x &&& 1#64 <<< k = 0#64) := uv_eq_zero _
  rw [bne, h1]
  rw [Bool.eq_iff_iff]
  simp only [Bool.not_eq_true', decide_eq_false_iff_not]
  constructor
  · intro h
    cases hb : x.getLsbD k with
    | true => rfl
    | false =>
      exfalso; apply h
      apply BitVec.eq_of_getLsbD_eq
      intro l hl
      simp only [BitVec.getLsbD_and, BitVec.getLsbD_shiftLeft, BitVec.getLsbD_zero]
      by_cases hlk : l = k
      · subst hlk; simp [hb]
      · by_cases h2 : l < k
        · simp [h2]
        · have : ¬ (l - k = 0) := by omega
          simp [BitVec.getLsbD_one, this]
  · intro h h0
    have h2 : (x &&& 1#64 <<< k).getLsbD k = true := by simp [h, hk]
    rw [h0] at h2
    simp at h2

/-- the byte i is in the class q -/
def kb (q : Nat → BitVec 64) (i : Nat) : Bool := (q (i / 64)).getLsbD (i % 64)

set_option maxHeartbeats 1000000 in
theorem has_any (q : Nat → BitVec 64) (b : Nat) (w : World) (hb : b < 256) : Calls Try.prog 23 #[.agg (cw q), .int .u8 b] w fun e w' => e = .returned (.bool (kb q b)) ∧ Below w.heap.size w w' := by
  have h1 := CB.new w q
  have hce := h1.cell (b / 64) (by omega)
  have hbl : Hid (Below w.heap.size w (w.alloc (.cells (cw q) 24))) := (Below.refl _ _).alloc (Nat.le_refl _) _
  have hbit : Hid ((uv (q (b / 64) &&& 1#64 <<< (b % 64)) != 0) = kb q b) := and_mask _ _ (by omega)
  generalize q (b / 64) = x at hce hbit
  unfold cw at hce hbl ⊢
  clear h1
  have q1 : (0 : Int) ≤ (b : Int) / 64 := by omega
  have q2 : (b : Int) / 64 < 4 := by omega
  have q3 : ((b : Int) / 64).toNat = b / 64 := by omega
  have q4 : (b : Int).tdiv 64 = (b : Int) / 64 := by rw [Int.tdiv_eq_ediv_of_nonneg (by omega)]
  have q5 : IntKind.u8.wrap ((b : Int) / 64) = (b : Int) / 64 := by rw [IntKind.wrap_u8']; omega
  go_enter Try.func23, Try.ntmps23
  go_wp2_with fail
  go_quiet ((go_at_call 28; exact Calls.quiet_of_same ((mask_any b _ hb).mono fun e w' h => ⟨h.1, h.2.symm⟩)))
  go_wp2
  go_ret
  exact ⟨by rw [← hbit.out, ← uv_and]; rfl, below_drewN hbl.out nq⟩

/-- a class by its bytes -/
def IsK (f : Nat → Bool) (q : Nat → BitVec 64) : Prop := ∀ i, i < 256 → kb q i = f i
theorem word_ext (q r : Nat → BitVec 64) (h : ∀ i, i < 256 → kb q i = kb r i) (j : Nat) (hj : j < 4) : q j = r j := by
  apply BitVec.eq_of_getLsbD_eq
  intro l hl
  have := h (64 * j + l) (by omega)
  unfold kb at this
  rw [show (64 * j + l) / 64 = j by omega, show (64 * j + l) % 64 = l by omega] at this
  exact this
theorem cw_ext (q r : Nat → BitVec 64) (h : ∀ i, i < 256 → kb q i = kb r i) : cw q = cw r := by
  unfold cw
  rw [word_ext q r h 0 (by omega), word_ext q r h 1 (by omega), word_ext q r h 2 (by omega), word_ext q r h 3 (by omega)]
def GivesK (w : World) (f : Nat → Bool) (e : Ending) (w' : World) : Prop := ∃ q, e = .returned (.agg (cw q)) ∧ IsK f q ∧ Below w.heap.size w w'

/-- a class with the byte i -/
def setb (q : Nat → BitVec 64) (i : Nat) : Nat → BitVec 64 := fun j => if j = i / 64 then q (i / 64) ||| 1#64 <<< (i % 64) else q j
theorem kb_setb (q : Nat → BitVec 64) (i j : Nat) : kb (setb q i) j = (kb q j || decide (j = i)) := by
  unfold kb setb
  by_cases e : j / 64 = i / 64
  · rw [if_pos e, BitVec.getLsbD_or, BitVec.getLsbD_shiftLeft, e]
    congr 1
    by_cases h2 : j = i
    · subst h2; simp; omega
    · have h3 : j % 64 ≠ i % 64 := by omega
      rw [decide_eq_false h2]
      by_cases h4 : j % 64 < i % 64
      · simp [h4]
      · have : j % 64 - i % 64 ≠ 0 := by omega
        simp [BitVec.getLsbD_one, this]
  · rw [if_neg e, decide_eq_false (by omega), Bool.or_false]

/-- bytes in memory -/
def bn (bs : List Nat) (j : Nat) : Nat := bs.getD j 0
def Bts (w : World) (A : Option Addr) (bs : List Nat) : Prop :=
  (∀ j, bn bs j < 256) ∧ (0 < bs.length → ∃ b off, A = some ⟨b, off, none⟩ ∧ b < w.heap.size ∧ ∀ j, j < bs.length → w.cell? ⟨b, off + j, none⟩ = some (.int .u8 (bn bs j : Nat)))
theorem Bts.below {w w' : World} {A : Option Addr} {bs : List Nat} (h : Bts w A bs) (hb : Below w.heap.size w w') : Bts w' A bs := ⟨h.1, fun h0 => by
  obtain ⟨b, off, e, hlt, hc⟩ := h.2 h0
  exact ⟨b, off, e, Nat.lt_of_lt_of_le hlt hb.size, fun j hj => (hb.cell (p := ⟨b, off + j, none⟩) hlt).trans (hc j hj)⟩⟩
def ofq (bs : List Nat) : Nat → Nat → BitVec 64
  | 0 => fun _ => 0#64
  | k + 1 => setb (ofq bs k) (bn bs k)
def ofF (bs : List Nat) (k i : Nat) : Bool := decide (∃ j, j < k ∧ bn bs j = i)
theorem kb_ofq (bs : List Nat) (i : Nat) : ∀ k, kb (ofq bs k) i = ofF bs k i
  | 0 => by
    unfold ofF
    rw [decide_eq_false (by rintro ⟨j, hj, _⟩; omega)]
    simp [kb, ofq]
  | k + 1 => by
    rw [ofq, kb_setb, kb_ofq bs i k]
    unfold ofF
    rw [Bool.eq_iff_iff]
    simp only [Bool.or_eq_true, decide_eq_true_eq]
    constructor
    · rintro (⟨j, hj, e⟩ | e)
      · exact ⟨j, by omega, e⟩
      · exact ⟨k, by omega, e.symm⟩
    · rintro ⟨j, hj, e⟩
      by_cases h2 : j = k
      · subst h2; exact Or.inr e.symm
      · exact Or.inl ⟨j, by omega, e⟩

theorem ends4 {B : Nat} {w wr : World} {g : Nat} (hb : Below B w wr) (hg : B ≤ g) (a b c d : Value) :
    Below B w ((((wr.setCell ⟨g, 0, none⟩ a).setCell ⟨g, 1, none⟩ b).setCell ⟨g, 2, none⟩ c).setCell ⟨g, 3, none⟩ d) :=
  (((hb.setCell hg _).setCell hg _).setCell hg _).setCell hg _

end Go.Proofs.Ytcognpfihojphaa.K
