/- Bits of what Set and Clear give. -/
import Derived.Test.YtcognpfihojphaaW6
namespace Go.Proofs.Ytcognpfihojphaa
open Go.RowKit

def set1 (L : List (BitVec 64)) (i : Nat) : List (BitVec 64) := L.set (i / 64) (wd L (i / 64) ||| 1#64 <<< (i % 64))
theorem len_set1 (L : List (BitVec 64)) (i : Nat) : (set1 L i).length = L.length := List.length_set
theorem bit_set1 (L : List (BitVec 64)) (i j : Nat) (h : i / 64 < L.length) : bit (set1 L i) j = (bit L j || decide (j = i)) := by
  show (wd (set1 L i) (j / 64)).getLsbD (j % 64) = ((wd L (j / 64)).getLsbD (j % 64) || decide (j = i))
  have hw : wd (set1 L i) (j / 64) = if j / 64 = i / 64 then wd L (i / 64) ||| 1#64 <<< (i % 64) else wd L (j / 64) := by
    unfold set1 wd
    simp only [List.getD, List.getElem?_set]
    by_cases e : j / 64 = i / 64
    · rw [if_pos e.symm, if_pos h, if_pos e]; rfl
    · rw [if_neg (fun h => e h.symm), if_neg e]
  rw [hw]
  by_cases e : j / 64 = i / 64
  · rw [if_pos e, BitVec.getLsbD_or, BitVec.getLsbD_shiftLeft, e]
    congr 1
    by_cases h2 : j = i
    · subst h2; simp; omega
    · have h3 : j % 64 ≠ i % 64 := by omega
      rw [decide_eq_false h2]
      by_cases h4 : j % 64 < i % 64
      · simp [h4]
      · have : j % 64 - i % 64 ≠ 0 := by omega
        simp [BitVec.getLsbD_one, this]
  · rw [if_neg e, decide_eq_false (by omega), Bool.or_false]

theorem can_of_bit (L : List (BitVec 64)) (i : Nat) (h : 0 < L.length → i / 64 = L.length - 1 ∧ bit L i = true) : Can L := by
  intro h0
  obtain ⟨h1, h2⟩ := h h0
  intro hz
  unfold bit at h2
  rw [h1, hz] at h2
  simp at h2

theorem bit_wd (xs : List (BitVec 64)) (i : Nat) : bit xs i = (wd xs (i / 64)).getLsbD (i % 64) := rfl

theorem wd_set (L : List (BitVec 64)) (k j : Nat) (x : BitVec 64) (h : k < L.length) : wd (L.set k x) j = if j = k then x else wd L j := by
  unfold wd
  simp only [List.getD, List.getElem?_set]
  by_cases e : j = k
  · rw [if_pos e.symm, if_pos h, if_pos e]; rfl
  · rw [if_neg (fun h => e h.symm), if_neg e]
theorem can_setv (xs : List (BitVec 64)) (i : Nat) : Can (setv xs i) ∧ (∀ j, bit (setv xs i) j = (bit xs j || decide (j = i))) ∧ (setv xs i).length = max (canon xs).length (i / 64 + 1) := by
  have e : setv xs i = set1 (padv (canon xs) (max (canon xs).length (i / 64 + 1))) i := rfl
  have hl : (padv (canon xs) (max (canon xs).length (i / 64 + 1))).length = max (canon xs).length (i / 64 + 1) := by rw [len_padv]; omega
  have hb : ∀ j, bit (setv xs i) j = (bit xs j || decide (j = i)) := by
    intro j
    rw [e, bit_set1 _ _ _ (by rw [hl]; omega)]
    congr 1
    rw [bit_wd, wd_padv, ← bit_wd, bit_canon]
  refine ⟨?_, hb, by rw [e, len_set1, hl]⟩
  by_cases h : i / 64 + 1 ≥ (canon xs).length
  · apply can_of_bit _ i
    intro _
    rw [e, len_set1, hl, ← e]
    exact ⟨by omega, by rw [hb]; simp⟩
  · intro h0 hz
    have hc := can_canon xs (by omega)
    apply hc
    have e1 : (setv xs i).length - 1 = (canon xs).length - 1 := by rw [e, len_set1, hl]; omega
    rw [e1] at hz
    have e2 : wd (setv xs i) ((canon xs).length - 1) = wd (canon xs) ((canon xs).length - 1) := by
      rw [e]
      unfold set1
      rw [wd_set _ _ _ _ (by rw [hl]; omega), if_neg (by omega), wd_padv]
    exact e2.symm.trans hz

def clrv (xs : List (BitVec 64)) (i : Int) : List (BitVec 64) := if i < 0 then canon xs else clearv xs i.toNat

theorem clear_any (A : Option Addr) (c : Nat) (xs : List (BitVec 64)) (i : Int) (w : World) (hx : U64s w A xs) (hc : xs.length ≤ c) (lx : xs.length ≤ 35184372088832) (hi : i ≤ 9223372036854775807) :
    Calls Try.prog 63 #[.slice A xs.length c, .int .i64 i] w (Gives w (clrv xs i)) := by
  unfold clrv
  by_cases h0 : i < 0
  · rw [if_pos h0]; exact clear_no A c xs i w hx hc lx h0
  · obtain ⟨m, rfl⟩ := Int.eq_ofNat_of_zero_le (show 0 ≤ i by omega)
    rw [if_neg h0, Int.toNat_natCast]
    unfold clearv
    by_cases h1 : m / 64 < (canon xs).length
    · rw [if_pos h1]; exact clear_in A c m xs w hx hc lx (by omega) h1
    · rw [if_neg h1]; exact clear_out A c m xs w hx hc lx (by omega) h1

theorem can_clrv (xs : List (BitVec 64)) (i : Int) : Can (clrv xs i) := by
  unfold clrv clearv
  split
  · exact can_canon _
  · split <;> exact can_canon _

theorem bit_clrv (xs : List (BitVec 64)) (i : Int) (j : Nat) : bit (clrv xs i) j = (bit xs j && !decide ((j : Int) = i)) := by
  unfold clrv
  by_cases h0 : i < 0
  · rw [if_pos h0, bit_canon, decide_eq_false (by omega)]; simp
  · obtain ⟨m, rfl⟩ := Int.eq_ofNat_of_zero_le (show 0 ≤ i by omega)
    rw [if_neg h0, Int.toNat_natCast]
    unfold clearv
    by_cases h1 : m / 64 < (canon xs).length
    · rw [if_pos h1, bit_canon, bit_wd, wd_set _ _ _ _ h1, ← bit_canon xs j, bit_wd]
      by_cases e : j / 64 = m / 64
      · rw [if_pos e, BitVec.getLsbD_and, e]
        congr 1
        have hm : m % 64 < 64 := Nat.mod_lt _ (by omega)
        have hj : j % 64 < 64 := Nat.mod_lt _ (by omega)
        rw [BitVec.getLsbD_not, BitVec.getLsbD_shiftLeft]
        by_cases h2 : j = m
        · subst h2; simp
        · have h3 : j % 64 ≠ m % 64 := by omega
          rw [decide_eq_false (show ¬ ((j : Int) = (m : Int)) by omega), decide_eq_true hj]
          by_cases h4 : j % 64 < m % 64
          · simp [h4]
          · have : j % 64 - m % 64 ≠ 0 := by omega
            simp [BitVec.getLsbD_one, this]
      · rw [if_neg e, decide_eq_false (by omega)]; simp
    · rw [if_neg h1, bit_canon]
      by_cases h2 : j = m
      · subst h2
        rw [← bit_canon xs j, bit_big (canon xs) j (by omega)]; rfl
      · rw [decide_eq_false (by omega)]; simp
theorem len_clrv (xs : List (BitVec 64)) (i : Int) : (clrv xs i).length ≤ xs.length := by
  have h1 := canon_le xs
  unfold clrv clearv
  split
  · exact h1
  · split
    · have := canon_le ((canon xs).set (i.toNat / 64) (wd (canon xs) (i.toNat / 64) &&& ~~~(1#64 <<< (i.toNat % 64))))
      rw [List.length_set] at this
      omega
    · exact h1
def Is (f : Nat → Bool) (z : List (BitVec 64)) : Prop := Can z ∧ ∀ i, bit z i = f i
theorem Is.eq {f g : Nat → Bool} {x y : List (BitVec 64)} (hx : Is f x) (hy : Is g y) (h : ∀ i, f i = g i) : x = y :=
  bit_ext x y hx.1 hy.1 fun i => by rw [hx.2, hy.2, h]
theorem bit_at (xs : List (BitVec 64)) (k l : Nat) (h : l < 64) : bit xs (64 * k + l) = (wd xs k).getLsbD l := by
  unfold bit wd; rw [show (64 * k + l) / 64 = k by omega, show (64 * k + l) % 64 = l by omega]

theorem is_len {f : Nat → Bool} {z : List (BitVec 64)} (h : Is f z) (m : Nat) (hf : ∀ i, 64 * m ≤ i → f i = false) : z.length ≤ m := by
  rcases Nat.lt_or_ge m z.length with hlt | hge
  · exfalso
    apply h.1 (by omega)
    apply BitVec.eq_of_getLsbD_eq
    intro l hl
    have h2 := h.2 (64 * (z.length - 1) + l)
    rw [hf _ (by omega), bit_at _ _ _ hl] at h2
    simpa [wd] using h2
  · exact hge

end Go.Proofs.Ytcognpfihojphaa
