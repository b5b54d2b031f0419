/- Plain numbers: a word as its eight lanes. -/
import Derived.WalkKit
namespace Go.Proofs.Ythohifibkhdmpaa

/-- the lane k of a word -/
def ln (v k : Nat) : Nat := v / 256 ^ k % 256
/-- the word of n lanes -/
def wo (f : Nat → Nat) : Nat → Nat
  | 0 => 0
  | k + 1 => wo f k + f k * 256 ^ k

theorem ln_lt (v k : Nat) : ln v k < 256 := Nat.mod_lt _ (by omega)
theorem wo_lt {f : Nat → Nat} {n : Nat} (h : ∀ k, k < n → f k < 256) : wo f n < 256 ^ n := by
  induction n with
  | zero => simp [wo]
  | succ n ih =>
    have i1 := ih fun k hk => h k (by omega)
    have i2 := h n (by omega)
    have i3 : f n * 256 ^ n ≤ 255 * 256 ^ n := Nat.mul_le_mul_right _ (by omega)
    rw [wo, Nat.pow_succ]
    omega
theorem wo_div {f : Nat → Nat} {n k : Nat} (h : ∀ k, k < n → f k < 256) (hk : k ≤ n) : wo f n % 256 ^ k = wo f k := by
  induction n with
  | zero => obtain rfl : k = 0 := by omega
            simp [wo, Nat.mod_one]
  | succ n ih =>
    by_cases e : k = n + 1
    · subst e; exact Nat.mod_eq_of_lt (wo_lt h)
    · rw [wo]
      obtain ⟨d, rfl⟩ : ∃ d, n = k + d := ⟨n - k, by omega⟩
      rw [Nat.pow_add, show f (k + d) * (256 ^ k * 256 ^ d) = 256 ^ k * (f (k + d) * 256 ^ d) by rw [Nat.mul_left_comm], Nat.add_mul_mod_self_left]
      exact ih (fun j hj => h j (by omega)) (by omega)
theorem ln_wo {f : Nat → Nat} {n k : Nat} (h : ∀ k, k < n → f k < 256) (hk : k < n) : ln (wo f n) k = f k := by
  have e := wo_div (k := k + 1) h (by omega)
  have e2 : wo f n / 256 ^ k % 256 = wo f n % 256 ^ (k + 1) / 256 ^ k := by
    rw [Nat.pow_succ, Nat.mod_mul_right_div_self]
  have l1 := wo_lt (n := k) fun j hj => h j (by omega)
  rw [ln, e2, e, wo, Nat.add_mul_div_right _ _ (Nat.pow_pos (by omega)), Nat.div_eq_of_lt l1, Nat.zero_add]
theorem wo_congr {f g : Nat → Nat} {n : Nat} (h : ∀ k, k < n → f k = g k) : wo f n = wo g n := by
  induction n with
  | zero => rfl
  | succ n ih => rw [wo, wo, ih fun k hk => h k (by omega), h n (by omega)]
theorem wo_ln (v : Nat) : ∀ n, wo (ln v) n = v % 256 ^ n
  | 0 => by simp [wo, Nat.mod_one]
  | n + 1 => by
    rw [wo, wo_ln v n, ln, Nat.pow_succ, Nat.mod_mul]
    rw [Nat.mul_comm]
theorem word_ext {v u : Nat} (hv : v < 256 ^ 8) (hu : u < 256 ^ 8) (h : ∀ k, k < 8 → ln v k = ln u k) : v = u := by
  have e1 := wo_ln v 8
  have e2 := wo_ln u 8
  rw [Nat.mod_eq_of_lt hv] at e1
  rw [Nat.mod_eq_of_lt hu] at e2
  rw [← e1, ← e2]
  exact wo_congr h
theorem word_is {v : Nat} (hv : v < 256 ^ 8) : v = wo (ln v) 8 := by
  rw [wo_ln, Nat.mod_eq_of_lt hv]
theorem wo_or (v x k : Nat) (h : v < 256 ^ k) : v ||| (x * 256 ^ k) = v + x * 256 ^ k := by
  have e : (256 : Nat) ^ k = 2 ^ (8 * k) := by rw [Nat.pow_mul]
  rw [e] at h ⊢
  have := Nat.shiftLeft_add_eq_or_of_lt h x
  rw [Nat.shiftLeft_eq] at this
  rw [Nat.or_comm, ← this, Nat.add_comm]
end Go.Proofs.Ythohifibkhdmpaa
