/- Plain numbers: the check sum by dividing bits, bytes as numbers, bursts. -/
import Derived.WalkKit
namespace Go.Proofs.Ytmjhmjbbfklbdaa

def POLY : Nat := 3988292384
/-- one bit's step of the check sum -/
def st (s : Nat) : Nat := s / 2 ^^^ (if s % 2 = 1 then POLY else 0)
def sts : Nat → Nat → Nat
  | 0, s => s
  | n + 1, s => sts n (st s)
theorem sts_add (a b s : Nat) : sts (a + b) s = sts b (sts a s) := by
  induction a generalizing s with
  | zero => simp [sts]
  | succ a ih => rw [show a + 1 + b = (a + b) + 1 by omega, sts, sts, ih]
theorem sts_succ (n s : Nat) : sts (n + 1) s = st (sts n s) := by rw [sts_add n 1]; rfl

theorem xor_half (a b : Nat) : (a ^^^ b) / 2 = a / 2 ^^^ b / 2 := by
  have := Nat.shiftRight_xor_distrib (a := a) (b := b) (i := 1)
  simpa [Nat.shiftRight_eq_div_pow] using this
theorem xor_par (a b : Nat) : (a ^^^ b) % 2 = (a % 2 + b % 2) % 2 := by
  have := Nat.xor_mod_two_pow (a := a) (b := b) (n := 1)
  simp only [Nat.pow_one] at this
  rw [this]
  rcases Nat.mod_two_eq_zero_or_one a with h | h <;> rcases Nat.mod_two_eq_zero_or_one b with h2 | h2 <;> rw [h, h2] <;> rfl
theorem st_xor (a b : Nat) : st (a ^^^ b) = st a ^^^ st b := by
  unfold st
  rw [xor_half, xor_par]
  rcases Nat.mod_two_eq_zero_or_one a with h | h <;> rcases Nat.mod_two_eq_zero_or_one b with h2 | h2
  · rw [h, h2]; simp
  · rw [h, h2]; simp [Nat.xor_assoc]
  · rw [h, h2]
    simp only [if_true]
    rw [if_neg (show ¬ (0 : Nat) = 1 by omega), Nat.xor_zero]
    generalize a / 2 = x
    generalize b / 2 = y
    rw [Nat.xor_assoc, Nat.xor_comm y POLY, ← Nat.xor_assoc]
  · rw [h, h2]
    simp only [if_true]
    rw [if_neg (by omega)]
    generalize a / 2 = x
    generalize b / 2 = y
    rw [Nat.xor_zero, Nat.xor_assoc, Nat.xor_comm y POLY, ← Nat.xor_assoc POLY, Nat.xor_self, Nat.zero_xor]
theorem sts_xor (n a b : Nat) : sts n (a ^^^ b) = sts n a ^^^ sts n b := by
  induction n generalizing a b with
  | zero => rfl
  | succ n ih => rw [sts, sts, sts, st_xor, ih]
theorem st_zero : st 0 = 0 := rfl
theorem sts_zero (n : Nat) : sts n 0 = 0 := by
  induction n with
  | zero => rfl
  | succ n ih => rw [sts, st_zero, ih]
theorem st_lt (s : Nat) (h : s < 4294967296) : st s < 4294967296 := by
  unfold st
  exact Nat.xor_lt_two_pow (n := 32) (by omega) (by split <;> decide)
theorem sts_lt (n s : Nat) (h : s < 4294967296) : sts n s < 4294967296 := by
  induction n generalizing s with
  | zero => exact h
  | succ n ih => rw [sts]; exact ih _ (st_lt s h)
theorem st_pos (s : Nat) (h : s < 4294967296) (h0 : s ≠ 0) : st s ≠ 0 := by
  unfold st
  intro e
  by_cases c : s % 2 = 1
  · rw [if_pos c] at e
    have : s / 2 = POLY := by
      have := congrArg (· ^^^ POLY) e
      simpa [Nat.xor_assoc] using this
    unfold POLY at this
    omega
  · rw [if_neg c, Nat.xor_zero] at e
    omega
theorem sts_pos (n s : Nat) (h : s < 4294967296) (h0 : s ≠ 0) : sts n s ≠ 0 := by
  induction n generalizing s with
  | zero => exact h0
  | succ n ih => rw [sts]; exact ih _ (st_lt s h) (st_pos s h h0)
theorem st_double (y : Nat) : st (2 * y) = y := by
  unfold st
  rw [if_neg (by omega), Nat.xor_zero]
  omega
theorem sts_shift (n y : Nat) : sts n (y * 2 ^ n) = y := by
  induction n generalizing y with
  | zero => simp [sts]
  | succ n ih => rw [sts, show y * 2 ^ (n + 1) = 2 * (y * 2 ^ n) by rw [Nat.pow_succ, ← Nat.mul_assoc, Nat.mul_comm], st_double, ih]

/-- a byte's step -/
def cb (s x : Nat) : Nat := sts 8 (s ^^^ x)
def cr : Nat → List Nat → Nat
  | s, [] => s
  | s, x :: xs => cr (cb s x) xs
theorem cr_append (s : Nat) (xs ys : List Nat) : cr s (xs ++ ys) = cr (cr s xs) ys := by
  induction xs generalizing s with
  | nil => rfl
  | cons x xs ih => exact ih _
theorem cr_snoc (s : Nat) (xs : List Nat) (y : Nat) : cr s (xs ++ [y]) = cb (cr s xs) y := by rw [cr_append]; rfl
theorem cb_lt (s x : Nat) (h : s < 4294967296) (hx : x < 256) : cb s x < 4294967296 := sts_lt 8 _ (Nat.xor_lt_two_pow (n := 32) h (by omega))
theorem cr_lt (s : Nat) (xs : List Nat) (h : s < 4294967296) (hx : ∀ x ∈ xs, x < 256) : cr s xs < 4294967296 := by
  induction xs generalizing s with
  | nil => exact h
  | cons x xs ih => exact ih _ (cb_lt s x h (hx x (by simp))) fun y hy => hx y (by simp [hy])
/-- bytes as one number, the first of the least weight -/
def num : List Nat → Nat
  | [] => 0
  | x :: xs => x + 256 * num xs
theorem byte_xor (x y : Nat) (hx : x < 256) : x + 256 * y = x ^^^ (y * 2 ^ 8) := by
  apply Nat.eq_of_testBit_eq
  intro i
  rw [Nat.testBit_xor, show x + 256 * y = 2 ^ 8 * y + x by omega, Nat.testBit_two_pow_mul_add _ (by omega), Nat.testBit_mul_two_pow]
  by_cases h : i < 8
  · rw [if_pos h]
    simp [show ¬ 8 ≤ i by omega]
  · rw [if_neg h]
    have : x.testBit i = false := Nat.testBit_lt_two_pow (Nat.lt_of_lt_of_le hx (Nat.pow_le_pow_right (n := 2) (by omega) (show 8 ≤ i by omega)))
    simp [show 8 ≤ i by omega, this]
/-- the check sum of bytes is the check sum of their number -/
theorem cr_num (s : Nat) (xs : List Nat) (hx : ∀ x ∈ xs, x < 256) : cr s xs = sts (8 * xs.length) (s ^^^ num xs) := by
  induction xs generalizing s with
  | nil => simp [cr, num, sts]
  | cons x xs ih =>
    rw [cr, ih _ fun y hy => hx y (by simp [hy]), num, byte_xor x _ (hx x (by simp)), List.length_cons, show 8 * (xs.length + 1) = 8 + 8 * xs.length by omega, sts_add, ← Nat.xor_assoc, sts_xor 8, sts_shift]
    rfl
theorem num_append (xs ys : List Nat) : num (xs ++ ys) = num xs + 256 ^ xs.length * num ys := by
  induction xs with
  | nil => simp [num]
  | cons x xs ih =>
    simp only [List.cons_append, num, ih, List.length_cons, Nat.pow_succ]
    rw [Nat.mul_add, Nat.mul_comm (256 ^ xs.length) 256, Nat.mul_assoc]
    omega
theorem num_lt (xs : List Nat) (hx : ∀ x ∈ xs, x < 256) : num xs < 256 ^ xs.length := by
  induction xs with
  | nil => simp [num]
  | cons x xs ih =>
    have h1 := ih fun y hy => hx y (by simp [hy])
    have h2 := hx x (by simp)
    rw [num, List.length_cons, Nat.pow_succ]
    omega
/-- a number in n bytes -/
def le : Nat → Nat → List Nat
  | 0, _ => []
  | n + 1, x => x % 256 :: le n (x / 256)
theorem len_le (n x : Nat) : (le n x).length = n := by
  induction n generalizing x with
  | zero => rfl
  | succ n ih => rw [le, List.length_cons, ih]
theorem le_lt (n x : Nat) : ∀ y ∈ le n x, y < 256 := by
  induction n generalizing x with
  | zero => intro y hy; cases hy
  | succ n ih =>
    intro y hy
    rw [le, List.mem_cons] at hy
    rcases hy with rfl | hy
    · omega
    · exact ih _ y hy
theorem num_le (n x : Nat) : num (le n x) = x % 256 ^ n := by
  induction n generalizing x with
  | zero => simp [le, num, Nat.mod_one]
  | succ n ih =>
    rw [le, num, ih, Nat.pow_succ, Nat.mul_comm (256 ^ n) 256, Nat.mod_mul]
theorem le_num (xs : List Nat) (hx : ∀ x ∈ xs, x < 256) : le xs.length (num xs) = xs := by
  induction xs with
  | nil => rfl
  | cons x xs ih =>
    have h2 := hx x (by simp)
    rw [List.length_cons, le, num, show (x + 256 * num xs) % 256 = x by omega, show (x + 256 * num xs) / 256 = num xs by omega, ih fun y hy => hx y (by simp [hy])]
def ONES : Nat := 4294967295
/-- the check sum -/
def crc (xs : List Nat) : Nat := cr ONES xs ^^^ ONES
theorem ones_lt : ONES < 4294967296 := by decide
theorem crc_lt (xs : List Nat) (hx : ∀ x ∈ xs, x < 256) : crc xs < 4294967296 := Nat.xor_lt_two_pow (n := 32) (cr_lt _ _ ones_lt hx) ones_lt
/-- bytes with their check sum behind them come to one number, whatever they are; and only with it -/
theorem crc_whole (xs ys : List Nat) (hx : ∀ x ∈ xs, x < 256) (hy : ∀ y ∈ ys, y < 256) (h4 : ys.length = 4) (h : num ys = crc xs) : cr ONES (xs ++ ys) = sts 32 ONES := by
  rw [cr_append, cr_num _ ys hy, h4, h]
  unfold crc
  rw [← Nat.xor_assoc, Nat.xor_self, Nat.zero_xor]
end Go.Proofs.Ytmjhmjbbfklbdaa
