/- Plain lists and numbers: bursts. -/
import Derived.Test.YtmjhmjbbfklbdaaF1
import Derived.Laws.BitsLemmas
namespace Go.Proofs.Ytmjhmjbbfklbdaa
open Go.RowKit

theorem i64_and24 (n : Int) : bits .and .i64 n 16777215 = n % 16777216 := by
  have h24 : (BitVec.ofInt 64 16777215).toNat = 2 ^ 24 - 1 := by decide
  have key : (BitVec.ofInt 64 n &&& BitVec.ofInt 64 16777215).toNat = (n % ((2 ^ 64 : Nat) : Int)).toNat % 2 ^ 24 := by
    rw [BitVec.toNat_and, BitVec.toNat_ofInt, h24, Nat.and_two_pow_sub_one_eq_mod]
  show IntKind.i64.wrap ((BitVec.ofInt 64 n &&& BitVec.ofInt 64 16777215).toNat : Nat) = n % 16777216
  rw [key, IntKind.wrap_i64]
  omega

/-- the bits that a burst turns, k of the 32 looked at: room bits are there -/
def fl (x room : Nat) : Nat → Nat
  | 0 => 0
  | k + 1 => fl x room k + (if x / 2 ^ k % 2 = 1 ∧ k < room then 2 ^ k else 0)
theorem fl_lt (x room k : Nat) : fl x room k < 2 ^ k := by
  induction k with
  | zero => simp [fl]
  | succ k ih => rw [fl, Nat.pow_succ]; split <;> omega
theorem fl_xor (x room k : Nat) (h : x / 2 ^ k % 2 = 1 ∧ k < room) : fl x room (k + 1) = fl x room k ^^^ 2 ^ k := by
  rw [fl, if_pos h]
  have hl := fl_lt x room k
  generalize fl x room k = a at *
  apply Nat.eq_of_testBit_eq
  intro i
  rw [Nat.testBit_xor, Nat.add_comm, show 2 ^ k + a = 2 ^ k * 1 + a by omega, Nat.testBit_two_pow_mul_add _ hl]
  by_cases h : i < k
  · rw [if_pos h, Nat.testBit_two_pow_of_ne (by omega)]; simp
  · rw [if_neg h, Nat.testBit_lt_two_pow (Nat.lt_of_lt_of_le hl (Nat.pow_le_pow_right (by omega) (by omega)))]
    by_cases e : k = i
    · subst e; simp
    · have h1 : Nat.testBit 1 (i - k) = false := Nat.testBit_lt_two_pow (Nat.one_lt_two_pow (by omega))
      rw [Nat.testBit_two_pow_of_ne (by omega), h1]; rfl
theorem fl_same (x room k : Nat) (h : ¬ (x / 2 ^ k % 2 = 1 ∧ k < room)) : fl x room (k + 1) = fl x room k := by
  rw [fl, if_neg h, Nat.add_zero]
theorem fl_pos (x room k : Nat) (h : x / 2 ^ k % 2 = 1 ∧ k < room) : fl x room (k + 1) ≠ 0 := by
  rw [fl, if_pos h]
  have := Nat.pow_pos (n := k) (show 0 < 2 by omega)
  omega

/-- a byte turned at one bit -/
theorem num_set (l : List Nat) (hl : ∀ x ∈ l, x < 256) (j b : Nat) (hj : j < l.length) (hb : b < 8) : num (l.set j (bn l j ^^^ 2 ^ b)) = num l ^^^ 2 ^ (8 * j + b) := by
  induction l generalizing j with
  | nil => simp at hj
  | cons x r ih =>
    have hx := hl x (by simp)
    have hr : ∀ y ∈ r, y < 256 := fun y hy => hl y (by simp [hy])
    cases j with
    | zero =>
      have h2 : x ^^^ 2 ^ b < 256 := Nat.xor_lt_two_pow (n := 8) hx (Nat.pow_lt_pow_right (by omega) hb)
      show num ((x ^^^ 2 ^ b) :: r) = _
      rw [num, num, byte_xor _ _ h2, byte_xor _ _ hx, Nat.mul_zero, Nat.zero_add, Nat.xor_assoc, Nat.xor_comm (2 ^ b), ← Nat.xor_assoc]
    | succ j =>
      have hj2 : j < r.length := by simpa using hj
      show num (x :: r.set j (bn r j ^^^ 2 ^ b)) = _
      rw [num, ih hr j hj2, num, byte_xor _ _ hx, byte_xor _ _ hx, Nat.xor_assoc]
      congr 1
      rw [← Nat.shiftLeft_eq, ← Nat.shiftLeft_eq, Nat.shiftLeft_xor_distrib]
      congr 1
      rw [Nat.shiftLeft_eq, ← Nat.pow_add]
      congr 1; omega
theorem num_inj {a b : List Nat} (ha : ∀ x ∈ a, x < 256) (hb : ∀ x ∈ b, x < 256) (hl : a.length = b.length) (h : num a = num b) : a = b := by
  rw [← le_num a ha, ← le_num b hb, hl, h]

/-- bytes with a frame's first eight, of its length -/
def Like (v : Nat) (b l : List Nat) : Prop := l.length = (frame v b).length ∧ (∀ x ∈ l, x < 256) ∧ ∀ j, j < 8 → bn l j = bn (frame v b) j
theorem like_size {v : Nat} {b l : List Nat} (h : Like v b l) : sub l 4 8 = le 4 b.length := by
  rw [← frame_size v b]
  have h1 := h.1
  rw [len_frame] at h1
  apply List.ext_getElem
  · rw [len_sub _ _ _ (by omega), len_sub _ _ _ (by rw [len_frame]; omega)]
  · intro i hi hi2
    rw [len_sub _ _ _ (by omega)] at hi
    have e1 := bn_get (bs := sub l 4 8) (j := i) (by rw [len_sub _ _ _ (by omega)]; exact hi)
    have e2 := bn_get (bs := sub (frame v b) 4 8) (j := i) hi2
    rw [← e1, ← e2, bn_sub _ _ _ _ hi, bn_sub _ _ _ _ hi]
    exact h.2.2 _ (by omega)
theorem cut_whole (l : List Nat) (h : 4 ≤ l.length) : sub l 0 (l.length - 4) ++ sub l (l.length - 4) l.length = l := by
  unfold sub
  simp only [List.drop_zero, Nat.sub_zero]
  rw [List.take_of_length_le (l := List.drop (l.length - 4) l) (by rw [List.length_drop]; omega)]
  exact List.take_append_drop _ _
/-- a burst is told -/
theorem burst (v : Nat) (b l : List Nat) (hv : v < 256) (hb : ∀ x ∈ b, x < 256) (hl : b.length < 4294967296) (h : Like v b l) (F from_ : Nat) (hF : F < 4294967296) (h0 : F ≠ 0) (hf : 64 + from_ ≤ 8 * l.length) (hn : num l = num (frame v b) ^^^ F * 2 ^ (64 + from_)) : chk v l = 44 := by
  obtain ⟨f0, f1, f2, f3⟩ := frame_0 v b
  have h1 := h.1
  have hL := len_frame v b
  have g0 := h.2.2 0 (by omega); have g1 := h.2.2 1 (by omega); have g2 := h.2.2 2 (by omega); have g3 := h.2.2 3 (by omega)
  rw [f0] at g0; rw [f1] at g1; rw [f2] at g2; rw [f3] at g3
  unfold chk
  rw [like_size h, num_le4 _ hl, g0, g1, g2, g3, if_neg (by omega), if_neg (by simp), if_neg (by simp), if_neg (by omega), if_neg (by omega), if_pos]
  intro e
  have m1 : ∀ x ∈ sub l 0 (l.length - 4), x < 256 := fun x hx => h.2.1 x (List.mem_of_mem_drop (List.mem_of_mem_take hx))
  have m2 : ∀ x ∈ sub l (l.length - 4) l.length, x < 256 := fun x hx => h.2.1 x (List.mem_of_mem_drop (List.mem_of_mem_take hx))
  have w1 := crc_whole _ _ m1 m2 (by rw [len_sub _ _ _ (by omega)]; omega) e
  rw [cut_whole l (by omega)] at w1
  have w2 : cr ONES (frame v b) = sts 32 ONES := by
    unfold frame
    exact crc_whole _ _ (head_lt v b hv hb) (le_lt _ _) (len_le _ _) (num_le4 _ (crc_lt _ (head_lt v b hv hb)))
  rw [cr_num _ _ h.2.1, hn, ← Nat.xor_assoc, sts_xor, h1, ← cr_num _ _ (frame_lt v b hv hb), w2] at w1
  have w3 : sts (8 * (frame v b).length) (F * 2 ^ (64 + from_)) = 0 := by
    have := congrArg (sts 32 ONES ^^^ ·) w1
    simpa [← Nat.xor_assoc] using this
  rw [show 8 * (frame v b).length = (64 + from_) + (8 * l.length - (64 + from_)) by omega, sts_add, sts_shift] at w3
  exact sts_pos _ _ hF h0 w3
theorem chk_cut (v : Nat) (b : List Nat) (hl : b.length < 4294967296) (t : Nat) (ht : t < (frame v b).length) : chk v (sub (frame v b) 0 t) = 40 := by
  have hL := len_frame v b
  have len : (sub (frame v b) 0 t).length = t := by rw [len_sub _ _ _ (by omega)]; omega
  unfold chk
  by_cases h : t < 12
  · rw [if_pos (by omega)]
  · obtain ⟨f0, f1, f2, f3⟩ := frame_0 v b
    have q : ∀ j, j < 8 → bn (sub (frame v b) 0 t) j = bn (frame v b) j := fun j hj => by rw [bn_sub _ _ _ _ (by omega), Nat.zero_add]
    have hs : sub (sub (frame v b) 0 t) 4 8 = sub (frame v b) 4 8 := by
      unfold sub
      simp only [List.drop_zero, Nat.sub_zero]
      rw [List.drop_take, List.take_take, Nat.min_eq_left (by omega)]
    rw [q 0 (by omega), q 1 (by omega), q 2 (by omega), q 3 (by omega), f0, f1, f2, f3, len, hs, frame_size, num_le4 _ hl, if_neg (by omega), if_neg (by simp), if_neg (by simp), if_pos (by omega)]
theorem chk_tail (v : Nat) (b : List Nat) (hl : b.length < 4294967296) (x : Nat) : chk v (frame v b ++ [x]) = 43 := by
  have hL := len_frame v b
  have len : (frame v b ++ [x]).length = b.length + 13 := by rw [List.length_append, hL]; rfl
  obtain ⟨f0, f1, f2, f3⟩ := frame_0 v b
  have q : ∀ j, j < 8 → bn (frame v b ++ [x]) j = bn (frame v b) j := fun j hj => by
    unfold bn; simp only [List.getD, List.getElem?_append]; rw [if_pos (by omega)]
  have hs : sub (frame v b ++ [x]) 4 8 = sub (frame v b) 4 8 := by
    unfold sub
    rw [List.drop_append_of_le_length (by omega), List.take_append_of_le_length (by rw [List.length_drop]; omega)]
  unfold chk
  rw [q 0 (by omega), q 1 (by omega), q 2 (by omega), q 3 (by omega), f0, f1, f2, f3, len, hs, frame_size, num_le4 _ hl, if_neg (by omega), if_neg (by simp), if_neg (by simp), if_neg (by omega), if_pos (by omega)]
end Go.Proofs.Ytmjhmjbbfklbdaa
