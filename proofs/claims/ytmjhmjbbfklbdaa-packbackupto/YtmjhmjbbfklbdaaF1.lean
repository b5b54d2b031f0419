/- Plain lists: what a frame is. -/
import Derived.Test.YtmjhmjbbfklbdaaP7
namespace Go.Proofs.Ytmjhmjbbfklbdaa
open Go.RowKit

theorem len_head (v : Nat) (b : List Nat) : (head v b).length = b.length + 8 := by unfold head; simp [len_le]; omega
theorem len_frame (v : Nat) (b : List Nat) : (frame v b).length = b.length + 12 := by unfold frame; rw [List.length_append, len_head, len_le]
theorem head_lt (v : Nat) (b : List Nat) (hv : v < 256) (hb : ∀ x ∈ b, x < 256) : ∀ x ∈ head v b, x < 256 := by
  intro x hx
  unfold head at hx
  rcases List.mem_append.1 hx with h | h
  · simp at h; omega
  · rcases List.mem_append.1 h with h | h
    · exact le_lt _ _ x h
    · exact hb x h
theorem frame_lt (v : Nat) (b : List Nat) (hv : v < 256) (hb : ∀ x ∈ b, x < 256) : ∀ x ∈ frame v b, x < 256 := by
  intro x hx
  unfold frame at hx
  rcases List.mem_append.1 hx with h | h
  · exact head_lt v b hv hb x h
  · exact le_lt _ _ x h
theorem frame_0 (v : Nat) (b : List Nat) : bn (frame v b) 0 = 82 ∧ bn (frame v b) 1 = 68 ∧ bn (frame v b) 2 = 76 ∧ bn (frame v b) 3 = v := ⟨rfl, rfl, rfl, rfl⟩
theorem sub_append_left (a b : List Nat) : sub (a ++ b) 0 a.length = a := by unfold sub; simp
theorem sub_append_right (a b : List Nat) : sub (a ++ b) a.length (a ++ b).length = b := by unfold sub; simp
theorem sub_mid (a b c : List Nat) : sub (a ++ (b ++ c)) a.length (a.length + b.length) = b := by unfold sub; simp
theorem frame_size (v : Nat) (b : List Nat) : sub (frame v b) 4 8 = le 4 b.length := by
  unfold frame
  generalize le 4 (crc (head v b)) = t
  have := sub_mid [82, 68, 76, v] (le 4 b.length) (b ++ t)
  rw [len_le] at this
  unfold head
  simpa using this
theorem frame_body (v : Nat) (b : List Nat) : sub (frame v b) 8 (8 + b.length) = b := by
  unfold frame
  generalize le 4 (crc (head v b)) = t
  have := sub_mid ([82, 68, 76, v] ++ le 4 b.length) b t
  rw [show ([82, 68, 76, v] ++ le 4 b.length).length = 8 by simp [len_le]] at this
  unfold head
  simpa using this
theorem frame_head (v : Nat) (b : List Nat) : sub (frame v b) 0 ((frame v b).length - 4) = head v b := by
  rw [len_frame, show b.length + 12 - 4 = (head v b).length by rw [len_head]; omega]
  exact sub_append_left _ _
theorem frame_sum (v : Nat) (b : List Nat) : sub (frame v b) ((frame v b).length - 4) (frame v b).length = le 4 (crc (head v b)) := by
  have e : (frame v b).length - 4 = (head v b).length := by rw [len_frame, len_head]; omega
  rw [e]
  exact sub_append_right _ _
theorem num_le4 (n : Nat) (h : n < 4294967296) : num (le 4 n) = n := by
  rw [num_le]; exact Nat.mod_eq_of_lt h
theorem chk_frame (v : Nat) (b : List Nat) (hv : v < 256) (hb : ∀ x ∈ b, x < 256) (hl : b.length < 4294967296) : chk v (frame v b) = 0 := by
  obtain ⟨h0, h1, h2, h3⟩ := frame_0 v b
  unfold chk
  rw [frame_size, frame_head, frame_sum, num_le4 _ hl, num_le4 _ (crc_lt _ (head_lt v b hv hb)), h0, h1, h2, h3, len_frame]
  rw [if_neg (by omega), if_neg (by simp), if_neg (by simp), if_neg (by omega), if_neg (by omega), if_neg (by simp)]
theorem chk_other (u v : Nat) (b : List Nat) (h : ¬ v = u) : chk u (frame v b) = 42 := by
  obtain ⟨h0, h1, h2, h3⟩ := frame_0 v b
  unfold chk
  rw [h0, h1, h2, h3, len_frame, if_neg (by omega), if_neg (by simp), if_pos h]
theorem bod_frame (v : Nat) (b : List Nat) (hv : v < 256) (hb : ∀ x ∈ b, x < 256) (hl : b.length < 4294967296) : bod v (frame v b) = b := by
  unfold bod
  rw [if_pos (chk_frame v b hv hb hl), len_frame, show b.length + 12 - 4 = 8 + b.length by omega]
  exact frame_body v b
end Go.Proofs.Ytmjhmjbbfklbdaa
