/- Walks over the pack package and its reference: isSize, number, Sum. -/
import Derived.Test.YtmjhmjbbfklbdaaB
namespace Go.Proofs.Ytmjhmjbbfklbdaa
open Go.RowKit

theorem isSize_yes (n : Int) (w : World) (h1 : 1 ≤ n) (h2 : n ≤ 8) : Calls Try.prog 28 #[.int .i64 n] w fun e w' => e = .returned (.bool true) ∧ w = w' := by
  go_enter Try.func28, Try.ntmps28
  go_wp2
  go_ret
  exact ⟨rfl, rfl⟩
theorem isSize_no (n : Int) (w : World) (h : ¬ (1 ≤ n ∧ n ≤ 8)) : Calls Try.prog 28 #[.int .i64 n] w fun e w' => e = .returned (.bool false) ∧ w = w' := by
  by_cases h1 : 1 ≤ n
  · have h2 : ¬ n ≤ 8 := fun h2 => h ⟨h1, h2⟩
    clear h
    go_enter Try.func28, Try.ntmps28
    go_wp2
    go_ret
    exact ⟨rfl, rfl⟩
  · clear h
    go_enter Try.func28, Try.ntmps28
    go_wp2
    go_ret
    exact ⟨rfl, rfl⟩

theorem num_snoc (l : List Nat) (x : Nat) : num (l ++ [x]) = num l + x * 256 ^ l.length := by
  rw [num_append]; simp [num, Nat.mul_comm]
theorem num_or (v x k : Nat) (h : v < 256 ^ k) : v ||| (x * 256 ^ k) = v + x * 256 ^ k := by
  have e : (256 : Nat) ^ k = 2 ^ (8 * k) := by rw [Nat.pow_mul]
  rw [e] at h ⊢
  have := Nat.shiftLeft_add_eq_or_of_lt h x
  rw [Nat.shiftLeft_eq] at this
  rw [Nat.or_comm, ← this, Nat.add_comm]
theorem take_lt {bs : List Nat} (h : ∀ j, bn bs j < 256) (k : Nat) : ∀ x ∈ bs.take k, x < 256 := fun x hx => bn_mem h x (List.mem_of_mem_take hx)
theorem num_take_lt {bs : List Nat} (h : ∀ j, bn bs j < 256) (k : Nat) (hk : k ≤ 8) : num (bs.take k) < 18446744073709551616 := by
  have h1 := num_lt (bs.take k) (take_lt h k)
  have h2 : (256 : Nat) ^ (bs.take k).length ≤ 256 ^ 8 := Nat.pow_le_pow_right (by omega) (by rw [List.length_take]; omega)
  exact Nat.lt_of_lt_of_le h1 (Nat.le_trans h2 (by decide))
theorem number_num {bs : List Nat} (h : ∀ j, bn bs j < 256) (k : Nat) (hk : k < bs.length) (h8 : k < 8) :
    bits .or .u64 (num (bs.take k) : Nat) (IntKind.u64.wrap ((bn bs k : Nat) * 2 ^ (8 * k))) = (num (bs.take (k + 1)) : Nat) := by
  have e : ((bn bs k : Nat) : Int) * 2 ^ (8 * k) = ((bn bs k * 256 ^ k : Nat) : Int) := by
    rw [show (256 : Nat) ^ k = 2 ^ (8 * k) by rw [Nat.pow_mul]]; simp
  have h1 := num_lt (bs.take k) (take_lt h k)
  have hl : (bs.take k).length = k := by rw [List.length_take]; omega
  have h2 := num_take_lt h (k + 1) (by omega)
  have h3 := num_take_lt h k (by omega)
  rw [hl] at h1
  rw [take_snoc bs k hk, num_snoc, hl] at h2 ⊢
  rw [e, IntKind.wrap_u64]
  have h4 := num_or (num (bs.take k)) (bn bs k) k h1
  generalize num (bs.take k) = a at *
  generalize bn bs k * 256 ^ k = b at *
  have e2 : ((b : Nat) : Int) % 18446744073709551616 = (b : Nat) := by omega
  first
    | rw [e2]
    | skip
  rw [u64_or_nat _ _ (by omega) (by omega), h4]

set_option maxHeartbeats 400000 in
theorem number_any (A : Option Addr) (c : Nat) (bs : List Nat) (w : World) (hx : Bts w A bs) (h8 : bs.length ≤ 8) :
    Calls Try.prog 30 #[.slice A bs.length c] w fun e w' => e = .returned (.int .u64 (num bs : Nat)) ∧ w = w' := by
  have HX := Lib.hid hx
  clear hx
  go_enter Try.func30, Try.ntmps30
  go_wp2_with fail
  go_loop [3, 8] (fun v i => ∃ k : Nat, k ≤ bs.length ∧ i = .int .i64 k ∧ v = .int .u64 (num (bs.take k) : Nat)) (fun _ i => bs.length - (intOf i).toNat)
  case atStart => exact ⟨0, by omega, rfl, rfl⟩
  case round =>
    obtain ⟨k, hk, rfl, rfl⟩ := hrel
    by_cases hlt : k < bs.length
    · obtain ⟨b, off, rfl, _, hc⟩ := HX.out.2 (by omega)
      have c1 := hc k hlt
      have b1 := HX.out.1 k
      have b2 := num_take_lt HX.out.1 k (by omega)
      have HN := Lib.hid (number_num HX.out.1 k hlt (by omega))
      clear hc
      go_wp2
      go_round
      case rel => exact ⟨k + 1, by omega, by go_num, by rw [HN.out]⟩
      case measure => simp [intOf]; omega
    · obtain rfl : k = bs.length := by omega
      have e := List.take_length (l := bs)
      rw [e]
      go_wp2
      go_ret
      exact ⟨rfl, rfl⟩

theorem num_drop {bs : List Nat} (k : Nat) (hk : k < bs.length) : num (bs.drop k) = bn bs k + 256 * num (bs.drop (k + 1)) := by
  rw [List.drop_eq_getElem_cons hk, num, bn_get hk]
theorem num_drop_lt {bs : List Nat} (h : ∀ j, bn bs j < 256) (k : Nat) (h8 : bs.length ≤ 8) : num (bs.drop k) < 18446744073709551616 := by
  have h1 := num_lt (bs.drop k) (fun x hx => bn_mem h x (List.mem_of_mem_drop hx))
  have h2 : (256 : Nat) ^ (bs.drop k).length ≤ 256 ^ 8 := Nat.pow_le_pow_right (by omega) (by rw [List.length_drop]; omega)
  exact Nat.lt_of_lt_of_le h1 (Nat.le_trans h2 (by decide))

set_option maxHeartbeats 400000 in
theorem number2_any (A : Option Addr) (c : Nat) (bs : List Nat) (w : World) (hx : Bts w A bs) (h8 : bs.length ≤ 8) :
    Calls Try.prog 31 #[.slice A bs.length c] w fun e w' => e = .returned (.int .u64 (num bs : Nat)) ∧ w = w' := by
  have HX := Lib.hid hx
  have e0 : Hid (num (bs.drop bs.length) = 0) := by
    show num (bs.drop bs.length) = 0
    rw [List.drop_length]; rfl
  clear hx
  go_enter Try.func31, Try.ntmps31
  go_wp2_with fail
  go_loop [3, 4] (fun v i => ∃ k : Nat, k ≤ bs.length ∧ i = .int .i64 ((k : Int) - 1) ∧ v = .int .u64 (num (bs.drop k) : Nat)) (fun _ i => (intOf i + 1).toNat)
  case atStart => exact ⟨bs.length, by omega, rfl, by rw [e0.out]; rfl⟩
  case round =>
    obtain ⟨k, hk, rfl, rfl⟩ := hrel
    by_cases hlt : 0 < k
    · obtain ⟨j, rfl⟩ : ∃ j, k = j + 1 := ⟨k - 1, by omega⟩
      obtain ⟨b, off, rfl, _, hc⟩ := HX.out.2 (by omega)
      have c1 := hc j (by omega)
      have b1 := HX.out.1 j
      have b3 := num_drop_lt HX.out.1 j h8
      have hn := num_drop (bs := bs) j (by omega)
      rw [hn] at b3
      have HN := Lib.hid hn
      rw [show (((j + 1 : Nat) : Int) - 1) = (j : Int) by omega]
      clear hc hn
      generalize num (bs.drop (j + 1)) = V at *
      generalize bn bs j = y at *
      have q1 : IntKind.u64.wrap (IntKind.u64.wrap ((V : Int) * 256) + (y : Int)) = ((y + 256 * V : Nat) : Int) := by
        rw [IntKind.wrap_u64, IntKind.wrap_u64]; omega
      go_wp2
      go_round
      case rel => exact ⟨j, by omega, rfl, by rw [HN.out]; congr 1; first | omega | (rw [← q1])⟩
      case measure => simp [intOf] <;> omega
    · obtain rfl : k = 0 := by omega
      rw [List.drop_zero]
      go_wp2
      go_ret
      exact ⟨rfl, rfl⟩
end Go.Proofs.Ytmjhmjbbfklbdaa
