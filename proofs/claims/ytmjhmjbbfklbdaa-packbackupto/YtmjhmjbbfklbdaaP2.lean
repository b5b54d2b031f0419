/- Walks over the pack package and its reference: the check sum. -/
import Derived.Test.YtmjhmjbbfklbdaaP1
namespace Go.Proofs.Ytmjhmjbbfklbdaa
open Go.RowKit

theorem xor_poly (S : Nat) (h : S < 4294967296) : bits .xor .u32 (S : Int) 3988292384 = ((S ^^^ POLY : Nat) : Int) := u32_xor_nat S POLY h (by decide)
theorem xor_ones (S : Nat) (h : S < 4294967296) : bits .xor .u32 (S : Int) 4294967295 = ((S ^^^ ONES : Nat) : Int) := u32_xor_nat S ONES h (by decide)
theorem ones_xor (S : Nat) (h : S < 4294967296) : bits .xor .u32 4294967295 (S : Int) = ((S ^^^ ONES : Nat) : Int) := by rw [Nat.xor_comm]; exact u32_xor_nat ONES S (by decide) h
theorem low_bit (S : Nat) (h : S < 4294967296) : bits .and .u32 (S : Int) 1 = ((S % 2 : Nat) : Int) := by
  rw [← Nat.and_one_is_mod]; exact u32_and_nat S 1 h (by decide)
theorem st_odd (S : Nat) (h : S % 2 = 1) : st S = S / 2 ^^^ POLY := by unfold st; rw [if_pos h]
theorem st_even (S : Nat) (h : ¬ S % 2 = 1) : st S = S / 2 := by unfold st; rw [if_neg h, Nat.xor_zero]

set_option maxHeartbeats 1000000 in
theorem sum_any (A : Option Addr) (c : Nat) (bs : List Nat) (w : World) (hx : Bts w A bs) (lx : bs.length ≤ 140737488355328) :
    Calls Try.prog 24 #[.slice A bs.length c] w fun e w' => e = .returned (.int .u32 (crc bs : Nat)) ∧ w = w' := by
  have HX := Lib.hid hx
  clear hx
  go_enter Try.func24, Try.ntmps24
  go_wp2_with fail
  go_loop [3, 9] (fun v i => ∃ k : Nat, k ≤ bs.length ∧ i = .int .i64 k ∧ v = .int .u32 (cr ONES (bs.take k) : Nat)) (fun _ i => bs.length - (intOf i).toNat)
  case atStart => exact ⟨0, by omega, rfl, rfl⟩
  case round =>
    obtain ⟨k, hk, rfl, rfl⟩ := hrel
    by_cases hlt : k < bs.length
    · obtain ⟨b, off, rfl, _, hc⟩ := HX.out.2 (by omega)
      have c1 := hc k hlt
      have b1 := HX.out.1 k
      have b2 := cr_lt ONES (bs.take k) ones_lt (take_lt HX.out.1 k)
      have HN : Hid (cr ONES (bs.take (k + 1)) = cb (cr ONES (bs.take k)) (bn bs k)) := by
        show cr ONES (bs.take (k + 1)) = _
        rw [take_snoc bs k hlt, cr_snoc]
      clear hc
      generalize cr ONES (bs.take k) = C at *
      generalize bn bs k = y at *
      have hxx : bits .xor .u32 (C : Int) (y : Int) = ((C ^^^ y : Nat) : Int) := u32_xor_nat C y b2 (by omega)
      have b3 : C ^^^ y < 4294967296 := Nat.xor_lt_two_pow (n := 32) b2 (by omega)
      unfold cb at HN
      generalize C ^^^ y = D at *
      go_wp2_with fail
      clear hxx
      go_loop [3, 17] (fun v i => ∃ j : Nat, j ≤ 8 ∧ i = .int .i64 j ∧ v = .int .u32 (sts j D : Nat)) (fun _ i => 8 - (intOf i).toNat)
      case atStart => exact ⟨0, by omega, rfl, rfl⟩
      case round =>
        obtain ⟨j, hj, rfl, rfl⟩ := hrel
        by_cases hlj : j < 8
        · have b4 := sts_lt j D b3
          have HS := Lib.hid (sts_succ j D)
          generalize sts j D = S at *
          have hl := low_bit S b4
          by_cases ho : S % 2 = 1
          · rw [ho] at hl
            have hl2 : bits .and .u32 (S : Int) 1 = 1 := hl
            have hp := Lib.hid (xor_poly (S / 2) (by omega))
            have HO := Lib.hid (st_odd S ho)
            clear hl ho
            go_wp2
            go_round
            case rel => exact ⟨j + 1, by omega, by go_num, by rw [HS.out, HO.out, ← hp.out]; rfl⟩
            case measure => simp [intOf]; omega
          · have h0 : S % 2 = 0 := by omega
            rw [h0] at hl
            have hl2 : bits .and .u32 (S : Int) 1 = 0 := hl
            have HO := Lib.hid (st_even S ho)
            clear hl ho h0
            go_wp2
            go_round
            case rel => exact ⟨j + 1, by omega, by go_num, by rw [HS.out, HO.out]; rfl⟩
            case measure => simp [intOf]; omega
        · obtain rfl : j = 8 := by omega
          go_wp2
          go_round
          case rel => exact ⟨k + 1, by omega, by go_num, by rw [HN.out]⟩
          case measure => simp [intOf]; omega
    · obtain rfl : k = bs.length := by omega
      have b2 := cr_lt ONES bs ones_lt (bn_mem HX.out.1)
      have e := List.take_length (l := bs)
      rw [e]
      have e2 := Lib.hid (ones_xor (cr ONES bs) b2)
      clear e
      go_wp2
      go_ret
      exact ⟨ret_int (by exact e2.out), rfl⟩

/-- the reference's register, j bits of the byte x in -/
def rr (c x j : Nat) : Nat := sts j (c ^^^ x) ^^^ x / 2 ^ j
theorem rr_zero (c x : Nat) : rr c x 0 = c := by simp [rr, sts, Nat.xor_assoc]
theorem rr_eight (c x : Nat) (hx : x < 256) : rr c x 8 = cb c x := by
  unfold rr cb
  rw [Nat.div_eq_of_lt (show x < 2 ^ 8 by omega), Nat.xor_zero]
theorem rr_lt (c x j : Nat) (hc : c < 4294967296) (hx : x < 256) : rr c x j < 4294967296 :=
  Nat.xor_lt_two_pow (n := 32) (sts_lt _ _ (Nat.xor_lt_two_pow (n := 32) hc (by omega))) (Nat.lt_of_le_of_lt (Nat.div_le_self _ _) (by omega))
theorem rr_step (c x j : Nat) : rr c x (j + 1) = rr c x j / 2 ^^^ (if x / 2 ^ j % 2 = rr c x j % 2 then 0 else POLY) := by
  unfold rr
  rw [sts_succ]
  generalize sts j (c ^^^ x) = s
  rw [Nat.pow_succ, ← Nat.div_div_eq_div_mul]
  generalize x / 2 ^ j = y
  rw [xor_half, xor_par]
  unfold st
  rcases Nat.mod_two_eq_zero_or_one s with h | h <;> rcases Nat.mod_two_eq_zero_or_one y with h2 | h2 <;> rw [h, h2]
  · simp
  · simp
  · simp only [if_true]
    rw [if_neg (by omega), Nat.xor_assoc, Nat.xor_comm POLY, ← Nat.xor_assoc]
  · simp only [if_true]
    rw [if_neg (by omega), Nat.xor_assoc, Nat.xor_comm POLY, ← Nat.xor_assoc]

set_option maxHeartbeats 1000000 in
theorem sum2_any (A : Option Addr) (c : Nat) (bs : List Nat) (w : World) (hx : Bts w A bs) (lx : bs.length ≤ 140737488355328) :
    Calls Try.prog 25 #[.slice A bs.length c] w fun e w' => e = .returned (.int .u32 (crc bs : Nat)) ∧ w = w' := by
  have HX := Lib.hid hx
  clear hx
  go_enter Try.func25, Try.ntmps25
  go_wp2_with fail
  go_loop [3, 4] (fun v i => ∃ k : Nat, k ≤ bs.length ∧ i = .int .i64 k ∧ v = .int .u32 (cr ONES (bs.take k) : Nat)) (fun _ i => bs.length - (intOf i).toNat)
  case atStart => exact ⟨0, by omega, rfl, rfl⟩
  case round =>
    obtain ⟨k, hk, rfl, rfl⟩ := hrel
    by_cases hlt : k < bs.length
    · obtain ⟨b, off, rfl, _, hc⟩ := HX.out.2 (by omega)
      have c1 := hc k hlt
      have b1 := HX.out.1 k
      have b2 := cr_lt ONES (bs.take k) ones_lt (take_lt HX.out.1 k)
      have HN : Hid (cr ONES (bs.take (k + 1)) = cb (cr ONES (bs.take k)) (bn bs k)) := by
        show cr ONES (bs.take (k + 1)) = _
        rw [take_snoc bs k hlt, cr_snoc]
      clear hc
      generalize cr ONES (bs.take k) = C at *
      generalize bn bs k = y at *
      go_wp2_with fail
      go_loop [3, 5] (fun v i => ∃ j : Nat, j ≤ 8 ∧ i = .int .i64 j ∧ v = .int .u32 (rr C y j : Nat)) (fun _ i => 8 - (intOf i).toNat)
      case atStart => exact ⟨0, by omega, rfl, by rw [rr_zero]⟩
      case round =>
        obtain ⟨j, hj, rfl, rfl⟩ := hrel
        by_cases hlj : j < 8
        · have b4 := rr_lt C y j b2 b1
          have hs := rr_step C y j
          have b5 : y / 2 ^ j < 256 := Nat.lt_of_le_of_lt (Nat.div_le_self _ _) b1
          have hy : ((y : Int) / 2 ^ j) = ((y / 2 ^ j : Nat) : Int) := by simp
          generalize rr C y j = S at *
          generalize y / 2 ^ j = z at *
          have HS := Lib.hid hs
          clear hs
          by_cases ho : z % 2 = S % 2
          · have q1 : ((z : Int) % 2 == (S : Int) % 2) = true := by simp; omega
            have q2 : ((z : Int) % 2 != (S : Int) % 2) = false := by simp; omega
            have HO := Lib.hid ho
            clear ho
            go_wp2
            go_round
            case rel => exact ⟨j + 1, by omega, by go_num, by rw [HS.out, if_pos HO.out, Nat.xor_zero]; rfl⟩
            case measure => simp [intOf]; omega
          · have q1 : ((z : Int) % 2 == (S : Int) % 2) = false := by simp; omega
            have q2 : ((z : Int) % 2 != (S : Int) % 2) = true := by simp; omega
            have HO := Lib.hid ho
            have hp := Lib.hid (xor_poly (S / 2) (by omega))
            clear ho
            go_wp2
            go_round
            case rel => exact ⟨j + 1, by omega, by go_num, by rw [HS.out, if_neg HO.out, ← hp.out]; rfl⟩
            case measure => simp [intOf]; omega
        · obtain rfl : j = 8 := by omega
          rw [rr_eight C y b1, ← HN.out]
          go_wp2
          go_round
          case rel => exact ⟨k + 1, by omega, by go_num, rfl⟩
          case measure => simp [intOf]; omega
    · obtain rfl : k = bs.length := by omega
      have b2 := cr_lt ONES bs ones_lt (bn_mem HX.out.1)
      have e := List.take_length (l := bs)
      rw [e]
      have e2 := Lib.hid (xor_ones (cr ONES bs) b2)
      clear e
      go_wp2
      go_ret
      exact ⟨ret_int (by exact e2.out), rfl⟩
end Go.Proofs.Ytmjhmjbbfklbdaa
