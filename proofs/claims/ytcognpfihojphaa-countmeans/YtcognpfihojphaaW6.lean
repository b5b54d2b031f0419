/- Walks: math/bits.OnesCount64, Count. -/
import Derived.Test.YtcognpfihojphaaW4
import Derived.Test.YtcognpfihojphaaP
namespace Go.Proofs.Ytcognpfihojphaa
open Go.RowKit

theorem rep85 : rep 85 8 = 6148914691236517205 := by decide
theorem rep51 : rep 51 8 = 3689348814741910323 := by decide
theorem rep15 : rep 15 8 = 1085102592571150095 := by decide

theorem and_u64 (a m : Nat) (ha : a < 18446744073709551616) (hm : m < 18446744073709551616) : bits .and .u64 (a : Int) (m : Int) = ((a &&& m : Nat) : Int) := u64_and_nat a m ha hm

theorem s1 (X : Nat) (h : X < 18446744073709551616) : IntKind.u64.wrap (bits .and .u64 ((X : Int) / 2) 6148914691236517205 + bits .and .u64 (X : Int) 6148914691236517205) = ((t1 8 X : Nat) : Int) ∧ t1 8 X ≤ 12297829382473034410 := by
  have e : ((X : Int) / 2) = ((X / 2 : Nat) : Int) := by omega
  have a1 := and_u64 (X / 2) 6148914691236517205 (by omega) (by decide)
  have a2 := and_u64 X 6148914691236517205 h (by decide)
  have l1 : X / 2 &&& 6148914691236517205 ≤ 6148914691236517205 := Nat.and_le_right
  have l2 : X &&& 6148914691236517205 ≤ 6148914691236517205 := Nat.and_le_right
  have et : t1 8 X = (X / 2 &&& 6148914691236517205) + (X &&& 6148914691236517205) := by unfold t1; rw [rep85]
  rw [e, et]
  rw [show ((6148914691236517205 : Int)) = ((6148914691236517205 : Nat) : Int) from rfl, a1, a2, IntKind.wrap_u64]
  omega
theorem s2 (X : Nat) (h : X < 18446744073709551616) : IntKind.u64.wrap (bits .and .u64 ((X : Int) / 4) 3689348814741910323 + bits .and .u64 (X : Int) 3689348814741910323) = ((t2 8 X : Nat) : Int) ∧ t2 8 X ≤ 7378697629483820646 := by
  have e : ((X : Int) / 4) = ((X / 4 : Nat) : Int) := by omega
  have a1 := and_u64 (X / 4) 3689348814741910323 (by omega) (by decide)
  have a2 := and_u64 X 3689348814741910323 h (by decide)
  have l1 : X / 4 &&& 3689348814741910323 ≤ 3689348814741910323 := Nat.and_le_right
  have l2 : X &&& 3689348814741910323 ≤ 3689348814741910323 := Nat.and_le_right
  have et : t2 8 X = (X / 4 &&& 3689348814741910323) + (X &&& 3689348814741910323) := by unfold t2; rw [rep51]
  rw [e, et]
  rw [show ((3689348814741910323 : Int)) = ((3689348814741910323 : Nat) : Int) from rfl, a1, a2, IntKind.wrap_u64]
  omega
theorem s3 (X : Nat) (h : X ≤ 7378697629483820646) : bits .and .u64 (IntKind.u64.wrap ((X : Int) / 16 + (X : Int))) 1085102592571150095 = ((t3 8 X : Nat) : Int) := by
  have e : IntKind.u64.wrap ((X : Int) / 16 + (X : Int)) = ((X / 16 + X : Nat) : Int) := by rw [IntKind.wrap_u64]; omega
  have et : t3 8 X = (X / 16 + X) &&& 1085102592571150095 := by unfold t3; rw [rep15]
  rw [e, et]
  exact and_u64 (X / 16 + X) 1085102592571150095 (by omega) (by decide)

theorem wrap_step (y m : Nat) (h : y + y / m < 18446744073709551616) : IntKind.u64.wrap ((y : Int) + (y : Int) / (m : Int)) = ((y + y / m : Nat) : Int) := by
  rw [IntKind.wrap_u64, ← Int.natCast_ediv]
  generalize y / m = q at *
  omega
theorem wrap_last (z : Nat) (h : z < 9223372036854775808) : wrap64 (z : Int) % 128 = ((z % 128 : Nat) : Int) := by unfold wrap64; omega

theorem ones_math (X : Nat) (h : X < 18446744073709551616) (Y : Int) (hY : Y = (X : Int)) (a b c : Int)
    (ha : a = IntKind.u64.wrap (bits .and .u64 (Y / 2) 6148914691236517205 + bits .and .u64 Y 6148914691236517205))
    (hb : b = IntKind.u64.wrap (bits .and .u64 (a / 4) 3689348814741910323 + bits .and .u64 a 3689348814741910323))
    (hc : c = bits .and .u64 (IntKind.u64.wrap (b / 16 + b)) 1085102592571150095) (d e f : Int)
    (hd : d = IntKind.u64.wrap (c + c / 256)) (he : e = IntKind.u64.wrap (d + d / 65536)) (hf : f = IntKind.u64.wrap (e + e / 4294967296)) :
    bits .and .i64 (wrap64 f) 127 = ((popc X : Nat) : Int) := by
  subst hY
  obtain ⟨e1, l1⟩ := s1 X h
  rw [e1] at ha; subst ha
  obtain ⟨e2, l2⟩ := s2 (t1 8 X) (by omega)
  rw [e2] at hb; subst hb
  rw [s3 _ l2] at hc; subst hc
  have hp := pop_fold X
  generalize t3 8 (t2 8 (t1 8 X)) = y at *
  simp only [] at hp
  obtain ⟨p1, p2, p3, p4⟩ := hp
  have d1 : d = ((y + y / 256 : Nat) : Int) := by rw [hd]; exact wrap_step y 256 p1
  subst d1
  have d2 : e = ((y + y / 256 + (y + y / 256) / 65536 : Nat) : Int) := by rw [he]; exact wrap_step _ 65536 p2
  subst d2
  have d3 : f = ((y + y / 256 + (y + y / 256) / 65536 + (y + y / 256 + (y + y / 256) / 65536) / 4294967296 : Nat) : Int) := by rw [hf]; exact wrap_step _ 4294967296 (Nat.lt_trans p3 (by decide))
  subst d3
  rw [i64_and127, wrap_last _ p3, p4]

set_option maxHeartbeats 800000 in
theorem ones_any (x : BitVec 64) (w : World) : Calls Try.prog 65 #[.int .u64 (uv x)] w fun e w' => e = .returned (.int .i64 (popc x.toNat : Nat)) ∧ w = w' := by
  go_enter Try.func65, Try.ntmps65
  go_wp2
  go_ret
  refine ⟨ret_int ?_, rfl⟩
  exact ones_math x.toNat x.isLt (uv x) rfl _ _ _ rfl rfl rfl _ _ _ rfl rfl rfl

theorem bit_snoc_lo (xs : List (BitVec 64)) (x : BitVec 64) (i : Nat) (h : i < 64 * xs.length) : bit (xs ++ [x]) i = bit xs i := by
  unfold bit
  rw [getD_snoc, if_neg (by omega)]
theorem bit_snoc_hi (xs : List (BitVec 64)) (x : BitVec 64) (l : Nat) (h : l < 64) : bit (xs ++ [x]) (64 * xs.length + l) = x.toNat.testBit l := by
  unfold bit
  rw [getD_snoc, if_pos (by omega), show (64 * xs.length + l) % 64 = l by omega]
  rfl
theorem cnt_snoc (xs : List (BitVec 64)) (x : BitVec 64) : cnt (xs ++ [x]) = cnt xs + popc x.toNat := by
  unfold cnt popc
  rw [show 64 * (xs ++ [x]).length = 64 * xs.length + 64 by simp; omega, countP_add]
  congr 1
  · exact List.countP_congr fun i hi => by rw [bit_snoc_lo _ _ _ (List.mem_range.1 hi)]
  · exact List.countP_congr fun i hi => by rw [bit_snoc_hi _ _ _ (List.mem_range.1 hi)]
theorem take_snoc_wd (xs : List (BitVec 64)) (k : Nat) (h : k < xs.length) : xs.take (k + 1) = xs.take k ++ [wd xs k] := take_snoc_bv xs k h
theorem cnt_take (xs : List (BitVec 64)) (k : Nat) (h : k < xs.length) : cnt (xs.take (k + 1)) = cnt (xs.take k) + popc (wd xs k).toNat := by
  rw [take_snoc_wd xs k h, cnt_snoc]
theorem cnt_le (xs : List (BitVec 64)) : cnt xs ≤ 64 * xs.length := by
  have := List.countP_le_length (p := bit xs) (l := List.range (64 * xs.length))
  simpa [cnt] using this

set_option maxHeartbeats 400000 in
theorem count_any (A : Option Addr) (c : Nat) (xs : List (BitVec 64)) (w : World) (hx : U64s w A xs) (lx : xs.length ≤ 35184372088832) :
    Calls Try.prog 58 #[.slice A xs.length c] w fun e w' => e = .returned (.int .i64 (cnt xs : Nat)) ∧ w = w' := by
  go_enter Try.func58, Try.ntmps58
  go_wp2
  go_loop [3, 8] (fun n i => ∃ k m : Nat, k ≤ xs.length ∧ i = .int .i64 k ∧ n = .int .i64 m ∧ m ≤ 64 * k ∧ m = cnt (xs.take k)) (fun _ i => xs.length - (intOf i).toNat)
  case atStart => exact ⟨0, 0, Nat.zero_le _, rfl, rfl, Nat.zero_le _, rfl⟩
  case round =>
    obtain ⟨k, m, hk, rfl, rfl, hm, hcm⟩ := hrel
    have HM := Lib.hid hcm; clear hcm
    by_cases hlt : k < xs.length
    · obtain ⟨b, off, rfl, hbb, hcell⟩ := hx (by omega)
      have hc1 := hcell k hlt
      have hp := popc_le (wd xs k).toNat
      have HT := Lib.hid (cnt_take xs k hlt)
      have H1 := Lib.hid (ones_any (wd xs k) w)
      generalize hpp : popc (wd xs k).toNat = p at hp HT H1
      clear hcell hx hpp
      go_wp2_with fail
      refine H1.out.mono ?_
      rintro e w' ⟨rfl, rfl⟩
      go_wp2
      go_round
      case rel => exact ⟨k + 1, m + p, by omega, by go_num, by go_num, by omega, by rw [HT.out, HM.out]⟩
      case measure => simp [intOf]; omega
    · obtain rfl : k = xs.length := by omega
      go_wp2
      go_ret
      refine ⟨ret_int ?_, rfl⟩
      rw [HM.out, List.take_length]
end Go.Proofs.Ytcognpfihojphaa
