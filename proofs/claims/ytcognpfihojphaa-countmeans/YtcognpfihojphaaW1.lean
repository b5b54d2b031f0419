/- Walks over the bits package: words in memory, oneForm, and small leaves. -/
import Derived.Test.YtcognpfihojphaaRows
import Derived.Test.YtcognpfihojphaaM
import Derived.WalkKit
import Derived.WalkSpells
import Derived.WalkLawsBesides
import Derived.Lib.Hide
namespace Go.Proofs.Ytcognpfihojphaa
open Go.RowKit

/-- the number that a word stands for -/
def uv (x : BitVec 64) : Int := (x.toNat : Int)

/-- the slice at A reads as the words xs, and lies in memory that is there -/
def U64s (w : World) (A : Option Addr) (xs : List (BitVec 64)) : Prop :=
  0 < xs.length → ∃ b off, A = some ⟨b, off, none⟩ ∧ b < w.heap.size ∧ ∀ j, j < xs.length → w.cell? ⟨b, off + j, none⟩ = some (.int .u64 (uv (wd xs j)))

theorem uv_eq_zero (x : BitVec 64) : (uv x == 0) = decide (x = 0#64) := by
  rw [Bool.eq_iff_iff]
  simp [uv]
  constructor
  · intro h; exact BitVec.eq_of_toNat_eq (by simpa using h)
  · intro h; rw [h]; rfl

theorem take_snoc_bv (xs : List (BitVec 64)) (k : Nat) (h : k < xs.length) : xs.take (k + 1) = xs.take k ++ [xs.getD k 0#64] := by
  rw [List.take_succ_eq_append_getElem h]; simp [List.getD, h]

theorem canon_round (xs : List (BitVec 64)) (k : Nat) (h0 : 0 < k) (hk : k ≤ xs.length) (hc : canon (xs.take k) = canon xs) (hz : (uv (wd xs (k - 1)) == 0) = true) :
    canon (xs.take (k - 1)) = canon xs := by
  have htk : xs.take k = xs.take (k - 1) ++ [wd xs (k - 1)] := by
    have := take_snoc_bv xs (k - 1) (by omega)
    rw [show k - 1 + 1 = k by omega] at this
    exact this
  rw [uv_eq_zero] at hz
  rw [← hc, htk, of_decide_eq_true hz, canon_snoc_zero]
theorem canon_stop (xs : List (BitVec 64)) (k : Nat) (h0 : 0 < k) (hk : k ≤ xs.length) (hc : canon (xs.take k) = canon xs) (hz : (uv (wd xs (k - 1)) == 0) = false) :
    (canon xs).length = k := by
  have htk : xs.take k = xs.take (k - 1) ++ [wd xs (k - 1)] := by
    have := take_snoc_bv xs (k - 1) (by omega)
    rw [show k - 1 + 1 = k by omega] at this
    exact this
  rw [uv_eq_zero] at hz
  rw [← hc, htk, canon_snoc _ _ (of_decide_eq_false hz)]
  simp; omega

set_option maxHeartbeats 400000 in
theorem oneForm_any (A : Option Addr) (c : Nat) (xs : List (BitVec 64)) (w : World) (hr : U64s w A xs) (hc : xs.length ≤ c) (hm : xs.length ≤ 9223372036854775807) :
    Calls Try.prog 33 #[.slice A xs.length c] w fun e w' => e = .returned (.slice A (canon xs).length c) ∧ w = w' := by
  go_enter Try.func33, Try.ntmps33
  go_wp2
  go_loop [3] (fun n => ∃ k : Nat, k ≤ xs.length ∧ n = .int .i64 k ∧ canon (xs.take k) = canon xs) (fun n => (intOf n).toNat)
  case atStart => exact ⟨xs.length, Nat.le_refl _, rfl, by rw [List.take_length]⟩
  case round =>
    obtain ⟨k, hk, rfl, hcan⟩ := hrel
    have HC := Lib.hid hcan; clear hcan
    by_cases h0 : 0 < k
    · obtain ⟨b, off, rfl, hb, hcell⟩ := hr (by omega)
      have hce := hcell (k - 1) (by omega)
      clear hcell hr
      go_wp2
      · have hz : (uv (wd xs (k - 1)) == 0) = true := by assumption
        go_round
        case rel => exact ⟨k - 1, by omega, by go_num, canon_round xs k h0 hk HC.out hz⟩
        case measure => simp [intOf]; omega
      · have hz : (uv (wd xs (k - 1)) == 0) = false := by assumption
        go_ret
        exact ⟨by rw [canon_stop xs k h0 hk HC.out hz]; rfl, rfl⟩
    · have hk0 : k = 0 := by omega
      subst hk0
      go_wp2
      go_ret
      refine ⟨?_, rfl⟩
      rw [← HC.out]; rfl

theorem uv_lt (x : BitVec 64) : 0 ≤ uv x ∧ uv x < 18446744073709551616 := by
  have := x.isLt
  unfold uv; omega
theorem uv_and (x y : BitVec 64) : bits .and .u64 (uv x) (uv y) = uv (x &&& y) := by
  have hx := uv_lt x; have hy := uv_lt y
  rw [u64_and _ _ hx.1 hx.2 hy.1 hy.2]; simp [uv]
theorem uv_or (x y : BitVec 64) : bits .or .u64 (uv x) (uv y) = uv (x ||| y) := by
  have hx := uv_lt x; have hy := uv_lt y
  rw [u64_or _ _ hx.1 hx.2 hy.1 hy.2]; simp [uv]
theorem uv_andNot (x y : BitVec 64) : bits .andNot .u64 (uv x) (uv y) = uv (x &&& ~~~y) := by
  have hx := uv_lt x; have hy := uv_lt y
  rw [u64_andNot _ _ hx.1 hx.2 hy.1 hy.2]; simp [uv]

theorem and1_any (x y : BitVec 64) (w : World) : Calls Try.prog 67 #[.int .u64 (uv x), .int .u64 (uv y)] w fun e w' => e = .returned (.int .u64 (uv (x &&& y))) ∧ w = w' := by
  go_enter Try.func67, Try.ntmps67
  go_wp2
  go_ret
  exact ⟨by rw [← uv_and]; rfl, rfl⟩
theorem ret_int {k : IntKind} {a b : Int} (h : a = b) : Ending.returned (.int k a) = .returned (.int k b) := by rw [h]

theorem word_any (A : Option Addr) (c : Nat) (xs : List (BitVec 64)) (i : Nat) (w : World) (hr : U64s w A xs) (hm : xs.length ≤ 9223372036854775807) :
    Calls Try.prog 69 #[.slice A xs.length c, .int .i64 i] w fun e w' => e = .returned (.int .u64 (uv (wd xs i))) ∧ w = w' := by
  by_cases h : i < xs.length
  · obtain ⟨b, off, rfl, hb, hcell⟩ := hr (by omega)
    have hce := hcell i h
    clear hcell hr
    generalize wd xs i = x at hce ⊢
    go_enter Try.func69, Try.ntmps69
    go_wp2
    go_ret
    exact ⟨rfl, rfl⟩
  · have e0 : wd xs i = 0#64 := by simp [wd, List.getD, List.getElem?_eq_none (show xs.length ≤ i by omega)]
    rw [e0]
    go_enter Try.func69, Try.ntmps69
    go_wp2
    go_ret
    exact ⟨rfl, rfl⟩

theorem isPlace_yes (i : Int) (w : World) (h0 : 0 ≤ i) (h1 : i < 65536) : Calls Try.prog 30 #[.int .i64 i] w fun e w' => e = .returned (.bool true) ∧ w = w' := by
  have h2 : decide (i < 65536) = true := by simp [h1]
  go_enter Try.func30, Try.ntmps30
  go_wp2
  go_ret
  exact ⟨rfl, rfl⟩
theorem isPlace_no (i : Int) (w : World) (h : i < 0 ∨ 65536 ≤ i) : Calls Try.prog 30 #[.int .i64 i] w fun e w' => e = .returned (.bool false) ∧ w = w' := by
  rcases h with h | h
  · go_enter Try.func30, Try.ntmps30
    go_wp2
    go_ret
    exact ⟨rfl, rfl⟩
  · have h0 : 0 ≤ i := by omega
    have h2 : decide (i < 65536) = false := by simp; omega
    go_enter Try.func30, Try.ntmps30
    go_wp2
    go_ret
    exact ⟨rfl, rfl⟩
theorem wrap_pow (k : Nat) (h : k < 64) : IntKind.u64.wrap (2 ^ k) = uv (1#64 <<< k) := by
  rw [IntKind.wrap_u64]
  have h1 : (2 : Nat) ^ k < 2 ^ 64 := Nat.pow_lt_pow_right (by omega) h
  simp only [uv, BitVec.toNat_shiftLeft, BitVec.toNat_ofNat, Nat.shiftLeft_eq]
  rw [show (1 % 2 ^ 64 * 2 ^ k) = 2 ^ k by simp, Nat.mod_eq_of_lt h1]
  have : ((2 : Int) ^ k) = ((2 ^ k : Nat) : Int) := by simp
  rw [this]
  generalize (2 : Nat) ^ k = m at h1 ⊢
  omega
theorem mask_any (i : Nat) (w : World) (hi : i ≤ 9223372036854775807) : Calls Try.prog 32 #[.int .i64 i] w fun e w' => e = .returned (.int .u64 (uv (1#64 <<< (i % 64)))) ∧ w = w' := by
  go_enter Try.func32, Try.ntmps32
  go_wp2
  go_ret
  exact ⟨ret_int (wrap_pow _ (by omega)), rfl⟩
end Go.Proofs.Ytcognpfihojphaa
