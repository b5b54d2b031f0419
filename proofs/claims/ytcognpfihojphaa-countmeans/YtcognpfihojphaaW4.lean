/- Walks over the bits package: Low, Up. -/
import Derived.Test.YtcognpfihojphaaW3
namespace Go.Proofs.Ytcognpfihojphaa
open Go.RowKit

theorem uv_sub_one (x : BitVec 64) : IntKind.u64.wrap (uv x - 1) = uv (x - 1#64) := by
  have := x.isLt
  rw [IntKind.wrap_u64]
  simp only [uv, BitVec.toNat_sub]
  have e : (1#64).toNat = 1 := rfl
  rw [e]
  omega

theorem uv_shl (x : BitVec 64) (r : Nat) : IntKind.u64.wrap (uv x * 2 ^ r) = uv (x <<< r) := by
  rw [IntKind.wrap_u64]
  simp only [uv, BitVec.toNat_shiftLeft, Nat.shiftLeft_eq]
  have e : ((x.toNat : Int) * 2 ^ r) = ((x.toNat * 2 ^ r : Nat) : Int) := by simp
  rw [e]
  generalize x.toNat * 2 ^ r = m
  omega
theorem uv_shr (x : BitVec 64) (r : Nat) : uv x / 2 ^ r = uv (x >>> r) := by
  simp only [uv, BitVec.toNat_ushiftRight, Nat.shiftRight_eq_div_pow]
  simp

/-- the words of a vector moved up by s words and r bits, k of them done -/
def upf (xs : List (BitVec 64)) (s r k j : Nat) : BitVec 64 :=
  (if s ≤ j ∧ j - s < k then wd xs (j - s) <<< r else 0#64) ||| (if s + 1 ≤ j ∧ j - s - 1 < k then wd xs (j - s - 1) >>> (64 - r) else 0#64)
def upk (xs : List (BitVec 64)) (s r k : Nat) : List (BitVec 64) := mkv (upf xs s r k) (xs.length + s + 1)
theorem wd_upk (xs : List (BitVec 64)) (s r k j : Nat) (h : j < xs.length + s + 1) : wd (upk xs s r k) j = upf xs s r k j := by
  unfold wd upk; rw [getD_mkv, if_pos h]
theorem len_upk (xs : List (BitVec 64)) (s r k : Nat) : (upk xs s r k).length = xs.length + s + 1 := len_mkv _ _
theorem upk_step (xs : List (BitVec 64)) (s r k : Nat) (hk : k < xs.length) (x : BitVec 64) (hx : x = wd xs k) :
    ((upk xs s r k).set (k + s) (wd (upk xs s r k) (k + s) ||| x <<< r)).set (k + s + 1) (x >>> (64 - r)) = upk xs s r (k + 1) := by
  subst hx
  rw [wd_upk _ _ _ _ _ (by omega)]
  unfold upk mkv
  apply List.ext_getElem (by simp)
  intro j h1 h2
  simp only [List.getElem_set, List.getElem_map, List.getElem_range]
  by_cases e1 : k + s + 1 = j
  · rw [if_pos e1]; subst e1
    unfold upf
    rw [if_neg (by omega), if_pos (by omega), show k + s + 1 - s - 1 = k by omega]
    simp
  · rw [if_neg e1]
    by_cases e2 : k + s = j
    · rw [if_pos e2]; subst e2
      unfold upf
      rw [if_neg (by omega), if_pos (show s ≤ k + s ∧ k + s - s < k + 1 by omega), show k + s - s = k by omega]
      by_cases hk0 : 1 ≤ k
      · rw [if_pos (by omega), if_pos (by omega)]
        rw [BitVec.zero_or, BitVec.or_comm]
      · rw [if_neg (by omega), if_neg (by omega)]
        simp
    · rw [if_neg e2]
      unfold upf
      congr 1
      · by_cases h : s ≤ j ∧ j - s < k
        · rw [if_pos h, if_pos (by omega)]
        · rw [if_neg h, if_neg (by omega)]
      · by_cases h : s + 1 ≤ j ∧ j - s - 1 < k
        · rw [if_pos h, if_pos (by omega)]
        · rw [if_neg h, if_neg (by omega)]
theorem upk_zero (xs : List (BitVec 64)) (s r : Nat) : upk xs s r 0 = List.replicate (xs.length + s + 1) 0#64 := by
  unfold upk mkv
  apply List.ext_getElem (by simp)
  intro j h1 h2
  simp [upf]
theorem bit_upk (xs : List (BitVec 64)) (s r i : Nat) (hr : r < 64) : bit (upk xs s r xs.length) i = (decide (64 * s + r ≤ i) && bit xs (i - (64 * s + r))) := by
  by_cases hj : i / 64 < xs.length + s + 1
  · have e0 : bit (upk xs s r xs.length) i = (upf xs s r xs.length (i / 64)).getLsbD (i % 64) := by
      show (wd (upk xs s r xs.length) (i / 64)).getLsbD (i % 64) = _
      rw [wd_upk _ _ _ _ _ hj]
    rw [e0]
    unfold upf
    rw [BitVec.getLsbD_or]
    have hl : i % 64 < 64 := Nat.mod_lt _ (by omega)
    by_cases hrl : r ≤ i % 64
    · -- the second part gives nothing
      have z2 : (if s + 1 ≤ i / 64 ∧ i / 64 - s - 1 < xs.length then wd xs (i / 64 - s - 1) >>> (64 - r) else 0#64).getLsbD (i % 64) = false := by
        split
        · rw [BitVec.getLsbD_ushiftRight]
          exact BitVec.getLsbD_of_ge _ _ (by omega)
        · simp
      rw [z2, Bool.or_false]
      by_cases hs : s ≤ i / 64
      · rw [decide_eq_true (by omega), Bool.true_and]
        have e1 : (i - (64 * s + r)) / 64 = i / 64 - s := by omega
        have e2 : (i - (64 * s + r)) % 64 = i % 64 - r := by omega
        have eb : bit xs (i - (64 * s + r)) = (wd xs (i / 64 - s)).getLsbD (i % 64 - r) := by
          unfold bit wd; rw [e1, e2]
        rw [eb]
        by_cases hx : i / 64 - s < xs.length
        · rw [if_pos ⟨hs, hx⟩, BitVec.getLsbD_shiftLeft]
          simp [hl, hrl]
        · rw [if_neg (by omega)]
          have : wd xs (i / 64 - s) = 0#64 := by simp [wd, List.getD, List.getElem?_eq_none (show xs.length ≤ i / 64 - s by omega)]
          rw [this]; simp
      · rw [decide_eq_false (by omega), if_neg (by omega)]
        simp
    · -- the first part gives nothing
      have z1 : (if s ≤ i / 64 ∧ i / 64 - s < xs.length then wd xs (i / 64 - s) <<< r else 0#64).getLsbD (i % 64) = false := by
        split
        · rw [BitVec.getLsbD_shiftLeft]
          simp; intro _ h; omega
        · simp
      rw [z1, Bool.false_or]
      by_cases hs : s + 1 ≤ i / 64
      · rw [decide_eq_true (by omega), Bool.true_and]
        have e1 : (i - (64 * s + r)) / 64 = i / 64 - s - 1 := by omega
        have e2 : (i - (64 * s + r)) % 64 = 64 - r + i % 64 := by omega
        have eb : bit xs (i - (64 * s + r)) = (wd xs (i / 64 - s - 1)).getLsbD (64 - r + i % 64) := by
          unfold bit wd; rw [e1, e2]
        rw [eb, if_pos ⟨hs, by omega⟩, BitVec.getLsbD_ushiftRight]
      · rw [decide_eq_false (by omega), if_neg (by omega)]
        simp
  · rw [bit_big _ _ (by rw [len_upk]; omega), bit_big xs _ (by omega), Bool.and_false]

/-- a vector moved up -/
def upv (xs : List (BitVec 64)) (n : Nat) : List (BitVec 64) := canon (upk (canon xs) (n / 64) (n % 64) (canon xs).length)
theorem bit_upv (xs : List (BitVec 64)) (n i : Nat) : bit (upv xs n) i = (decide (n ≤ i) && bit xs (i - n)) := by
  unfold upv
  rw [bit_canon, bit_upk _ _ _ _ (by omega), show 64 * (n / 64) + n % 64 = n by omega, bit_canon]
theorem can_upv (xs : List (BitVec 64)) (n : Nat) : Can (upv xs n) := can_canon _
theorem len_upv (xs : List (BitVec 64)) (n : Nat) : (upv xs n).length ≤ xs.length + n / 64 + 1 := by
  have h1 := canon_le (upk (canon xs) (n / 64) (n % 64) (canon xs).length)
  rw [len_upk] at h1
  have h2 := canon_le xs
  unfold upv
  omega

theorem up_no (A : Option Addr) (c : Nat) (xs : List (BitVec 64)) (n : Int) (w : World) (hn : n < 0 ∨ 65536 < n) :
    Calls Try.prog 61 #[.slice A xs.length c, .int .i64 n] w fun e w' => e = .returned (.tuple #[.slice none 0 0, .int .i64 2]) ∧ w = w' := by
  rcases hn with hn | hn
  · go_enter Try.func61, Try.ntmps61
    go_wp2
    go_ret2
    exact ⟨rfl, rfl⟩
  · have h0 : decide (n < 0) = false := by simp; omega
    have h1 : decide (65536 < n) = true := by simp; omega
    go_enter Try.func61, Try.ntmps61
    go_wp2
    go_ret2
    exact ⟨rfl, rfl⟩

set_option maxHeartbeats 800000 in
theorem up_any (A : Option Addr) (c n : Nat) (xs : List (BitVec 64)) (w : World) (hx : U64s w A xs) (hc : xs.length ≤ c) (lx : xs.length ≤ 35184372080000) (hn : n ≤ 65536) :
    Calls Try.prog 61 #[.slice A xs.length c, .int .i64 n] w (GivesOk w (upv xs n)) := by
  have H1 := Lib.hid (oneForm_any A c xs w hx hc (by omega))
  have lc := canon_le xs
  have HX := Lib.hid hx.canon
  have HD : Hid (upv xs n = canon (upk (canon xs) (n / 64) (n % 64) (canon xs).length)) := rfl
  generalize canon xs = ys at *
  clear hx
  obtain ⟨s, r, hs, hr, hnr⟩ : ∃ s r : Nat, n / 64 = s ∧ n % 64 = r ∧ r < 64 := ⟨_, _, rfl, rfl, by omega⟩
  rw [hs, hr] at HD
  have es : (n : Int) / 64 = (s : Int) := by omega
  have er : (n : Int) % 64 = (r : Int) := by omega
  have hs2 : s ≤ 1024 := by omega
  have h0 : decide ((n : Int) < 0) = false := by simp
  have h1 : decide (65536 < (n : Int)) = false := by simp; omega
  clear hs hr
  have hmk := run_make_row' (P := Try.prog) 80 22 (.int .u64 0) 8 Try.underlying80 Try.info22 rfl .i64 .i64 (ys.length + s + 1) (by omega) (by omega)
  rw [show ((ys.length + s + 1 : Nat) : Int) = (ys.length : Int) + (s : Int) + 1 by omega] at hmk
  have ha := own_made w (ys.length + s + 1)
  have hb : Below w.heap.size w (w.alloc (.cells (madeCells #[.int .u64 0] (ys.length + s + 1)) 22)) := (Below.refl _ _).alloc (Nat.le_refl _) _
  go_enter Try.func61, Try.ntmps61
  go_wp2_with fail
  refine H1.out.mono ?_
  rintro e w' ⟨rfl, rfl⟩
  go_wp2_with fail
  clear hmk h0 h1 es er H1
  generalize w.alloc (.cells (madeCells #[.int .u64 0] (ys.length + s + 1)) 22) = w1 at ha hb ⊢
  go_loopw [32] (fun i wr => ∃ k : Nat, k ≤ ys.length ∧ i = .int .i64 k ∧ Own wr w.heap.size (upk ys s r k) ∧ Below w.heap.size w wr) (fun i _ => ys.length - (intOf i).toNat)
  case atStart => exact ⟨0, Nat.zero_le _, rfl, by rw [upk_zero]; exact ha, hb⟩
  case round =>
    obtain ⟨k, hk, rfl, hown, hbl⟩ := hrel
    clear ha hb
    have HB := Lib.hid hbl
    have HW := Lib.hid hown
    by_cases hlt : k < ys.length
    · obtain ⟨b, off, rfl, hbb, hcell⟩ := (HX.out.below hbl) (by omega)
      have hcx := hcell k hlt
      have hce := hown.cell (k + s) (by rw [len_upk]; omega)
      have hfz := hown.frozen (k + s)
      have hce2 := hown.cell (k + s + 1) (by rw [len_upk]; omega)
      have hfz2 := hown.frozen (k + s + 1)
      generalize hold : wd (upk ys s r k) (k + s + 1) = old2 at hce2
      clear hown hbl hcell hold
      go_wp2
      go_roundw
      case rel =>
        simp only [uv_shl, uv_shr, uv_or]
        refine ⟨k + 1, by omega, by go_num, ?_, ?_⟩
        · rw [← upk_step ys s r k hlt _ rfl]
          exact (HW.out.set_ _ _).set_ _ _
        · exact (HB.out.setCell (Nat.le_refl _) _).setCell (Nat.le_refl _) _
      case measure => simp [intOf]; omega
    · obtain rfl : k = ys.length := by omega
      have hln := len_upk ys s r ys.length
      have hone := oneForm_any (some ⟨w.heap.size, 0, none⟩) (ys.length + s + 1) _ wr hown.u64s (by rw [hln]; exact Nat.le_refl _) (by rw [hln]; omega)
      have hg := gives_own (w := w) hown (Nat.le_refl _) hbl
      rw [hln] at hone hg
      have H6 := Lib.hid hone; have H5 := Lib.hid hg
      clear hown hbl hone hg hln
      go_wp2_with fail
      refine H6.out.mono ?_
      rintro e w' ⟨rfl, rfl⟩
      go_wp2
      go_ret2
      obtain ⟨A', c', e1, h1, h2, h3, h4⟩ := H5.out
      rw [HD.out]
      injection e1 with e1
      injection e1 with e2 e3 e4
      subst e2; subst e4
      exact ⟨_, _, rfl, h1, h2, h3, h4⟩
end Go.Proofs.Ytcognpfihojphaa
