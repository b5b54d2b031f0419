/- Walks over the lanes package: lane, the closures, fill. -/
import Derived.Test.YthohifibkhdmpaaRows
import Derived.Test.YthohifibkhdmpaaM
import Derived.WalkKit
import Derived.WalkSpells
import Derived.WalkLawsBesides
import Derived.Lib.Hide
import Derived.Deep.QuietTactic
import Derived.BigQuiet
import Derived.Deep.RegionHeld3
namespace Go.Proofs.Ythohifibkhdmpaa
open Go.RowKit

theorem ret_int {k : IntKind} {a b : Int} (h : a = b) : Ending.returned (.int k a) = .returned (.int k b) := by rw [h]
theorem p256 (k : Nat) : (2 : Nat) ^ (8 * k) = 256 ^ k := by rw [Nat.pow_mul]

theorem lane_num (v k : Nat) : (v : Int) / 2 ^ (8 * k) % 256 = (ln v k : Nat) := by
  rw [ln, ← p256]; simp
set_option maxHeartbeats 400000 in
theorem lane_any (v k : Nat) (w : World) (hv : v < 18446744073709551616) (hk : k < 8) : Calls Try.prog 34 #[.int .u64 (v : Nat), .int .i64 (k : Nat)] w fun e w' => e = .returned (.int .u8 (ln v k : Nat)) ∧ w = w' := by
  go_enter Try.func34, Try.ntmps34
  go_wp2
  go_ret
  exact ⟨ret_int (lane_num v k), rfl⟩

theorem fill_num (f : Nat → Nat) (k : Nat) (hk : k < 8) (hf : ∀ j, j < 8 → f j < 256) :
    bits .or .u64 (wo f k : Nat) (IntKind.u64.wrap ((f k : Nat) * 2 ^ (8 * k))) = (wo f (k + 1) : Nat) := by
  have h1 : wo f k < 256 ^ k := wo_lt fun j hj => hf j (by omega)
  have h2 : wo f (k + 1) < 256 ^ (k + 1) := wo_lt fun j hj => hf j (by omega)
  have h3 : (256 : Nat) ^ (k + 1) ≤ 18446744073709551616 := Nat.le_trans (Nat.pow_le_pow_right (by omega) (show k + 1 ≤ 8 by omega)) (by decide)
  have e : ((f k : Nat) : Int) * 2 ^ (8 * k) = ((f k * 256 ^ k : Nat) : Int) := by rw [← p256]; simp
  rw [wo] at h2
  rw [e, IntKind.wrap_u64, wo, ← wo_or _ _ _ h1]
  rw [← wo_or _ _ _ h1] at h2
  have h4 : f k * 256 ^ k < 18446744073709551616 := by
    have := Nat.right_le_or (n := wo f k) (m := f k * 256 ^ k); omega
  have h5 : wo f k < 18446744073709551616 := by
    have := Nat.left_le_or (n := wo f k) (m := f k * 256 ^ k); omega
  generalize wo f k = a at *
  generalize f k * 256 ^ k = b at *
  have e2 : ((b : Nat) : Int) % 18446744073709551616 = (b : Nat) := by omega
  first
    | rw [e2]
    | skip
  rw [u64_or _ _ (by omega) (by omega) (by omega) (by omega)]
  simp

/-- what a closure that reads gives, at every world that has drawn from w -/
def Tells (w : World) (n : FuncId) (cap : Array Value) (f : Nat → Nat) : Prop :=
  ∀ k, k < 8 → ∀ m, Calls Try.prog n (#[.int .i64 (k : Nat)] ++ cap) (w.drewN m) fun e w' => e = .returned (.int .u8 (f k : Nat)) ∧ ∃ m', w' = w.drewN m'

set_option maxHeartbeats 400000 in
theorem fill_any (n : FuncId) (cap : Array Value) (f : Nat → Nat) (w : World) (hn : ∀ args w, (callFunc n args).run Try.prog w = .ok (.enter n args) w) (hf : ∀ k, k < 8 → f k < 256) (hc : Tells w n cap f) :
    Calls Try.prog 32 #[.func (.func n) #[] cap] w fun e w' => e = .returned (.int .u64 (wo f 8 : Nat)) ∧ ∃ m, w' = w.drewN m := by
  have HC := Lib.hid hc; have HF := Lib.hid hf
  clear hc hf
  go_enter Try.func32, Try.ntmps32
  go_wp2_with fail
  go_loopw [3, 5] (fun v i wr => ∃ k m : Nat, k ≤ 8 ∧ i = .int .i64 k ∧ v = .int .u64 (wo f k : Nat) ∧ wr = w.drewN m) (fun _ i _ => 8 - (intOf i).toNat)
  case atStart => exact ⟨0, 0, by omega, rfl, rfl, rfl⟩
  case round =>
    obtain ⟨k, m, hk, rfl, rfl, rfl⟩ := hrel
    by_cases hlt : k < 8
    · have H := Lib.hid (HC.out k hlt m)
      have b1 : f k < 256 := HF.out k hlt
      have b2 : wo f k < 18446744073709551616 := Nat.lt_of_lt_of_le (wo_lt (n := k) fun j hj => HF.out j (by omega)) (Nat.le_trans (Nat.pow_le_pow_right (by omega) (show k ≤ 8 by omega)) (by decide))
      go_wp2_with fail
      refine H.out.mono ?_
      rintro e w' ⟨rfl, m', rfl⟩
      clear H
      go_wp2
      go_roundw
      case rel => exact ⟨k + 1, m', by omega, by go_num, by rw [fill_num f k hlt HF.out], rfl⟩
      case measure => simp [intOf]; omega
    · obtain rfl : k = 8 := by omega
      go_wp2
      go_ret
      exact ⟨rfl, m, rfl⟩

set_option maxHeartbeats 400000 in
theorem spread1_any (b k : Nat) (g : Nat) (w : World) (hc : w.cell? ⟨g, 0, none⟩ = some (.int .u8 (b : Nat))) : Calls Try.prog 35 #[.int .i64 (k : Nat), .pointer (some ⟨g, 0, none⟩)] w fun e w' => e = .returned (.int .u8 (b : Nat)) ∧ w = w' := by
  go_enter Try.func35, Try.ntmps35
  go_wp2
  go_ret
  exact ⟨rfl, rfl⟩

set_option maxHeartbeats 400000 in
theorem spread_any (b : Nat) (w : World) (hb : b < 256) : Calls Try.prog 19 #[.int .u8 (b : Nat)] w fun e w' => e = .returned (.int .u64 (wo (fun _ => b) 8 : Nat)) ∧ Below w.heap.size w w' := by
  have hc : (w.alloc (.cells #[.int .u8 (b : Nat)] 5)).cell? ⟨w.heap.size, 0, none⟩ = some (.int .u8 (b : Nat)) := by simp
  have T : Tells (w.alloc (.cells #[.int .u8 (b : Nat)] 5)) 35 #[.pointer (some ⟨w.heap.size, 0, none⟩)] (fun _ => b) := fun k hk m =>
    (spread1_any b k w.heap.size ((w.alloc (.cells #[.int .u8 (b : Nat)] 5)).drewN m) hc).mono fun e w' ⟨he, hw⟩ => ⟨he, m, hw.symm⟩
  have H := Lib.hid (fill_any 35 _ (fun _ => b) _ (fun _ _ => rfl) (fun _ _ => hb) T)
  have HB : Hid (Below w.heap.size w (w.alloc (.cells #[.int .u8 (b : Nat)] 5))) := (Below.refl _ _).alloc (Nat.le_refl _) _
  clear hc T
  go_enter Try.func19, Try.ntmps19
  go_wp2_with fail
  refine H.out.mono ?_
  rintro e w' ⟨rfl, m, rfl⟩
  go_wp2
  go_ret
  exact ⟨rfl, below_drewN HB.out m⟩
end Go.Proofs.Ythohifibkhdmpaa
