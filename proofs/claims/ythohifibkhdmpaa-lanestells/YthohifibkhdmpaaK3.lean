/- LanesMask: its walk. -/
import Derived.Test.YthohifibkhdmpaaK2
namespace Go.Proofs.Ythohifibkhdmpaa
open Go.RowKit

/-- the mask of a byte tells where it stands -/
theorem mask_bit (v b k : Nat) (hb : b < 256) (hk : k < 8) : tp (jn gEq v (wo (fun _ => b) 8)) / 2 ^ k % 2 = if ln v k = b then 1 else 0 := by
  have h := bit_w2 (f := tb (jn gEq v (wo (fun _ => b) 8))) (n := 8) (k := k) (fun k _ => tb_lt _ k) hk
  unfold tp
  rw [h]
  unfold tb
  rw [ln_jn _ _ _ hk gE, ln_wo (fun _ _ => hb) hk]
  unfold gEq
  split <;> rfl
theorem and_one (M k : Nat) (hM : M < 256) : bits .and .u8 ((M : Int) / 2 ^ k) 1 = ((M / 2 ^ k % 2 : Nat) : Int) := by
  have e : ((M : Int) / 2 ^ k) = ((M / 2 ^ k : Nat) : Int) := by simp
  have l : M / 2 ^ k < 256 := Nat.lt_of_le_of_lt (Nat.div_le_self _ _) hM
  rw [e]
  generalize M / 2 ^ k = x at *
  rw [u8_and _ _ (by omega) (by omega) (by omega) (by omega)]
  simp [Nat.and_one_is_mod]

theorem idx8 (q : Nat → Nat) (k : Nat) (hk : k < 8) (W : World) : (Instr.index 29 (.agg (ar .u8 q)) (.int .i64 (k : Nat))).run Try.prog W = .ok (.int .u8 (q k : Nat)) W := by
  match k, hk with
  | 0, _ => rfl
  | 1, _ => rfl
  | 2, _ => rfl
  | 3, _ => rfl
  | 4, _ => rfl
  | 5, _ => rfl
  | 6, _ => rfl
  | 7, _ => rfl

set_option maxHeartbeats 1000000 in
theorem lanesMask_walk (v b : Nat) (w : World) (hv : v < 18446744073709551616) (hb : b < 256) :
    Calls Try.prog 7 #[.int .u64 (v : Nat), .int .u8 (b : Nat)] w fun e w' => e = .returned (.bool true) ∧ Below w.heap.size w w' := by
  have S := Lib.hid (speaks_any w)
  have l1 : wo (fun _ => b) 8 < 18446744073709551616 := wo8_lt fun _ _ => hb
  have l2 : jn gEq v (wo (fun _ => b) 8) < 18446744073709551616 := jn_lt _ _ gE
  have l3 := tp_lt (jn gEq v (wo (fun _ => b) 8))
  have C1 : Hid (∀ W, Calls Try.prog 19 #[.int .u8 (b : Nat)] W (GivesW W (wo (fun _ => b) 8))) := fun W => spread_any b W hb
  have C2 := Lib.hid fun W => eq_any v (wo (fun _ => b) 8) W hv l1
  have C3 := Lib.hid fun W => top_any (jn gEq v (wo (fun _ => b) 8)) W l2
  have C4 := Lib.hid fun W => store_any v W hv
  have HM := Lib.hid fun k hk => mask_bit v b k hb hk
  have HL := Lib.hid (ln_lt v)
  generalize tp (jn gEq v (wo (fun _ => b) 8)) = M at *
  generalize jn gEq v (wo (fun _ => b) 8) = x at *
  generalize wo (fun _ => b) 8 = s at *
  generalize ln v = q at *
  unfold ar at C4
  clear l1 l2
  go_enter Try.func7, Try.ntmps7
  go_wp2_with fail
  refine (S.out).mono ?_
  rintro e w1 ⟨rfl, hb1⟩
  have B1 := Lib.hid hb1
  clear hb1
  go_wp2_with fail
  refine (C1.out _).mono ?_
  rintro e w2 ⟨rfl, hb1⟩
  have B2 := Lib.hid (B1.out.trans (hb1.mono B1.out.size))
  clear hb1 B1
  go_wp2_with fail
  refine (C2.out _).mono ?_
  rintro e w3 ⟨rfl, hb1⟩
  have B3 := Lib.hid (B2.out.trans (hb1.mono B2.out.size))
  clear hb1 B2
  go_wp2_with fail
  refine (C3.out _).mono ?_
  rintro e w4 ⟨rfl, rfl⟩
  go_wp2_with fail
  refine (C4.out _).mono ?_
  rintro e w5 ⟨rfl, hb1⟩
  have B4 := Lib.hid (B3.out.trans (hb1.mono B3.out.size))
  clear hb1 B3
  go_wp2_with fail
  go_loop [17] (fun i => ∃ k : Nat, k ≤ 8 ∧ i = .int .i64 k) (fun i => 8 - (intOf i).toNat)
  case atStart => exact ⟨0, by omega, rfl⟩
  case round =>
    obtain ⟨k, hk, rfl⟩ := hrel
    by_cases hlt : k < 8
    · have hi := idx8 q k hlt
      have hm := HM.out k hlt
      have ha := and_one M k l3
      unfold ar at hi
      rw [hm] at ha
      clear hm
      have hq : q k < 256 := HL.out k
      generalize q k = y at *
      by_cases hy : y = b
      · rw [if_pos hy] at ha
        subst hy
        have h2 : bits .and .u8 ((M : Int) / 2 ^ k) 1 = 1 := ha
        clear ha
        go_wp2
        go_round
        case rel => exact ⟨k + 1, by omega, by go_num⟩
        case measure => simp [intOf]; omega
      · rw [if_neg hy] at ha
        have h2 : bits .and .u8 ((M : Int) / 2 ^ k) 1 = 0 := ha
        have h3 : ((y : Int) == (b : Int)) = false := by simp; omega
        clear ha
        go_wp2
        go_round
        case rel => exact ⟨k + 1, by omega, by go_num⟩
        case measure => simp [intOf]; omega
    · obtain rfl : k = 8 := by omega
      go_wp2
      go_ret
      exact ⟨rfl, B4.out⟩
end Go.Proofs.Ythohifibkhdmpaa
