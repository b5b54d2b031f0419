/- The document's bytes: digits, letters, hexes; its scan in memory. -/
import Derived.Test.YtnaecagmcpndhaaU1
namespace Go.Proofs.Ytnaecagmcpndhaa
open Go.RowKit
theorem digit2_any (x : Nat) (w : World) (hx : x < 256) : Calls Try.prog 79 #[.int .u8 (x : Nat)] w fun e w' => e = .returned (.bool (isD x)) ∧ w = w' := by
  unfold isD
  by_cases h1 : 48 ≤ x
  · by_cases h2 : x ≤ 57
    · rw [decide_eq_true ⟨h1, h2⟩]
      go_enter Try.func79, Try.ntmps79
      go_wp2
      go_ret
      exact ⟨ret_b (by first | rfl | (simp; done) | (simp; omega)), rfl⟩
    · rw [decide_eq_false (by omega)]
      go_enter Try.func79, Try.ntmps79
      go_wp2
      go_ret
      exact ⟨ret_b (by first | rfl | (simp; done) | (simp; omega)), rfl⟩
  · rw [decide_eq_false (by omega)]
    go_enter Try.func79, Try.ntmps79
    go_wp2
    go_ret
    exact ⟨ret_b (by first | rfl | (simp; done) | (simp; omega)), rfl⟩
/-- a digit, a letter, or 95 -/
def isW (x : Nat) : Bool := isD x || isL x || decide (x = 95)
theorem word2_any (x : Nat) (w : World) (hx : x < 256) : Calls Try.prog 76 #[.int .u8 (x : Nat)] w fun e w' => e = .returned (.bool (isW x)) ∧ w = w' := by
  have D1 := Lib.hid fun W => digit2_any x W hx
  unfold isW isL
  cases hd : isD x with
  | true =>
    rw [hd] at D1
    go_enter Try.func76, Try.ntmps76
    go_wp2_with fail
    refine (D1.out _).mono ?_
    rintro e w' ⟨rfl, rfl⟩
    go_wp2
    go_ret
    exact ⟨ret_b (by first | rfl | (simp; done) | (simp; omega)), rfl⟩
  | false =>
    rw [hd] at D1
    clear hd
    rw [Bool.false_or]
    by_cases h1 : 97 ≤ x
    · by_cases h2 : x ≤ 122
      · rw [decide_eq_true (p := (97 ≤ x ∧ x ≤ 122) ∨ (65 ≤ x ∧ x ≤ 90)) (.inl ⟨h1, h2⟩)]
        go_enter Try.func76, Try.ntmps76
        go_wp2_with fail
        refine (D1.out _).mono ?_
        rintro e w' ⟨rfl, rfl⟩
        go_wp2
        go_ret
        exact ⟨ret_b (by first | rfl | (simp; done) | (simp; omega)), rfl⟩
      · rw [decide_eq_false (p := (97 ≤ x ∧ x ≤ 122) ∨ (65 ≤ x ∧ x ≤ 90)) (by omega), decide_eq_false (p := x = 95) (by omega)]
        have q3 : ¬ x ≤ 90 := by omega
        have q4 : 65 ≤ x := by omega
        have q5 : ((x : Int) == 95) = false := by rw [beq_eq_false_iff_ne]; omega
        go_enter Try.func76, Try.ntmps76
        go_wp2_with fail
        refine (D1.out _).mono ?_
        rintro e w' ⟨rfl, rfl⟩
        go_wp2
        go_ret
        exact ⟨ret_b (by first | rfl | (simp; done) | (simp; omega)), rfl⟩
    · by_cases h3 : 65 ≤ x
      · by_cases h4 : x ≤ 90
        · rw [decide_eq_true (p := (97 ≤ x ∧ x ≤ 122) ∨ (65 ≤ x ∧ x ≤ 90)) (.inr ⟨h3, h4⟩)]
          go_enter Try.func76, Try.ntmps76
          go_wp2_with fail
          refine (D1.out _).mono ?_
          rintro e w' ⟨rfl, rfl⟩
          go_wp2
          go_ret
          exact ⟨ret_b (by first | rfl | (simp; done) | (simp; omega)), rfl⟩
        · rw [decide_eq_false (p := (97 ≤ x ∧ x ≤ 122) ∨ (65 ≤ x ∧ x ≤ 90)) (by omega), Bool.false_or]
          go_enter Try.func76, Try.ntmps76
          go_wp2_with fail
          refine (D1.out _).mono ?_
          rintro e w' ⟨rfl, rfl⟩
          go_wp2
          go_ret
          exact ⟨ret_b (by first | rfl | (rw [Bool.eq_iff_iff]; simp; omega) | (simp; omega)), rfl⟩
      · rw [decide_eq_false (p := (97 ≤ x ∧ x ≤ 122) ∨ (65 ≤ x ∧ x ≤ 90)) (by omega), decide_eq_false (p := x = 95) (by omega)]
        have q5 : ((x : Int) == 95) = false := by rw [beq_eq_false_iff_ne]; omega
        go_enter Try.func76, Try.ntmps76
        go_wp2_with fail
        refine (D1.out _).mono ?_
        rintro e w' ⟨rfl, rfl⟩
        go_wp2
        go_ret
        exact ⟨ret_b (by first | rfl | (simp; done) | (simp; omega)), rfl⟩
/-- -1: none -/
def hexi (x : Nat) : Int := match hexv x with | some v => (v : Int) | none => -1
theorem hexi_is (x : Nat) : (isD x = true ∧ hexi x = (x : Int) - 48) ∨ (isD x = false ∧ (97 ≤ x ∧ x ≤ 102) ∧ hexi x = (x : Int) - 97 + 10) ∨ (isD x = false ∧ ¬ (97 ≤ x ∧ x ≤ 102) ∧ (65 ≤ x ∧ x ≤ 70) ∧ hexi x = (x : Int) - 65 + 10) ∨ (isD x = false ∧ ¬ (97 ≤ x ∧ x ≤ 102) ∧ ¬ (65 ≤ x ∧ x ≤ 70) ∧ hexi x = -1) := by
  unfold hexi hexv
  cases hd : isD x with
  | true => left; have := of_decide_eq_true hd; refine ⟨rfl, ?_⟩; simp; omega
  | false =>
    right
    by_cases h1 : 97 ≤ x ∧ x ≤ 102
    · left; refine ⟨rfl, h1, ?_⟩; rw [if_neg (by decide), if_pos h1]; simp; omega
    · right
      by_cases h2 : 65 ≤ x ∧ x ≤ 70
      · left; refine ⟨rfl, h1, h2, ?_⟩; rw [if_neg (by decide), if_neg h1, if_pos h2]; simp; omega
      · right; refine ⟨rfl, h1, h2, ?_⟩; rw [if_neg (by decide), if_neg h1, if_neg h2]
set_option maxHeartbeats 1000000 in
theorem hex2_any (x : Nat) (w : World) (hx : x < 256) : Calls Try.prog 77 #[.int .u8 (x : Nat)] w fun e w' => e = .returned (.int .i64 (hexi x)) ∧ w = w' := by
  have D1 := Lib.hid fun W => digit2_any x W hx
  have q0 : IntKind.i64.wrap (x : Int) = (x : Int) := IntWalk.i64_in _ (by omega)
  rcases hexi_is x with ⟨hd, hv⟩ | ⟨hd, h1, hv⟩ | ⟨hd, h1, h2, hv⟩ | ⟨hd, h1, h2, hv⟩
  · rw [hd] at D1
    rw [hv]
    have := of_decide_eq_true hd
    have q1 : IntKind.i64.wrap ((x : Int) - 48) = (x : Int) - 48 := IntWalk.i64_in _ (by omega)
    clear hd
    go_enter Try.func77, Try.ntmps77
    go_wp2_with fail
    refine (D1.out _).mono ?_
    rintro e w' ⟨rfl, rfl⟩
    go_wp2
    go_ret
    exact ⟨rfl, rfl⟩
  · rw [hd] at D1
    rw [hv]
    have q1 : IntKind.i64.wrap ((x : Int) - 97) = (x : Int) - 97 := IntWalk.i64_in _ (by omega)
    have q2 : IntKind.i64.wrap ((x : Int) - 97 + 10) = (x : Int) - 97 + 10 := IntWalk.i64_in _ (by omega)
    clear hd
    go_enter Try.func77, Try.ntmps77
    go_wp2_with fail
    refine (D1.out _).mono ?_
    rintro e w' ⟨rfl, rfl⟩
    obtain ⟨h3, h4⟩ := h1
    go_wp2
    go_ret
    exact ⟨rfl, rfl⟩
  · rw [hd] at D1
    rw [hv]
    have q1 : IntKind.i64.wrap ((x : Int) - 65) = (x : Int) - 65 := IntWalk.i64_in _ (by omega)
    have q2 : IntKind.i64.wrap ((x : Int) - 65 + 10) = (x : Int) - 65 + 10 := IntWalk.i64_in _ (by omega)
    have q3 : ¬ 97 ≤ x := by omega
    clear hd
    go_enter Try.func77, Try.ntmps77
    go_wp2_with fail
    refine (D1.out _).mono ?_
    rintro e w' ⟨rfl, rfl⟩
    obtain ⟨h3, h4⟩ := h2
    go_wp2
    go_ret
    exact ⟨rfl, rfl⟩
  · rw [hd] at D1
    rw [hv]
    clear hd
    by_cases h3 : 97 ≤ x
    · have h4 : ¬ x ≤ 102 := by omega
      have h5 : 65 ≤ x := by omega
      have h6 : ¬ x ≤ 70 := by omega
      go_enter Try.func77, Try.ntmps77
      go_wp2_with fail
      refine (D1.out _).mono ?_
      rintro e w' ⟨rfl, rfl⟩
      go_wp2
      go_ret
      exact ⟨rfl, rfl⟩
    · by_cases h5 : 65 ≤ x
      · have h6 : ¬ x ≤ 70 := by omega
        go_enter Try.func77, Try.ntmps77
        go_wp2_with fail
        refine (D1.out _).mono ?_
        rintro e w' ⟨rfl, rfl⟩
        go_wp2
        go_ret
        exact ⟨rfl, rfl⟩
      · go_enter Try.func77, Try.ntmps77
        go_wp2_with fail
        refine (D1.out _).mono ?_
        rintro e w' ⟨rfl, rfl⟩
        go_wp2
        go_ret
        exact ⟨rfl, rfl⟩
end Go.Proofs.Ytnaecagmcpndhaa
