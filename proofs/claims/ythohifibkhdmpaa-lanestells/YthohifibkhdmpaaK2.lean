/- LanesJoins, LanesRules, LanesMoves: their walks. -/
import Derived.Test.YthohifibkhdmpaaK1
namespace Go.Proofs.Ythohifibkhdmpaa
open Go.RowKit

theorem ln_jn {g : Nat → Nat → Nat} (a b k : Nat) (hk : k < 8) (h : ∀ x y, x < 256 → y < 256 → g x y < 256) : ln (jn g a b) k = g (ln a k) (ln b k) :=
  ln_wo (fun k _ => h _ _ (ln_lt a k) (ln_lt b k)) hk
theorem gA (x y : Nat) (_ : x < 256) (_ : y < 256) : gAdd x y < 256 := gAdd_lt x y
theorem gC (x y : Nat) (_ : x < 256) (_ : y < 256) : gCap x y < 256 := gCap_lt x y
theorem gE (x y : Nat) (_ : x < 256) (_ : y < 256) : gEq x y < 256 := gEq_lt x y
theorem gM (x y : Nat) (h : x < 256) (_ : y < 256) : gMin x y < 256 := gMin_lt x y h
theorem ln_or (p q k : Nat) : ln (p ||| q) k = ln p k ||| ln q k := by
  have e : ∀ x : Nat, ln x k = (x >>> (8 * k)) % 2 ^ 8 := fun x => by rw [ln, Nat.shiftRight_eq_div_pow, p256]
  rw [e, e, e, Nat.shiftRight_or_distrib, Nat.or_mod_two_pow]
theorem r_or (a b : Nat) : jn gEq (jn gMin a b) a ||| jn gEq (jn gMin a b) b = wo (fun _ => 255) 8 := by
  apply word_ext (Nat.or_lt_two_pow (n := 64) (jn_lt _ _ gE) (jn_lt _ _ gE)) (wo8_lt fun _ _ => by omega)
  intro k hk
  rw [ln_or, ln_jn _ _ _ hk gE, ln_jn _ _ _ hk gE, ln_jn _ _ _ hk gM, ln_wo (fun _ _ => by omega) hk]
  generalize ln a k = x
  generalize ln b k = y
  unfold gEq gMin
  by_cases h : x ≤ y
  · rw [Nat.min_eq_left h, if_pos rfl]
    split <;> rfl
  · rw [Nat.min_eq_right (by omega), if_neg (by omega), if_pos rfl]; rfl
theorem r_cap (a c : Nat) (ha : a < 18446744073709551616) : jn gMin (jn gCap a c) a = a := by
  apply word_ext (jn_lt _ _ gM) ha
  intro k hk
  rw [ln_jn _ _ _ hk gM, ln_jn _ _ _ hk gC]
  have := ln_lt a k
  unfold gMin gCap; omega
theorem r_eq (a b : Nat) : jn gEq b a = jn gEq a b := by
  unfold jn
  apply wo_congr
  intro k _
  unfold gEq
  by_cases h : ln a k = ln b k
  · rw [if_pos h, if_pos h.symm]
  · rw [if_neg h, if_neg (fun e => h e.symm)]
theorem r_min (a b c : Nat) : jn gMin a (jn gMin b c) = jn gMin (jn gMin a b) c := by
  apply word_ext (jn_lt _ _ gM) (jn_lt _ _ gM)
  intro k hk
  rw [ln_jn _ _ _ hk gM, ln_jn _ _ _ hk gM, ln_jn _ _ _ hk gM, ln_jn _ _ _ hk gM]
  unfold gMin; omega
theorem r_add (a b c : Nat) : jn gAdd a (jn gAdd b c) = jn gAdd (jn gAdd a b) c := by
  apply word_ext (jn_lt _ _ gA) (jn_lt _ _ gA)
  intro k hk
  rw [ln_jn _ _ _ hk gA, ln_jn _ _ _ hk gA, ln_jn _ _ _ hk gA, ln_jn _ _ _ hk gA]
  unfold gAdd; omega
theorem r_self (a : Nat) (ha : a < 18446744073709551616) : jn gMin a a = a := by
  apply word_ext (jn_lt _ _ gM) ha
  intro k hk
  rw [ln_jn _ _ _ hk gM]
  unfold gMin; omega
theorem r_up (v : Nat) (m n : Int) (hm : 0 ≤ m) (hn : 0 ≤ n) : up (up v (lanesUp m)) (lanesUp n) = up v (lanesUp (m + n)) := by
  apply word_ext (up_lt _ _) (up_lt _ _)
  intro k hk
  rw [ln_up _ _ _ hk, ln_up _ _ _ hk]
  unfold lanesUp
  by_cases h : k < (min (max n 0) 8).toNat
  · rw [if_pos h, if_pos (by omega)]
  · rw [if_neg h, ln_up _ _ _ (by omega)]
    by_cases h2 : k - (min (max n 0) 8).toNat < (min (max m 0) 8).toNat
    · rw [if_pos h2, if_pos (by omega)]
    · rw [if_neg h2, if_neg (by omega)]; congr 1; omega
theorem or_num (p q : Nat) (hp : p < 18446744073709551616) (hq : q < 18446744073709551616) : bits .or .u64 (p : Nat) (q : Nat) = ((p ||| q : Nat) : Int) := by
  rw [u64_or _ _ (by omega) (by omega) (by omega) (by omega)]; simp

set_option maxHeartbeats 1000000 in
theorem lanesJoins_walk (a b : Nat) (w : World) (ha : a < 18446744073709551616) (hb : b < 18446744073709551616) :
    Calls Try.prog 3 #[.int .u64 (a : Nat), .int .u64 (b : Nat)] w fun e w' => e = .returned (.bool true) ∧ Below w.heap.size w w' := by
  have S := Lib.hid (speaks_any w)
  have A1 := Lib.hid fun W => add_any a b W ha hb
  have A2 := Lib.hid fun W => joinA_any a b W ha hb
  have B1' := Lib.hid fun W => cap_any a b W ha hb
  have B2' := Lib.hid fun W => joinB_any a b W ha hb
  have C1 := Lib.hid fun W => eq_any a b W ha hb
  have C2 := Lib.hid fun W => joinC_any a b W ha hb
  have D1 := Lib.hid fun W => least_any a b W ha hb
  have D2 := Lib.hid fun W => joinD_any a b W ha hb
  go_enter Try.func3, Try.ntmps3
  go_wp2_with fail
  refine (S.out).mono ?_
  rintro e w1 ⟨rfl, hb⟩
  have B1 := Lib.hid hb
  clear hb
  go_wp2_with fail
  refine (A1.out _).mono ?_
  rintro e w2 ⟨rfl, hb⟩
  have B2 := Lib.hid (B1.out.trans (hb.mono B1.out.size))
  clear hb B1
  go_wp2_with fail
  refine (A2.out _).mono ?_
  rintro e w3 ⟨rfl, hb⟩
  have B3 := Lib.hid (B2.out.trans (hb.mono B2.out.size))
  clear hb B2
  go_wp2_with fail
  refine (B1'.out _).mono ?_
  rintro e w4 ⟨rfl, hb⟩
  have B4 := Lib.hid (B3.out.trans (hb.mono B3.out.size))
  clear hb B3
  go_wp2_with fail
  refine (B2'.out _).mono ?_
  rintro e w5 ⟨rfl, hb⟩
  have B5 := Lib.hid (B4.out.trans (hb.mono B4.out.size))
  clear hb B4
  go_wp2_with fail
  refine (C1.out _).mono ?_
  rintro e w6 ⟨rfl, hb⟩
  have B6 := Lib.hid (B5.out.trans (hb.mono B5.out.size))
  clear hb B5
  go_wp2_with fail
  refine (C2.out _).mono ?_
  rintro e w7 ⟨rfl, hb⟩
  have B7 := Lib.hid (B6.out.trans (hb.mono B6.out.size))
  clear hb B6
  go_wp2_with fail
  refine (D1.out _).mono ?_
  rintro e w8 ⟨rfl, hb⟩
  have B8 := Lib.hid (B7.out.trans (hb.mono B7.out.size))
  clear hb B7
  go_wp2_with fail
  refine (D2.out _).mono ?_
  rintro e w9 ⟨rfl, hb⟩
  have B9 := Lib.hid (B8.out.trans (hb.mono B8.out.size))
  clear hb B8
  go_wp2
  go_ret
  exact ⟨rfl, B9.out⟩

set_option maxHeartbeats 1000000 in
theorem lanesRules_walk (a b c : Nat) (w : World) (ha : a < 18446744073709551616) (hb : b < 18446744073709551616) (hc : c < 18446744073709551616) :
    Calls Try.prog 6 #[.int .u64 (a : Nat), .int .u64 (b : Nat), .int .u64 (c : Nat)] w fun e w' => e = .returned (.bool true) ∧ Below w.heap.size w w' := by
  have S := Lib.hid (speaks_any w)
  have l1 : jn gMin a b < 18446744073709551616 := jn_lt _ _ gM
  have l2 : jn gCap a c < 18446744073709551616 := jn_lt _ _ gC
  have l3 : jn gMin b c < 18446744073709551616 := jn_lt _ _ gM
  have l4 : jn gAdd a b < 18446744073709551616 := jn_lt _ _ gA
  have l5 : jn gAdd b c < 18446744073709551616 := jn_lt _ _ gA
  have l6 : jn gEq (jn gMin a b) a < 18446744073709551616 := jn_lt _ _ gE
  have l7 : jn gEq (jn gMin a b) b < 18446744073709551616 := jn_lt _ _ gE
  have C1 := Lib.hid fun W => least_any a b W ha hb
  have C2 := Lib.hid fun W => eq_any (jn gMin a b) a W l1 ha
  have C3 := Lib.hid fun W => eq_any (jn gMin a b) b W l1 hb
  have C4 := Lib.hid fun W => cap_any a c W ha hc
  have C5 : Hid (∀ W, Calls Try.prog 19 #[.int .u8 255] W (GivesW W (wo (fun _ => 255) 8))) := fun W => spread_any 255 W (by omega)
  have C6 : Hid (∀ W, Calls Try.prog 14 #[.int .u64 (jn gCap a c : Nat), .int .u64 (a : Nat)] W (GivesW W a)) := fun W => by
    have := least_any (jn gCap a c) a W l2 ha
    rw [r_cap a c ha] at this; exact this
  have C7 := Lib.hid fun W => eq_any a b W ha hb
  have C8 : Hid (∀ W, Calls Try.prog 13 #[.int .u64 (b : Nat), .int .u64 (a : Nat)] W (GivesW W (jn gEq a b))) := fun W => by
    have := eq_any b a W hb ha
    rw [r_eq a b] at this; exact this
  have C9 := Lib.hid fun W => least_any (jn gMin a b) c W l1 hc
  have C10 := Lib.hid fun W => least_any b c W hb hc
  have C11 : Hid (∀ W, Calls Try.prog 14 #[.int .u64 (a : Nat), .int .u64 (jn gMin b c : Nat)] W (GivesW W (jn gMin (jn gMin a b) c))) := fun W => by
    have := least_any a (jn gMin b c) W ha l3
    rw [r_min a b c] at this; exact this
  have C12 := Lib.hid fun W => add_any a b W ha hb
  have C13 := Lib.hid fun W => add_any (jn gAdd a b) c W l4 hc
  have C14 := Lib.hid fun W => add_any b c W hb hc
  have C15 : Hid (∀ W, Calls Try.prog 10 #[.int .u64 (a : Nat), .int .u64 (jn gAdd b c : Nat)] W (GivesW W (jn gAdd (jn gAdd a b) c))) := fun W => by
    have := add_any a (jn gAdd b c) W ha l5
    rw [r_add a b c] at this; exact this
  have E : bits .or .u64 (jn gEq (jn gMin a b) a : Nat) (jn gEq (jn gMin a b) b : Nat) = (wo (fun _ => 255) 8 : Nat) := by rw [or_num _ _ l6 l7, r_or]
  clear l1 l2 l3 l4 l5 l6 l7
  generalize wo (fun _ => 255) 8 = s255 at *
  generalize jn gEq (jn gMin a b) a = p at *
  generalize jn gEq (jn gMin a b) b = q at *
  go_enter Try.func6, Try.ntmps6
  go_wp2_with fail
  refine (S.out).mono ?_
  rintro e w1 ⟨rfl, hb⟩
  have B1 := Lib.hid hb
  clear hb
  go_wp2_with fail
  refine (C1.out _).mono ?_
  rintro e w2 ⟨rfl, hb⟩
  have B2 := Lib.hid (B1.out.trans (hb.mono B1.out.size))
  clear hb B1
  go_wp2_with fail
  refine (C2.out _).mono ?_
  rintro e w3 ⟨rfl, hb⟩
  have B3 := Lib.hid (B2.out.trans (hb.mono B2.out.size))
  clear hb B2
  go_wp2_with fail
  refine (C3.out _).mono ?_
  rintro e w4 ⟨rfl, hb⟩
  have B4 := Lib.hid (B3.out.trans (hb.mono B3.out.size))
  clear hb B3
  go_wp2_with fail
  refine (C4.out _).mono ?_
  rintro e w5 ⟨rfl, hb⟩
  have B5 := Lib.hid (B4.out.trans (hb.mono B4.out.size))
  clear hb B4
  go_wp2_with fail
  refine (C5.out _).mono ?_
  rintro e w6 ⟨rfl, hb⟩
  have B6 := Lib.hid (B5.out.trans (hb.mono B5.out.size))
  clear hb B5
  go_wp2_with fail
  refine (C6.out _).mono ?_
  rintro e w7 ⟨rfl, hb⟩
  have B7 := Lib.hid (B6.out.trans (hb.mono B6.out.size))
  clear hb B6
  go_wp2_with fail
  refine (C7.out _).mono ?_
  rintro e w8 ⟨rfl, hb⟩
  have B8 := Lib.hid (B7.out.trans (hb.mono B7.out.size))
  clear hb B7
  go_wp2_with fail
  refine (C8.out _).mono ?_
  rintro e w9 ⟨rfl, hb⟩
  have B9 := Lib.hid (B8.out.trans (hb.mono B8.out.size))
  clear hb B8
  go_wp2_with fail
  refine (C1.out _).mono ?_
  rintro e w10 ⟨rfl, hb⟩
  have B10 := Lib.hid (B9.out.trans (hb.mono B9.out.size))
  clear hb B9
  go_wp2_with fail
  refine (C9.out _).mono ?_
  rintro e w11 ⟨rfl, hb⟩
  have B11 := Lib.hid (B10.out.trans (hb.mono B10.out.size))
  clear hb B10
  go_wp2_with fail
  refine (C10.out _).mono ?_
  rintro e w12 ⟨rfl, hb⟩
  have B12 := Lib.hid (B11.out.trans (hb.mono B11.out.size))
  clear hb B11
  go_wp2_with fail
  refine (C11.out _).mono ?_
  rintro e w13 ⟨rfl, hb⟩
  have B13 := Lib.hid (B12.out.trans (hb.mono B12.out.size))
  clear hb B12
  go_wp2_with fail
  refine (C12.out _).mono ?_
  rintro e w14 ⟨rfl, hb⟩
  have B14 := Lib.hid (B13.out.trans (hb.mono B13.out.size))
  clear hb B13
  go_wp2_with fail
  refine (C13.out _).mono ?_
  rintro e w15 ⟨rfl, hb⟩
  have B15 := Lib.hid (B14.out.trans (hb.mono B14.out.size))
  clear hb B14
  go_wp2_with fail
  refine (C14.out _).mono ?_
  rintro e w16 ⟨rfl, hb⟩
  have B16 := Lib.hid (B15.out.trans (hb.mono B15.out.size))
  clear hb B15
  go_wp2_with fail
  refine (C15.out _).mono ?_
  rintro e w17 ⟨rfl, hb⟩
  have B17 := Lib.hid (B16.out.trans (hb.mono B16.out.size))
  clear hb B16
  go_wp2
  go_ret
  exact ⟨rfl, B17.out⟩

set_option maxHeartbeats 1000000 in
theorem lanesMoves_walk (v : Nat) (m n : Int) (w : World) (hv : v < 18446744073709551616) (m1 : -9223372036854775808 ≤ m) (m2 : m ≤ 9223372036854775807) (n1 : -9223372036854775808 ≤ n) (n2 : n ≤ 9223372036854775807) :
    Calls Try.prog 8 #[.int .u64 (v : Nat), .int .i64 m, .int .i64 n] w fun e w' => e = .returned (.bool true) ∧ Below w.heap.size w w' := by
  have S := Lib.hid (speaks_any w)
  by_cases c1 : m < 0
  · go_enter Try.func8, Try.ntmps8
    go_wp2_with fail
    refine (S.out).mono ?_
    rintro e w1 ⟨rfl, hb⟩
    have B1 := Lib.hid hb
    clear hb
    go_wp2
    go_ret
    exact ⟨rfl, B1.out⟩
  · by_cases c2 : n < 0
    · go_enter Try.func8, Try.ntmps8
      go_wp2_with fail
      refine (S.out).mono ?_
      rintro e w1 ⟨rfl, hb⟩
      have B1 := Lib.hid hb
      clear hb
      go_wp2
      go_ret
      exact ⟨rfl, B1.out⟩
    · by_cases c3 : 100 < m
      · go_enter Try.func8, Try.ntmps8
        go_wp2_with fail
        refine (S.out).mono ?_
        rintro e w1 ⟨rfl, hb⟩
        have B1 := Lib.hid hb
        clear hb
        go_wp2
        go_ret
        exact ⟨rfl, B1.out⟩
      · by_cases c4 : 100 < n
        · go_enter Try.func8, Try.ntmps8
          go_wp2_with fail
          refine (S.out).mono ?_
          rintro e w1 ⟨rfl, hb⟩
          have B1 := Lib.hid hb
          clear hb
          go_wp2
          go_ret
          exact ⟨rfl, B1.out⟩
        · have l1 := up_lt v (lanesUp m)
          have C1 := Lib.hid fun W => up_any v m W hv m1 m2
          have C2 : Hid (∀ W, Calls Try.prog 25 #[.int .u64 (up v (lanesUp m) : Nat), .int .i64 n] W fun e w' => e = .returned (.int .u64 (up v (lanesUp (m + n)) : Nat)) ∧ W = w') := fun W => by
            have := up_any (up v (lanesUp m)) n W l1 n1 n2
            rw [r_up v m n (by omega) (by omega)] at this; exact this
          have C3 := Lib.hid fun W => up_any v (m + n) W hv (by omega) (by omega)
          have C4 : Hid (∀ W, Calls Try.prog 14 #[.int .u64 (up v (lanesUp m) : Nat), .int .u64 (up v (lanesUp m) : Nat)] W (GivesW W (up v (lanesUp m)))) := fun W => by
            have := least_any (up v (lanesUp m)) (up v (lanesUp m)) W l1 l1
            rw [r_self _ l1] at this; exact this
          clear l1
          generalize up v (lanesUp m) = x at *
          generalize up v (lanesUp (m + n)) = y at *
          go_enter Try.func8, Try.ntmps8
          go_wp2_with fail
          refine (S.out).mono ?_
          rintro e w1 ⟨rfl, hb⟩
          have B1 := Lib.hid hb
          clear hb
          go_wp2_with fail
          refine (C1.out _).mono ?_
          rintro e w2 ⟨rfl, rfl⟩
          go_wp2_with fail
          refine (C2.out _).mono ?_
          rintro e w3 ⟨rfl, rfl⟩
          go_wp2_with fail
          refine (C3.out _).mono ?_
          rintro e w4 ⟨rfl, rfl⟩
          go_wp2_with fail
          refine (C1.out _).mono ?_
          rintro e w5 ⟨rfl, rfl⟩
          go_wp2_with fail
          refine (C1.out _).mono ?_
          rintro e w6 ⟨rfl, rfl⟩
          go_wp2_with fail
          refine (C4.out _).mono ?_
          rintro e w7 ⟨rfl, hb⟩
          have B7 := Lib.hid (B1.out.trans (hb.mono B1.out.size))
          clear hb B1
          go_wp2_with fail
          refine (C1.out _).mono ?_
          rintro e w8 ⟨rfl, rfl⟩
          go_wp2
          go_ret
          exact ⟨rfl, B7.out⟩
end Go.Proofs.Ythohifibkhdmpaa
