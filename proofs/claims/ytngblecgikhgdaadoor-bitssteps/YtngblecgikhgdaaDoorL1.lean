/- The laws of layer 1 over vectors: BitsRules, BitsParts, BitsSteps, BitsOnce: their walks out of the contracts. -/
import Derived.Test.YtngblecgikhgdaaDoorN2
namespace Go.Proofs.YtngblecgikhgdaaDoor
open Go.RowKit

set_option maxHeartbeats 1000000 in
theorem bitsRules_walk (A B C : Option Addr) (c d e : Nat) (xs ys zs : List (BitVec 64)) (w : World) (hT : Tab w) (hw0 : 0 < w.heap.size) (v_a : VecArg w A c xs) (v_b : VecArg w B d ys) (v_c : VecArg w C e zs) :
    Calls Tryd.prog 8 #[.slice A xs.length c, .slice B ys.length d, .slice C zs.length e] w fun e w' => e = .returned (.bool true) ∧ Below w.heap.size w w' := by
  obtain ⟨c_a, x_a, n_a, l_a⟩ := v_a
  have X0_a := Lib.hid x_a; have N_a := Lib.hid n_a; clear x_a n_a
  obtain ⟨c_b, x_b, n_b, l_b⟩ := v_b
  have X0_b := Lib.hid x_b; have N_b := Lib.hid n_b; clear x_b n_b
  obtain ⟨c_c, x_c, n_c, l_c⟩ := v_c
  have X0_c := Lib.hid x_c; have N_c := Lib.hid n_c; clear x_c n_c
  have S := Lib.hid (speaks_any w hT hw0)
  have T0 := Lib.hid hT; clear hT
  go_enter Tryd.func8, Tryd.ntmps8
  go_wp2_with fail
  refine S.out.mono ?_
  rintro e w1 ⟨rfl, hb⟩
  have B1 := Lib.hid hb
  have X1_a := Lib.hid (X0_a.out.below hb); clear X0_a
  have X1_b := Lib.hid (X0_b.out.below hb); clear X0_b
  have X1_c := Lib.hid (X0_c.out.below hb); clear X0_c
  clear hb S
  go_wp2_with fail
  refine (or_p B C d e ys zs w1 X1_b.out X1_c.out (by omega) (by omega)).mono ?_
  rintro e w2 ⟨p1, A_p1, c_p1, rfl, k_p1, l_p1, hx, hf, hb, hp⟩
  have B2 := Lib.hid (B1.out.trans (hb.mono B1.out.size))
  have X2_a := Lib.hid (X1_a.out.below hb); clear X1_a
  have X2_b := Lib.hid (X1_b.out.below hb); clear X1_b
  have X2_c := Lib.hid (X1_c.out.below hb); clear X1_c
  clear B1 hb
  have X2_p1 := Lib.hid hx; have P_p1 := Lib.hid hp; clear hx hp
  clear hf
  go_wp2_with fail
  refine (and_p A A_p1 c c_p1 xs p1 w2 X2_a.out X2_p1.out (by omega) (by omega)).mono ?_
  rintro e w3 ⟨p2, A_p2, c_p2, rfl, k_p2, l_p2, hx, hf, hb, hp⟩
  have B3 := Lib.hid (B2.out.trans (hb.mono B2.out.size))
  have X3_a := Lib.hid (X2_a.out.below hb); clear X2_a
  have X3_b := Lib.hid (X2_b.out.below hb); clear X2_b
  have X3_c := Lib.hid (X2_c.out.below hb); clear X2_c
  have X3_p1 := Lib.hid (X2_p1.out.below hb); clear X2_p1
  clear B2 hb
  have X3_p2 := Lib.hid hx; have P_p2 := Lib.hid hp; clear hx hp
  clear hf
  go_wp2_with fail
  refine (and_p A B c d xs ys w3 X3_a.out X3_b.out (by omega) (by omega)).mono ?_
  rintro e w4 ⟨p3, A_p3, c_p3, rfl, k_p3, l_p3, hx, hf, hb, hp⟩
  have B4 := Lib.hid (B3.out.trans (hb.mono B3.out.size))
  have X4_a := Lib.hid (X3_a.out.below hb); clear X3_a
  have X4_b := Lib.hid (X3_b.out.below hb); clear X3_b
  have X4_c := Lib.hid (X3_c.out.below hb); clear X3_c
  have X4_p1 := Lib.hid (X3_p1.out.below hb); clear X3_p1
  have X4_p2 := Lib.hid (X3_p2.out.below hb); clear X3_p2
  clear B3 hb
  have X4_p3 := Lib.hid hx; have P_p3 := Lib.hid hp; clear hx hp
  clear hf
  go_wp2_with fail
  refine (and_p A C c e xs zs w4 X4_a.out X4_c.out (by omega) (by omega)).mono ?_
  rintro e w5 ⟨p4, A_p4, c_p4, rfl, k_p4, l_p4, hx, hf, hb, hp⟩
  have B5 := Lib.hid (B4.out.trans (hb.mono B4.out.size))
  have X5_a := Lib.hid (X4_a.out.below hb); clear X4_a
  have X5_b := Lib.hid (X4_b.out.below hb); clear X4_b
  have X5_c := Lib.hid (X4_c.out.below hb); clear X4_c
  have X5_p1 := Lib.hid (X4_p1.out.below hb); clear X4_p1
  have X5_p2 := Lib.hid (X4_p2.out.below hb); clear X4_p2
  have X5_p3 := Lib.hid (X4_p3.out.below hb); clear X4_p3
  clear B4 hb
  have X5_p4 := Lib.hid hx; have P_p4 := Lib.hid hp; clear hx hp
  clear hf
  go_wp2_with fail
  refine (or_p A_p3 A_p4 c_p3 c_p4 p3 p4 w5 X5_p3.out X5_p4.out (by omega) (by omega)).mono ?_
  rintro e w6 ⟨p5, A_p5, c_p5, rfl, k_p5, l_p5, hx, hf, hb, hp⟩
  have B6 := Lib.hid (B5.out.trans (hb.mono B5.out.size))
  have X6_a := Lib.hid (X5_a.out.below hb); clear X5_a
  have X6_b := Lib.hid (X5_b.out.below hb); clear X5_b
  have X6_c := Lib.hid (X5_c.out.below hb); clear X5_c
  have X6_p1 := Lib.hid (X5_p1.out.below hb); clear X5_p1
  have X6_p2 := Lib.hid (X5_p2.out.below hb); clear X5_p2
  have X6_p3 := Lib.hid (X5_p3.out.below hb); clear X5_p3
  have X6_p4 := Lib.hid (X5_p4.out.below hb); clear X5_p4
  clear B5 hb
  have X6_p5 := Lib.hid hx; have P_p5 := Lib.hid hp; clear hx hp
  clear hf
  go_wp2_with fail
  refine (same_p A_p2 A_p5 c_p2 c_p5 p2 p5 w6 X6_p2.out X6_p5.out (by omega) (P_p2.out.eq P_p5.out fun i => by simp only [P_p1.out.2, P_p3.out.2, P_p4.out.2]; cases bit xs i <;> simp)).mono ?_
  rintro e w7 ⟨rfl, hb⟩
  have B7 := Lib.hid (B6.out.trans (hb.mono B6.out.size))
  have X7_a := Lib.hid (X6_a.out.below hb); clear X6_a
  have X7_b := Lib.hid (X6_b.out.below hb); clear X6_b
  have X7_c := Lib.hid (X6_c.out.below hb); clear X6_c
  have X7_p1 := Lib.hid (X6_p1.out.below hb); clear X6_p1
  have X7_p2 := Lib.hid (X6_p2.out.below hb); clear X6_p2
  have X7_p3 := Lib.hid (X6_p3.out.below hb); clear X6_p3
  have X7_p4 := Lib.hid (X6_p4.out.below hb); clear X6_p4
  have X7_p5 := Lib.hid (X6_p5.out.below hb); clear X6_p5
  clear B6 hb
  clear X7_p1
  clear X7_p2
  clear X7_p3
  clear X7_p4
  clear X7_p5
  go_wp2_with fail
  refine (minus_p A B c d xs ys w7 X7_a.out X7_b.out (by omega) (by omega)).mono ?_
  rintro e w8 ⟨q1, A_q1, c_q1, rfl, k_q1, l_q1, hx, hf, hb, hp⟩
  have B8 := Lib.hid (B7.out.trans (hb.mono B7.out.size))
  have X8_a := Lib.hid (X7_a.out.below hb); clear X7_a
  have X8_b := Lib.hid (X7_b.out.below hb); clear X7_b
  have X8_c := Lib.hid (X7_c.out.below hb); clear X7_c
  clear B7 hb
  have X8_q1 := Lib.hid hx; have P_q1 := Lib.hid hp; clear hx hp
  clear hf
  go_wp2_with fail
  refine (minus_p A_q1 C c_q1 e q1 zs w8 X8_q1.out X8_c.out (by omega) (by omega)).mono ?_
  rintro e w9 ⟨q2, A_q2, c_q2, rfl, k_q2, l_q2, hx, hf, hb, hp⟩
  have B9 := Lib.hid (B8.out.trans (hb.mono B8.out.size))
  have X9_a := Lib.hid (X8_a.out.below hb); clear X8_a
  have X9_b := Lib.hid (X8_b.out.below hb); clear X8_b
  have X9_c := Lib.hid (X8_c.out.below hb); clear X8_c
  have X9_q1 := Lib.hid (X8_q1.out.below hb); clear X8_q1
  clear B8 hb
  have X9_q2 := Lib.hid hx; have P_q2 := Lib.hid hp; clear hx hp
  clear hf
  go_wp2_with fail
  refine (or_p B C d e ys zs w9 X9_b.out X9_c.out (by omega) (by omega)).mono ?_
  rintro e w10 ⟨q3, A_q3, c_q3, rfl, k_q3, l_q3, hx, hf, hb, hp⟩
  have B10 := Lib.hid (B9.out.trans (hb.mono B9.out.size))
  have X10_a := Lib.hid (X9_a.out.below hb); clear X9_a
  have X10_b := Lib.hid (X9_b.out.below hb); clear X9_b
  have X10_c := Lib.hid (X9_c.out.below hb); clear X9_c
  have X10_q1 := Lib.hid (X9_q1.out.below hb); clear X9_q1
  have X10_q2 := Lib.hid (X9_q2.out.below hb); clear X9_q2
  clear B9 hb
  have X10_q3 := Lib.hid hx; have P_q3 := Lib.hid hp; clear hx hp
  clear hf
  go_wp2_with fail
  refine (minus_p A A_q3 c c_q3 xs q3 w10 X10_a.out X10_q3.out (by omega) (by omega)).mono ?_
  rintro e w11 ⟨q4, A_q4, c_q4, rfl, k_q4, l_q4, hx, hf, hb, hp⟩
  have B11 := Lib.hid (B10.out.trans (hb.mono B10.out.size))
  have X11_a := Lib.hid (X10_a.out.below hb); clear X10_a
  have X11_b := Lib.hid (X10_b.out.below hb); clear X10_b
  have X11_c := Lib.hid (X10_c.out.below hb); clear X10_c
  have X11_q1 := Lib.hid (X10_q1.out.below hb); clear X10_q1
  have X11_q2 := Lib.hid (X10_q2.out.below hb); clear X10_q2
  have X11_q3 := Lib.hid (X10_q3.out.below hb); clear X10_q3
  clear B10 hb
  have X11_q4 := Lib.hid hx; have P_q4 := Lib.hid hp; clear hx hp
  clear hf
  go_wp2_with fail
  refine (same_p A_q2 A_q4 c_q2 c_q4 q2 q4 w11 X11_q2.out X11_q4.out (by omega) (P_q2.out.eq P_q4.out fun i => by simp only [P_q1.out.2, P_q3.out.2]; cases bit xs i <;> simp)).mono ?_
  rintro e w12 ⟨rfl, hb⟩
  have B12 := Lib.hid (B11.out.trans (hb.mono B11.out.size))
  have X12_a := Lib.hid (X11_a.out.below hb); clear X11_a
  have X12_b := Lib.hid (X11_b.out.below hb); clear X11_b
  have X12_c := Lib.hid (X11_c.out.below hb); clear X11_c
  have X12_q1 := Lib.hid (X11_q1.out.below hb); clear X11_q1
  have X12_q2 := Lib.hid (X11_q2.out.below hb); clear X11_q2
  have X12_q3 := Lib.hid (X11_q3.out.below hb); clear X11_q3
  have X12_q4 := Lib.hid (X11_q4.out.below hb); clear X11_q4
  clear B11 hb
  clear X12_q1
  clear X12_q2
  clear X12_q3
  clear X12_q4
  go_wp2_with fail
  refine (minus_p A B c d xs ys w12 X12_a.out X12_b.out (by omega) (by omega)).mono ?_
  rintro e w13 ⟨r1, A_r1, c_r1, rfl, k_r1, l_r1, hx, hf, hb, hp⟩
  have B13 := Lib.hid (B12.out.trans (hb.mono B12.out.size))
  have X13_a := Lib.hid (X12_a.out.below hb); clear X12_a
  have X13_b := Lib.hid (X12_b.out.below hb); clear X12_b
  have X13_c := Lib.hid (X12_c.out.below hb); clear X12_c
  clear B12 hb
  have X13_r1 := Lib.hid hx; have P_r1 := Lib.hid hp; clear hx hp
  clear hf
  go_wp2_with fail
  refine (and_p A_r1 B c_r1 d r1 ys w13 X13_r1.out X13_b.out (by omega) (by omega)).mono ?_
  rintro e w14 ⟨r2, A_r2, c_r2, rfl, k_r2, l_r2, hx, hf, hb, hp⟩
  have B14 := Lib.hid (B13.out.trans (hb.mono B13.out.size))
  have X14_a := Lib.hid (X13_a.out.below hb); clear X13_a
  have X14_b := Lib.hid (X13_b.out.below hb); clear X13_b
  have X14_c := Lib.hid (X13_c.out.below hb); clear X13_c
  have X14_r1 := Lib.hid (X13_r1.out.below hb); clear X13_r1
  clear B13 hb
  have X14_r2 := Lib.hid hx; have P_r2 := Lib.hid hp; clear hx hp
  clear hf
  have e2 : Hid (r2 = []) := P_r2.out.nil fun i => by simp only [P_r1.out.2]; cases bit xs i <;> simp
  have z2 : ((r2.length : Int) == 0) = true := by rw [e2.out]; rfl
  go_wp2_with fail
  refine (and_p A B c d xs ys w14 X14_a.out X14_b.out (by omega) (by omega)).mono ?_
  rintro e w15 ⟨s1, A_s1, c_s1, rfl, k_s1, l_s1, hx, hf, hb, hp⟩
  have B15 := Lib.hid (B14.out.trans (hb.mono B14.out.size))
  have X15_a := Lib.hid (X14_a.out.below hb); clear X14_a
  have X15_b := Lib.hid (X14_b.out.below hb); clear X14_b
  have X15_c := Lib.hid (X14_c.out.below hb); clear X14_c
  have X15_r1 := Lib.hid (X14_r1.out.below hb); clear X14_r1
  have X15_r2 := Lib.hid (X14_r2.out.below hb); clear X14_r2
  clear B14 hb
  have X15_s1 := Lib.hid hx; have P_s1 := Lib.hid hp; clear hx hp
  clear hf
  go_wp2_with fail
  refine (count_p A_s1 c_s1 s1 w15 X15_s1.out (by omega)).mono ?_
  rintro e w' ⟨m1, rfl, rfl, m_m1, hm⟩
  have M_m1 := Lib.hid hm; clear hm
  go_wp2_with fail
  refine (or_p A B c d xs ys w15 X15_a.out X15_b.out (by omega) (by omega)).mono ?_
  rintro e w16 ⟨s2, A_s2, c_s2, rfl, k_s2, l_s2, hx, hf, hb, hp⟩
  have B16 := Lib.hid (B15.out.trans (hb.mono B15.out.size))
  have X16_a := Lib.hid (X15_a.out.below hb); clear X15_a
  have X16_b := Lib.hid (X15_b.out.below hb); clear X15_b
  have X16_c := Lib.hid (X15_c.out.below hb); clear X15_c
  have X16_r1 := Lib.hid (X15_r1.out.below hb); clear X15_r1
  have X16_r2 := Lib.hid (X15_r2.out.below hb); clear X15_r2
  have X16_s1 := Lib.hid (X15_s1.out.below hb); clear X15_s1
  clear B15 hb
  have X16_s2 := Lib.hid hx; have P_s2 := Lib.hid hp; clear hx hp
  clear hf
  go_wp2_with fail
  refine (count_p A_s2 c_s2 s2 w16 X16_s2.out (by omega)).mono ?_
  rintro e w' ⟨m2, rfl, rfl, m_m2, hm⟩
  have M_m2 := Lib.hid hm; clear hm
  go_wp2_with fail
  refine (count_p A c xs w16 X16_a.out (by omega)).mono ?_
  rintro e w' ⟨m3, rfl, rfl, m_m3, hm⟩
  have M_m3 := Lib.hid hm; clear hm
  go_wp2_with fail
  refine (count_p B d ys w16 X16_b.out (by omega)).mono ?_
  rintro e w' ⟨m4, rfl, rfl, m_m4, hm⟩
  have M_m4 := Lib.hid hm; clear hm
  have ez : ((m1 : Int) + (m2 : Int) == (m3 : Int) + (m4 : Int)) = true := by
    have := cnt_and_or xs ys s1 s2 P_s1.out.2 P_s2.out.2
    rw [← M_m1.out, ← M_m2.out, ← M_m3.out, ← M_m4.out] at this
    simp; omega
  go_wp2_with fail
  refine (and_p A B c d xs ys w16 X16_a.out X16_b.out (by omega) (by omega)).mono ?_
  rintro e w17 ⟨t1, A_t1, c_t1, rfl, k_t1, l_t1, hx, hf, hb, hp⟩
  have B17 := Lib.hid (B16.out.trans (hb.mono B16.out.size))
  have X17_a := Lib.hid (X16_a.out.below hb); clear X16_a
  have X17_b := Lib.hid (X16_b.out.below hb); clear X16_b
  have X17_c := Lib.hid (X16_c.out.below hb); clear X16_c
  have X17_r1 := Lib.hid (X16_r1.out.below hb); clear X16_r1
  have X17_r2 := Lib.hid (X16_r2.out.below hb); clear X16_r2
  have X17_s1 := Lib.hid (X16_s1.out.below hb); clear X16_s1
  have X17_s2 := Lib.hid (X16_s2.out.below hb); clear X16_s2
  clear B16 hb
  have X17_t1 := Lib.hid hx; have P_t1 := Lib.hid hp; clear hx hp
  clear hf
  go_wp2_with fail
  refine (and_p B A d c ys xs w17 X17_b.out X17_a.out (by omega) (by omega)).mono ?_
  rintro e w18 ⟨t2, A_t2, c_t2, rfl, k_t2, l_t2, hx, hf, hb, hp⟩
  have B18 := Lib.hid (B17.out.trans (hb.mono B17.out.size))
  have X18_a := Lib.hid (X17_a.out.below hb); clear X17_a
  have X18_b := Lib.hid (X17_b.out.below hb); clear X17_b
  have X18_c := Lib.hid (X17_c.out.below hb); clear X17_c
  have X18_r1 := Lib.hid (X17_r1.out.below hb); clear X17_r1
  have X18_r2 := Lib.hid (X17_r2.out.below hb); clear X17_r2
  have X18_s1 := Lib.hid (X17_s1.out.below hb); clear X17_s1
  have X18_s2 := Lib.hid (X17_s2.out.below hb); clear X17_s2
  have X18_t1 := Lib.hid (X17_t1.out.below hb); clear X17_t1
  clear B17 hb
  have X18_t2 := Lib.hid hx; have P_t2 := Lib.hid hp; clear hx hp
  clear hf
  go_wp2_with fail
  refine (same_p A_t1 A_t2 c_t1 c_t2 t1 t2 w18 X18_t1.out X18_t2.out (by omega) (P_t1.out.eq P_t2.out fun i => Bool.and_comm _ _)).mono ?_
  rintro e w19 ⟨rfl, hb⟩
  have B19 := Lib.hid (B18.out.trans (hb.mono B18.out.size))
  have X19_a := Lib.hid (X18_a.out.below hb); clear X18_a
  have X19_b := Lib.hid (X18_b.out.below hb); clear X18_b
  have X19_c := Lib.hid (X18_c.out.below hb); clear X18_c
  have X19_r1 := Lib.hid (X18_r1.out.below hb); clear X18_r1
  have X19_r2 := Lib.hid (X18_r2.out.below hb); clear X18_r2
  have X19_s1 := Lib.hid (X18_s1.out.below hb); clear X18_s1
  have X19_s2 := Lib.hid (X18_s2.out.below hb); clear X18_s2
  have X19_t1 := Lib.hid (X18_t1.out.below hb); clear X18_t1
  have X19_t2 := Lib.hid (X18_t2.out.below hb); clear X18_t2
  clear B18 hb
  go_wp2
  go_ret
  exact ⟨rfl, B19.out⟩

set_option maxHeartbeats 1000000 in
theorem bitsParts_walk (A : Option Addr) (c : Nat) (n : Int) (xs : List (BitVec 64)) (w : World) (hT : Tab w) (hw0 : 0 < w.heap.size) (v_a : VecArg w A c xs) (hn : n ≤ 9223372036854775807) :
    Calls Tryd.prog 10 #[.slice A xs.length c, .int .i64 n] w fun e w' => e = .returned (.bool true) ∧ Below w.heap.size w w' := by
  obtain ⟨c_a, x_a, n_a, l_a⟩ := v_a
  have X0_a := Lib.hid x_a; have N_a := Lib.hid n_a; clear x_a n_a
  have S := Lib.hid (speaks_any w hT hw0)
  have T0 := Lib.hid hT; clear hT
  go_enter Tryd.func10, Tryd.ntmps10
  go_wp2_with fail
  refine S.out.mono ?_
  rintro e w1 ⟨rfl, hb⟩
  have B1 := Lib.hid hb
  have X1_a := Lib.hid (X0_a.out.below hb); clear X0_a
  clear hb S
  go_wp2_with fail
  refine (low_p A c n xs w1 X1_a.out (by omega) (by omega) hn).mono ?_
  rintro e w2 ⟨lo, A_lo, c_lo, rfl, k_lo, l_lo, hx, hf, hb, hp⟩
  have B2 := Lib.hid (B1.out.trans (hb.mono B1.out.size))
  have X2_a := Lib.hid (X1_a.out.below hb); clear X1_a
  clear B1 hb
  have X2_lo := Lib.hid hx; have P_lo := Lib.hid hp; clear hx hp
  clear hf
  go_wp2_with fail
  refine (minus_p A A_lo c c_lo xs lo w2 X2_a.out X2_lo.out (by omega) (by omega)).mono ?_
  rintro e w3 ⟨hi, A_hi, c_hi, rfl, k_hi, l_hi, hx, hf, hb, hp⟩
  have B3 := Lib.hid (B2.out.trans (hb.mono B2.out.size))
  have X3_a := Lib.hid (X2_a.out.below hb); clear X2_a
  have X3_lo := Lib.hid (X2_lo.out.below hb); clear X2_lo
  clear B2 hb
  have X3_hi := Lib.hid hx; have P_hi := Lib.hid hp; clear hx hp
  clear hf
  go_wp2_with fail
  refine (or_p A_lo A_hi c_lo c_hi lo hi w3 X3_lo.out X3_hi.out (by omega) (by omega)).mono ?_
  rintro e w4 ⟨p1, A_p1, c_p1, rfl, k_p1, l_p1, hx, hf, hb, hp⟩
  have B4 := Lib.hid (B3.out.trans (hb.mono B3.out.size))
  have X4_a := Lib.hid (X3_a.out.below hb); clear X3_a
  have X4_lo := Lib.hid (X3_lo.out.below hb); clear X3_lo
  have X4_hi := Lib.hid (X3_hi.out.below hb); clear X3_hi
  clear B3 hb
  have X4_p1 := Lib.hid hx; have P_p1 := Lib.hid hp; clear hx hp
  clear hf
  go_wp2_with fail
  refine (trim_p A c xs w4 X4_a.out (by omega) (by omega)).mono ?_
  rintro e w5 ⟨p2, A_p2, c_p2, rfl, k_p2, l_p2, hx, hf, hb, hp⟩
  have B5 := Lib.hid (B4.out.trans (hb.mono B4.out.size))
  have X5_a := Lib.hid (X4_a.out.below hb); clear X4_a
  have X5_lo := Lib.hid (X4_lo.out.below hb); clear X4_lo
  have X5_hi := Lib.hid (X4_hi.out.below hb); clear X4_hi
  have X5_p1 := Lib.hid (X4_p1.out.below hb); clear X4_p1
  clear B4 hb
  have X5_p2 := Lib.hid hx; have P_p2 := Lib.hid hp; clear hx hp
  clear hf
  go_wp2_with fail
  refine (same_p A_p1 A_p2 c_p1 c_p2 p1 p2 w5 X5_p1.out X5_p2.out (by omega) (P_p1.out.eq P_p2.out fun i => by simp only [P_hi.out.2, P_lo.out.2]; cases bit xs i <;> simp)).mono ?_
  rintro e w6 ⟨rfl, hb⟩
  have B6 := Lib.hid (B5.out.trans (hb.mono B5.out.size))
  have X6_a := Lib.hid (X5_a.out.below hb); clear X5_a
  have X6_lo := Lib.hid (X5_lo.out.below hb); clear X5_lo
  have X6_hi := Lib.hid (X5_hi.out.below hb); clear X5_hi
  have X6_p1 := Lib.hid (X5_p1.out.below hb); clear X5_p1
  have X6_p2 := Lib.hid (X5_p2.out.below hb); clear X5_p2
  clear B5 hb
  go_wp2_with fail
  refine (and_p A_lo A_hi c_lo c_hi lo hi w6 X6_lo.out X6_hi.out (by omega) (by omega)).mono ?_
  rintro e w7 ⟨p3, A_p3, c_p3, rfl, k_p3, l_p3, hx, hf, hb, hp⟩
  have B7 := Lib.hid (B6.out.trans (hb.mono B6.out.size))
  have X7_a := Lib.hid (X6_a.out.below hb); clear X6_a
  have X7_lo := Lib.hid (X6_lo.out.below hb); clear X6_lo
  have X7_hi := Lib.hid (X6_hi.out.below hb); clear X6_hi
  have X7_p1 := Lib.hid (X6_p1.out.below hb); clear X6_p1
  have X7_p2 := Lib.hid (X6_p2.out.below hb); clear X6_p2
  clear B6 hb
  have X7_p3 := Lib.hid hx; have P_p3 := Lib.hid hp; clear hx hp
  clear hf
  have e3 : Hid (p3 = []) := P_p3.out.nil fun i => by simp only [P_hi.out.2]; cases bit lo i <;> simp
  have z3 : ((p3.length : Int) == 0) = true := by rw [e3.out]; rfl
  go_wp2_with fail
  refine (count_p A_lo c_lo lo w7 X7_lo.out (by omega)).mono ?_
  rintro e w' ⟨m1, rfl, rfl, m_m1, hm⟩
  have M_m1 := Lib.hid hm; clear hm
  go_wp2_with fail
  refine (count_p A_hi c_hi hi w7 X7_hi.out (by omega)).mono ?_
  rintro e w' ⟨m2, rfl, rfl, m_m2, hm⟩
  have M_m2 := Lib.hid hm; clear hm
  go_wp2_with fail
  refine (count_p A c xs w7 X7_a.out (by omega)).mono ?_
  rintro e w' ⟨m3, rfl, rfl, m_m3, hm⟩
  have M_m3 := Lib.hid hm; clear hm
  have ez : ((m1 : Int) + (m2 : Int) == (m3 : Int)) = true := by
    have h1 := cnt_and_or lo hi p3 p1 P_p3.out.2 P_p1.out.2
    have h2 : cnt p3 = 0 := by rw [e3.out]; rfl
    have h3 : cnt p1 = cnt xs := cnt_congr _ _ fun i => by simp only [P_p1.out.2, P_hi.out.2, P_lo.out.2]; cases bit xs i <;> simp
    rw [h2, h3, ← M_m1.out, ← M_m2.out, ← M_m3.out] at h1
    simp; omega
  go_wp2_with fail
  refine (low_p A_hi c_hi n hi w7 X7_hi.out (by omega) (by omega) hn).mono ?_
  rintro e w8 ⟨p4, A_p4, c_p4, rfl, k_p4, l_p4, hx, hf, hb, hp⟩
  have B8 := Lib.hid (B7.out.trans (hb.mono B7.out.size))
  have X8_a := Lib.hid (X7_a.out.below hb); clear X7_a
  have X8_lo := Lib.hid (X7_lo.out.below hb); clear X7_lo
  have X8_hi := Lib.hid (X7_hi.out.below hb); clear X7_hi
  have X8_p1 := Lib.hid (X7_p1.out.below hb); clear X7_p1
  have X8_p2 := Lib.hid (X7_p2.out.below hb); clear X7_p2
  have X8_p3 := Lib.hid (X7_p3.out.below hb); clear X7_p3
  clear B7 hb
  have X8_p4 := Lib.hid hx; have P_p4 := Lib.hid hp; clear hx hp
  clear hf
  have e4 : Hid (p4 = []) := P_p4.out.nil fun i => by simp only [P_hi.out.2, P_lo.out.2]; cases bit xs i <;> cases decide ((i : Int) < n) <;> simp
  have z4 : ((p4.length : Int) == 0) = true := by rw [e4.out]; rfl
  go_wp2
  go_ret
  exact ⟨rfl, B8.out⟩

set_option maxHeartbeats 1000000 in
theorem bitsSteps_out1 (A : Option Addr) (c : Nat) (m n : Int) (xs : List (BitVec 64)) (w : World) (hT : Tab w) (hw0 : 0 < w.heap.size) (v_a : VecArg w A c xs) (h1 : m < 0) :
    Calls Tryd.prog 9 #[.slice A xs.length c, .int .i64 m, .int .i64 n] w fun e w' => e = .returned (.bool true) ∧ Below w.heap.size w w' := by
  obtain ⟨c_a, x_a, n_a, l_a⟩ := v_a
  have X0_a := Lib.hid x_a; have N_a := Lib.hid n_a; clear x_a n_a
  have S := Lib.hid (speaks_any w hT hw0)
  have T0 := Lib.hid hT; clear hT
  have d0 : decide (m < 0) = true := by simp; omega
  go_enter Tryd.func9, Tryd.ntmps9
  go_wp2_with fail
  refine S.out.mono ?_
  rintro e w1 ⟨rfl, hb⟩
  have B1 := Lib.hid hb
  have X1_a := Lib.hid (X0_a.out.below hb); clear X0_a
  clear hb S
  go_wp2
  go_ret
  exact ⟨rfl, B1.out⟩

set_option maxHeartbeats 1000000 in
theorem bitsSteps_out2 (A : Option Addr) (c : Nat) (m n : Int) (xs : List (BitVec 64)) (w : World) (hT : Tab w) (hw0 : 0 < w.heap.size) (v_a : VecArg w A c xs) (h1 : ¬ m < 0) (h2 : n < 0) :
    Calls Tryd.prog 9 #[.slice A xs.length c, .int .i64 m, .int .i64 n] w fun e w' => e = .returned (.bool true) ∧ Below w.heap.size w w' := by
  obtain ⟨c_a, x_a, n_a, l_a⟩ := v_a
  have X0_a := Lib.hid x_a; have N_a := Lib.hid n_a; clear x_a n_a
  have S := Lib.hid (speaks_any w hT hw0)
  have T0 := Lib.hid hT; clear hT
  have d0 : decide (m < 0) = false := by simp; omega
  have d1 : decide (n < 0) = true := by simp; omega
  go_enter Tryd.func9, Tryd.ntmps9
  go_wp2_with fail
  refine S.out.mono ?_
  rintro e w1 ⟨rfl, hb⟩
  have B1 := Lib.hid hb
  have X1_a := Lib.hid (X0_a.out.below hb); clear X0_a
  clear hb S
  go_wp2
  go_ret
  exact ⟨rfl, B1.out⟩

set_option maxHeartbeats 1000000 in
theorem bitsSteps_out3 (A : Option Addr) (c : Nat) (m n : Int) (xs : List (BitVec 64)) (w : World) (hT : Tab w) (hw0 : 0 < w.heap.size) (v_a : VecArg w A c xs) (h1 : ¬ m < 0) (h2 : ¬ n < 0) (h3 : 3000 < m) :
    Calls Tryd.prog 9 #[.slice A xs.length c, .int .i64 m, .int .i64 n] w fun e w' => e = .returned (.bool true) ∧ Below w.heap.size w w' := by
  obtain ⟨c_a, x_a, n_a, l_a⟩ := v_a
  have X0_a := Lib.hid x_a; have N_a := Lib.hid n_a; clear x_a n_a
  have S := Lib.hid (speaks_any w hT hw0)
  have T0 := Lib.hid hT; clear hT
  have d0 : decide (m < 0) = false := by simp; omega
  have d1 : decide (n < 0) = false := by simp; omega
  have d2 : decide (3000 < m) = true := by simp; omega
  go_enter Tryd.func9, Tryd.ntmps9
  go_wp2_with fail
  refine S.out.mono ?_
  rintro e w1 ⟨rfl, hb⟩
  have B1 := Lib.hid hb
  have X1_a := Lib.hid (X0_a.out.below hb); clear X0_a
  clear hb S
  go_wp2
  go_ret
  exact ⟨rfl, B1.out⟩

set_option maxHeartbeats 1000000 in
theorem bitsSteps_out4 (A : Option Addr) (c : Nat) (m n : Int) (xs : List (BitVec 64)) (w : World) (hT : Tab w) (hw0 : 0 < w.heap.size) (v_a : VecArg w A c xs) (h1 : ¬ m < 0) (h2 : ¬ n < 0) (h3 : ¬ 3000 < m) (h4 : 3000 < n) :
    Calls Tryd.prog 9 #[.slice A xs.length c, .int .i64 m, .int .i64 n] w fun e w' => e = .returned (.bool true) ∧ Below w.heap.size w w' := by
  obtain ⟨c_a, x_a, n_a, l_a⟩ := v_a
  have X0_a := Lib.hid x_a; have N_a := Lib.hid n_a; clear x_a n_a
  have S := Lib.hid (speaks_any w hT hw0)
  have T0 := Lib.hid hT; clear hT
  have d0 : decide (m < 0) = false := by simp; omega
  have d1 : decide (n < 0) = false := by simp; omega
  have d2 : decide (3000 < m) = false := by simp; omega
  have d3 : decide (3000 < n) = true := by simp; omega
  go_enter Tryd.func9, Tryd.ntmps9
  go_wp2_with fail
  refine S.out.mono ?_
  rintro e w1 ⟨rfl, hb⟩
  have B1 := Lib.hid hb
  have X1_a := Lib.hid (X0_a.out.below hb); clear X0_a
  clear hb S
  go_wp2
  go_ret
  exact ⟨rfl, B1.out⟩

theorem step_bits {xs p : List (BitVec 64)} {m n : Int} (hp : ∀ i, bit p i = (decide (m ≤ (i : Int)) && bit xs (i - m.toNat))) (q1 : 0 ≤ m) (q2 : 0 ≤ n) (j : Nat) :
    (decide (n ≤ (j : Int)) && bit p (j - n.toNat)) = (decide (m + n ≤ (j : Int)) && bit xs (j - (m + n).toNat)) := by
  by_cases h : n ≤ (j : Int)
  · rw [decide_eq_true h, Bool.true_and, hp, show j - n.toNat - m.toNat = j - (m + n).toNat by omega]
    congr 1
    rw [Bool.eq_iff_iff]; simp; omega
  · rw [decide_eq_false h, decide_eq_false (by omega)]; rfl

set_option maxHeartbeats 1000000 in
theorem bitsSteps_main (A : Option Addr) (c : Nat) (m n : Int) (xs : List (BitVec 64)) (w : World) (hT : Tab w) (hw0 : 0 < w.heap.size) (v_a : VecArg w A c xs) (h1 : ¬ m < 0) (h2 : ¬ n < 0) (h3 : ¬ 3000 < m) (h4 : ¬ 3000 < n) :
    Calls Tryd.prog 9 #[.slice A xs.length c, .int .i64 m, .int .i64 n] w fun e w' => e = .returned (.bool true) ∧ Below w.heap.size w w' := by
  obtain ⟨c_a, x_a, n_a, l_a⟩ := v_a
  have X0_a := Lib.hid x_a; have N_a := Lib.hid n_a; clear x_a n_a
  have S := Lib.hid (speaks_any w hT hw0)
  have T0 := Lib.hid hT; clear hT
  have d0 : decide (m < 0) = false := by simp; omega
  have d1 : decide (n < 0) = false := by simp; omega
  have d2 : decide (3000 < m) = false := by simp; omega
  have d3 : decide (3000 < n) = false := by simp; omega
  have q1 : 0 ≤ m := by omega
  have q2 : 0 ≤ n := by omega
  have q3 : m ≤ 3000 := by omega
  have q4 : n ≤ 3000 := by omega
  clear h1 h2 h3 h4
  go_enter Tryd.func9, Tryd.ntmps9
  go_wp2_with fail
  refine S.out.mono ?_
  rintro e w1 ⟨rfl, hb⟩
  have B1 := Lib.hid hb
  have X1_a := Lib.hid (X0_a.out.below hb); clear X0_a
  clear hb S
  go_wp2_with fail
  refine (up_p A c xs m w1 X1_a.out (by omega) (by omega) q1 (by omega)).mono ?_
  rintro e w2 ⟨p, A_p, c_p, rfl, k_p, l_p, hx, hf, hb, hp⟩
  have B2 := Lib.hid (B1.out.trans (hb.mono B1.out.size))
  have X2_a := Lib.hid (X1_a.out.below hb); clear X1_a
  clear B1 hb
  have X2_p := Lib.hid hx; have P_p := Lib.hid hp; clear hx hp
  clear hf
  have lp2 := P_p.out.2.2
  go_wp2_with fail
  refine (up_p A_p c_p p n w2 X2_p.out (by omega) (by omega) q2 (by omega)).mono ?_
  rintro e w3 ⟨q, A_q, c_q, rfl, k_q, l_q, hx, hf, hb, hp⟩
  have B3 := Lib.hid (B2.out.trans (hb.mono B2.out.size))
  have X3_a := Lib.hid (X2_a.out.below hb); clear X2_a
  have X3_p := Lib.hid (X2_p.out.below hb); clear X2_p
  clear B2 hb
  have X3_q := Lib.hid hx; have P_q := Lib.hid hp; clear hx hp
  clear hf
  have lq2 := P_q.out.2.2
  go_wp2_with fail
  refine (up_p A c xs (m + n) w3 X3_a.out (by omega) (by omega) (by omega) (by omega)).mono ?_
  rintro e w4 ⟨r, A_r, c_r, rfl, k_r, l_r, hx, hf, hb, hp⟩
  have B4 := Lib.hid (B3.out.trans (hb.mono B3.out.size))
  have X4_a := Lib.hid (X3_a.out.below hb); clear X3_a
  have X4_p := Lib.hid (X3_p.out.below hb); clear X3_p
  have X4_q := Lib.hid (X3_q.out.below hb); clear X3_q
  clear B3 hb
  have X4_r := Lib.hid hx; have P_r := Lib.hid hp; clear hx hp
  clear hf
  have lr2 := P_r.out.2.2
  go_wp2_with fail
  refine (same_p A_q A_r c_q c_r q r w4 X4_q.out X4_r.out (by omega) (P_q.out.1.eq P_r.out.1 fun j => step_bits P_p.out.1.2 q1 q2 j)).mono ?_
  rintro e w5 ⟨rfl, hb⟩
  have B5 := Lib.hid (B4.out.trans (hb.mono B4.out.size))
  have X5_a := Lib.hid (X4_a.out.below hb); clear X4_a
  have X5_p := Lib.hid (X4_p.out.below hb); clear X4_p
  have X5_q := Lib.hid (X4_q.out.below hb); clear X4_q
  have X5_r := Lib.hid (X4_r.out.below hb); clear X4_r
  clear B4 hb
  go_wp2_with fail
  refine (count_p A_r c_r r w5 X5_r.out (by omega)).mono ?_
  rintro e w' ⟨m1, rfl, rfl, m_m1, hm⟩
  have M_m1 := Lib.hid hm; clear hm
  go_wp2_with fail
  refine (count_p A c xs w5 X5_a.out (by omega)).mono ?_
  rintro e w' ⟨m2, rfl, rfl, m_m2, hm⟩
  have M_m2 := Lib.hid hm; clear hm
  have ez : ((m1 : Int) == (m2 : Int)) = true := by simp only [M_m1.out, M_m2.out, P_r.out.2.1, beq_self_eq_true]
  go_wp2_with fail
  refine (low_p A_r c_r (m + n) r w5 X5_r.out (by omega) (by omega) (by omega)).mono ?_
  rintro e w6 ⟨p4, A_p4, c_p4, rfl, k_p4, l_p4, hx, hf, hb, hp⟩
  have B6 := Lib.hid (B5.out.trans (hb.mono B5.out.size))
  have X6_a := Lib.hid (X5_a.out.below hb); clear X5_a
  have X6_p := Lib.hid (X5_p.out.below hb); clear X5_p
  have X6_q := Lib.hid (X5_q.out.below hb); clear X5_q
  have X6_r := Lib.hid (X5_r.out.below hb); clear X5_r
  clear B5 hb
  have X6_p4 := Lib.hid hx; have P_p4 := Lib.hid hp; clear hx hp
  clear hf
  have e4 : Hid (p4 = []) := P_p4.out.nil fun i => by simp only [P_r.out.1.2]; by_cases h : (i : Int) < m + n <;> simp [h]; intro h2; omega
  have z4 : ((p4.length : Int) == 0) = true := by rw [e4.out]; rfl
  go_wp2
  go_ret
  exact ⟨rfl, B6.out⟩

end Go.Proofs.YtngblecgikhgdaaDoor
