/- BitsJoins: its walk out of the contracts. -/
import Derived.Test.YtngblecgikhgdaaDoorN3
namespace Go.Proofs.YtngblecgikhgdaaDoor
open Go.RowKit

set_option maxHeartbeats 1000000 in
theorem bitsJoins_g1 (A B : Option Addr) (c d : Nat) (xs ys : List (BitVec 64)) (w : World) (hT : Tab w) (hw0 : 0 < w.heap.size) (v_a : VecArg w A c xs) (v_b : VecArg w B d ys) (h1 : 40 < xs.length) :
    Calls Tryd.prog 4 #[.slice A xs.length c, .slice B ys.length d] w fun e w' => e = .returned (.bool true) ∧ Below w.heap.size w w' := by
  obtain ⟨c_a, x_a, n_a, l_a⟩ := v_a
  have X0_a := Lib.hid x_a; have N_a := Lib.hid n_a; clear x_a n_a
  obtain ⟨c_b, x_b, n_b, l_b⟩ := v_b
  have X0_b := Lib.hid x_b; have N_b := Lib.hid n_b; clear x_b n_b
  have S := Lib.hid (speaks_any w hT hw0)
  have T0 := Lib.hid hT; clear hT
  go_enter Tryd.func4, Tryd.ntmps4
  go_wp2_with fail
  refine S.out.mono ?_
  rintro e w1 ⟨rfl, hb⟩
  have B1 := Lib.hid hb
  clear hb S
  go_wp2_with fail
  refine (great_yes A xs.length c w1 h1).mono ?_
  rintro e w' ⟨rfl, rfl⟩
  go_wp2
  go_ret
  exact ⟨rfl, B1.out⟩

set_option maxHeartbeats 1000000 in
theorem bitsJoins_g2 (A B : Option Addr) (c d : Nat) (xs ys : List (BitVec 64)) (w : World) (hT : Tab w) (hw0 : 0 < w.heap.size) (v_a : VecArg w A c xs) (v_b : VecArg w B d ys) (h1 : xs.length ≤ 40) (h2 : 40 < ys.length) :
    Calls Tryd.prog 4 #[.slice A xs.length c, .slice B ys.length d] w fun e w' => e = .returned (.bool true) ∧ Below w.heap.size w w' := by
  obtain ⟨c_a, x_a, n_a, l_a⟩ := v_a
  have X0_a := Lib.hid x_a; have N_a := Lib.hid n_a; clear x_a n_a
  obtain ⟨c_b, x_b, n_b, l_b⟩ := v_b
  have X0_b := Lib.hid x_b; have N_b := Lib.hid n_b; clear x_b n_b
  have S := Lib.hid (speaks_any w hT hw0)
  have T0 := Lib.hid hT; clear hT
  go_enter Tryd.func4, Tryd.ntmps4
  go_wp2_with fail
  refine S.out.mono ?_
  rintro e w1 ⟨rfl, hb⟩
  have B1 := Lib.hid hb
  clear hb S
  go_wp2_with fail
  refine (great_no A xs.length c w1 h1).mono ?_
  rintro e w' ⟨rfl, rfl⟩
  go_wp2_with fail
  refine (great_yes B ys.length d w1 h2).mono ?_
  rintro e w' ⟨rfl, rfl⟩
  go_wp2
  go_ret
  exact ⟨rfl, B1.out⟩

set_option maxHeartbeats 2000000 in
theorem bitsJoins_main (A B : Option Addr) (c d : Nat) (xs ys : List (BitVec 64)) (w : World) (hT : Tab w) (hw0 : 0 < w.heap.size) (v_a : VecArg w A c xs) (v_b : VecArg w B d ys) (h1 : xs.length ≤ 40) (h2 : ys.length ≤ 40) :
    Calls Tryd.prog 4 #[.slice A xs.length c, .slice B ys.length d] w fun e w' => e = .returned (.bool true) ∧ Below w.heap.size w w' := by
  obtain ⟨c_a, x_a, n_a, l_a⟩ := v_a
  have X0_a := Lib.hid x_a; have N_a := Lib.hid n_a; clear x_a n_a
  obtain ⟨c_b, x_b, n_b, l_b⟩ := v_b
  have X0_b := Lib.hid x_b; have N_b := Lib.hid n_b; clear x_b n_b
  have S := Lib.hid (speaks_any w hT hw0)
  have T0 := Lib.hid hT; clear hT
  go_enter Tryd.func4, Tryd.ntmps4
  go_wp2_with fail
  refine S.out.mono ?_
  rintro e w1 ⟨rfl, hb⟩
  have B1 := Lib.hid hb
  clear hb S
  go_wp2_with fail
  refine (great_no A xs.length c w1 h1).mono ?_
  rintro e w' ⟨rfl, rfl⟩
  go_wp2_with fail
  refine (great_no B ys.length d w1 h2).mono ?_
  rintro e w' ⟨rfl, rfl⟩
  go_wp2_with fail
  refine (copy_p A c xs w1 (X0_a.out.below B1.out) N_a.out h1).mono ?_
  rintro e w2 ⟨x, A_x, c_x, rfl, k_x, l_x, hx, hf, hb, hp⟩
  have B2 := Lib.hid (B1.out.trans (hb.mono B1.out.size))
  clear B1 hb
  have X2_x := Lib.hid hx; have P_x := Lib.hid hp; clear hx hp hf
  go_wp2_with fail
  refine (copy_p B d ys w2 (X0_b.out.below B2.out) N_b.out h2).mono ?_
  rintro e w3 ⟨y, A_y, c_y, rfl, k_y, l_y, hx, hf, hb, hp⟩
  have B3 := Lib.hid (B2.out.trans (hb.mono B2.out.size))
  have X3_x := Lib.hid (X2_x.out.below hb); clear X2_x
  clear B2 hb
  have X3_y := Lib.hid hx; have P_y := Lib.hid hp; clear hx hp hf
  have BC := Lib.hid B3.out.size
  have C3 := Lib.hid (Below.refl w3.heap.size w3)
  have XC_x := Lib.hid X3_x.out; clear X3_x
  have XC_y := Lib.hid X3_y.out; clear X3_y
  go_wp2_with fail
  refine (and_p A_x A_y c_x c_y x y w3 (XC_x.out.below C3.out) (XC_y.out.below C3.out) (by omega) (by omega)).mono ?_
  rintro e w4 ⟨p, A_p, c_p, rfl, k_p, l_p, hx, hf, hb, hp⟩
  have S4_p := Lib.hid (spo_of hx hf C3.out.size)
  have B4 := Lib.hid (B3.out.trans (hb.mono B3.out.size))
  have C4 := Lib.hid (C3.out.trans (hb.mono C3.out.size))
  clear B3 hb
  have X4_p := Lib.hid hx; have P_p := Lib.hid hp; clear hx hp hf
  go_wp2_with fail
  refine (or_p A_x A_y c_x c_y x y w4 (XC_x.out.below C4.out) (XC_y.out.below C4.out) (by omega) (by omega)).mono ?_
  rintro e w5 ⟨q, A_q, c_q, rfl, k_q, l_q, hx, hf, hb, hp⟩
  have S5_q := Lib.hid (spo_of hx hf C4.out.size)
  have B5 := Lib.hid (B4.out.trans (hb.mono B4.out.size))
  have X5_p := Lib.hid (X4_p.out.below hb); clear X4_p
  have S5_p := Lib.hid (S4_p.out.below hb); clear S4_p
  have C5 := Lib.hid (C4.out.trans (hb.mono C4.out.size))
  clear B4 hb
  have X5_q := Lib.hid hx; have P_q := Lib.hid hp; clear hx hp hf
  go_wp2_with fail
  refine (minus_p A_x A_y c_x c_y x y w5 (XC_x.out.below C5.out) (XC_y.out.below C5.out) (by omega) (by omega)).mono ?_
  rintro e w6 ⟨r, A_r, c_r, rfl, k_r, l_r, hx, hf, hb, hp⟩
  have S6_r := Lib.hid (spo_of hx hf C5.out.size)
  have B6 := Lib.hid (B5.out.trans (hb.mono B5.out.size))
  have X6_p := Lib.hid (X5_p.out.below hb); clear X5_p
  have S6_p := Lib.hid (S5_p.out.below hb); clear S5_p
  have X6_q := Lib.hid (X5_q.out.below hb); clear X5_q
  have S6_q := Lib.hid (S5_q.out.below hb); clear S5_q
  have C6 := Lib.hid (C5.out.trans (hb.mono C5.out.size))
  clear B5 hb
  have X6_r := Lib.hid hx; have P_r := Lib.hid hp; clear hx hp hf
  go_wp2_with fail
  refine (join1_any A B c d xs ys w6 (X0_a.out.below B6.out) (X0_b.out.below B6.out) h1 h2).mono ?_
  rintro e w7 ⟨j1, A_j1, c_j1, rfl, k_j1, l_j1, hx, hf, hb, hp⟩
  have B7 := Lib.hid (B6.out.trans (hb.mono B6.out.size))
  have X7_p := Lib.hid (X6_p.out.below hb); clear X6_p
  have S7_p := Lib.hid (S6_p.out.below hb); clear S6_p
  have X7_q := Lib.hid (X6_q.out.below hb); clear X6_q
  have S7_q := Lib.hid (S6_q.out.below hb); clear S6_q
  have X7_r := Lib.hid (X6_r.out.below hb); clear X6_r
  have S7_r := Lib.hid (S6_r.out.below hb); clear S6_r
  have C7 := Lib.hid (C6.out.trans (hb.mono C6.out.size))
  clear B6 hb
  have X7_j1 := Lib.hid hx; have P_j1 := Lib.hid hp; clear hx hp hf
  go_wp2_with fail
  refine (same_p A_p A_j1 c_p c_j1 p j1 w7 X7_p.out X7_j1.out (by omega) (P_p.out.eq P_j1.out fun i => by simp only [P_x.out, P_y.out])).mono ?_
  rintro e w8 ⟨rfl, hb⟩
  have B8 := Lib.hid (B7.out.trans (hb.mono B7.out.size))
  have X8_p := Lib.hid (X7_p.out.below hb); clear X7_p
  have S8_p := Lib.hid (S7_p.out.below hb); clear S7_p
  have X8_q := Lib.hid (X7_q.out.below hb); clear X7_q
  have S8_q := Lib.hid (S7_q.out.below hb); clear S7_q
  have X8_r := Lib.hid (X7_r.out.below hb); clear X7_r
  have S8_r := Lib.hid (S7_r.out.below hb); clear S7_r
  have X8_j1 := Lib.hid (X7_j1.out.below hb); clear X7_j1
  have C8 := Lib.hid (C7.out.trans (hb.mono C7.out.size))
  clear B7 hb
  clear X8_j1
  go_wp2_with fail
  refine (join2_any A B c d xs ys w8 (X0_a.out.below B8.out) (X0_b.out.below B8.out) h1 h2).mono ?_
  rintro e w9 ⟨j2, A_j2, c_j2, rfl, k_j2, l_j2, hx, hf, hb, hp⟩
  have B9 := Lib.hid (B8.out.trans (hb.mono B8.out.size))
  have X9_p := Lib.hid (X8_p.out.below hb); clear X8_p
  have S9_p := Lib.hid (S8_p.out.below hb); clear S8_p
  have X9_q := Lib.hid (X8_q.out.below hb); clear X8_q
  have S9_q := Lib.hid (S8_q.out.below hb); clear S8_q
  have X9_r := Lib.hid (X8_r.out.below hb); clear X8_r
  have S9_r := Lib.hid (S8_r.out.below hb); clear S8_r
  have C9 := Lib.hid (C8.out.trans (hb.mono C8.out.size))
  clear B8 hb
  have X9_j2 := Lib.hid hx; have P_j2 := Lib.hid hp; clear hx hp hf
  go_wp2_with fail
  refine (same_p A_q A_j2 c_q c_j2 q j2 w9 X9_q.out X9_j2.out (by omega) (P_q.out.eq P_j2.out fun i => by simp only [P_x.out, P_y.out])).mono ?_
  rintro e w10 ⟨rfl, hb⟩
  have B10 := Lib.hid (B9.out.trans (hb.mono B9.out.size))
  have X10_p := Lib.hid (X9_p.out.below hb); clear X9_p
  have S10_p := Lib.hid (S9_p.out.below hb); clear S9_p
  have X10_q := Lib.hid (X9_q.out.below hb); clear X9_q
  have S10_q := Lib.hid (S9_q.out.below hb); clear S9_q
  have X10_r := Lib.hid (X9_r.out.below hb); clear X9_r
  have S10_r := Lib.hid (S9_r.out.below hb); clear S9_r
  have X10_j2 := Lib.hid (X9_j2.out.below hb); clear X9_j2
  have C10 := Lib.hid (C9.out.trans (hb.mono C9.out.size))
  clear B9 hb
  clear X10_j2
  go_wp2_with fail
  refine (join3_any A B c d xs ys w10 (X0_a.out.below B10.out) (X0_b.out.below B10.out) h1 h2).mono ?_
  rintro e w11 ⟨j3, A_j3, c_j3, rfl, k_j3, l_j3, hx, hf, hb, hp⟩
  have B11 := Lib.hid (B10.out.trans (hb.mono B10.out.size))
  have X11_p := Lib.hid (X10_p.out.below hb); clear X10_p
  have S11_p := Lib.hid (S10_p.out.below hb); clear S10_p
  have X11_q := Lib.hid (X10_q.out.below hb); clear X10_q
  have S11_q := Lib.hid (S10_q.out.below hb); clear S10_q
  have X11_r := Lib.hid (X10_r.out.below hb); clear X10_r
  have S11_r := Lib.hid (S10_r.out.below hb); clear S10_r
  have C11 := Lib.hid (C10.out.trans (hb.mono C10.out.size))
  clear B10 hb
  have X11_j3 := Lib.hid hx; have P_j3 := Lib.hid hp; clear hx hp hf
  go_wp2_with fail
  refine (same_p A_r A_j3 c_r c_j3 r j3 w11 X11_r.out X11_j3.out (by omega) (P_r.out.eq P_j3.out fun i => by simp only [P_x.out, P_y.out])).mono ?_
  rintro e w12 ⟨rfl, hb⟩
  have B12 := Lib.hid (B11.out.trans (hb.mono B11.out.size))
  have X12_p := Lib.hid (X11_p.out.below hb); clear X11_p
  have S12_p := Lib.hid (S11_p.out.below hb); clear S11_p
  have X12_q := Lib.hid (X11_q.out.below hb); clear X11_q
  have S12_q := Lib.hid (S11_q.out.below hb); clear S11_q
  have X12_r := Lib.hid (X11_r.out.below hb); clear X11_r
  have S12_r := Lib.hid (S11_r.out.below hb); clear S11_r
  have X12_j3 := Lib.hid (X11_j3.out.below hb); clear X11_j3
  have C12 := Lib.hid (C11.out.trans (hb.mono C11.out.size))
  clear B11 hb
  clear X12_j3
  go_wp2_with fail
  refine (spoil_k A_p c_p p.length w3.heap.size w12 S12_p.out (by omega)).mono ?_
  rintro e w13 ⟨rfl, hb, hk⟩
  have B13 := Lib.hid (B12.out.trans (hb.mono BC.out)); clear B12
  have C13 := Lib.hid (C12.out.trans hb)
  clear X12_p S12_p
  clear X12_q
  have S13_q := Lib.hid (S12_q.out.kp hk); clear S12_q
  have X13_q := Lib.hid True.intro
  clear X12_r
  have S13_r := Lib.hid (S12_r.out.kp hk); clear S12_r
  have X13_r := Lib.hid True.intro
  clear hb hk
  go_wp2_with fail
  refine (spoil_k A_q c_q q.length w3.heap.size w13 S13_q.out (by omega)).mono ?_
  rintro e w14 ⟨rfl, hb, hk⟩
  have B14 := Lib.hid (B13.out.trans (hb.mono BC.out)); clear B13
  have C14 := Lib.hid (C13.out.trans hb)
  clear X13_q S13_q
  clear X13_r
  have S14_r := Lib.hid (S13_r.out.kp hk); clear S13_r
  have X14_r := Lib.hid True.intro
  clear hb hk
  go_wp2_with fail
  refine (spoil_k A_r c_r r.length w3.heap.size w14 S14_r.out (by omega)).mono ?_
  rintro e w15 ⟨rfl, hb, hk⟩
  have B15 := Lib.hid (B14.out.trans (hb.mono BC.out)); clear B14
  have C15 := Lib.hid (C14.out.trans hb)
  clear X14_r S14_r
  clear hb hk
  go_wp2_with fail
  refine (same_p A_x A c_x c x xs w15 (XC_x.out.below C15.out) (X0_a.out.below B15.out) (by omega) (P_x.out)).mono ?_
  rintro e w16 ⟨rfl, hb⟩
  have B16 := Lib.hid (B15.out.trans (hb.mono B15.out.size))
  have C16 := Lib.hid (C15.out.trans (hb.mono C15.out.size))
  clear B15 hb
  go_wp2_with fail
  refine (same_p A_y B c_y d y ys w16 (XC_y.out.below C16.out) (X0_b.out.below B16.out) (by omega) (P_y.out)).mono ?_
  rintro e w17 ⟨rfl, hb⟩
  have B17 := Lib.hid (B16.out.trans (hb.mono B16.out.size))
  have C17 := Lib.hid (C16.out.trans (hb.mono C16.out.size))
  clear B16 hb
  go_wp2
  go_ret
  exact ⟨rfl, B17.out⟩

end Go.Proofs.YtngblecgikhgdaaDoor
