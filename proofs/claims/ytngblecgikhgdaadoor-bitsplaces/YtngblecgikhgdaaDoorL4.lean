/- BitsPlaces: its walk out of the contracts. -/
import Derived.Test.YtngblecgikhgdaaDoorN3
namespace Go.Proofs.YtngblecgikhgdaaDoor
open Go.RowKit

set_option maxHeartbeats 1000000 in
theorem bitsPlaces_g1 (A : Option Addr) (c : Nat) (i : Int) (xs : List (BitVec 64)) (w : World) (hT : Tab w) (hw0 : 0 < w.heap.size) (v_a : VecArg w A c xs) (h1 : 40 < xs.length) :
    Calls Tryd.prog 5 #[.slice A xs.length c, .int .i64 i] w fun e w' => e = .returned (.bool true) ∧ Below w.heap.size w w' := by
  obtain ⟨c_a, x_a, n_a, l_a⟩ := v_a
  have X0_a := Lib.hid x_a; have N_a := Lib.hid n_a; clear x_a n_a
  have S := Lib.hid (speaks_any w hT hw0)
  have T0 := Lib.hid hT; clear hT
  go_enter Tryd.func5, Tryd.ntmps5
  go_wp2_with fail
  refine S.out.mono ?_
  rintro e w1 ⟨rfl, hb⟩
  have B1 := Lib.hid hb
  clear hb S
  go_wp2_with fail
  refine (great_yes A xs.length c w1 h1).mono ?_
  rintro e w' ⟨rfl, rfl⟩
  go_wp2
  go_ret
  exact ⟨rfl, B1.out⟩

set_option maxHeartbeats 2000000 in
theorem bitsPlaces_neg (A : Option Addr) (c : Nat) (i : Int) (xs : List (BitVec 64)) (w : World) (hT : Tab w) (hw0 : 0 < w.heap.size) (v_a : VecArg w A c xs) (h1 : xs.length ≤ 40) (h2 : i < 0) (hi : i ≤ 9223372036854775807) :
    Calls Tryd.prog 5 #[.slice A xs.length c, .int .i64 i] w fun e w' => e = .returned (.bool true) ∧ Below w.heap.size w w' := by
  obtain ⟨c_a, x_a, n_a, l_a⟩ := v_a
  have X0_a := Lib.hid x_a; have N_a := Lib.hid n_a; clear x_a n_a
  have S := Lib.hid (speaks_any w hT hw0)
  have T0 := Lib.hid hT; clear hT
  have d0 : decide (i < 0) = true := by simp; omega
  go_enter Tryd.func5, Tryd.ntmps5
  go_wp2_with fail
  refine S.out.mono ?_
  rintro e w1 ⟨rfl, hb⟩
  have B1 := Lib.hid hb
  clear hb S
  go_wp2_with fail
  refine (great_no A xs.length c w1 h1).mono ?_
  rintro e w' ⟨rfl, rfl⟩
  go_wp2_with fail
  refine (copy_p A c xs w1 (X0_a.out.below B1.out) N_a.out h1).mono ?_
  rintro e w2 ⟨x, A_x, c_x, rfl, k_x, l_x, hx, hf, hb, hp⟩
  have B2 := Lib.hid (B1.out.trans (hb.mono B1.out.size))
  clear B1 hb
  have X2_x := Lib.hid hx; have P_x := Lib.hid hp; clear hx hp hf
  have BC := Lib.hid B2.out.size
  have lx2 : x.length ≤ 40 := by rw [P_x.out]; exact h1
  have C2 := Lib.hid (Below.refl w2.heap.size w2)
  have XC_x := Lib.hid X2_x.out; clear X2_x
  go_wp2_with fail
  refine (set_no_b A_x c_x x i w2 (.inl h2)).mono ?_
  rintro e w3 ⟨rfl, hb⟩
  have B3 := Lib.hid (B2.out.trans (hb.mono B2.out.size))
  have C3 := Lib.hid (C2.out.trans (hb.mono C2.out.size))
  clear B2 hb
  go_wp2_with fail
  refine (clear_p A_x c_x x i w3 (XC_x.out.below C3.out) (by omega) (by omega) hi).mono ?_
  rintro e w4 ⟨cl, A_cl, c_cl, rfl, k_cl, l_cl, hx, hf, hb, hp⟩
  have S4_cl := Lib.hid (spo_of hx hf C3.out.size)
  have B4 := Lib.hid (B3.out.trans (hb.mono B3.out.size))
  have C4 := Lib.hid (C3.out.trans (hb.mono C3.out.size))
  clear B3 hb
  have X4_cl := Lib.hid hx; have P_cl := Lib.hid hp; clear hx hp hf
  go_wp2_with fail
  refine (trim_p A_x c_x x w4 (XC_x.out.below C4.out) (by omega) (by omega)).mono ?_
  rintro e w5 ⟨tr, A_tr, c_tr, rfl, k_tr, l_tr, hx, hf, hb, hp⟩
  have S5_tr := Lib.hid (spo_of hx hf C4.out.size)
  have B5 := Lib.hid (B4.out.trans (hb.mono B4.out.size))
  have X5_cl := Lib.hid (X4_cl.out.below hb); clear X4_cl
  have S5_cl := Lib.hid (S4_cl.out.below hb); clear S4_cl
  have C5 := Lib.hid (C4.out.trans (hb.mono C4.out.size))
  clear B4 hb
  have X5_tr := Lib.hid hx; have P_tr := Lib.hid hp; clear hx hp hf
  obtain ⟨b, hb0⟩ : ∃ b, b = (decide (0 ≤ i) && bit xs i.toNat) := ⟨_, rfl⟩
  have HB0 := Lib.hid hb0; clear hb0
  have nb : (b != b) = false := by simp
  go_wp2_with fail
  refine (get_v A_x c_x x i b w5 (XC_x.out.below C5.out) (by omega) hi (by rw [P_x.out]; exact HB0.out.symm)).mono ?_
  rintro e w' ⟨rfl, rfl⟩
  go_wp2_with fail
  refine (rget_v A c xs i b w5 (X0_a.out.below B5.out) (by omega) hi HB0.out.symm).mono ?_
  rintro e w' ⟨rfl, rfl⟩
  go_wp2_with fail
  refine (rclear_any A c i xs w5 (X0_a.out.below B5.out) h1).mono ?_
  rintro e w6 ⟨k1, A_k1, c_k1, rfl, k_k1, l_k1, hx, hf, hb, hp⟩
  have B6 := Lib.hid (B5.out.trans (hb.mono B5.out.size))
  have X6_cl := Lib.hid (X5_cl.out.below hb); clear X5_cl
  have S6_cl := Lib.hid (S5_cl.out.below hb); clear S5_cl
  have X6_tr := Lib.hid (X5_tr.out.below hb); clear X5_tr
  have S6_tr := Lib.hid (S5_tr.out.below hb); clear S5_tr
  have C6 := Lib.hid (C5.out.trans (hb.mono C5.out.size))
  clear B5 hb
  have X6_k1 := Lib.hid hx; have P_k1 := Lib.hid hp; clear hx hp hf
  go_wp2_with fail
  refine (same_p A_cl A_k1 c_cl c_k1 cl k1 w6 X6_cl.out X6_k1.out (by omega) (P_cl.out.eq P_k1.out fun j => by simp only [P_x.out])).mono ?_
  rintro e w7 ⟨rfl, hb⟩
  have B7 := Lib.hid (B6.out.trans (hb.mono B6.out.size))
  have X7_cl := Lib.hid (X6_cl.out.below hb); clear X6_cl
  have S7_cl := Lib.hid (S6_cl.out.below hb); clear S6_cl
  have X7_tr := Lib.hid (X6_tr.out.below hb); clear X6_tr
  have S7_tr := Lib.hid (S6_tr.out.below hb); clear S6_tr
  have X7_k1 := Lib.hid (X6_k1.out.below hb); clear X6_k1
  have C7 := Lib.hid (C6.out.trans (hb.mono C6.out.size))
  clear B6 hb
  go_wp2_with fail
  refine (rtrim_any A c xs w7 (X0_a.out.below B7.out) h1).mono ?_
  rintro e w8 ⟨k2, A_k2, c_k2, rfl, k_k2, l_k2, hx, hf, hb, hp⟩
  have B8 := Lib.hid (B7.out.trans (hb.mono B7.out.size))
  have X8_cl := Lib.hid (X7_cl.out.below hb); clear X7_cl
  have S8_cl := Lib.hid (S7_cl.out.below hb); clear S7_cl
  have X8_tr := Lib.hid (X7_tr.out.below hb); clear X7_tr
  have S8_tr := Lib.hid (S7_tr.out.below hb); clear S7_tr
  have X8_k1 := Lib.hid (X7_k1.out.below hb); clear X7_k1
  have C8 := Lib.hid (C7.out.trans (hb.mono C7.out.size))
  clear B7 hb
  have X8_k2 := Lib.hid hx; have P_k2 := Lib.hid hp; clear hx hp hf
  go_wp2_with fail
  refine (same_p A_tr A_k2 c_tr c_k2 tr k2 w8 X8_tr.out X8_k2.out (by omega) (P_tr.out.eq P_k2.out fun j => by simp only [P_x.out])).mono ?_
  rintro e w9 ⟨rfl, hb⟩
  have B9 := Lib.hid (B8.out.trans (hb.mono B8.out.size))
  have X9_cl := Lib.hid (X8_cl.out.below hb); clear X8_cl
  have S9_cl := Lib.hid (S8_cl.out.below hb); clear S8_cl
  have X9_tr := Lib.hid (X8_tr.out.below hb); clear X8_tr
  have S9_tr := Lib.hid (S8_tr.out.below hb); clear S8_tr
  have X9_k1 := Lib.hid (X8_k1.out.below hb); clear X8_k1
  have X9_k2 := Lib.hid (X8_k2.out.below hb); clear X8_k2
  have C9 := Lib.hid (C8.out.trans (hb.mono C8.out.size))
  clear B8 hb
  clear X9_k1
  clear X9_k2
  go_wp2
  go_ret
  exact ⟨rfl, B9.out⟩

set_option maxHeartbeats 2000000 in
theorem bitsPlaces_big (A : Option Addr) (c : Nat) (i : Int) (xs : List (BitVec 64)) (w : World) (hT : Tab w) (hw0 : 0 < w.heap.size) (v_a : VecArg w A c xs) (h1 : xs.length ≤ 40) (h2 : 65536 ≤ i) (hi : i ≤ 9223372036854775807) :
    Calls Tryd.prog 5 #[.slice A xs.length c, .int .i64 i] w fun e w' => e = .returned (.bool true) ∧ Below w.heap.size w w' := by
  obtain ⟨c_a, x_a, n_a, l_a⟩ := v_a
  have X0_a := Lib.hid x_a; have N_a := Lib.hid n_a; clear x_a n_a
  have S := Lib.hid (speaks_any w hT hw0)
  have T0 := Lib.hid hT; clear hT
  have d0 : decide (i < 0) = false := by simp; omega
  have d1 : decide (65535 < i) = true := by simp; omega
  go_enter Tryd.func5, Tryd.ntmps5
  go_wp2_with fail
  refine S.out.mono ?_
  rintro e w1 ⟨rfl, hb⟩
  have B1 := Lib.hid hb
  clear hb S
  go_wp2_with fail
  refine (great_no A xs.length c w1 h1).mono ?_
  rintro e w' ⟨rfl, rfl⟩
  go_wp2_with fail
  refine (copy_p A c xs w1 (X0_a.out.below B1.out) N_a.out h1).mono ?_
  rintro e w2 ⟨x, A_x, c_x, rfl, k_x, l_x, hx, hf, hb, hp⟩
  have B2 := Lib.hid (B1.out.trans (hb.mono B1.out.size))
  clear B1 hb
  have X2_x := Lib.hid hx; have P_x := Lib.hid hp; clear hx hp hf
  have BC := Lib.hid B2.out.size
  have lx2 : x.length ≤ 40 := by rw [P_x.out]; exact h1
  have C2 := Lib.hid (Below.refl w2.heap.size w2)
  have XC_x := Lib.hid X2_x.out; clear X2_x
  go_wp2_with fail
  refine (set_no_b A_x c_x x i w2 (.inr h2)).mono ?_
  rintro e w3 ⟨rfl, hb⟩
  have B3 := Lib.hid (B2.out.trans (hb.mono B2.out.size))
  have C3 := Lib.hid (C2.out.trans (hb.mono C2.out.size))
  clear B2 hb
  go_wp2_with fail
  refine (clear_p A_x c_x x i w3 (XC_x.out.below C3.out) (by omega) (by omega) hi).mono ?_
  rintro e w4 ⟨cl, A_cl, c_cl, rfl, k_cl, l_cl, hx, hf, hb, hp⟩
  have S4_cl := Lib.hid (spo_of hx hf C3.out.size)
  have B4 := Lib.hid (B3.out.trans (hb.mono B3.out.size))
  have C4 := Lib.hid (C3.out.trans (hb.mono C3.out.size))
  clear B3 hb
  have X4_cl := Lib.hid hx; have P_cl := Lib.hid hp; clear hx hp hf
  go_wp2_with fail
  refine (trim_p A_x c_x x w4 (XC_x.out.below C4.out) (by omega) (by omega)).mono ?_
  rintro e w5 ⟨tr, A_tr, c_tr, rfl, k_tr, l_tr, hx, hf, hb, hp⟩
  have S5_tr := Lib.hid (spo_of hx hf C4.out.size)
  have B5 := Lib.hid (B4.out.trans (hb.mono B4.out.size))
  have X5_cl := Lib.hid (X4_cl.out.below hb); clear X4_cl
  have S5_cl := Lib.hid (S4_cl.out.below hb); clear S4_cl
  have C5 := Lib.hid (C4.out.trans (hb.mono C4.out.size))
  clear B4 hb
  have X5_tr := Lib.hid hx; have P_tr := Lib.hid hp; clear hx hp hf
  obtain ⟨b, hb0⟩ : ∃ b, b = (decide (0 ≤ i) && bit xs i.toNat) := ⟨_, rfl⟩
  have HB0 := Lib.hid hb0; clear hb0
  have nb : (b != b) = false := by simp
  go_wp2_with fail
  refine (get_v A_x c_x x i b w5 (XC_x.out.below C5.out) (by omega) hi (by rw [P_x.out]; exact HB0.out.symm)).mono ?_
  rintro e w' ⟨rfl, rfl⟩
  go_wp2_with fail
  refine (rget_v A c xs i b w5 (X0_a.out.below B5.out) (by omega) hi HB0.out.symm).mono ?_
  rintro e w' ⟨rfl, rfl⟩
  go_wp2_with fail
  refine (rclear_any A c i xs w5 (X0_a.out.below B5.out) h1).mono ?_
  rintro e w6 ⟨k1, A_k1, c_k1, rfl, k_k1, l_k1, hx, hf, hb, hp⟩
  have B6 := Lib.hid (B5.out.trans (hb.mono B5.out.size))
  have X6_cl := Lib.hid (X5_cl.out.below hb); clear X5_cl
  have S6_cl := Lib.hid (S5_cl.out.below hb); clear S5_cl
  have X6_tr := Lib.hid (X5_tr.out.below hb); clear X5_tr
  have S6_tr := Lib.hid (S5_tr.out.below hb); clear S5_tr
  have C6 := Lib.hid (C5.out.trans (hb.mono C5.out.size))
  clear B5 hb
  have X6_k1 := Lib.hid hx; have P_k1 := Lib.hid hp; clear hx hp hf
  go_wp2_with fail
  refine (same_p A_cl A_k1 c_cl c_k1 cl k1 w6 X6_cl.out X6_k1.out (by omega) (P_cl.out.eq P_k1.out fun j => by simp only [P_x.out])).mono ?_
  rintro e w7 ⟨rfl, hb⟩
  have B7 := Lib.hid (B6.out.trans (hb.mono B6.out.size))
  have X7_cl := Lib.hid (X6_cl.out.below hb); clear X6_cl
  have S7_cl := Lib.hid (S6_cl.out.below hb); clear S6_cl
  have X7_tr := Lib.hid (X6_tr.out.below hb); clear X6_tr
  have S7_tr := Lib.hid (S6_tr.out.below hb); clear S6_tr
  have X7_k1 := Lib.hid (X6_k1.out.below hb); clear X6_k1
  have C7 := Lib.hid (C6.out.trans (hb.mono C6.out.size))
  clear B6 hb
  go_wp2_with fail
  refine (rtrim_any A c xs w7 (X0_a.out.below B7.out) h1).mono ?_
  rintro e w8 ⟨k2, A_k2, c_k2, rfl, k_k2, l_k2, hx, hf, hb, hp⟩
  have B8 := Lib.hid (B7.out.trans (hb.mono B7.out.size))
  have X8_cl := Lib.hid (X7_cl.out.below hb); clear X7_cl
  have S8_cl := Lib.hid (S7_cl.out.below hb); clear S7_cl
  have X8_tr := Lib.hid (X7_tr.out.below hb); clear X7_tr
  have S8_tr := Lib.hid (S7_tr.out.below hb); clear S7_tr
  have X8_k1 := Lib.hid (X7_k1.out.below hb); clear X7_k1
  have C8 := Lib.hid (C7.out.trans (hb.mono C7.out.size))
  clear B7 hb
  have X8_k2 := Lib.hid hx; have P_k2 := Lib.hid hp; clear hx hp hf
  go_wp2_with fail
  refine (same_p A_tr A_k2 c_tr c_k2 tr k2 w8 X8_tr.out X8_k2.out (by omega) (P_tr.out.eq P_k2.out fun j => by simp only [P_x.out])).mono ?_
  rintro e w9 ⟨rfl, hb⟩
  have B9 := Lib.hid (B8.out.trans (hb.mono B8.out.size))
  have X9_cl := Lib.hid (X8_cl.out.below hb); clear X8_cl
  have S9_cl := Lib.hid (S8_cl.out.below hb); clear S8_cl
  have X9_tr := Lib.hid (X8_tr.out.below hb); clear X8_tr
  have S9_tr := Lib.hid (S8_tr.out.below hb); clear S8_tr
  have X9_k1 := Lib.hid (X8_k1.out.below hb); clear X8_k1
  have X9_k2 := Lib.hid (X8_k2.out.below hb); clear X8_k2
  have C9 := Lib.hid (C8.out.trans (hb.mono C8.out.size))
  clear B8 hb
  clear X9_k1
  clear X9_k2
  go_wp2
  go_ret
  exact ⟨rfl, B9.out⟩

set_option maxHeartbeats 2000000 in
theorem bitsPlaces_main (A : Option Addr) (c : Nat) (i : Int) (xs : List (BitVec 64)) (w : World) (hT : Tab w) (hw0 : 0 < w.heap.size) (v_a : VecArg w A c xs) (h1 : xs.length ≤ 40) (h2 : 0 ≤ i) (h3 : i < 65536) (hi : i ≤ 9223372036854775807) :
    Calls Tryd.prog 5 #[.slice A xs.length c, .int .i64 i] w fun e w' => e = .returned (.bool true) ∧ Below w.heap.size w w' := by
  obtain ⟨c_a, x_a, n_a, l_a⟩ := v_a
  have X0_a := Lib.hid x_a; have N_a := Lib.hid n_a; clear x_a n_a
  have S := Lib.hid (speaks_any w hT hw0)
  have T0 := Lib.hid hT; clear hT
  have d0 : decide (i < 0) = false := by simp; omega
  have d1 : decide (65535 < i) = false := by simp; omega
  go_enter Tryd.func5, Tryd.ntmps5
  go_wp2_with fail
  refine S.out.mono ?_
  rintro e w1 ⟨rfl, hb⟩
  have B1 := Lib.hid hb
  clear hb S
  go_wp2_with fail
  refine (great_no A xs.length c w1 h1).mono ?_
  rintro e w' ⟨rfl, rfl⟩
  go_wp2_with fail
  refine (copy_p A c xs w1 (X0_a.out.below B1.out) N_a.out h1).mono ?_
  rintro e w2 ⟨x, A_x, c_x, rfl, k_x, l_x, hx, hf, hb, hp⟩
  have B2 := Lib.hid (B1.out.trans (hb.mono B1.out.size))
  clear B1 hb
  have X2_x := Lib.hid hx; have P_x := Lib.hid hp; clear hx hp hf
  have BC := Lib.hid B2.out.size
  have lx2 : x.length ≤ 40 := by rw [P_x.out]; exact h1
  have C2 := Lib.hid (Below.refl w2.heap.size w2)
  have XC_x := Lib.hid X2_x.out; clear X2_x
  go_wp2_with fail
  refine (set_p A_x c_x x i w2 (XC_x.out.below C2.out) (by omega) (by omega) h2 h3).mono ?_
  rintro e w3 ⟨s, A_s, c_s, rfl, k_s, l_s, hx, hf, hb, hp⟩
  have S3_s := Lib.hid (spo_of hx hf C2.out.size)
  have B3 := Lib.hid (B2.out.trans (hb.mono B2.out.size))
  have C3 := Lib.hid (C2.out.trans (hb.mono C2.out.size))
  clear B2 hb
  have X3_s := Lib.hid hx; have P_s := Lib.hid hp; clear hx hp hf
  go_wp2_with fail
  refine (clear_p A_x c_x x i w3 (XC_x.out.below C3.out) (by omega) (by omega) hi).mono ?_
  rintro e w4 ⟨cl, A_cl, c_cl, rfl, k_cl, l_cl, hx, hf, hb, hp⟩
  have S4_cl := Lib.hid (spo_of hx hf C3.out.size)
  have B4 := Lib.hid (B3.out.trans (hb.mono B3.out.size))
  have X4_s := Lib.hid (X3_s.out.below hb); clear X3_s
  have S4_s := Lib.hid (S3_s.out.below hb); clear S3_s
  have C4 := Lib.hid (C3.out.trans (hb.mono C3.out.size))
  clear B3 hb
  have X4_cl := Lib.hid hx; have P_cl := Lib.hid hp; clear hx hp hf
  go_wp2_with fail
  refine (trim_p A_x c_x x w4 (XC_x.out.below C4.out) (by omega) (by omega)).mono ?_
  rintro e w5 ⟨tr, A_tr, c_tr, rfl, k_tr, l_tr, hx, hf, hb, hp⟩
  have S5_tr := Lib.hid (spo_of hx hf C4.out.size)
  have B5 := Lib.hid (B4.out.trans (hb.mono B4.out.size))
  have X5_s := Lib.hid (X4_s.out.below hb); clear X4_s
  have S5_s := Lib.hid (S4_s.out.below hb); clear S4_s
  have X5_cl := Lib.hid (X4_cl.out.below hb); clear X4_cl
  have S5_cl := Lib.hid (S4_cl.out.below hb); clear S4_cl
  have C5 := Lib.hid (C4.out.trans (hb.mono C4.out.size))
  clear B4 hb
  have X5_tr := Lib.hid hx; have P_tr := Lib.hid hp; clear hx hp hf
  obtain ⟨b, hb0⟩ : ∃ b, b = (decide (0 ≤ i) && bit xs i.toNat) := ⟨_, rfl⟩
  have HB0 := Lib.hid hb0; clear hb0
  have nb : (b != b) = false := by simp
  go_wp2_with fail
  refine (get_v A_x c_x x i b w5 (XC_x.out.below C5.out) (by omega) hi (by rw [P_x.out]; exact HB0.out.symm)).mono ?_
  rintro e w' ⟨rfl, rfl⟩
  go_wp2_with fail
  refine (rget_v A c xs i b w5 (X0_a.out.below B5.out) (by omega) hi HB0.out.symm).mono ?_
  rintro e w' ⟨rfl, rfl⟩
  go_wp2_with fail
  refine (rclear_any A c i xs w5 (X0_a.out.below B5.out) h1).mono ?_
  rintro e w6 ⟨k1, A_k1, c_k1, rfl, k_k1, l_k1, hx, hf, hb, hp⟩
  have B6 := Lib.hid (B5.out.trans (hb.mono B5.out.size))
  have X6_s := Lib.hid (X5_s.out.below hb); clear X5_s
  have S6_s := Lib.hid (S5_s.out.below hb); clear S5_s
  have X6_cl := Lib.hid (X5_cl.out.below hb); clear X5_cl
  have S6_cl := Lib.hid (S5_cl.out.below hb); clear S5_cl
  have X6_tr := Lib.hid (X5_tr.out.below hb); clear X5_tr
  have S6_tr := Lib.hid (S5_tr.out.below hb); clear S5_tr
  have C6 := Lib.hid (C5.out.trans (hb.mono C5.out.size))
  clear B5 hb
  have X6_k1 := Lib.hid hx; have P_k1 := Lib.hid hp; clear hx hp hf
  go_wp2_with fail
  refine (same_p A_cl A_k1 c_cl c_k1 cl k1 w6 X6_cl.out X6_k1.out (by omega) (P_cl.out.eq P_k1.out fun j => by simp only [P_x.out])).mono ?_
  rintro e w7 ⟨rfl, hb⟩
  have B7 := Lib.hid (B6.out.trans (hb.mono B6.out.size))
  have X7_s := Lib.hid (X6_s.out.below hb); clear X6_s
  have S7_s := Lib.hid (S6_s.out.below hb); clear S6_s
  have X7_cl := Lib.hid (X6_cl.out.below hb); clear X6_cl
  have S7_cl := Lib.hid (S6_cl.out.below hb); clear S6_cl
  have X7_tr := Lib.hid (X6_tr.out.below hb); clear X6_tr
  have S7_tr := Lib.hid (S6_tr.out.below hb); clear S6_tr
  have X7_k1 := Lib.hid (X6_k1.out.below hb); clear X6_k1
  have C7 := Lib.hid (C6.out.trans (hb.mono C6.out.size))
  clear B6 hb
  go_wp2_with fail
  refine (rtrim_any A c xs w7 (X0_a.out.below B7.out) h1).mono ?_
  rintro e w8 ⟨k2, A_k2, c_k2, rfl, k_k2, l_k2, hx, hf, hb, hp⟩
  have B8 := Lib.hid (B7.out.trans (hb.mono B7.out.size))
  have X8_s := Lib.hid (X7_s.out.below hb); clear X7_s
  have S8_s := Lib.hid (S7_s.out.below hb); clear S7_s
  have X8_cl := Lib.hid (X7_cl.out.below hb); clear X7_cl
  have S8_cl := Lib.hid (S7_cl.out.below hb); clear S7_cl
  have X8_tr := Lib.hid (X7_tr.out.below hb); clear X7_tr
  have S8_tr := Lib.hid (S7_tr.out.below hb); clear S7_tr
  have X8_k1 := Lib.hid (X7_k1.out.below hb); clear X7_k1
  have C8 := Lib.hid (C7.out.trans (hb.mono C7.out.size))
  clear B7 hb
  have X8_k2 := Lib.hid hx; have P_k2 := Lib.hid hp; clear hx hp hf
  go_wp2_with fail
  refine (same_p A_tr A_k2 c_tr c_k2 tr k2 w8 X8_tr.out X8_k2.out (by omega) (P_tr.out.eq P_k2.out fun j => by simp only [P_x.out])).mono ?_
  rintro e w9 ⟨rfl, hb⟩
  have B9 := Lib.hid (B8.out.trans (hb.mono B8.out.size))
  have X9_s := Lib.hid (X8_s.out.below hb); clear X8_s
  have S9_s := Lib.hid (S8_s.out.below hb); clear S8_s
  have X9_cl := Lib.hid (X8_cl.out.below hb); clear X8_cl
  have S9_cl := Lib.hid (S8_cl.out.below hb); clear S8_cl
  have X9_tr := Lib.hid (X8_tr.out.below hb); clear X8_tr
  have S9_tr := Lib.hid (S8_tr.out.below hb); clear S8_tr
  have X9_k1 := Lib.hid (X8_k1.out.below hb); clear X8_k1
  have X9_k2 := Lib.hid (X8_k2.out.below hb); clear X8_k2
  have C9 := Lib.hid (C8.out.trans (hb.mono C8.out.size))
  clear B8 hb
  clear X9_k1
  clear X9_k2
  go_wp2_with fail
  refine (rset_any A c i xs w9 (X0_a.out.below B9.out) (by omega) h2 h3).mono ?_
  rintro e w10 ⟨k3, A_k3, c_k3, rfl, k_k3, l_k3, hx, hf, hb, hp⟩
  have B10 := Lib.hid (B9.out.trans (hb.mono B9.out.size))
  have X10_s := Lib.hid (X9_s.out.below hb); clear X9_s
  have S10_s := Lib.hid (S9_s.out.below hb); clear S9_s
  have X10_cl := Lib.hid (X9_cl.out.below hb); clear X9_cl
  have S10_cl := Lib.hid (S9_cl.out.below hb); clear S9_cl
  have X10_tr := Lib.hid (X9_tr.out.below hb); clear X9_tr
  have S10_tr := Lib.hid (S9_tr.out.below hb); clear S9_tr
  have C10 := Lib.hid (C9.out.trans (hb.mono C9.out.size))
  clear B9 hb
  have X10_k3 := Lib.hid hx; have P_k3 := Lib.hid hp; clear hx hp hf
  go_wp2_with fail
  refine (same_p A_s A_k3 c_s c_k3 s k3 w10 X10_s.out X10_k3.out (by omega) (P_s.out.eq P_k3.out fun j => by simp only [P_x.out])).mono ?_
  rintro e w11 ⟨rfl, hb⟩
  have B11 := Lib.hid (B10.out.trans (hb.mono B10.out.size))
  have X11_s := Lib.hid (X10_s.out.below hb); clear X10_s
  have S11_s := Lib.hid (S10_s.out.below hb); clear S10_s
  have X11_cl := Lib.hid (X10_cl.out.below hb); clear X10_cl
  have S11_cl := Lib.hid (S10_cl.out.below hb); clear S10_cl
  have X11_tr := Lib.hid (X10_tr.out.below hb); clear X10_tr
  have S11_tr := Lib.hid (S10_tr.out.below hb); clear S10_tr
  have X11_k3 := Lib.hid (X10_k3.out.below hb); clear X10_k3
  have C11 := Lib.hid (C10.out.trans (hb.mono C10.out.size))
  clear B10 hb
  clear X11_k3
  go_wp2_with fail
  refine (spoil_k A_s c_s s.length w2.heap.size w11 S11_s.out (by omega)).mono ?_
  rintro e w12 ⟨rfl, hb, hk⟩
  have B12 := Lib.hid (B11.out.trans (hb.mono BC.out)); clear B11
  have C12 := Lib.hid (C11.out.trans hb)
  clear X11_s S11_s
  clear X11_cl
  have S12_cl := Lib.hid (S11_cl.out.kp hk); clear S11_cl
  have X12_cl := Lib.hid True.intro
  clear X11_tr
  have S12_tr := Lib.hid (S11_tr.out.kp hk); clear S11_tr
  have X12_tr := Lib.hid True.intro
  clear hb hk
  go_wp2_with fail
  refine (spoil_k A_cl c_cl cl.length w2.heap.size w12 S12_cl.out (by omega)).mono ?_
  rintro e w13 ⟨rfl, hb, hk⟩
  have B13 := Lib.hid (B12.out.trans (hb.mono BC.out)); clear B12
  have C13 := Lib.hid (C12.out.trans hb)
  clear X12_cl S12_cl
  clear X12_tr
  have S13_tr := Lib.hid (S12_tr.out.kp hk); clear S12_tr
  have X13_tr := Lib.hid True.intro
  clear hb hk
  go_wp2_with fail
  refine (spoil_k A_tr c_tr tr.length w2.heap.size w13 S13_tr.out (by omega)).mono ?_
  rintro e w14 ⟨rfl, hb, hk⟩
  have B14 := Lib.hid (B13.out.trans (hb.mono BC.out)); clear B13
  have C14 := Lib.hid (C13.out.trans hb)
  clear X13_tr S13_tr
  clear hb hk
  go_wp2_with fail
  refine (same_p A_x A c_x c x xs w14 (XC_x.out.below C14.out) (X0_a.out.below B14.out) (by omega) (P_x.out)).mono ?_
  rintro e w15 ⟨rfl, hb⟩
  have B15 := Lib.hid (B14.out.trans (hb.mono B14.out.size))
  have C15 := Lib.hid (C14.out.trans (hb.mono C14.out.size))
  clear B14 hb
  go_wp2
  go_ret
  exact ⟨rfl, B15.out⟩

end Go.Proofs.YtngblecgikhgdaaDoor
