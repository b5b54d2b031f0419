/- BitsMoves: its walk out of the contracts. -/
import Derived.Test.YtngblecgikhgdaaDoorN3
namespace Go.Proofs.YtngblecgikhgdaaDoor
open Go.RowKit

set_option maxHeartbeats 1000000 in
theorem bitsMoves_g1 (A : Option Addr) (c : Nat) (n : Int) (xs : List (BitVec 64)) (w : World) (hT : Tab w) (hw0 : 0 < w.heap.size) (v_a : VecArg w A c xs) (h1 : 40 < xs.length) :
    Calls Tryd.prog 6 #[.slice A xs.length c, .int .i64 n] w fun e w' => e = .returned (.bool true) ∧ Below w.heap.size w w' := by
  obtain ⟨c_a, x_a, n_a, l_a⟩ := v_a
  have X0_a := Lib.hid x_a; have N_a := Lib.hid n_a; clear x_a n_a
  have S := Lib.hid (speaks_any w hT hw0)
  have T0 := Lib.hid hT; clear hT
  go_enter Tryd.func6, Tryd.ntmps6
  go_wp2_with fail
  refine S.out.mono ?_
  rintro e w1 ⟨rfl, hb⟩
  have B1 := Lib.hid hb
  clear hb S
  go_wp2_with fail
  refine (great_yes A xs.length c w1 h1).mono ?_
  rintro e w' ⟨rfl, rfl⟩
  go_wp2
  go_ret
  exact ⟨rfl, B1.out⟩

set_option maxHeartbeats 2000000 in
theorem bitsMoves_neg (A : Option Addr) (c : Nat) (n : Int) (xs : List (BitVec 64)) (w : World) (hT : Tab w) (hw0 : 0 < w.heap.size) (v_a : VecArg w A c xs) (h1 : xs.length ≤ 40) (h2 : n < 0) (hi : n ≤ 9223372036854775807) :
    Calls Tryd.prog 6 #[.slice A xs.length c, .int .i64 n] w fun e w' => e = .returned (.bool true) ∧ Below w.heap.size w w' := by
  obtain ⟨c_a, x_a, n_a, l_a⟩ := v_a
  have X0_a := Lib.hid x_a; have N_a := Lib.hid n_a; clear x_a n_a
  have S := Lib.hid (speaks_any w hT hw0)
  have T0 := Lib.hid hT; clear hT
  have d0 : decide (n < 0) = true := by simp; omega
  go_enter Tryd.func6, Tryd.ntmps6
  go_wp2_with fail
  refine S.out.mono ?_
  rintro e w1 ⟨rfl, hb⟩
  have B1 := Lib.hid hb
  clear hb S
  go_wp2_with fail
  refine (great_no A xs.length c w1 h1).mono ?_
  rintro e w' ⟨rfl, rfl⟩
  go_wp2_with fail
  refine (copy_p A c xs w1 (X0_a.out.below B1.out) N_a.out h1).mono ?_
  rintro e w2 ⟨x, A_x, c_x, rfl, k_x, l_x, hx, hf, hb, hp⟩
  have B2 := Lib.hid (B1.out.trans (hb.mono B1.out.size))
  clear B1 hb
  have X2_x := Lib.hid hx; have P_x := Lib.hid hp; clear hx hp hf
  have BC := Lib.hid B2.out.size
  have lx2 : x.length ≤ 40 := by rw [P_x.out]; exact h1
  have C2 := Lib.hid (Below.refl w2.heap.size w2)
  have XC_x := Lib.hid X2_x.out; clear X2_x
  go_wp2_with fail
  refine (up_no_b A_x c_x x n w2 (.inl h2)).mono ?_
  rintro e w3 ⟨rfl, hb⟩
  have B3 := Lib.hid (B2.out.trans (hb.mono B2.out.size))
  have C3 := Lib.hid (C2.out.trans (hb.mono C2.out.size))
  clear B2 hb
  go_wp2_with fail
  refine (low_p A_x c_x n x w3 (XC_x.out.below C3.out) (by omega) (by omega) hi).mono ?_
  rintro e w4 ⟨lo, A_lo, c_lo, rfl, k_lo, l_lo, hx, hf, hb, hp⟩
  have S4_lo := Lib.hid (spo_of hx hf C3.out.size)
  have B4 := Lib.hid (B3.out.trans (hb.mono B3.out.size))
  have C4 := Lib.hid (C3.out.trans (hb.mono C3.out.size))
  clear B3 hb
  have X4_lo := Lib.hid hx; have P_lo := Lib.hid hp; clear hx hp hf
  go_wp2_with fail
  refine (rlow_any A c n xs w4 (X0_a.out.below B4.out) h1).mono ?_
  rintro e w5 ⟨k1, A_k1, c_k1, rfl, k_k1, l_k1, hx, hf, hb, hp⟩
  have B5 := Lib.hid (B4.out.trans (hb.mono B4.out.size))
  have X5_lo := Lib.hid (X4_lo.out.below hb); clear X4_lo
  have S5_lo := Lib.hid (S4_lo.out.below hb); clear S4_lo
  have C5 := Lib.hid (C4.out.trans (hb.mono C4.out.size))
  clear B4 hb
  have X5_k1 := Lib.hid hx; have P_k1 := Lib.hid hp; clear hx hp hf
  go_wp2_with fail
  refine (same_p A_lo A_k1 c_lo c_k1 lo k1 w5 X5_lo.out X5_k1.out (by omega) (P_lo.out.eq P_k1.out fun j => by simp only [P_x.out])).mono ?_
  rintro e w6 ⟨rfl, hb⟩
  have B6 := Lib.hid (B5.out.trans (hb.mono B5.out.size))
  have X6_lo := Lib.hid (X5_lo.out.below hb); clear X5_lo
  have S6_lo := Lib.hid (S5_lo.out.below hb); clear S5_lo
  have X6_k1 := Lib.hid (X5_k1.out.below hb); clear X5_k1
  have C6 := Lib.hid (C5.out.trans (hb.mono C5.out.size))
  clear B5 hb
  clear X6_k1
  go_wp2
  go_ret
  exact ⟨rfl, B6.out⟩

set_option maxHeartbeats 2000000 in
theorem bitsMoves_big (A : Option Addr) (c : Nat) (n : Int) (xs : List (BitVec 64)) (w : World) (hT : Tab w) (hw0 : 0 < w.heap.size) (v_a : VecArg w A c xs) (h1 : xs.length ≤ 40) (h2 : 65536 < n) (hi : n ≤ 9223372036854775807) :
    Calls Tryd.prog 6 #[.slice A xs.length c, .int .i64 n] w fun e w' => e = .returned (.bool true) ∧ Below w.heap.size w w' := by
  obtain ⟨c_a, x_a, n_a, l_a⟩ := v_a
  have X0_a := Lib.hid x_a; have N_a := Lib.hid n_a; clear x_a n_a
  have S := Lib.hid (speaks_any w hT hw0)
  have T0 := Lib.hid hT; clear hT
  have d0 : decide (n < 0) = false := by simp; omega
  have d1 : decide (65536 < n) = true := by simp; omega
  go_enter Tryd.func6, Tryd.ntmps6
  go_wp2_with fail
  refine S.out.mono ?_
  rintro e w1 ⟨rfl, hb⟩
  have B1 := Lib.hid hb
  clear hb S
  go_wp2_with fail
  refine (great_no A xs.length c w1 h1).mono ?_
  rintro e w' ⟨rfl, rfl⟩
  go_wp2_with fail
  refine (copy_p A c xs w1 (X0_a.out.below B1.out) N_a.out h1).mono ?_
  rintro e w2 ⟨x, A_x, c_x, rfl, k_x, l_x, hx, hf, hb, hp⟩
  have B2 := Lib.hid (B1.out.trans (hb.mono B1.out.size))
  clear B1 hb
  have X2_x := Lib.hid hx; have P_x := Lib.hid hp; clear hx hp hf
  have BC := Lib.hid B2.out.size
  have lx2 : x.length ≤ 40 := by rw [P_x.out]; exact h1
  have C2 := Lib.hid (Below.refl w2.heap.size w2)
  have XC_x := Lib.hid X2_x.out; clear X2_x
  go_wp2_with fail
  refine (up_no_b A_x c_x x n w2 (.inr h2)).mono ?_
  rintro e w3 ⟨rfl, hb⟩
  have B3 := Lib.hid (B2.out.trans (hb.mono B2.out.size))
  have C3 := Lib.hid (C2.out.trans (hb.mono C2.out.size))
  clear B2 hb
  go_wp2_with fail
  refine (low_p A_x c_x n x w3 (XC_x.out.below C3.out) (by omega) (by omega) hi).mono ?_
  rintro e w4 ⟨lo, A_lo, c_lo, rfl, k_lo, l_lo, hx, hf, hb, hp⟩
  have S4_lo := Lib.hid (spo_of hx hf C3.out.size)
  have B4 := Lib.hid (B3.out.trans (hb.mono B3.out.size))
  have C4 := Lib.hid (C3.out.trans (hb.mono C3.out.size))
  clear B3 hb
  have X4_lo := Lib.hid hx; have P_lo := Lib.hid hp; clear hx hp hf
  go_wp2_with fail
  refine (rlow_any A c n xs w4 (X0_a.out.below B4.out) h1).mono ?_
  rintro e w5 ⟨k1, A_k1, c_k1, rfl, k_k1, l_k1, hx, hf, hb, hp⟩
  have B5 := Lib.hid (B4.out.trans (hb.mono B4.out.size))
  have X5_lo := Lib.hid (X4_lo.out.below hb); clear X4_lo
  have S5_lo := Lib.hid (S4_lo.out.below hb); clear S4_lo
  have C5 := Lib.hid (C4.out.trans (hb.mono C4.out.size))
  clear B4 hb
  have X5_k1 := Lib.hid hx; have P_k1 := Lib.hid hp; clear hx hp hf
  go_wp2_with fail
  refine (same_p A_lo A_k1 c_lo c_k1 lo k1 w5 X5_lo.out X5_k1.out (by omega) (P_lo.out.eq P_k1.out fun j => by simp only [P_x.out])).mono ?_
  rintro e w6 ⟨rfl, hb⟩
  have B6 := Lib.hid (B5.out.trans (hb.mono B5.out.size))
  have X6_lo := Lib.hid (X5_lo.out.below hb); clear X5_lo
  have S6_lo := Lib.hid (S5_lo.out.below hb); clear S5_lo
  have X6_k1 := Lib.hid (X5_k1.out.below hb); clear X5_k1
  have C6 := Lib.hid (C5.out.trans (hb.mono C5.out.size))
  clear B5 hb
  clear X6_k1
  go_wp2
  go_ret
  exact ⟨rfl, B6.out⟩

set_option maxHeartbeats 2000000 in
theorem bitsMoves_main (A : Option Addr) (c : Nat) (n : Int) (xs : List (BitVec 64)) (w : World) (hT : Tab w) (hw0 : 0 < w.heap.size) (v_a : VecArg w A c xs) (h1 : xs.length ≤ 40) (h2 : 0 ≤ n) (h3 : n ≤ 65536) (hi : n ≤ 9223372036854775807) :
    Calls Tryd.prog 6 #[.slice A xs.length c, .int .i64 n] w fun e w' => e = .returned (.bool true) ∧ Below w.heap.size w w' := by
  obtain ⟨c_a, x_a, n_a, l_a⟩ := v_a
  have X0_a := Lib.hid x_a; have N_a := Lib.hid n_a; clear x_a n_a
  have S := Lib.hid (speaks_any w hT hw0)
  have T0 := Lib.hid hT; clear hT
  have d0 : decide (n < 0) = false := by simp; omega
  have d1 : decide (65536 < n) = false := by simp; omega
  go_enter Tryd.func6, Tryd.ntmps6
  go_wp2_with fail
  refine S.out.mono ?_
  rintro e w1 ⟨rfl, hb⟩
  have B1 := Lib.hid hb
  clear hb S
  go_wp2_with fail
  refine (great_no A xs.length c w1 h1).mono ?_
  rintro e w' ⟨rfl, rfl⟩
  go_wp2_with fail
  refine (copy_p A c xs w1 (X0_a.out.below B1.out) N_a.out h1).mono ?_
  rintro e w2 ⟨x, A_x, c_x, rfl, k_x, l_x, hx, hf, hb, hp⟩
  have B2 := Lib.hid (B1.out.trans (hb.mono B1.out.size))
  clear B1 hb
  have X2_x := Lib.hid hx; have P_x := Lib.hid hp; clear hx hp hf
  have BC := Lib.hid B2.out.size
  have lx2 : x.length ≤ 40 := by rw [P_x.out]; exact h1
  have C2 := Lib.hid (Below.refl w2.heap.size w2)
  have XC_x := Lib.hid X2_x.out; clear X2_x
  go_wp2_with fail
  refine (up_p A_x c_x x n w2 (XC_x.out.below C2.out) (by omega) (by omega) h2 h3).mono ?_
  rintro e w3 ⟨u, A_u, c_u, rfl, k_u, l_u, hx, hf, hb, hp⟩
  have S3_u := Lib.hid (spo_of hx hf C2.out.size)
  have B3 := Lib.hid (B2.out.trans (hb.mono B2.out.size))
  have C3 := Lib.hid (C2.out.trans (hb.mono C2.out.size))
  clear B2 hb
  have X3_u := Lib.hid hx; have P_u := Lib.hid hp; clear hx hp hf
  go_wp2_with fail
  refine (low_p A_x c_x n x w3 (XC_x.out.below C3.out) (by omega) (by omega) hi).mono ?_
  rintro e w4 ⟨lo, A_lo, c_lo, rfl, k_lo, l_lo, hx, hf, hb, hp⟩
  have S4_lo := Lib.hid (spo_of hx hf C3.out.size)
  have B4 := Lib.hid (B3.out.trans (hb.mono B3.out.size))
  have X4_u := Lib.hid (X3_u.out.below hb); clear X3_u
  have S4_u := Lib.hid (S3_u.out.below hb); clear S3_u
  have C4 := Lib.hid (C3.out.trans (hb.mono C3.out.size))
  clear B3 hb
  have X4_lo := Lib.hid hx; have P_lo := Lib.hid hp; clear hx hp hf
  go_wp2_with fail
  refine (rlow_any A c n xs w4 (X0_a.out.below B4.out) h1).mono ?_
  rintro e w5 ⟨k1, A_k1, c_k1, rfl, k_k1, l_k1, hx, hf, hb, hp⟩
  have B5 := Lib.hid (B4.out.trans (hb.mono B4.out.size))
  have X5_u := Lib.hid (X4_u.out.below hb); clear X4_u
  have S5_u := Lib.hid (S4_u.out.below hb); clear S4_u
  have X5_lo := Lib.hid (X4_lo.out.below hb); clear X4_lo
  have S5_lo := Lib.hid (S4_lo.out.below hb); clear S4_lo
  have C5 := Lib.hid (C4.out.trans (hb.mono C4.out.size))
  clear B4 hb
  have X5_k1 := Lib.hid hx; have P_k1 := Lib.hid hp; clear hx hp hf
  go_wp2_with fail
  refine (same_p A_lo A_k1 c_lo c_k1 lo k1 w5 X5_lo.out X5_k1.out (by omega) (P_lo.out.eq P_k1.out fun j => by simp only [P_x.out])).mono ?_
  rintro e w6 ⟨rfl, hb⟩
  have B6 := Lib.hid (B5.out.trans (hb.mono B5.out.size))
  have X6_u := Lib.hid (X5_u.out.below hb); clear X5_u
  have S6_u := Lib.hid (S5_u.out.below hb); clear S5_u
  have X6_lo := Lib.hid (X5_lo.out.below hb); clear X5_lo
  have S6_lo := Lib.hid (S5_lo.out.below hb); clear S5_lo
  have X6_k1 := Lib.hid (X5_k1.out.below hb); clear X5_k1
  have C6 := Lib.hid (C5.out.trans (hb.mono C5.out.size))
  clear B5 hb
  clear X6_k1
  go_wp2_with fail
  refine (rup_i A c n xs w6 (X0_a.out.below B6.out) h1 h2 h3).mono ?_
  rintro e w7 ⟨k3, A_k3, c_k3, rfl, k_k3, l_k3, hx, hf, hb, hp⟩
  have B7 := Lib.hid (B6.out.trans (hb.mono B6.out.size))
  have X7_u := Lib.hid (X6_u.out.below hb); clear X6_u
  have S7_u := Lib.hid (S6_u.out.below hb); clear S6_u
  have X7_lo := Lib.hid (X6_lo.out.below hb); clear X6_lo
  have S7_lo := Lib.hid (S6_lo.out.below hb); clear S6_lo
  have C7 := Lib.hid (C6.out.trans (hb.mono C6.out.size))
  clear B6 hb
  have X7_k3 := Lib.hid hx; have P_k3 := Lib.hid hp; clear hx hp hf
  go_wp2_with fail
  refine (same_p A_u A_k3 c_u c_k3 u k3 w7 X7_u.out X7_k3.out (by omega) (P_u.out.1.eq P_k3.out fun j => by simp only [P_x.out])).mono ?_
  rintro e w8 ⟨rfl, hb⟩
  have B8 := Lib.hid (B7.out.trans (hb.mono B7.out.size))
  have X8_u := Lib.hid (X7_u.out.below hb); clear X7_u
  have S8_u := Lib.hid (S7_u.out.below hb); clear S7_u
  have X8_lo := Lib.hid (X7_lo.out.below hb); clear X7_lo
  have S8_lo := Lib.hid (S7_lo.out.below hb); clear S7_lo
  have X8_k3 := Lib.hid (X7_k3.out.below hb); clear X7_k3
  have C8 := Lib.hid (C7.out.trans (hb.mono C7.out.size))
  clear B7 hb
  clear X8_k3
  go_wp2_with fail
  refine (spoil_k A_u c_u u.length w2.heap.size w8 S8_u.out (by omega)).mono ?_
  rintro e w9 ⟨rfl, hb, hk⟩
  have B9 := Lib.hid (B8.out.trans (hb.mono BC.out)); clear B8
  have C9 := Lib.hid (C8.out.trans hb)
  clear X8_u S8_u
  clear X8_lo
  have S9_lo := Lib.hid (S8_lo.out.kp hk); clear S8_lo
  have X9_lo := Lib.hid True.intro
  clear hb hk
  go_wp2_with fail
  refine (spoil_k A_lo c_lo lo.length w2.heap.size w9 S9_lo.out (by omega)).mono ?_
  rintro e w10 ⟨rfl, hb, hk⟩
  have B10 := Lib.hid (B9.out.trans (hb.mono BC.out)); clear B9
  have C10 := Lib.hid (C9.out.trans hb)
  clear X9_lo S9_lo
  clear hb hk
  go_wp2_with fail
  refine (same_p A_x A c_x c x xs w10 (XC_x.out.below C10.out) (X0_a.out.below B10.out) (by omega) (P_x.out)).mono ?_
  rintro e w11 ⟨rfl, hb⟩
  have B11 := Lib.hid (B10.out.trans (hb.mono B10.out.size))
  have C11 := Lib.hid (C10.out.trans (hb.mono C10.out.size))
  clear B10 hb
  go_wp2
  go_ret
  exact ⟨rfl, B11.out⟩

end Go.Proofs.YtngblecgikhgdaaDoor
