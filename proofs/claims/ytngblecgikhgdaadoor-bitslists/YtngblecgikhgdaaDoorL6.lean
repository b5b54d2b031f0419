/- BitsLists: its walk out of the contracts. -/
import Derived.Test.YtngblecgikhgdaaDoorN3
namespace Go.Proofs.YtngblecgikhgdaaDoor
open Go.RowKit

set_option maxHeartbeats 1000000 in
theorem bitsLists_g1 (A B : Option Addr) (c d : Nat) (xs : List (BitVec 64)) (zs : List Int) (w : World) (hT : Tab w) (hw0 : 0 < w.heap.size) (v_a : VecArg w A c xs) (v_b : IntArg w B d zs) (h1 : 40 < xs.length) :
    Calls Tryd.prog 7 #[.slice A xs.length c, .slice B zs.length d] w fun e w' => e = .returned (.bool true) ∧ Below w.heap.size w w' := by
  obtain ⟨c_a, x_a, n_a, l_a⟩ := v_a
  have X0_a := Lib.hid x_a; have N_a := Lib.hid n_a; clear x_a n_a
  obtain ⟨c_b, x_b, n_b, l_b, r_b⟩ := v_b
  have X0_b := Lib.hid x_b; have N_b := Lib.hid n_b; have R_b := Lib.hid r_b; clear x_b n_b r_b
  have S := Lib.hid (speaks_any w hT hw0)
  have T0 := Lib.hid hT; clear hT
  go_enter Tryd.func7, Tryd.ntmps7
  go_wp2_with fail
  refine S.out.mono ?_
  rintro e w1 ⟨rfl, hb⟩
  have B1 := Lib.hid hb
  clear hb S
  go_wp2_with fail
  refine (great_yes A xs.length c w1 h1).mono ?_
  rintro e w' ⟨rfl, rfl⟩
  go_wp2
  go_ret
  exact ⟨rfl, B1.out⟩

set_option maxHeartbeats 1000000 in
theorem bitsLists_g2 (A B : Option Addr) (c d : Nat) (xs : List (BitVec 64)) (zs : List Int) (w : World) (hT : Tab w) (hw0 : 0 < w.heap.size) (v_a : VecArg w A c xs) (v_b : IntArg w B d zs) (h1 : xs.length ≤ 40) (h2 : 100 < zs.length) :
    Calls Tryd.prog 7 #[.slice A xs.length c, .slice B zs.length d] w fun e w' => e = .returned (.bool true) ∧ Below w.heap.size w w' := by
  obtain ⟨c_a, x_a, n_a, l_a⟩ := v_a
  have X0_a := Lib.hid x_a; have N_a := Lib.hid n_a; clear x_a n_a
  obtain ⟨c_b, x_b, n_b, l_b, r_b⟩ := v_b
  have X0_b := Lib.hid x_b; have N_b := Lib.hid n_b; have R_b := Lib.hid r_b; clear x_b n_b r_b
  have S := Lib.hid (speaks_any w hT hw0)
  have T0 := Lib.hid hT; clear hT
  have d0 : decide (100 < (zs.length : Int)) = true := by simp; omega
  go_enter Tryd.func7, Tryd.ntmps7
  go_wp2_with fail
  refine S.out.mono ?_
  rintro e w1 ⟨rfl, hb⟩
  have B1 := Lib.hid hb
  clear hb S
  go_wp2_with fail
  refine (great_no A xs.length c w1 h1).mono ?_
  rintro e w' ⟨rfl, rfl⟩
  go_wp2
  go_ret
  exact ⟨rfl, B1.out⟩

set_option maxHeartbeats 2000000 in
theorem bitsLists_ok (A B : Option Addr) (c d : Nat) (xs : List (BitVec 64)) (zs : List Int) (w : World) (hT : Tab w) (hw0 : 0 < w.heap.size) (v_a : VecArg w A c xs) (v_b : IntArg w B d zs) (h1 : xs.length ≤ 40) (h2 : zs.length ≤ 100) (hg : ∀ j, j < zs.length → Pl zs j) :
    Calls Tryd.prog 7 #[.slice A xs.length c, .slice B zs.length d] w fun e w' => e = .returned (.bool true) ∧ Below w.heap.size w w' := by
  obtain ⟨c_a, x_a, n_a, l_a⟩ := v_a
  have X0_a := Lib.hid x_a; have N_a := Lib.hid n_a; clear x_a n_a
  obtain ⟨c_b, x_b, n_b, l_b, r_b⟩ := v_b
  have X0_b := Lib.hid x_b; have N_b := Lib.hid n_b; have R_b := Lib.hid r_b; clear x_b n_b r_b
  have S := Lib.hid (speaks_any w hT hw0)
  have T0 := Lib.hid hT; clear hT
  have d0 : decide (100 < (zs.length : Int)) = false := by simp; omega
  have HG := Lib.hid hg; clear hg
  go_enter Tryd.func7, Tryd.ntmps7
  go_wp2_with fail
  refine S.out.mono ?_
  rintro e w1 ⟨rfl, hb⟩
  have B1 := Lib.hid hb
  clear hb S
  go_wp2_with fail
  refine (great_no A xs.length c w1 h1).mono ?_
  rintro e w' ⟨rfl, rfl⟩
  go_wp2_with fail
  refine (copy_p A c xs w1 (X0_a.out.below B1.out) N_a.out h1).mono ?_
  rintro e w2 ⟨x, A_x, c_x, rfl, k_x, l_x, hx, hf, hb, hp⟩
  have B2 := Lib.hid (B1.out.trans (hb.mono B1.out.size))
  clear B1 hb
  have X2_x := Lib.hid hx; have P_x := Lib.hid hp; clear hx hp hf
  have BC := Lib.hid B2.out.size
  have lx2 : x.length ≤ 40 := by rw [P_x.out]; exact h1
  have C2 := Lib.hid (Below.refl w2.heap.size w2)
  have XC_x := Lib.hid X2_x.out; clear X2_x
  go_wp2_with fail
  refine (list_p A_x c_x x w2 (XC_x.out.below C2.out) (T0.out.below B2.out hw0) (by have := B2.out.size; omega) lx2).mono ?_
  rintro e w3 ⟨pl, A_pl, c_pl, rfl, l_pl, hx, hb, hp⟩
  have B3 := Lib.hid (B2.out.trans (hb.mono B2.out.size))
  have C3 := Lib.hid (C2.out.trans (hb.mono C2.out.size))
  clear B2 hb
  have X3_pl := Lib.hid hx; have P_pl := Lib.hid hp; clear hx hp
  go_wp2_with fail
  refine (of_p A_pl c_pl pl w3 X3_pl.out (by omega) (by rw [P_pl.out]; exact places_pl x _ (by omega))).mono ?_
  rintro e w4 ⟨bk, A_bk, c_bk, rfl, k_bk, l_bk, hx, hf, hb, hp⟩
  have B4 := Lib.hid (B3.out.trans (hb.mono B3.out.size))
  have X4_pl := Lib.hid (X3_pl.out.below hb); clear X3_pl
  have C4 := Lib.hid (C3.out.trans (hb.mono C3.out.size))
  clear B3 hb
  have X4_bk := Lib.hid hx; have P_bk := Lib.hid hp; clear hx hp hf
  go_wp2_with fail
  refine (rlist_p A c xs w4 (X0_a.out.below B4.out) h1).mono ?_
  rintro e w5 ⟨rl, A_rl, c_rl, rfl, l_rl, hx, hb, hp⟩
  have B5 := Lib.hid (B4.out.trans (hb.mono B4.out.size))
  have X5_pl := Lib.hid (X4_pl.out.below hb); clear X4_pl
  have X5_bk := Lib.hid (X4_bk.out.below hb); clear X4_bk
  have C5 := Lib.hid (C4.out.trans (hb.mono C4.out.size))
  clear B4 hb
  have X5_rl := Lib.hid hx; have P_rl := Lib.hid hp; clear hx hp
  go_wp2_with fail
  refine (sameI_p A_pl A_rl c_pl c_rl pl rl w5 X5_pl.out X5_rl.out (by omega) (by rw [P_pl.out, P_rl.out, P_x.out])).mono ?_
  rintro e w6 ⟨rfl, hb⟩
  have B6 := Lib.hid (B5.out.trans (hb.mono B5.out.size))
  have X6_pl := Lib.hid (X5_pl.out.below hb); clear X5_pl
  have X6_bk := Lib.hid (X5_bk.out.below hb); clear X5_bk
  have X6_rl := Lib.hid (X5_rl.out.below hb); clear X5_rl
  have C6 := Lib.hid (C5.out.trans (hb.mono C5.out.size))
  clear B5 hb
  go_wp2_with fail
  refine (count_p A_x c_x x w6 (XC_x.out.below C6.out) (by omega)).mono ?_
  rintro e w' ⟨m1, rfl, rfl, m_m1, hm⟩
  have M_m1 := Lib.hid hm; clear hm
  have ez : ((m1 : Int) != (pl.length : Int)) = false := by rw [M_m1.out, P_pl.out, places_cnt]; simp
  go_wp2_with fail
  refine (rtrim_any A c xs w6 (X0_a.out.below B6.out) h1).mono ?_
  rintro e w7 ⟨k2, A_k2, c_k2, rfl, k_k2, l_k2, hx, hf, hb, hp⟩
  have B7 := Lib.hid (B6.out.trans (hb.mono B6.out.size))
  have X7_pl := Lib.hid (X6_pl.out.below hb); clear X6_pl
  have X7_bk := Lib.hid (X6_bk.out.below hb); clear X6_bk
  have X7_rl := Lib.hid (X6_rl.out.below hb); clear X6_rl
  have C7 := Lib.hid (C6.out.trans (hb.mono C6.out.size))
  clear B6 hb
  have X7_k2 := Lib.hid hx; have P_k2 := Lib.hid hp; clear hx hp hf
  go_wp2_with fail
  refine (same_p A_bk A_k2 c_bk c_k2 bk k2 w7 X7_bk.out X7_k2.out (by omega) (P_bk.out.eq P_k2.out fun j => by rw [P_pl.out, ofB_places, P_x.out])).mono ?_
  rintro e w8 ⟨rfl, hb⟩
  have B8 := Lib.hid (B7.out.trans (hb.mono B7.out.size))
  have X8_pl := Lib.hid (X7_pl.out.below hb); clear X7_pl
  have X8_bk := Lib.hid (X7_bk.out.below hb); clear X7_bk
  have X8_rl := Lib.hid (X7_rl.out.below hb); clear X7_rl
  have X8_k2 := Lib.hid (X7_k2.out.below hb); clear X7_k2
  have C8 := Lib.hid (C7.out.trans (hb.mono C7.out.size))
  clear B7 hb
  clear X8_k2
  clear X8_bk
  clear X8_rl
  clear X8_pl
  go_wp2_with (at_builtin; refine wpList_copyI rfl (.tmp 55) (.tmp 56) rfl B d zs rfl rfl (X0_b.out.below B8.out) N_b.out h2 ?_)
  intro A_cp c_cp w9 hx hb
  have B9 := Lib.hid (B8.out.trans (hb.mono B8.out.size))
  have C9 := Lib.hid (C8.out.trans (hb.mono C8.out.size))
  clear B8 hb
  have X9_cp := Lib.hid hx; clear hx
  go_wp2_with fail
  refine (of_p A_cp c_cp zs w9 X9_cp.out (by omega) HG.out).mono ?_
  rintro e w10 ⟨ww, A_ww, c_ww, rfl, k_ww, l_ww, hx, hf, hb, hp⟩
  have B10 := Lib.hid (B9.out.trans (hb.mono B9.out.size))
  have X10_cp := Lib.hid (X9_cp.out.below hb); clear X9_cp
  have C10 := Lib.hid (C9.out.trans (hb.mono C9.out.size))
  clear B9 hb
  have X10_ww := Lib.hid hx; have P_ww := Lib.hid hp; clear hx hp hf
  go_wp2_with fail
  refine (rof_ok B d zs w10 (X0_b.out.below B10.out) h2 HG.out).mono ?_
  rintro e w11 ⟨wt, A_wt, c_wt, rfl, l_wt, hx, hb, hp⟩
  have B11 := Lib.hid (B10.out.trans (hb.mono B10.out.size))
  have X11_cp := Lib.hid (X10_cp.out.below hb); clear X10_cp
  have X11_ww := Lib.hid (X10_ww.out.below hb); clear X10_ww
  have C11 := Lib.hid (C10.out.trans (hb.mono C10.out.size))
  clear B10 hb
  have X11_wt := Lib.hid hx; have P_wt := Lib.hid hp; clear hx hp
  go_wp2_with fail
  refine (same_p A_ww A_wt c_ww c_wt ww wt w11 X11_ww.out X11_wt.out (by omega) (P_ww.out.eq P_wt.out fun j => rfl)).mono ?_
  rintro e w12 ⟨rfl, hb⟩
  have B12 := Lib.hid (B11.out.trans (hb.mono B11.out.size))
  have X12_cp := Lib.hid (X11_cp.out.below hb); clear X11_cp
  have X12_ww := Lib.hid (X11_ww.out.below hb); clear X11_ww
  have X12_wt := Lib.hid (X11_wt.out.below hb); clear X11_wt
  have C12 := Lib.hid (C11.out.trans (hb.mono C11.out.size))
  clear B11 hb
  go_wp2_with fail
  refine (same_p A_x A c_x c x xs w12 (XC_x.out.below C12.out) (X0_a.out.below B12.out) (by omega) (P_x.out)).mono ?_
  rintro e w13 ⟨rfl, hb⟩
  have B13 := Lib.hid (B12.out.trans (hb.mono B12.out.size))
  have X13_cp := Lib.hid (X12_cp.out.below hb); clear X12_cp
  have X13_ww := Lib.hid (X12_ww.out.below hb); clear X12_ww
  have X13_wt := Lib.hid (X12_wt.out.below hb); clear X12_wt
  have C13 := Lib.hid (C12.out.trans (hb.mono C12.out.size))
  clear B12 hb
  go_wp2
  go_ret
  exact ⟨rfl, B13.out⟩

set_option maxHeartbeats 2000000 in
theorem bitsLists_bad (A B : Option Addr) (c d : Nat) (xs : List (BitVec 64)) (zs : List Int) (w : World) (hT : Tab w) (hw0 : 0 < w.heap.size) (v_a : VecArg w A c xs) (v_b : IntArg w B d zs) (h1 : xs.length ≤ 40) (h2 : zs.length ≤ 100) (m : Nat) (hm : m < zs.length) (hbd : ¬ Pl zs m) (hg : ∀ j, j < m → Pl zs j) :
    Calls Tryd.prog 7 #[.slice A xs.length c, .slice B zs.length d] w fun e w' => e = .returned (.bool true) ∧ Below w.heap.size w w' := by
  obtain ⟨c_a, x_a, n_a, l_a⟩ := v_a
  have X0_a := Lib.hid x_a; have N_a := Lib.hid n_a; clear x_a n_a
  obtain ⟨c_b, x_b, n_b, l_b, r_b⟩ := v_b
  have X0_b := Lib.hid x_b; have N_b := Lib.hid n_b; have R_b := Lib.hid r_b; clear x_b n_b r_b
  have S := Lib.hid (speaks_any w hT hw0)
  have T0 := Lib.hid hT; clear hT
  have d0 : decide (100 < (zs.length : Int)) = false := by simp; omega
  have HG := Lib.hid hg; clear hg
  have HBD := Lib.hid hbd; clear hbd
  go_enter Tryd.func7, Tryd.ntmps7
  go_wp2_with fail
  refine S.out.mono ?_
  rintro e w1 ⟨rfl, hb⟩
  have B1 := Lib.hid hb
  clear hb S
  go_wp2_with fail
  refine (great_no A xs.length c w1 h1).mono ?_
  rintro e w' ⟨rfl, rfl⟩
  go_wp2_with fail
  refine (copy_p A c xs w1 (X0_a.out.below B1.out) N_a.out h1).mono ?_
  rintro e w2 ⟨x, A_x, c_x, rfl, k_x, l_x, hx, hf, hb, hp⟩
  have B2 := Lib.hid (B1.out.trans (hb.mono B1.out.size))
  clear B1 hb
  have X2_x := Lib.hid hx; have P_x := Lib.hid hp; clear hx hp hf
  have BC := Lib.hid B2.out.size
  have lx2 : x.length ≤ 40 := by rw [P_x.out]; exact h1
  have C2 := Lib.hid (Below.refl w2.heap.size w2)
  have XC_x := Lib.hid X2_x.out; clear X2_x
  go_wp2_with fail
  refine (list_p A_x c_x x w2 (XC_x.out.below C2.out) (T0.out.below B2.out hw0) (by have := B2.out.size; omega) lx2).mono ?_
  rintro e w3 ⟨pl, A_pl, c_pl, rfl, l_pl, hx, hb, hp⟩
  have B3 := Lib.hid (B2.out.trans (hb.mono B2.out.size))
  have C3 := Lib.hid (C2.out.trans (hb.mono C2.out.size))
  clear B2 hb
  have X3_pl := Lib.hid hx; have P_pl := Lib.hid hp; clear hx hp
  go_wp2_with fail
  refine (of_p A_pl c_pl pl w3 X3_pl.out (by omega) (by rw [P_pl.out]; exact places_pl x _ (by omega))).mono ?_
  rintro e w4 ⟨bk, A_bk, c_bk, rfl, k_bk, l_bk, hx, hf, hb, hp⟩
  have B4 := Lib.hid (B3.out.trans (hb.mono B3.out.size))
  have X4_pl := Lib.hid (X3_pl.out.below hb); clear X3_pl
  have C4 := Lib.hid (C3.out.trans (hb.mono C3.out.size))
  clear B3 hb
  have X4_bk := Lib.hid hx; have P_bk := Lib.hid hp; clear hx hp hf
  go_wp2_with fail
  refine (rlist_p A c xs w4 (X0_a.out.below B4.out) h1).mono ?_
  rintro e w5 ⟨rl, A_rl, c_rl, rfl, l_rl, hx, hb, hp⟩
  have B5 := Lib.hid (B4.out.trans (hb.mono B4.out.size))
  have X5_pl := Lib.hid (X4_pl.out.below hb); clear X4_pl
  have X5_bk := Lib.hid (X4_bk.out.below hb); clear X4_bk
  have C5 := Lib.hid (C4.out.trans (hb.mono C4.out.size))
  clear B4 hb
  have X5_rl := Lib.hid hx; have P_rl := Lib.hid hp; clear hx hp
  go_wp2_with fail
  refine (sameI_p A_pl A_rl c_pl c_rl pl rl w5 X5_pl.out X5_rl.out (by omega) (by rw [P_pl.out, P_rl.out, P_x.out])).mono ?_
  rintro e w6 ⟨rfl, hb⟩
  have B6 := Lib.hid (B5.out.trans (hb.mono B5.out.size))
  have X6_pl := Lib.hid (X5_pl.out.below hb); clear X5_pl
  have X6_bk := Lib.hid (X5_bk.out.below hb); clear X5_bk
  have X6_rl := Lib.hid (X5_rl.out.below hb); clear X5_rl
  have C6 := Lib.hid (C5.out.trans (hb.mono C5.out.size))
  clear B5 hb
  go_wp2_with fail
  refine (count_p A_x c_x x w6 (XC_x.out.below C6.out) (by omega)).mono ?_
  rintro e w' ⟨m1, rfl, rfl, m_m1, hm⟩
  have M_m1 := Lib.hid hm; clear hm
  have ez : ((m1 : Int) != (pl.length : Int)) = false := by rw [M_m1.out, P_pl.out, places_cnt]; simp
  go_wp2_with fail
  refine (rtrim_any A c xs w6 (X0_a.out.below B6.out) h1).mono ?_
  rintro e w7 ⟨k2, A_k2, c_k2, rfl, k_k2, l_k2, hx, hf, hb, hp⟩
  have B7 := Lib.hid (B6.out.trans (hb.mono B6.out.size))
  have X7_pl := Lib.hid (X6_pl.out.below hb); clear X6_pl
  have X7_bk := Lib.hid (X6_bk.out.below hb); clear X6_bk
  have X7_rl := Lib.hid (X6_rl.out.below hb); clear X6_rl
  have C7 := Lib.hid (C6.out.trans (hb.mono C6.out.size))
  clear B6 hb
  have X7_k2 := Lib.hid hx; have P_k2 := Lib.hid hp; clear hx hp hf
  go_wp2_with fail
  refine (same_p A_bk A_k2 c_bk c_k2 bk k2 w7 X7_bk.out X7_k2.out (by omega) (P_bk.out.eq P_k2.out fun j => by rw [P_pl.out, ofB_places, P_x.out])).mono ?_
  rintro e w8 ⟨rfl, hb⟩
  have B8 := Lib.hid (B7.out.trans (hb.mono B7.out.size))
  have X8_pl := Lib.hid (X7_pl.out.below hb); clear X7_pl
  have X8_bk := Lib.hid (X7_bk.out.below hb); clear X7_bk
  have X8_rl := Lib.hid (X7_rl.out.below hb); clear X7_rl
  have X8_k2 := Lib.hid (X7_k2.out.below hb); clear X7_k2
  have C8 := Lib.hid (C7.out.trans (hb.mono C7.out.size))
  clear B7 hb
  clear X8_k2
  clear X8_bk
  clear X8_rl
  clear X8_pl
  go_wp2_with (at_builtin; refine wpList_copyI rfl (.tmp 55) (.tmp 56) rfl B d zs rfl rfl (X0_b.out.below B8.out) N_b.out h2 ?_)
  intro A_cp c_cp w9 hx hb
  have B9 := Lib.hid (B8.out.trans (hb.mono B8.out.size))
  have C9 := Lib.hid (C8.out.trans (hb.mono C8.out.size))
  clear B8 hb
  have X9_cp := Lib.hid hx; clear hx
  go_wp2_with fail
  refine (of_bad_b A_cp c_cp m zs w9 X9_cp.out (by omega) hm HBD.out HG.out).mono ?_
  rintro e w10 ⟨rfl, hb⟩
  have B10 := Lib.hid (B9.out.trans (hb.mono B9.out.size))
  have X10_cp := Lib.hid (X9_cp.out.below hb); clear X9_cp
  have C10 := Lib.hid (C9.out.trans (hb.mono C9.out.size))
  clear B9 hb
  go_wp2_with fail
  refine (rof_bad B d m zs w10 (X0_b.out.below B10.out) h2 hm HBD.out HG.out).mono ?_
  rintro e w11 ⟨wt, A_wt, c_wt, rfl, l_wt, hx, hb, hp⟩
  have B11 := Lib.hid (B10.out.trans (hb.mono B10.out.size))
  have X11_cp := Lib.hid (X10_cp.out.below hb); clear X10_cp
  have C11 := Lib.hid (C10.out.trans (hb.mono C10.out.size))
  clear B10 hb
  have X11_wt := Lib.hid hx; have P_wt := Lib.hid hp; clear hx hp
  go_wp2_with fail
  refine (same_p none A_wt 0 c_wt [] wt w11 (fun h => by simp at h) X11_wt.out (by simp) P_wt.out.symm).mono ?_
  rintro e w12 ⟨rfl, hb⟩
  have B12 := Lib.hid (B11.out.trans (hb.mono B11.out.size))
  have X12_cp := Lib.hid (X11_cp.out.below hb); clear X11_cp
  have X12_wt := Lib.hid (X11_wt.out.below hb); clear X11_wt
  have C12 := Lib.hid (C11.out.trans (hb.mono C11.out.size))
  clear B11 hb
  go_wp2_with fail
  refine (same_p A_x A c_x c x xs w12 (XC_x.out.below C12.out) (X0_a.out.below B12.out) (by omega) (P_x.out)).mono ?_
  rintro e w13 ⟨rfl, hb⟩
  have B13 := Lib.hid (B12.out.trans (hb.mono B12.out.size))
  have X13_cp := Lib.hid (X12_cp.out.below hb); clear X12_cp
  have X13_wt := Lib.hid (X12_wt.out.below hb); clear X12_wt
  have C13 := Lib.hid (C12.out.trans (hb.mono C12.out.size))
  clear B12 hb
  go_wp2
  go_ret
  exact ⟨rfl, B13.out⟩

end Go.Proofs.YtngblecgikhgdaaDoor
