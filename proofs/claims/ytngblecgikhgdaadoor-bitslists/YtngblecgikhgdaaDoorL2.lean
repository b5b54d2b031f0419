/- BitsOnce: its walk out of the contracts. -/
import Derived.Test.YtngblecgikhgdaaDoorN2
namespace Go.Proofs.YtngblecgikhgdaaDoor
open Go.RowKit

theorem get_v (A : Option Addr) (c : Nat) (xs : List (BitVec 64)) (i : Int) (b : Bool) (w : World) (hx : U64s w A xs) (lx : xs.length ≤ 35184372088832) (hi : i ≤ 9223372036854775807) (hb : (decide (0 ≤ i) && bit xs i.toNat) = b) :
    Calls Tryd.prog 24 #[.slice A xs.length c, .int .i64 i] w fun e w' => e = .returned (.bool b) ∧ w = w' := by
  subst hb; exact get_p A c xs i w hx lx hi
theorem set_no_b (A : Option Addr) (c : Nat) (xs : List (BitVec 64)) (i : Int) (w : World) (hi : i < 0 ∨ 65536 ≤ i) :
    Calls Tryd.prog 21 #[.slice A xs.length c, .int .i64 i] w fun e w' => e = .returned (.tuple #[.slice none 0 0, .int .i64 2]) ∧ Below w.heap.size w w' := by
  refine (set_no A c xs i w hi).mono ?_
  rintro e w' ⟨rfl, rfl⟩
  exact ⟨rfl, Below.refl _ _⟩

theorem toNat_cast (i : Int) (h : 0 ≤ i) : ((i.toNat : Nat) : Int) = i := by omega
theorem sg_same {xs s : List (BitVec 64)} {i : Int} (hs : Is (fun j => bit xs j || decide ((j : Int) = i)) s) (h : 0 ≤ i) : (decide (0 ≤ i) && bit s i.toNat) = true := by
  rw [hs.2]; dsimp only; rw [toNat_cast i h, decide_eq_true h, decide_eq_true rfl, Bool.or_true]; rfl
theorem cg_same {s r : List (BitVec 64)} {i : Int} (hr : Is (fun j => bit s j && !decide ((j : Int) = i)) r) (h : 0 ≤ i) : (decide (0 ≤ i) && bit r i.toNat) = false := by
  rw [hr.2]; dsimp only; rw [toNat_cast i h, decide_eq_true h, decide_eq_true rfl, Bool.not_true, Bool.and_false]; rfl
theorem sg_other {xs s : List (BitVec 64)} {i k : Int} (hs : Is (fun j => bit xs j || decide ((j : Int) = i)) s) (h : k ≠ i) : (decide (0 ≤ k) && bit s k.toNat) = (decide (0 ≤ k) && bit xs k.toNat) := by
  by_cases h0 : 0 ≤ k
  · rw [hs.2]; dsimp only; rw [toNat_cast k h0, decide_eq_false h, Bool.or_false]
  · rw [decide_eq_false h0]; rfl
theorem cg_other {s r : List (BitVec 64)} {i k : Int} (hr : Is (fun j => bit s j && !decide ((j : Int) = i)) r) (h : k ≠ i) : (decide (0 ≤ k) && bit r k.toNat) = (decide (0 ≤ k) && bit s k.toNat) := by
  by_cases h0 : 0 ≤ k
  · rw [hr.2]; dsimp only; rw [toNat_cast k h0, decide_eq_false h, Bool.not_false, Bool.and_true]
  · rw [decide_eq_false h0]; rfl

set_option maxHeartbeats 1000000 in
theorem bitsOnce_neg (A : Option Addr) (c : Nat) (i k : Int) (xs : List (BitVec 64)) (w : World) (hT : Tab w) (hw0 : 0 < w.heap.size) (v_a : VecArg w A c xs) (h1 : i < 0) :
    Calls Tryd.prog 11 #[.slice A xs.length c, .int .i64 i, .int .i64 k] w fun e w' => e = .returned (.bool true) ∧ Below w.heap.size w w' := by
  obtain ⟨c_a, x_a, n_a, l_a⟩ := v_a
  have X0_a := Lib.hid x_a; have N_a := Lib.hid n_a; clear x_a n_a
  have S := Lib.hid (speaks_any w hT hw0)
  have T0 := Lib.hid hT; clear hT
  have d0 : decide (i < 0) = true := by simp; omega
  go_enter Tryd.func11, Tryd.ntmps11
  go_wp2_with fail
  refine S.out.mono ?_
  rintro e w1 ⟨rfl, hb⟩
  have B1 := Lib.hid hb
  have X1_a := Lib.hid (X0_a.out.below hb); clear X0_a
  clear hb S
  go_wp2_with fail
  refine (set_no_b A c xs i w1 (.inl h1)).mono ?_
  rintro e w2 ⟨rfl, hb⟩
  have B2 := Lib.hid (B1.out.trans (hb.mono B1.out.size))
  have X2_a := Lib.hid (X1_a.out.below hb); clear X1_a
  clear B1 hb
  go_wp2
  go_ret
  exact ⟨rfl, B2.out⟩

set_option maxHeartbeats 1000000 in
theorem bitsOnce_big (A : Option Addr) (c : Nat) (i k : Int) (xs : List (BitVec 64)) (w : World) (hT : Tab w) (hw0 : 0 < w.heap.size) (v_a : VecArg w A c xs) (h1 : 65536 ≤ i) :
    Calls Tryd.prog 11 #[.slice A xs.length c, .int .i64 i, .int .i64 k] w fun e w' => e = .returned (.bool true) ∧ Below w.heap.size w w' := by
  obtain ⟨c_a, x_a, n_a, l_a⟩ := v_a
  have X0_a := Lib.hid x_a; have N_a := Lib.hid n_a; clear x_a n_a
  have S := Lib.hid (speaks_any w hT hw0)
  have T0 := Lib.hid hT; clear hT
  have d0 : decide (i < 0) = false := by simp; omega
  have d1 : decide (65535 < i) = true := by simp; omega
  go_enter Tryd.func11, Tryd.ntmps11
  go_wp2_with fail
  refine S.out.mono ?_
  rintro e w1 ⟨rfl, hb⟩
  have B1 := Lib.hid hb
  have X1_a := Lib.hid (X0_a.out.below hb); clear X0_a
  clear hb S
  go_wp2_with fail
  refine (set_no_b A c xs i w1 (.inr h1)).mono ?_
  rintro e w2 ⟨rfl, hb⟩
  have B2 := Lib.hid (B1.out.trans (hb.mono B1.out.size))
  have X2_a := Lib.hid (X1_a.out.below hb); clear X1_a
  clear B1 hb
  go_wp2
  go_ret
  exact ⟨rfl, B2.out⟩

set_option maxHeartbeats 1000000 in
theorem bitsOnce_same (A : Option Addr) (c : Nat) (i k : Int) (xs : List (BitVec 64)) (w : World) (hT : Tab w) (hw0 : 0 < w.heap.size) (v_a : VecArg w A c xs) (h1 : 0 ≤ i) (h2 : i < 65536) (hk : k ≤ 9223372036854775807) (hik : (i != k) = false) :
    Calls Tryd.prog 11 #[.slice A xs.length c, .int .i64 i, .int .i64 k] w fun e w' => e = .returned (.bool true) ∧ Below w.heap.size w w' := by
  obtain ⟨c_a, x_a, n_a, l_a⟩ := v_a
  have X0_a := Lib.hid x_a; have N_a := Lib.hid n_a; clear x_a n_a
  have S := Lib.hid (speaks_any w hT hw0)
  have T0 := Lib.hid hT; clear hT
  go_enter Tryd.func11, Tryd.ntmps11
  go_wp2_with fail
  refine S.out.mono ?_
  rintro e w1 ⟨rfl, hb⟩
  have B1 := Lib.hid hb
  have X1_a := Lib.hid (X0_a.out.below hb); clear X0_a
  clear hb S
  go_wp2_with fail
  refine (set_p A c xs i w1 X1_a.out (by omega) (by omega) h1 h2).mono ?_
  rintro e w2 ⟨s, A_s, c_s, rfl, k_s, l_s, hx, hf, hb, hp⟩
  have B2 := Lib.hid (B1.out.trans (hb.mono B1.out.size))
  have X2_a := Lib.hid (X1_a.out.below hb); clear X1_a
  clear B1 hb
  have X2_s := Lib.hid hx; have P_s := Lib.hid hp; clear hx hp
  clear hf
  go_wp2_with fail
  refine (clear_p A_s c_s s i w2 X2_s.out (by omega) (by omega) (by omega)).mono ?_
  rintro e w3 ⟨r, A_r, c_r, rfl, k_r, l_r, hx, hf, hb, hp⟩
  have B3 := Lib.hid (B2.out.trans (hb.mono B2.out.size))
  have X3_a := Lib.hid (X2_a.out.below hb); clear X2_a
  have X3_s := Lib.hid (X2_s.out.below hb); clear X2_s
  clear B2 hb
  have X3_r := Lib.hid hx; have P_r := Lib.hid hp; clear hx hp
  clear hf
  go_wp2_with fail
  refine (get_v A_s c_s s i true w3 X3_s.out (by omega) (by omega) (sg_same P_s.out h1)).mono ?_
  rintro e w' ⟨rfl, rfl⟩
  go_wp2_with fail
  refine (get_v A_r c_r r i false w3 X3_r.out (by omega) (by omega) (cg_same P_r.out h1)).mono ?_
  rintro e w' ⟨rfl, rfl⟩
  go_wp2_with fail
  refine (clear_p A_r c_r r i w3 X3_r.out (by omega) (by omega) (by omega)).mono ?_
  rintro e w4 ⟨t, A_t, c_t, rfl, k_t, l_t, hx, hf, hb, hp⟩
  have B4 := Lib.hid (B3.out.trans (hb.mono B3.out.size))
  have X4_a := Lib.hid (X3_a.out.below hb); clear X3_a
  have X4_s := Lib.hid (X3_s.out.below hb); clear X3_s
  have X4_r := Lib.hid (X3_r.out.below hb); clear X3_r
  clear B3 hb
  have X4_t := Lib.hid hx; have P_t := Lib.hid hp; clear hx hp
  clear hf
  go_wp2_with fail
  refine (same_p A_t A_r c_t c_r t r w4 X4_t.out X4_r.out (by omega) (P_t.out.eq P_r.out fun j => by simp only [P_r.out.2, P_s.out.2]; cases decide ((j : Int) = i) <;> simp)).mono ?_
  rintro e w5 ⟨rfl, hb⟩
  have B5 := Lib.hid (B4.out.trans (hb.mono B4.out.size))
  have X5_a := Lib.hid (X4_a.out.below hb); clear X4_a
  have X5_s := Lib.hid (X4_s.out.below hb); clear X4_s
  have X5_r := Lib.hid (X4_r.out.below hb); clear X4_r
  have X5_t := Lib.hid (X4_t.out.below hb); clear X4_t
  clear B4 hb
  go_wp2
  go_ret
  exact ⟨rfl, B5.out⟩

set_option maxHeartbeats 1000000 in
theorem bitsOnce_other (A : Option Addr) (c : Nat) (i k : Int) (xs : List (BitVec 64)) (w : World) (hT : Tab w) (hw0 : 0 < w.heap.size) (v_a : VecArg w A c xs) (h1 : 0 ≤ i) (h2 : i < 65536) (hk : k ≤ 9223372036854775807) (hik : (i != k) = true) :
    Calls Tryd.prog 11 #[.slice A xs.length c, .int .i64 i, .int .i64 k] w fun e w' => e = .returned (.bool true) ∧ Below w.heap.size w w' := by
  obtain ⟨c_a, x_a, n_a, l_a⟩ := v_a
  have X0_a := Lib.hid x_a; have N_a := Lib.hid n_a; clear x_a n_a
  have S := Lib.hid (speaks_any w hT hw0)
  have T0 := Lib.hid hT; clear hT
  go_enter Tryd.func11, Tryd.ntmps11
  go_wp2_with fail
  refine S.out.mono ?_
  rintro e w1 ⟨rfl, hb⟩
  have B1 := Lib.hid hb
  have X1_a := Lib.hid (X0_a.out.below hb); clear X0_a
  clear hb S
  go_wp2_with fail
  refine (set_p A c xs i w1 X1_a.out (by omega) (by omega) h1 h2).mono ?_
  rintro e w2 ⟨s, A_s, c_s, rfl, k_s, l_s, hx, hf, hb, hp⟩
  have B2 := Lib.hid (B1.out.trans (hb.mono B1.out.size))
  have X2_a := Lib.hid (X1_a.out.below hb); clear X1_a
  clear B1 hb
  have X2_s := Lib.hid hx; have P_s := Lib.hid hp; clear hx hp
  clear hf
  go_wp2_with fail
  refine (clear_p A_s c_s s i w2 X2_s.out (by omega) (by omega) (by omega)).mono ?_
  rintro e w3 ⟨r, A_r, c_r, rfl, k_r, l_r, hx, hf, hb, hp⟩
  have B3 := Lib.hid (B2.out.trans (hb.mono B2.out.size))
  have X3_a := Lib.hid (X2_a.out.below hb); clear X2_a
  have X3_s := Lib.hid (X2_s.out.below hb); clear X2_s
  clear B2 hb
  have X3_r := Lib.hid hx; have P_r := Lib.hid hp; clear hx hp
  clear hf
  have hne : Hid (k ≠ i) := by intro h; rw [h] at hik; simp at hik
  obtain ⟨b, hb0⟩ : ∃ b, b = (decide (0 ≤ k) && bit xs k.toNat) := ⟨_, rfl⟩
  have HB0 := Lib.hid hb0; clear hb0
  have gs : Hid ((decide (0 ≤ k) && bit s k.toNat) = b) := (sg_other P_s.out hne.out).trans HB0.out.symm
  have gr : Hid ((decide (0 ≤ k) && bit r k.toNat) = b) := (cg_other P_r.out hne.out).trans gs.out
  have nb : (b != b) = false := by simp
  go_wp2_with fail
  refine (get_v A_s c_s s k b w3 X3_s.out (by omega) hk (gs.out)).mono ?_
  rintro e w' ⟨rfl, rfl⟩
  go_wp2_with fail
  refine (get_v A c xs k b w3 X3_a.out (by omega) hk (HB0.out.symm)).mono ?_
  rintro e w' ⟨rfl, rfl⟩
  go_wp2_with fail
  refine (get_v A_r c_r r k b w3 X3_r.out (by omega) hk (gr.out)).mono ?_
  rintro e w' ⟨rfl, rfl⟩
  go_wp2_with fail
  refine (get_v A c xs k b w3 X3_a.out (by omega) hk (HB0.out.symm)).mono ?_
  rintro e w' ⟨rfl, rfl⟩
  go_wp2_with fail
  refine (get_v A_s c_s s i true w3 X3_s.out (by omega) (by omega) (sg_same P_s.out h1)).mono ?_
  rintro e w' ⟨rfl, rfl⟩
  go_wp2_with fail
  refine (get_v A_r c_r r i false w3 X3_r.out (by omega) (by omega) (cg_same P_r.out h1)).mono ?_
  rintro e w' ⟨rfl, rfl⟩
  go_wp2_with fail
  refine (clear_p A_r c_r r i w3 X3_r.out (by omega) (by omega) (by omega)).mono ?_
  rintro e w4 ⟨t, A_t, c_t, rfl, k_t, l_t, hx, hf, hb, hp⟩
  have B4 := Lib.hid (B3.out.trans (hb.mono B3.out.size))
  have X4_a := Lib.hid (X3_a.out.below hb); clear X3_a
  have X4_s := Lib.hid (X3_s.out.below hb); clear X3_s
  have X4_r := Lib.hid (X3_r.out.below hb); clear X3_r
  clear B3 hb
  have X4_t := Lib.hid hx; have P_t := Lib.hid hp; clear hx hp
  clear hf
  go_wp2_with fail
  refine (same_p A_t A_r c_t c_r t r w4 X4_t.out X4_r.out (by omega) (P_t.out.eq P_r.out fun j => by simp only [P_r.out.2, P_s.out.2]; cases decide ((j : Int) = i) <;> simp)).mono ?_
  rintro e w5 ⟨rfl, hb⟩
  have B5 := Lib.hid (B4.out.trans (hb.mono B4.out.size))
  have X5_a := Lib.hid (X4_a.out.below hb); clear X4_a
  have X5_s := Lib.hid (X4_s.out.below hb); clear X4_s
  have X5_r := Lib.hid (X4_r.out.below hb); clear X4_r
  have X5_t := Lib.hid (X4_t.out.below hb); clear X4_t
  clear B4 hb
  go_wp2
  go_ret
  exact ⟨rfl, B5.out⟩

end Go.Proofs.YtngblecgikhgdaaDoor
