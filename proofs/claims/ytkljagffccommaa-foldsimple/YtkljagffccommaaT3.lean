/- Atoms and what comes so often, given how what stands in a group is read. -/
import Derived.Test.YtkljagffccommaaT2
namespace Go.Proofs.Ytkljagffccommaa
open Go.RowKit

theorem sees_to (g : Nat) (A : Option Addr) (c : Nat) (bs : List Nat) (s : St) (b : Nat) (w : World) (h : Rd w g A c bs s) :
    Calls Try.prog 92 #[.pointer (some ⟨g, 0, none⟩), .int .u8 (b : Nat)] w (To w g A c bs s (.bool (sb bs s.i b))) :=
  (sees_any g A c bs s b w h).mono fun e w' ⟨h1, m, h2⟩ => ⟨h1, by rw [h2]; exact h.drewN m, by rw [h2]; exact (Fg.refl _ _).drewN m⟩
theorem ended_to (g : Nat) (A : Option Addr) (c : Nat) (bs : List Nat) (s : St) (w : World) (h : Rd w g A c bs s) :
    Calls Try.prog 55 #[.pointer (some ⟨g, 0, none⟩)] w (To w g A c bs s (.bool (decide (s.i = bs.length)))) :=
  (ended_any g A c bs s w h).mono fun e w' ⟨h1, m, h2⟩ => ⟨h1, by rw [h2]; exact h.drewN m, by rw [h2]; exact (Fg.refl _ _).drewN m⟩
set_option maxHeartbeats 4000000 in
theorem atom_any (rec : St → Except Nat (Tm × St)) (g : Nat) (A : Option Addr) (c : Nat) (bs : List Nat) (s : St) (w : World) (h : Rd w g A c bs s) (hop : s.op ≤ s.i) (ha : HA g A c bs rec s.i) :
    Calls Try.prog 108 #[.pointer (some ⟨g, 0, none⟩)] w (Does w g A c bs s 1 (atomF rec bs s) (isTm w.heap.size)) := by
  have T0 : Hid (TB (w.alloc (.cells #[.int .i64 0, .int .u64 0, .int .u64 0, .int .u64 0, .int .u64 0, .int .i64 0, .int .i64 0, .slice none 0 0] 29)) w.heap.size zT) := TB.new w zT
  have R0 : Hid (Rd (w.alloc (.cells #[.int .i64 0, .int .u64 0, .int .u64 0, .int .u64 0, .int .u64 0, .int .i64 0, .int .i64 0, .slice none 0 0] 29)) g A c bs s) := h.alloc _
  have F0 : Hid (Fg w (w.alloc (.cells #[.int .i64 0, .int .u64 0, .int .u64 0, .int .u64 0, .int .u64 0, .int .i64 0, .int .i64 0, .slice none 0 0] 29)) g) := (Fg.refl w g).alloc _
  have OL := Lib.hid h.old
  have glt := h.lt
  have HA' := Lib.hid ha
  have nxi : s.nx.i = s.i + 1 := rfl
  have nxo : s.nx.op = s.op := rfl
  clear h ha
  go_enter Try.func108, Try.ntmps108
  have D1 := sees_to g A c bs s 40 _ R0.out
  cases h1 : sb bs s.i 40 with
  | true =>
    rw [h1] at D1
    have D1 := Lib.hid D1
    go_wp2_with fail
    refine D1.out.mono ?_
    rintro e w1 ⟨rfl, hr1, hf1⟩
    have R1 := Lib.hid hr1; have F1 := Lib.hid (F0.out.trans hf1); have T1 := Lib.hid (T0.out.fg hf1 (by omega))
    clear D1 R0 F0 T0 hr1 hf1
    have D9 := group_any rec g A c bs s _ R1.out hop HA'.out
    cases h9 : groupF rec bs s with
    | error p =>
      have E : Hid (atomF rec bs s = .error p) := by show atomF rec bs s = _; unfold atomF; rw [h1]; simp only [if_true]; rw [h9]
      rw [h9] at D9
      have D9 := Lib.hid D9
      go_wp2_with fail
      refine D9.out.mono ?_
      rintro e w9 ⟨rfl, hf9⟩
      go_wp2
      exact ⟨rfl, Does.err E.out (F1.out.trans hf9)⟩
    | ok x =>
      obtain ⟨t, s9⟩ := x
      have E : Hid (atomF rec bs s = .ok (t, s9)) := by show atomF rec bs s = _; unfold atomF; rw [h1]; simp only [if_true]; rw [h9]
      rw [h9] at D9
      have D9 := Lib.hid D9
      clear h9
      go_wp2_with fail
      refine D9.out.mono ?_
      rintro e w9 ⟨v9, rfl, ⟨d9, rfl, hv9⟩, hr9, hf9, hi9, ho9⟩
      have HV := Lib.hid hv9; have R9 := Lib.hid hr9; have F9 := Lib.hid (F1.out.trans hf9); have TT := Lib.hid (T1.out.fg hf9 (by omega))
      have sz1 : w.heap.size < w1.heap.size := T1.out.lt
      clear hv9 hr9 hf9 D9
      unfold TD.val
      obtain ⟨⟨x0, x1, x2, x3, x4, x5, x6, x7⟩, y0, y1, y2, y3, y4, y5, y6, y7⟩ := TT.out.all
      go_wp2
      refine bodyPost_ret (v := TD.val d9) ?_ rfl ?_
      · simp [results, Try.results108, go_sem, TD.val, x0, x1, x2, x3, x4, x5, x6, x7]
      · exact Does.okk E.out ⟨d9, rfl, sn_8 HV.out sz1 (Nat.le_of_lt sz1) _ _ _ _ _ _ _ _⟩ (R9.out.ends8 OL.out (Nat.le_refl _) _ _ _ _ _ _ _ _) (F9.out.ends8 (Nat.le_refl _) _ _ _ _ _ _ _ _) (by omega) ho9
  | false =>
  rw [h1] at D1
  have D1 := Lib.hid D1
  go_wp2_with fail
  refine D1.out.mono ?_
  rintro e w1 ⟨rfl, hr1, hf1⟩
  have R1 := Lib.hid hr1; have F1 := Lib.hid (F0.out.trans hf1); have T1 := Lib.hid (T0.out.fg hf1 (by omega))
  clear D1 R0 F0 T0 hr1 hf1
  have D2 := sees_to g A c bs s 91 _ R1.out
  cases h2 : sb bs s.i 91 with
  | true =>
    rw [h2] at D2
    have D2 := Lib.hid D2
    go_wp2_with fail
    refine D2.out.mono ?_
    rintro e w2 ⟨rfl, hr2, hf2⟩
    have R2 := Lib.hid hr2; have F2 := Lib.hid (F1.out.trans hf2); have T2 := Lib.hid (T1.out.fg hf2 (by omega))
    clear D2 R1 F1 T1 hr2 hf2
    have D9 := class_any g A c bs s _ R2.out
    cases h9 : classF bs s with
    | error p =>
      have E : Hid (atomF rec bs s = .error p) := by show atomF rec bs s = _; unfold atomF; rw [h1, h2]; simp only [Bool.false_eq_true, if_false, if_true]; rw [h9]; rfl
      rw [h9] at D9
      have D9 := Lib.hid D9
      go_wp2_with fail
      refine D9.out.mono ?_
      rintro e w9 ⟨rfl, hf9⟩
      go_wp2
      exact ⟨rfl, Does.err E.out (F2.out.trans hf9)⟩
    | ok x =>
      obtain ⟨f, s9⟩ := x
      have E : Hid (atomF rec bs s = .ok (setT f, s9)) := by show atomF rec bs s = _; unfold atomF; rw [h1, h2]; simp only [Bool.false_eq_true, if_false, if_true]; rw [h9]; rfl
      rw [h9] at D9
      have D9 := Lib.hid D9
      clear h9
      go_wp2_with fail
      refine D9.out.mono ?_
      rintro e w9 ⟨v9, rfl, ⟨q9, rfl, hq9⟩, hr9, hf9, hi9, ho9⟩
      have HQ := Lib.hid hq9; have R9 := Lib.hid hr9; have F9 := Lib.hid (F2.out.trans hf9); have TT := Lib.hid (T2.out.fg hf9 (by omega))
      clear hq9 hr9 hf9 D9
      unfold cw
      obtain ⟨⟨x0, x1, x2, x3, x4, x5, x6, x7⟩, y0, y1, y2, y3, y4, y5, y6, y7⟩ := TT.out.all
      go_wp2
      refine bodyPost_ret (v := TD.val ⟨2, q9, 0, 0, none, 0, 0⟩) ?_ rfl ?_
      · simp [results, Try.results108, go_sem, TD.val, x0, x1, x2, x3, x4, x5, x6, x7]
      · exact Does.okk E.out ⟨⟨2, q9, 0, 0, none, 0, 0⟩, rfl, TV.leaf _ _ _ _ _ _ _ _ _ HQ.out⟩ (R9.out.ends8 OL.out (Nat.le_refl _) _ _ _ _ _ _ _ _) (F9.out.ends8 (Nat.le_refl _) _ _ _ _ _ _ _ _) (by omega) ho9
  | false =>
  rw [h2] at D2
  have D2 := Lib.hid D2
  go_wp2_with fail
  refine D2.out.mono ?_
  rintro e w2 ⟨rfl, hr2, hf2⟩
  have R2 := Lib.hid hr2; have F2 := Lib.hid (F1.out.trans hf2); have T2 := Lib.hid (T1.out.fg hf2 (by omega))
  clear D2 R1 F1 T1 hr2 hf2
  have D3 := sees_to g A c bs s 92 _ R2.out
  cases h3 : sb bs s.i 92 with
  | true =>
    rw [h3] at D3
    have D3 := Lib.hid D3
    go_wp2_with fail
    refine D3.out.mono ?_
    rintro e w3 ⟨rfl, hr3, hf3⟩
    have R3 := Lib.hid hr3; have F3 := Lib.hid (F2.out.trans hf3); have T3 := Lib.hid (T2.out.fg hf3 (by omega))
    clear D3 R2 F2 T2 hr3 hf3
    have D9 := escape_any g A c bs s _ R3.out
    cases h9 : escapeF bs s with
    | error p =>
      have E : Hid (atomF rec bs s = .error p) := by show atomF rec bs s = _; unfold atomF; rw [h1, h2, h3]; simp only [Bool.false_eq_true, if_false, if_true]; rw [h9]; rfl
      rw [h9] at D9
      have D9 := Lib.hid D9
      go_wp2_with fail
      refine D9.out.mono ?_
      rintro e w9 ⟨rfl, hf9⟩
      go_wp2
      exact ⟨rfl, Does.err E.out (F3.out.trans hf9)⟩
    | ok x =>
      obtain ⟨f, s9⟩ := x
      have E : Hid (atomF rec bs s = .ok (setT f, s9)) := by show atomF rec bs s = _; unfold atomF; rw [h1, h2, h3]; simp only [Bool.false_eq_true, if_false, if_true]; rw [h9]; rfl
      rw [h9] at D9
      have D9 := Lib.hid D9
      clear h9
      go_wp2_with fail
      refine D9.out.mono ?_
      rintro e w9 ⟨v9, rfl, ⟨q9, rfl, hq9⟩, hr9, hf9, hi9, ho9⟩
      have HQ := Lib.hid hq9; have R9 := Lib.hid hr9; have F9 := Lib.hid (F3.out.trans hf9); have TT := Lib.hid (T3.out.fg hf9 (by omega))
      clear hq9 hr9 hf9 D9
      unfold cw
      obtain ⟨⟨x0, x1, x2, x3, x4, x5, x6, x7⟩, y0, y1, y2, y3, y4, y5, y6, y7⟩ := TT.out.all
      go_wp2
      refine bodyPost_ret (v := TD.val ⟨2, q9, 0, 0, none, 0, 0⟩) ?_ rfl ?_
      · simp [results, Try.results108, go_sem, TD.val, x0, x1, x2, x3, x4, x5, x6, x7]
      · exact Does.okk E.out ⟨⟨2, q9, 0, 0, none, 0, 0⟩, rfl, TV.leaf _ _ _ _ _ _ _ _ _ HQ.out⟩ (R9.out.ends8 OL.out (Nat.le_refl _) _ _ _ _ _ _ _ _) (F9.out.ends8 (Nat.le_refl _) _ _ _ _ _ _ _ _) (by omega) ho9
  | false =>
  rw [h3] at D3
  have D3 := Lib.hid D3
  go_wp2_with fail
  refine D3.out.mono ?_
  rintro e w3 ⟨rfl, hr3, hf3⟩
  have R3 := Lib.hid hr3; have F3 := Lib.hid (F2.out.trans hf3); have T3 := Lib.hid (T2.out.fg hf3 (by omega))
  clear D3 R2 F2 T2 hr3 hf3
  have D4 := takes_any g A c bs s 46 _ R3.out
  cases h4 : sb bs s.i 46 with
  | true =>
    have E : Hid (atomF rec bs s = .ok (opT 3, s.nx)) := by show atomF rec bs s = _; unfold atomF; rw [h1, h2, h3, h4]; rfl
    rw [h4] at D4
    have D4 := Lib.hid D4
    go_wp2_with fail
    refine D4.out.mono ?_
    rintro e w4 ⟨rfl, hr4, hf4⟩
    replace hr4 : Rd w4 g A c bs s.nx := hr4
    have R4 := Lib.hid hr4; have F4 := Lib.hid (F3.out.trans hf4); have TT := Lib.hid (T3.out.fg hf4 (by omega))
    clear D4 R3 F3 T3 hr4 hf4
    obtain ⟨⟨x0, x1, x2, x3, x4, x5, x6, x7⟩, y0, y1, y2, y3, y4, y5, y6, y7⟩ := TT.out.all
    go_wp2
    refine bodyPost_ret (v := TD.val ⟨3, fun _ => 0#64, 0, 0, none, 0, 0⟩) ?_ rfl ?_
    · simp [results, Try.results108, go_sem, TD.val, uv, x0, x1, x2, x3, x4, x5, x6, x7]
    · exact Does.okk E.out ⟨⟨3, fun _ => 0#64, 0, 0, none, 0, 0⟩, rfl, TV.leaf _ _ _ _ _ _ _ _ _ isK_zero⟩ (R4.out.ends8 OL.out (Nat.le_refl _) _ _ _ _ _ _ _ _) (F4.out.ends8 (Nat.le_refl _) _ _ _ _ _ _ _ _) (by omega) rfl
  | false =>
  rw [h4] at D4
  have D4 := Lib.hid D4
  go_wp2_with fail
  refine D4.out.mono ?_
  rintro e w4 ⟨rfl, hr4, hf4⟩
  replace hr4 : Rd w4 g A c bs s := hr4
  have R4 := Lib.hid hr4; have F4 := Lib.hid (F3.out.trans hf4); have T4 := Lib.hid (T3.out.fg hf4 (by omega))
  clear D4 R3 F3 T3 hr4 hf4
  have D5 := takes_any g A c bs s 94 _ R4.out
  cases h5 : sb bs s.i 94 with
  | true =>
    have E : Hid (atomF rec bs s = .ok (opT 4, s.nx)) := by show atomF rec bs s = _; unfold atomF; rw [h1, h2, h3, h4, h5]; rfl
    rw [h5] at D5
    have D5 := Lib.hid D5
    go_wp2_with fail
    refine D5.out.mono ?_
    rintro e w5 ⟨rfl, hr5, hf5⟩
    replace hr5 : Rd w5 g A c bs s.nx := hr5
    have R5 := Lib.hid hr5; have F5 := Lib.hid (F4.out.trans hf5); have TT := Lib.hid (T4.out.fg hf5 (by omega))
    clear D5 R4 F4 T4 hr5 hf5
    obtain ⟨⟨x0, x1, x2, x3, x4, x5, x6, x7⟩, y0, y1, y2, y3, y4, y5, y6, y7⟩ := TT.out.all
    go_wp2
    refine bodyPost_ret (v := TD.val ⟨4, fun _ => 0#64, 0, 0, none, 0, 0⟩) ?_ rfl ?_
    · simp [results, Try.results108, go_sem, TD.val, uv, x0, x1, x2, x3, x4, x5, x6, x7]
    · exact Does.okk E.out ⟨⟨4, fun _ => 0#64, 0, 0, none, 0, 0⟩, rfl, TV.leaf _ _ _ _ _ _ _ _ _ isK_zero⟩ (R5.out.ends8 OL.out (Nat.le_refl _) _ _ _ _ _ _ _ _) (F5.out.ends8 (Nat.le_refl _) _ _ _ _ _ _ _ _) (by omega) rfl
  | false =>
  rw [h5] at D5
  have D5 := Lib.hid D5
  go_wp2_with fail
  refine D5.out.mono ?_
  rintro e w5 ⟨rfl, hr5, hf5⟩
  replace hr5 : Rd w5 g A c bs s := hr5
  have R5 := Lib.hid hr5; have F5 := Lib.hid (F4.out.trans hf5); have T5 := Lib.hid (T4.out.fg hf5 (by omega))
  clear D5 R4 F4 T4 hr5 hf5
  have D6 := takes_any g A c bs s 36 _ R5.out
  cases h6 : sb bs s.i 36 with
  | true =>
    have E : Hid (atomF rec bs s = .ok (opT 5, s.nx)) := by show atomF rec bs s = _; unfold atomF; rw [h1, h2, h3, h4, h5, h6]; rfl
    rw [h6] at D6
    have D6 := Lib.hid D6
    go_wp2_with fail
    refine D6.out.mono ?_
    rintro e w6 ⟨rfl, hr6, hf6⟩
    replace hr6 : Rd w6 g A c bs s.nx := hr6
    have R6 := Lib.hid hr6; have F6 := Lib.hid (F5.out.trans hf6); have TT := Lib.hid (T5.out.fg hf6 (by omega))
    clear D6 R5 F5 T5 hr6 hf6
    obtain ⟨⟨x0, x1, x2, x3, x4, x5, x6, x7⟩, y0, y1, y2, y3, y4, y5, y6, y7⟩ := TT.out.all
    go_wp2
    refine bodyPost_ret (v := TD.val ⟨5, fun _ => 0#64, 0, 0, none, 0, 0⟩) ?_ rfl ?_
    · simp [results, Try.results108, go_sem, TD.val, uv, x0, x1, x2, x3, x4, x5, x6, x7]
    · exact Does.okk E.out ⟨⟨5, fun _ => 0#64, 0, 0, none, 0, 0⟩, rfl, TV.leaf _ _ _ _ _ _ _ _ _ isK_zero⟩ (R6.out.ends8 OL.out (Nat.le_refl _) _ _ _ _ _ _ _ _) (F6.out.ends8 (Nat.le_refl _) _ _ _ _ _ _ _ _) (by omega) rfl
  | false =>
  rw [h6] at D6
  have D6 := Lib.hid D6
  go_wp2_with fail
  refine D6.out.mono ?_
  rintro e w6 ⟨rfl, hr6, hf6⟩
  replace hr6 : Rd w6 g A c bs s := hr6
  have R6 := Lib.hid hr6; have F6 := Lib.hid (F5.out.trans hf6); have T6 := Lib.hid (T5.out.fg hf6 (by omega))
  clear D6 R5 F5 T5 hr6 hf6
  have D7 : Calls Try.prog 118 #[.pointer (some ⟨g, 0, none⟩), .string { data := #[124, 40, 41, 93, 123, 125, 42, 43, 63] }] w6 (Does w6 g A c bs s 1 (takeButF bs s [124, 40, 41, 93, 123, 125, 42, 43, 63]) (isByte 255)) := takeBut_any g A c bs s { data := #[124, 40, 41, 93, 123, 125, 42, 43, 63] } _ R6.out (by decide)
  have E7 : Hid (atomF rec bs s = thn (takeButF bs s [124, 40, 41, 93, 123, 125, 42, 43, 63]) fun b s' => .ok (setT (rgF b b), s')) := by show atomF rec bs s = _; unfold atomF; rw [h1, h2, h3, h4, h5, h6]; rfl
  clear h1 h2 h3 h4 h5 h6
  cases h7 : takeButF bs s [124, 40, 41, 93, 123, 125, 42, 43, 63] with
  | error p =>
    have E : Hid (atomF rec bs s = .error p) := by show atomF rec bs s = _; rw [E7.out, h7]; rfl
    rw [h7] at D7
    have D7 := Lib.hid D7
    go_wp2_with fail
    refine D7.out.mono ?_
    rintro e w7 ⟨rfl, hf7⟩
    go_wp2
    exact ⟨rfl, Does.err E.out (F6.out.trans hf7)⟩
  | ok x =>
    obtain ⟨b, s7⟩ := x
    have E : Hid (atomF rec bs s = .ok (setT (rgF b b), s7)) := by show atomF rec bs s = _; rw [E7.out, h7]; rfl
    rw [h7] at D7
    have D7 := Lib.hid D7
    clear h7 E7
    go_wp2_with fail
    refine D7.out.mono ?_
    rintro e w7 ⟨v7, rfl, ⟨rfl, hb7⟩, hr7, hf7, hi7, ho7⟩
    have R7 := Lib.hid hr7; have F7 := Lib.hid (F6.out.trans hf7); have T7 := Lib.hid (T6.out.fg hf7 (by omega))
    have D8 := Lib.hid fun W => single_any b W (by omega)
    clear hr7 hf7 D7 R6 F6 T6
    go_wp2_with fail
    refine (D8.out _).mono ?_
    rintro e w8 ⟨q8, rfl, hq8, hb8⟩
    have HQ := Lib.hid hq8; have R8 := step_rd R7 hb8; have F8 := step_fg F7 hb8; have TT := step_tb T7 hb8
    clear hq8 hb8 D8 R7 F7 T7
    unfold cw
    obtain ⟨⟨x0, x1, x2, x3, x4, x5, x6, x7⟩, y0, y1, y2, y3, y4, y5, y6, y7⟩ := TT.out.all
    go_wp2
    refine bodyPost_ret (v := TD.val ⟨2, q8, 0, 0, none, 0, 0⟩) ?_ rfl ?_
    · simp [results, Try.results108, go_sem, TD.val, x0, x1, x2, x3, x4, x5, x6, x7]
    · exact Does.okk E.out ⟨⟨2, q8, 0, 0, none, 0, 0⟩, rfl, TV.leaf _ _ _ _ _ _ _ _ _ HQ.out⟩ (R8.out.ends8 OL.out (Nat.le_refl _) _ _ _ _ _ _ _ _) (F8.out.ends8 (Nat.le_refl _) _ _ _ _ _ _ _ _) (by omega) ho7

def repF (rec : St → Except Nat (Tm × St)) (bs : List Nat) (s : St) : Except Nat (Tm × St) :=
  thn (atomF rec bs s) fun t s1 => thn (quantF bs s1) fun p s2 => .ok (if p.2.2 then .mk 8 noB p.1 p.2.1 [t] else t, s2)
theorem TV.one {w : World} {S : Nat → Prop} {t : Tm} {d : TD} {b : Nat} (h : TV w S t d) (op : Int) (lo hi : Int) (c : Nat) (hb : S b) (hr : Row w b [d]) : TV w S (.mk op noB lo hi [t]) ⟨op, fun _ => 0#64, lo, hi, some ⟨b, 0, none⟩, 1, c⟩ :=
  .mk op noB lo hi [t] _ _ c [d] isK_zero rfl (by simp) (fun i t' d' h1 h2 => by
    cases i with
    | zero => simp at h1 h2; subst h1; subst h2; exact h
    | succ i => simp at h1) (fun _ => ⟨b, rfl, hb, hr⟩)
end Go.Proofs.Ytkljagffccommaa
