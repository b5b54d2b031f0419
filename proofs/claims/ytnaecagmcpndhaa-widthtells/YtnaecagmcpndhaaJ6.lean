/- Atoms and what comes so often, given how what stands in a group is read. Atoms that come so often. What follows one another, and what is chosen among. What follows one another, and what is chosen among: the walks. What is chosen among. -/
import Derived.Test.YtnaecagmcpndhaaJ5
namespace Go.Proofs.Ytnaecagmcpndhaa
open Go.RowKit

theorem sees_to (g : Nat) (A : Option Addr) (c : Nat) (bs : List Nat) (s : St) (b : Nat) (w : World) (h : Rd w g A c bs s) :
    Calls Try.prog 71 #[.pointer (some ⟨g, 0, none⟩), .int .u8 (b : Nat)] w (To w g A c bs s (.bool (sb bs s.i b))) :=
  (sees_any g A c bs s b w h).mono fun e w' ⟨h1, m, h2⟩ => ⟨h1, by rw [h2]; exact h.drewN m, by rw [h2]; exact (Fg.refl _ _).drewN m⟩
theorem ended_to (g : Nat) (A : Option Addr) (c : Nat) (bs : List Nat) (s : St) (w : World) (h : Rd w g A c bs s) :
    Calls Try.prog 57 #[.pointer (some ⟨g, 0, none⟩)] w (To w g A c bs s (.bool (decide (s.i = bs.length)))) :=
  (ended_any g A c bs s w h).mono fun e w' ⟨h1, m, h2⟩ => ⟨h1, by rw [h2]; exact h.drewN m, by rw [h2]; exact (Fg.refl _ _).drewN m⟩
set_option maxHeartbeats 4000000 in
theorem atom_any (rec : St → Except Nat (Tm × St)) (g : Nat) (A : Option Addr) (c : Nat) (bs : List Nat) (s : St) (w : World) (h : Rd w g A c bs s) (hop : s.op ≤ s.i) (ha : HA g A c bs rec s.i) :
    Calls Try.prog 81 #[.pointer (some ⟨g, 0, none⟩)] w (Does w g A c bs s 1 (atomF rec bs s) (isTm w.heap.size)) := by
  have T0 : Hid (TB (w.alloc (.cells #[.int .i64 0, .int .u64 0, .int .u64 0, .int .u64 0, .int .u64 0, .int .i64 0, .int .i64 0, .slice none 0 0] 29)) w.heap.size zT) := TB.new w zT
  have R0 : Hid (Rd (w.alloc (.cells #[.int .i64 0, .int .u64 0, .int .u64 0, .int .u64 0, .int .u64 0, .int .i64 0, .int .i64 0, .slice none 0 0] 29)) g A c bs s) := h.alloc _
  have F0 : Hid (Fg w (w.alloc (.cells #[.int .i64 0, .int .u64 0, .int .u64 0, .int .u64 0, .int .u64 0, .int .i64 0, .int .i64 0, .slice none 0 0] 29)) g) := (Fg.refl w g).alloc _
  have OL := Lib.hid h.old
  have glt := h.lt
  have HA' := Lib.hid ha
  have nxi : s.nx.i = s.i + 1 := rfl
  have nxo : s.nx.op = s.op := rfl
  clear h ha
  go_enter Try.func81, Try.ntmps81
  have D1 := sees_to g A c bs s 40 _ R0.out
  cases h1 : sb bs s.i 40 with
  | true =>
    rw [h1] at D1
    have D1 := Lib.hid D1
    go_wp2_with fail
    refine D1.out.mono ?_
    rintro e w1 ⟨rfl, hr1, hf1⟩
    have R1 := Lib.hid hr1; have F1 := Lib.hid (F0.out.trans hf1); have T1 := Lib.hid (T0.out.fg hf1 (by omega))
    clear D1 R0 F0 T0 hr1 hf1
    have D9 := group_any rec g A c bs s _ R1.out hop HA'.out
    cases h9 : groupF rec bs s with
    | error p =>
      have E : Hid (atomF rec bs s = .error p) := by show atomF rec bs s = _; unfold atomF; rw [h1]; simp only [if_true]; rw [h9]
      rw [h9] at D9
      have D9 := Lib.hid D9
      go_wp2_with fail
      refine D9.out.mono ?_
      rintro e w9 ⟨rfl, hf9⟩
      go_wp2
      exact ⟨rfl, Does.err E.out (F1.out.trans hf9)⟩
    | ok x =>
      obtain ⟨t, s9⟩ := x
      have E : Hid (atomF rec bs s = .ok (t, s9)) := by show atomF rec bs s = _; unfold atomF; rw [h1]; simp only [if_true]; rw [h9]
      rw [h9] at D9
      have D9 := Lib.hid D9
      clear h9
      go_wp2_with fail
      refine D9.out.mono ?_
      rintro e w9 ⟨v9, rfl, ⟨d9, rfl, hv9⟩, hr9, hf9, hi9, ho9⟩
      have HV := Lib.hid hv9; have R9 := Lib.hid hr9; have F9 := Lib.hid (F1.out.trans hf9); have TT := Lib.hid (T1.out.fg hf9 (by omega))
      have sz1 : w.heap.size < w1.heap.size := T1.out.lt
      clear hv9 hr9 hf9 D9
      unfold TD.val
      obtain ⟨⟨x0, x1, x2, x3, x4, x5, x6, x7⟩, y0, y1, y2, y3, y4, y5, y6, y7⟩ := TT.out.all
      go_wp2
      refine bodyPost_ret (v := TD.val d9) ?_ rfl ?_
      · simp [results, Try.results81, go_sem, TD.val, x0, x1, x2, x3, x4, x5, x6, x7]
      · exact Does.okk E.out ⟨d9, rfl, sn_8 HV.out sz1 (Nat.le_of_lt sz1) _ _ _ _ _ _ _ _⟩ (R9.out.ends8 OL.out (Nat.le_refl _) _ _ _ _ _ _ _ _) (F9.out.ends8 (Nat.le_refl _) _ _ _ _ _ _ _ _) (by omega) ho9
  | false =>
  rw [h1] at D1
  have D1 := Lib.hid D1
  go_wp2_with fail
  refine D1.out.mono ?_
  rintro e w1 ⟨rfl, hr1, hf1⟩
  have R1 := Lib.hid hr1; have F1 := Lib.hid (F0.out.trans hf1); have T1 := Lib.hid (T0.out.fg hf1 (by omega))
  clear D1 R0 F0 T0 hr1 hf1
  have D2 := sees_to g A c bs s 91 _ R1.out
  cases h2 : sb bs s.i 91 with
  | true =>
    rw [h2] at D2
    have D2 := Lib.hid D2
    go_wp2_with fail
    refine D2.out.mono ?_
    rintro e w2 ⟨rfl, hr2, hf2⟩
    have R2 := Lib.hid hr2; have F2 := Lib.hid (F1.out.trans hf2); have T2 := Lib.hid (T1.out.fg hf2 (by omega))
    clear D2 R1 F1 T1 hr2 hf2
    have D9 := class_any g A c bs s _ R2.out
    cases h9 : classF bs s with
    | error p =>
      have E : Hid (atomF rec bs s = .error p) := by show atomF rec bs s = _; unfold atomF; rw [h1, h2]; simp only [Bool.false_eq_true, if_false, if_true]; rw [h9]; rfl
      rw [h9] at D9
      have D9 := Lib.hid D9
      go_wp2_with fail
      refine D9.out.mono ?_
      rintro e w9 ⟨rfl, hf9⟩
      go_wp2
      exact ⟨rfl, Does.err E.out (F2.out.trans hf9)⟩
    | ok x =>
      obtain ⟨f, s9⟩ := x
      have E : Hid (atomF rec bs s = .ok (setT f, s9)) := by show atomF rec bs s = _; unfold atomF; rw [h1, h2]; simp only [Bool.false_eq_true, if_false, if_true]; rw [h9]; rfl
      rw [h9] at D9
      have D9 := Lib.hid D9
      clear h9
      go_wp2_with fail
      refine D9.out.mono ?_
      rintro e w9 ⟨v9, rfl, ⟨q9, rfl, hq9⟩, hr9, hf9, hi9, ho9⟩
      have HQ := Lib.hid hq9; have R9 := Lib.hid hr9; have F9 := Lib.hid (F2.out.trans hf9); have TT := Lib.hid (T2.out.fg hf9 (by omega))
      clear hq9 hr9 hf9 D9
      unfold cw
      obtain ⟨⟨x0, x1, x2, x3, x4, x5, x6, x7⟩, y0, y1, y2, y3, y4, y5, y6, y7⟩ := TT.out.all
      go_wp2
      refine bodyPost_ret (v := TD.val ⟨2, q9, 0, 0, none, 0, 0⟩) ?_ rfl ?_
      · simp [results, Try.results81, go_sem, TD.val, x0, x1, x2, x3, x4, x5, x6, x7]
      · exact Does.okk E.out ⟨⟨2, q9, 0, 0, none, 0, 0⟩, rfl, TV.leaf _ _ _ _ _ _ _ _ _ HQ.out⟩ (R9.out.ends8 OL.out (Nat.le_refl _) _ _ _ _ _ _ _ _) (F9.out.ends8 (Nat.le_refl _) _ _ _ _ _ _ _ _) (by omega) ho9
  | false =>
  rw [h2] at D2
  have D2 := Lib.hid D2
  go_wp2_with fail
  refine D2.out.mono ?_
  rintro e w2 ⟨rfl, hr2, hf2⟩
  have R2 := Lib.hid hr2; have F2 := Lib.hid (F1.out.trans hf2); have T2 := Lib.hid (T1.out.fg hf2 (by omega))
  clear D2 R1 F1 T1 hr2 hf2
  have D3 := sees_to g A c bs s 92 _ R2.out
  cases h3 : sb bs s.i 92 with
  | true =>
    rw [h3] at D3
    have D3 := Lib.hid D3
    go_wp2_with fail
    refine D3.out.mono ?_
    rintro e w3 ⟨rfl, hr3, hf3⟩
    have R3 := Lib.hid hr3; have F3 := Lib.hid (F2.out.trans hf3); have T3 := Lib.hid (T2.out.fg hf3 (by omega))
    clear D3 R2 F2 T2 hr3 hf3
    have D9 := escape_any g A c bs s _ R3.out
    cases h9 : escapeF bs s with
    | error p =>
      have E : Hid (atomF rec bs s = .error p) := by show atomF rec bs s = _; unfold atomF; rw [h1, h2, h3]; simp only [Bool.false_eq_true, if_false, if_true]; rw [h9]; rfl
      rw [h9] at D9
      have D9 := Lib.hid D9
      go_wp2_with fail
      refine D9.out.mono ?_
      rintro e w9 ⟨rfl, hf9⟩
      go_wp2
      exact ⟨rfl, Does.err E.out (F3.out.trans hf9)⟩
    | ok x =>
      obtain ⟨f, s9⟩ := x
      have E : Hid (atomF rec bs s = .ok (setT f, s9)) := by show atomF rec bs s = _; unfold atomF; rw [h1, h2, h3]; simp only [Bool.false_eq_true, if_false, if_true]; rw [h9]; rfl
      rw [h9] at D9
      have D9 := Lib.hid D9
      clear h9
      go_wp2_with fail
      refine D9.out.mono ?_
      rintro e w9 ⟨v9, rfl, ⟨q9, rfl, hq9⟩, hr9, hf9, hi9, ho9⟩
      have HQ := Lib.hid hq9; have R9 := Lib.hid hr9; have F9 := Lib.hid (F3.out.trans hf9); have TT := Lib.hid (T3.out.fg hf9 (by omega))
      clear hq9 hr9 hf9 D9
      unfold cw
      obtain ⟨⟨x0, x1, x2, x3, x4, x5, x6, x7⟩, y0, y1, y2, y3, y4, y5, y6, y7⟩ := TT.out.all
      go_wp2
      refine bodyPost_ret (v := TD.val ⟨2, q9, 0, 0, none, 0, 0⟩) ?_ rfl ?_
      · simp [results, Try.results81, go_sem, TD.val, x0, x1, x2, x3, x4, x5, x6, x7]
      · exact Does.okk E.out ⟨⟨2, q9, 0, 0, none, 0, 0⟩, rfl, TV.leaf _ _ _ _ _ _ _ _ _ HQ.out⟩ (R9.out.ends8 OL.out (Nat.le_refl _) _ _ _ _ _ _ _ _) (F9.out.ends8 (Nat.le_refl _) _ _ _ _ _ _ _ _) (by omega) ho9
  | false =>
  rw [h3] at D3
  have D3 := Lib.hid D3
  go_wp2_with fail
  refine D3.out.mono ?_
  rintro e w3 ⟨rfl, hr3, hf3⟩
  have R3 := Lib.hid hr3; have F3 := Lib.hid (F2.out.trans hf3); have T3 := Lib.hid (T2.out.fg hf3 (by omega))
  clear D3 R2 F2 T2 hr3 hf3
  have D4 := takes_any g A c bs s 46 _ R3.out
  cases h4 : sb bs s.i 46 with
  | true =>
    have E : Hid (atomF rec bs s = .ok (opT 3, s.nx)) := by show atomF rec bs s = _; unfold atomF; rw [h1, h2, h3, h4]; rfl
    rw [h4] at D4
    have D4 := Lib.hid D4
    go_wp2_with fail
    refine D4.out.mono ?_
    rintro e w4 ⟨rfl, hr4, hf4⟩
    replace hr4 : Rd w4 g A c bs s.nx := hr4
    have R4 := Lib.hid hr4; have F4 := Lib.hid (F3.out.trans hf4); have TT := Lib.hid (T3.out.fg hf4 (by omega))
    clear D4 R3 F3 T3 hr4 hf4
    obtain ⟨⟨x0, x1, x2, x3, x4, x5, x6, x7⟩, y0, y1, y2, y3, y4, y5, y6, y7⟩ := TT.out.all
    go_wp2
    refine bodyPost_ret (v := TD.val ⟨3, fun _ => 0#64, 0, 0, none, 0, 0⟩) ?_ rfl ?_
    · simp [results, Try.results81, go_sem, TD.val, uv, x0, x1, x2, x3, x4, x5, x6, x7]
    · exact Does.okk E.out ⟨⟨3, fun _ => 0#64, 0, 0, none, 0, 0⟩, rfl, TV.leaf _ _ _ _ _ _ _ _ _ isK_zero⟩ (R4.out.ends8 OL.out (Nat.le_refl _) _ _ _ _ _ _ _ _) (F4.out.ends8 (Nat.le_refl _) _ _ _ _ _ _ _ _) (by omega) rfl
  | false =>
  rw [h4] at D4
  have D4 := Lib.hid D4
  go_wp2_with fail
  refine D4.out.mono ?_
  rintro e w4 ⟨rfl, hr4, hf4⟩
  replace hr4 : Rd w4 g A c bs s := hr4
  have R4 := Lib.hid hr4; have F4 := Lib.hid (F3.out.trans hf4); have T4 := Lib.hid (T3.out.fg hf4 (by omega))
  clear D4 R3 F3 T3 hr4 hf4
  have D5 := takes_any g A c bs s 94 _ R4.out
  cases h5 : sb bs s.i 94 with
  | true =>
    have E : Hid (atomF rec bs s = .ok (opT 4, s.nx)) := by show atomF rec bs s = _; unfold atomF; rw [h1, h2, h3, h4, h5]; rfl
    rw [h5] at D5
    have D5 := Lib.hid D5
    go_wp2_with fail
    refine D5.out.mono ?_
    rintro e w5 ⟨rfl, hr5, hf5⟩
    replace hr5 : Rd w5 g A c bs s.nx := hr5
    have R5 := Lib.hid hr5; have F5 := Lib.hid (F4.out.trans hf5); have TT := Lib.hid (T4.out.fg hf5 (by omega))
    clear D5 R4 F4 T4 hr5 hf5
    obtain ⟨⟨x0, x1, x2, x3, x4, x5, x6, x7⟩, y0, y1, y2, y3, y4, y5, y6, y7⟩ := TT.out.all
    go_wp2
    refine bodyPost_ret (v := TD.val ⟨4, fun _ => 0#64, 0, 0, none, 0, 0⟩) ?_ rfl ?_
    · simp [results, Try.results81, go_sem, TD.val, uv, x0, x1, x2, x3, x4, x5, x6, x7]
    · exact Does.okk E.out ⟨⟨4, fun _ => 0#64, 0, 0, none, 0, 0⟩, rfl, TV.leaf _ _ _ _ _ _ _ _ _ isK_zero⟩ (R5.out.ends8 OL.out (Nat.le_refl _) _ _ _ _ _ _ _ _) (F5.out.ends8 (Nat.le_refl _) _ _ _ _ _ _ _ _) (by omega) rfl
  | false =>
  rw [h5] at D5
  have D5 := Lib.hid D5
  go_wp2_with fail
  refine D5.out.mono ?_
  rintro e w5 ⟨rfl, hr5, hf5⟩
  replace hr5 : Rd w5 g A c bs s := hr5
  have R5 := Lib.hid hr5; have F5 := Lib.hid (F4.out.trans hf5); have T5 := Lib.hid (T4.out.fg hf5 (by omega))
  clear D5 R4 F4 T4 hr5 hf5
  have D6 := takes_any g A c bs s 36 _ R5.out
  cases h6 : sb bs s.i 36 with
  | true =>
    have E : Hid (atomF rec bs s = .ok (opT 5, s.nx)) := by show atomF rec bs s = _; unfold atomF; rw [h1, h2, h3, h4, h5, h6]; rfl
    rw [h6] at D6
    have D6 := Lib.hid D6
    go_wp2_with fail
    refine D6.out.mono ?_
    rintro e w6 ⟨rfl, hr6, hf6⟩
    replace hr6 : Rd w6 g A c bs s.nx := hr6
    have R6 := Lib.hid hr6; have F6 := Lib.hid (F5.out.trans hf6); have TT := Lib.hid (T5.out.fg hf6 (by omega))
    clear D6 R5 F5 T5 hr6 hf6
    obtain ⟨⟨x0, x1, x2, x3, x4, x5, x6, x7⟩, y0, y1, y2, y3, y4, y5, y6, y7⟩ := TT.out.all
    go_wp2
    refine bodyPost_ret (v := TD.val ⟨5, fun _ => 0#64, 0, 0, none, 0, 0⟩) ?_ rfl ?_
    · simp [results, Try.results81, go_sem, TD.val, uv, x0, x1, x2, x3, x4, x5, x6, x7]
    · exact Does.okk E.out ⟨⟨5, fun _ => 0#64, 0, 0, none, 0, 0⟩, rfl, TV.leaf _ _ _ _ _ _ _ _ _ isK_zero⟩ (R6.out.ends8 OL.out (Nat.le_refl _) _ _ _ _ _ _ _ _) (F6.out.ends8 (Nat.le_refl _) _ _ _ _ _ _ _ _) (by omega) rfl
  | false =>
  rw [h6] at D6
  have D6 := Lib.hid D6
  go_wp2_with fail
  refine D6.out.mono ?_
  rintro e w6 ⟨rfl, hr6, hf6⟩
  replace hr6 : Rd w6 g A c bs s := hr6
  have R6 := Lib.hid hr6; have F6 := Lib.hid (F5.out.trans hf6); have T6 := Lib.hid (T5.out.fg hf6 (by omega))
  clear D6 R5 F5 T5 hr6 hf6
  have D7 : Calls Try.prog 88 #[.pointer (some ⟨g, 0, none⟩), .string { data := #[124, 40, 41, 93, 123, 125, 42, 43, 63] }] w6 (Does w6 g A c bs s 1 (takeButF bs s [124, 40, 41, 93, 123, 125, 42, 43, 63]) (isByte 255)) := takeBut_any g A c bs s { data := #[124, 40, 41, 93, 123, 125, 42, 43, 63] } _ R6.out (by decide)
  have E7 : Hid (atomF rec bs s = thn (takeButF bs s [124, 40, 41, 93, 123, 125, 42, 43, 63]) fun b s' => .ok (setT (rgF b b), s')) := by show atomF rec bs s = _; unfold atomF; rw [h1, h2, h3, h4, h5, h6]; rfl
  clear h1 h2 h3 h4 h5 h6
  cases h7 : takeButF bs s [124, 40, 41, 93, 123, 125, 42, 43, 63] with
  | error p =>
    have E : Hid (atomF rec bs s = .error p) := by show atomF rec bs s = _; rw [E7.out, h7]; rfl
    rw [h7] at D7
    have D7 := Lib.hid D7
    go_wp2_with fail
    refine D7.out.mono ?_
    rintro e w7 ⟨rfl, hf7⟩
    go_wp2
    exact ⟨rfl, Does.err E.out (F6.out.trans hf7)⟩
  | ok x =>
    obtain ⟨b, s7⟩ := x
    have E : Hid (atomF rec bs s = .ok (setT (rgF b b), s7)) := by show atomF rec bs s = _; rw [E7.out, h7]; rfl
    rw [h7] at D7
    have D7 := Lib.hid D7
    clear h7 E7
    go_wp2_with fail
    refine D7.out.mono ?_
    rintro e w7 ⟨v7, rfl, ⟨rfl, hb7⟩, hr7, hf7, hi7, ho7⟩
    have R7 := Lib.hid hr7; have F7 := Lib.hid (F6.out.trans hf7); have T7 := Lib.hid (T6.out.fg hf7 (by omega))
    have D8 := Lib.hid fun W => single_any b W (by omega)
    clear hr7 hf7 D7 R6 F6 T6
    go_wp2_with fail
    refine (D8.out _).mono ?_
    rintro e w8 ⟨q8, rfl, hq8, hb8⟩
    have HQ := Lib.hid hq8; have R8 := step_rd R7 hb8; have F8 := step_fg F7 hb8; have TT := step_tb T7 hb8
    clear hq8 hb8 D8 R7 F7 T7
    unfold cw
    obtain ⟨⟨x0, x1, x2, x3, x4, x5, x6, x7⟩, y0, y1, y2, y3, y4, y5, y6, y7⟩ := TT.out.all
    go_wp2
    refine bodyPost_ret (v := TD.val ⟨2, q8, 0, 0, none, 0, 0⟩) ?_ rfl ?_
    · simp [results, Try.results81, go_sem, TD.val, x0, x1, x2, x3, x4, x5, x6, x7]
    · exact Does.okk E.out ⟨⟨2, q8, 0, 0, none, 0, 0⟩, rfl, TV.leaf _ _ _ _ _ _ _ _ _ HQ.out⟩ (R8.out.ends8 OL.out (Nat.le_refl _) _ _ _ _ _ _ _ _) (F8.out.ends8 (Nat.le_refl _) _ _ _ _ _ _ _ _) (by omega) ho7

def repF (rec : St → Except Nat (Tm × St)) (bs : List Nat) (s : St) : Except Nat (Tm × St) :=
  thn (atomF rec bs s) fun t s1 => thn (quantF bs s1) fun p s2 => .ok (if p.2.2 then .mk 8 noB p.1 p.2.1 [t] else t, s2)
theorem TV.one {w : World} {S : Nat → Prop} {t : Tm} {d : TD} {b : Nat} (h : TV w S t d) (op : Int) (lo hi : Int) (c : Nat) (hb : S b) (hr : Row w b [d]) : TV w S (.mk op noB lo hi [t]) ⟨op, fun _ => 0#64, lo, hi, some ⟨b, 0, none⟩, 1, c⟩ :=
  .mk op noB lo hi [t] _ _ c [d] isK_zero rfl (by simp) (fun i t' d' h1 h2 => by
    cases i with
    | zero => simp at h1 h2; subst h1; subst h2; exact h
    | succ i => simp at h1) (fun _ => ⟨b, rfl, hb, hr⟩)
end Go.Proofs.Ytnaecagmcpndhaa
namespace Go.Proofs.Ytnaecagmcpndhaa
open Go.RowKit
theorem TB.set8 {w : World} {k : Nat} {d0 : TD} (h : TB w k d0) (d : TD) : TB (set8 w k (.int .i64 d.op) (.int .u64 (uv (d.q 0))) (.int .u64 (uv (d.q 1))) (.int .u64 (uv (d.q 2))) (.int .u64 (uv (d.q 3))) (.int .i64 d.lo) (.int .i64 d.hi) (.slice d.A d.n d.c)) k d := by
  unfold TB at h ⊢
  simp [Go.Proofs.Ytnaecagmcpndhaa.set8, World.setCell, Array.getElem?_modify, h, TD.cells]
theorem res72 (W : World) (k : Nat) (d : TD) (T : Array Value) (h : TB W k d) (hT : T[2]? = some (.pointer (some ⟨k, 0, none⟩))) : (results Try.f72 T).run Try.prog W = .ok d.val W := by
  obtain ⟨⟨x0, x1, x2, x3, x4, x5, x6, x7⟩, _⟩ := h.all
  simp [results, Try.results72, go_sem, TD.val, hT, x0, x1, x2, x3, x4, x5, x6, x7]
theorem one_new {W : World} {N m g : Nat} {t : Tm} {d : TD} (h : TV W (Sn (N + 1) W) t d) (hg : g < N) (hs : W.heap.size = m) (hN : N < m) (op : Int) (lo hi : Int) :
    TV (W.alloc (.cells d.cells 29)) (Sn N (W.alloc (.cells d.cells 29))) (.mk op noB lo hi [t]) ⟨op, fun _ => 0#64, lo, hi, some ⟨m, 0, none⟩, 1, 1⟩ := by
  subst hs
  refine TV.one (sn_to h ((Fg.refl W g).alloc _) (by omega) (by omega)) op lo hi 1 ⟨by omega, by simp⟩ ?_
  obtain ⟨b', e', hr'⟩ := (ownt_one W d).row (by simp)
  injection e' with e'; injection e' with e'
  subst e'; exact hr'

set_option maxHeartbeats 4000000 in
theorem rep_any (rec : St → Except Nat (Tm × St)) (g : Nat) (A : Option Addr) (c : Nat) (bs : List Nat) (s : St) (w : World) (h : Rd w g A c bs s) (hop : s.op ≤ s.i) (ha : HA g A c bs rec s.i) :
    Calls Try.prog 72 #[.pointer (some ⟨g, 0, none⟩)] w (Does w g A c bs s 1 (repF rec bs s) (isTm w.heap.size)) := by
  have T0 : Hid (TB (w.alloc (.cells #[.int .i64 0, .int .u64 0, .int .u64 0, .int .u64 0, .int .u64 0, .int .i64 0, .int .i64 0, .slice none 0 0] 29)) w.heap.size zT) := TB.new w zT
  have R0 : Hid (Rd (w.alloc (.cells #[.int .i64 0, .int .u64 0, .int .u64 0, .int .u64 0, .int .u64 0, .int .i64 0, .int .i64 0, .slice none 0 0] 29)) g A c bs s) := h.alloc _
  have F0 : Hid (Fg w (w.alloc (.cells #[.int .i64 0, .int .u64 0, .int .u64 0, .int .u64 0, .int .u64 0, .int .i64 0, .int .i64 0, .slice none 0 0] 29)) g) := (Fg.refl w g).alloc _
  have OL := Lib.hid h.old
  have glt := h.lt
  have D1 := atom_any rec g A c bs s _ R0.out hop ha
  have sz0 : (w.alloc (.cells #[.int .i64 0, .int .u64 0, .int .u64 0, .int .u64 0, .int .u64 0, .int .i64 0, .int .i64 0, .slice none 0 0] 29)).heap.size = w.heap.size + 1 := World.size_alloc w _
  rw [sz0] at D1
  clear h ha R0
  cases h1 : atomF rec bs s with
  | error p =>
    have E : Hid (repF rec bs s = .error p) := by show repF rec bs s = _; unfold repF; rw [h1]; rfl
    rw [h1] at D1
    have D1 := Lib.hid D1
    go_enter Try.func72, Try.ntmps72
    go_wp2_with fail
    refine D1.out.mono ?_
    rintro e w2 ⟨rfl, hf2⟩
    go_wp2
    exact ⟨rfl, Does.err E.out (F0.out.trans hf2)⟩
  | ok x =>
  obtain ⟨t, s1⟩ := x
  rw [h1] at D1
  have D1 := Lib.hid D1
  have E1 : Hid (repF rec bs s = thn (quantF bs s1) fun p s2 => .ok (if p.2.2 then .mk 8 noB p.1 p.2.1 [t] else t, s2)) := by show repF rec bs s = _; unfold repF; rw [h1]; rfl
  clear h1
  go_enter Try.func72, Try.ntmps72
  go_wp2_with fail
  refine D1.out.mono ?_
  rintro e w1 ⟨v1, rfl, ⟨d, rfl, hv⟩, hr1, hf1, hi1, ho1⟩
  have R1 := Lib.hid (hr1.alloc (.cells d.cells 29)); have F1 : Hid (Fg w (w1.alloc (.cells d.cells 29)) g) := (F0.out.trans hf1).alloc _
  have T1 := Lib.hid ((T0.out.fg hf1 (by omega)).alloc (.cells d.cells 29))
  have K1 := Lib.hid (TB.new w1 d)
  have V1 : Hid (TV (w1.alloc (.cells d.cells 29)) (Sn (w.heap.size + 1) (w1.alloc (.cells d.cells 29))) t d) := sn_to hv ((Fg.refl w1 g).alloc _) (by omega) (Nat.le_refl _)
  have sz1 := hf1.size
  rw [sz0] at sz1
  have D2 := quant_any g A c bs s1 _ R1.out
  clear hv hr1 hf1 D1 T0 F0
  unfold TD.cells at R1 F1 T1 K1 V1 D2
  unfold TD.val
  cases h2 : quantF bs s1 with
  | error p =>
    have E : Hid (repF rec bs s = .error p) := by show repF rec bs s = _; rw [E1.out, h2]; rfl
    rw [h2] at D2
    have D2 := Lib.hid D2
    go_wp2_with fail
    refine D2.out.mono ?_
    rintro e w2 ⟨rfl, hf2⟩
    go_wp2
    exact ⟨rfl, Does.err E.out (F1.out.trans hf2)⟩
  | ok x =>
  obtain ⟨⟨lo, hi, b⟩, s2⟩ := x
  have E2 : Hid (repF rec bs s = .ok (if b then .mk 8 noB lo hi [t] else t, s2)) := by show repF rec bs s = _; rw [E1.out, h2]; rfl
  rw [h2] at D2
  have D2 := Lib.hid D2
  clear h2 E1
  go_wp2_with fail
  refine D2.out.mono ?_
  rintro e w2 ⟨v2, rfl, rfl, hr2, hf2, hi2, ho2⟩
  have R2 := Lib.hid hr2; have F2 := Lib.hid (F1.out.trans hf2); have T2 := Lib.hid (T1.out.fg hf2 (by omega)); have K2 := Lib.hid (K1.out.fg hf2 (by omega))
  have V2 := Lib.hid (sn_to V1.out hf2 (by omega) (Nat.le_refl _))
  clear hr2 hf2 D2 R1 F1 T1 K1 V1
  cases b with
  | false =>
    obtain ⟨⟨x0, x1, x2, x3, x4, x5, x6, x7⟩, y0, y1, y2, y3, y4, y5, y6, y7⟩ := T2.out.all
    obtain ⟨⟨k0, k1, k2, k3, k4, k5, k6, k7⟩, _⟩ := K2.out.all
    go_wp2
    refine bodyPost_ret (v := d.val) ?_ rfl ?_
    · simp [results, Try.results72, go_sem, TD.val, x0, x1, x2, x3, x4, x5, x6, x7]
    · exact Does.okk E2.out ⟨d, rfl, sn_8 V2.out (by omega) (by omega) _ _ _ _ _ _ _ _⟩ (R2.out.ends8 OL.out (Nat.le_refl _) _ _ _ _ _ _ _ _) (F2.out.ends8 (Nat.le_refl _) _ _ _ _ _ _ _ _) (by omega) (by omega)
  | true =>
    obtain ⟨⟨k0, k1, k2, k3, k4, k5, k6, k7⟩, _⟩ := K2.out.all
    obtain ⟨⟨x0, x1, x2, x3, x4, x5, x6, x7⟩, y0, y1, y2, y3, y4, y5, y6, y7⟩ := T2.out.all
    have sz2 := T2.out.lt
    have sz3 := K2.out.lt
    have TZ := Lib.hid ((T2.out.set8 ⟨8, fun _ => 0#64, lo, hi, some ⟨w2.heap.size, 0, none⟩, 1, 1⟩).alloc (.cells d.cells 29))
    have RZ := Lib.hid ((R2.out.ends8 OL.out (Nat.le_refl w.heap.size) (.int .i64 8) (.int .u64 0) (.int .u64 0) (.int .u64 0) (.int .u64 0) (.int .i64 lo) (.int .i64 hi) (.slice (some ⟨w2.heap.size, 0, none⟩) 1 1)).alloc (.cells d.cells 29))
    have FZ : Hid (Fg w ((set8 w2 w.heap.size (.int .i64 8) (.int .u64 0) (.int .u64 0) (.int .u64 0) (.int .u64 0) (.int .i64 lo) (.int .i64 hi) (.slice (some ⟨w2.heap.size, 0, none⟩) 1 1)).alloc (.cells d.cells 29)) g) := (F2.out.ends8 (Nat.le_refl _) _ _ _ _ _ _ _ _).alloc _
    have VZ : Hid (TV ((set8 w2 w.heap.size (.int .i64 8) (.int .u64 0) (.int .u64 0) (.int .u64 0) (.int .u64 0) (.int .i64 lo) (.int .i64 hi) (.slice (some ⟨w2.heap.size, 0, none⟩) 1 1)).alloc (.cells d.cells 29)) (Sn w.heap.size ((set8 w2 w.heap.size (.int .i64 8) (.int .u64 0) (.int .u64 0) (.int .u64 0) (.int .u64 0) (.int .i64 lo) (.int .i64 hi) (.slice (some ⟨w2.heap.size, 0, none⟩) 1 1)).alloc (.cells d.cells 29))) (.mk 8 noB lo hi [t]) ⟨8, fun _ => 0#64, lo, hi, some ⟨w2.heap.size, 0, none⟩, 1, 1⟩) := by
      have h1 := sn_8 V2.out (k := w.heap.size) (M := w.heap.size + 1) (by omega) (Nat.le_refl _) (.int .i64 8) (.int .u64 0) (.int .u64 0) (.int .u64 0) (.int .u64 0) (.int .i64 lo) (.int .i64 hi) (.slice (some ⟨w2.heap.size, 0, none⟩) 1 1)
      exact one_new h1 glt (set8_size w2 _ _ _ _ _ _ _ _ _) (by omega) 8 lo hi
    have RES : Hid (∀ T : Array Value, T[2]? = some (.pointer (some ⟨w.heap.size, 0, none⟩)) → (results Try.f72 T).run Try.prog ((set8 w2 w.heap.size (.int .i64 8) (.int .u64 0) (.int .u64 0) (.int .u64 0) (.int .u64 0) (.int .i64 lo) (.int .i64 hi) (.slice (some ⟨w2.heap.size, 0, none⟩) 1 1)).alloc (.cells d.cells 29)) = .ok (TD.val ⟨8, fun _ => 0#64, lo, hi, some ⟨w2.heap.size, 0, none⟩, 1, 1⟩) ((set8 w2 w.heap.size (.int .i64 8) (.int .u64 0) (.int .u64 0) (.int .u64 0) (.int .u64 0) (.int .i64 lo) (.int .i64 hi) (.slice (some ⟨w2.heap.size, 0, none⟩) 1 1)).alloc (.cells d.cells 29))) := fun T hT => res72 _ _ _ _ TZ.out hT
    have I2 : Hid (s.i + 1 ≤ s2.i ∧ s2.op = s.op) := ⟨by omega, by omega⟩
    clear T2 R2 F2 V2 K2 TZ hi1 ho1 hi2 ho2 sz1 glt
    go_wp2
    refine bodyPost_ret (v := TD.val ⟨8, fun _ => 0#64, lo, hi, some ⟨w2.heap.size, 0, none⟩, 1, 1⟩) (RES.out _ rfl) rfl ?_
    exact Does.okk E2.out ⟨_, rfl, VZ.out⟩ RZ.out FZ.out I2.out.1 I2.out.2
end Go.Proofs.Ytnaecagmcpndhaa
namespace Go.Proofs.Ytnaecagmcpndhaa
open Go.RowKit

/-- a row of terms that was made from block N on -/
structure Kd (wr : World) (N : Nat) (A : Option Addr) (c : Nat) (ds : List TD) (ts : List Tm) : Prop where
  own : OwnT wr A c ds
  len : ds.length = ts.length
  el : ∀ (i : Nat) (t : Tm) (d : TD), ts[i]? = some t → ds[i]? = some d → TV wr (fun k => Sn N wr k ∧ some k ≠ ow A) t d
  blk : ∀ k, ow A = some k → N ≤ k
section
variable {w w' : World} {N M g : Nat} {A A' : Option Addr} {c c' : Nat} {ds ds' : List TD} {ts : List Tm} {t : Tm} {d : TD}
theorem Kd.fg (h : Kd w N A c ds ts) (hf : Fg w w' g) (hg : g < N) : Kd w' N A c ds ts :=
  ⟨h.own.blocks fun k hk => hf.block k (h.own.lt hk) (by have := h.blk k hk; omega), h.len, fun i t d h1 h2 => (h.el i t d h1 h2).to fun k hk => ⟨⟨⟨hk.1.1, Nat.lt_of_lt_of_le hk.1.2 hf.size⟩, hk.2⟩, fun hlt => hf.block k hlt (by have := hk.1.1; omega)⟩, h.blk⟩
theorem Kd.nil (w : World) (N : Nat) : Kd w N none 0 [] [] := ⟨ownt_nil w, rfl, fun i t d h => by simp at h, fun k h => by cases h⟩
theorem Kd.push (h : Kd w N A c ds ts) (hN : N ≤ w.heap.size) (hv : TV w (Sn M w) t d) (hM : N ≤ M) (hA : ∀ k, ow A = some k → k < M) (hd : ds' = ds ++ [d]) (ho : OwnT w' A' c' ds') (hg : w.grownBy w' (ow A)) (hr : Nr w A A') : Kd w' N A' c' ds' (ts ++ [t]) := by
  subst hd
  have ne' : ∀ k, k < w.heap.size → some k ≠ ow A → some k ≠ ow A' := fun k hk hne e => by
    rcases hr with e2 | ⟨j, e2, hj⟩
    · exact hne (by rw [← e2]; exact e)
    · rw [e2] at e; injection e with e; omega
  refine ⟨ho, by simp [h.len], fun i t' d' h1 h2 => ?_, fun k hk => ?_⟩
  · rcases Nat.lt_or_ge i ts.length with hi | hi
    · rw [List.getElem?_append_left hi] at h1
      rw [List.getElem?_append_left (by rw [h.len]; exact hi)] at h2
      exact (h.el i t' d' h1 h2).to fun k hk => ⟨⟨⟨hk.1.1, Nat.lt_of_lt_of_le hk.1.2 hg.size⟩, ne' k hk.1.2 hk.2⟩, fun hlt => hg.block k hlt hk.2⟩
    · have e1 : i = ts.length := by
        rcases Nat.lt_or_ge ts.length i with h' | h'
        · rw [List.getElem?_eq_none (by simp; omega)] at h1; cases h1
        · omega
      subst e1
      rw [List.getElem?_append_right (Nat.le_refl _)] at h1
      rw [List.getElem?_append_right (by rw [h.len]; exact Nat.le_refl _), h.len] at h2
      simp at h1 h2
      subst h1; subst h2
      refine hv.to fun k hk => ?_
      have hne : some k ≠ ow A := fun e => by have := hA k e.symm; have := hk.1; omega
      exact ⟨⟨⟨Nat.le_trans hM hk.1, Nat.lt_of_lt_of_le hk.2 hg.size⟩, ne' k hk.2 hne⟩, fun hlt => hg.block k hlt hne⟩
  · rcases hr with e2 | ⟨j, e2, hj⟩
    · exact h.blk k (by rw [← e2]; exact hk)
    · rw [e2] at hk
      injection hk with hk
      subst hk
      omega
theorem Kd.tv (h : Kd w N A c ds ts) (op : Int) (hn : ts.length ≤ 1048576) : TV w (Sn N w) (.mk op noB 0 0 ts) ⟨op, fun _ => 0#64, 0, 0, A, ds.length, c⟩ := by
  rw [h.len]
  refine .mk op noB 0 0 ts _ A c ds isK_zero h.len hn (fun i t d h1 h2 => (h.el i t d h1 h2).to fun k hk => ⟨hk.1, fun _ => rfl⟩) fun h0 => ?_
  obtain ⟨b, e, hr⟩ := h.own.row (by rw [h.len]; exact h0)
  exact ⟨b, e, ⟨h.blk b (by rw [e]; rfl), h.own.lt (by rw [e]; rfl)⟩, hr⟩
theorem Kd.first (h : Kd w N A c ds [t]) : ∃ b d, A = some ⟨b, 0, none⟩ ∧ ds = [d] ∧ b < w.heap.size ∧ TV w (Sn N w) t d ∧ (w.cell? ⟨b, 0, none⟩ = some (.int .i64 d.op) ∧ w.cell? ⟨b, 1, none⟩ = some (.int .u64 (uv (d.q 0))) ∧ w.cell? ⟨b, 2, none⟩ = some (.int .u64 (uv (d.q 1))) ∧ w.cell? ⟨b, 3, none⟩ = some (.int .u64 (uv (d.q 2))) ∧ w.cell? ⟨b, 4, none⟩ = some (.int .u64 (uv (d.q 3))) ∧ w.cell? ⟨b, 5, none⟩ = some (.int .i64 d.lo) ∧ w.cell? ⟨b, 6, none⟩ = some (.int .i64 d.hi) ∧ w.cell? ⟨b, 7, none⟩ = some (.slice d.A d.n d.c)) := by
  have hl := h.len
  match ds, hl with
  | [d], _ =>
    obtain ⟨b, e, hr⟩ := h.own.row (by simp)
    have hc := fun j hj => hr.cell (i := 0) (d := d) rfl j hj
    simp only [Nat.zero_mul, Nat.zero_add] at hc
    refine ⟨b, d, e, rfl, h.own.lt (by rw [e]; rfl), (h.el 0 t d rfl rfl).to fun k hk => ⟨hk.1, fun _ => rfl⟩, ?_⟩
    exact ⟨hc 0 (by omega), hc 1 (by omega), hc 2 (by omega), hc 3 (by omega), hc 4 (by omega), hc 5 (by omega), hc 6 (by omega), hc 7 (by omega)⟩
end
theorem HA.mono {g : Nat} {A : Option Addr} {c : Nat} {bs : List Nat} {rec : St → Except Nat (Tm × St)} {i j : Nat} (h : HA g A c bs rec i) (hij : i ≤ j) : HA g A c bs rec j := fun w s hs => h w s (by omega)

def catT : List Tm → Tm
  | [] => opT 1
  | [t] => t
  | ts => .mk 6 noB 0 0 ts
def catL (rec : St → Except Nat (Tm × St)) (bs : List Nat) : Nat → List Tm → St → Except Nat (List Tm × St)
  | 0, _, s => .error s.i
  | n + 1, ts, s => if s.i = bs.length ∨ sb bs s.i 124 = true ∨ sb bs s.i 41 = true then .ok (ts, s) else thn (repF rec bs s) fun t s' => catL rec bs n (ts ++ [t]) s'
def catF (rec : St → Except Nat (Tm × St)) (bs : List Nat) (s : St) : Except Nat (Tm × St) := thn (catL rec bs (bs.length + 1) [] s) fun ts s' => .ok (catT ts, s')
/-- what the loops carry -/
structure Lp (w wr : World) (g : Nat) (A : Option Addr) (c : Nat) (bs : List Nat) (s : St) (K : Option Addr) (ck : Nat) (ds : List TD) (ts : List Tm) (s' : St) : Prop where
  kd : Kd wr (w.heap.size + 1) K ck ds ts
  rd : Rd wr g A c bs s'
  fg : Fg w wr g
  tb : TB wr w.heap.size zT
  i : s.i + ts.length ≤ s'.i + 1
  i0 : s.i ≤ s'.i
  op : s'.op = s.op
section
variable {w wr w' w'' : World} {g : Nat} {A : Option Addr} {c : Nat} {bs : List Nat} {s s' s2 : St} {K K' : Option Addr} {ck ck' : Nat} {ds ds' : List TD} {ts : List Tm} {t : Tm} {d : TD}
theorem Lp.to (h : Lp w wr g A c bs s K ck ds ts s') (hg : g < w.heap.size) (hf : Fg wr w' g) (hr : Rd w' g A c bs s2) (hi : s'.i ≤ s2.i) (ho : s2.op = s'.op) : Lp w w' g A c bs s K ck ds ts s2 :=
  ⟨h.kd.fg hf (by omega), hr, h.fg.trans hf, h.tb.fg hf (by omega), by have := h.i; omega, by have := h.i0; omega, by rw [ho, h.op]⟩
theorem Lp.drewN (h : Lp w wr g A c bs s K ck ds ts s') (hg : g < w.heap.size) (n : Nat) : Lp w (wr.drewN n) g A c bs s K ck ds ts s' := h.to hg ((Fg.refl _ _).drewN n) (h.rd.drewN n) (Nat.le_refl _) rfl
/-- a term was read, and laid behind the row -/
theorem Lp.push (h : Lp w wr g A c bs s K ck ds ts s') (hg : g < w.heap.size) (ol : Old A bs g w.heap.size) (hf : Fg wr w' g) (hr : Rd w' g A c bs s2) (hi : s'.i + 1 ≤ s2.i) (ho : s2.op = s'.op) (hv : TV w' (Sn wr.heap.size w') t d)
    (hd : ds' = ds ++ [d]) (hown : OwnT w'' K' ck' ds') (hgr : (w'.alloc (.cells d.cells 29)).grownBy w'' (ow K)) (hnr : Nr (w'.alloc (.cells d.cells 29)) K K') : Lp w w'' g A c bs s K' ck' ds' (ts ++ [t]) s2 := by
  have hf2 : Fg wr (w'.alloc (.cells d.cells 29)) g := hf.alloc _
  have hkd := h.kd.fg hf2 (by omega)
  have htw := h.tb.lt
  have hnk : ∀ k, k < w.heap.size + 1 → some k ≠ ow K := fun k hk e => by have := h.kd.blk k e.symm; omega
  have hfg : Fg w w'' g := by
    have h1 := (h.fg.trans hf2)
    exact ⟨hgr.os.trans h1.os, hgr.tape.trans h1.tape, hgr.output.trans h1.output, Nat.le_trans h1.size hgr.size, fun k hk hne => (hgr.block k (Nat.lt_of_lt_of_le hk h1.size) (hnk k (by omega))).trans (h1.block k hk hne)⟩
  have hglt : g < w'.heap.size := by have := hr.lt; exact this
  have hrd : Rd w'' g A c bs s2 := by
    have h1 := hr.alloc (.cells d.cells 29)
    refine ⟨(hgr.block g h1.lt (hnk g (by omega))).trans h1.block, h1.text.blocks hgr.size fun h0 k hk hlt => hgr.block k hlt ?_, h1.far, h1.le, h1.op, h1.len⟩
    exact hnk k (by have := ol.tx h0 k hk; omega)
  exact ⟨hkd.push (by have := hf2.size; omega) (sn_to hv ((Fg.refl w' g).alloc _) (by have := h.rd.lt; omega) (Nat.le_refl _)) (by omega) (fun k hk => h.kd.own.lt hk) hd hown hgr hnr, hrd, hfg, (hgr.block w.heap.size (by have := hf2.size; omega) (hnk _ (by omega))).trans (h.tb.fg hf2 (by omega)), by have := h.i; simp; omega, by have := h.i0; omega, by rw [ho, h.op]⟩
end
end Go.Proofs.Ytnaecagmcpndhaa
namespace Go.Proofs.Ytnaecagmcpndhaa
open Go.RowKit

set_option maxHeartbeats 8000000 in
theorem cat_any (rec : St → Except Nat (Tm × St)) (g : Nat) (A : Option Addr) (c : Nat) (bs : List Nat) (s : St) (w : World) (h : Rd w g A c bs s) (hop : s.op ≤ s.i) (ha : HA g A c bs rec s.i) :
    Calls Try.prog 62 #[.pointer (some ⟨g, 0, none⟩)] w (Does w g A c bs s 0 (catF rec bs s) (isTm w.heap.size)) := by
  have OL := Lib.hid h.old
  have glt := h.lt
  have HA' := Lib.hid ha
  have L0 : Hid (Lp w (w.alloc (.cells #[.int .i64 0, .int .u64 0, .int .u64 0, .int .u64 0, .int .u64 0, .int .i64 0, .int .i64 0, .slice none 0 0] 29)) g A c bs s none 0 [] [] s) := ⟨Kd.nil _ _, h.alloc _, (Fg.refl w g).alloc _, TB.new w zT, by simp, Nat.le_refl _, rfl⟩
  obtain ⟨R, hR⟩ : ∃ R, catL rec bs (bs.length + 1) [] s = R := ⟨_, rfl⟩
  have E0 : Hid (catF rec bs s = thn R fun ts s' => .ok (catT ts, s')) := by show catF rec bs s = _; unfold catF; rw [hR]
  have HR := Lib.hid hR
  clear h ha hR
  go_enter Try.func62, Try.ntmps62
  go_wp2_with fail
  go_loopw [3] (fun v wr => ∃ (n : Nat) (ts : List Tm) (ds : List TD) (K : Option Addr) (ck : Nat) (s' : St), v = .slice K ds.length ck ∧ Hid (catL rec bs n ts s' = R) ∧ bs.length < n + s'.i ∧ Lp w wr g A c bs s K ck ds ts s') (fun _ wr => bs.length + 1 - posOf wr g)
  case atStart => exact ⟨bs.length + 1, [], [], none, 0, s, rfl, HR, by omega, L0.out⟩
  case round =>
    obtain ⟨n, ts, ds, K, ck, s', rfl, hcl, hn, hL⟩ := hrel
    clear HR L0
    have hle := hL.rd.le
    have hpos := hL.rd.pos
    have hlen := hL.rd.len
    have D1 := ended_to g A c bs s' wr hL.rd
    have L1 := Lib.hid hL
    clear hL
    cases n with
    | zero => exact absurd hn (by omega)
    | succ n =>
    by_cases he : s'.i = bs.length
    · have E : Hid (catF rec bs s = .ok (catT ts, s')) := by show catF rec bs s = _; rw [E0.out, ← hcl.out, catL, if_pos (.inl he)]; rfl
      rw [decide_eq_true he] at D1
      have D1 := Lib.hid D1
      clear hcl E0 he
      go_wp2_with fail
      refine D1.out.mono ?_
      rintro e w1 ⟨rfl, hrw1, hfw1⟩
      have L4 := Lib.hid (L1.out.to glt hfw1 hrw1 (Nat.le_refl _) rfl)
      clear hrw1 hfw1
      clear D1 L1
      have hts := L4.out.kd.len
      obtain ⟨⟨x0, x1, x2, x3, x4, x5, x6, x7⟩, y0, y1, y2, y3, y4, y5, y6, y7⟩ := L4.out.tb.all
      have szt := L4.out.tb.lt
      rcases ts with _ | ⟨t, _ | ⟨t2, ts⟩⟩
      · skip
        have hd0 : ds = [] := List.eq_nil_of_length_eq_zero hts
        subst hd0
        clear hts
        go_wp2
        refine bodyPost_ret (v := TD.val ⟨1, fun _ => 0#64, 0, 0, none, 0, 0⟩) ?_ rfl ?_
        · simp [results, Try.results62, go_sem, TD.val, uv, x0, x1, x2, x3, x4, x5, x6, x7]
        · exact Does.okk E.out ⟨_, rfl, TV.leaf _ _ _ _ _ _ _ _ _ isK_zero⟩ (L4.out.rd.ends8 OL.out (Nat.le_refl _) _ _ _ _ _ _ _ _) (L4.out.fg.ends8 (Nat.le_refl _) _ _ _ _ _ _ _ _) L4.out.i0 L4.out.op
      · skip
        obtain ⟨b, d, rfl, rfl, hb, hv, k0, k1, k2, k3, k4, k5, k6, k7⟩ := L4.out.kd.first
        have V := Lib.hid hv
        clear hts hv
        go_wp2
        refine bodyPost_ret (v := d.val) ?_ rfl ?_
        · simp [results, Try.results62, go_sem, TD.val, x0, x1, x2, x3, x4, x5, x6, x7]
        · exact Does.okk E.out ⟨d, rfl, sn_8 V.out (Nat.lt_succ_self _) (Nat.le_succ _) _ _ _ _ _ _ _ _⟩ (L4.out.rd.ends8 OL.out (Nat.le_refl _) _ _ _ _ _ _ _ _) (L4.out.fg.ends8 (Nat.le_refl _) _ _ _ _ _ _ _ _) L4.out.i0 L4.out.op
      · skip
        have V := Lib.hid (L4.out.kd.tv 6 (by have h1 := L4.out.i; have h2 := L4.out.rd.le; have h3 := L4.out.rd.len; omega))
        have n0 : ((ds.length : Int) == 0) = false := by rw [beq_eq_false_iff_ne]; simp at hts; omega
        have n1 : ((ds.length : Int) == 1) = false := by rw [beq_eq_false_iff_ne]; simp at hts; omega
        clear hts
        go_wp2
        refine bodyPost_ret (v := TD.val ⟨6, fun _ => 0#64, 0, 0, K, ds.length, ck⟩) ?_ rfl ?_
        · simp [results, Try.results62, go_sem, TD.val, uv, x0, x1, x2, x3, x4, x5, x6, x7]
        · exact Does.okk E.out ⟨_, rfl, sn_8 V.out (Nat.lt_succ_self _) (Nat.le_succ _) _ _ _ _ _ _ _ _⟩ (L4.out.rd.ends8 OL.out (Nat.le_refl _) _ _ _ _ _ _ _ _) (L4.out.fg.ends8 (Nat.le_refl _) _ _ _ _ _ _ _ _) L4.out.i0 L4.out.op
    · rw [decide_eq_false he] at D1
      have D1 := Lib.hid D1
      go_wp2_with fail
      refine D1.out.mono ?_
      rintro e w1 ⟨rfl, hrw1, hfw1⟩
      have L2 := Lib.hid (L1.out.to glt hfw1 hrw1 (Nat.le_refl _) rfl)
      clear hrw1 hfw1
      have D2 := sees_to g A c bs s' 124 _ L2.out.rd
      clear D1 L1
      cases h2 : sb bs s'.i 124 with
      | true =>
        have E : Hid (catF rec bs s = .ok (catT ts, s')) := by show catF rec bs s = _; rw [E0.out, ← hcl.out, catL, if_pos (.inr (.inl h2))]; rfl
        rw [h2] at D2
        have D2 := Lib.hid D2
        clear hcl E0 he h2
        go_wp2_with fail
        refine D2.out.mono ?_
        rintro e w2 ⟨rfl, hrw2, hfw2⟩
        have L4 := Lib.hid (L2.out.to glt hfw2 hrw2 (Nat.le_refl _) rfl)
        clear hrw2 hfw2
        clear D2 L2
        have hts := L4.out.kd.len
        obtain ⟨⟨x0, x1, x2, x3, x4, x5, x6, x7⟩, y0, y1, y2, y3, y4, y5, y6, y7⟩ := L4.out.tb.all
        have szt := L4.out.tb.lt
        rcases ts with _ | ⟨t, _ | ⟨t2, ts⟩⟩
        · skip
          have hd0 : ds = [] := List.eq_nil_of_length_eq_zero hts
          subst hd0
          clear hts
          go_wp2
          refine bodyPost_ret (v := TD.val ⟨1, fun _ => 0#64, 0, 0, none, 0, 0⟩) ?_ rfl ?_
          · simp [results, Try.results62, go_sem, TD.val, uv, x0, x1, x2, x3, x4, x5, x6, x7]
          · exact Does.okk E.out ⟨_, rfl, TV.leaf _ _ _ _ _ _ _ _ _ isK_zero⟩ (L4.out.rd.ends8 OL.out (Nat.le_refl _) _ _ _ _ _ _ _ _) (L4.out.fg.ends8 (Nat.le_refl _) _ _ _ _ _ _ _ _) L4.out.i0 L4.out.op
        · skip
          obtain ⟨b, d, rfl, rfl, hb, hv, k0, k1, k2, k3, k4, k5, k6, k7⟩ := L4.out.kd.first
          have V := Lib.hid hv
          clear hts hv
          go_wp2
          refine bodyPost_ret (v := d.val) ?_ rfl ?_
          · simp [results, Try.results62, go_sem, TD.val, x0, x1, x2, x3, x4, x5, x6, x7]
          · exact Does.okk E.out ⟨d, rfl, sn_8 V.out (Nat.lt_succ_self _) (Nat.le_succ _) _ _ _ _ _ _ _ _⟩ (L4.out.rd.ends8 OL.out (Nat.le_refl _) _ _ _ _ _ _ _ _) (L4.out.fg.ends8 (Nat.le_refl _) _ _ _ _ _ _ _ _) L4.out.i0 L4.out.op
        · skip
          have V := Lib.hid (L4.out.kd.tv 6 (by have h1 := L4.out.i; have h2 := L4.out.rd.le; have h3 := L4.out.rd.len; omega))
          have n0 : ((ds.length : Int) == 0) = false := by rw [beq_eq_false_iff_ne]; simp at hts; omega
          have n1 : ((ds.length : Int) == 1) = false := by rw [beq_eq_false_iff_ne]; simp at hts; omega
          clear hts
          go_wp2
          refine bodyPost_ret (v := TD.val ⟨6, fun _ => 0#64, 0, 0, K, ds.length, ck⟩) ?_ rfl ?_
          · simp [results, Try.results62, go_sem, TD.val, uv, x0, x1, x2, x3, x4, x5, x6, x7]
          · exact Does.okk E.out ⟨_, rfl, sn_8 V.out (Nat.lt_succ_self _) (Nat.le_succ _) _ _ _ _ _ _ _ _⟩ (L4.out.rd.ends8 OL.out (Nat.le_refl _) _ _ _ _ _ _ _ _) (L4.out.fg.ends8 (Nat.le_refl _) _ _ _ _ _ _ _ _) L4.out.i0 L4.out.op
      | false =>
        rw [h2] at D2
        have D2 := Lib.hid D2
        go_wp2_with fail
        refine D2.out.mono ?_
        rintro e w2 ⟨rfl, hrw2, hfw2⟩
        have L3 := Lib.hid (L2.out.to glt hfw2 hrw2 (Nat.le_refl _) rfl)
        clear hrw2 hfw2
        have D3 := sees_to g A c bs s' 41 _ L3.out.rd
        clear D2 L2
        cases h3 : sb bs s'.i 41 with
        | true =>
          have E : Hid (catF rec bs s = .ok (catT ts, s')) := by show catF rec bs s = _; rw [E0.out, ← hcl.out, catL, if_pos (.inr (.inr h3))]; rfl
          rw [h3] at D3
          have D3 := Lib.hid D3
          clear hcl E0 he h2 h3
          go_wp2_with fail
          refine D3.out.mono ?_
          rintro e w3 ⟨rfl, hrw3, hfw3⟩
          have L4 := Lib.hid (L3.out.to glt hfw3 hrw3 (Nat.le_refl _) rfl)
          clear hrw3 hfw3
          clear D3 L3
          have hts := L4.out.kd.len
          obtain ⟨⟨x0, x1, x2, x3, x4, x5, x6, x7⟩, y0, y1, y2, y3, y4, y5, y6, y7⟩ := L4.out.tb.all
          have szt := L4.out.tb.lt
          rcases ts with _ | ⟨t, _ | ⟨t2, ts⟩⟩
          · skip
            have hd0 : ds = [] := List.eq_nil_of_length_eq_zero hts
            subst hd0
            clear hts
            go_wp2
            refine bodyPost_ret (v := TD.val ⟨1, fun _ => 0#64, 0, 0, none, 0, 0⟩) ?_ rfl ?_
            · simp [results, Try.results62, go_sem, TD.val, uv, x0, x1, x2, x3, x4, x5, x6, x7]
            · exact Does.okk E.out ⟨_, rfl, TV.leaf _ _ _ _ _ _ _ _ _ isK_zero⟩ (L4.out.rd.ends8 OL.out (Nat.le_refl _) _ _ _ _ _ _ _ _) (L4.out.fg.ends8 (Nat.le_refl _) _ _ _ _ _ _ _ _) L4.out.i0 L4.out.op
          · skip
            obtain ⟨b, d, rfl, rfl, hb, hv, k0, k1, k2, k3, k4, k5, k6, k7⟩ := L4.out.kd.first
            have V := Lib.hid hv
            clear hts hv
            go_wp2
            refine bodyPost_ret (v := d.val) ?_ rfl ?_
            · simp [results, Try.results62, go_sem, TD.val, x0, x1, x2, x3, x4, x5, x6, x7]
            · exact Does.okk E.out ⟨d, rfl, sn_8 V.out (Nat.lt_succ_self _) (Nat.le_succ _) _ _ _ _ _ _ _ _⟩ (L4.out.rd.ends8 OL.out (Nat.le_refl _) _ _ _ _ _ _ _ _) (L4.out.fg.ends8 (Nat.le_refl _) _ _ _ _ _ _ _ _) L4.out.i0 L4.out.op
          · skip
            have V := Lib.hid (L4.out.kd.tv 6 (by have h1 := L4.out.i; have h2 := L4.out.rd.le; have h3 := L4.out.rd.len; omega))
            have n0 : ((ds.length : Int) == 0) = false := by rw [beq_eq_false_iff_ne]; simp at hts; omega
            have n1 : ((ds.length : Int) == 1) = false := by rw [beq_eq_false_iff_ne]; simp at hts; omega
            clear hts
            go_wp2
            refine bodyPost_ret (v := TD.val ⟨6, fun _ => 0#64, 0, 0, K, ds.length, ck⟩) ?_ rfl ?_
            · simp [results, Try.results62, go_sem, TD.val, uv, x0, x1, x2, x3, x4, x5, x6, x7]
            · exact Does.okk E.out ⟨_, rfl, sn_8 V.out (Nat.lt_succ_self _) (Nat.le_succ _) _ _ _ _ _ _ _ _⟩ (L4.out.rd.ends8 OL.out (Nat.le_refl _) _ _ _ _ _ _ _ _) (L4.out.fg.ends8 (Nat.le_refl _) _ _ _ _ _ _ _ _) L4.out.i0 L4.out.op
        | false =>
          have hcl2 : thn (repF rec bs s') (fun t s2 => catL rec bs n (ts ++ [t]) s2) = R := by
            rw [← hcl.out, catL, if_neg]
            rintro (e | e | e)
            · exact he e
            · rw [h2] at e; cases e
            · rw [h3] at e; cases e
          rw [h3] at D3
          have D3 := Lib.hid D3
          clear hcl h2 h3
          go_wp2_with fail
          refine D3.out.mono ?_
          rintro e w3 ⟨rfl, hrw3, hfw3⟩
          have L4 := Lib.hid (L3.out.to glt hfw3 hrw3 (Nat.le_refl _) rfl)
          clear hrw3 hfw3
          have D4 := rep_any rec g A c bs s' _ L4.out.rd (by have h1 := L4.out.op; have h2 := L4.out.i0; omega) (HA'.out.mono L4.out.i0)
          clear D3 L3
          cases h4 : repF rec bs s' with
          | error p =>
            have E : Hid (catF rec bs s = .error p) := by show catF rec bs s = _; rw [E0.out, ← hcl2, h4]; rfl
            rw [h4] at D4
            have D4 := Lib.hid D4
            clear hcl2 h4
            go_wp2_with fail
            refine D4.out.mono ?_
            rintro e w4 ⟨rfl, hf4⟩
            go_wp2
            exact ⟨rfl, Does.err E.out (L4.out.fg.trans hf4)⟩
          | ok x =>
            obtain ⟨t, s4⟩ := x
            have HC : Hid (catL rec bs n (ts ++ [t]) s4 = R) := by show _ = R; rw [← hcl2, h4]; rfl
            rw [h4] at D4
            have D4 := Lib.hid D4
            clear hcl2 h4
            go_wp2_with fail
            refine D4.out.mono ?_
            rintro e w4 ⟨v4, rfl, ⟨d, rfl, hv4⟩, hr4, hf4, hi4, ho4⟩
            have V4 := Lib.hid hv4; have R4 := Lib.hid hr4; have G4 := Lib.hid hf4
            have O4 : Hid (OwnT (w4.alloc (.cells d.cells 29)) K ck ds) := (L4.out.kd.fg (hf4.alloc _) (by omega)).own
            have Z4 := Lib.hid (TB.new w4 d)
            have hdl : ds.length ≤ 1048576 := by have h1 := L4.out.kd.len; have h2 := L4.out.i; omega
            clear hv4 hr4 hf4 D4
            unfold TD.cells at O4 Z4
            unfold TD.val
            go_wp2_with (at_builtin; refine appT rfl (.tmp 17) (.tmp 20) rfl K ck ds O4.out _ _ d Z4.out hdl rfl rfl ?_)
            intro K5 c5 ds5 w5 hd5 ho5 hg5 hr5
            have L5 := Lib.hid (L4.out.push glt OL.out G4.out R4.out (by omega) ho4 V4.out hd5.out ho5 hg5 hr5)
            clear hd5 ho5 hg5 hr5 V4 R4 G4 O4 Z4 L4
            go_wp2_with fail
            go_roundw
            case rel => exact ⟨n, ts ++ [t], ds5, K5, c5, s4, rfl, HC, by omega, L5.out⟩
            case measure => rw [L5.out.rd.pos, hpos]; omega
end Go.Proofs.Ytnaecagmcpndhaa
namespace Go.Proofs.Ytnaecagmcpndhaa
open Go.RowKit

def altT : List Tm → Tm
  | [t] => t
  | ts => .mk 7 noB 0 0 ts
def altL (rec : St → Except Nat (Tm × St)) (bs : List Nat) : Nat → List Tm → St → Except Nat (List Tm × St)
  | 0, _, s => .error s.i
  | n + 1, ts, s => if sb bs s.i 124 = true then thn (catF rec bs s.nx) fun t s' => altL rec bs n (ts ++ [t]) s' else .ok (ts, s)
def altG (rec : St → Except Nat (Tm × St)) (bs : List Nat) (s : St) : Except Nat (Tm × St) := thn (catF rec bs s) fun t s1 => thn (altL rec bs (bs.length + 1) [t] s1) fun ts s' => .ok (altT ts, s')
theorem Kd.one {w : World} {N M : Nat} {t : Tm} {d : TD} (hv : TV w (Sn M w) t d) (hM : N ≤ M) (hN : N ≤ w.heap.size) : Kd (w.alloc (.cells d.cells 29)) N (some ⟨w.heap.size, 0, none⟩) 1 [d] [t] := by
  refine ⟨ownt_one w d, rfl, fun i t' d' h1 h2 => ?_, fun k hk => ?_⟩
  · cases i with
    | zero =>
      simp at h1 h2
      subst h1; subst h2
      refine hv.to fun k hk => ⟨⟨⟨Nat.le_trans hM hk.1, Nat.lt_of_lt_of_le hk.2 (by simp)⟩, fun e => ?_⟩, fun hlt => Below.heap_alloc w _ k hlt⟩
      injection e with e
      have := hk.2
      have e2 : k = w.heap.size := e
      omega
    | succ i => simp at h1
  · injection hk with hk
    subst hk
    exact hN

set_option maxHeartbeats 8000000 in
theorem alt_any (rec : St → Except Nat (Tm × St)) (g : Nat) (A : Option Addr) (c : Nat) (bs : List Nat) (s : St) (w : World) (h : Rd w g A c bs s) (hop : s.op ≤ s.i) (ha : HA g A c bs rec s.i) :
    Calls Try.prog 56 #[.pointer (some ⟨g, 0, none⟩)] w (Does w g A c bs s 0 (altG rec bs s) (isTm w.heap.size)) := by
  have OL := Lib.hid h.old
  have glt := h.lt
  have HA' := Lib.hid ha
  have T0 : Hid (TB (w.alloc (.cells #[.int .i64 0, .int .u64 0, .int .u64 0, .int .u64 0, .int .u64 0, .int .i64 0, .int .i64 0, .slice none 0 0] 29)) w.heap.size zT) := TB.new w zT
  have F0 : Hid (Fg w (w.alloc (.cells #[.int .i64 0, .int .u64 0, .int .u64 0, .int .u64 0, .int .u64 0, .int .i64 0, .int .i64 0, .slice none 0 0] 29)) g) := (Fg.refl w g).alloc _
  have D0 := cat_any rec g A c bs s _ (h.alloc (.cells #[.int .i64 0, .int .u64 0, .int .u64 0, .int .u64 0, .int .u64 0, .int .i64 0, .int .i64 0, .slice none 0 0] 29)) hop ha
  have sz0 : (w.alloc (.cells #[.int .i64 0, .int .u64 0, .int .u64 0, .int .u64 0, .int .u64 0, .int .i64 0, .int .i64 0, .slice none 0 0] 29)).heap.size = w.heap.size + 1 := World.size_alloc w _
  rw [sz0] at D0
  clear h ha
  cases h0 : catF rec bs s with
  | error p =>
    have E : Hid (altG rec bs s = .error p) := by show altG rec bs s = _; unfold altG; rw [h0]; rfl
    rw [h0] at D0
    have D0 := Lib.hid D0
    go_enter Try.func56, Try.ntmps56
    go_wp2_with fail
    refine D0.out.mono ?_
    rintro e w2 ⟨rfl, hf2⟩
    go_wp2
    exact ⟨rfl, Does.err E.out (F0.out.trans hf2)⟩
  | ok x =>
  obtain ⟨t0, s0⟩ := x
  obtain ⟨R, hR⟩ : ∃ R, altL rec bs (bs.length + 1) [t0] s0 = R := ⟨_, rfl⟩
  have E0 : Hid (altG rec bs s = thn R fun ts s' => .ok (altT ts, s')) := by show altG rec bs s = _; unfold altG; rw [h0]; show thn (altL rec bs (bs.length + 1) [t0] s0) _ = _; rw [hR]
  have HR := Lib.hid hR
  rw [h0] at D0
  have D0 := Lib.hid D0
  clear h0 hR
  go_enter Try.func56, Try.ntmps56
  go_wp2_with fail
  refine D0.out.mono ?_
  rintro e w1 ⟨v1, rfl, ⟨d0, rfl, hv0⟩, hr0, hf0, hi0, ho0⟩
  have szf := hf0.size
  have L0 : Hid (Lp w (w1.alloc (.cells d0.cells 29)) g A c bs s (some ⟨w1.heap.size, 0, none⟩) 1 [d0] [t0] s0) :=
    ⟨Kd.one hv0 (Nat.le_refl _) (by omega), hr0.alloc _, (F0.out.trans hf0).alloc _, (T0.out.fg hf0 (by omega)).alloc _, by simp; omega, by omega, ho0⟩
  clear hv0 hr0 hf0 D0 T0 F0 szf
  unfold TD.cells at L0
  unfold TD.val
  go_wp2_with fail
  go_loopw [3] (fun v wr => ∃ (n : Nat) (ts : List Tm) (ds : List TD) (K : Option Addr) (ck : Nat) (s' : St), v = .slice K ds.length ck ∧ Hid (altL rec bs n ts s' = R) ∧ Hid (0 < ts.length) ∧ bs.length < n + s'.i ∧ Lp w wr g A c bs s K ck ds ts s') (fun _ wr => bs.length + 1 - posOf wr g)
  case atStart => exact ⟨bs.length + 1, [t0], [d0], _, 1, s0, rfl, HR, by show 0 < 1; omega, by omega, L0.out⟩
  case round =>
    obtain ⟨n, ts, ds, K, ck, s', rfl, hcl, NE, hn, hL⟩ := hrel
    clear HR L0
    have hle := hL.rd.le
    have hpos := hL.rd.pos
    have hlen := hL.rd.len
    have D1 := takes_any g A c bs s' 124 wr hL.rd
    have L1 := Lib.hid hL
    clear hL
    cases n with
    | zero => exact absurd hn (by omega)
    | succ n =>
    cases h1 : sb bs s'.i 124 with
    | false =>
      have E : Hid (altG rec bs s = .ok (altT ts, s')) := by show altG rec bs s = _; rw [E0.out, ← hcl.out, altL, if_neg (by rw [h1]; simp)]; rfl
      rw [h1] at D1
      have D1 := Lib.hid D1
      clear hcl E0 h1
      go_wp2_with fail
      refine D1.out.mono ?_
      rintro e w1 ⟨rfl, hr1, hf1⟩
      have L4 := Lib.hid (L1.out.to glt hf1 hr1 (Nat.le_refl _) rfl)
      clear D1 L1 hr1 hf1
      have hts := L4.out.kd.len
      obtain ⟨⟨x0, x1, x2, x3, x4, x5, x6, x7⟩, y0, y1, y2, y3, y4, y5, y6, y7⟩ := L4.out.tb.all
      have szt := L4.out.tb.lt
      rcases ts with _ | ⟨t, _ | ⟨t2, ts⟩⟩
      · exact absurd NE.out (by simp)
      · skip
        obtain ⟨b, d, rfl, rfl, hb, hv, k0, k1, k2, k3, k4, k5, k6, k7⟩ := L4.out.kd.first
        have V := Lib.hid hv
        clear hts hv
        go_wp2
        refine bodyPost_ret (v := d.val) ?_ rfl ?_
        · simp [results, Try.results56, go_sem, TD.val, x0, x1, x2, x3, x4, x5, x6, x7]
        · exact Does.okk E.out ⟨d, rfl, sn_8 V.out (Nat.lt_succ_self _) (Nat.le_succ _) _ _ _ _ _ _ _ _⟩ (L4.out.rd.ends8 OL.out (Nat.le_refl _) _ _ _ _ _ _ _ _) (L4.out.fg.ends8 (Nat.le_refl _) _ _ _ _ _ _ _ _) L4.out.i0 L4.out.op
      · skip
        have V := Lib.hid (L4.out.kd.tv 7 (by have h1 := L4.out.i; have h2 := L4.out.rd.le; have h3 := L4.out.rd.len; omega))
        have n1 : ((ds.length : Int) == 1) = false := by rw [beq_eq_false_iff_ne]; simp at hts; omega
        clear hts
        go_wp2
        refine bodyPost_ret (v := TD.val ⟨7, fun _ => 0#64, 0, 0, K, ds.length, ck⟩) ?_ rfl ?_
        · simp [results, Try.results56, go_sem, TD.val, uv, x0, x1, x2, x3, x4, x5, x6, x7]
        · exact Does.okk E.out ⟨_, rfl, sn_8 V.out (Nat.lt_succ_self _) (Nat.le_succ _) _ _ _ _ _ _ _ _⟩ (L4.out.rd.ends8 OL.out (Nat.le_refl _) _ _ _ _ _ _ _ _) (L4.out.fg.ends8 (Nat.le_refl _) _ _ _ _ _ _ _ _) L4.out.i0 L4.out.op
    | true =>
      have hcl2 : thn (catF rec bs s'.nx) (fun t s2 => altL rec bs n (ts ++ [t]) s2) = R := by rw [← hcl.out, altL, if_pos h1]
      rw [h1] at D1
      have D1 := Lib.hid D1
      clear hcl h1
      go_wp2_with fail
      refine D1.out.mono ?_
      rintro e w1 ⟨rfl, hr1, hf1⟩
      replace hr1 : Rd w1 g A c bs s'.nx := hr1
      have nxi : s'.nx.i = s'.i + 1 := rfl
      have nxo : s'.nx.op = s'.op := rfl
      have lop := L1.out.op
      have li0 := L1.out.i0
      have D4 := cat_any rec g A c bs s'.nx w1 hr1 (by omega) (HA'.out.mono (by omega))
      clear D1
      cases h4 : catF rec bs s'.nx with
      | error p =>
        have E : Hid (altG rec bs s = .error p) := by show altG rec bs s = _; rw [E0.out, ← hcl2, h4]; rfl
        rw [h4] at D4
        have D4 := Lib.hid D4
        clear hcl2 h4 lop nxo nxi
        go_wp2_with fail
        refine D4.out.mono ?_
        rintro e w4 ⟨rfl, hf4⟩
        go_wp2
        exact ⟨rfl, Does.err E.out (L1.out.fg.trans (hf1.trans hf4))⟩
      | ok x =>
        obtain ⟨t, s4⟩ := x
        have HC : Hid (altL rec bs n (ts ++ [t]) s4 = R) := by show _ = R; rw [← hcl2, h4]; rfl
        rw [h4] at D4
        have D4 := Lib.hid D4
        clear hcl2 h4
        go_wp2_with fail
        refine D4.out.mono ?_
        rintro e w4 ⟨v4, rfl, ⟨d, rfl, hv4⟩, hr4, hf4, hi4, ho4⟩
        have hff : Fg wr w4 g := hf1.trans hf4
        have V4 := Lib.hid (sn_to hv4 (Fg.refl w4 g) (by have := hr1.lt; omega) hf1.size); have R4 := Lib.hid hr4; have G4 := Lib.hid hff
        have O4 : Hid (OwnT (w4.alloc (.cells d.cells 29)) K ck ds) := (L1.out.kd.fg (hff.alloc _) (by omega)).own
        have Z4 := Lib.hid (TB.new w4 d)
        have hdl : ds.length ≤ 1048576 := by have h1 := L1.out.kd.len; have h2 := L1.out.i; omega
        clear hv4 hr4 hf4 D4 hff hr1 hf1
        unfold TD.cells at O4 Z4
        unfold TD.val
        go_wp2_with (at_builtin; refine appT rfl (.tmp 9) (.tmp 12) rfl K ck ds O4.out _ _ d Z4.out hdl rfl rfl ?_)
        intro K5 c5 ds5 w5 hd5 ho5 hg5 hr5
        have L5 := Lib.hid (L1.out.push glt OL.out G4.out R4.out (by omega) (by omega) V4.out hd5.out ho5 hg5 hr5)
        clear hd5 ho5 hg5 hr5 V4 R4 G4 O4 Z4 L1
        go_wp2_with fail
        go_roundw
        case rel => exact ⟨n, ts ++ [t], ds5, K5, c5, s4, rfl, HC, by show 0 < (ts ++ [t]).length; simp, by omega, L5.out⟩
        case measure => rw [L5.out.rd.pos, hpos]; omega
end Go.Proofs.Ytnaecagmcpndhaa
