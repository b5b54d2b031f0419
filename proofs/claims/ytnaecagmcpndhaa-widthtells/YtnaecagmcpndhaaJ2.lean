/- The reader's braces, quants, hexes, escapes. The reader's marks, hexes, escapes; any byte but some. The reader's escapes; any byte but some. Any byte but some; the ends of a class. -/
import Derived.Test.YtnaecagmcpndhaaJ1
namespace Go.Proofs.Ytnaecagmcpndhaa
open Go.RowKit

def upperF (bs : List Nat) (lo : Nat) (s : St) : Except Nat (Int × St) :=
  if sb bs s.i 44 then (if sb bs s.nx.i 125 then .ok (-1, s.nx) else thn (numberF bs s.nx) fun hi s3 => .ok ((hi : Int), s3)) else .ok ((lo : Int), s)
def lateF (s0 : St) (lo hi : Int) (s : St) : St := if fitsF lo hi = false ∧ s.rp = -1 then { s with rp := (s0.i : Int) } else s
def bracesF (bs : List Nat) (s : St) : Except Nat ((Int × Int) × St) :=
  thn (mustF bs s 123) fun _ s1 => thn (numberF bs s1) fun lo s2 => thn (upperF bs lo s2) fun hi s4 => thn (mustF bs s4 125) fun _ s5 => .ok (((lo : Int), hi), lateF s ((lo : Nat) : Int) hi s5)
def isTwo : World → Int × Int → Value → Prop := fun _ p v => v = .tuple #[.int .i64 p.1, .int .i64 p.2]

set_option maxHeartbeats 2000000 in
theorem braces_any (g : Nat) (A : Option Addr) (c : Nat) (bs : List Nat) (s : St) (w : World) (h : Rd w g A c bs s) :
    Calls Try.prog 89 #[.pointer (some ⟨g, 0, none⟩)] w (Does w g A c bs s 1 (bracesF bs s) isTwo) := by
  obtain ⟨_, c1, _⟩ := h.cells
  have D1 := must_any g A c bs s 123 w h
  cases h1 : mustF bs s 123 with
  | error p =>
    have E : Hid (bracesF bs s = .error p) := by show bracesF bs s = _; unfold bracesF; rw [h1]; rfl
    rw [h1] at D1
    have D1 := Lib.hid D1
    clear h
    go_enter Try.func89, Try.ntmps89
    go_wp2_with fail
    refine D1.out.mono ?_
    rintro e w2 ⟨rfl, hf2⟩
    go_wp2
    exact ⟨rfl, Does.err E.out hf2⟩
  | ok x =>
  obtain ⟨_, s1⟩ := x
  rw [h1] at D1
  have D1 := Lib.hid D1
  have E1 : Hid (bracesF bs s = thn (numberF bs s1) fun lo s2 => thn (upperF bs lo s2) fun hi s4 => thn (mustF bs s4 125) fun _ s5 => .ok (((lo : Int), hi), lateF s ((lo : Nat) : Int) hi s5)) := by show bracesF bs s = _; unfold bracesF; rw [h1]; rfl
  clear h h1
  go_enter Try.func89, Try.ntmps89
  go_wp2_with fail
  refine D1.out.mono ?_
  rintro e w1 ⟨v1, rfl, rfl, hr1, hf1, hi1, ho1⟩
  have R1 := Lib.hid hr1; have F1 := Lib.hid hf1
  have D2 := number_any g A c bs s1 w1 hr1
  clear hr1 hf1 D1 c1
  cases h2 : numberF bs s1 with
  | error p =>
    have E : Hid (bracesF bs s = .error p) := by show bracesF bs s = _; rw [E1.out, h2]; rfl
    rw [h2] at D2
    have D2 := Lib.hid D2
    go_wp2_with fail
    refine D2.out.mono ?_
    rintro e w2 ⟨rfl, hf2⟩
    go_wp2
    exact ⟨rfl, Does.err E.out (F1.out.trans hf2)⟩
  | ok x =>
  obtain ⟨lo, s2⟩ := x
  rw [h2] at D2
  have D2 := Lib.hid D2
  have E2 : Hid (bracesF bs s = thn (upperF bs lo s2) fun hi s4 => thn (mustF bs s4 125) fun _ s5 => .ok (((lo : Int), hi), lateF s ((lo : Nat) : Int) hi s5)) := by show bracesF bs s = _; rw [E1.out, h2]; rfl
  clear h2 E1
  go_wp2_with fail
  refine D2.out.mono ?_
  rintro e w2 ⟨v2, rfl, ⟨rfl, hlo⟩, hr2, hf2, hi2, ho2⟩
  have R2 := Lib.hid hr2; have F2 := Lib.hid (F1.out.trans hf2)
  have D3 := takes_any g A c bs s2 44 w2 hr2
  clear hr2 hf2 D2 R1 F1
  cases h3 : sb bs s2.i 44 with
  | false =>
    have E3 : Hid (bracesF bs s = thn (mustF bs s2 125) fun _ s5 => .ok (((lo : Int), (lo : Int)), lateF s ((lo : Nat) : Int) (lo : Int) s5)) := by show bracesF bs s = _; rw [E2.out]; unfold upperF; rw [h3]; rfl
    rw [h3] at D3
    have D3 := Lib.hid D3
    clear h3 E2
    go_wp2_with fail
    refine D3.out.mono ?_
    rintro e w3 ⟨rfl, hr3, hf3⟩
    have R3 := Lib.hid hr3; have F3 := Lib.hid (F2.out.trans hf3)
    clear hr3 hf3 D3 R2 F2
    have D6 := must_any g A c bs s2 125 _ R3.out
    have L6 : s.i + 1 ≤ (s2).i ∧ (s2).op = s.op := ⟨by omega, by omega⟩
    cases h6 : mustF bs s2 125 with
    | error p =>
      have E : Hid (bracesF bs s = .error p) := by show bracesF bs s = _; rw [E3.out, h6]; rfl
      rw [h6] at D6
      have D6 := Lib.hid D6
      go_wp2_with fail
      refine D6.out.mono ?_
      rintro e w6 ⟨rfl, hf6⟩
      go_wp2
      exact ⟨rfl, Does.err E.out (F3.out.trans hf6)⟩
    | ok x =>
    obtain ⟨_, s5⟩ := x
    have E7 : Hid (bracesF bs s = .ok (((lo : Int), (lo : Int)), lateF s ((lo : Nat) : Int) (lo : Int) s5)) := by show bracesF bs s = _; rw [E3.out, h6]; rfl
    rw [h6] at D6
    have D6 := Lib.hid D6
    clear h6
    go_wp2_with fail
    refine D6.out.mono ?_
    rintro e w6 ⟨v6, rfl, rfl, hr6, hf6, hi6, ho6⟩
    have R6 := Lib.hid hr6; have F6 := Lib.hid (F3.out.trans hf6)
    obtain ⟨_, b1, _, _, b4⟩ := hr6.cells
    have z4 := hr6.frozen 4
    have D7 := Lib.hid fun W => fits_any (lo : Int) (lo : Int) W
    cases h7 : fitsF (lo : Int) (lo : Int) with
    | true =>
      rw [h7] at D7
      have e7 : lateF s (lo : Int) (lo : Int) s5 = s5 := by unfold lateF; rw [h7]; simp
      rw [e7] at E7
      clear hr6 hf6 D6 e7 h7
      go_wp2_with fail
      refine (D7.out _).mono ?_
      rintro e w7 ⟨rfl, rfl⟩
      go_wp2
      go_ret2
      exact Does.okk E7.out rfl R6.out F6.out (by omega) (by omega)
    | false =>
      rw [h7] at D7
      by_cases h8 : s5.rp = -1
      · have e7 : lateF s (lo : Int) (lo : Int) s5 = { s5 with rp := (s.i : Int) } := by unfold lateF; rw [h7, if_pos ⟨rfl, h8⟩]
        rw [e7] at E7
        rw [h8] at b4
        have R8 := Lib.hid (hr6.set4 (s.i : Int))
        clear hr6 hf6 D6 e7 h7
        go_wp2_with fail
        refine (D7.out _).mono ?_
        rintro e w7 ⟨rfl, rfl⟩
        go_wp2
        go_ret2
        exact Does.okk E7.out rfl R8.out (F6.out.set_ 4 _) (by show s.i + 1 ≤ s5.i; omega) (by show s5.op = s.op; omega)
      · have e7 : lateF s (lo : Int) (lo : Int) s5 = s5 := by unfold lateF; rw [if_neg (fun k => h8 k.2)]
        rw [e7] at E7
        have q8 : (s5.rp == -1) = false := by simpa using h8
        clear hr6 hf6 D6 e7 h7
        go_wp2_with fail
        refine (D7.out _).mono ?_
        rintro e w7 ⟨rfl, rfl⟩
        go_wp2
        go_ret2
        exact Does.okk E7.out rfl R6.out F6.out (by omega) (by omega)
  | true =>
    have hlt := (sb_lt h3).1
    rw [h3] at D3
    have D3 := Lib.hid D3
    go_wp2_with fail
    refine D3.out.mono ?_
    rintro e w3 ⟨rfl, hr3, hf3⟩
    replace hr3 : Rd w3 g A c bs s2.nx := hr3
    have R3 := Lib.hid hr3; have F3 := Lib.hid (F2.out.trans hf3)
    have D4 := sees_any g A c bs s2.nx 125 w3 hr3
    have nxi : s2.nx.i = s2.i + 1 := rfl
    have nxo : s2.nx.op = s2.op := rfl
    clear hr3 hf3 D3 R2 F2
    cases h4 : sb bs s2.nx.i 125 with
    | true =>
      have E4 : Hid (bracesF bs s = thn (mustF bs s2.nx 125) fun _ s5 => .ok (((lo : Int), (-1 : Int)), lateF s ((lo : Nat) : Int) (-1 : Int) s5)) := by show bracesF bs s = _; rw [E2.out]; unfold upperF; rw [h3, h4]; rfl
      rw [h4] at D4
      have D4 := Lib.hid D4
      clear h3 h4 E2
      go_wp2_with fail
      refine D4.out.mono ?_
      rintro e w4 ⟨rfl, m4, rfl⟩
      have R4 := Lib.hid (R3.out.drewN m4); have F4 := Lib.hid (F3.out.drewN m4)
      clear D4 R3 F3
      have D6 := must_any g A c bs s2.nx 125 _ R4.out
      have L6 : s.i + 1 ≤ (s2.nx).i ∧ (s2.nx).op = s.op := ⟨by omega, by omega⟩
      cases h6 : mustF bs s2.nx 125 with
      | error p =>
        have E : Hid (bracesF bs s = .error p) := by show bracesF bs s = _; rw [E4.out, h6]; rfl
        rw [h6] at D6
        have D6 := Lib.hid D6
        go_wp2_with fail
        refine D6.out.mono ?_
        rintro e w6 ⟨rfl, hf6⟩
        go_wp2
        exact ⟨rfl, Does.err E.out (F4.out.trans hf6)⟩
      | ok x =>
      obtain ⟨_, s5⟩ := x
      have E7 : Hid (bracesF bs s = .ok (((lo : Int), (-1 : Int)), lateF s ((lo : Nat) : Int) (-1 : Int) s5)) := by show bracesF bs s = _; rw [E4.out, h6]; rfl
      rw [h6] at D6
      have D6 := Lib.hid D6
      clear h6
      go_wp2_with fail
      refine D6.out.mono ?_
      rintro e w6 ⟨v6, rfl, rfl, hr6, hf6, hi6, ho6⟩
      have R6 := Lib.hid hr6; have F6 := Lib.hid (F4.out.trans hf6)
      obtain ⟨_, b1, _, _, b4⟩ := hr6.cells
      have z4 := hr6.frozen 4
      have D7 := Lib.hid fun W => fits_any (lo : Int) (-1 : Int) W
      cases h7 : fitsF (lo : Int) (-1 : Int) with
      | true =>
        rw [h7] at D7
        have e7 : lateF s (lo : Int) (-1 : Int) s5 = s5 := by unfold lateF; rw [h7]; simp
        rw [e7] at E7
        clear hr6 hf6 D6 e7 h7
        go_wp2_with fail
        refine (D7.out _).mono ?_
        rintro e w7 ⟨rfl, rfl⟩
        go_wp2
        go_ret2
        exact Does.okk E7.out rfl R6.out F6.out (by omega) (by omega)
      | false =>
        rw [h7] at D7
        by_cases h8 : s5.rp = -1
        · have e7 : lateF s (lo : Int) (-1 : Int) s5 = { s5 with rp := (s.i : Int) } := by unfold lateF; rw [h7, if_pos ⟨rfl, h8⟩]
          rw [e7] at E7
          rw [h8] at b4
          have R8 := Lib.hid (hr6.set4 (s.i : Int))
          clear hr6 hf6 D6 e7 h7
          go_wp2_with fail
          refine (D7.out _).mono ?_
          rintro e w7 ⟨rfl, rfl⟩
          go_wp2
          go_ret2
          exact Does.okk E7.out rfl R8.out (F6.out.set_ 4 _) (by show s.i + 1 ≤ s5.i; omega) (by show s5.op = s.op; omega)
        · have e7 : lateF s (lo : Int) (-1 : Int) s5 = s5 := by unfold lateF; rw [if_neg (fun k => h8 k.2)]
          rw [e7] at E7
          have q8 : (s5.rp == -1) = false := by simpa using h8
          clear hr6 hf6 D6 e7 h7
          go_wp2_with fail
          refine (D7.out _).mono ?_
          rintro e w7 ⟨rfl, rfl⟩
          go_wp2
          go_ret2
          exact Does.okk E7.out rfl R6.out F6.out (by omega) (by omega)
    | false =>
      have E4 : Hid (bracesF bs s = thn (thn (numberF bs s2.nx) fun hi s3 => .ok ((hi : Int), s3)) fun hi s4 => thn (mustF bs s4 125) fun _ s5 => .ok (((lo : Int), hi), lateF s ((lo : Nat) : Int) hi s5)) := by show bracesF bs s = _; rw [E2.out]; unfold upperF; rw [h3, h4]; rfl
      rw [h4] at D4
      have D4 := Lib.hid D4
      clear h3 h4 E2
      go_wp2_with fail
      refine D4.out.mono ?_
      rintro e w4 ⟨rfl, m4, rfl⟩
      have R4 := Lib.hid (R3.out.drewN m4); have F4 := Lib.hid (F3.out.drewN m4)
      have D5 := number_any g A c bs s2.nx _ R4.out
      clear D4 R3 F3
      cases h5 : numberF bs s2.nx with
      | error p =>
        have E : Hid (bracesF bs s = .error p) := by show bracesF bs s = _; rw [E4.out, h5]; rfl
        rw [h5] at D5
        have D5 := Lib.hid D5
        go_wp2_with fail
        refine D5.out.mono ?_
        rintro e w5 ⟨rfl, hf5⟩
        go_wp2
        exact ⟨rfl, Does.err E.out (F4.out.trans hf5)⟩
      | ok x =>
        obtain ⟨hi, s3⟩ := x
        have E5 : Hid (bracesF bs s = thn (mustF bs s3 125) fun _ s5 => .ok (((lo : Int), (hi : Int)), lateF s ((lo : Nat) : Int) (hi : Int) s5)) := by show bracesF bs s = _; rw [E4.out, h5]; rfl
        rw [h5] at D5
        have D5 := Lib.hid D5
        clear h5 E4
        go_wp2_with fail
        refine D5.out.mono ?_
        rintro e w5 ⟨v5, rfl, ⟨rfl, hhi⟩, hr5, hf5, hi5, ho5⟩
        have R5 := Lib.hid hr5; have F5 := Lib.hid (F4.out.trans hf5)
        clear hr5 hf5 D5 R4 F4
        have D6 := must_any g A c bs s3 125 _ R5.out
        have L6 : s.i + 1 ≤ (s3).i ∧ (s3).op = s.op := ⟨by omega, by omega⟩
        cases h6 : mustF bs s3 125 with
        | error p =>
          have E : Hid (bracesF bs s = .error p) := by show bracesF bs s = _; rw [E5.out, h6]; rfl
          rw [h6] at D6
          have D6 := Lib.hid D6
          go_wp2_with fail
          refine D6.out.mono ?_
          rintro e w6 ⟨rfl, hf6⟩
          go_wp2
          exact ⟨rfl, Does.err E.out (F5.out.trans hf6)⟩
        | ok x =>
        obtain ⟨_, s5⟩ := x
        have E7 : Hid (bracesF bs s = .ok (((lo : Int), (hi : Int)), lateF s ((lo : Nat) : Int) (hi : Int) s5)) := by show bracesF bs s = _; rw [E5.out, h6]; rfl
        rw [h6] at D6
        have D6 := Lib.hid D6
        clear h6
        go_wp2_with fail
        refine D6.out.mono ?_
        rintro e w6 ⟨v6, rfl, rfl, hr6, hf6, hi6, ho6⟩
        have R6 := Lib.hid hr6; have F6 := Lib.hid (F5.out.trans hf6)
        obtain ⟨_, b1, _, _, b4⟩ := hr6.cells
        have z4 := hr6.frozen 4
        have D7 := Lib.hid fun W => fits_any (lo : Int) (hi : Int) W
        cases h7 : fitsF (lo : Int) (hi : Int) with
        | true =>
          rw [h7] at D7
          have e7 : lateF s (lo : Int) (hi : Int) s5 = s5 := by unfold lateF; rw [h7]; simp
          rw [e7] at E7
          clear hr6 hf6 D6 e7 h7
          go_wp2_with fail
          refine (D7.out _).mono ?_
          rintro e w7 ⟨rfl, rfl⟩
          go_wp2
          go_ret2
          exact Does.okk E7.out rfl R6.out F6.out (by omega) (by omega)
        | false =>
          rw [h7] at D7
          by_cases h8 : s5.rp = -1
          · have e7 : lateF s (lo : Int) (hi : Int) s5 = { s5 with rp := (s.i : Int) } := by unfold lateF; rw [h7, if_pos ⟨rfl, h8⟩]
            rw [e7] at E7
            rw [h8] at b4
            have R8 := Lib.hid (hr6.set4 (s.i : Int))
            clear hr6 hf6 D6 e7 h7
            go_wp2_with fail
            refine (D7.out _).mono ?_
            rintro e w7 ⟨rfl, rfl⟩
            go_wp2
            go_ret2
            exact Does.okk E7.out rfl R8.out (F6.out.set_ 4 _) (by show s.i + 1 ≤ s5.i; omega) (by show s5.op = s.op; omega)
          · have e7 : lateF s (lo : Int) (hi : Int) s5 = s5 := by unfold lateF; rw [if_neg (fun k => h8 k.2)]
            rw [e7] at E7
            have q8 : (s5.rp == -1) = false := by simpa using h8
            clear hr6 hf6 D6 e7 h7
            go_wp2_with fail
            refine (D7.out _).mono ?_
            rintro e w7 ⟨rfl, rfl⟩
            go_wp2
            go_ret2
            exact Does.okk E7.out rfl R6.out F6.out (by omega) (by omega)

def quantF (bs : List Nat) (s : St) : Except Nat ((Int × Int × Bool) × St) :=
  if sb bs s.i 42 then .ok ((0, -1, true), s.nx) else if sb bs s.i 43 then .ok ((1, -1, true), s.nx) else if sb bs s.i 63 then .ok ((0, 1, true), s.nx)
  else if sb bs s.i 123 then thn (bracesF bs s) fun p s' => .ok ((p.1, p.2, true), s') else .ok ((0, 0, false), s)
def isThree : World → Int × Int × Bool → Value → Prop := fun _ p v => v = .tuple #[.int .i64 p.1, .int .i64 p.2.1, .bool p.2.2]
set_option maxHeartbeats 1000000 in
theorem quant_any (g : Nat) (A : Option Addr) (c : Nat) (bs : List Nat) (s : St) (w : World) (h : Rd w g A c bs s) :
    Calls Try.prog 82 #[.pointer (some ⟨g, 0, none⟩)] w (Does w g A c bs s 0 (quantF bs s) isThree) := by
  have nxi : s.nx.i = s.i + 1 := rfl
  have D1 := takes_any g A c bs s 42 w h
  cases h1 : sb bs s.i 42 with
  | true =>
    have E : Hid (quantF bs s = .ok (((0 : Int), (-1 : Int), true), s.nx)) := by show quantF bs s = _; unfold quantF; rw [h1]; rfl
    rw [h1] at D1
    have D1 := Lib.hid D1
    go_enter Try.func82, Try.ntmps82
    go_wp2_with fail
    refine D1.out.mono ?_
    rintro e w1 ⟨rfl, hr1, hf1⟩
    replace hr1 : Rd w1 g A c bs s.nx := hr1
    have R1 := Lib.hid hr1; have F1 := Lib.hid ((Fg.refl _ _).trans hf1)
    clear hr1 hf1 D1
    go_wp2
    refine bodyPost_ret (v := .tuple #[.int .i64 (((0 : Int), (-1 : Int), true)).1, .int .i64 (((0 : Int), (-1 : Int), true)).2.1, .bool (((0 : Int), (-1 : Int), true)).2.2]) (by simp [results, Try.results82, go_sem]) rfl ?_
    exact Does.okk E.out rfl R1.out F1.out (by omega) rfl
  | false =>
  rw [h1] at D1
  have D1 := Lib.hid D1
  go_enter Try.func82, Try.ntmps82
  go_wp2_with fail
  refine D1.out.mono ?_
  rintro e w1 ⟨rfl, hr1, hf1⟩
  replace hr1 : Rd w1 g A c bs s := hr1
  have R1 := Lib.hid hr1; have F1 := Lib.hid ((Fg.refl _ _).trans hf1)
  clear h D1
  have D2 := takes_any g A c bs s 43 w1 hr1
  clear hr1 hf1
  cases h2 : sb bs s.i 43 with
  | true =>
    have E : Hid (quantF bs s = .ok (((1 : Int), (-1 : Int), true), s.nx)) := by show quantF bs s = _; unfold quantF; rw [h1, h2]; rfl
    rw [h2] at D2
    have D2 := Lib.hid D2
    go_wp2_with fail
    refine D2.out.mono ?_
    rintro e w2 ⟨rfl, hr2, hf2⟩
    replace hr2 : Rd w2 g A c bs s.nx := hr2
    have R2 := Lib.hid hr2; have F2 := Lib.hid (F1.out.trans hf2)
    clear hr2 hf2 D2
    go_wp2
    refine bodyPost_ret (v := .tuple #[.int .i64 (((1 : Int), (-1 : Int), true)).1, .int .i64 (((1 : Int), (-1 : Int), true)).2.1, .bool (((1 : Int), (-1 : Int), true)).2.2]) (by simp [results, Try.results82, go_sem]) rfl ?_
    exact Does.okk E.out rfl R2.out F2.out (by omega) rfl
  | false =>
  rw [h2] at D2
  have D2 := Lib.hid D2
  go_wp2_with fail
  refine D2.out.mono ?_
  rintro e w2 ⟨rfl, hr2, hf2⟩
  replace hr2 : Rd w2 g A c bs s := hr2
  have R2 := Lib.hid hr2; have F2 := Lib.hid (F1.out.trans hf2)
  have D3 := takes_any g A c bs s 63 w2 hr2
  clear hr2 hf2 D2 R1 F1
  cases h3 : sb bs s.i 63 with
  | true =>
    have E : Hid (quantF bs s = .ok (((0 : Int), (1 : Int), true), s.nx)) := by show quantF bs s = _; unfold quantF; rw [h1, h2, h3]; rfl
    rw [h3] at D3
    have D3 := Lib.hid D3
    go_wp2_with fail
    refine D3.out.mono ?_
    rintro e w3 ⟨rfl, hr3, hf3⟩
    replace hr3 : Rd w3 g A c bs s.nx := hr3
    have R3 := Lib.hid hr3; have F3 := Lib.hid (F2.out.trans hf3)
    clear hr3 hf3 D3
    go_wp2
    refine bodyPost_ret (v := .tuple #[.int .i64 (((0 : Int), (1 : Int), true)).1, .int .i64 (((0 : Int), (1 : Int), true)).2.1, .bool (((0 : Int), (1 : Int), true)).2.2]) (by simp [results, Try.results82, go_sem]) rfl ?_
    exact Does.okk E.out rfl R3.out F3.out (by omega) rfl
  | false =>
  rw [h3] at D3
  have D3 := Lib.hid D3
  go_wp2_with fail
  refine D3.out.mono ?_
  rintro e w3 ⟨rfl, hr3, hf3⟩
  replace hr3 : Rd w3 g A c bs s := hr3
  have R3 := Lib.hid hr3; have F3 := Lib.hid (F2.out.trans hf3)
  have D4 := sees_any g A c bs s 123 w3 hr3
  clear hr3 hf3 D3 R2 F2
  cases h4 : sb bs s.i 123 with
  | false =>
    have E : Hid (quantF bs s = .ok (((0 : Int), (0 : Int), false), s)) := by show quantF bs s = _; unfold quantF; rw [h1, h2, h3, h4]; rfl
    rw [h4] at D4
    have D4 := Lib.hid D4
    go_wp2_with fail
    refine D4.out.mono ?_
    rintro e w4 ⟨rfl, m4, rfl⟩
    clear D4
    go_wp2
    refine bodyPost_ret (v := .tuple #[.int .i64 0, .int .i64 0, .bool false]) (by simp [results, Try.results82, go_sem]) rfl ?_
    exact Does.okk E.out rfl (R3.out.drewN m4) (F3.out.drewN m4) (by omega) rfl
  | true =>
    have E4 : Hid (quantF bs s = thn (bracesF bs s) fun p s' => .ok ((p.1, p.2, true), s')) := by show quantF bs s = _; unfold quantF; rw [h1, h2, h3, h4]; rfl
    rw [h4] at D4
    have D4 := Lib.hid D4
    clear h1 h2 h3 h4
    go_wp2_with fail
    refine D4.out.mono ?_
    rintro e w4 ⟨rfl, m4, rfl⟩
    have R4 := Lib.hid (R3.out.drewN m4); have F4 := Lib.hid (F3.out.drewN m4)
    have D5 := braces_any g A c bs s _ R4.out
    clear D4 R3 F3
    cases h5 : bracesF bs s with
    | error p =>
      have E : Hid (quantF bs s = .error p) := by show quantF bs s = _; rw [E4.out, h5]; rfl
      rw [h5] at D5
      have D5 := Lib.hid D5
      go_wp2_with fail
      refine D5.out.mono ?_
      rintro e w5 ⟨rfl, hf5⟩
      go_wp2
      exact ⟨rfl, Does.err E.out (F4.out.trans hf5)⟩
    | ok x =>
      obtain ⟨⟨lo, hi⟩, s5⟩ := x
      have E5 : Hid (quantF bs s = .ok ((lo, hi, true), s5)) := by show quantF bs s = _; rw [E4.out, h5]; rfl
      rw [h5] at D5
      have D5 := Lib.hid D5
      clear h5 E4
      go_wp2_with fail
      refine D5.out.mono ?_
      rintro e w5 ⟨v5, rfl, rfl, hr5, hf5, hi5, ho5⟩
      have R5 := Lib.hid hr5; have F5 := Lib.hid (F4.out.trans hf5)
      clear hr5 hf5 D5 R4 F4
      go_wp2
      refine bodyPost_ret (v := .tuple #[.int .i64 lo, .int .i64 hi, .bool true]) (by simp [results, Try.results82, go_sem]) rfl ?_
      exact Does.okk E5.out rfl R5.out F5.out (by omega) ho5
end Go.Proofs.Ytnaecagmcpndhaa
namespace Go.Proofs.Ytnaecagmcpndhaa
open Go.RowKit

theorem ret_b {a b : Bool} (h : a = b) : Ending.returned (.bool a) = .returned (.bool b) := by rw [h]
def isL (x : Nat) : Bool := decide ((97 ≤ x ∧ x ≤ 122) ∨ (65 ≤ x ∧ x ≤ 90))
def isM (x : Nat) : Bool := decide (33 ≤ x ∧ x ≤ 126) && !isD x && !isL x
theorem isLetter_any (x : Nat) (w : World) (hx : x < 256) : Calls Try.prog 106 #[.int .u8 (x : Nat)] w fun e w' => e = .returned (.bool (isL x)) ∧ w = w' := by
  by_cases h1 : 97 ≤ x
  · by_cases h2 : x ≤ 122
    · have q : isL x = true := by unfold isL; rw [decide_eq_true]; omega
      rw [q]
      go_enter Try.func106, Try.ntmps106
      go_wp2
      go_ret
      exact ⟨ret_b (by first | rfl | (simp; done) | (simp; omega)), rfl⟩
    · have q : isL x = false := by unfold isL; rw [decide_eq_false]; omega
      rw [q]
      have q3 : ¬ x ≤ 90 := by omega
      have q4 : 65 ≤ x := by omega
      go_enter Try.func106, Try.ntmps106
      go_wp2
      go_ret
      exact ⟨ret_b (by first | rfl | (simp; done) | (simp; omega)), rfl⟩
  · by_cases h3 : 65 ≤ x
    · by_cases h4 : x ≤ 90
      · have q : isL x = true := by unfold isL; rw [decide_eq_true]; omega
        rw [q]
        go_enter Try.func106, Try.ntmps106
        go_wp2
        go_ret
        exact ⟨ret_b (by first | rfl | (simp; done) | (simp; omega)), rfl⟩
      · have q : isL x = false := by unfold isL; rw [decide_eq_false]; omega
        rw [q]
        go_enter Try.func106, Try.ntmps106
        go_wp2
        go_ret
        exact ⟨ret_b (by first | rfl | (simp; done) | (simp; omega)), rfl⟩
    · have q : isL x = false := by unfold isL; rw [decide_eq_false]; omega
      rw [q]
      go_enter Try.func106, Try.ntmps106
      go_wp2
      go_ret
      exact ⟨ret_b (by first | rfl | (simp; done) | (simp; omega)), rfl⟩
set_option maxHeartbeats 400000 in
theorem isMark_any (x : Nat) (w : World) (hx : x < 256) : Calls Try.prog 102 #[.int .u8 (x : Nat)] w fun e w' => e = .returned (.bool (isM x)) ∧ w = w' := by
  have D1 := Lib.hid fun W => isDigit_any x W hx
  have D2 := Lib.hid fun W => isLetter_any x W hx
  unfold isM
  by_cases h1 : 33 ≤ x
  · by_cases h2 : x ≤ 126
    · rw [decide_eq_true ⟨h1, h2⟩]
      generalize isD x = a at *
      generalize isL x = b at *
      cases a with
      | true =>
        go_enter Try.func102, Try.ntmps102
        go_wp2_with fail
        refine (D1.out _).mono ?_
        rintro e w' ⟨rfl, rfl⟩
        go_wp2
        go_ret
        exact ⟨ret_b (by first | rfl | (simp; done) | (simp; omega)), rfl⟩
      | false =>
        go_enter Try.func102, Try.ntmps102
        go_wp2_with fail
        refine (D1.out _).mono ?_
        rintro e w' ⟨rfl, rfl⟩
        go_wp2_with fail
        refine (D2.out _).mono ?_
        rintro e w' ⟨rfl, rfl⟩
        go_wp2
        go_ret
        exact ⟨ret_b (by first | rfl | (simp; done) | (simp; omega)), rfl⟩
    · rw [decide_eq_false (by omega)]
      go_enter Try.func102, Try.ntmps102
      go_wp2
      go_ret
      exact ⟨ret_b (by first | rfl | (simp; done) | (simp; omega)), rfl⟩
  · rw [decide_eq_false (by omega)]
    go_enter Try.func102, Try.ntmps102
    go_wp2
    go_ret
    exact ⟨ret_b (by first | rfl | (simp; done) | (simp; omega)), rfl⟩
def Fact64 (x : Nat) (r : Bool) : Prop := x < 256 ∧ isM x = r
theorem quiet64 (x : Nat) (r : Bool) (W : World) (m : Nat) (h : Fact64 x r) : Calls Try.prog 102 #[.int .u8 (x : Nat)] (W.drewN m) fun e w' => e = .returned (.bool r) ∧ ∃ m', w' = W.drewN m' := by
  obtain ⟨hx, rfl⟩ := h
  exact (isMark_any x (W.drewN m) hx).mono fun e w' ⟨h1, h2⟩ => ⟨h1, m, h2.symm⟩

def hexv (x : Nat) : Option Nat := if isD x then some (x - 48) else if 97 ≤ x ∧ x ≤ 102 then some (x - 87) else if 65 ≤ x ∧ x ≤ 70 then some (x - 55) else none
def hexF (bs : List Nat) (s : St) : Except Nat (Nat × St) :=
  if s.i < bs.length then (match hexv (bn bs s.i) with | some v => .ok (v, s.nx) | none => .error s.i) else .error s.i
def isByte (m : Nat) : World → Nat → Value → Prop := fun _ n v => v = .int .u8 (n : Nat) ∧ n ≤ m
set_option maxHeartbeats 1000000 in
theorem hex_any (g : Nat) (A : Option Addr) (c : Nat) (bs : List Nat) (s : St) (w : World) (h : Rd w g A c bs s) :
    Calls Try.prog 101 #[.pointer (some ⟨g, 0, none⟩)] w (Does w g A c bs s 1 (hexF bs s) (isByte 15)) := by
  obtain ⟨c0, c1, _⟩ := h.cells
  have hl := h.le
  have hlen := h.len
  have H := Lib.hid h
  have D1 := ended_any g A c bs s w h
  by_cases he : s.i = bs.length
  · have E : Hid (hexF bs s = .error s.i) := by show hexF bs s = _; unfold hexF; rw [if_neg (by omega)]
    rw [decide_eq_true he] at D1
    have D1 := Lib.hid D1
    clear h he
    go_enter Try.func101, Try.ntmps101
    go_wp2_with fail
    refine D1.out.mono ?_
    rintro e w1 ⟨rfl, m, rfl⟩
    have D2 := Lib.hid (giveUp_any g A c bs s (w.drewN m) (H.out.drewN m))
    go_wp2_with fail
    refine D2.out.mono ?_
    rintro e w2 ⟨rfl, hf2⟩
    go_wp2
    exact ⟨rfl, Does.err E.out (((Fg.refl _ _).drewN m).trans hf2)⟩
  · rw [decide_eq_false he] at D1
    have D1 := Lib.hid D1
    obtain ⟨bb, off, rfl, hc, hb⟩ := h.byte s.i (by omega)
    have q2 : (s.i : Int) < (bs.length : Int) := by omega
    have E : Hid (hexF bs s = match hexv (bn bs s.i) with | some v => .ok (v, s.nx) | none => .error s.i) := by show hexF bs s = _; unfold hexF; rw [if_pos (by omega)]
    have f1 := h.frozen 1
    clear h
    generalize bn bs s.i = y at *
    have D3 := Lib.hid fun W => isDigit_any y W hb
    go_enter Try.func101, Try.ntmps101
    go_wp2_with fail
    refine D1.out.mono ?_
    rintro e w1 ⟨rfl, m, rfl⟩
    go_wp2_with fail
    go_quiet (fail)
    have R1 := Lib.hid (H.out.drewN (m + nq))
    have G1 := Lib.hid ((Fg.refl w g).drewN (m + nq))
    have R2 := Lib.hid (R1.out.put1 ((s.i : Int) + 1) (s.i + 1) (by omega) (by omega) (by have := H.out.op; omega))
    have D4 := Lib.hid (giveUp_any g _ c bs s _ R1.out)
    clear D1
    cases hd : isD y with
    | true =>
      rw [hd] at D3
      have hy := of_decide_eq_true hd
      have E2 : Hid (hexF bs s = .ok (y - 48, s.nx)) := by show hexF bs s = _; rw [E.out]; unfold hexv; rw [hd]; rfl
      have q5 : IntKind.u8.wrap ((y : Int) - 48) = ((y - 48 : Nat) : Int) := by rw [IntKind.wrap_u8']; omega
      clear hd
      go_wp2_with fail
      refine (D3.out _).mono ?_
      rintro e w2 ⟨rfl, rfl⟩
      go_wp2
      go_ret
      exact Does.okk E2.out ⟨rfl, by omega⟩ R2.out (G1.out.set_ 1 _) (by simp [St.nx]) rfl
    | false =>
      rw [hd] at D3
      by_cases h1 : 97 ≤ y ∧ y ≤ 102
      · have E2 : Hid (hexF bs s = .ok (y - 87, s.nx)) := by show hexF bs s = _; rw [E.out]; unfold hexv; rw [hd, if_pos h1]; rfl
        have q5 : IntKind.u8.wrap ((y : Int) - 87) = ((y - 87 : Nat) : Int) := by rw [IntKind.wrap_u8']; omega
        obtain ⟨h2, h3⟩ := h1
        clear hd
        go_wp2_with fail
        refine (D3.out _).mono ?_
        rintro e w2 ⟨rfl, rfl⟩
        go_wp2
        go_ret
        exact Does.okk E2.out ⟨rfl, by omega⟩ R2.out (G1.out.set_ 1 _) (by simp [St.nx]) rfl
      · by_cases h4 : 65 ≤ y ∧ y ≤ 70
        · have E2 : Hid (hexF bs s = .ok (y - 55, s.nx)) := by show hexF bs s = _; rw [E.out]; unfold hexv; rw [hd, if_neg h1, if_pos h4]; rfl
          have q5 : IntKind.u8.wrap ((y : Int) - 55) = ((y - 55 : Nat) : Int) := by rw [IntKind.wrap_u8']; omega
          obtain ⟨h2, h3⟩ := h4
          have h5 : ¬ 97 ≤ y := by omega
          clear hd h1
          go_wp2_with fail
          refine (D3.out _).mono ?_
          rintro e w2 ⟨rfl, rfl⟩
          go_wp2
          go_ret
          exact Does.okk E2.out ⟨rfl, by omega⟩ R2.out (G1.out.set_ 1 _) (by simp [St.nx]) rfl
        · have E2 : Hid (hexF bs s = .error s.i) := by show hexF bs s = _; rw [E.out]; unfold hexv; rw [hd, if_neg h1, if_neg h4]; rfl
          clear hd
          have n1 : ¬ 97 ≤ y ∨ ¬ y ≤ 102 := by omega
          have n2 : ¬ 65 ≤ y ∨ ¬ y ≤ 70 := by omega
          clear h1 h4
          go_wp2_with fail
          refine (D3.out _).mono ?_
          rintro e w2 ⟨rfl, rfl⟩
          by_cases a1 : 97 ≤ y
          · have a2 : ¬ y ≤ 102 := by omega
            have a4 : 65 ≤ y := by omega
            have a3 : ¬ y ≤ 70 := by omega
            clear n1 n2
            go_wp2_with fail
            refine D4.out.mono ?_
            rintro e w3 ⟨rfl, hf3⟩
            go_wp2
            exact ⟨rfl, Does.err E2.out (G1.out.trans hf3)⟩
          · by_cases a4 : 65 ≤ y
            · have a3 : ¬ y ≤ 70 := by omega
              clear n1 n2
              go_wp2_with fail
              refine D4.out.mono ?_
              rintro e w3 ⟨rfl, hf3⟩
              go_wp2
              exact ⟨rfl, Does.err E2.out (G1.out.trans hf3)⟩
            · clear n1 n2
              go_wp2_with fail
              refine D4.out.mono ?_
              rintro e w3 ⟨rfl, hf3⟩
              go_wp2
              exact ⟨rfl, Does.err E2.out (G1.out.trans hf3)⟩
end Go.Proofs.Ytnaecagmcpndhaa
namespace Go.Proofs.Ytnaecagmcpndhaa
open Go.RowKit

def escTail (bs : List Nat) (s1 : St) : Except Nat (Nat × St) := if s1.i < bs.length ∧ isM (bn bs s1.i) = true then .ok (bn bs s1.i, s1.nx) else .error s1.i
def escRest (bs : List Nat) (s1 : St) : Except Nat (Nat × St) :=
  if sb bs s1.i 110 then .ok (10, s1.nx) else if sb bs s1.i 116 then .ok (9, s1.nx) else if sb bs s1.i 114 then .ok (13, s1.nx)
  else if sb bs s1.i 120 then thn (hexF bs s1.nx) fun h s2 => thn (hexF bs s2) fun l s3 => .ok (16 * h + l, s3) else escTail bs s1
def escapedF (bs : List Nat) (s : St) : Except Nat (Nat × St) := thn (mustF bs s 92) fun _ s1 => escRest bs s1
theorem or16 : ∀ h l : Fin 16, bits .or .u8 (((16 * h.val : Nat) : Int)) ((l.val : Nat) : Int) = ((16 * h.val + l.val : Nat) : Int) := by decide
theorem or_hex (h l : Nat) (h1 : h ≤ 15) (h2 : l ≤ 15) : bits .or .u8 (((16 * h : Nat) : Int)) ((l : Nat) : Int) = ((16 * h + l : Nat) : Int) := or16 ⟨h, by omega⟩ ⟨l, by omega⟩

set_option maxHeartbeats 2000000 in
theorem escaped_any (g : Nat) (A : Option Addr) (c : Nat) (bs : List Nat) (s : St) (w : World) (h : Rd w g A c bs s) :
    Calls Try.prog 95 #[.pointer (some ⟨g, 0, none⟩)] w (Does w g A c bs s 2 (escapedF bs s) (isByte 255)) := by
  have D1 := must_any g A c bs s 92 w h
  cases h1 : mustF bs s 92 with
  | error p =>
    have E : Hid (escapedF bs s = .error p) := by show escapedF bs s = _; unfold escapedF; rw [h1]; rfl
    rw [h1] at D1
    have D1 := Lib.hid D1
    clear h
    go_enter Try.func95, Try.ntmps95
    go_wp2_with fail
    refine D1.out.mono ?_
    rintro e w2 ⟨rfl, hf2⟩
    go_wp2
    exact ⟨rfl, Does.err E.out hf2⟩
  | ok x =>
  obtain ⟨_, s1⟩ := x
  rw [h1] at D1
  have D1 := Lib.hid D1
  have E1 : Hid (escapedF bs s = escRest bs s1) := by show escapedF bs s = _; unfold escapedF; rw [h1]; rfl
  clear h h1
  go_enter Try.func95, Try.ntmps95
  go_wp2_with fail
  refine D1.out.mono ?_
  rintro e w1 ⟨v1, rfl, rfl, hr1, hf1, hi1, ho1⟩
  have R1 := Lib.hid hr1; have F1 := Lib.hid hf1
  have nxi : s1.nx.i = s1.i + 1 := rfl
  have nxo : s1.nx.op = s1.op := rfl
  have D2 := takes_any g A c bs s1 110 w1 hr1
  clear hr1 hf1 D1
  cases h2 : sb bs s1.i 110 with
  | true =>
    have E : Hid (escapedF bs s = .ok (10, s1.nx)) := by show escapedF bs s = _; rw [E1.out]; unfold escRest; rw [h2]; rfl
    rw [h2] at D2
    have D2 := Lib.hid D2
    go_wp2_with fail
    refine D2.out.mono ?_
    rintro e w2 ⟨rfl, hr2, hf2⟩
    replace hr2 : Rd w2 g A c bs s1.nx := hr2
    have R2 := Lib.hid hr2; have F2 := Lib.hid (F1.out.trans hf2)
    clear hr2 hf2 D2
    go_wp2
    go_ret
    exact Does.okk E.out ⟨rfl, by omega⟩ R2.out F2.out (by omega) (by omega)
  | false =>
  rw [h2] at D2
  have D2 := Lib.hid D2
  go_wp2_with fail
  refine D2.out.mono ?_
  rintro e w2 ⟨rfl, hr2, hf2⟩
  replace hr2 : Rd w2 g A c bs s1 := hr2
  have R2 := Lib.hid hr2; have F2 := Lib.hid (F1.out.trans hf2)
  have D3 := takes_any g A c bs s1 116 w2 hr2
  clear hr2 hf2 D2 R1 F1
  cases h3 : sb bs s1.i 116 with
  | true =>
    have E : Hid (escapedF bs s = .ok (9, s1.nx)) := by show escapedF bs s = _; rw [E1.out]; unfold escRest; rw [h2, h3]; rfl
    rw [h3] at D3
    have D3 := Lib.hid D3
    go_wp2_with fail
    refine D3.out.mono ?_
    rintro e w3 ⟨rfl, hr3, hf3⟩
    replace hr3 : Rd w3 g A c bs s1.nx := hr3
    have R3 := Lib.hid hr3; have F3 := Lib.hid (F2.out.trans hf3)
    clear hr3 hf3 D3
    go_wp2
    go_ret
    exact Does.okk E.out ⟨rfl, by omega⟩ R3.out F3.out (by omega) (by omega)
  | false =>
  rw [h3] at D3
  have D3 := Lib.hid D3
  go_wp2_with fail
  refine D3.out.mono ?_
  rintro e w3 ⟨rfl, hr3, hf3⟩
  replace hr3 : Rd w3 g A c bs s1 := hr3
  have R3 := Lib.hid hr3; have F3 := Lib.hid (F2.out.trans hf3)
  have D4 := takes_any g A c bs s1 114 w3 hr3
  clear hr3 hf3 D3 R2 F2
  cases h4 : sb bs s1.i 114 with
  | true =>
    have E : Hid (escapedF bs s = .ok (13, s1.nx)) := by show escapedF bs s = _; rw [E1.out]; unfold escRest; rw [h2, h3, h4]; rfl
    rw [h4] at D4
    have D4 := Lib.hid D4
    go_wp2_with fail
    refine D4.out.mono ?_
    rintro e w4 ⟨rfl, hr4, hf4⟩
    replace hr4 : Rd w4 g A c bs s1.nx := hr4
    have R4 := Lib.hid hr4; have F4 := Lib.hid (F3.out.trans hf4)
    clear hr4 hf4 D4
    go_wp2
    go_ret
    exact Does.okk E.out ⟨rfl, by omega⟩ R4.out F4.out (by omega) (by omega)
  | false =>
  rw [h4] at D4
  have D4 := Lib.hid D4
  go_wp2_with fail
  refine D4.out.mono ?_
  rintro e w4 ⟨rfl, hr4, hf4⟩
  replace hr4 : Rd w4 g A c bs s1 := hr4
  have R4 := Lib.hid hr4; have F4 := Lib.hid (F3.out.trans hf4)
  have D5 := takes_any g A c bs s1 120 w4 hr4
  clear hr4 hf4 D4 R3 F3
  cases h5 : sb bs s1.i 120 with
  | true =>
    have E5 : Hid (escapedF bs s = thn (hexF bs s1.nx) fun h s2 => thn (hexF bs s2) fun l s3 => .ok (16 * h + l, s3)) := by show escapedF bs s = _; rw [E1.out]; unfold escRest; rw [h2, h3, h4, h5]; rfl
    rw [h5] at D5
    have D5 := Lib.hid D5
    clear h2 h3 h4 h5 E1
    go_wp2_with fail
    refine D5.out.mono ?_
    rintro e w5 ⟨rfl, hr5, hf5⟩
    replace hr5 : Rd w5 g A c bs s1.nx := hr5
    have F5 := Lib.hid (F4.out.trans hf5)
    have D6 := hex_any g A c bs s1.nx w5 hr5
    clear hr5 hf5 D5 R4 F4
    cases h6 : hexF bs s1.nx with
    | error p =>
      have E : Hid (escapedF bs s = .error p) := by show escapedF bs s = _; rw [E5.out, h6]; rfl
      rw [h6] at D6
      have D6 := Lib.hid D6
      go_wp2_with fail
      refine D6.out.mono ?_
      rintro e w6 ⟨rfl, hf6⟩
      go_wp2
      exact ⟨rfl, Does.err E.out (F5.out.trans hf6)⟩
    | ok x =>
    obtain ⟨hv, s2⟩ := x
    rw [h6] at D6
    have D6 := Lib.hid D6
    go_wp2_with fail
    refine D6.out.mono ?_
    rintro e w6 ⟨v6, rfl, ⟨rfl, hh6⟩, hr6, hf6, hi6, ho6⟩
    have F6 := Lib.hid (F5.out.trans hf6)
    have D7 := hex_any g A c bs s2 w6 hr6
    clear hr6 hf6 D6 F5
    cases h7 : hexF bs s2 with
    | error p =>
      have E : Hid (escapedF bs s = .error p) := by show escapedF bs s = _; rw [E5.out, h6]; show thn (hexF bs s2) _ = _; rw [h7]; rfl
      rw [h7] at D7
      have D7 := Lib.hid D7
      clear h6
      go_wp2_with fail
      refine D7.out.mono ?_
      rintro e w7 ⟨rfl, hf7⟩
      go_wp2
      exact ⟨rfl, Does.err E.out (F6.out.trans hf7)⟩
    | ok x =>
    obtain ⟨lv, s3⟩ := x
    have E7 : Hid (escapedF bs s = .ok (16 * hv + lv, s3)) := by show escapedF bs s = _; rw [E5.out, h6]; show thn (hexF bs s2) _ = _; rw [h7]; rfl
    rw [h7] at D7
    have D7 := Lib.hid D7
    clear h6 h7 E5
    have sh : IntKind.u8.wrap ((hv : Int) * 16) = ((16 * hv : Nat) : Int) := by rw [IntKind.wrap_u8']; omega
    go_wp2_with fail
    refine D7.out.mono ?_
    rintro e w7 ⟨v7, rfl, ⟨rfl, hh7⟩, hr7, hf7, hi7, ho7⟩
    have R7 := Lib.hid hr7; have F7 := Lib.hid (F6.out.trans hf7)
    have orx := or_hex hv lv hh6 hh7
    clear hr7 hf7 D7 F6
    go_wp2
    go_ret
    exact Does.okk E7.out ⟨by first | (rw [← orx]; rfl) | (rw [← orx]; congr 2; omega), by omega⟩ R7.out F7.out (by omega) (by omega)
  | false =>
    have E5 : Hid (escapedF bs s = escTail bs s1) := by show escapedF bs s = _; rw [E1.out]; unfold escRest; rw [h2, h3, h4, h5]; rfl
    rw [h5] at D5
    have D5 := Lib.hid D5
    clear h2 h3 h4 h5 E1
    go_wp2_with fail
    refine D5.out.mono ?_
    rintro e w5 ⟨rfl, hr5, hf5⟩
    replace hr5 : Rd w5 g A c bs s1 := hr5
    have F5 := Lib.hid (F4.out.trans hf5)
    have H := Lib.hid hr5
    obtain ⟨c0, c1, _⟩ := hr5.cells
    have hl := hr5.le
    have hlen := hr5.len
    clear hf5 D5 R4 F4
    by_cases he : s1.i = bs.length
    · have E : Hid (escapedF bs s = .error s1.i) := by show escapedF bs s = _; rw [E5.out]; unfold escTail; rw [if_neg (by omega)]
      have G1 : Hid (Fact20 w5 g true) := ⟨A, c, bs, s1, hr5, by simp [he]⟩
      clear hr5 he
      go_wp2_with fail
      go_quiet ((go_at_call 57; with_reducible exact quiet20 _ _ _ _ (by exact G1.out)))
      have D2 := Lib.hid (giveUp_any g A c bs s1 (w5.drewN nq) (H.out.drewN nq))
      go_wp2_with fail
      refine D2.out.mono ?_
      rintro e w2 ⟨rfl, hf2⟩
      go_wp2
      exact ⟨rfl, Does.err E.out ((F5.out.drewN nq).trans hf2)⟩
    · have G1 : Hid (Fact20 w5 g false) := ⟨A, c, bs, s1, hr5, by simp [he]⟩
      obtain ⟨bb, off, rfl, hc, hb⟩ := hr5.byte s1.i (by omega)
      have q2 : (s1.i : Int) < (bs.length : Int) := by omega
      cases hd : isM (bn bs s1.i) with
      | false =>
        have E : Hid (escapedF bs s = .error s1.i) := by show escapedF bs s = _; rw [E5.out]; unfold escTail; rw [if_neg (by rw [hd]; simp)]
        have G2 : Hid (Fact64 (bn bs s1.i) false) := ⟨hb, hd⟩
        clear hr5 hd
        generalize bn bs s1.i = y at *
        go_wp2_with fail
        go_quiet (first | (go_at_call 57; with_reducible exact quiet20 _ _ _ _ (by exact G1.out)) | (go_at_call 102; with_reducible exact quiet64 _ _ _ _ (by exact G2.out)))
        have D2 := Lib.hid (giveUp_any g _ c bs s1 (w5.drewN nq) (H.out.drewN nq))
        go_wp2_with fail
        refine D2.out.mono ?_
        rintro e w2 ⟨rfl, hf2⟩
        go_wp2
        exact ⟨rfl, Does.err E.out ((F5.out.drewN nq).trans hf2)⟩
      | true =>
        have E : Hid (escapedF bs s = .ok (bn bs s1.i, s1.nx)) := by show escapedF bs s = _; rw [E5.out]; unfold escTail; rw [if_pos ⟨by omega, hd⟩]
        have G2 : Hid (Fact64 (bn bs s1.i) true) := ⟨hb, hd⟩
        clear hr5 hd
        generalize bn bs s1.i = y at *
        go_wp2_with fail
        go_quiet (first | (go_at_call 57; with_reducible exact quiet20 _ _ _ _ (by exact G1.out)) | (go_at_call 102; with_reducible exact quiet64 _ _ _ _ (by exact G2.out)))
        have R6 := Lib.hid ((H.out.drewN nq).put1 ((s1.i : Int) + 1) (s1.i + 1) (by omega) (by omega) (by have := H.out.op; omega))
        have f1 := H.out.frozen 1
        have K1 : Hid (Fg w ((w5.drewN nq).setCell ⟨g, 1, none⟩ (.int .i64 ((s1.i : Int) + 1))) g) := (F5.out.drewN nq).set_ 1 _
        have hc2 : ((w5.drewN nq).setCell ⟨g, 1, none⟩ (.int .i64 ((s1.i : Int) + 1))).cell? ⟨bb, off + s1.i, none⟩ = some (.int .u8 (y : Nat)) := by
          have hne : bb ≠ g := fun e => H.out.far (by omega) (by rw [e]; rfl)
          rw [World.cell?_of_block (a := ⟨bb, off + s1.i, none⟩) (Below.heap_setCell (w5.drewN nq) ⟨g, 1, none⟩ _ bb hne)]
          exact hc
        have q4 : IntKind.i64.wrap ((s1.i : Int) + 1 - 1) = (s1.i : Int) := by rw [IntWalk.i64_in _ (by omega)]; omega
        clear hc
        go_wp2_with fail
        go_quiet (fail)
        go_wp2
        go_ret
        exact Does.okk E.out ⟨rfl, by omega⟩ (R6.out.drewN _) (K1.out.drewN _) (by omega) (by omega)

/-- one of some bytes -/
def takeButF (bs : List Nat) (s : St) (xs : List Nat) : Except Nat (Nat × St) :=
  if s.i < bs.length ∧ ¬ bn bs s.i ∈ xs then .ok (bn bs s.i, s.nx) else .error s.i
end Go.Proofs.Ytnaecagmcpndhaa
namespace Go.Proofs.Ytnaecagmcpndhaa
open Go.RowKit

/-- the bytes of a text -/
def btl (B : ByteArray) : List Nat := B.data.toList.map UInt8.toNat
theorem len_btl (B : ByteArray) : (btl B).length = B.size := by unfold btl; rw [List.length_map, Array.length_toList]; rfl
theorem btl_at (B : ByteArray) (j : Nat) (hj : j < B.size) : bn (btl B) j = (B[j]'hj).toNat := by
  have h1 : j < B.data.size := hj
  unfold bn btl
  simp only [List.getD, List.getElem?_map, Array.getElem?_toList, Array.getElem?_eq_getElem h1, Option.map_some, Option.getD_some]
  rfl
theorem mem_upto (xs : List Nat) (y : Nat) : y ∈ xs ↔ ∃ j, j < xs.length ∧ bn xs j = y := by
  constructor
  · intro h
    obtain ⟨j, hj, e⟩ := List.getElem_of_mem h
    exact ⟨j, hj, by unfold bn; simp [List.getD, hj, e]⟩
  · rintro ⟨j, hj, rfl⟩
    unfold bn
    simp only [List.getD, List.getElem?_eq_getElem hj, Option.getD_some]
    exact List.getElem_mem hj
set_option maxHeartbeats 1000000 in
theorem takeBut_any (g : Nat) (A : Option Addr) (c : Nat) (bs : List Nat) (s : St) (B : ByteArray) (w : World) (h : Rd w g A c bs s) (hB : B.size ≤ 100) :
    Calls Try.prog 88 #[.pointer (some ⟨g, 0, none⟩), .string B] w (Does w g A c bs s 1 (takeButF bs s (btl B)) (isByte 255)) := by
  obtain ⟨c0, c1, _⟩ := h.cells
  have hl := h.le
  have hlen := h.len
  have H := Lib.hid h
  have D1 := ended_any g A c bs s w h
  by_cases he : s.i = bs.length
  · have E : Hid (takeButF bs s (btl B) = .error s.i) := by show takeButF bs s (btl B) = _; unfold takeButF; rw [if_neg (by omega)]
    rw [decide_eq_true he] at D1
    have D1 := Lib.hid D1
    clear h he
    go_enter Try.func88, Try.ntmps88
    go_wp2_with fail
    refine D1.out.mono ?_
    rintro e w1 ⟨rfl, m, rfl⟩
    have D2 := Lib.hid (giveUp_any g A c bs s (w.drewN m) (H.out.drewN m))
    go_wp2_with fail
    refine D2.out.mono ?_
    rintro e w2 ⟨rfl, hf2⟩
    go_wp2
    exact ⟨rfl, Does.err E.out (((Fg.refl _ _).drewN m).trans hf2)⟩
  · rw [decide_eq_false he] at D1
    have D1 := Lib.hid D1
    obtain ⟨bb, off, rfl, hc, hb⟩ := h.byte s.i (by omega)
    have q2 : (s.i : Int) < (bs.length : Int) := by omega
    have E1 : Hid (takeButF bs s (btl B) = if bn bs s.i ∈ btl B then .error s.i else .ok (bn bs s.i, s.nx)) := by
      show takeButF bs s (btl B) = _
      unfold takeButF
      by_cases hm : bn bs s.i ∈ btl B
      · rw [if_neg (fun k => k.2 hm), if_pos hm]
      · rw [if_pos ⟨by omega, hm⟩, if_neg hm]
    have f1 := h.frozen 1
    clear h
    generalize bn bs s.i = y at *
    go_enter Try.func88, Try.ntmps88
    go_wp2_with fail
    refine D1.out.mono ?_
    rintro e w1 ⟨rfl, m, rfl⟩
    go_wp2_with fail
    go_quiet (fail)
    have R1 := Lib.hid (H.out.drewN (m + nq))
    have G1 := Lib.hid ((Fg.refl w g).drewN (m + nq))
    have R2 := Lib.hid (R1.out.put1 ((s.i : Int) + 1) (s.i + 1) (by omega) (by omega) (by have := H.out.op; omega))
    have D4 := Lib.hid (giveUp_any g _ c bs s _ R1.out)
    clear D1
    go_wp2_with fail
    go_loopw [23] (fun i wr => ∃ j : Nat, j ≤ B.size ∧ i = .int .i64 (j : Nat) ∧ wr = w.drewN (m + nq) ∧ ∀ k, k < j → bn (btl B) k ≠ y) (fun i _ => B.size - (intOf i).toNat)
    case atStart => exact ⟨0, by omega, rfl, rfl, fun k hk => by omega⟩
    case round =>
      obtain ⟨j, hj, rfl, rfl, hno⟩ := hrel
      have HNO := Lib.hid hno
      clear hno
      by_cases hlt : j < B.size
      · have hbj := btl_at B j hlt
        have qj : (j : Int) < (B.size : Int) := by omega
        by_cases hey : bn (btl B) j = y
        · have E2 : Hid (takeButF bs s (btl B) = .error s.i) := by show takeButF bs s (btl B) = _; rw [E1.out, if_pos ((mem_upto _ _).2 ⟨j, by rw [len_btl]; exact hlt, hey⟩)]
          have qe : (((B[j]'hlt).toNat : Int) == (y : Int)) = true := by rw [beq_iff_eq]; omega
          clear hbj hey
          go_wp2_with fail
          refine D4.out.mono ?_
          rintro e w3 ⟨rfl, hf3⟩
          go_wp2
          exact ⟨rfl, Does.err E2.out (G1.out.trans hf3)⟩
        · have qe : (((B[j]'hlt).toNat : Int) == (y : Int)) = false := by rw [beq_eq_false_iff_ne]; omega
          have HEY := Lib.hid hey
          clear hbj hey
          go_wp2_with fail
          go_roundw
          case rel => exact ⟨j + 1, by omega, by go_num, (by first | rfl | trivial), fun k hk => by
            rcases Nat.lt_or_ge k j with h1 | h1
            · exact HNO.out k h1
            · obtain rfl : k = j := by omega
              exact HEY.out⟩
          case measure => simp [intOf]; omega
      · obtain rfl : j = B.size := by omega
        have E2 : Hid (takeButF bs s (btl B) = .ok (y, s.nx)) := by
          show takeButF bs s (btl B) = _
          rw [E1.out, if_neg]
          rw [mem_upto]
          rintro ⟨k, hk, e⟩
          rw [len_btl] at hk
          exact HNO.out k hk e
        go_wp2
        go_ret
        exact Does.okk E2.out ⟨rfl, by omega⟩ R2.out (G1.out.set_ 1 _) (by simp [St.nx]) rfl

def endF (bs : List Nat) (s : St) : Except Nat (Nat × St) := if sb bs s.i 92 then escapedF bs s else takeButF bs s [91, 93, 94, 45]
theorem Does.weak {α : Type} {w w' : World} {g : Nat} {A : Option Addr} {c : Nat} {bs : List Nat} {s : St} {d d' : Nat} {r : Except Nat (α × St)} {val : World → α → Value → Prop} {e : Ending} (h : Does w g A c bs s d r val e w') (hd : d' ≤ d) : Does w g A c bs s d' r val e w' := by
  cases r with
  | error p => exact h
  | ok x => obtain ⟨v, h1, h2, h3, h4, h5, h6⟩ := h; exact ⟨v, h1, h2, h3, h4, by omega, h6⟩
theorem end_any (g : Nat) (A : Option Addr) (c : Nat) (bs : List Nat) (s : St) (w : World) (h : Rd w g A c bs s) :
    Calls Try.prog 99 #[.pointer (some ⟨g, 0, none⟩)] w (Does w g A c bs s 1 (endF bs s) (isByte 255)) := by
  have D1 := sees_any g A c bs s 92 w h
  cases h1 : sb bs s.i 92 with
  | true =>
    have E : endF bs s = escapedF bs s := by unfold endF; rw [h1]; rfl
    rw [h1] at D1
    have D1 := Lib.hid D1
    have H := Lib.hid h
    clear h h1
    rw [E]
    clear E
    go_enter Try.func99, Try.ntmps99
    go_wp2_with fail
    refine D1.out.mono ?_
    rintro e w1 ⟨rfl, m, rfl⟩
    have D2 := Lib.hid (escaped_any g A c bs s _ (H.out.drewN m))
    clear D1
    go_wp2_with fail
    refine D2.out.mono ?_
    intro e w2 hd
    cases hr : escapedF bs s with
    | error p =>
      rw [hr] at hd
      obtain ⟨rfl, hf⟩ := hd
      go_wp2
      exact ⟨rfl, Does.err rfl (((Fg.refl w g).drewN m).trans hf)⟩
    | ok x =>
      obtain ⟨n, s2⟩ := x
      rw [hr] at hd
      obtain ⟨v, rfl, ⟨rfl, hn⟩, hr2, hf2, hi2, ho2⟩ := hd
      have R2 := Lib.hid hr2; have F2 := Lib.hid (((Fg.refl w g).drewN m).trans hf2)
      have HR := Lib.hid hr
      clear hr2 hf2 D2 hr
      go_wp2
      go_ret
      exact Does.okk HR.out ⟨rfl, hn⟩ R2.out F2.out (by omega) ho2
  | false =>
    have E : endF bs s = takeButF bs s [91, 93, 94, 45] := by unfold endF; rw [h1]; rfl
    rw [h1] at D1
    have D1 := Lib.hid D1
    have H := Lib.hid h
    clear h h1
    rw [E]
    clear E
    go_enter Try.func99, Try.ntmps99
    go_wp2_with fail
    refine D1.out.mono ?_
    rintro e w1 ⟨rfl, m, rfl⟩
    have D2 : Hid (Calls Try.prog 88 #[.pointer (some ⟨g, 0, none⟩), .string { data := #[91, 93, 94, 45] }] (w.drewN m) (Does (w.drewN m) g A c bs s 1 (takeButF bs s [91, 93, 94, 45]) (isByte 255))) := takeBut_any g A c bs s { data := #[91, 93, 94, 45] } _ (H.out.drewN m) (by decide)
    clear D1
    go_wp2_with fail
    refine D2.out.mono ?_
    intro e w2 hd
    cases hr : takeButF bs s [91, 93, 94, 45] with
    | error p =>
      rw [hr] at hd
      obtain ⟨rfl, hf⟩ := hd
      go_wp2
      exact ⟨rfl, Does.err rfl (((Fg.refl w g).drewN m).trans hf)⟩
    | ok x =>
      obtain ⟨n, s2⟩ := x
      rw [hr] at hd
      obtain ⟨v, rfl, ⟨rfl, hn⟩, hr2, hf2, hi2, ho2⟩ := hd
      have R2 := Lib.hid hr2; have F2 := Lib.hid (((Fg.refl w g).drewN m).trans hf2)
      have HR := Lib.hid hr
      clear hr2 hf2 D2 hr
      go_wp2
      go_ret
      exact Does.okk HR.out ⟨rfl, hn⟩ R2.out F2.out (by omega) ho2
end Go.Proofs.Ytnaecagmcpndhaa
