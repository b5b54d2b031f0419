/- The reader's braces, quants, hexes, escapes. -/
import Derived.Test.YtkljagffccommaaS3
namespace Go.Proofs.Ytkljagffccommaa
open Go.RowKit

def upperF (bs : List Nat) (lo : Nat) (s : St) : Except Nat (Int × St) :=
  if sb bs s.i 44 then (if sb bs s.nx.i 125 then .ok (-1, s.nx) else thn (numberF bs s.nx) fun hi s3 => .ok ((hi : Int), s3)) else .ok ((lo : Int), s)
def lateF (s0 : St) (lo hi : Int) (s : St) : St := if fitsF lo hi = false ∧ s.rp = -1 then { s with rp := (s0.i : Int) } else s
def bracesF (bs : List Nat) (s : St) : Except Nat ((Int × Int) × St) :=
  thn (mustF bs s 123) fun _ s1 => thn (numberF bs s1) fun lo s2 => thn (upperF bs lo s2) fun hi s4 => thn (mustF bs s4 125) fun _ s5 => .ok (((lo : Int), hi), lateF s ((lo : Nat) : Int) hi s5)
def isTwo : World → Int × Int → Value → Prop := fun _ p v => v = .tuple #[.int .i64 p.1, .int .i64 p.2]

set_option maxHeartbeats 2000000 in
theorem braces_any (g : Nat) (A : Option Addr) (c : Nat) (bs : List Nat) (s : St) (w : World) (h : Rd w g A c bs s) :
    Calls Try.prog 119 #[.pointer (some ⟨g, 0, none⟩)] w (Does w g A c bs s 1 (bracesF bs s) isTwo) := by
  obtain ⟨_, c1, _⟩ := h.cells
  have D1 := must_any g A c bs s 123 w h
  cases h1 : mustF bs s 123 with
  | error p =>
    have E : Hid (bracesF bs s = .error p) := by show bracesF bs s = _; unfold bracesF; rw [h1]; rfl
    rw [h1] at D1
    have D1 := Lib.hid D1
    clear h
    go_enter Try.func119, Try.ntmps119
    go_wp2_with fail
    refine D1.out.mono ?_
    rintro e w2 ⟨rfl, hf2⟩
    go_wp2
    exact ⟨rfl, Does.err E.out hf2⟩
  | ok x =>
  obtain ⟨_, s1⟩ := x
  rw [h1] at D1
  have D1 := Lib.hid D1
  have E1 : Hid (bracesF bs s = thn (numberF bs s1) fun lo s2 => thn (upperF bs lo s2) fun hi s4 => thn (mustF bs s4 125) fun _ s5 => .ok (((lo : Int), hi), lateF s ((lo : Nat) : Int) hi s5)) := by show bracesF bs s = _; unfold bracesF; rw [h1]; rfl
  clear h h1
  go_enter Try.func119, Try.ntmps119
  go_wp2_with fail
  refine D1.out.mono ?_
  rintro e w1 ⟨v1, rfl, rfl, hr1, hf1, hi1, ho1⟩
  have R1 := Lib.hid hr1; have F1 := Lib.hid hf1
  have D2 := number_any g A c bs s1 w1 hr1
  clear hr1 hf1 D1 c1
  cases h2 : numberF bs s1 with
  | error p =>
    have E : Hid (bracesF bs s = .error p) := by show bracesF bs s = _; rw [E1.out, h2]; rfl
    rw [h2] at D2
    have D2 := Lib.hid D2
    go_wp2_with fail
    refine D2.out.mono ?_
    rintro e w2 ⟨rfl, hf2⟩
    go_wp2
    exact ⟨rfl, Does.err E.out (F1.out.trans hf2)⟩
  | ok x =>
  obtain ⟨lo, s2⟩ := x
  rw [h2] at D2
  have D2 := Lib.hid D2
  have E2 : Hid (bracesF bs s = thn (upperF bs lo s2) fun hi s4 => thn (mustF bs s4 125) fun _ s5 => .ok (((lo : Int), hi), lateF s ((lo : Nat) : Int) hi s5)) := by show bracesF bs s = _; rw [E1.out, h2]; rfl
  clear h2 E1
  go_wp2_with fail
  refine D2.out.mono ?_
  rintro e w2 ⟨v2, rfl, ⟨rfl, hlo⟩, hr2, hf2, hi2, ho2⟩
  have R2 := Lib.hid hr2; have F2 := Lib.hid (F1.out.trans hf2)
  have D3 := takes_any g A c bs s2 44 w2 hr2
  clear hr2 hf2 D2 R1 F1
  cases h3 : sb bs s2.i 44 with
  | false =>
    have E3 : Hid (bracesF bs s = thn (mustF bs s2 125) fun _ s5 => .ok (((lo : Int), (lo : Int)), lateF s ((lo : Nat) : Int) (lo : Int) s5)) := by show bracesF bs s = _; rw [E2.out]; unfold upperF; rw [h3]; rfl
    rw [h3] at D3
    have D3 := Lib.hid D3
    clear h3 E2
    go_wp2_with fail
    refine D3.out.mono ?_
    rintro e w3 ⟨rfl, hr3, hf3⟩
    have R3 := Lib.hid hr3; have F3 := Lib.hid (F2.out.trans hf3)
    clear hr3 hf3 D3 R2 F2
    have D6 := must_any g A c bs s2 125 _ R3.out
    have L6 : s.i + 1 ≤ (s2).i ∧ (s2).op = s.op := ⟨by omega, by omega⟩
    cases h6 : mustF bs s2 125 with
    | error p =>
      have E : Hid (bracesF bs s = .error p) := by show bracesF bs s = _; rw [E3.out, h6]; rfl
      rw [h6] at D6
      have D6 := Lib.hid D6
      go_wp2_with fail
      refine D6.out.mono ?_
      rintro e w6 ⟨rfl, hf6⟩
      go_wp2
      exact ⟨rfl, Does.err E.out (F3.out.trans hf6)⟩
    | ok x =>
    obtain ⟨_, s5⟩ := x
    have E7 : Hid (bracesF bs s = .ok (((lo : Int), (lo : Int)), lateF s ((lo : Nat) : Int) (lo : Int) s5)) := by show bracesF bs s = _; rw [E3.out, h6]; rfl
    rw [h6] at D6
    have D6 := Lib.hid D6
    clear h6
    go_wp2_with fail
    refine D6.out.mono ?_
    rintro e w6 ⟨v6, rfl, rfl, hr6, hf6, hi6, ho6⟩
    have R6 := Lib.hid hr6; have F6 := Lib.hid (F3.out.trans hf6)
    obtain ⟨_, b1, _, _, b4⟩ := hr6.cells
    have z4 := hr6.frozen 4
    have D7 := Lib.hid fun W => fits_any (lo : Int) (lo : Int) W
    cases h7 : fitsF (lo : Int) (lo : Int) with
    | true =>
      rw [h7] at D7
      have e7 : lateF s (lo : Int) (lo : Int) s5 = s5 := by unfold lateF; rw [h7]; simp
      rw [e7] at E7
      clear hr6 hf6 D6 e7 h7
      go_wp2_with fail
      refine (D7.out _).mono ?_
      rintro e w7 ⟨rfl, rfl⟩
      go_wp2
      go_ret2
      exact Does.okk E7.out rfl R6.out F6.out (by omega) (by omega)
    | false =>
      rw [h7] at D7
      by_cases h8 : s5.rp = -1
      · have e7 : lateF s (lo : Int) (lo : Int) s5 = { s5 with rp := (s.i : Int) } := by unfold lateF; rw [h7, if_pos ⟨rfl, h8⟩]
        rw [e7] at E7
        rw [h8] at b4
        have R8 := Lib.hid (hr6.set4 (s.i : Int))
        clear hr6 hf6 D6 e7 h7
        go_wp2_with fail
        refine (D7.out _).mono ?_
        rintro e w7 ⟨rfl, rfl⟩
        go_wp2
        go_ret2
        exact Does.okk E7.out rfl R8.out (F6.out.set_ 4 _) (by show s.i + 1 ≤ s5.i; omega) (by show s5.op = s.op; omega)
      · have e7 : lateF s (lo : Int) (lo : Int) s5 = s5 := by unfold lateF; rw [if_neg (fun k => h8 k.2)]
        rw [e7] at E7
        have q8 : (s5.rp == -1) = false := by simpa using h8
        clear hr6 hf6 D6 e7 h7
        go_wp2_with fail
        refine (D7.out _).mono ?_
        rintro e w7 ⟨rfl, rfl⟩
        go_wp2
        go_ret2
        exact Does.okk E7.out rfl R6.out F6.out (by omega) (by omega)
  | true =>
    have hlt := (sb_lt h3).1
    rw [h3] at D3
    have D3 := Lib.hid D3
    go_wp2_with fail
    refine D3.out.mono ?_
    rintro e w3 ⟨rfl, hr3, hf3⟩
    replace hr3 : Rd w3 g A c bs s2.nx := hr3
    have R3 := Lib.hid hr3; have F3 := Lib.hid (F2.out.trans hf3)
    have D4 := sees_any g A c bs s2.nx 125 w3 hr3
    have nxi : s2.nx.i = s2.i + 1 := rfl
    have nxo : s2.nx.op = s2.op := rfl
    clear hr3 hf3 D3 R2 F2
    cases h4 : sb bs s2.nx.i 125 with
    | true =>
      have E4 : Hid (bracesF bs s = thn (mustF bs s2.nx 125) fun _ s5 => .ok (((lo : Int), (-1 : Int)), lateF s ((lo : Nat) : Int) (-1 : Int) s5)) := by show bracesF bs s = _; rw [E2.out]; unfold upperF; rw [h3, h4]; rfl
      rw [h4] at D4
      have D4 := Lib.hid D4
      clear h3 h4 E2
      go_wp2_with fail
      refine D4.out.mono ?_
      rintro e w4 ⟨rfl, m4, rfl⟩
      have R4 := Lib.hid (R3.out.drewN m4); have F4 := Lib.hid (F3.out.drewN m4)
      clear D4 R3 F3
      have D6 := must_any g A c bs s2.nx 125 _ R4.out
      have L6 : s.i + 1 ≤ (s2.nx).i ∧ (s2.nx).op = s.op := ⟨by omega, by omega⟩
      cases h6 : mustF bs s2.nx 125 with
      | error p =>
        have E : Hid (bracesF bs s = .error p) := by show bracesF bs s = _; rw [E4.out, h6]; rfl
        rw [h6] at D6
        have D6 := Lib.hid D6
        go_wp2_with fail
        refine D6.out.mono ?_
        rintro e w6 ⟨rfl, hf6⟩
        go_wp2
        exact ⟨rfl, Does.err E.out (F4.out.trans hf6)⟩
      | ok x =>
      obtain ⟨_, s5⟩ := x
      have E7 : Hid (bracesF bs s = .ok (((lo : Int), (-1 : Int)), lateF s ((lo : Nat) : Int) (-1 : Int) s5)) := by show bracesF bs s = _; rw [E4.out, h6]; rfl
      rw [h6] at D6
      have D6 := Lib.hid D6
      clear h6
      go_wp2_with fail
      refine D6.out.mono ?_
      rintro e w6 ⟨v6, rfl, rfl, hr6, hf6, hi6, ho6⟩
      have R6 := Lib.hid hr6; have F6 := Lib.hid (F4.out.trans hf6)
      obtain ⟨_, b1, _, _, b4⟩ := hr6.cells
      have z4 := hr6.frozen 4
      have D7 := Lib.hid fun W => fits_any (lo : Int) (-1 : Int) W
      cases h7 : fitsF (lo : Int) (-1 : Int) with
      | true =>
        rw [h7] at D7
        have e7 : lateF s (lo : Int) (-1 : Int) s5 = s5 := by unfold lateF; rw [h7]; simp
        rw [e7] at E7
        clear hr6 hf6 D6 e7 h7
        go_wp2_with fail
        refine (D7.out _).mono ?_
        rintro e w7 ⟨rfl, rfl⟩
        go_wp2
        go_ret2
        exact Does.okk E7.out rfl R6.out F6.out (by omega) (by omega)
      | false =>
        rw [h7] at D7
        by_cases h8 : s5.rp = -1
        · have e7 : lateF s (lo : Int) (-1 : Int) s5 = { s5 with rp := (s.i : Int) } := by unfold lateF; rw [h7, if_pos ⟨rfl, h8⟩]
          rw [e7] at E7
          rw [h8] at b4
          have R8 := Lib.hid (hr6.set4 (s.i : Int))
          clear hr6 hf6 D6 e7 h7
          go_wp2_with fail
          refine (D7.out _).mono ?_
          rintro e w7 ⟨rfl, rfl⟩
          go_wp2
          go_ret2
          exact Does.okk E7.out rfl R8.out (F6.out.set_ 4 _) (by show s.i + 1 ≤ s5.i; omega) (by show s5.op = s.op; omega)
        · have e7 : lateF s (lo : Int) (-1 : Int) s5 = s5 := by unfold lateF; rw [if_neg (fun k => h8 k.2)]
          rw [e7] at E7
          have q8 : (s5.rp == -1) = false := by simpa using h8
          clear hr6 hf6 D6 e7 h7
          go_wp2_with fail
          refine (D7.out _).mono ?_
          rintro e w7 ⟨rfl, rfl⟩
          go_wp2
          go_ret2
          exact Does.okk E7.out rfl R6.out F6.out (by omega) (by omega)
    | false =>
      have E4 : Hid (bracesF bs s = thn (thn (numberF bs s2.nx) fun hi s3 => .ok ((hi : Int), s3)) fun hi s4 => thn (mustF bs s4 125) fun _ s5 => .ok (((lo : Int), hi), lateF s ((lo : Nat) : Int) hi s5)) := by show bracesF bs s = _; rw [E2.out]; unfold upperF; rw [h3, h4]; rfl
      rw [h4] at D4
      have D4 := Lib.hid D4
      clear h3 h4 E2
      go_wp2_with fail
      refine D4.out.mono ?_
      rintro e w4 ⟨rfl, m4, rfl⟩
      have R4 := Lib.hid (R3.out.drewN m4); have F4 := Lib.hid (F3.out.drewN m4)
      have D5 := number_any g A c bs s2.nx _ R4.out
      clear D4 R3 F3
      cases h5 : numberF bs s2.nx with
      | error p =>
        have E : Hid (bracesF bs s = .error p) := by show bracesF bs s = _; rw [E4.out, h5]; rfl
        rw [h5] at D5
        have D5 := Lib.hid D5
        go_wp2_with fail
        refine D5.out.mono ?_
        rintro e w5 ⟨rfl, hf5⟩
        go_wp2
        exact ⟨rfl, Does.err E.out (F4.out.trans hf5)⟩
      | ok x =>
        obtain ⟨hi, s3⟩ := x
        have E5 : Hid (bracesF bs s = thn (mustF bs s3 125) fun _ s5 => .ok (((lo : Int), (hi : Int)), lateF s ((lo : Nat) : Int) (hi : Int) s5)) := by show bracesF bs s = _; rw [E4.out, h5]; rfl
        rw [h5] at D5
        have D5 := Lib.hid D5
        clear h5 E4
        go_wp2_with fail
        refine D5.out.mono ?_
        rintro e w5 ⟨v5, rfl, ⟨rfl, hhi⟩, hr5, hf5, hi5, ho5⟩
        have R5 := Lib.hid hr5; have F5 := Lib.hid (F4.out.trans hf5)
        clear hr5 hf5 D5 R4 F4
        have D6 := must_any g A c bs s3 125 _ R5.out
        have L6 : s.i + 1 ≤ (s3).i ∧ (s3).op = s.op := ⟨by omega, by omega⟩
        cases h6 : mustF bs s3 125 with
        | error p =>
          have E : Hid (bracesF bs s = .error p) := by show bracesF bs s = _; rw [E5.out, h6]; rfl
          rw [h6] at D6
          have D6 := Lib.hid D6
          go_wp2_with fail
          refine D6.out.mono ?_
          rintro e w6 ⟨rfl, hf6⟩
          go_wp2
          exact ⟨rfl, Does.err E.out (F5.out.trans hf6)⟩
        | ok x =>
        obtain ⟨_, s5⟩ := x
        have E7 : Hid (bracesF bs s = .ok (((lo : Int), (hi : Int)), lateF s ((lo : Nat) : Int) (hi : Int) s5)) := by show bracesF bs s = _; rw [E5.out, h6]; rfl
        rw [h6] at D6
        have D6 := Lib.hid D6
        clear h6
        go_wp2_with fail
        refine D6.out.mono ?_
        rintro e w6 ⟨v6, rfl, rfl, hr6, hf6, hi6, ho6⟩
        have R6 := Lib.hid hr6; have F6 := Lib.hid (F5.out.trans hf6)
        obtain ⟨_, b1, _, _, b4⟩ := hr6.cells
        have z4 := hr6.frozen 4
        have D7 := Lib.hid fun W => fits_any (lo : Int) (hi : Int) W
        cases h7 : fitsF (lo : Int) (hi : Int) with
        | true =>
          rw [h7] at D7
          have e7 : lateF s (lo : Int) (hi : Int) s5 = s5 := by unfold lateF; rw [h7]; simp
          rw [e7] at E7
          clear hr6 hf6 D6 e7 h7
          go_wp2_with fail
          refine (D7.out _).mono ?_
          rintro e w7 ⟨rfl, rfl⟩
          go_wp2
          go_ret2
          exact Does.okk E7.out rfl R6.out F6.out (by omega) (by omega)
        | false =>
          rw [h7] at D7
          by_cases h8 : s5.rp = -1
          · have e7 : lateF s (lo : Int) (hi : Int) s5 = { s5 with rp := (s.i : Int) } := by unfold lateF; rw [h7, if_pos ⟨rfl, h8⟩]
            rw [e7] at E7
            rw [h8] at b4
            have R8 := Lib.hid (hr6.set4 (s.i : Int))
            clear hr6 hf6 D6 e7 h7
            go_wp2_with fail
            refine (D7.out _).mono ?_
            rintro e w7 ⟨rfl, rfl⟩
            go_wp2
            go_ret2
            exact Does.okk E7.out rfl R8.out (F6.out.set_ 4 _) (by show s.i + 1 ≤ s5.i; omega) (by show s5.op = s.op; omega)
          · have e7 : lateF s (lo : Int) (hi : Int) s5 = s5 := by unfold lateF; rw [if_neg (fun k => h8 k.2)]
            rw [e7] at E7
            have q8 : (s5.rp == -1) = false := by simpa using h8
            clear hr6 hf6 D6 e7 h7
            go_wp2_with fail
            refine (D7.out _).mono ?_
            rintro e w7 ⟨rfl, rfl⟩
            go_wp2
            go_ret2
            exact Does.okk E7.out rfl R6.out F6.out (by omega) (by omega)

def quantF (bs : List Nat) (s : St) : Except Nat ((Int × Int × Bool) × St) :=
  if sb bs s.i 42 then .ok ((0, -1, true), s.nx) else if sb bs s.i 43 then .ok ((1, -1, true), s.nx) else if sb bs s.i 63 then .ok ((0, 1, true), s.nx)
  else if sb bs s.i 123 then thn (bracesF bs s) fun p s' => .ok ((p.1, p.2, true), s') else .ok ((0, 0, false), s)
def isThree : World → Int × Int × Bool → Value → Prop := fun _ p v => v = .tuple #[.int .i64 p.1, .int .i64 p.2.1, .bool p.2.2]
set_option maxHeartbeats 1000000 in
theorem quant_any (g : Nat) (A : Option Addr) (c : Nat) (bs : List Nat) (s : St) (w : World) (h : Rd w g A c bs s) :
    Calls Try.prog 109 #[.pointer (some ⟨g, 0, none⟩)] w (Does w g A c bs s 0 (quantF bs s) isThree) := by
  have nxi : s.nx.i = s.i + 1 := rfl
  have D1 := takes_any g A c bs s 42 w h
  cases h1 : sb bs s.i 42 with
  | true =>
    have E : Hid (quantF bs s = .ok (((0 : Int), (-1 : Int), true), s.nx)) := by show quantF bs s = _; unfold quantF; rw [h1]; rfl
    rw [h1] at D1
    have D1 := Lib.hid D1
    go_enter Try.func109, Try.ntmps109
    go_wp2_with fail
    refine D1.out.mono ?_
    rintro e w1 ⟨rfl, hr1, hf1⟩
    replace hr1 : Rd w1 g A c bs s.nx := hr1
    have R1 := Lib.hid hr1; have F1 := Lib.hid ((Fg.refl _ _).trans hf1)
    clear hr1 hf1 D1
    go_wp2
    refine bodyPost_ret (v := .tuple #[.int .i64 (((0 : Int), (-1 : Int), true)).1, .int .i64 (((0 : Int), (-1 : Int), true)).2.1, .bool (((0 : Int), (-1 : Int), true)).2.2]) (by simp [results, Try.results109, go_sem]) rfl ?_
    exact Does.okk E.out rfl R1.out F1.out (by omega) rfl
  | false =>
  rw [h1] at D1
  have D1 := Lib.hid D1
  go_enter Try.func109, Try.ntmps109
  go_wp2_with fail
  refine D1.out.mono ?_
  rintro e w1 ⟨rfl, hr1, hf1⟩
  replace hr1 : Rd w1 g A c bs s := hr1
  have R1 := Lib.hid hr1; have F1 := Lib.hid ((Fg.refl _ _).trans hf1)
  clear h D1
  have D2 := takes_any g A c bs s 43 w1 hr1
  clear hr1 hf1
  cases h2 : sb bs s.i 43 with
  | true =>
    have E : Hid (quantF bs s = .ok (((1 : Int), (-1 : Int), true), s.nx)) := by show quantF bs s = _; unfold quantF; rw [h1, h2]; rfl
    rw [h2] at D2
    have D2 := Lib.hid D2
    go_wp2_with fail
    refine D2.out.mono ?_
    rintro e w2 ⟨rfl, hr2, hf2⟩
    replace hr2 : Rd w2 g A c bs s.nx := hr2
    have R2 := Lib.hid hr2; have F2 := Lib.hid (F1.out.trans hf2)
    clear hr2 hf2 D2
    go_wp2
    refine bodyPost_ret (v := .tuple #[.int .i64 (((1 : Int), (-1 : Int), true)).1, .int .i64 (((1 : Int), (-1 : Int), true)).2.1, .bool (((1 : Int), (-1 : Int), true)).2.2]) (by simp [results, Try.results109, go_sem]) rfl ?_
    exact Does.okk E.out rfl R2.out F2.out (by omega) rfl
  | false =>
  rw [h2] at D2
  have D2 := Lib.hid D2
  go_wp2_with fail
  refine D2.out.mono ?_
  rintro e w2 ⟨rfl, hr2, hf2⟩
  replace hr2 : Rd w2 g A c bs s := hr2
  have R2 := Lib.hid hr2; have F2 := Lib.hid (F1.out.trans hf2)
  have D3 := takes_any g A c bs s 63 w2 hr2
  clear hr2 hf2 D2 R1 F1
  cases h3 : sb bs s.i 63 with
  | true =>
    have E : Hid (quantF bs s = .ok (((0 : Int), (1 : Int), true), s.nx)) := by show quantF bs s = _; unfold quantF; rw [h1, h2, h3]; rfl
    rw [h3] at D3
    have D3 := Lib.hid D3
    go_wp2_with fail
    refine D3.out.mono ?_
    rintro e w3 ⟨rfl, hr3, hf3⟩
    replace hr3 : Rd w3 g A c bs s.nx := hr3
    have R3 := Lib.hid hr3; have F3 := Lib.hid (F2.out.trans hf3)
    clear hr3 hf3 D3
    go_wp2
    refine bodyPost_ret (v := .tuple #[.int .i64 (((0 : Int), (1 : Int), true)).1, .int .i64 (((0 : Int), (1 : Int), true)).2.1, .bool (((0 : Int), (1 : Int), true)).2.2]) (by simp [results, Try.results109, go_sem]) rfl ?_
    exact Does.okk E.out rfl R3.out F3.out (by omega) rfl
  | false =>
  rw [h3] at D3
  have D3 := Lib.hid D3
  go_wp2_with fail
  refine D3.out.mono ?_
  rintro e w3 ⟨rfl, hr3, hf3⟩
  replace hr3 : Rd w3 g A c bs s := hr3
  have R3 := Lib.hid hr3; have F3 := Lib.hid (F2.out.trans hf3)
  have D4 := sees_any g A c bs s 123 w3 hr3
  clear hr3 hf3 D3 R2 F2
  cases h4 : sb bs s.i 123 with
  | false =>
    have E : Hid (quantF bs s = .ok (((0 : Int), (0 : Int), false), s)) := by show quantF bs s = _; unfold quantF; rw [h1, h2, h3, h4]; rfl
    rw [h4] at D4
    have D4 := Lib.hid D4
    go_wp2_with fail
    refine D4.out.mono ?_
    rintro e w4 ⟨rfl, m4, rfl⟩
    clear D4
    go_wp2
    refine bodyPost_ret (v := .tuple #[.int .i64 0, .int .i64 0, .bool false]) (by simp [results, Try.results109, go_sem]) rfl ?_
    exact Does.okk E.out rfl (R3.out.drewN m4) (F3.out.drewN m4) (by omega) rfl
  | true =>
    have E4 : Hid (quantF bs s = thn (bracesF bs s) fun p s' => .ok ((p.1, p.2, true), s')) := by show quantF bs s = _; unfold quantF; rw [h1, h2, h3, h4]; rfl
    rw [h4] at D4
    have D4 := Lib.hid D4
    clear h1 h2 h3 h4
    go_wp2_with fail
    refine D4.out.mono ?_
    rintro e w4 ⟨rfl, m4, rfl⟩
    have R4 := Lib.hid (R3.out.drewN m4); have F4 := Lib.hid (F3.out.drewN m4)
    have D5 := braces_any g A c bs s _ R4.out
    clear D4 R3 F3
    cases h5 : bracesF bs s with
    | error p =>
      have E : Hid (quantF bs s = .error p) := by show quantF bs s = _; rw [E4.out, h5]; rfl
      rw [h5] at D5
      have D5 := Lib.hid D5
      go_wp2_with fail
      refine D5.out.mono ?_
      rintro e w5 ⟨rfl, hf5⟩
      go_wp2
      exact ⟨rfl, Does.err E.out (F4.out.trans hf5)⟩
    | ok x =>
      obtain ⟨⟨lo, hi⟩, s5⟩ := x
      have E5 : Hid (quantF bs s = .ok ((lo, hi, true), s5)) := by show quantF bs s = _; rw [E4.out, h5]; rfl
      rw [h5] at D5
      have D5 := Lib.hid D5
      clear h5 E4
      go_wp2_with fail
      refine D5.out.mono ?_
      rintro e w5 ⟨v5, rfl, rfl, hr5, hf5, hi5, ho5⟩
      have R5 := Lib.hid hr5; have F5 := Lib.hid (F4.out.trans hf5)
      clear hr5 hf5 D5 R4 F4
      go_wp2
      refine bodyPost_ret (v := .tuple #[.int .i64 lo, .int .i64 hi, .bool true]) (by simp [results, Try.results109, go_sem]) rfl ?_
      exact Does.okk E5.out rfl R5.out F5.out (by omega) ho5
end Go.Proofs.Ytkljagffccommaa
