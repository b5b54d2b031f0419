/- The reader's marks, hexes, escapes; any byte but some. -/
import Derived.Test.YtkljagffccommaaS4
namespace Go.Proofs.Ytkljagffccommaa
open Go.RowKit

theorem ret_b {a b : Bool} (h : a = b) : Ending.returned (.bool a) = .returned (.bool b) := by rw [h]
def isL (x : Nat) : Bool := decide ((97 ≤ x ∧ x ≤ 122) ∨ (65 ≤ x ∧ x ≤ 90))
def isM (x : Nat) : Bool := decide (33 ≤ x ∧ x ≤ 126) && !isD x && !isL x
theorem isLetter_any (x : Nat) (w : World) (hx : x < 256) : Calls Try.prog 136 #[.int .u8 (x : Nat)] w fun e w' => e = .returned (.bool (isL x)) ∧ w = w' := by
  by_cases h1 : 97 ≤ x
  · by_cases h2 : x ≤ 122
    · have q : isL x = true := by unfold isL; rw [decide_eq_true]; omega
      rw [q]
      go_enter Try.func136, Try.ntmps136
      go_wp2
      go_ret
      exact ⟨ret_b (by first | rfl | (simp; done) | (simp; omega)), rfl⟩
    · have q : isL x = false := by unfold isL; rw [decide_eq_false]; omega
      rw [q]
      have q3 : ¬ x ≤ 90 := by omega
      have q4 : 65 ≤ x := by omega
      go_enter Try.func136, Try.ntmps136
      go_wp2
      go_ret
      exact ⟨ret_b (by first | rfl | (simp; done) | (simp; omega)), rfl⟩
  · by_cases h3 : 65 ≤ x
    · by_cases h4 : x ≤ 90
      · have q : isL x = true := by unfold isL; rw [decide_eq_true]; omega
        rw [q]
        go_enter Try.func136, Try.ntmps136
        go_wp2
        go_ret
        exact ⟨ret_b (by first | rfl | (simp; done) | (simp; omega)), rfl⟩
      · have q : isL x = false := by unfold isL; rw [decide_eq_false]; omega
        rw [q]
        go_enter Try.func136, Try.ntmps136
        go_wp2
        go_ret
        exact ⟨ret_b (by first | rfl | (simp; done) | (simp; omega)), rfl⟩
    · have q : isL x = false := by unfold isL; rw [decide_eq_false]; omega
      rw [q]
      go_enter Try.func136, Try.ntmps136
      go_wp2
      go_ret
      exact ⟨ret_b (by first | rfl | (simp; done) | (simp; omega)), rfl⟩
set_option maxHeartbeats 400000 in
theorem isMark_any (x : Nat) (w : World) (hx : x < 256) : Calls Try.prog 133 #[.int .u8 (x : Nat)] w fun e w' => e = .returned (.bool (isM x)) ∧ w = w' := by
  have D1 := Lib.hid fun W => isDigit_any x W hx
  have D2 := Lib.hid fun W => isLetter_any x W hx
  unfold isM
  by_cases h1 : 33 ≤ x
  · by_cases h2 : x ≤ 126
    · rw [decide_eq_true ⟨h1, h2⟩]
      generalize isD x = a at *
      generalize isL x = b at *
      cases a with
      | true =>
        go_enter Try.func133, Try.ntmps133
        go_wp2_with fail
        refine (D1.out _).mono ?_
        rintro e w' ⟨rfl, rfl⟩
        go_wp2
        go_ret
        exact ⟨ret_b (by first | rfl | (simp; done) | (simp; omega)), rfl⟩
      | false =>
        go_enter Try.func133, Try.ntmps133
        go_wp2_with fail
        refine (D1.out _).mono ?_
        rintro e w' ⟨rfl, rfl⟩
        go_wp2_with fail
        refine (D2.out _).mono ?_
        rintro e w' ⟨rfl, rfl⟩
        go_wp2
        go_ret
        exact ⟨ret_b (by first | rfl | (simp; done) | (simp; omega)), rfl⟩
    · rw [decide_eq_false (by omega)]
      go_enter Try.func133, Try.ntmps133
      go_wp2
      go_ret
      exact ⟨ret_b (by first | rfl | (simp; done) | (simp; omega)), rfl⟩
  · rw [decide_eq_false (by omega)]
    go_enter Try.func133, Try.ntmps133
    go_wp2
    go_ret
    exact ⟨ret_b (by first | rfl | (simp; done) | (simp; omega)), rfl⟩
def Fact64 (x : Nat) (r : Bool) : Prop := x < 256 ∧ isM x = r
theorem quiet64 (x : Nat) (r : Bool) (W : World) (m : Nat) (h : Fact64 x r) : Calls Try.prog 133 #[.int .u8 (x : Nat)] (W.drewN m) fun e w' => e = .returned (.bool r) ∧ ∃ m', w' = W.drewN m' := by
  obtain ⟨hx, rfl⟩ := h
  exact (isMark_any x (W.drewN m) hx).mono fun e w' ⟨h1, h2⟩ => ⟨h1, m, h2.symm⟩

def hexv (x : Nat) : Option Nat := if isD x then some (x - 48) else if 97 ≤ x ∧ x ≤ 102 then some (x - 87) else if 65 ≤ x ∧ x ≤ 70 then some (x - 55) else none
def hexF (bs : List Nat) (s : St) : Except Nat (Nat × St) :=
  if s.i < bs.length then (match hexv (bn bs s.i) with | some v => .ok (v, s.nx) | none => .error s.i) else .error s.i
def isByte (m : Nat) : World → Nat → Value → Prop := fun _ n v => v = .int .u8 (n : Nat) ∧ n ≤ m
set_option maxHeartbeats 1000000 in
theorem hex_any (g : Nat) (A : Option Addr) (c : Nat) (bs : List Nat) (s : St) (w : World) (h : Rd w g A c bs s) :
    Calls Try.prog 132 #[.pointer (some ⟨g, 0, none⟩)] w (Does w g A c bs s 1 (hexF bs s) (isByte 15)) := by
  obtain ⟨c0, c1, _⟩ := h.cells
  have hl := h.le
  have hlen := h.len
  have H := Lib.hid h
  have D1 := ended_any g A c bs s w h
  by_cases he : s.i = bs.length
  · have E : Hid (hexF bs s = .error s.i) := by show hexF bs s = _; unfold hexF; rw [if_neg (by omega)]
    rw [decide_eq_true he] at D1
    have D1 := Lib.hid D1
    clear h he
    go_enter Try.func132, Try.ntmps132
    go_wp2_with fail
    refine D1.out.mono ?_
    rintro e w1 ⟨rfl, m, rfl⟩
    have D2 := Lib.hid (giveUp_any g A c bs s (w.drewN m) (H.out.drewN m))
    go_wp2_with fail
    refine D2.out.mono ?_
    rintro e w2 ⟨rfl, hf2⟩
    go_wp2
    exact ⟨rfl, Does.err E.out (((Fg.refl _ _).drewN m).trans hf2)⟩
  · rw [decide_eq_false he] at D1
    have D1 := Lib.hid D1
    obtain ⟨bb, off, rfl, hc, hb⟩ := h.byte s.i (by omega)
    have q2 : (s.i : Int) < (bs.length : Int) := by omega
    have E : Hid (hexF bs s = match hexv (bn bs s.i) with | some v => .ok (v, s.nx) | none => .error s.i) := by show hexF bs s = _; unfold hexF; rw [if_pos (by omega)]
    have f1 := h.frozen 1
    clear h
    generalize bn bs s.i = y at *
    have D3 := Lib.hid fun W => isDigit_any y W hb
    go_enter Try.func132, Try.ntmps132
    go_wp2_with fail
    refine D1.out.mono ?_
    rintro e w1 ⟨rfl, m, rfl⟩
    go_wp2_with fail
    go_quiet (fail)
    have R1 := Lib.hid (H.out.drewN (m + nq))
    have G1 := Lib.hid ((Fg.refl w g).drewN (m + nq))
    have R2 := Lib.hid (R1.out.put1 ((s.i : Int) + 1) (s.i + 1) (by omega) (by omega) (by have := H.out.op; omega))
    have D4 := Lib.hid (giveUp_any g _ c bs s _ R1.out)
    clear D1
    cases hd : isD y with
    | true =>
      rw [hd] at D3
      have hy := of_decide_eq_true hd
      have E2 : Hid (hexF bs s = .ok (y - 48, s.nx)) := by show hexF bs s = _; rw [E.out]; unfold hexv; rw [hd]; rfl
      have q5 : IntKind.u8.wrap ((y : Int) - 48) = ((y - 48 : Nat) : Int) := by rw [IntKind.wrap_u8']; omega
      clear hd
      go_wp2_with fail
      refine (D3.out _).mono ?_
      rintro e w2 ⟨rfl, rfl⟩
      go_wp2
      go_ret
      exact Does.okk E2.out ⟨rfl, by omega⟩ R2.out (G1.out.set_ 1 _) (by simp [St.nx]) rfl
    | false =>
      rw [hd] at D3
      by_cases h1 : 97 ≤ y ∧ y ≤ 102
      · have E2 : Hid (hexF bs s = .ok (y - 87, s.nx)) := by show hexF bs s = _; rw [E.out]; unfold hexv; rw [hd, if_pos h1]; rfl
        have q5 : IntKind.u8.wrap ((y : Int) - 87) = ((y - 87 : Nat) : Int) := by rw [IntKind.wrap_u8']; omega
        obtain ⟨h2, h3⟩ := h1
        clear hd
        go_wp2_with fail
        refine (D3.out _).mono ?_
        rintro e w2 ⟨rfl, rfl⟩
        go_wp2
        go_ret
        exact Does.okk E2.out ⟨rfl, by omega⟩ R2.out (G1.out.set_ 1 _) (by simp [St.nx]) rfl
      · by_cases h4 : 65 ≤ y ∧ y ≤ 70
        · have E2 : Hid (hexF bs s = .ok (y - 55, s.nx)) := by show hexF bs s = _; rw [E.out]; unfold hexv; rw [hd, if_neg h1, if_pos h4]; rfl
          have q5 : IntKind.u8.wrap ((y : Int) - 55) = ((y - 55 : Nat) : Int) := by rw [IntKind.wrap_u8']; omega
          obtain ⟨h2, h3⟩ := h4
          have h5 : ¬ 97 ≤ y := by omega
          clear hd h1
          go_wp2_with fail
          refine (D3.out _).mono ?_
          rintro e w2 ⟨rfl, rfl⟩
          go_wp2
          go_ret
          exact Does.okk E2.out ⟨rfl, by omega⟩ R2.out (G1.out.set_ 1 _) (by simp [St.nx]) rfl
        · have E2 : Hid (hexF bs s = .error s.i) := by show hexF bs s = _; rw [E.out]; unfold hexv; rw [hd, if_neg h1, if_neg h4]; rfl
          clear hd
          have n1 : ¬ 97 ≤ y ∨ ¬ y ≤ 102 := by omega
          have n2 : ¬ 65 ≤ y ∨ ¬ y ≤ 70 := by omega
          clear h1 h4
          go_wp2_with fail
          refine (D3.out _).mono ?_
          rintro e w2 ⟨rfl, rfl⟩
          by_cases a1 : 97 ≤ y
          · have a2 : ¬ y ≤ 102 := by omega
            have a4 : 65 ≤ y := by omega
            have a3 : ¬ y ≤ 70 := by omega
            clear n1 n2
            go_wp2_with fail
            refine D4.out.mono ?_
            rintro e w3 ⟨rfl, hf3⟩
            go_wp2
            exact ⟨rfl, Does.err E2.out (G1.out.trans hf3)⟩
          · by_cases a4 : 65 ≤ y
            · have a3 : ¬ y ≤ 70 := by omega
              clear n1 n2
              go_wp2_with fail
              refine D4.out.mono ?_
              rintro e w3 ⟨rfl, hf3⟩
              go_wp2
              exact ⟨rfl, Does.err E2.out (G1.out.trans hf3)⟩
            · clear n1 n2
              go_wp2_with fail
              refine D4.out.mono ?_
              rintro e w3 ⟨rfl, hf3⟩
              go_wp2
              exact ⟨rfl, Does.err E2.out (G1.out.trans hf3)⟩
end Go.Proofs.Ytkljagffccommaa
