/- The reader's escapes; any byte but some. -/
import Derived.Test.YtkljagffccommaaS5
namespace Go.Proofs.Ytkljagffccommaa
open Go.RowKit

def escTail (bs : List Nat) (s1 : St) : Except Nat (Nat × St) := if s1.i < bs.length ∧ isM (bn bs s1.i) = true then .ok (bn bs s1.i, s1.nx) else .error s1.i
def escRest (bs : List Nat) (s1 : St) : Except Nat (Nat × St) :=
  if sb bs s1.i 110 then .ok (10, s1.nx) else if sb bs s1.i 116 then .ok (9, s1.nx) else if sb bs s1.i 114 then .ok (13, s1.nx)
  else if sb bs s1.i 120 then thn (hexF bs s1.nx) fun h s2 => thn (hexF bs s2) fun l s3 => .ok (16 * h + l, s3) else escTail bs s1
def escapedF (bs : List Nat) (s : St) : Except Nat (Nat × St) := thn (mustF bs s 92) fun _ s1 => escRest bs s1
theorem or16 : ∀ h l : Fin 16, bits .or .u8 (((16 * h.val : Nat) : Int)) ((l.val : Nat) : Int) = ((16 * h.val + l.val : Nat) : Int) := by decide
theorem or_hex (h l : Nat) (h1 : h ≤ 15) (h2 : l ≤ 15) : bits .or .u8 (((16 * h : Nat) : Int)) ((l : Nat) : Int) = ((16 * h + l : Nat) : Int) := or16 ⟨h, by omega⟩ ⟨l, by omega⟩

set_option maxHeartbeats 2000000 in
theorem escaped_any (g : Nat) (A : Option Addr) (c : Nat) (bs : List Nat) (s : St) (w : World) (h : Rd w g A c bs s) :
    Calls Try.prog 125 #[.pointer (some ⟨g, 0, none⟩)] w (Does w g A c bs s 2 (escapedF bs s) (isByte 255)) := by
  have D1 := must_any g A c bs s 92 w h
  cases h1 : mustF bs s 92 with
  | error p =>
    have E : Hid (escapedF bs s = .error p) := by show escapedF bs s = _; unfold escapedF; rw [h1]; rfl
    rw [h1] at D1
    have D1 := Lib.hid D1
    clear h
    go_enter Try.func125, Try.ntmps125
    go_wp2_with fail
    refine D1.out.mono ?_
    rintro e w2 ⟨rfl, hf2⟩
    go_wp2
    exact ⟨rfl, Does.err E.out hf2⟩
  | ok x =>
  obtain ⟨_, s1⟩ := x
  rw [h1] at D1
  have D1 := Lib.hid D1
  have E1 : Hid (escapedF bs s = escRest bs s1) := by show escapedF bs s = _; unfold escapedF; rw [h1]; rfl
  clear h h1
  go_enter Try.func125, Try.ntmps125
  go_wp2_with fail
  refine D1.out.mono ?_
  rintro e w1 ⟨v1, rfl, rfl, hr1, hf1, hi1, ho1⟩
  have R1 := Lib.hid hr1; have F1 := Lib.hid hf1
  have nxi : s1.nx.i = s1.i + 1 := rfl
  have nxo : s1.nx.op = s1.op := rfl
  have D2 := takes_any g A c bs s1 110 w1 hr1
  clear hr1 hf1 D1
  cases h2 : sb bs s1.i 110 with
  | true =>
    have E : Hid (escapedF bs s = .ok (10, s1.nx)) := by show escapedF bs s = _; rw [E1.out]; unfold escRest; rw [h2]; rfl
    rw [h2] at D2
    have D2 := Lib.hid D2
    go_wp2_with fail
    refine D2.out.mono ?_
    rintro e w2 ⟨rfl, hr2, hf2⟩
    replace hr2 : Rd w2 g A c bs s1.nx := hr2
    have R2 := Lib.hid hr2; have F2 := Lib.hid (F1.out.trans hf2)
    clear hr2 hf2 D2
    go_wp2
    go_ret
    exact Does.okk E.out ⟨rfl, by omega⟩ R2.out F2.out (by omega) (by omega)
  | false =>
  rw [h2] at D2
  have D2 := Lib.hid D2
  go_wp2_with fail
  refine D2.out.mono ?_
  rintro e w2 ⟨rfl, hr2, hf2⟩
  replace hr2 : Rd w2 g A c bs s1 := hr2
  have R2 := Lib.hid hr2; have F2 := Lib.hid (F1.out.trans hf2)
  have D3 := takes_any g A c bs s1 116 w2 hr2
  clear hr2 hf2 D2 R1 F1
  cases h3 : sb bs s1.i 116 with
  | true =>
    have E : Hid (escapedF bs s = .ok (9, s1.nx)) := by show escapedF bs s = _; rw [E1.out]; unfold escRest; rw [h2, h3]; rfl
    rw [h3] at D3
    have D3 := Lib.hid D3
    go_wp2_with fail
    refine D3.out.mono ?_
    rintro e w3 ⟨rfl, hr3, hf3⟩
    replace hr3 : Rd w3 g A c bs s1.nx := hr3
    have R3 := Lib.hid hr3; have F3 := Lib.hid (F2.out.trans hf3)
    clear hr3 hf3 D3
    go_wp2
    go_ret
    exact Does.okk E.out ⟨rfl, by omega⟩ R3.out F3.out (by omega) (by omega)
  | false =>
  rw [h3] at D3
  have D3 := Lib.hid D3
  go_wp2_with fail
  refine D3.out.mono ?_
  rintro e w3 ⟨rfl, hr3, hf3⟩
  replace hr3 : Rd w3 g A c bs s1 := hr3
  have R3 := Lib.hid hr3; have F3 := Lib.hid (F2.out.trans hf3)
  have D4 := takes_any g A c bs s1 114 w3 hr3
  clear hr3 hf3 D3 R2 F2
  cases h4 : sb bs s1.i 114 with
  | true =>
    have E : Hid (escapedF bs s = .ok (13, s1.nx)) := by show escapedF bs s = _; rw [E1.out]; unfold escRest; rw [h2, h3, h4]; rfl
    rw [h4] at D4
    have D4 := Lib.hid D4
    go_wp2_with fail
    refine D4.out.mono ?_
    rintro e w4 ⟨rfl, hr4, hf4⟩
    replace hr4 : Rd w4 g A c bs s1.nx := hr4
    have R4 := Lib.hid hr4; have F4 := Lib.hid (F3.out.trans hf4)
    clear hr4 hf4 D4
    go_wp2
    go_ret
    exact Does.okk E.out ⟨rfl, by omega⟩ R4.out F4.out (by omega) (by omega)
  | false =>
  rw [h4] at D4
  have D4 := Lib.hid D4
  go_wp2_with fail
  refine D4.out.mono ?_
  rintro e w4 ⟨rfl, hr4, hf4⟩
  replace hr4 : Rd w4 g A c bs s1 := hr4
  have R4 := Lib.hid hr4; have F4 := Lib.hid (F3.out.trans hf4)
  have D5 := takes_any g A c bs s1 120 w4 hr4
  clear hr4 hf4 D4 R3 F3
  cases h5 : sb bs s1.i 120 with
  | true =>
    have E5 : Hid (escapedF bs s = thn (hexF bs s1.nx) fun h s2 => thn (hexF bs s2) fun l s3 => .ok (16 * h + l, s3)) := by show escapedF bs s = _; rw [E1.out]; unfold escRest; rw [h2, h3, h4, h5]; rfl
    rw [h5] at D5
    have D5 := Lib.hid D5
    clear h2 h3 h4 h5 E1
    go_wp2_with fail
    refine D5.out.mono ?_
    rintro e w5 ⟨rfl, hr5, hf5⟩
    replace hr5 : Rd w5 g A c bs s1.nx := hr5
    have F5 := Lib.hid (F4.out.trans hf5)
    have D6 := hex_any g A c bs s1.nx w5 hr5
    clear hr5 hf5 D5 R4 F4
    cases h6 : hexF bs s1.nx with
    | error p =>
      have E : Hid (escapedF bs s = .error p) := by show escapedF bs s = _; rw [E5.out, h6]; rfl
      rw [h6] at D6
      have D6 := Lib.hid D6
      go_wp2_with fail
      refine D6.out.mono ?_
      rintro e w6 ⟨rfl, hf6⟩
      go_wp2
      exact ⟨rfl, Does.err E.out (F5.out.trans hf6)⟩
    | ok x =>
    obtain ⟨hv, s2⟩ := x
    rw [h6] at D6
    have D6 := Lib.hid D6
    go_wp2_with fail
    refine D6.out.mono ?_
    rintro e w6 ⟨v6, rfl, ⟨rfl, hh6⟩, hr6, hf6, hi6, ho6⟩
    have F6 := Lib.hid (F5.out.trans hf6)
    have D7 := hex_any g A c bs s2 w6 hr6
    clear hr6 hf6 D6 F5
    cases h7 : hexF bs s2 with
    | error p =>
      have E : Hid (escapedF bs s = .error p) := by show escapedF bs s = _; rw [E5.out, h6]; show thn (hexF bs s2) _ = _; rw [h7]; rfl
      rw [h7] at D7
      have D7 := Lib.hid D7
      clear h6
      go_wp2_with fail
      refine D7.out.mono ?_
      rintro e w7 ⟨rfl, hf7⟩
      go_wp2
      exact ⟨rfl, Does.err E.out (F6.out.trans hf7)⟩
    | ok x =>
    obtain ⟨lv, s3⟩ := x
    have E7 : Hid (escapedF bs s = .ok (16 * hv + lv, s3)) := by show escapedF bs s = _; rw [E5.out, h6]; show thn (hexF bs s2) _ = _; rw [h7]; rfl
    rw [h7] at D7
    have D7 := Lib.hid D7
    clear h6 h7 E5
    have sh : IntKind.u8.wrap ((hv : Int) * 16) = ((16 * hv : Nat) : Int) := by rw [IntKind.wrap_u8']; omega
    go_wp2_with fail
    refine D7.out.mono ?_
    rintro e w7 ⟨v7, rfl, ⟨rfl, hh7⟩, hr7, hf7, hi7, ho7⟩
    have R7 := Lib.hid hr7; have F7 := Lib.hid (F6.out.trans hf7)
    have orx := or_hex hv lv hh6 hh7
    clear hr7 hf7 D7 F6
    go_wp2
    go_ret
    exact Does.okk E7.out ⟨by first | (rw [← orx]; rfl) | (rw [← orx]; congr 2; omega), by omega⟩ R7.out F7.out (by omega) (by omega)
  | false =>
    have E5 : Hid (escapedF bs s = escTail bs s1) := by show escapedF bs s = _; rw [E1.out]; unfold escRest; rw [h2, h3, h4, h5]; rfl
    rw [h5] at D5
    have D5 := Lib.hid D5
    clear h2 h3 h4 h5 E1
    go_wp2_with fail
    refine D5.out.mono ?_
    rintro e w5 ⟨rfl, hr5, hf5⟩
    replace hr5 : Rd w5 g A c bs s1 := hr5
    have F5 := Lib.hid (F4.out.trans hf5)
    have H := Lib.hid hr5
    obtain ⟨c0, c1, _⟩ := hr5.cells
    have hl := hr5.le
    have hlen := hr5.len
    clear hf5 D5 R4 F4
    by_cases he : s1.i = bs.length
    · have E : Hid (escapedF bs s = .error s1.i) := by show escapedF bs s = _; rw [E5.out]; unfold escTail; rw [if_neg (by omega)]
      have G1 : Hid (Fact20 w5 g true) := ⟨A, c, bs, s1, hr5, by simp [he]⟩
      clear hr5 he
      go_wp2_with fail
      go_quiet ((go_at_call 55; with_reducible exact quiet20 _ _ _ _ (by exact G1.out)))
      have D2 := Lib.hid (giveUp_any g A c bs s1 (w5.drewN nq) (H.out.drewN nq))
      go_wp2_with fail
      refine D2.out.mono ?_
      rintro e w2 ⟨rfl, hf2⟩
      go_wp2
      exact ⟨rfl, Does.err E.out ((F5.out.drewN nq).trans hf2)⟩
    · have G1 : Hid (Fact20 w5 g false) := ⟨A, c, bs, s1, hr5, by simp [he]⟩
      obtain ⟨bb, off, rfl, hc, hb⟩ := hr5.byte s1.i (by omega)
      have q2 : (s1.i : Int) < (bs.length : Int) := by omega
      cases hd : isM (bn bs s1.i) with
      | false =>
        have E : Hid (escapedF bs s = .error s1.i) := by show escapedF bs s = _; rw [E5.out]; unfold escTail; rw [if_neg (by rw [hd]; simp)]
        have G2 : Hid (Fact64 (bn bs s1.i) false) := ⟨hb, hd⟩
        clear hr5 hd
        generalize bn bs s1.i = y at *
        go_wp2_with fail
        go_quiet (first | (go_at_call 55; with_reducible exact quiet20 _ _ _ _ (by exact G1.out)) | (go_at_call 133; with_reducible exact quiet64 _ _ _ _ (by exact G2.out)))
        have D2 := Lib.hid (giveUp_any g _ c bs s1 (w5.drewN nq) (H.out.drewN nq))
        go_wp2_with fail
        refine D2.out.mono ?_
        rintro e w2 ⟨rfl, hf2⟩
        go_wp2
        exact ⟨rfl, Does.err E.out ((F5.out.drewN nq).trans hf2)⟩
      | true =>
        have E : Hid (escapedF bs s = .ok (bn bs s1.i, s1.nx)) := by show escapedF bs s = _; rw [E5.out]; unfold escTail; rw [if_pos ⟨by omega, hd⟩]
        have G2 : Hid (Fact64 (bn bs s1.i) true) := ⟨hb, hd⟩
        clear hr5 hd
        generalize bn bs s1.i = y at *
        go_wp2_with fail
        go_quiet (first | (go_at_call 55; with_reducible exact quiet20 _ _ _ _ (by exact G1.out)) | (go_at_call 133; with_reducible exact quiet64 _ _ _ _ (by exact G2.out)))
        have R6 := Lib.hid ((H.out.drewN nq).put1 ((s1.i : Int) + 1) (s1.i + 1) (by omega) (by omega) (by have := H.out.op; omega))
        have f1 := H.out.frozen 1
        have K1 : Hid (Fg w ((w5.drewN nq).setCell ⟨g, 1, none⟩ (.int .i64 ((s1.i : Int) + 1))) g) := (F5.out.drewN nq).set_ 1 _
        have hc2 : ((w5.drewN nq).setCell ⟨g, 1, none⟩ (.int .i64 ((s1.i : Int) + 1))).cell? ⟨bb, off + s1.i, none⟩ = some (.int .u8 (y : Nat)) := by
          have hne : bb ≠ g := fun e => H.out.far (by omega) (by rw [e]; rfl)
          rw [World.cell?_of_block (a := ⟨bb, off + s1.i, none⟩) (Below.heap_setCell (w5.drewN nq) ⟨g, 1, none⟩ _ bb hne)]
          exact hc
        have q4 : IntKind.i64.wrap ((s1.i : Int) + 1 - 1) = (s1.i : Int) := by rw [IntWalk.i64_in _ (by omega)]; omega
        clear hc
        go_wp2_with fail
        go_quiet (fail)
        go_wp2
        go_ret
        exact Does.okk E.out ⟨rfl, by omega⟩ (R6.out.drewN _) (K1.out.drewN _) (by omega) (by omega)

/-- one of some bytes -/
def takeButF (bs : List Nat) (s : St) (xs : List Nat) : Except Nat (Nat × St) :=
  if s.i < bs.length ∧ ¬ bn bs s.i ∈ xs then .ok (bn bs s.i, s.nx) else .error s.i
end Go.Proofs.Ytkljagffccommaa
