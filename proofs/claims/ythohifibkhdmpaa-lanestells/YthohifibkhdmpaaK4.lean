/- LanesLoads: its walk. -/
import Derived.Test.YthohifibkhdmpaaB
namespace Go.Proofs.Ythohifibkhdmpaa
open Go.RowKit

theorem step_bts {W w' : World} {A : Option Addr} {l : List Nat} (h : Hid (Bts W A l)) (hb : Below W.heap.size W w') : Hid (Bts w' A l) := h.out.below hb
theorem step_below {w W w' : World} (h : Hid (Below w.heap.size w W)) (hb : Below W.heap.size W w') : Hid (Below w.heap.size w w') := h.out.trans (hb.mono h.out.size)

set_option maxHeartbeats 1000000 in
theorem lanesLoads_walk (A : Option Addr) (c : Nat) (bs : List Nat) (i : Int) (w : World) (hx : Bts w A bs) (hA : A = none → c = 0) (lx : bs.length ≤ 140737488355328) (hi1 : -9223372036854775808 ≤ i) (hi2 : i ≤ 9223372036854775807) :
    Calls Try.prog 4 #[.slice A bs.length c, .int .i64 i] w fun e w' => e = .returned (.bool true) ∧ Below w.heap.size w w' := by
  have S := Lib.hid (speaks_any w)
  have HX := Lib.hid hx; have HA := Lib.hid hA
  have hv : wo (ld bs i) 8 < 18446744073709551616 := wo8_lt fun k _ => ld_lt hx.1 i k
  have C1 : Hid (∀ A c W, Hid (Bts W A bs) → Calls Try.prog 15 #[.slice A bs.length c, .int .i64 i] W (GivesW W (wo (ld bs i) 8))) := fun A c W h => load_any A c bs i W h.out lx hi1 hi2
  have C2 : Hid (∀ A c W, Hid (Bts W A bs) → Calls Try.prog 18 #[.slice A bs.length c, .int .i64 i] W (GivesW W (wo (ld bs i) 8))) := fun A c W h => load2_any A c bs i W h.out lx hi1 hi2
  generalize wo (ld bs i) 8 = v at *
  have C3 := Lib.hid fun W => store_any v W hv
  have C4 := Lib.hid fun W => lanes2_any v W hv
  have HL := Lib.hid (ln_lt v)
  generalize ln v = q at *
  obtain ⟨s, HSN⟩ : ∃ s, Hid (strN bs = s) := ⟨_, rfl⟩
  clear hx hA
  unfold ar at C3 C4
  by_cases hlen : 200 < bs.length
  · go_enter Try.func4, Try.ntmps4
    go_wp2_with fail
    refine (S.out).mono ?_
    rintro e w1 ⟨rfl, hb1⟩
    have B1 := Lib.hid hb1
    clear hb1
    go_wp2
    go_ret
    exact ⟨rfl, B1.out⟩
  · go_enter Try.func4, Try.ntmps4
    go_wp2_with fail
    refine (S.out).mono ?_
    rintro e w1 ⟨rfl, hb1⟩
    have X1 := step_bts HX hb1
    have B1 := Lib.hid hb1
    clear hb1 HX
    go_wp2_with (at_builtin; refine app_copy rfl (.tmp 15) (.tmp 16) rfl A c bs X1.out HA.out lx rfl rfl ?_)
    intro A' c' w2 hy _ hb2
    have X2 := step_bts X1 hb2
    have Y2 := Lib.hid (bts_owns X1.out.1 rfl hy)
    have B2 := step_below B1 hb2
    clear X1 B1 hb2 hy
    go_wp2_with fail
    refine (C1.out _ _ _ Y2).mono ?_
    rintro e w3 ⟨rfl, hb3⟩
    have X3 := step_bts X2 hb3; have Y3 := step_bts Y2 hb3; have B3 := step_below B2 hb3
    clear X2 Y2 B2 hb3
    go_wp2_with fail
    refine (C3.out _).mono ?_
    rintro e w4 ⟨rfl, hb4⟩
    have X4 := step_bts X3 hb4; have Y4 := step_bts Y3 hb4; have B4 := step_below B3 hb4
    clear X3 Y3 B3 hb4
    have P1 := Lib.hid (AB.new w4 29 .u8 q)
    have bel : Below w4.heap.size w4 (w4.alloc (.cells (ar .u8 q) 29)) := (Below.refl _ _).alloc (Nat.le_refl _) _
    have X5 := step_bts X4 bel; have Y5 := step_bts Y4 bel; have B5 := step_below B4 bel
    clear X4 Y4 B4 bel
    unfold ar at P1 X5 Y5 B5
    go_wp2_with fail
    generalize w4.alloc (.cells #[.int .u8 (q 0 : Nat), .int .u8 (q 1 : Nat), .int .u8 (q 2 : Nat), .int .u8 (q 3 : Nat), .int .u8 (q 4 : Nat), .int .u8 (q 5 : Nat), .int .u8 (q 6 : Nat), .int .u8 (q 7 : Nat)] 29) = w5 at *
    refine (C4.out _).mono ?_
    rintro e w6 ⟨rfl, hb6⟩
    have X6 := step_bts X5 hb6; have Y6 := step_bts Y5 hb6; have B6 := step_below B5 hb6
    have P2 := Lib.hid (P1.out.below hb6 P1.out.lt)
    clear X5 Y5 B5 P1 hb6
    have P4 := Lib.hid (AB.new w6 31 .i64 q)
    have P3 := Lib.hid (P2.out.alloc (.cells (ar .i64 q) 31))
    have bel : Below w6.heap.size w6 (w6.alloc (.cells (ar .i64 q) 31)) := (Below.refl _ _).alloc (Nat.le_refl _) _
    have X7 := step_bts X6 bel; have Y7 := step_bts Y6 bel; have B7 := step_below B6 bel
    clear X6 Y6 B6 bel P2
    unfold ar at P3 P4 X7 Y7 B7
    go_wp2_with fail
    generalize w6.alloc (.cells #[.int .i64 (q 0 : Nat), .int .i64 (q 1 : Nat), .int .i64 (q 2 : Nat), .int .i64 (q 3 : Nat), .int .i64 (q 4 : Nat), .int .i64 (q 5 : Nat), .int .i64 (q 6 : Nat), .int .i64 (q 7 : Nat)] 31) = w7 at *
    generalize w6.heap.size = g8 at *
    generalize w4.heap.size = g7 at *
    go_loopw [25] (fun i wr => ∃ k n : Nat, k ≤ 8 ∧ i = .int .i64 k ∧ wr = w7.drewN n) (fun i _ => 8 - (intOf i).toNat)
    case atStart => exact ⟨0, 0, by omega, rfl, rfl⟩
    case round =>
      obtain ⟨k, n, hk, rfl, rfl⟩ := hrel
      by_cases hlt : k < 8
      · have c1 := P3.out.cell k hlt
        have c2 := P4.out.cell k hlt
        have hy : q k < 256 := HL.out k
        generalize q k = y at *
        have q3 : wrap64 (y : Int) = (y : Int) := by unfold wrap64; omega
        have q4 : IntKind.i64.wrap (y : Int) = (y : Int) := IntWalk.i64_in _ (by omega)
        have q1 : (0 : Int) ≤ (k : Int) := by omega
        have q2 : (k : Int) < 8 := by omega
        go_wp2_with fail
        go_quiet (fail)
        go_wp2
        go_roundw
        case rel => exact ⟨k + 1, _, by omega, by go_num, rfl⟩
        case measure => simp [intOf]; omega
      · obtain rfl : k = 8 := by omega
        have X8 : Hid (Bts (w7.drewN n) A bs) := X7.out
        have Y8 : Hid (Bts (w7.drewN n) A' bs) := Y7.out
        have B8 : Hid (Below w.heap.size w (w7.drewN n)) := below_drewN B7.out n
        clear X7 Y7 B7 P3 P4
        go_wp2_with fail
        refine (C2.out _ _ _ X8).mono ?_
        rintro e w9 ⟨rfl, hb9⟩
        have X9 := step_bts X8 hb9; have Y9 := step_bts Y8 hb9; have B9 := step_below B8 hb9
        have e1 := conv_bts c X9.out
        have e2 := conv_bts c' Y9.out
        rw [HSN.out] at e1 e2
        clear hb9 X8 Y8 B8 X9 Y9
        go_wp2
        go_ret
        exact ⟨rfl, B9.out⟩
end Go.Proofs.Ythohifibkhdmpaa
