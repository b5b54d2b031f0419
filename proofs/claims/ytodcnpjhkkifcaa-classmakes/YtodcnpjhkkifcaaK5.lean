/- ClassMakes: its walk. -/
import Derived.Test.YtodcnpjhkkifcaaC17
import Derived.Test.YtodcnpjhkkifcaaC13
import Derived.Test.YtodcnpjhkkifcaaK1
namespace Go.Proofs.Ytodcnpjhkkifcaa
open Go.RowKit

theorem step_bts {W w' : World} {A : Option Addr} {l : List Nat} (h : Hid (Bts W A l)) (hb : Below W.heap.size W w') : Hid (Bts w' A l) := h.out.below hb
theorem keepM {w' : World} {g8 g9 : Nat} {q r : Nat → BitVec 64} {A A' : Option Addr} {bs : List Nat} {c c' : Nat} {s : ByteArray} (hs : Hid (strN bs = s)) (h1 : Hid (CB w' g8 q)) (h2 : Hid (CB w' g9 r)) (h3 : Hid (Bts w' A' bs)) (h4 : Hid (Bts w' A bs)) :
    w'.cell? ⟨g8, 0, none⟩ = some (.int .u64 (uv (q 0))) ∧ w'.cell? ⟨g8, 1, none⟩ = some (.int .u64 (uv (q 1))) ∧ w'.cell? ⟨g8, 2, none⟩ = some (.int .u64 (uv (q 2))) ∧ w'.cell? ⟨g8, 3, none⟩ = some (.int .u64 (uv (q 3))) ∧ w'.cell? ⟨g9, 0, none⟩ = some (.int .u64 (uv (r 0))) ∧ w'.cell? ⟨g9, 1, none⟩ = some (.int .u64 (uv (r 1))) ∧ w'.cell? ⟨g9, 2, none⟩ = some (.int .u64 (uv (r 2))) ∧ w'.cell? ⟨g9, 3, none⟩ = some (.int .u64 (uv (r 3))) ∧ (convert 22 9 (.slice A' bs.length c')).run Try.prog w' = .ok (.string s) w' ∧ (convert 22 9 (.slice A bs.length c)).run Try.prog w' = .ok (.string s) w' :=
  ⟨h1.out.cell 0 (by omega), h1.out.cell 1 (by omega), h1.out.cell 2 (by omega), h1.out.cell 3 (by omega), h2.out.cell 0 (by omega), h2.out.cell 1 (by omega), h2.out.cell 2 (by omega), h2.out.cell 3 (by omega), by rw [conv_bts c' h3.out, hs.out], by rw [conv_bts c h4.out, hs.out]⟩

theorem cbk4 {W : World} {g : Nat} {q : Nat → BitVec 64} (h : Hid (CB W g q)) : W.cell? ⟨g, 0, none⟩ = some (.int .u64 (uv (q 0))) ∧ W.cell? ⟨g, 1, none⟩ = some (.int .u64 (uv (q 1))) ∧ W.cell? ⟨g, 2, none⟩ = some (.int .u64 (uv (q 2))) ∧ W.cell? ⟨g, 3, none⟩ = some (.int .u64 (uv (q 3))) :=
  ⟨h.out.cell 0 (by omega), h.out.cell 1 (by omega), h.out.cell 2 (by omega), h.out.cell 3 (by omega)⟩

set_option maxRecDepth 100000 in
set_option maxHeartbeats 4000000 in
theorem classMakes_walk (A : Option Addr) (c : Nat) (bs : List Nat) (lo hi : Nat) (w : World) (hx : Bts w A bs) (hA : A = none → c = 0) (lx : bs.length ≤ 140737488355328) (hlo : lo < 256) (hhi : hi < 256) :
    Calls Try.prog 3 #[.slice A bs.length c, .int .u8 (lo : Nat), .int .u8 (hi : Nat)] w fun e w' => e = .returned (.bool true) ∧ Below w.heap.size w w' := by
  have S := Lib.hid (speaks_any w)
  have HX := Lib.hid hx; have HA := Lib.hid hA
  clear hx hA
  go_enter Try.func3, Try.ntmps3
  go_wp2_with fail
  refine S.out.mono ?_
  rintro e w1 ⟨rfl, hb1⟩
  have X1 := step_bts HX hb1
  have B1 := Lib.hid hb1
  clear S hb1 HX
  go_wp2_with (at_builtin; refine app_copy rfl (.tmp 13) (.tmp 14) rfl A c bs X1.out HA.out lx rfl rfl ?_)
  intro A' c' w2 hy hb2
  have X2 := step_bts X1 hb2; have Y2 := Lib.hid hy
  have B2 := step_below B1 hb2
  clear X1 B1 hb2 hy
  have HO := Lib.hid (of_any A' c' bs w2 Y2.out (by omega))
  go_wp2_with fail
  refine HO.out.mono ?_
  rintro e w3 ⟨q, rfl, hq, hb3⟩
  have X3 := step_bts X2 hb3; have Y3 := step_bts Y2 hb3; have B3 := step_below B2 hb3
  clear HO X2 Y2 B2 hb3
  have HR := Lib.hid (range_any lo hi w3 hlo hhi)
  go_wp2_with fail
  refine HR.out.mono ?_
  rintro e w4 ⟨r, rfl, hr, hb4⟩
  have X4 := step_bts X3 hb4; have Y4 := step_bts Y3 hb4; have B4 := step_below B3 hb4
  clear HR X3 Y3 B3 hb4
  have P1 := Lib.hid ((CB.new w4 q).alloc (.cells (cw r) 26))
  have P2 : Hid (CB ((w4.alloc (.cells (cw q) 26)).alloc (.cells (cw r) 26)) (w4.heap.size + 1) r) := by
    have := CB.new (w4.alloc (.cells (cw q) 26)) r
    rw [World.size_alloc] at this; exact this
  have bel : Below w4.heap.size w4 ((w4.alloc (.cells (cw q) 26)).alloc (.cells (cw r) 26)) := ((Below.refl _ _).alloc (Nat.le_refl _) _).alloc (by simp) _
  have X5 := step_bts X4 bel; have Y5 := step_bts Y4 bel; have B5 := step_below B4 bel
  clear X4 Y4 B4 bel
  have D1 : Hid (∀ W, Hid (Bts W A bs) → Calls Try.prog 12 #[.slice A bs.length c] W fun e w' => e = .returned (.agg (cw q)) ∧ Below W.heap.size W w') := fun W h =>
    (of2_any A c bs W h.out (by omega)).mono fun e w' ⟨q', he, hk, hb⟩ => ⟨by rw [he, cw_ext q' q (fun i hi => by rw [hk i hi, hq i hi])], hb⟩
  have D2 : Hid (∀ W, Calls Try.prog 13 #[.int .u8 (lo : Nat), .int .u8 (hi : Nat)] W fun e w' => e = .returned (.agg (cw r)) ∧ Below W.heap.size W w') := fun W =>
    (range2_any lo hi hlo hhi W).mono fun e w' ⟨q', he, hk, hb⟩ => ⟨by rw [he, cw_ext q' r (fun i hi => by rw [hk i hi, hr i hi])], hb⟩
  have E1 := fun W => eqk_true q q (fun _ _ => rfl) W
  have E2 := fun W => eqk_true r r (fun _ _ => rfl) W
  have D3 : Hid (∀ k, k < 256 → ∀ W, Calls Try.prog 14 #[.agg (cw q), .int .u8 (k : Nat)] W fun e w' => e = .returned (.bool (kb q k)) ∧ Below W.heap.size W w') := fun k hk W => has_any q k W hk
  have D4 : Hid (∀ k, k < 256 → ∀ W, Calls Try.prog 15 #[.agg (cw q), .int .i64 (k : Nat)] W fun e w' => e = .returned (.bool (kb q k)) ∧ Below W.heap.size W w') := fun k hk W => has2_any q k W hk
  clear hq hr
  obtain ⟨s, HSN⟩ : ∃ s, Hid (strN bs = s) := ⟨_, rfl⟩
  unfold cw at P1 P2 X5 Y5 B5 D1 D2 D3 D4 E1 E2 ⊢
  go_wp2_with fail
  generalize ((w4.alloc (.cells #[.int .u64 (uv (q 0)), .int .u64 (uv (q 1)), .int .u64 (uv (q 2)), .int .u64 (uv (q 3))] 26)).alloc (.cells #[.int .u64 (uv (r 0)), .int .u64 (uv (r 1)), .int .u64 (uv (r 2)), .int .u64 (uv (r 3))] 26)) = W0 at *
  generalize hg9 : w4.heap.size + 1 = g9 at *
  generalize w4.heap.size = g8 at *
  have P1d : Hid (CB W0.drew g8 q) := P1.out
  have P2d : Hid (CB W0.drew g9 r) := P2.out
  have X5d : Hid (Bts W0.drew A bs) := X5.out
  have Y5d : Hid (Bts W0.drew A' bs) := Y5.out
  have B5d : Hid (Below w.heap.size w W0.drew) := B5.out.drew
  go_region_held3 (fun w' => w'.cell? ⟨g8, 0, none⟩ = some (.int .u64 (uv (q 0))) ∧ w'.cell? ⟨g8, 1, none⟩ = some (.int .u64 (uv (q 1))) ∧ w'.cell? ⟨g8, 2, none⟩ = some (.int .u64 (uv (q 2))) ∧ w'.cell? ⟨g8, 3, none⟩ = some (.int .u64 (uv (q 3))) ∧ w'.cell? ⟨g9, 0, none⟩ = some (.int .u64 (uv (r 0))) ∧ w'.cell? ⟨g9, 1, none⟩ = some (.int .u64 (uv (r 1))) ∧ w'.cell? ⟨g9, 2, none⟩ = some (.int .u64 (uv (r 2))) ∧ w'.cell? ⟨g9, 3, none⟩ = some (.int .u64 (uv (r 3))) ∧ (convert 22 9 (.slice A' bs.length c')).run Try.prog w' = .ok (.string s) w' ∧ (convert 22 9 (.slice A bs.length c)).run Try.prog w' = .ok (.string s) w') (exact keepM (by assumption) (by assumption) (by assumption) (by assumption) (by assumption))
    (first | (go_at_call 12; ((with_reducible refine (D1.out _ (by assumption)).mono ?_); rintro e wn ⟨rfl, hb⟩; have K1 := step_cb (g := g8) (q := q) (by assumption) hb; have K2 := step_cb (g := g9) (q := r) (by assumption) hb; have K3 := step_bts (A := A) (l := bs) (by assumption) hb; have K4 := step_bts (A := A') (l := bs) (by assumption) hb; have BB := step_below (w := w) (by assumption) hb; clear hb)) | (go_at_call 13; ((with_reducible refine (D2.out _).mono ?_); rintro e wn ⟨rfl, hb⟩; have K1 := step_cb (g := g8) (q := q) (by assumption) hb; have K2 := step_cb (g := g9) (q := r) (by assumption) hb; have K3 := step_bts (A := A) (l := bs) (by assumption) hb; have K4 := step_bts (A := A') (l := bs) (by assumption) hb; have BB := step_below (w := w) (by assumption) hb; clear hb)))
  go_wp2_with fail
  go_loopw [10] (fun i wr => ∃ k : Nat, k ≤ 256 ∧ i = .int .i64 k ∧ CB wr g8 q ∧ Below w.heap.size w wr) (fun i _ => 256 - (intOf i).toNat)
  case atStart => exact ⟨0, by omega, rfl, K1.out, BB.out⟩
  case round =>
    obtain ⟨k, hk, rfl, h1, hb⟩ := hrel
    have H1 := Lib.hid h1; have HB := Lib.hid hb
    have H1d : Hid (CB wr.drew g8 q) := h1
    have HBd : Hid (Below w.heap.size w wr.drew) := hb.drew
    clear h1 hb
    by_cases hlt : k < 256
    · have F3 := Lib.hid (D3.out k hlt); have F4 := Lib.hid (D4.out k hlt)
      have hkw : IntKind.u8.wrap (k : Int) = (k : Int) := by rw [IntKind.wrap_u8']; omega
      clear D1 D2 D3 D4 E1 E2
      generalize kb q k = x at F3 F4
      cases x
      all_goals
        go_wp2_with fail
        go_region_held3 (fun w' => w'.cell? ⟨g8, 0, none⟩ = some (.int .u64 (uv (q 0))) ∧ w'.cell? ⟨g8, 1, none⟩ = some (.int .u64 (uv (q 1))) ∧ w'.cell? ⟨g8, 2, none⟩ = some (.int .u64 (uv (q 2))) ∧ w'.cell? ⟨g8, 3, none⟩ = some (.int .u64 (uv (q 3)))) (exact cbk4 (by assumption))
          (first | (go_at_call 14; ((with_reducible refine (F3.out _).mono ?_); rintro e wn ⟨rfl, hb⟩; have K1 := step_cb (g := g8) (q := q) (by assumption) hb; have BB := step_below (w := w) (by assumption) hb; clear hb)) | (go_at_call 15; ((with_reducible refine (F4.out _).mono ?_); rintro e wn ⟨rfl, hb⟩; have K1 := step_cb (g := g8) (q := q) (by assumption) hb; have BB := step_below (w := w) (by assumption) hb; clear hb)))
        go_wp2
        go_roundw
        case rel => exact ⟨k + 1, by omega, by go_num, K1.out, BB.out⟩
        case measure => simp [intOf]; omega
    · obtain rfl : k = 256 := by omega
      go_wp2
      go_ret
      exact ⟨rfl, HB.out⟩
end Go.Proofs.Ytodcnpjhkkifcaa
