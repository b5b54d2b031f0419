/- ClassJoins: its walk. -/
import Derived.Test.YtodcnpjhkkifcaaC9
namespace Go.Proofs.Ytodcnpjhkkifcaa
open Go.RowKit

theorem join_is (q r s : Nat → BitVec 64) (m : Nat) (hm : m = 1 ∨ m = 2 ∨ m = 3) (h : ∀ i, i < 256 → jF m q r i = kb s i) (W : World) :
    Calls Try.prog 17 #[.agg (cw q), .agg (cw r), .int .i64 (m : Nat)] W fun e w' => e = .returned (.agg (cw s)) ∧ Below W.heap.size W w' :=
  (join_any q r m hm W).mono fun e w' ⟨q', he, hk, hb⟩ => ⟨by rw [he, cw_ext q' s (fun i hi => by rw [hk i hi, h i hi])], hb⟩

set_option maxRecDepth 100000 in
set_option maxHeartbeats 4000000 in
theorem classJoins_walk (q r : Nat → BitVec 64) (w : World) : Calls Try.prog 4 #[.agg (cw q), .agg (cw r)] w fun e w' => e = .returned (.bool true) ∧ Below w.heap.size w w' := by
  have h1 := (CB.new w q).alloc (.cells (cw r) 26)
  have h2 : CB ((w.alloc (.cells (cw q) 26)).alloc (.cells (cw r) 26)) (w.heap.size + 1) r := by
    have := CB.new (w.alloc (.cells (cw q) 26)) r
    rw [World.size_alloc] at this; exact this
  have hb : Below w.heap.size w ((w.alloc (.cells (cw q) 26)).alloc (.cells (cw r) 26)) := ((Below.refl _ _).alloc (Nat.le_refl _) _).alloc (by simp) _
  have S := Lib.hid (speaks_any ((w.alloc (.cells (cw q) 26)).alloc (.cells (cw r) 26)))
  have H1 := Lib.hid h1; have H2 := Lib.hid h2; have HB := Lib.hid hb
  have C1 := fun W => and_any q r W
  have C2 := fun W => or_any q r W
  have C3 := fun W => not_any q W
  have C4 : ∀ W, Calls Try.prog 17 #[.agg (cw q), .agg (cw r), .int .i64 1] W fun e w' => e = .returned (.agg (cw (fun j => q j &&& r j))) ∧ Below W.heap.size W w' := fun W => join_is q r (fun j => q j &&& r j) 1 (by simp) (fun i _ => by rw [kb_and]; simp [jF]) W
  have C5 : ∀ W, Calls Try.prog 17 #[.agg (cw q), .agg (cw r), .int .i64 2] W fun e w' => e = .returned (.agg (cw (fun j => q j ||| r j))) ∧ Below W.heap.size W w' := fun W => join_is q r (fun j => q j ||| r j) 2 (by simp) (fun i _ => by rw [kb_or]; simp [jF]) W
  have C6 : ∀ W, Calls Try.prog 17 #[.agg (cw q), .agg (cw r), .int .i64 3] W fun e w' => e = .returned (.agg (cw (fun j => ~~~q j))) ∧ Below W.heap.size W w' := fun W => join_is q r (fun j => ~~~q j) 3 (by simp) (fun i _ => by rw [kb_not]; simp [jF]) W
  have E1 := fun W => eqk_true (fun j => q j &&& r j) (fun j => q j &&& r j) (fun _ _ => rfl) W
  have E2 := fun W => eqk_true (fun j => q j ||| r j) (fun j => q j ||| r j) (fun _ _ => rfl) W
  have E3 := fun W => eqk_true (fun j => ~~~q j) (fun j => ~~~q j) (fun _ _ => rfl) W
  unfold GivesC at C1 C2 C3
  unfold cw at H1 H2 HB S C1 C2 C3 C4 C5 C6 E1 E2 E3 ⊢
  have D1 := Lib.hid C1; have D2 := Lib.hid C2; have D3 := Lib.hid C3; have D4 := Lib.hid C4; have D5 := Lib.hid C5; have D6 := Lib.hid C6
  clear h1 h2 hb C1 C2 C3 C4 C5 C6
  go_enter Try.func4, Try.ntmps4
  go_wp2_with fail
  refine S.out.mono ?_
  rintro e w1 ⟨rfl, hbs⟩
  have hh1 := H1.out.below hbs H1.out.lt
  have hh2 := H2.out.below hbs H2.out.lt
  have hBt := HB.out.trans (hbs.mono HB.out.size)
  clear hbs S H1 H2 HB
  have HBt := Lib.hid hBt; clear hBt
  go_wp2_with fail
  have HBd : Hid (Below w.heap.size w w1.drew) := HBt.out.drew
  have Q1 : Hid (CB w1 w.heap.size q) := Lib.hid hh1
  have Q2 : Hid (CB w1 (w.heap.size + 1) r) := Lib.hid hh2
  have Q1d : Hid (CB w1.drew w.heap.size q) := Lib.hid hh1
  have Q2d : Hid (CB w1.drew (w.heap.size + 1) r) := Lib.hid hh2
  clear hh1 hh2
  go_region_held3 (fun w' => w'.cell? ⟨w.heap.size, 0, none⟩ = some (.int .u64 (uv (q 0))) ∧ w'.cell? ⟨w.heap.size, 1, none⟩ = some (.int .u64 (uv (q 1))) ∧ w'.cell? ⟨w.heap.size, 2, none⟩ = some (.int .u64 (uv (q 2))) ∧ w'.cell? ⟨w.heap.size, 3, none⟩ = some (.int .u64 (uv (q 3))) ∧ w'.cell? ⟨w.heap.size + 1, 0, none⟩ = some (.int .u64 (uv (r 0))) ∧ w'.cell? ⟨w.heap.size + 1, 1, none⟩ = some (.int .u64 (uv (r 1))) ∧ w'.cell? ⟨w.heap.size + 1, 2, none⟩ = some (.int .u64 (uv (r 2))) ∧ w'.cell? ⟨w.heap.size + 1, 3, none⟩ = some (.int .u64 (uv (r 3)))) (exact cb_keep (by assumption) (by assumption))
    (first | (go_at_call 16; ((with_reducible refine (D1.out _).mono ?_); rintro e wn ⟨rfl, hb⟩; have K1 := step_cb (g := w.heap.size) (q := q) (by assumption) hb; have K2 := step_cb (g := w.heap.size + 1) (q := r) (by assumption) hb; have BB := step_below (w := w) (by assumption) hb; clear hb)) | (go_at_call 18; ((with_reducible refine (D2.out _).mono ?_); rintro e wn ⟨rfl, hb⟩; have K1 := step_cb (g := w.heap.size) (q := q) (by assumption) hb; have K2 := step_cb (g := w.heap.size + 1) (q := r) (by assumption) hb; have BB := step_below (w := w) (by assumption) hb; clear hb)) | (go_at_call 19; ((with_reducible refine (D3.out _).mono ?_); rintro e wn ⟨rfl, hb⟩; have K1 := step_cb (g := w.heap.size) (q := q) (by assumption) hb; have K2 := step_cb (g := w.heap.size + 1) (q := r) (by assumption) hb; have BB := step_below (w := w) (by assumption) hb; clear hb)) | (go_at_call 17; first | ((with_reducible refine (D4.out _).mono ?_); rintro e wn ⟨rfl, hb⟩; have K1 := step_cb (g := w.heap.size) (q := q) (by assumption) hb; have K2 := step_cb (g := w.heap.size + 1) (q := r) (by assumption) hb; have BB := step_below (w := w) (by assumption) hb; clear hb) | ((with_reducible refine (D5.out _).mono ?_); rintro e wn ⟨rfl, hb⟩; have K1 := step_cb (g := w.heap.size) (q := q) (by assumption) hb; have K2 := step_cb (g := w.heap.size + 1) (q := r) (by assumption) hb; have BB := step_below (w := w) (by assumption) hb; clear hb) | ((with_reducible refine (D6.out _).mono ?_); rintro e wn ⟨rfl, hb⟩; have K1 := step_cb (g := w.heap.size) (q := q) (by assumption) hb; have K2 := step_cb (g := w.heap.size + 1) (q := r) (by assumption) hb; have BB := step_below (w := w) (by assumption) hb; clear hb)))
  go_wp2_with fail
  go_ret
  exact ⟨rfl, BB.out⟩
end Go.Proofs.Ytodcnpjhkkifcaa
