/- ClassCounts: its walk. -/
import Derived.Test.YtodcnpjhkkifcaaC6
namespace Go.Proofs.Ytodcnpjhkkifcaa
open Go.RowKit

theorem countP_two (p q : Nat → Bool) : ∀ l : List Nat, l.countP (fun i => p i && q i) + l.countP (fun i => p i || q i) = l.countP p + l.countP q
  | [] => rfl
  | a :: l => by
    have ih := countP_two p q l
    simp only [List.countP_cons]
    cases p a <;> cases q a <;> simp <;> omega
theorem cnt_and_or (q r : Nat → BitVec 64) : cntK (fun j => q j ||| r j) + cntK (fun j => q j &&& r j) = cntK q + cntK r := by
  unfold cntK
  rw [show kb (fun j => q j ||| r j) = fun i => kb q i || kb r i from funext (kb_or q r), show kb (fun j => q j &&& r j) = fun i => kb q i && kb r i from funext (kb_and q r), ← countP_two (kb q) (kb r)]
  omega
theorem runs_cnt (q : Nat → BitVec 64) : (runsK (byl q 256) (byl q 256).length).length ≤ cntK q := by
  have := len_runsK (byl q 256) (byl q 256).length
  unfold cntK
  rw [List.countP_eq_length_filter]
  exact this

theorem bcell {W w1 : World} (hb : Below W.heap.size W w1) : ∀ b o, b < W.heap.size → w1.cell? ⟨b, o, none⟩ = W.cell? ⟨b, o, none⟩ := fun b o h => hb.cell (p := ⟨b, o, none⟩) h

theorem step_cb {W w' : World} {g : Nat} {q : Nat → BitVec 64} (h : Hid (CB W g q)) (hb : Below W.heap.size W w') : Hid (CB w' g q) := h.out.below hb h.out.lt
theorem cb_keep {W : World} {g : Nat} {q r : Nat → BitVec 64} (h1 : Hid (CB W g q)) (h2 : Hid (CB W (g + 1) r)) :
    W.cell? ⟨g, 0, none⟩ = some (.int .u64 (uv (q 0))) ∧ W.cell? ⟨g, 1, none⟩ = some (.int .u64 (uv (q 1))) ∧ W.cell? ⟨g, 2, none⟩ = some (.int .u64 (uv (q 2))) ∧ W.cell? ⟨g, 3, none⟩ = some (.int .u64 (uv (q 3))) ∧ W.cell? ⟨g + 1, 0, none⟩ = some (.int .u64 (uv (r 0))) ∧ W.cell? ⟨g + 1, 1, none⟩ = some (.int .u64 (uv (r 1))) ∧ W.cell? ⟨g + 1, 2, none⟩ = some (.int .u64 (uv (r 2))) ∧ W.cell? ⟨g + 1, 3, none⟩ = some (.int .u64 (uv (r 3))) :=
  ⟨h1.out.cell 0 (by omega), h1.out.cell 1 (by omega), h1.out.cell 2 (by omega), h1.out.cell 3 (by omega), h2.out.cell 0 (by omega), h2.out.cell 1 (by omega), h2.out.cell 2 (by omega), h2.out.cell 3 (by omega)⟩
theorem step_below {w W w' : World} (h : Hid (Below w.heap.size w W)) (hb : Below W.heap.size W w') : Hid (Below w.heap.size w w') := h.out.trans (hb.mono h.out.size)
theorem step_size {n : Nat} {W w' : World} (h : n < W.heap.size) (hb : Below W.heap.size W w') : n < w'.heap.size := Nat.lt_of_lt_of_le h hb.size

set_option maxRecDepth 100000 in
set_option maxHeartbeats 4000000 in
theorem classCounts_walk (q r : Nat → BitVec 64) (w : World) : Calls Try.prog 7 #[.agg (cw q), .agg (cw r)] w fun e w' => e = .returned (.bool true) ∧ Below w.heap.size w w' := by
  have h1 := (CB.new w q).alloc (.cells (cw r) 26)
  have h2 : CB ((w.alloc (.cells (cw q) 26)).alloc (.cells (cw r) 26)) (w.heap.size + 1) r := by
    have := CB.new (w.alloc (.cells (cw q) 26)) r
    rw [World.size_alloc] at this; exact this
  have hb : Below w.heap.size w ((w.alloc (.cells (cw q) 26)).alloc (.cells (cw r) 26)) := ((Below.refl _ _).alloc (Nat.le_refl _) _).alloc (by simp) _
  have S := Lib.hid (speaks_any ((w.alloc (.cells (cw q) 26)).alloc (.cells (cw r) 26)))
  have H1 := Lib.hid h1; have H2 := Lib.hid h2; have HB := Lib.hid hb
  have C1 := fun W => or_any q r W
  have C2 := fun W => or_any r q W
  have C3 := fun W => and_any q r W
  have C4 := fun W => len_any q W
  have C5 := fun W => len_any r W
  have C6 := fun W => len_any (fun j => q j ||| r j) W
  have C7 := fun W => len_any (fun j => q j &&& r j) W
  have C8 := fun W => and_any q (fun j => q j ||| r j) W
  have C9 := fun W => runs_any q W
  have e1 := cnt_and_or q r
  have e2 := runs_cnt q
  have l1 := cntK_le q; have l2 := cntK_le r; have l3 := cntK_le (fun j => q j ||| r j); have l4 := cntK_le (fun j => q j &&& r j)
  generalize cntK q = m1 at *
  generalize cntK r = m2 at *
  generalize cntK (fun j => q j ||| r j) = m3 at *
  generalize cntK (fun j => q j &&& r j) = m4 at *
  generalize runsK (byl q 256) (byl q 256).length = rl at *
  have E1 := fun W => eqk_true (fun j => q j ||| r j) (fun j => r j ||| q j) (fun i _ => by rw [kb_or, kb_or, Bool.or_comm]) W
  have E2 := fun W => eqk_true (fun j => q j &&& (q j ||| r j)) q (fun i _ => by rw [kb_and q (fun j => q j ||| r j), kb_or]; cases kb q i <;> simp) W
  unfold GivesC at C1 C2 C3 C8
  unfold cw at H1 H2 HB S C1 C2 C3 C4 C5 C6 C7 C8 C9 E1 E2 ⊢
  have D1 := Lib.hid C1; have D2 := Lib.hid C2; have D3 := Lib.hid C3; have D4 := Lib.hid C4; have D5 := Lib.hid C5; have D6 := Lib.hid C6; have D7 := Lib.hid C7; have D8 := Lib.hid C8; have D9 := Lib.hid C9
  clear h1 h2 hb C1 C2 C3 C4 C5 C6 C7 C8 C9
  go_enter Try.func7, Try.ntmps7
  go_wp2_with fail
  refine S.out.mono ?_
  rintro e w1 ⟨rfl, hbs⟩
  have hh1 := H1.out.below hbs H1.out.lt
  have hh2 := H2.out.below hbs H2.out.lt
  have hBt := HB.out.trans (hbs.mono HB.out.size)
  have hz : w.heap.size + 1 < w1.heap.size := hh2.lt
  clear hbs S H1 H2 HB
  have a0 := hh1.cell 0 (by omega); have a1 := hh1.cell 1 (by omega); have a2 := hh1.cell 2 (by omega); have a3 := hh1.cell 3 (by omega)
  have b0 := hh2.cell 0 (by omega); have b1 := hh2.cell 1 (by omega); have b2 := hh2.cell 2 (by omega); have b3 := hh2.cell 3 (by omega)
  have s1 : IntKind.i64.wrap ((m3 : Int) + (m4 : Int)) = (m3 : Int) + (m4 : Int) := IntWalk.i64_in _ (by omega)
  have s2 : IntKind.i64.wrap ((m1 : Int) + (m2 : Int)) = (m1 : Int) + (m2 : Int) := IntWalk.i64_in _ (by omega)
  have s3 : ((m3 : Int) + (m4 : Int) == (m1 : Int) + (m2 : Int)) = true := by rw [beq_iff_eq]; omega
  have s4 : decide ((rl.length : Int) ≤ (m1 : Int)) = true := by simp; omega
  have HL := Lib.hid e1; have HL2 := Lib.hid e2
  clear e1 e2
  have HBt := Lib.hid hBt; clear hBt
  go_wp2_with fail
  have HBd : Hid (Below w.heap.size w w1.drew) := HBt.out.drew
  have Q1 : Hid (CB w1 w.heap.size q) := Lib.hid hh1
  have Q2 : Hid (CB w1 (w.heap.size + 1) r) := Lib.hid hh2
  have Q1d : Hid (CB w1.drew w.heap.size q) := Lib.hid hh1
  have Q2d : Hid (CB w1.drew (w.heap.size + 1) r) := Lib.hid hh2
  clear hh1 hh2
  go_region_held3 (fun w' => w'.cell? ⟨w.heap.size, 0, none⟩ = some (.int .u64 (uv (q 0))) ∧ w'.cell? ⟨w.heap.size, 1, none⟩ = some (.int .u64 (uv (q 1))) ∧ w'.cell? ⟨w.heap.size, 2, none⟩ = some (.int .u64 (uv (q 2))) ∧ w'.cell? ⟨w.heap.size, 3, none⟩ = some (.int .u64 (uv (q 3))) ∧ w'.cell? ⟨w.heap.size + 1, 0, none⟩ = some (.int .u64 (uv (r 0))) ∧ w'.cell? ⟨w.heap.size + 1, 1, none⟩ = some (.int .u64 (uv (r 1))) ∧ w'.cell? ⟨w.heap.size + 1, 2, none⟩ = some (.int .u64 (uv (r 2))) ∧ w'.cell? ⟨w.heap.size + 1, 3, none⟩ = some (.int .u64 (uv (r 3)))) (exact cb_keep (by assumption) (by assumption))
    (first | (go_at_call 18; first | ((with_reducible refine (D1.out _).mono ?_); rintro e wn ⟨rfl, hb⟩; have K1 := step_cb (g := w.heap.size) (q := q) (by assumption) hb; have K2 := step_cb (g := w.heap.size + 1) (q := r) (by assumption) hb; have BB := step_below (w := w) (by assumption) hb; clear hb) | ((with_reducible refine (D2.out _).mono ?_); rintro e wn ⟨rfl, hb⟩; have K1 := step_cb (g := w.heap.size) (q := q) (by assumption) hb; have K2 := step_cb (g := w.heap.size + 1) (q := r) (by assumption) hb; have BB := step_below (w := w) (by assumption) hb; clear hb)) | (go_at_call 16; first | ((with_reducible refine (D3.out _).mono ?_); rintro e wn ⟨rfl, hb⟩; have K1 := step_cb (g := w.heap.size) (q := q) (by assumption) hb; have K2 := step_cb (g := w.heap.size + 1) (q := r) (by assumption) hb; have BB := step_below (w := w) (by assumption) hb; clear hb) | ((with_reducible refine (D8.out _).mono ?_); rintro e wn ⟨rfl, hb⟩; have K1 := step_cb (g := w.heap.size) (q := q) (by assumption) hb; have K2 := step_cb (g := w.heap.size + 1) (q := r) (by assumption) hb; have BB := step_below (w := w) (by assumption) hb; clear hb)) | (go_at_call 23; first | ((with_reducible refine (D6.out _).mono ?_); rintro e wn ⟨rfl, hb⟩; have K1 := step_cb (g := w.heap.size) (q := q) (by assumption) hb; have K2 := step_cb (g := w.heap.size + 1) (q := r) (by assumption) hb; have BB := step_below (w := w) (by assumption) hb; clear hb) | ((with_reducible refine (D7.out _).mono ?_); rintro e wn ⟨rfl, hb⟩; have K1 := step_cb (g := w.heap.size) (q := q) (by assumption) hb; have K2 := step_cb (g := w.heap.size + 1) (q := r) (by assumption) hb; have BB := step_below (w := w) (by assumption) hb; clear hb) | ((with_reducible refine (D4.out _).mono ?_); rintro e wn ⟨rfl, hb⟩; have K1 := step_cb (g := w.heap.size) (q := q) (by assumption) hb; have K2 := step_cb (g := w.heap.size + 1) (q := r) (by assumption) hb; have BB := step_below (w := w) (by assumption) hb; clear hb) | ((with_reducible refine (D5.out _).mono ?_); rintro e wn ⟨rfl, hb⟩; have K1 := step_cb (g := w.heap.size) (q := q) (by assumption) hb; have K2 := step_cb (g := w.heap.size + 1) (q := r) (by assumption) hb; have BB := step_below (w := w) (by assumption) hb; clear hb)) | (go_at_call 21; ((with_reducible refine (D9.out _).mono ?_); rintro e wn ⟨AR, cR, rfl, hpR, hb⟩; have K1 := step_cb (g := w.heap.size) (q := q) (by assumption) hb; have K2 := step_cb (g := w.heap.size + 1) (q := r) (by assumption) hb; have BB := step_below (w := w) (by assumption) hb; clear hb; clear hpR)))
  have s5 : decide (rl.length ≤ m1) = true := decide_eq_true HL2.out
  go_wp2_with fail
  go_ret
  exact ⟨show Ending.returned (.bool (decide (rl.length ≤ m1))) = _ by rw [s5], BB.out⟩
end Go.Proofs.Ytodcnpjhkkifcaa
