/- The reference's Fold: its contract. -/
import Derived.Test.YtodcnpjhkkifcaaC12
namespace Go.Proofs.Ytodcnpjhkkifcaa
open Go.RowKit

theorem cbc4 {W : World} {g : Nat} {q : Nat → BitVec 64} (h : Hid (CB W g q)) : W.cell? ⟨g, 0, none⟩ = some (.int .u64 (uv (q 0))) ∧ W.cell? ⟨g, 1, none⟩ = some (.int .u64 (uv (q 1))) ∧ W.cell? ⟨g, 2, none⟩ = some (.int .u64 (uv (q 2))) ∧ W.cell? ⟨g, 3, none⟩ = some (.int .u64 (uv (q 3))) :=
  ⟨h.out.cell 0 (by omega), h.out.cell 1 (by omega), h.out.cell 2 (by omega), h.out.cell 3 (by omega)⟩
theorem oth_lt (x : Nat) (h : x < 256) : oth x < 256 := by unfold oth; split <;> (try split) <;> omega
def f2 (q : Nat → BitVec 64) (i : Nat) : Bool := kb q i || kb q (oth i)
theorem f2_fold (q : Nat → BitVec 64) (i : Nat) : f2 q i = foldF q 26 i := by
  unfold f2 foldF oth
  by_cases h1 : 65 ≤ i ∧ i ≤ 90
  · rw [if_pos h1, decide_eq_true (by omega : 65 ≤ i ∧ i < 65 + 26), decide_eq_false (by omega : ¬ (97 ≤ i ∧ i < 97 + 26))]; simp
  · rw [if_neg h1, decide_eq_false (by omega : ¬ (65 ≤ i ∧ i < 65 + 26))]
    by_cases h2 : 97 ≤ i ∧ i ≤ 122
    · rw [if_pos h2, decide_eq_true (by omega : 97 ≤ i ∧ i < 97 + 26)]; simp
    · rw [if_neg h2, decide_eq_false (by omega : ¬ (97 ≤ i ∧ i < 97 + 26))]; simp

set_option maxRecDepth 100000 in
set_option maxHeartbeats 4000000 in
theorem fold2_any (q : Nat → BitVec 64) (w : World) : Calls Try.prog 27 #[.agg (cw q)] w (GivesK w (foldF q 26)) := by
  obtain ⟨z46, s46⟩ := zero_of_info zero46
  have hall : (bc fun _ => false).all (·.oneCell') = true := by kernel_rfl
  have hst0 := run_storeCells_new (P := Try.prog) ((w.alloc (.cells (cw q) 26)).alloc (.cells #[.int .u64 0, .int .u64 0, .int .u64 0, .int .u64 0] 26)) 46 (bc fun _ => false) (bc fun _ => false) (by rw [s46, bc_size]) rfl hall
  have hsz := bc_size fun _ => false
  rw [World.size_alloc, World.size_alloc] at hst0
  have h1 : CB (((w.alloc (.cells (cw q) 26)).alloc (.cells #[.int .u64 0, .int .u64 0, .int .u64 0, .int .u64 0] 26)).alloc (.cells (bc fun _ => false) 46)) w.heap.size q := ((CB.new w q).alloc _).alloc _
  have h3 : CB (((w.alloc (.cells (cw q) 26)).alloc (.cells #[.int .u64 0, .int .u64 0, .int .u64 0, .int .u64 0] 26)).alloc (.cells (bc fun _ => false) 46)) (w.heap.size + 1) (fun _ => 0#64) := by
    have := (CB.new (w.alloc (.cells (cw q) 26)) (fun _ => 0#64)).alloc (.cells (bc fun _ => false) 46)
    rw [World.size_alloc] at this; exact this
  have h4 : BK (((w.alloc (.cells (cw q) 26)).alloc (.cells #[.int .u64 0, .int .u64 0, .int .u64 0, .int .u64 0] 26)).alloc (.cells (bc fun _ => false) 46)) (w.heap.size + 1 + 1) (gp (f2 q) 0) := by
    have := BK.new ((w.alloc (.cells (cw q) 26)).alloc (.cells #[.int .u64 0, .int .u64 0, .int .u64 0, .int .u64 0] 26)) (fun _ => false)
    rw [World.size_alloc, World.size_alloc] at this; rw [gp_zero]; exact this
  have hb : Below w.heap.size w (((w.alloc (.cells (cw q) 26)).alloc (.cells #[.int .u64 0, .int .u64 0, .int .u64 0, .int .u64 0] 26)).alloc (.cells (bc fun _ => false) 46)) := (((Below.refl _ _).alloc (Nat.le_refl _) _).alloc (by simp) _).alloc (by simp; omega) _
  unfold cw at hst0 h1 h3 h4 hb ⊢
  have H1 := Lib.hid h1; have H3 := Lib.hid h3; have H4 := Lib.hid h4; have HB := Lib.hid hb
  clear hall h1 h3 h4 hb
  have HS46 := Lib.hid s46
  clear s46
  go_enter Try.func27, Try.ntmps27
  go_wp2_with fail
  clear hst0 hsz z46
  go_loopw [4] (fun i wr => ∃ k : Nat, k ≤ 256 ∧ i = .int .i64 k ∧ CB wr w.heap.size q ∧ CB wr (w.heap.size + 1) (fun _ => 0#64) ∧ BK wr (w.heap.size + 1 + 1) (gp (f2 q) k) ∧ Below w.heap.size w wr) (fun i _ => 256 - (intOf i).toNat)
  case atStart => exact ⟨0, by omega, rfl, H1.out, H3.out, H4.out, HB.out⟩
  case round =>
    obtain ⟨k, hk, rfl, h1, h3, h4, hb⟩ := hrel
    clear H1 H3 H4 HB
    by_cases hlt : k < 256
    · have D1 : Hid (∀ W, Calls Try.prog 15 #[.agg (cw q), .int .i64 (k : Nat)] W fun e w' => e = .returned (.bool (kb q k)) ∧ Below W.heap.size W w') := fun W => has2_any q k W hlt
      have D2 : Hid (∀ W, Calls Try.prog 15 #[.agg (cw q), .int .i64 (oth k : Nat)] W fun e w' => e = .returned (.bool (kb q (oth k))) ∧ Below W.heap.size W w') := fun W => has2_any q (oth k) W (oth_lt k hlt)
      have D3 : Hid (∀ W, Calls Try.prog 28 #[.int .i64 (k : Nat)] W fun e w' => e = .returned (.int .i64 (oth k : Nat)) ∧ W = w') := fun W => other_any k W hlt
      have hV : f2 q k = (kb q k || kb q (oth k)) := rfl
      have HS : Hid (∀ W, Hid (BK W (w.heap.size + 1 + 1) (gp (f2 q) k)) → BK (W.setCell ⟨w.heap.size + 1 + 1, k, none⟩ (.bool (f2 q k))) (w.heap.size + 1 + 1) (gp (f2 q) (k + 1))) := fun W h => by rw [gp_succ]; exact h.out.set k _
      have H1d : Hid (CB wr.drew w.heap.size q) := h1
      have H3d : Hid (CB wr.drew (w.heap.size + 1) (fun _ => 0#64)) := h3
      have H4d : Hid (BK wr.drew (w.heap.size + 1 + 1) (gp (f2 q) k)) := h4
      have HBd : Hid (Below w.heap.size w wr.drew) := hb.drew
      obtain ⟨_, _, _, _⟩ := cbc4 H1d
      clear h1 h3 h4 hb
      unfold cw at D1 D2
      generalize oth k = o at D2 D3 hV
      generalize kb q o = y at D2 hV
      generalize kb q k = x at D1 hV
      generalize f2 q k = V at HS hV
      go_wp2_with fail
      cases x
      · simp only [Bool.false_or] at hV
        subst hV
        go_region_with (first | (go_at_call 15; first | ((with_reducible refine (D1.out _).mono ?_); rintro e wn ⟨rfl, hb⟩; have K1 := step_cb (g := w.heap.size) (q := q) (by assumption) hb; have K3 := step_cb (g := w.heap.size + 1) (q := fun _ => 0#64) (by assumption) hb; have K4 := step_bk (g := w.heap.size + 1 + 1) (f := gp (f2 q) k) (by assumption) hb; have BB := step_below (w := w) (by assumption) hb; clear hb; obtain ⟨_, _, _, _⟩ := cbc4 K1; have c4 := K4.out.cell k hlt; have f4 := K4.out.frozen k) | ((with_reducible refine (D2.out _).mono ?_); rintro e wn ⟨rfl, hb⟩; have K1 := step_cb (g := w.heap.size) (q := q) (by assumption) hb; have K3 := step_cb (g := w.heap.size + 1) (q := fun _ => 0#64) (by assumption) hb; have K4 := step_bk (g := w.heap.size + 1 + 1) (f := gp (f2 q) k) (by assumption) hb; have BB := step_below (w := w) (by assumption) hb; clear hb; obtain ⟨_, _, _, _⟩ := cbc4 K1; have c4 := K4.out.cell k hlt; have f4 := K4.out.frozen k)) | (go_at_call 28; ((with_reducible refine (D3.out _).mono ?_); rintro e wn ⟨rfl, rfl⟩)))
        all_goals
          go_wp2
          go_roundw
          case rel => exact ⟨k + 1, by omega, by go_num, K1.out.far (by simp; omega) _, K3.out.far (by simp) _, HS.out _ K4, BB.out.setCell (by simp; omega) _⟩
          case measure => simp [intOf]; omega
      · simp only [Bool.true_or] at hV
        subst hV
        first
        | go_region_with (first | (go_at_call 15; ((with_reducible refine (D1.out _).mono ?_); rintro e wn ⟨rfl, hb⟩; have K1 := step_cb (g := w.heap.size) (q := q) (by assumption) hb; have K3 := step_cb (g := w.heap.size + 1) (q := fun _ => 0#64) (by assumption) hb; have K4 := step_bk (g := w.heap.size + 1 + 1) (f := gp (f2 q) k) (by assumption) hb; have BB := step_below (w := w) (by assumption) hb; clear hb; obtain ⟨_, _, _, _⟩ := cbc4 K1; have c4 := K4.out.cell k hlt; have f4 := K4.out.frozen k)))
        | fail "the region"
        all_goals
          go_wp2
          go_roundw
          case rel => exact ⟨k + 1, by omega, by go_num, K1.out.far (by simp; omega) _, K3.out.far (by simp) _, HS.out _ K4, BB.out.setCell (by simp; omega) _⟩
          case measure => simp [intOf]; omega
    · obtain rfl : k = 256 := by omega
      have F := Lib.hid (from_any (gp (f2 q) 256) wr)
      have H3 := Lib.hid h3; have H4 := Lib.hid h4; have HB := Lib.hid hb
      clear h1 h3 h4 hb
      go_wp2_with fail
      refine wp_load_row (P := Try.prog) 46 (.tmp 3) rfl (w.heap.size + 1 + 1) rfl 46 (bc (gp (f2 q) 256)) (0, 0) _ H4.out Try.underlying46 rfl (by rw [HS46.out, bc_size]) ?_
      generalize hf : gp (f2 q) 256 = ff at F ⊢
      generalize bc ff = cc at F ⊢
      go_wp2_with fail
      refine F.out.mono ?_
      rintro e w2 ⟨q2, rfl, hq2, hb2⟩
      have h3 := H3.out.below hb2 H3.out.lt
      have hbb := Lib.hid (HB.out.trans (hb2.mono HB.out.size))
      have b0 := h3.cell 0 (by omega); have b1 := h3.cell 1 (by omega); have b2 := h3.cell 2 (by omega); have b3 := h3.cell 3 (by omega)
      have z0 := h3.frozen 0; have z1 := h3.frozen 1; have z2 := h3.frozen 2; have z3 := h3.frozen 3
      have HQ : Hid (IsK (foldF q 26) q2) := fun i hi => by rw [hq2 i hi, ← hf, ← f2_fold]; simp [gp, hi]
      clear h3 hb2 hq2 hf H3 H4 HB F
      unfold cw
      go_wp2
      exact bodyPost_ret (v := .agg (cw q2)) (by simp [results, Try.results27, go_sem, cw, b0, b1, b2, b3]) rfl ⟨q2, rfl, HQ.out, ends4 hbb.out (by omega) _ _ _ _⟩
end Go.Proofs.Ytodcnpjhkkifcaa
