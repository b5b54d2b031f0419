/- The reference's Join: its contract. -/
import Derived.Test.YtnaecagmcpndhaaF1
namespace Go.Proofs.Ytnaecagmcpndhaa
open Go.RowKit

theorem cb_keep {W : World} {g : Nat} {q r : Nat → BitVec 64} (h1 : Hid (CB W g q)) (h2 : Hid (CB W (g + 1) r)) :
    W.cell? ⟨g, 0, none⟩ = some (.int .u64 (uv (q 0))) ∧ W.cell? ⟨g, 1, none⟩ = some (.int .u64 (uv (q 1))) ∧ W.cell? ⟨g, 2, none⟩ = some (.int .u64 (uv (q 2))) ∧ W.cell? ⟨g, 3, none⟩ = some (.int .u64 (uv (q 3))) ∧ W.cell? ⟨g + 1, 0, none⟩ = some (.int .u64 (uv (r 0))) ∧ W.cell? ⟨g + 1, 1, none⟩ = some (.int .u64 (uv (r 1))) ∧ W.cell? ⟨g + 1, 2, none⟩ = some (.int .u64 (uv (r 2))) ∧ W.cell? ⟨g + 1, 3, none⟩ = some (.int .u64 (uv (r 3))) :=
  ⟨h1.out.cell 0 (by omega), h1.out.cell 1 (by omega), h1.out.cell 2 (by omega), h1.out.cell 3 (by omega), h2.out.cell 0 (by omega), h2.out.cell 1 (by omega), h2.out.cell 2 (by omega), h2.out.cell 3 (by omega)⟩
def jF (m : Nat) (q r : Nat → BitVec 64) (i : Nat) : Bool := (m == 1 && kb q i && kb r i) || (m == 2 && (kb q i || kb r i)) || (m == 3 && !kb q i)
theorem zero46 : (Try.prog.info? 91).map (fun i => (i.zero, i.size)) = some (some (.agg (bc fun _ => false)), 256) := by kernel_rfl

theorem step_bk {W w' : World} {g : Nat} {f : Nat → Bool} (h : Hid (BK W g f)) (hb : Below W.heap.size W w') : Hid (BK w' g f) := h.out.below hb h.out.lt
/-- the first k bytes joined -/
def jp (m : Nat) (q r : Nat → BitVec 64) (k i : Nat) : Bool := decide (i < k) && jF m q r i
theorem jp_zero (m : Nat) (q r : Nat → BitVec 64) : jp m q r 0 = fun _ => false := by funext i; simp [jp]
theorem jp_succ (m : Nat) (q r : Nat → BitVec 64) (k : Nat) : jp m q r (k + 1) = fun i => if i = k then jF m q r k else jp m q r k i := by
  funext i
  unfold jp
  by_cases e : i = k
  · subst e; simp
  · rw [if_neg e]; congr 1; rw [Bool.eq_iff_iff]; simp; omega

set_option maxRecDepth 100000 in
set_option maxHeartbeats 4000000 in
theorem join_any (q r : Nat → BitVec 64) (m : Nat) (hm : m = 1 ∨ m = 2 ∨ m = 3) (w : World) : Calls Try.prog 75 #[.agg (cw q), .agg (cw r), .int .i64 (m : Nat)] w (GivesK w (jF m q r)) := by
  obtain ⟨z46, s46⟩ := zero_of_info zero46
  have hall : (bc fun _ => false).all (·.oneCell') = true := by kernel_rfl
  have hst0 := run_storeCells_new (P := Try.prog) (((w.alloc (.cells (cw q) 26)).alloc (.cells (cw r) 26)).alloc (.cells #[.int .u64 0, .int .u64 0, .int .u64 0, .int .u64 0] 26)) 91 (bc fun _ => false) (bc fun _ => false) (by rw [s46, bc_size]) rfl hall
  have hsz := bc_size fun _ => false
  rw [World.size_alloc, World.size_alloc, World.size_alloc] at hst0
  have h1 : CB ((((w.alloc (.cells (cw q) 26)).alloc (.cells (cw r) 26)).alloc (.cells #[.int .u64 0, .int .u64 0, .int .u64 0, .int .u64 0] 26)).alloc (.cells (bc fun _ => false) 91)) w.heap.size q := (((CB.new w q).alloc _).alloc _).alloc _
  have h2 : CB ((((w.alloc (.cells (cw q) 26)).alloc (.cells (cw r) 26)).alloc (.cells #[.int .u64 0, .int .u64 0, .int .u64 0, .int .u64 0] 26)).alloc (.cells (bc fun _ => false) 91)) (w.heap.size + 1) r := by
    have := ((CB.new (w.alloc (.cells (cw q) 26)) r).alloc (.cells #[.int .u64 0, .int .u64 0, .int .u64 0, .int .u64 0] 26)).alloc (.cells (bc fun _ => false) 91)
    rw [World.size_alloc] at this; exact this
  have h3 : CB ((((w.alloc (.cells (cw q) 26)).alloc (.cells (cw r) 26)).alloc (.cells #[.int .u64 0, .int .u64 0, .int .u64 0, .int .u64 0] 26)).alloc (.cells (bc fun _ => false) 91)) (w.heap.size + 1 + 1) (fun _ => 0#64) := by
    have := (CB.new ((w.alloc (.cells (cw q) 26)).alloc (.cells (cw r) 26)) (fun _ => 0#64)).alloc (.cells (bc fun _ => false) 91)
    rw [World.size_alloc, World.size_alloc] at this; exact this
  have h4 : BK ((((w.alloc (.cells (cw q) 26)).alloc (.cells (cw r) 26)).alloc (.cells #[.int .u64 0, .int .u64 0, .int .u64 0, .int .u64 0] 26)).alloc (.cells (bc fun _ => false) 91)) (w.heap.size + 1 + 1 + 1) (jp m q r 0) := by
    have := BK.new (((w.alloc (.cells (cw q) 26)).alloc (.cells (cw r) 26)).alloc (.cells #[.int .u64 0, .int .u64 0, .int .u64 0, .int .u64 0] 26)) (fun _ => false)
    rw [World.size_alloc, World.size_alloc, World.size_alloc] at this; rw [jp_zero]; exact this
  have hb : Below w.heap.size w ((((w.alloc (.cells (cw q) 26)).alloc (.cells (cw r) 26)).alloc (.cells #[.int .u64 0, .int .u64 0, .int .u64 0, .int .u64 0] 26)).alloc (.cells (bc fun _ => false) 91)) := ((((Below.refl _ _).alloc (Nat.le_refl _) _).alloc (by simp) _).alloc (by simp; omega) _).alloc (by simp; omega) _
  unfold cw at hst0 h1 h2 h3 h4 hb ⊢
  have H1 := Lib.hid h1; have H2 := Lib.hid h2; have H3 := Lib.hid h3; have H4 := Lib.hid h4; have HB := Lib.hid hb
  have C1 : Hid (∀ k, k < 256 → ∀ W, Calls Try.prog 83 #[.agg (cw q), .int .i64 (k : Nat)] W fun e w' => e = .returned (.bool (kb q k)) ∧ Below W.heap.size W w') := fun k hk W => has2_any q k W hk
  have C2 : Hid (∀ k, k < 256 → ∀ W, Calls Try.prog 83 #[.agg (cw r), .int .i64 (k : Nat)] W fun e w' => e = .returned (.bool (kb r k)) ∧ Below W.heap.size W w') := fun k hk W => has2_any r k W hk
  unfold cw at C1 C2
  clear hall h1 h2 h3 h4 hb
  have HS46 := Lib.hid s46
  clear s46
  go_enter Try.func75, Try.ntmps75
  go_wp2_with fail
  clear hst0 hsz z46
  go_loopw [8] (fun i wr => ∃ k : Nat, k ≤ 256 ∧ i = .int .i64 k ∧ CB wr w.heap.size q ∧ CB wr (w.heap.size + 1) r ∧ CB wr (w.heap.size + 1 + 1) (fun _ => 0#64) ∧ BK wr (w.heap.size + 1 + 1 + 1) (jp m q r k) ∧ Below w.heap.size w wr) (fun i _ => 256 - (intOf i).toNat)
  case atStart => exact ⟨0, by omega, rfl, H1.out, H2.out, H3.out, H4.out, HB.out⟩
  case round =>
    obtain ⟨k, hk, rfl, h1, h2, h3, h4, hb⟩ := hrel
    clear H1 H2 H3 H4 HB
    have H1 := Lib.hid h1; have H2 := Lib.hid h2; have H3 := Lib.hid h3; have H4 := Lib.hid h4; have HB := Lib.hid hb
    have H1d : Hid (CB wr.drew w.heap.size q) := h1
    have H2d : Hid (CB wr.drew (w.heap.size + 1) r) := h2
    have H3d : Hid (CB wr.drew (w.heap.size + 1 + 1) (fun _ => 0#64)) := h3
    have H4d : Hid (BK wr.drew (w.heap.size + 1 + 1 + 1) (jp m q r k)) := h4
    have HBd : Hid (Below w.heap.size w wr.drew) := hb.drew
    by_cases hlt : k < 256
    · have D1 := Lib.hid (C1.out k hlt); have D2 := Lib.hid (C2.out k hlt)
      clear h1 h2 h3 h4 hb
      go_wp2_with fail
      go_region_held3 (fun w' => w'.cell? ⟨w.heap.size, 0, none⟩ = some (.int .u64 (uv (q 0))) ∧ w'.cell? ⟨w.heap.size, 1, none⟩ = some (.int .u64 (uv (q 1))) ∧ w'.cell? ⟨w.heap.size, 2, none⟩ = some (.int .u64 (uv (q 2))) ∧ w'.cell? ⟨w.heap.size, 3, none⟩ = some (.int .u64 (uv (q 3))) ∧ w'.cell? ⟨w.heap.size + 1, 0, none⟩ = some (.int .u64 (uv (r 0))) ∧ w'.cell? ⟨w.heap.size + 1, 1, none⟩ = some (.int .u64 (uv (r 1))) ∧ w'.cell? ⟨w.heap.size + 1, 2, none⟩ = some (.int .u64 (uv (r 2))) ∧ w'.cell? ⟨w.heap.size + 1, 3, none⟩ = some (.int .u64 (uv (r 3)))) (exact cb_keep (by assumption) (by assumption))
        ((go_at_call 83; first | ((with_reducible refine (D1.out _).mono ?_); rintro e wn ⟨rfl, hb⟩; have K1 := step_cb (g := w.heap.size) (q := q) (by assumption) hb; have K2 := step_cb (g := w.heap.size + 1) (q := r) (by assumption) hb; have K3 := step_cb (g := w.heap.size + 1 + 1) (q := fun _ => 0#64) (by assumption) hb; have K4 := step_bk (g := w.heap.size + 1 + 1 + 1) (f := jp m q r k) (by assumption) hb; have BB := step_below (w := w) (by assumption) hb; clear hb) | ((with_reducible refine (D2.out _).mono ?_); rintro e wn ⟨rfl, hb⟩; have K1 := step_cb (g := w.heap.size) (q := q) (by assumption) hb; have K2 := step_cb (g := w.heap.size + 1) (q := r) (by assumption) hb; have K3 := step_cb (g := w.heap.size + 1 + 1) (q := fun _ => 0#64) (by assumption) hb; have K4 := step_bk (g := w.heap.size + 1 + 1 + 1) (f := jp m q r k) (by assumption) hb; have BB := step_below (w := w) (by assumption) hb; clear hb)))
      have HS := Lib.hid (K4.out.set k (jF m q r k))
      rw [← jp_succ] at HS
      have hV : jF m q r k = ((m == 1 && kb q k && kb r k) || (m == 2 && (kb q k || kb r k)) || (m == 3 && !kb q k)) := rfl
      have c4 := K4.out.cell k hlt
      have f4 := K4.out.frozen k
      have G1 := Lib.hid (K1.out.far (p := ⟨w.heap.size + 1 + 1 + 1, k, none⟩) (by simp; omega) (.bool (jF m q r k)))
      have G2 := Lib.hid (K2.out.far (p := ⟨w.heap.size + 1 + 1 + 1, k, none⟩) (by simp) (.bool (jF m q r k)))
      have G3 := Lib.hid (K3.out.far (p := ⟨w.heap.size + 1 + 1 + 1, k, none⟩) (by simp) (.bool (jF m q r k)))
      have GB := Lib.hid (BB.out.setCell (p := ⟨w.heap.size + 1 + 1 + 1, k, none⟩) (by simp; omega) (.bool (jF m q r k)))
      generalize jp m q r k k = jv at c4
      clear D1 D2 C1 C2
      generalize jF m q r k = V at HS hV G1 G2 G3 GB
      generalize kb q k = x at hV ⊢
      generalize kb r k = y at hV ⊢
      rcases hm with rfl | rfl | rfl <;> cases x <;> cases y <;> (simp at hV; subst hV; go_wp2; go_roundw; (case rel => exact ⟨k + 1, by omega, by go_num, G1.out, G2.out, G3.out, HS.out, GB.out⟩); (case measure => simp [intOf]; omega))
    · obtain rfl : k = 256 := by omega
      have F := Lib.hid (from_any (jp m q r 256) wr)
      clear h1 h2 h3 h4 hb
      go_wp2_with fail
      refine wp_load_row (P := Try.prog) 91 (.tmp 7) rfl (w.heap.size + 1 + 1 + 1) rfl 91 (bc (jp m q r 256)) (0, 0) _ H4.out Try.underlying91 rfl (by rw [HS46.out, bc_size]) ?_
      generalize hf : jp m q r 256 = ff at F ⊢
      generalize bc ff = cc at F ⊢
      go_wp2_with fail
      refine F.out.mono ?_
      rintro e w2 ⟨q2, rfl, hq2, hb2⟩
      have h3 := H3.out.below hb2 H3.out.lt
      have hbb := Lib.hid (HB.out.trans (hb2.mono HB.out.size))
      have b0 := h3.cell 0 (by omega); have b1 := h3.cell 1 (by omega); have b2 := h3.cell 2 (by omega); have b3 := h3.cell 3 (by omega)
      have z0 := h3.frozen 0; have z1 := h3.frozen 1; have z2 := h3.frozen 2; have z3 := h3.frozen 3
      have HQ : Hid (IsK (jF m q r) q2) := fun i hi => by rw [hq2 i hi, ← hf]; simp [jp, hi]
      clear h3 hb2 hq2 hf H1 H2 H3 H4 HB H1d H2d H3d H4d HBd F C1 C2
      unfold cw
      go_wp2
      exact bodyPost_ret (v := .agg (cw q2)) (by simp [results, Try.results75, go_sem, cw, b0, b1, b2, b3]) rfl ⟨q2, rfl, HQ.out, ends4 hbb.out (by omega) _ _ _ _⟩
end Go.Proofs.Ytnaecagmcpndhaa
