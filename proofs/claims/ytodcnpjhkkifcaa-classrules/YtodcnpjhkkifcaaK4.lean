/- ClassRules: its walk. -/
import Derived.Test.YtodcnpjhkkifcaaC11
import Derived.Test.YtodcnpjhkkifcaaK1
namespace Go.Proofs.Ytodcnpjhkkifcaa
open Go.RowKit

theorem step_prs {W w' : World} {A : Option Addr} {l : List (Nat × Nat)} (h : Hid (Prs W A l)) (hb : Below W.heap.size W w') : Hid (Prs w' A l) := h.out.below hb
theorem cb4 {W : World} {g : Nat} {q : Nat → BitVec 64} (h : Hid (CB W g q)) : W.cell? ⟨g, 0, none⟩ = some (.int .u64 (uv (q 0))) ∧ W.cell? ⟨g, 1, none⟩ = some (.int .u64 (uv (q 1))) ∧ W.cell? ⟨g, 2, none⟩ = some (.int .u64 (uv (q 2))) ∧ W.cell? ⟨g, 3, none⟩ = some (.int .u64 (uv (q 3))) :=
  ⟨h.out.cell 0 (by omega), h.out.cell 1 (by omega), h.out.cell 2 (by omega), h.out.cell 3 (by omega)⟩
theorem cbz {W : World} {g : Nat} {q : Nat → BitVec 64} (h : Hid (CB W g q)) : W.frozen? ⟨g, 0, none⟩ = false ∧ W.frozen? ⟨g, 1, none⟩ = false ∧ W.frozen? ⟨g, 2, none⟩ = false ∧ W.frozen? ⟨g, 3, none⟩ = false :=
  ⟨h.out.frozen 0, h.out.frozen 1, h.out.frozen 2, h.out.frozen 3⟩
theorem keep4 {w' : World} {a b c d : Nat} {q r s t : Nat → BitVec 64} (h1 : Hid (CB w' a q)) (h2 : Hid (CB w' b r)) (h3 : Hid (CB w' c s)) (h4 : Hid (CB w' d t)) :
    w'.cell? ⟨a, 0, none⟩ = some (.int .u64 (uv (q 0))) ∧ w'.cell? ⟨a, 1, none⟩ = some (.int .u64 (uv (q 1))) ∧ w'.cell? ⟨a, 2, none⟩ = some (.int .u64 (uv (q 2))) ∧ w'.cell? ⟨a, 3, none⟩ = some (.int .u64 (uv (q 3))) ∧ w'.cell? ⟨b, 0, none⟩ = some (.int .u64 (uv (r 0))) ∧ w'.cell? ⟨b, 1, none⟩ = some (.int .u64 (uv (r 1))) ∧ w'.cell? ⟨b, 2, none⟩ = some (.int .u64 (uv (r 2))) ∧ w'.cell? ⟨b, 3, none⟩ = some (.int .u64 (uv (r 3))) ∧ w'.cell? ⟨c, 0, none⟩ = some (.int .u64 (uv (s 0))) ∧ w'.cell? ⟨c, 1, none⟩ = some (.int .u64 (uv (s 1))) ∧ w'.cell? ⟨c, 2, none⟩ = some (.int .u64 (uv (s 2))) ∧ w'.cell? ⟨c, 3, none⟩ = some (.int .u64 (uv (s 3))) ∧ w'.cell? ⟨d, 0, none⟩ = some (.int .u64 (uv (t 0))) ∧ w'.cell? ⟨d, 1, none⟩ = some (.int .u64 (uv (t 1))) ∧ w'.cell? ⟨d, 2, none⟩ = some (.int .u64 (uv (t 2))) ∧ w'.cell? ⟨d, 3, none⟩ = some (.int .u64 (uv (t 3))) :=
  ⟨h1.out.cell 0 (by omega), h1.out.cell 1 (by omega), h1.out.cell 2 (by omega), h1.out.cell 3 (by omega), h2.out.cell 0 (by omega), h2.out.cell 1 (by omega), h2.out.cell 2 (by omega), h2.out.cell 3 (by omega), h3.out.cell 0 (by omega), h3.out.cell 1 (by omega), h3.out.cell 2 (by omega), h3.out.cell 3 (by omega), h4.out.cell 0 (by omega), h4.out.cell 1 (by omega), h4.out.cell 2 (by omega), h4.out.cell 3 (by omega)⟩
theorem Prs.far {w : World} {A : Option Addr} {l : List (Nat × Nat)} (h : Prs w A l) {p : Addr} (hp : ∀ g, A = some ⟨g, 0, none⟩ → g ≠ p.block) (u : Value) : Prs (w.setCell p u) A l := fun h0 => by
  obtain ⟨g, e, hlt, hc⟩ := h h0
  have hne := hp g e
  have hh : ∀ o, (w.setCell p u).cell? ⟨g, o, none⟩ = w.cell? ⟨g, o, none⟩ := fun o => by
    have := heap_setCell_other w p g u hne
    simp only [World.cell?, this]
  exact ⟨g, e, by simpa using hlt, fun j hj => ⟨(hh _).trans (hc j hj).1, (hh _).trans (hc j hj).2⟩⟩

set_option maxRecDepth 100000 in
set_option maxHeartbeats 8000000 in
theorem classRules_walk (q r : Nat → BitVec 64) (w : World) : Calls Try.prog 6 #[.agg (cw q), .agg (cw r)] w fun e w' => e = .returned (.bool true) ∧ Below w.heap.size w w' := by
  have h1 := (CB.new w q).alloc (.cells (cw r) 26)
  have h2 : CB ((w.alloc (.cells (cw q) 26)).alloc (.cells (cw r) 26)) (w.heap.size + 1) r := by
    have := CB.new (w.alloc (.cells (cw q) 26)) r
    rw [World.size_alloc] at this; exact this
  have hb : Below w.heap.size w ((w.alloc (.cells (cw q) 26)).alloc (.cells (cw r) 26)) := ((Below.refl _ _).alloc (Nat.le_refl _) _).alloc (by simp) _
  have S := Lib.hid (speaks_any ((w.alloc (.cells (cw q) 26)).alloc (.cells (cw r) 26)))
  have H1 := Lib.hid h1; have H2 := Lib.hid h2; have HB := Lib.hid hb
  unfold cw at H1 H2 HB S ⊢
  clear h1 h2 hb
  go_enter Try.func6, Try.ntmps6
  go_wp2_with fail
  refine S.out.mono ?_
  rintro e w1 ⟨rfl, hbs⟩
  have G1 := step_cb H1 hbs; have G2 := step_cb H2 hbs; have GB := step_below HB hbs
  clear hbs S H1 H2 HB
  have H1 := Lib.hid (G1.out.alloc (.cells (cw fun _ => 0#64) 26)); have H2 := Lib.hid (G2.out.alloc (.cells (cw fun _ => 0#64) 26)); have H3 := Lib.hid (CB.new w1 fun _ => 0#64)
  have HB := Lib.hid (GB.out.alloc GB.out.size (.cells (cw fun _ => 0#64) 26))
  have hz1 : w.heap.size + 1 < w1.heap.size := G2.out.lt
  clear G1 G2 GB
  have R := Lib.hid (runs_any2 q (w1.alloc (.cells (cw fun _ => 0#64) 26)))
  have hz2 : w1.heap.size < (w1.alloc (.cells (cw fun _ => 0#64) 26)).heap.size := by simp
  obtain ⟨c0, c1, c2, c3⟩ := cb4 H1
  have huz : uv 0#64 = 0 := rfl
  unfold cw at H1 H2 H3 HB R c0 c1 c2 c3 hz2
  rw [huz] at H1 H2 H3 HB R c0 c1 c2 c3 hz2
  clear huz
  go_wp2_with fail
  refine R.out.mono ?_
  rintro e w2 ⟨A, cA, rfl, hp, hnw, hb2⟩
  have G1 := step_cb H1 hb2; have G2 := step_cb H2 hb2; have G3 := step_cb H3 hb2; have GB := step_below HB hb2
  have GP := Lib.hid hp; have HNW := Lib.hid hnw
  have hz3 := G3.out.lt
  clear hb2 hp hnw H1 H2 H3 HB R c0 c1 c2 c3 hz2
  have hrl := rq_le q
  have HRC := Lib.hid (rq_cov q); have HRL := Lib.hid (rq_lt q)
  unfold rq at hrl HRC HRL
  generalize runsK (byl q 256) (byl q 256).length = rl at *
  rw [World.size_alloc] at HNW
  have G3' : Hid (CB w2 w1.heap.size (fun _ => 0#64)) := G3
  clear G3
  generalize w1.heap.size = g5 at *
  go_wp2_with fail
  go_loopw [15] (fun i wr => ∃ (k : Nat) (X : Nat → BitVec 64), k ≤ rl.length ∧ i = .int .i64 k ∧ CB wr w.heap.size q ∧ CB wr (w.heap.size + 1) r ∧ CB wr g5 X ∧ IsK (fun i => decide (cov rl k i)) X ∧ Prs wr A rl ∧ Below w.heap.size w wr) (fun i _ => rl.length - (intOf i).toNat)
  case atStart => exact ⟨0, fun _ => 0#64, Nat.zero_le _, rfl, G1.out, G2.out, G3'.out, (fun i _ => by show kb _ i = decide (cov rl 0 i); rw [kb_zero, decide_eq_false (by rintro ⟨j, hj, _⟩; omega)]), GP.out, GB.out⟩
  case round =>
    obtain ⟨k, X, hk, rfl, h1, h2, h3, hX, hp, hb⟩ := hrel
    clear G1 G2 G3' GP GB
    by_cases hlt : k < rl.length
    · obtain ⟨gp, rfl, hgp, hcell⟩ := hp (by omega)
      obtain ⟨gp', eg, hge⟩ := HNW.out (by omega)
      obtain rfl : gp = gp' := by injection eg with eg; injection eg
      have HC := Lib.hid (HRL.out k)
      have HX := Lib.hid (fun i => cov_succ rl k i)
      obtain ⟨pc1, pc2⟩ := hcell k hlt
      have hlo := (HRL.out k).1; have hhi := (HRL.out k).2
      generalize (pr rl k).1 = lo at *
      generalize (pr rl k).2 = hi at *
      have H1 := Lib.hid (h1.alloc (.cells #[.int .u8 (lo : Nat), .int .u8 (hi : Nat)] 41)); have H2 := Lib.hid (h2.alloc (.cells #[.int .u8 (lo : Nat), .int .u8 (hi : Nat)] 41)); have H3 := Lib.hid (h3.alloc (.cells #[.int .u8 (lo : Nat), .int .u8 (hi : Nat)] 41))
      have HP := Lib.hid (hp.below ((Below.refl wr.heap.size wr).alloc (Nat.le_refl _) (.cells #[.int .u8 (lo : Nat), .int .u8 (hi : Nat)] 41)))
      have HB := Lib.hid (hb.alloc hb.size (.cells #[.int .u8 (lo : Nat), .int .u8 (hi : Nat)] 41))
      have d1 : (wr.alloc (.cells #[.int .u8 (lo : Nat), .int .u8 (hi : Nat)] 41)).cell? ⟨wr.heap.size, 0, none⟩ = some (.int .u8 (lo : Nat)) := by rw [cell_of_row _ _ _ _ _ _ (heap_alloc_new wr _)]; rfl
      have d2 : (wr.alloc (.cells #[.int .u8 (lo : Nat), .int .u8 (hi : Nat)] 41)).cell? ⟨wr.heap.size, 1, none⟩ = some (.int .u8 (hi : Nat)) := by rw [cell_of_row _ _ _ _ _ _ (heap_alloc_new wr _)]; rfl
      have HIX := Lib.hid hX
      clear h1 h2 h3 hp hb hcell hX eg HC
      have DR : Hid (∀ W, Calls Try.prog 11 #[.int .u8 (lo : Nat), .int .u8 (hi : Nat)] W (GivesK W (rgF lo hi))) := fun W => range_any lo hi W hlo hhi
      have DX : Hid (∀ q1 W, Calls Try.prog 18 #[.agg (cw X), .agg (cw q1)] W fun e w' => e = .returned (.agg (cw fun j => X j ||| q1 j)) ∧ Below W.heap.size W w') := fun q1 W => or_any X q1 W
      unfold GivesK at DR
      unfold cw at DX DR
      have HG : Hid (∀ g, some (⟨gp, 0, none⟩ : Addr) = some ⟨g, 0, none⟩ → g ≠ g5) := fun g e => by injection e with e; injection e with e; omega
      go_wp2_with fail
      generalize wr.alloc (.cells #[.int .u8 (lo : Int), .int .u8 (hi : Int)] 41) = W0 at *
      have H1d : Hid (CB W0.drew w.heap.size q) := H1.out
      have H2d : Hid (CB W0.drew (w.heap.size + 1) r) := H2.out
      have H3d : Hid (CB W0.drew g5 X) := H3.out
      have HPd : Hid (Prs W0.drew (some ⟨gp, 0, none⟩) rl) := HP.out
      have HBd : Hid (Below w.heap.size w W0.drew) := HB.out.drew
      have d1' : W0.drew.cell? ⟨wr.heap.size, 0, none⟩ = some (.int .u8 (lo : Nat)) := d1
      have d2' : W0.drew.cell? ⟨wr.heap.size, 1, none⟩ = some (.int .u8 (hi : Nat)) := d2
      obtain ⟨_, _, _, _⟩ := cb4 H3d
      clear pc1 pc2
      go_region_with (first | (go_at_call 11; ((with_reducible refine (DR.out _).mono ?_); rintro e wn ⟨q1, rfl, hq1, hb⟩; have HQ1 := Lib.hid hq1; clear hq1; have L1 := step_cb (g := w.heap.size) (q := q) (by assumption) hb; have L2 := step_cb (g := w.heap.size + 1) (q := r) (by assumption) hb; have L3 := step_cb (g := g5) (q := X) (by assumption) hb; have LP := step_prs (A := some ⟨gp, 0, none⟩) (l := rl) (by assumption) hb; have LB := step_below (w := w) (by assumption) hb; clear hb; obtain ⟨_, _, _, _⟩ := cb4 L3; obtain ⟨_, _, _, _⟩ := cbz L3)) | (go_at_call 18; ((with_reducible refine (DX.out _ _).mono ?_); rintro e wn ⟨rfl, hb⟩; have L1 := step_cb (g := w.heap.size) (q := q) (by assumption) hb; have L2 := step_cb (g := w.heap.size + 1) (q := r) (by assumption) hb; have L3 := step_cb (g := g5) (q := X) (by assumption) hb; have LP := step_prs (A := some ⟨gp, 0, none⟩) (l := rl) (by assumption) hb; have LB := step_below (w := w) (by assumption) hb; clear hb; obtain ⟨_, _, _, _⟩ := cb4 L3; obtain ⟨_, _, _, _⟩ := cbz L3)))
      all_goals
        have HN : Hid (IsK (fun i => decide (cov rl (k + 1) i)) (fun j => X j ||| q1 j)) := fun i hi => by
          have e1 : kb X i = decide (cov rl k i) := HIX.out i hi
          show kb _ i = decide (cov rl (k + 1) i)
          rw [kb_or X q1, e1, HQ1.out i hi]; exact (HX.out i).symm
        go_wp2
        go_roundw
        case rel =>
          refine ⟨k + 1, fun j => X j ||| q1 j, by omega, by go_num, ?_, ?_, ?_, HN.out, ?_, ?_⟩
          · exact CB.far4 (g' := g5) L1.out (by omega) _ _ _ _
          · exact CB.far4 (g' := g5) L2.out (by omega) _ _ _ _
          · exact L3.out.set4 (fun j => X j ||| q1 j)
          · exact (((LP.out.far (p := ⟨g5, 0, none⟩) HG.out _).far (p := ⟨g5, 1, none⟩) HG.out _).far (p := ⟨g5, 2, none⟩) HG.out _).far (p := ⟨g5, 3, none⟩) HG.out _
          · exact ends4 (g := g5) LB.out (by omega) _ _ _ _
        case measure => simp [intOf]; omega
    · obtain rfl : k = rl.length := by omega
      have h3' : CB wr g5 q := h3.congr fun j hj => word_ext X q (fun i hi => by rw [hX i hi]; exact HRC.out i hi) j hj
      have H1 := Lib.hid h1; have H2 := Lib.hid h2; have H3 := Lib.hid h3'; have HB := Lib.hid hb
      obtain ⟨c0, c1, c2, c3⟩ := cb4 H1
      have FO := Lib.hid (fold_any q wr)
      clear h1 h2 h3 h3' hX hp hb HRC HRL HNW
      unfold cw at FO
      go_wp2_with fail
      refine FO.out.mono ?_
      rintro e w3 ⟨F, rfl, hF, hb3⟩
      have J1 := step_cb H1 hb3; have J2 := step_cb H2 hb3; have J3 := step_cb H3 hb3; have JB := step_below HB hb3
      have hz4 : g5 < w3.heap.size := J3.out.lt
      clear hb3 H1 H2 H3 HB FO c0 c1 c2 c3
      have P1 := Lib.hid (J1.out.alloc (.cells (cw F) 26)); have P2 := Lib.hid (J2.out.alloc (.cells (cw F) 26)); have P3 := Lib.hid (J3.out.alloc (.cells (cw F) 26)); have P4 := Lib.hid (CB.new w3 F)
      have PB := Lib.hid (JB.out.alloc JB.out.size (.cells (cw F) 26))
      clear J1 J2 J3 JB
      have DB : Hid (∀ W, Calls Try.prog 20 #[.agg (cw q)] W (GivesB W (byl q 256))) := fun W => bytes_any q W
      have DO : Hid (∀ A c W, Hid (Bts W A (byl q 256)) → Calls Try.prog 10 #[.slice A (byl q 256).length c] W fun e w' => e = .returned (.agg (cw q)) ∧ Below W.heap.size W w') := fun A c W h => of_q q A c W h
      have N1 : Hid (∀ W, Calls Try.prog 19 #[.agg (cw q)] W fun e w' => e = .returned (.agg (cw fun j => ~~~q j)) ∧ Below W.heap.size W w') := fun W => not_any q W
      have N2 : Hid (∀ W, Calls Try.prog 19 #[.agg (cw r)] W fun e w' => e = .returned (.agg (cw fun j => ~~~r j)) ∧ Below W.heap.size W w') := fun W => not_any r W
      have N3 : Hid (∀ W, Calls Try.prog 19 #[.agg (cw fun j => q j ||| r j)] W fun e w' => e = .returned (.agg (cw fun j => ~~~(q j ||| r j))) ∧ Below W.heap.size W w') := fun W => not_any (fun j => q j ||| r j) W
      have O1 : Hid (∀ W, Calls Try.prog 18 #[.agg (cw q), .agg (cw fun j => ~~~q j)] W fun e w' => e = .returned (.agg (cw fun j => q j ||| ~~~q j)) ∧ Below W.heap.size W w') := fun W => or_any q (fun j => ~~~q j) W
      have O2 : Hid (∀ W, Calls Try.prog 18 #[.agg (cw F), .agg (cw q)] W fun e w' => e = .returned (.agg (cw F)) ∧ Below W.heap.size W w') := fun W =>
        (or_any F q W).mono fun e w' h => ⟨by rw [h.1, cw_ext (fun j => F j ||| q j) F (fun i hi => by rw [kb_or]; exact fold_more q F hF i hi)], h.2⟩
      have O3 : Hid (∀ W, Calls Try.prog 18 #[.agg (cw q), .agg (cw r)] W fun e w' => e = .returned (.agg (cw fun j => q j ||| r j)) ∧ Below W.heap.size W w') := fun W => or_any q r W
      have M1 : Hid (∀ W, Calls Try.prog 16 #[.agg (cw q), .agg (cw fun j => ~~~q j)] W fun e w' => e = .returned (.agg #[.int .u64 0, .int .u64 0, .int .u64 0, .int .u64 0]) ∧ Below W.heap.size W w') := fun W =>
        (and_any q (fun j => ~~~q j) W).mono fun e w' h => ⟨by rw [h.1, cw_ext (fun j => q j &&& ~~~q j) (fun _ => 0#64) (fun i _ => by rw [kb_and q (fun j => ~~~q j), kb_not, kb_zero]; simp)]; rfl, h.2⟩
      have M2 : Hid (∀ W, Calls Try.prog 16 #[.agg (cw fun j => ~~~q j), .agg (cw fun j => ~~~r j)] W fun e w' => e = .returned (.agg (cw fun j => ~~~(q j ||| r j))) ∧ Below W.heap.size W w') := fun W =>
        (and_any (fun j => ~~~q j) (fun j => ~~~r j) W).mono fun e w' h => ⟨by rw [h.1, cw_ext (fun j => ~~~q j &&& ~~~r j) (fun j => ~~~(q j ||| r j)) (fun i _ => by rw [kb_and (fun j => ~~~q j) (fun j => ~~~r j), kb_not, kb_not, kb_not (fun j => q j ||| r j), kb_or]; simp)], h.2⟩
      have LF : Hid (∀ W, Calls Try.prog 23 #[.agg (cw fun j => q j ||| ~~~q j)] W fun e w' => e = .returned (.int .i64 256) ∧ Below W.heap.size W w') := fun W => by have := len_any (fun j => q j ||| ~~~q j) W; rw [cnt_full] at this; exact this
      have FF : Hid (∀ W, Calls Try.prog 26 #[.agg (cw F)] W fun e w' => e = .returned (.agg (cw F)) ∧ Below W.heap.size W w') := fun W =>
        (fold_any F W).mono fun e w' ⟨q', he, hk, hb⟩ => ⟨by rw [he, cw_ext q' F (fun i hi => by rw [hk i hi, fold_twice q F hF i hi])], hb⟩
      have E1 := fun W => eqk_true q q (fun _ _ => rfl) W
      have E2 := fun W => eqk_true F F (fun _ _ => rfl) W
      have E3 : ∀ W, (Op.equalIn 10000 26 (.agg #[.int .u64 0, .int .u64 0, .int .u64 0, .int .u64 0]) (.agg #[.int .u64 0, .int .u64 0, .int .u64 0, .int .u64 0])).run Try.prog W = .ok true W := fun W => eqk_true (fun _ => 0#64) (fun _ => 0#64) (fun _ _ => rfl) W
      have E4 := fun W => eqk_true (fun j => ~~~(q j ||| r j)) (fun j => ~~~(q j ||| r j)) (fun _ _ => rfl) W
      clear hF
      generalize byl q 256 = bl at *
      generalize (fun j => q j ||| ~~~q j) = U1 at *
      generalize (fun j => ~~~(q j ||| r j)) = U2 at *
      generalize (fun j => ~~~q j) = U3 at *
      generalize (fun j => ~~~r j) = U4 at *
      generalize (fun j => q j ||| r j) = U5 at *
      unfold cw at P1 P2 P3 P4 PB DB DO N1 N2 N3 O1 O2 O3 M1 M2 LF FF E1 E2 E4 ⊢
      go_wp2_with fail
      generalize w3.alloc (.cells #[.int .u64 (uv (F 0)), .int .u64 (uv (F 1)), .int .u64 (uv (F 2)), .int .u64 (uv (F 3))] 26) = W0 at *
      generalize w3.heap.size = g8 at *
      have P1d : Hid (CB W0.drew w.heap.size q) := P1.out
      have P2d : Hid (CB W0.drew (w.heap.size + 1) r) := P2.out
      have P3d : Hid (CB W0.drew g5 q) := P3.out
      have P4d : Hid (CB W0.drew g8 F) := P4.out
      have PBd : Hid (Below w.heap.size w W0.drew) := PB.out.drew
      go_region_held3 (fun w' => w'.cell? ⟨w.heap.size, 0, none⟩ = some (.int .u64 (uv (q 0))) ∧ w'.cell? ⟨w.heap.size, 1, none⟩ = some (.int .u64 (uv (q 1))) ∧ w'.cell? ⟨w.heap.size, 2, none⟩ = some (.int .u64 (uv (q 2))) ∧ w'.cell? ⟨w.heap.size, 3, none⟩ = some (.int .u64 (uv (q 3))) ∧ w'.cell? ⟨w.heap.size + 1, 0, none⟩ = some (.int .u64 (uv (r 0))) ∧ w'.cell? ⟨w.heap.size + 1, 1, none⟩ = some (.int .u64 (uv (r 1))) ∧ w'.cell? ⟨w.heap.size + 1, 2, none⟩ = some (.int .u64 (uv (r 2))) ∧ w'.cell? ⟨w.heap.size + 1, 3, none⟩ = some (.int .u64 (uv (r 3))) ∧ w'.cell? ⟨g5, 0, none⟩ = some (.int .u64 (uv (q 0))) ∧ w'.cell? ⟨g5, 1, none⟩ = some (.int .u64 (uv (q 1))) ∧ w'.cell? ⟨g5, 2, none⟩ = some (.int .u64 (uv (q 2))) ∧ w'.cell? ⟨g5, 3, none⟩ = some (.int .u64 (uv (q 3))) ∧ w'.cell? ⟨g8, 0, none⟩ = some (.int .u64 (uv (F 0))) ∧ w'.cell? ⟨g8, 1, none⟩ = some (.int .u64 (uv (F 1))) ∧ w'.cell? ⟨g8, 2, none⟩ = some (.int .u64 (uv (F 2))) ∧ w'.cell? ⟨g8, 3, none⟩ = some (.int .u64 (uv (F 3)))) (exact keep4 (by assumption) (by assumption) (by assumption) (by assumption))
        (first | (go_at_call 20; ((with_reducible refine (DB.out _).mono ?_); rintro e wn ⟨AB, cB, rfl, hpB, hb⟩; have KB := Lib.hid hpB; have K1 := step_cb (g := w.heap.size) (q := q) (by assumption) hb; have K2 := step_cb (g := w.heap.size + 1) (q := r) (by assumption) hb; have K3 := step_cb (g := g5) (q := q) (by assumption) hb; have K4 := step_cb (g := g8) (q := F) (by assumption) hb; have BB := step_below (w := w) (by assumption) hb; clear hb; clear hpB)) | (go_at_call 10; ((with_reducible refine (DO.out _ _ _ (by assumption)).mono ?_); rintro e wn ⟨rfl, hb⟩; have K1 := step_cb (g := w.heap.size) (q := q) (by assumption) hb; have K2 := step_cb (g := w.heap.size + 1) (q := r) (by assumption) hb; have K3 := step_cb (g := g5) (q := q) (by assumption) hb; have K4 := step_cb (g := g8) (q := F) (by assumption) hb; have BB := step_below (w := w) (by assumption) hb; clear hb)) | (go_at_call 19; first | ((with_reducible refine (N1.out _).mono ?_); rintro e wn ⟨rfl, hb⟩; have K1 := step_cb (g := w.heap.size) (q := q) (by assumption) hb; have K2 := step_cb (g := w.heap.size + 1) (q := r) (by assumption) hb; have K3 := step_cb (g := g5) (q := q) (by assumption) hb; have K4 := step_cb (g := g8) (q := F) (by assumption) hb; have BB := step_below (w := w) (by assumption) hb; clear hb) | ((with_reducible refine (N2.out _).mono ?_); rintro e wn ⟨rfl, hb⟩; have K1 := step_cb (g := w.heap.size) (q := q) (by assumption) hb; have K2 := step_cb (g := w.heap.size + 1) (q := r) (by assumption) hb; have K3 := step_cb (g := g5) (q := q) (by assumption) hb; have K4 := step_cb (g := g8) (q := F) (by assumption) hb; have BB := step_below (w := w) (by assumption) hb; clear hb) | ((with_reducible refine (N3.out _).mono ?_); rintro e wn ⟨rfl, hb⟩; have K1 := step_cb (g := w.heap.size) (q := q) (by assumption) hb; have K2 := step_cb (g := w.heap.size + 1) (q := r) (by assumption) hb; have K3 := step_cb (g := g5) (q := q) (by assumption) hb; have K4 := step_cb (g := g8) (q := F) (by assumption) hb; have BB := step_below (w := w) (by assumption) hb; clear hb)) | (go_at_call 18; first | ((with_reducible refine (O1.out _).mono ?_); rintro e wn ⟨rfl, hb⟩; have K1 := step_cb (g := w.heap.size) (q := q) (by assumption) hb; have K2 := step_cb (g := w.heap.size + 1) (q := r) (by assumption) hb; have K3 := step_cb (g := g5) (q := q) (by assumption) hb; have K4 := step_cb (g := g8) (q := F) (by assumption) hb; have BB := step_below (w := w) (by assumption) hb; clear hb) | ((with_reducible refine (O2.out _).mono ?_); rintro e wn ⟨rfl, hb⟩; have K1 := step_cb (g := w.heap.size) (q := q) (by assumption) hb; have K2 := step_cb (g := w.heap.size + 1) (q := r) (by assumption) hb; have K3 := step_cb (g := g5) (q := q) (by assumption) hb; have K4 := step_cb (g := g8) (q := F) (by assumption) hb; have BB := step_below (w := w) (by assumption) hb; clear hb) | ((with_reducible refine (O3.out _).mono ?_); rintro e wn ⟨rfl, hb⟩; have K1 := step_cb (g := w.heap.size) (q := q) (by assumption) hb; have K2 := step_cb (g := w.heap.size + 1) (q := r) (by assumption) hb; have K3 := step_cb (g := g5) (q := q) (by assumption) hb; have K4 := step_cb (g := g8) (q := F) (by assumption) hb; have BB := step_below (w := w) (by assumption) hb; clear hb)) | (go_at_call 16; first | ((with_reducible refine (M1.out _).mono ?_); rintro e wn ⟨rfl, hb⟩; have K1 := step_cb (g := w.heap.size) (q := q) (by assumption) hb; have K2 := step_cb (g := w.heap.size + 1) (q := r) (by assumption) hb; have K3 := step_cb (g := g5) (q := q) (by assumption) hb; have K4 := step_cb (g := g8) (q := F) (by assumption) hb; have BB := step_below (w := w) (by assumption) hb; clear hb) | ((with_reducible refine (M2.out _).mono ?_); rintro e wn ⟨rfl, hb⟩; have K1 := step_cb (g := w.heap.size) (q := q) (by assumption) hb; have K2 := step_cb (g := w.heap.size + 1) (q := r) (by assumption) hb; have K3 := step_cb (g := g5) (q := q) (by assumption) hb; have K4 := step_cb (g := g8) (q := F) (by assumption) hb; have BB := step_below (w := w) (by assumption) hb; clear hb)) | (go_at_call 23; first | ((with_reducible refine (LF.out _).mono ?_); rintro e wn ⟨rfl, hb⟩; have K1 := step_cb (g := w.heap.size) (q := q) (by assumption) hb; have K2 := step_cb (g := w.heap.size + 1) (q := r) (by assumption) hb; have K3 := step_cb (g := g5) (q := q) (by assumption) hb; have K4 := step_cb (g := g8) (q := F) (by assumption) hb; have BB := step_below (w := w) (by assumption) hb; clear hb)) | (go_at_call 26; first | ((with_reducible refine (FF.out _).mono ?_); rintro e wn ⟨rfl, hb⟩; have K1 := step_cb (g := w.heap.size) (q := q) (by assumption) hb; have K2 := step_cb (g := w.heap.size + 1) (q := r) (by assumption) hb; have K3 := step_cb (g := g5) (q := q) (by assumption) hb; have K4 := step_cb (g := g8) (q := F) (by assumption) hb; have BB := step_below (w := w) (by assumption) hb; clear hb)))
      go_wp2_with fail
      go_ret
      exact ⟨rfl, BB.out⟩
end Go.Proofs.Ytodcnpjhkkifcaa
