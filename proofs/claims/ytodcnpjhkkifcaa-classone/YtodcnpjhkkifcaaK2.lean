/- ClassOne: its walk. -/
import Derived.Test.YtodcnpjhkkifcaaC7
import Derived.Test.YtodcnpjhkkifcaaK1
namespace Go.Proofs.Ytodcnpjhkkifcaa
open Go.RowKit

theorem cb_keep2 {W : World} {g g2 : Nat} {q r : Nat → BitVec 64} (h1 : Hid (CB W g q)) (h2 : Hid (CB W g2 r)) :
    W.cell? ⟨g, 0, none⟩ = some (.int .u64 (uv (q 0))) ∧ W.cell? ⟨g, 1, none⟩ = some (.int .u64 (uv (q 1))) ∧ W.cell? ⟨g, 2, none⟩ = some (.int .u64 (uv (q 2))) ∧ W.cell? ⟨g, 3, none⟩ = some (.int .u64 (uv (q 3))) ∧ W.cell? ⟨g2, 0, none⟩ = some (.int .u64 (uv (r 0))) ∧ W.cell? ⟨g2, 1, none⟩ = some (.int .u64 (uv (r 1))) ∧ W.cell? ⟨g2, 2, none⟩ = some (.int .u64 (uv (r 2))) ∧ W.cell? ⟨g2, 3, none⟩ = some (.int .u64 (uv (r 3))) :=
  ⟨h1.out.cell 0 (by omega), h1.out.cell 1 (by omega), h1.out.cell 2 (by omega), h1.out.cell 3 (by omega), h2.out.cell 0 (by omega), h2.out.cell 1 (by omega), h2.out.cell 2 (by omega), h2.out.cell 3 (by omega)⟩
theorem bts_one (w : World) (x : Nat) (hx : x < 256) : Bts (w.alloc (.cells #[.int .u8 (x : Int)] 5)) (some ⟨w.heap.size, 0, none⟩) [x] := by
  refine ⟨fun j => ?_, fun _ => ⟨w.heap.size, 0, rfl, by simp, fun j hj => ?_⟩⟩
  · match j with
    | 0 => exact hx
    | j + 1 => simp [bn]
  · have hh := cell_of_row (w.alloc (.cells #[.int .u8 (x : Int)] 5)) w.heap.size j #[.int .u8 (x : Int)] 5 (0, 0) (heap_alloc_new w _)
    rw [Nat.zero_add, hh]
    match j, hj with
    | 0, _ => rfl
theorem ofF_one (a i : Nat) : ofF [a] 1 i = decide (i = a) := by
  unfold ofF
  rw [Bool.eq_iff_iff]
  simp only [decide_eq_true_eq]
  constructor
  · rintro ⟨j, hj, e⟩
    obtain rfl : j = 0 := by omega
    exact e.symm
  · rintro rfl; exact ⟨0, by omega, rfl⟩
theorem cnt_one (a : Nat) (ha : a < 256) (q : Nat → BitVec 64) (h : IsK (ofF [a] 1) q) : cntK q = 1 := by
  unfold cntK
  rw [List.countP_congr (q := fun i => i == a) (fun i hi => by rw [h i (List.mem_range.1 hi), ofF_one]; simp)]
  have : (List.range 256).countP (· == a) = (List.range 256).count a := rfl
  rw [this, List.nodup_range.count, if_pos (List.mem_range.2 ha)]
theorem fold_one (a b : Nat) (ha : a < 256) (hb : b < 256) (q r : Nat → BitVec 64) (h : IsK (ofF [a] 1) q) (h2 : IsK (foldF q 26) r) : kb r b = (decide (a = b) || decide (oth a = b)) := by
  rw [h2 b hb]
  unfold foldF oth
  rw [h b hb, ofF_one]
  have e1 : (decide (65 ≤ b ∧ b < 65 + 26) && kb q (b + 32)) = decide (65 ≤ b ∧ b < 91 ∧ b + 32 = a) := by
    by_cases hh : 65 ≤ b ∧ b < 65 + 26
    · rw [decide_eq_true hh, h (b + 32) (by omega), ofF_one]
      simp only [Bool.true_and]; rw [Bool.eq_iff_iff]; simp; omega
    · rw [decide_eq_false hh, decide_eq_false (by omega)]; rfl
  have e2 : (decide (97 ≤ b ∧ b < 97 + 26) && kb q (b - 32)) = decide (97 ≤ b ∧ b < 123 ∧ b - 32 = a) := by
    by_cases hh : 97 ≤ b ∧ b < 97 + 26
    · rw [decide_eq_true hh, h (b - 32) (by omega), ofF_one]
      simp only [Bool.true_and]; rw [Bool.eq_iff_iff]; simp; omega
    · rw [decide_eq_false hh, decide_eq_false (by omega)]; rfl
  rw [e1, e2, Bool.eq_iff_iff]
  simp only [Bool.or_eq_true, decide_eq_true_eq]
  split
  · omega
  · split <;> omega

set_option maxRecDepth 100000 in
set_option maxHeartbeats 40000000 in
theorem classOne_walk (a b : Nat) (ha : a < 256) (hb : b < 256) (w : World) : Calls Try.prog 8 #[.int .u8 (a : Nat), .int .u8 (b : Nat)] w fun e w' => e = .returned (.bool true) ∧ Below w.heap.size w w' := by
  have S := Lib.hid (speaks_any w)
  go_enter Try.func8, Try.ntmps8
  go_wp2_with fail
  refine S.out.mono ?_
  rintro e w1 ⟨rfl, hb1⟩
  clear S
  have HO := Lib.hid (of_any (some ⟨w1.heap.size, 0, none⟩) 1 [a] _ (bts_one w1 a ha) (by simp))
  go_wp2_with fail
  refine HO.out.mono ?_
  rintro e w2 ⟨q, rfl, hq, hb2⟩
  have B2 : Hid (Below w.heap.size w w2) := (hb1.alloc hb1.size _).trans (hb2.mono (by have := hb1.size; simp; omega))
  clear hb1 hb2 HO
  have h1 := CB.new w2 q
  have HF := Lib.hid (fold_any q (w2.alloc (.cells (cw q) 26)))
  have B3 : Hid (Below w.heap.size w (w2.alloc (.cells (cw q) 26))) := B2.out.alloc B2.out.size _
  clear B2
  have Q1 := Lib.hid h1
  clear h1
  unfold cw at HF B3 Q1 ⊢
  go_wp2_with fail
  refine HF.out.mono ?_
  rintro e w3 ⟨r, rfl, hr, hb3⟩
  have Q1b := step_cb Q1 hb3
  have B4 := step_below B3 hb3
  clear hb3 B3 Q1 HF
  have P1 : Hid (CB (w3.alloc (.cells (cw r) 26)) w2.heap.size q) := Q1b.out.alloc _
  have P2 : Hid (CB (w3.alloc (.cells (cw r) 26)) w3.heap.size r) := CB.new w3 r
  have B5 : Hid (Below w.heap.size w (w3.alloc (.cells (cw r) 26))) := B4.out.alloc B4.out.size _
  have hz : w2.heap.size < w3.heap.size := Q1b.out.lt
  clear Q1b B4
  have v1e : kb q b = decide (a = b) := by rw [hq b hb, show [a].length = 1 from rfl, ofF_one, Bool.eq_iff_iff]; simp; omega
  have v2e : kb r a = true := by rw [fold_one a a ha ha q r hq hr]; simp
  have v3e := fold_one a b ha hb q r hq hr
  have D1 : Hid (∀ W, Calls Try.prog 14 #[.agg (cw q), .int .u8 b] W fun e w' => e = .returned (.bool (decide (a = b))) ∧ Below W.heap.size W w') := fun W => by have := has_any q b W hb; rw [v1e] at this; exact this
  have D2 : Hid (∀ W, Calls Try.prog 14 #[.agg (cw r), .int .u8 a] W fun e w' => e = .returned (.bool true) ∧ Below W.heap.size W w') := fun W => by have := has_any r a W ha; rw [v2e] at this; exact this
  have D3 : Hid (∀ W, Calls Try.prog 14 #[.agg (cw r), .int .u8 b] W fun e w' => e = .returned (.bool (decide (a = b) || decide (oth a = b))) ∧ Below W.heap.size W w') := fun W => by have := has_any r b W hb; rw [v3e] at this; exact this
  have D4 : Hid (∀ W, Calls Try.prog 11 #[.int .u8 (a : Nat), .int .u8 (a : Nat)] W fun e w' => e = .returned (.agg (cw q)) ∧ Below W.heap.size W w') := fun W =>
    (range_any a a W ha ha).mono fun e w' ⟨q', he, hk, hb⟩ => ⟨by rw [he, cw_ext q' q (fun i hi => by rw [hk i hi, hq i hi, show [a].length = 1 from rfl, ofF_one]; unfold rgF; rw [Bool.eq_iff_iff]; simp; omega)], hb⟩
  have D5 : Hid (∀ W, Calls Try.prog 23 #[.agg (cw q)] W fun e w' => e = .returned (.int .i64 1) ∧ Below W.heap.size W w') := fun W => by have := len_any q W; rw [cnt_one a ha q hq] at this; exact this
  have D6 : Hid (∀ W, Calls Try.prog 28 #[.int .i64 (a : Nat)] W fun e w' => e = .returned (.int .i64 (oth a : Nat)) ∧ W = w') := fun W => other_any a W ha
  have E1 := fun W => eqk_true q q (fun _ _ => rfl) W
  have f1 : ((a : Int) == (b : Int)) = decide (a = b) := by rw [Bool.eq_iff_iff, beq_iff_eq, decide_eq_true_eq]; omega
  have f2 : ((oth a : Int) == (b : Int)) = decide (oth a = b) := by rw [Bool.eq_iff_iff, beq_iff_eq, decide_eq_true_eq]; omega
  have f3 : (a == b) = decide (a = b) := by rw [Bool.eq_iff_iff, beq_iff_eq, decide_eq_true_eq]
  have f4 : (oth a == b) = decide (oth a = b) := by rw [Bool.eq_iff_iff, beq_iff_eq, decide_eq_true_eq]
  have oa : oth a < 256 := by unfold oth; split <;> (try split) <;> omega
  clear hq hr v1e v2e v3e
  unfold cw at P1 P2 B5 D1 D2 D3 D4 D5 E1 ⊢
  generalize oth a = o at *
  generalize decide (a = b) = v1 at *
  generalize decide (o = b) = v2 at *
  go_wp2_with fail
  generalize w3.alloc (.cells #[.int .u64 (uv (r 0)), .int .u64 (uv (r 1)), .int .u64 (uv (r 2)), .int .u64 (uv (r 3))] 26) = W0 at *
  generalize w2.heap.size = g1 at *
  generalize w3.heap.size = g2 at *
  have P1d : Hid (CB W0.drew g1 q) := P1.out
  have P2d : Hid (CB W0.drew g2 r) := P2.out
  have B5d : Hid (Below w.heap.size w W0.drew) := B5.out.drew
  have wa : IntKind.i64.wrap (a : Int) = (a : Int) := IntWalk.i64_in _ (by omega)
  have wb : IntKind.i64.wrap (b : Int) = (b : Int) := IntWalk.i64_in _ (by omega)
  cases v1
  · cases v2
    all_goals
      simp only [Bool.or_true, Bool.or_false] at D3
      go_region_held3 (fun w' => w'.cell? ⟨g1, 0, none⟩ = some (.int .u64 (uv (q 0))) ∧ w'.cell? ⟨g1, 1, none⟩ = some (.int .u64 (uv (q 1))) ∧ w'.cell? ⟨g1, 2, none⟩ = some (.int .u64 (uv (q 2))) ∧ w'.cell? ⟨g1, 3, none⟩ = some (.int .u64 (uv (q 3))) ∧ w'.cell? ⟨g2, 0, none⟩ = some (.int .u64 (uv (r 0))) ∧ w'.cell? ⟨g2, 1, none⟩ = some (.int .u64 (uv (r 1))) ∧ w'.cell? ⟨g2, 2, none⟩ = some (.int .u64 (uv (r 2))) ∧ w'.cell? ⟨g2, 3, none⟩ = some (.int .u64 (uv (r 3)))) (exact cb_keep2 (by assumption) (by assumption))
        (first | (go_at_call 14; first | ((with_reducible refine (D1.out _).mono ?_); rintro e wn ⟨rfl, hb⟩; have K1 := step_cb (g := g1) (q := q) (by assumption) hb; have K2 := step_cb (g := g2) (q := r) (by assumption) hb; have BB := step_below (w := w) (by assumption) hb; clear hb) | ((with_reducible refine (D2.out _).mono ?_); rintro e wn ⟨rfl, hb⟩; have K1 := step_cb (g := g1) (q := q) (by assumption) hb; have K2 := step_cb (g := g2) (q := r) (by assumption) hb; have BB := step_below (w := w) (by assumption) hb; clear hb) | ((with_reducible refine (D3.out _).mono ?_); rintro e wn ⟨rfl, hb⟩; have K1 := step_cb (g := g1) (q := q) (by assumption) hb; have K2 := step_cb (g := g2) (q := r) (by assumption) hb; have BB := step_below (w := w) (by assumption) hb; clear hb)) | (go_at_call 11; ((with_reducible refine (D4.out _).mono ?_); rintro e wn ⟨rfl, hb⟩; have K1 := step_cb (g := g1) (q := q) (by assumption) hb; have K2 := step_cb (g := g2) (q := r) (by assumption) hb; have BB := step_below (w := w) (by assumption) hb; clear hb)) | (go_at_call 23; ((with_reducible refine (D5.out _).mono ?_); rintro e wn ⟨rfl, hb⟩; have K1 := step_cb (g := g1) (q := q) (by assumption) hb; have K2 := step_cb (g := g2) (q := r) (by assumption) hb; have BB := step_below (w := w) (by assumption) hb; clear hb)) | (go_at_call 28; ((with_reducible refine (D6.out _).mono ?_); rintro e wn ⟨rfl, rfl⟩)))
      go_wp2_with fail
      go_ret
      exact ⟨rfl, BB.out⟩
  · simp only [Bool.true_or] at D3
    obtain ⟨_, _, _, _, _, _, _, _⟩ := cb_keep2 P1d P2d
    first
    | go_region_with (first | (go_at_call 14; first | ((with_reducible refine (D1.out _).mono ?_); rintro e wn ⟨rfl, hb⟩; have K1 := step_cb (g := g1) (q := q) (by assumption) hb; have K2 := step_cb (g := g2) (q := r) (by assumption) hb; have BB := step_below (w := w) (by assumption) hb; clear hb; obtain ⟨_, _, _, _, _, _, _, _⟩ := cb_keep2 K1 K2) | ((with_reducible refine (D2.out _).mono ?_); rintro e wn ⟨rfl, hb⟩; have K1 := step_cb (g := g1) (q := q) (by assumption) hb; have K2 := step_cb (g := g2) (q := r) (by assumption) hb; have BB := step_below (w := w) (by assumption) hb; clear hb; obtain ⟨_, _, _, _, _, _, _, _⟩ := cb_keep2 K1 K2) | ((with_reducible refine (D3.out _).mono ?_); rintro e wn ⟨rfl, hb⟩; have K1 := step_cb (g := g1) (q := q) (by assumption) hb; have K2 := step_cb (g := g2) (q := r) (by assumption) hb; have BB := step_below (w := w) (by assumption) hb; clear hb; obtain ⟨_, _, _, _, _, _, _, _⟩ := cb_keep2 K1 K2)) | (go_at_call 11; ((with_reducible refine (D4.out _).mono ?_); rintro e wn ⟨rfl, hb⟩; have K1 := step_cb (g := g1) (q := q) (by assumption) hb; have K2 := step_cb (g := g2) (q := r) (by assumption) hb; have BB := step_below (w := w) (by assumption) hb; clear hb; obtain ⟨_, _, _, _, _, _, _, _⟩ := cb_keep2 K1 K2)) | (go_at_call 23; ((with_reducible refine (D5.out _).mono ?_); rintro e wn ⟨rfl, hb⟩; have K1 := step_cb (g := g1) (q := q) (by assumption) hb; have K2 := step_cb (g := g2) (q := r) (by assumption) hb; have BB := step_below (w := w) (by assumption) hb; clear hb; obtain ⟨_, _, _, _, _, _, _, _⟩ := cb_keep2 K1 K2)) | (go_at_call 28; ((with_reducible refine (D6.out _).mono ?_); rintro e wn ⟨rfl, rfl⟩)))
    | fail "the region"
    all_goals
      go_wp2
      go_ret
      exact ⟨rfl, BB.out⟩
end Go.Proofs.Ytodcnpjhkkifcaa
