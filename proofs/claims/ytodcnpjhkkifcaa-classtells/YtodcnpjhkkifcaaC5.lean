/- Walks over the class package: Fold. -/
import Derived.Test.YtodcnpjhkkifcaaC4
namespace Go.Proofs.Ytodcnpjhkkifcaa
open Go.RowKit

theorem pt0 (a0 a1 a2 a3 : Int) (w : World) : (part 24 #[.int .u64 a0, .int .u64 a1, .int .u64 a2, .int .u64 a3] 0).run Try.prog w = .ok (.int .u64 a0) w := by kernel_rfl
theorem pt1 (a0 a1 a2 a3 : Int) (w : World) : (part 24 #[.int .u64 a0, .int .u64 a1, .int .u64 a2, .int .u64 a3] 1).run Try.prog w = .ok (.int .u64 a1) w := by kernel_rfl
theorem pt2 (a0 a1 a2 a3 : Int) (w : World) : (part 24 #[.int .u64 a0, .int .u64 a1, .int .u64 a2, .int .u64 a3] 2).run Try.prog w = .ok (.int .u64 a2) w := by kernel_rfl
theorem pt3 (a0 a1 a2 a3 : Int) (w : World) : (part 24 #[.int .u64 a0, .int .u64 a1, .int .u64 a2, .int .u64 a3] 3).run Try.prog w = .ok (.int .u64 a3) w := by kernel_rfl
theorem sz24 (w : World) : (sizeOf 24).run Try.prog w = .ok 1 w := by kernel_rfl
theorem eq_arr (d : Nat) (a0 a1 a2 a3 b0 b1 b2 b3 : Int) (w : World) : (Op.equalIn (d + 1 + 1) 26 (.agg #[.int .u64 a0, .int .u64 a1, .int .u64 a2, .int .u64 a3]) (.agg #[.int .u64 b0, .int .u64 b1, .int .u64 b2, .int .u64 b3])).run Try.prog w
    = .ok ((a0 == b0) && ((a1 == b1) && ((a2 == b2) && (a3 == b3)))) w := by
  have e : ∀ (a b : Int) (w : World), (Op.equalIn (d + 1) 24 (.int .u64 a) (.int .u64 b)).run Try.prog w = .ok (a == b) w := fun a b w => run_equalIn_int (P := Try.prog) w d 24 .u64 .u64 a b Try.underlying24
  rw [Op.equalIn]
  generalize d + 1 = d1 at *
  simp only [Sem.run_bind, run_underlying Try.underlying26, Result.andThen_ok, sz24, Std.Legacy.Range.forIn_eq_forIn_range', Std.Legacy.Range.size, List.range', List.forIn_cons, List.forIn_nil, Nat.mul_one, Nat.reduceAdd, pt0, pt1, pt2, pt3, e]
  generalize (a0 == b0) = c0
  cases c0
  · simp [Sem.run_pure, Result.andThen]
  · simp only [Bool.not_true, Bool.false_eq_true, if_false, Sem.run_pure, Result.andThen_ok, Sem.run_bind, pt1, e, Bool.true_and]
    generalize (a1 == b1) = c1
    cases c1
    · simp [Sem.run_pure, Result.andThen]
    · simp only [Bool.not_true, Bool.false_eq_true, if_false, Sem.run_pure, Result.andThen_ok, Sem.run_bind, pt2, e, Bool.true_and]
      generalize (a2 == b2) = c2
      cases c2
      · simp [Sem.run_pure, Result.andThen]
      · simp only [Bool.not_true, Bool.false_eq_true, if_false, Sem.run_pure, Result.andThen_ok, Sem.run_bind, pt3, e, Bool.true_and]
        generalize (a3 == b3) = c3
        cases c3 <;> simp [Sem.run_pure, Result.andThen]

theorem eqk_run (q r : Nat → BitVec 64) (w : World) : (Op.equalIn 10000 26 (.agg (cw q)) (.agg (cw r))).run Try.prog w
    = .ok ((uv (q 0) == uv (r 0)) && ((uv (q 1) == uv (r 1)) && ((uv (q 2) == uv (r 2)) && (uv (q 3) == uv (r 3))))) w :=
  eq_arr 9998 _ _ _ _ _ _ _ _ w
theorem uv_inj (x y : BitVec 64) (h : uv x = uv y) : x = y := by
  unfold uv at h
  exact BitVec.eq_of_toNat_eq (by omega)
theorem eqk_true (q r : Nat → BitVec 64) (h : ∀ i, i < 256 → kb q i = kb r i) (w : World) : (Op.equalIn 10000 26 (.agg (cw q)) (.agg (cw r))).run Try.prog w = .ok true w := by
  rw [eqk_run, word_ext q r h 0 (by omega), word_ext q r h 1 (by omega), word_ext q r h 2 (by omega), word_ext q r h 3 (by omega)]
  simp
theorem eqk_false (q r : Nat → BitVec 64) (i : Nat) (hi : i < 256) (h : kb q i ≠ kb r i) (w : World) : (Op.equalIn 10000 26 (.agg (cw q)) (.agg (cw r))).run Try.prog w = .ok false w := by
  rw [eqk_run]
  congr 1
  apply Bool.eq_false_iff.2
  intro hb
  simp only [Bool.and_eq_true, beq_iff_eq] at hb
  apply h
  have hj : i / 64 < 4 := by omega
  have e : q (i / 64) = r (i / 64) := by
    rcases (show i / 64 = 0 ∨ i / 64 = 1 ∨ i / 64 = 2 ∨ i / 64 = 3 by omega) with e | e | e | e <;> rw [e]
    · exact uv_inj _ _ hb.1
    · exact uv_inj _ _ hb.2.1
    · exact uv_inj _ _ hb.2.2.1
    · exact uv_inj _ _ hb.2.2.2
  unfold kb; rw [e]

theorem CB.set4 {w : World} {g : Nat} {q : Nat → BitVec 64} (h : CB w g q) (r : Nat → BitVec 64) :
    CB ((((w.setCell ⟨g, 0, none⟩ (.int .u64 (uv (r 0)))).setCell ⟨g, 1, none⟩ (.int .u64 (uv (r 1)))).setCell ⟨g, 2, none⟩ (.int .u64 (uv (r 2)))).setCell ⟨g, 3, none⟩ (.int .u64 (uv (r 3)))) g r :=
  ((((h.set_ 0 (by omega) (r 0)).set_ 1 (by omega) (r 1)).set_ 2 (by omega) (r 2)).set_ 3 (by omega) (r 3)).congr fun j hj => by
    rcases (show j = 0 ∨ j = 1 ∨ j = 2 ∨ j = 3 by omega) with rfl | rfl | rfl | rfl <;> simp
theorem CB.far4 {w : World} {g g' : Nat} {q : Nat → BitVec 64} (h : CB w g q) (hg : g ≠ g') (a b c d : Value) :
    CB ((((w.setCell ⟨g', 0, none⟩ a).setCell ⟨g', 1, none⟩ b).setCell ⟨g', 2, none⟩ c).setCell ⟨g', 3, none⟩ d) g q :=
  (((h.far hg _).far hg _).far hg _).far hg _

/-- the folded class behind the first k letters -/
def foldF (q : Nat → BitVec 64) (k i : Nat) : Bool := kb q i || (decide (65 ≤ i ∧ i < 65 + k) && kb q (i + 32)) || (decide (97 ≤ i ∧ i < 97 + k) && kb q (i - 32))

theorem ofF_two (x y i : Nat) : ofF [x, y] 2 i = (decide (i = x) || decide (i = y)) := by
  unfold ofF
  rw [Bool.eq_iff_iff]
  simp only [Bool.or_eq_true, decide_eq_true_eq]
  constructor
  · rintro ⟨j, hj, e⟩
    match j, hj with
    | 0, _ => exact Or.inl e.symm
    | 1, _ => exact Or.inr e.symm
  · rintro (e | e)
    · exact ⟨0, by omega, e.symm⟩
    · exact ⟨1, by omega, e.symm⟩
theorem kb_and (q r : Nat → BitVec 64) (i : Nat) : kb (fun j => q j &&& r j) i = (kb q i && kb r i) := by simp [kb]
theorem kb_or (q r : Nat → BitVec 64) (i : Nat) : kb (fun j => q j ||| r j) i = (kb q i || kb r i) := by simp [kb]
theorem kb_zero (i : Nat) : kb (fun _ => 0#64) i = false := by simp [kb]
theorem kb_not (q : Nat → BitVec 64) (i : Nat) : kb (fun j => ~~~q j) i = !kb q i := by
  have : i % 64 < 64 := Nat.mod_lt _ (by omega)
  simp [kb, this]
/-- the letter 65 + k isn't there in either case -/
theorem fold_skip (q q2 : Nat → BitVec 64) (k : Nat) (h : IsK (foldF q k) q2) (h1 : kb q (65 + k) = false) (h2 : kb q (65 + k + 32) = false) : IsK (foldF q (k + 1)) q2 := by
  intro i hi
  rw [h i hi]
  unfold foldF
  by_cases e1 : i = 65 + k
  · subst e1; rw [h2]; simp only [Bool.and_false, Bool.or_false]
    congr 2; rw [Bool.eq_iff_iff]; simp; omega
  · by_cases e2 : i = 97 + k
    · subst e2
      rw [show 97 + k - 32 = 65 + k by omega, h1]; simp only [Bool.and_false, Bool.or_false]
      congr 2; rw [Bool.eq_iff_iff]; simp; omega
    · congr 2
      · congr 1; rw [Bool.eq_iff_iff]; simp; omega
      · rw [Bool.eq_iff_iff]; simp; omega
theorem fold_take (q q2 q1 : Nat → BitVec 64) (k : Nat) (h : IsK (foldF q k) q2) (h3 : IsK (ofF [65 + k, 65 + k + 32] 2) q1) (h1 : kb q (65 + k) = true ∨ kb q (65 + k + 32) = true) : IsK (foldF q (k + 1)) (fun j => q2 j ||| q1 j) := by
  intro i hi
  rw [kb_or, h i hi, h3 i hi, ofF_two]
  unfold foldF
  by_cases e1 : i = 65 + k
  · subst e1
    rw [decide_eq_true (show 65 ≤ 65 + k ∧ 65 + k < 65 + (k + 1) by omega)]
    rcases h1 with h1 | h1 <;> simp [h1]
  · by_cases e2 : i = 65 + k + 32
    · subst e2
      rw [decide_eq_true (show 97 ≤ 65 + k + 32 ∧ 65 + k + 32 < 97 + (k + 1) by omega), show 65 + k + 32 - 32 = 65 + k by omega]
      rcases h1 with h1 | h1 <;> simp [h1]
    · rw [decide_eq_false e1, decide_eq_false e2, Bool.or_false, Bool.or_false]
      congr 2
      · congr 1; rw [Bool.eq_iff_iff]; simp; omega
      · rw [Bool.eq_iff_iff]; simp; omega

theorem bts_two (w : World) (x y : Nat) (hx : x < 256) (hy : y < 256) : Bts (w.alloc (.cells #[.int .u8 (x : Int), .int .u8 (y : Int)] 5)) (some ⟨w.heap.size, 0, none⟩) [x, y] := by
  refine ⟨fun j => ?_, fun _ => ⟨w.heap.size, 0, rfl, by simp, fun j hj => ?_⟩⟩
  · match j with
    | 0 => exact hx
    | 1 => exact hy
    | j + 2 => simp [bn]
  · have hh := cell_of_row (w.alloc (.cells #[.int .u8 (x : Int), .int .u8 (y : Int)] 5)) w.heap.size j #[.int .u8 (x : Int), .int .u8 (y : Int)] 5 (0, 0) (heap_alloc_new w _)
    rw [Nat.zero_add, hh]
    match j, hj with
    | 0, _ => rfl
    | 1, _ => rfl

set_option maxRecDepth 100000 in
set_option maxHeartbeats 1000000 in
theorem fold_any (q : Nat → BitVec 64) (w : World) : Calls Try.prog 26 #[.agg (cw q)] w (GivesK w (foldF q 26)) := by
  have h1 := ((CB.new w q).alloc (.cells #[.int .u64 0, .int .u64 0, .int .u64 0, .int .u64 0] 26)).alloc (.cells (cw q) 26)
  have h2 : CB (((w.alloc (.cells (cw q) 26)).alloc (.cells #[.int .u64 0, .int .u64 0, .int .u64 0, .int .u64 0] 26)).alloc (.cells (cw q) 26)) (w.heap.size + 1) (fun _ => 0#64) := by
    have := (CB.new (w.alloc (.cells (cw q) 26)) (fun _ => 0#64)).alloc (.cells (cw q) 26)
    rw [World.size_alloc] at this; exact this
  have h3 : CB (((w.alloc (.cells (cw q) 26)).alloc (.cells #[.int .u64 0, .int .u64 0, .int .u64 0, .int .u64 0] 26)).alloc (.cells (cw q) 26)) (w.heap.size + 1 + 1) q := by
    have := CB.new ((w.alloc (.cells (cw q) 26)).alloc (.cells #[.int .u64 0, .int .u64 0, .int .u64 0, .int .u64 0] 26)) q
    rw [World.size_alloc, World.size_alloc] at this; exact this
  have hb : Below w.heap.size w (((w.alloc (.cells (cw q) 26)).alloc (.cells #[.int .u64 0, .int .u64 0, .int .u64 0, .int .u64 0] 26)).alloc (.cells (cw q) 26)) :=
    (((Below.refl _ _).alloc (Nat.le_refl _) _).alloc (by simp) _).alloc (by simp; omega) _
  unfold cw at h1 h2 h3 hb ⊢
  have H1 := Lib.hid h1; have H2 := Lib.hid h2; have H3 := Lib.hid h3; have HB := Lib.hid hb
  clear h1 h2 h3 hb
  go_enter Try.func26, Try.ntmps26
  go_wp2_with fail
  go_loopw [4] (fun i wr => ∃ (k : Nat) (q2 : Nat → BitVec 64), k ≤ 26 ∧ i = .int .u8 ((65 + k : Nat) : Int) ∧ CB wr w.heap.size q ∧ CB wr (w.heap.size + 1) (fun _ => 0#64) ∧ CB wr (w.heap.size + 1 + 1) q2 ∧ IsK (foldF q k) q2 ∧ Below w.heap.size w wr) (fun i _ => 91 - (intOf i).toNat)
  case atStart => exact ⟨0, q, by omega, rfl, H1.out, H2.out, H3.out, fun i _ => by unfold foldF; rw [decide_eq_false (by omega), decide_eq_false (by omega)]; simp, HB.out⟩
  case round =>
    obtain ⟨k, q2, hk, rfl, h1, h2, h3, hi, hb⟩ := hrel
    clear H1 H2 H3 HB
    have H1 := Lib.hid h1; have H2 := Lib.hid h2; have H3 := Lib.hid h3; have HB := Lib.hid hb; have HI := Lib.hid hi
    obtain ⟨b, hbk⟩ : ∃ b : Nat, b = 65 + k := ⟨_, rfl⟩
    rw [← hbk]
    have HBK := Lib.hid hbk
    by_cases hlt : k < 26
    · have b0 : b ≤ 90 := by omega
      have b1 : 65 ≤ b := by omega
      clear h1 h2 h3 hb hi hbk
      have HO := Lib.hid (of_any (some ⟨wr.heap.size, 0, none⟩) 2 [b, b + 32] _ (bts_two wr b (b + 32) (by omega) (by omega)) (by simp))
      rw [show (((b + 32 : Nat)) : Int) = (b : Int) + 32 by omega] at HO
      have e32 : ((b : Int) + 32) % 256 = (b : Int) + 32 := by omega
      go_wp2_with fail
      refine HO.out.mono ?_
      rintro e w2 ⟨q1, rfl, hq1, hb2⟩
      have hb2' := ((Below.refl wr.heap.size wr).alloc (Nat.le_refl _) (.cells #[.int .u8 (b : Int), .int .u8 ((b : Int) + 32)] 5)).trans (hb2.mono (by simp))
      have G1 := Lib.hid (H1.out.below hb2' H1.out.lt); have G2 := Lib.hid (H2.out.below hb2' H2.out.lt); have G3 := Lib.hid (H3.out.below hb2' H3.out.lt)
      have GB := Lib.hid (HB.out.trans (hb2'.mono HB.out.size)); have HQ1 : Hid (IsK (ofF [b, b + 32] 2) q1) := hq1
      clear hb2 hb2' hq1 HO H1 H2 H3 HB e32
      unfold cw
      -- the pair's block
      have h1 := (G1.out.alloc (.cells (cw q1) 26)); have h2 := (G2.out.alloc (.cells (cw q1) 26)); have h3 := (G3.out.alloc (.cells (cw q1) 26)); have h4 := CB.new w2 q1
      have hb := GB.out.alloc (GB.out.size) (.cells (cw q1) 26)
      have a0 := h1.cell 0 (by omega); have a1 := h1.cell 1 (by omega); have a2 := h1.cell 2 (by omega); have a3 := h1.cell 3 (by omega)
      unfold cw at h1 h2 h3 h4 hb a0 a1 a2 a3
      have H1 := Lib.hid h1; have H2 := Lib.hid h2; have H3 := Lib.hid h3; have H4 := Lib.hid h4; have HB := Lib.hid hb
      clear h1 h2 h3 h4 hb
      have HAN := Lib.hid (and_any q q1 (w2.alloc (.cells #[.int .u64 (uv (q1 0)), .int .u64 (uv (q1 1)), .int .u64 (uv (q1 2)), .int .u64 (uv (q1 3))] 26)))
      unfold cw at HAN
      go_wp2_with fail
      refine HAN.out.mono ?_
      rintro e w3 ⟨rfl, hb3⟩
      have J1 := Lib.hid (H1.out.below hb3 H1.out.lt); have J2 := Lib.hid (H2.out.below hb3 H2.out.lt); have J3 := Lib.hid (H3.out.below hb3 H3.out.lt); have J4 := Lib.hid (H4.out.below hb3 H4.out.lt)
      have JB := Lib.hid (HB.out.trans (hb3.mono HB.out.size))
      clear hb3 H1 H2 H3 H4 HB HAN a0 a1 a2 a3 G1 G2 G3 GB
      have hbs := JB.out.size
      cases hc : (kb q b || kb q (b + 32)) with
      | false =>
        simp only [Bool.or_eq_false_iff] at hc
        have hne := eqk_true (fun j => q j &&& q1 j) (fun _ => 0#64) (fun i hi => by
          rw [kb_and, kb_zero, HQ1.out i hi, ofF_two]
          by_cases e1 : i = b
          · subst e1; rw [hc.1]; rfl
          · by_cases e2 : i = b + 32
            · subst e2; rw [hc.2]; rfl
            · rw [decide_eq_false e1, decide_eq_false e2]; simp)
        have HSK := Lib.hid (fold_skip q q2 k HI.out (by rw [← HBK.out]; exact hc.1) (by rw [← HBK.out]; exact hc.2))
        have hne' : ∀ w', (Op.equalIn 10000 26 (.agg (cw fun j => q j &&& q1 j)) (.agg #[.int .u64 0, .int .u64 0, .int .u64 0, .int .u64 0])).run Try.prog w' = .ok true w' := hne
        clear hne hc
        go_wp2
        go_roundw
        case rel => exact ⟨k + 1, q2, by omega, by rw [HBK.out]; go_num, J1.out, J2.out, J3.out, HSK.out, JB.out⟩
        case measure => simp [intOf]; omega
      | true =>
        have hc' : kb q b = true ∨ kb q (b + 32) = true := by simpa using hc
        have hne' : ∀ w', (Op.equalIn 10000 26 (.agg (cw fun j => q j &&& q1 j)) (.agg #[.int .u64 0, .int .u64 0, .int .u64 0, .int .u64 0])).run Try.prog w' = .ok false w' := by
          rcases hc' with h | h
          · exact eqk_false (fun j => q j &&& q1 j) (fun _ => 0#64) b (by omega) (by rw [kb_and, kb_zero, HQ1.out b (by omega), ofF_two, h]; simp)
          · exact eqk_false (fun j => q j &&& q1 j) (fun _ => 0#64) (b + 32) (by omega) (by rw [kb_and, kb_zero, HQ1.out _ (by omega), ofF_two, h]; simp)
        have HTK := Lib.hid (fold_take q q2 q1 k HI.out (by rw [← HBK.out]; exact HQ1.out) (by rw [← HBK.out]; exact hc'))
        have a0 := J3.out.cell 0 (by omega); have a1 := J3.out.cell 1 (by omega); have a2 := J3.out.cell 2 (by omega); have a3 := J3.out.cell 3 (by omega)
        have b0 := J4.out.cell 0 (by omega); have b1 := J4.out.cell 1 (by omega); have b2 := J4.out.cell 2 (by omega); have b3 := J4.out.cell 3 (by omega)
        have HOR := Lib.hid (or_any q2 q1 w3)
        unfold cw at HOR
        clear hc hc'
        go_wp2_with fail
        refine HOR.out.mono ?_
        rintro e w4 ⟨rfl, hb4⟩
        have L1 := Lib.hid (J1.out.below hb4 J1.out.lt); have L2 := Lib.hid (J2.out.below hb4 J2.out.lt); have L3 := Lib.hid (J3.out.below hb4 J3.out.lt)
        have LB := Lib.hid (JB.out.trans (hb4.mono hbs))
        clear hb4 HOR a0 a1 a2 a3 b0 b1 b2 b3 hne'
        have a0 := L3.out.cell 0 (by omega); have a1 := L3.out.cell 1 (by omega); have a2 := L3.out.cell 2 (by omega); have a3 := L3.out.cell 3 (by omega)
        have z0 := L3.out.frozen 0; have z1 := L3.out.frozen 1; have z2 := L3.out.frozen 2; have z3 := L3.out.frozen 3
        clear J1 J2 J3 J4 JB
        unfold cw
        go_wp2
        go_roundw
        case rel =>
          refine ⟨k + 1, fun j => q2 j ||| q1 j, by omega, by rw [HBK.out]; go_num, ?_, ?_, ?_, HTK.out, ?_⟩
          · exact CB.far4 (g' := w.heap.size + 1 + 1) L1.out (by omega) _ _ _ _
          · exact CB.far4 (g' := w.heap.size + 1 + 1) L2.out (by omega) _ _ _ _
          · exact L3.out.set4 (fun j => q2 j ||| q1 j)
          · exact ends4 (g := w.heap.size + 1 + 1) LB.out (by omega) _ _ _ _
        case measure => simp [intOf]; omega
    · obtain rfl : k = 26 := by omega
      have a0 := h3.cell 0 (by omega); have a1 := h3.cell 1 (by omega); have a2 := h3.cell 2 (by omega); have a3 := h3.cell 3 (by omega)
      have b0 := h2.cell 0 (by omega); have b1 := h2.cell 1 (by omega); have b2 := h2.cell 2 (by omega); have b3 := h2.cell 3 (by omega)
      have z0 := h2.frozen 0; have z1 := h2.frozen 1; have z2 := h2.frozen 2; have z3 := h2.frozen 3
      have hb90 : 90 < b := by omega
      clear h1 h2 h3 hb hi hbk
      go_wp2
      exact bodyPost_ret (v := .agg (cw q2)) (by simp [results, Try.results26, go_sem, cw, a0, a1, a2, a3, b0, b1, b2, b3]) rfl ⟨q2, rfl, HI.out, ends4 HB.out (by omega) _ _ _ _⟩
end Go.Proofs.Ytodcnpjhkkifcaa
