/- The runs of a class cover just its bytes. -/
import Derived.Test.YtodcnpjhkkifcaaC7
namespace Go.Proofs.Ytodcnpjhkkifcaa
open Go.RowKit

theorem pr_snoc (rs : List (Nat × Nat)) (v : Nat × Nat) (j : Nat) : pr (rs ++ [v]) j = if j < rs.length then pr rs j else if j = rs.length then v else (0, 0) := by
  unfold pr
  by_cases h : j < rs.length
  · rw [if_pos h, List.getD, List.getD, List.getElem?_append_left h]
  · rw [if_neg h, List.getD, List.getElem?_append_right (by omega)]
    by_cases e : j = rs.length
    · subst e; simp
    · rw [if_neg e, List.getElem?_eq_none (by simp; omega)]; rfl
theorem pr_set (rs : List (Nat × Nat)) (v : Nat × Nat) (n j : Nat) (hn : n < rs.length) : pr (rs.set n v) j = if j = n then v else pr rs j := by
  unfold pr
  rw [List.getD, List.getD, List.getElem?_set]
  by_cases e : n = j
  · subst e; simp [hn]
  · have e' : ¬ j = n := fun h => e h.symm
    simp [e, e']

/-- the byte i is in one of the first k runs -/
def cov (rs : List (Nat × Nat)) (k i : Nat) : Prop := ∃ j, j < k ∧ (pr rs j).1 ≤ i ∧ i ≤ (pr rs j).2
instance (rs : List (Nat × Nat)) (k i : Nat) : Decidable (cov rs k i) := by unfold cov; infer_instance

theorem runs_inv (l : List Nat) (hl : ∀ j, 0 < j → j < l.length → bn l (j - 1) < bn l j) (h256 : ∀ j, bn l j < 256) : ∀ k, k ≤ l.length →
    (∀ i, cov (runsK l k) (runsK l k).length i ↔ ∃ j, j < k ∧ bn l j = i) ∧
    (0 < (runsK l k).length → 0 < k ∧ (pr (runsK l k) ((runsK l k).length - 1)).2 = bn l (k - 1) ∧ (pr (runsK l k) ((runsK l k).length - 1)).1 ≤ (pr (runsK l k) ((runsK l k).length - 1)).2) ∧
    (∀ j, (pr (runsK l k) j).1 < 256 ∧ (pr (runsK l k) j).2 < 256)
  | 0, _ => by
    refine ⟨fun i => ⟨?_, ?_⟩, fun h => by simp [runsK] at h, fun j => by simp [runsK, pr]⟩
    · rintro ⟨j, hj, _⟩; simp [runsK] at hj
    · rintro ⟨j, hj, _⟩; omega
  | k + 1, hk => by
    obtain ⟨hA, hB, hC⟩ := runs_inv l hl h256 k (by omega)
    have hx : ∀ i, (∃ j, j < k + 1 ∧ bn l j = i) ↔ (∃ j, j < k ∧ bn l j = i) ∨ i = bn l k := fun i => by
      constructor
      · rintro ⟨j, hj, e⟩
        by_cases e2 : j = k
        · subst e2; exact Or.inr e.symm
        · exact Or.inl ⟨j, by omega, e⟩
      · rintro (⟨j, hj, e⟩ | e)
        · exact ⟨j, by omega, e⟩
        · exact ⟨k, by omega, e.symm⟩
    have hb := h256 k
    show (∀ i, cov (stepR (runsK l k) (bn l k)) (stepR (runsK l k) (bn l k)).length i ↔ _) ∧ _
    rw [show runsK l (k + 1) = stepR (runsK l k) (bn l k) from rfl]
    generalize runsK l k = rs at hA hB hC ⊢
    unfold stepR
    by_cases hc : 0 < rs.length ∧ (pr rs (rs.length - 1)).2 = (bn l k + 255) % 256
    · rw [if_pos hc]
      obtain ⟨h0, h1⟩ := hc
      obtain ⟨k0, e1, e2⟩ := hB h0
      have hm := hl k k0 (by omega)
      have hlo : (pr rs (rs.length - 1)).1 ≤ bn l k := by omega
      have hhi : (pr rs (rs.length - 1)).2 + 1 = bn l k := by omega
      refine ⟨fun i => ?_, fun _ => ?_, fun j => ?_⟩
      · rw [hx, ← hA]
        unfold cov
        rw [List.length_set]
        constructor
        · rintro ⟨j, hj, h⟩
          rw [pr_set _ _ _ _ (by omega)] at h
          by_cases e : j = rs.length - 1
          · rw [if_pos e] at h
            by_cases e3 : i = bn l k
            · exact Or.inr e3
            · refine Or.inl ⟨rs.length - 1, by omega, h.1, ?_⟩
              have := h.2; simp only at this; omega
          · rw [if_neg e] at h; exact Or.inl ⟨j, hj, h⟩
        · rintro (⟨j, hj, h⟩ | e)
          · refine ⟨j, hj, ?_⟩
            rw [pr_set _ _ _ _ (by omega)]
            by_cases e : j = rs.length - 1
            · rw [if_pos e]; subst e; exact ⟨h.1, by have := h.2; simp only; omega⟩
            · rw [if_neg e]; exact h
          · refine ⟨rs.length - 1, by omega, ?_⟩
            rw [pr_set _ _ _ _ (by omega), if_pos rfl]
            exact ⟨by simp only; omega, by simp only; omega⟩
      · rw [List.length_set, pr_set _ _ _ _ (by omega), if_pos rfl]
        exact ⟨by omega, by simp, hlo⟩
      · rw [pr_set _ _ _ _ (by omega)]
        split
        · exact ⟨(hC _).1, hb⟩
        · exact hC j
    · rw [if_neg hc]
      refine ⟨fun i => ?_, fun _ => ?_, fun j => ?_⟩
      · rw [hx, ← hA]
        unfold cov
        rw [List.length_append, List.length_singleton]
        constructor
        · rintro ⟨j, hj, h⟩
          rw [pr_snoc] at h
          by_cases e : j < rs.length
          · rw [if_pos e] at h; exact Or.inl ⟨j, e, h⟩
          · rw [if_neg e, if_pos (by omega)] at h
            refine Or.inr ?_
            have h1 := h.1; have h2 := h.2; simp only at h1 h2; omega
        · rintro (⟨j, hj, h⟩ | e)
          · exact ⟨j, by omega, by rw [pr_snoc, if_pos hj]; exact h⟩
          · refine ⟨rs.length, by omega, ?_⟩
            rw [pr_snoc, if_neg (by omega), if_pos rfl]
            exact ⟨by simp only; omega, by simp only; omega⟩
      · rw [List.length_append, List.length_singleton, Nat.add_sub_cancel, pr_snoc, if_neg (by omega), if_pos rfl]
        exact ⟨by omega, by simp, Nat.le_refl _⟩
      · rw [pr_snoc]
        split
        · exact hC j
        · split
          · exact ⟨hb, hb⟩
          · exact ⟨by simp, by simp⟩

theorem byl_up (q : Nat → BitVec 64) (j : Nat) (h0 : 0 < j) (hj : j < (byl q 256).length) : bn (byl q 256) (j - 1) < bn (byl q 256) j := by
  have hs : (byl q 256).Pairwise (· < ·) := List.Pairwise.filter _ List.pairwise_lt_range
  unfold bn
  rw [List.getD, List.getD, List.getElem?_eq_getElem hj, List.getElem?_eq_getElem (by omega)]
  exact List.pairwise_iff_getElem.1 hs (j - 1) j (by omega) hj (by omega)
theorem byl_mem (q : Nat → BitVec 64) (i : Nat) (hi : i < 256) : (∃ j, j < (byl q 256).length ∧ bn (byl q 256) j = i) ↔ kb q i = true := by
  have h1 : i ∈ byl q 256 ↔ kb q i = true := by unfold byl; simp [hi]
  rw [← h1, List.mem_iff_getElem]
  constructor
  · rintro ⟨j, hj, e⟩
    refine ⟨j, hj, ?_⟩
    unfold bn at e
    rw [List.getD, List.getElem?_eq_getElem hj] at e
    exact e
  · rintro ⟨j, hj, e⟩
    refine ⟨j, hj, ?_⟩
    unfold bn
    rw [List.getD, List.getElem?_eq_getElem hj]
    exact e
/-- the runs of a class -/
def rq (q : Nat → BitVec 64) : List (Nat × Nat) := runsK (byl q 256) (byl q 256).length
theorem rq_cov (q : Nat → BitVec 64) (i : Nat) (hi : i < 256) : decide (cov (rq q) (rq q).length i) = kb q i := by
  have h := (runs_inv (byl q 256) (fun j h0 hj => byl_up q j h0 hj) (fun j => byl_lt q 256 (by omega) j) _ (Nat.le_refl _)).1 i
  rw [Bool.eq_iff_iff, decide_eq_true_eq]
  exact h.trans (byl_mem q i hi)
theorem rq_lt (q : Nat → BitVec 64) (j : Nat) : (pr (rq q) j).1 < 256 ∧ (pr (rq q) j).2 < 256 :=
  (runs_inv (byl q 256) (fun j h0 hj => byl_up q j h0 hj) (fun j => byl_lt q 256 (by omega) j) _ (Nat.le_refl _)).2.2 j
theorem rq_le (q : Nat → BitVec 64) : (rq q).length ≤ 256 := Nat.le_trans (len_runsK _ _) (byl_le q 256)
theorem cov_succ (rs : List (Nat × Nat)) (k i : Nat) : decide (cov rs (k + 1) i) = (decide (cov rs k i) || rgF (pr rs k).1 (pr rs k).2 i) := by
  unfold rgF
  rw [Bool.eq_iff_iff]
  simp only [Bool.or_eq_true, decide_eq_true_eq]
  unfold cov
  constructor
  · rintro ⟨j, hj, h⟩
    by_cases e : j = k
    · subst e; exact Or.inr h
    · exact Or.inl ⟨j, by omega, h⟩
  · rintro (⟨j, hj, h⟩ | h)
    · exact ⟨j, by omega, h⟩
    · exact ⟨k, by omega, h⟩

theorem fold_twice (q F : Nat → BitVec 64) (h : IsK (foldF q 26) F) (i : Nat) (hi : i < 256) : foldF F 26 i = kb F i := by
  unfold foldF
  by_cases h1 : 65 ≤ i ∧ i < 65 + 26
  · rw [decide_eq_true h1, decide_eq_false (by omega : ¬ (97 ≤ i ∧ i < 97 + 26)), h i hi, h (i + 32) (by omega)]
    unfold foldF
    rw [decide_eq_true h1, decide_eq_false (by omega : ¬ (97 ≤ i ∧ i < 97 + 26)), decide_eq_false (by omega : ¬ (65 ≤ i + 32 ∧ i + 32 < 65 + 26)), decide_eq_true (by omega : 97 ≤ i + 32 ∧ i + 32 < 97 + 26), Nat.add_sub_cancel]
    cases kb q i <;> cases kb q (i + 32) <;> rfl
  · by_cases h2 : 97 ≤ i ∧ i < 97 + 26
    · rw [decide_eq_false h1, decide_eq_true h2, h i hi, h (i - 32) (by omega)]
      unfold foldF
      rw [decide_eq_false h1, decide_eq_true h2, decide_eq_true (by omega : 65 ≤ i - 32 ∧ i - 32 < 65 + 26), decide_eq_false (by omega : ¬ (97 ≤ i - 32 ∧ i - 32 < 97 + 26)), show i - 32 + 32 = i by omega]
      cases kb q i <;> cases kb q (i - 32) <;> rfl
    · rw [decide_eq_false h1, decide_eq_false h2]; simp
theorem fold_more (q F : Nat → BitVec 64) (h : IsK (foldF q 26) F) (i : Nat) (hi : i < 256) : (kb F i || kb q i) = kb F i := by
  rw [h i hi]; unfold foldF; cases kb q i <;> simp
theorem cnt_full (q : Nat → BitVec 64) : cntK (fun j => q j ||| ~~~q j) = 256 := by
  unfold cntK
  rw [List.countP_eq_length.2 (fun i _ => by rw [kb_or q (fun j => ~~~q j), kb_not]; simp)]
  simp
theorem of_q (q : Nat → BitVec 64) (A : Option Addr) (c : Nat) (W : World) (h : Hid (Bts W A (byl q 256))) :
    Calls Try.prog 10 #[.slice A (byl q 256).length c] W fun e w' => e = .returned (.agg (cw q)) ∧ Below W.heap.size W w' :=
  (of_any A c (byl q 256) W h.out (by have := byl_le q 256; omega)).mono fun e w' ⟨q', he, hk, hb⟩ => ⟨by
    rw [he, cw_ext q' q (fun i hi => by
      rw [hk i hi, Bool.eq_iff_iff]
      unfold ofF
      rw [decide_eq_true_eq]
      exact byl_mem q i hi)], hb⟩
end Go.Proofs.Ytodcnpjhkkifcaa
