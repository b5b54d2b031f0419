/- What a counter that was armed at some moments means: pure. -/
import Derived.Test.YtcognpfihojphaaA1
namespace Go.Proofs.Ytcognpfihojphaa

def allF (h : Nat → Bool) (i j : Nat) : Bool := (List.range (j - i)).all fun d => h (i + d)
theorem allF_iff (h : Nat → Bool) (i j : Nat) : allF h i j = true ↔ ∀ k, i ≤ k → k < j → h k = true := by
  unfold allF
  simp only [List.all_eq_true, List.mem_range]
  constructor
  · intro H k h1 h2
    have := H (k - i) (by omega)
    rwa [show i + (k - i) = k by omega] at this
  · intro H d hd; exact H _ (by omega) (by omega)
theorem allF_self (h : Nat → Bool) (i : Nat) : allF h i i = true := by rw [allF_iff]; intro k h1 h2; omega
theorem allF_succ (h : Nat → Bool) (i k : Nat) (hik : i ≤ k) : allF h i (k + 1) = (allF h i k && h k) := by
  rw [Bool.eq_iff_iff, Bool.and_eq_true, allF_iff, allF_iff]
  constructor
  · intro H; exact ⟨fun x h1 h2 => H x h1 (by omega), H k hik (by omega)⟩
  · rintro ⟨H1, H2⟩ x h1 h2
    by_cases e : x = k
    · subst e; exact H2
    · exact H1 x h1 (by omega)

/-- the ages before a moment is noted, and behind that, at each place -/
def ageG (T : Nat) (S : Bool) (h am : Nat → Bool) : Nat → Nat → Bool
  | 0 => agNone
  | j + 1 => if h j then agGrow T S (if am j then agArm (ageG T S h am j) else ageG T S h am j) else agNone
def ageF (T : Nat) (S : Bool) (h am : Nat → Bool) (j : Nat) : Nat → Bool := if am j then agArm (ageG T S h am j) else ageG T S h am j
/-- the ages at a loop's head: behind the place before -/
def ageH (T : Nat) (S : Bool) (h am : Nat → Bool) : Nat → Nat → Bool
  | 0 => agNone
  | j + 1 => ageF T S h am j
theorem ageG_in {T : Nat} {S : Bool} {h am : Nat → Bool} {j : Nat} (hj : h j = true) : agGrow T S (ageH T S h am (j + 1)) = ageG T S h am (j + 1) := by
  show agGrow T S (ageF T S h am j) = _
  rw [ageG, if_pos hj]; rfl
theorem ageG_out {T : Nat} {S : Bool} {h am : Nat → Bool} {j : Nat} (hj : h j = false) : agNone = ageG T S h am (j + 1) := by
  rw [ageG, if_neg (by rw [hj]; exact Bool.false_ne_true)]

/-- the age of a moment, told -/
def agK (T : Nat) (S : Bool) (d k : Nat) : Prop := if S then min d T = k else d = k ∧ k ≤ T
theorem ageF_iff (T : Nat) (S : Bool) (h am : Nat → Bool) (j k : Nat) :
    ageF T S h am j k = true ↔ ∃ i, i ≤ j ∧ am i = true ∧ allF h i j = true ∧ agK T S (j - i) k := by
  have base : ∀ j, (∀ k, ageG T S h am j k = true ↔ ∃ i, i < j ∧ am i = true ∧ allF h i j = true ∧ agK T S (j - i) k) → ∀ k,
      (ageF T S h am j k = true ↔ ∃ i, i ≤ j ∧ am i = true ∧ allF h i j = true ∧ agK T S (j - i) k) := by
    intro j hG k
    unfold ageF
    by_cases ha : am j = true
    · rw [if_pos ha, agArm_iff, hG]
      constructor
      · rintro (rfl | ⟨i, h1, h2⟩)
        · exact ⟨j, by omega, ha, allF_self _ _, by unfold agK; cases S <;> simp⟩
        · exact ⟨i, by omega, h2⟩
      · rintro ⟨i, h1, h2, h3, h4⟩
        by_cases e : i = j
        · subst e
          left
          unfold agK at h4
          cases S <;> simp at h4 <;> omega
        · exact .inr ⟨i, by omega, h2, h3, h4⟩
    · rw [if_neg ha, hG]
      constructor
      · rintro ⟨i, h1, h2⟩; exact ⟨i, by omega, h2⟩
      · rintro ⟨i, h1, h2, h3⟩
        have : i ≠ j := by rintro rfl; exact ha h2
        exact ⟨i, by omega, h2, h3⟩
  have hG : ∀ j k, ageG T S h am j k = true ↔ ∃ i, i < j ∧ am i = true ∧ allF h i j = true ∧ agK T S (j - i) k := by
    intro j
    induction j with
    | zero => intro k; rw [ageG]; simp [agNone]
    | succ j ih =>
      intro k
      have hF := base j ih
      rw [ageG]
      by_cases hj : h j = true
      · rw [if_pos hj]
        show agGrow T S (ageF T S h am j) k = true ↔ _
        rw [agGrow_iff, hF, hF]
        constructor
        · rintro (⟨h1, h2, i, g1, g2, g3, g4⟩ | ⟨rfl, rfl, i, g1, g2, g3, g4⟩)
          · refine ⟨i, by omega, g2, by rw [allF_succ _ _ _ g1, g3, hj]; rfl, ?_⟩
            unfold agK at g4 ⊢
            cases S <;> simp at g4 ⊢ <;> omega
          · refine ⟨i, by omega, g2, by rw [allF_succ _ _ _ g1, g3, hj]; rfl, ?_⟩
            unfold agK at g4 ⊢
            simp at g4 ⊢
            omega
        · rintro ⟨i, g1, g2, g3, g4⟩
          rw [allF_succ _ _ _ (by omega), Bool.and_eq_true] at g3
          unfold agK at g4
          cases S with
          | false =>
            simp at g4
            exact .inl ⟨by omega, by omega, i, by omega, g2, g3.1, by unfold agK; simp; omega⟩
          | true =>
            simp at g4
            by_cases hT : j - i < T
            · exact .inl ⟨by omega, by omega, i, by omega, g2, g3.1, by unfold agK; simp; omega⟩
            · exact .inr ⟨rfl, by omega, i, by omega, g2, g3.1, by unfold agK; simp; omega⟩
      · rw [if_neg hj]
        constructor
        · intro h; cases h
        · rintro ⟨i, g1, g2, g3, g4⟩
          rw [allF_succ _ _ _ (by omega), Bool.and_eq_true] at g3
          exact absurd g3.2 hj
  exact base j (hG j) k

/-- is a moment so long ago as it may be? -/
def okc (L m : Int) (d : Nat) : Bool := !(decide ((d : Int) < L) || (decide (0 ≤ m) && decide (m < (d : Int))))
def wantF (L m : Int) (h ar : Nat → Bool) (j n : Nat) : Bool := (List.range n).any fun i => ar i && okc L m (j - i) && allF h i j
theorem wantF_zero (L m : Int) (h ar : Nat → Bool) (j : Nat) : wantF L m h ar j 0 = false := rfl
theorem wantF_succ (L m : Int) (h ar : Nat → Bool) (j n : Nat) : wantF L m h ar j (n + 1) = (wantF L m h ar j n || (ar n && okc L m (j - n) && allF h n j)) := by
  unfold wantF; rw [List.range_succ, List.any_append]; simp
theorem wantF_skip {L m : Int} {h ar : Nat → Bool} {j n : Nat} (hs : (ar n && okc L m (j - n)) = false) : wantF L m h ar j (n + 1) = wantF L m h ar j n := by
  rw [wantF_succ, hs]; simp
theorem wantF_take {L m : Int} {h ar : Nat → Bool} {j n : Nat} (hs : (ar n && okc L m (j - n)) = true) : wantF L m h ar j (n + 1) = (wantF L m h ar j n || allF h n j) := by
  rw [wantF_succ, hs]; simp
theorem done_want {L T : Nat} {S : Bool} {m : Int} {h ar am : Nat → Bool} {j n : Nat} (ham : ∀ i, am i = true ↔ i < n ∧ ar i = true)
    (hm : (m = -1 ∧ T = L ∧ S = true) ∨ (m = (T : Int) ∧ L ≤ T ∧ S = false)) : agDone L T (ageF T S h am j) = wantF L m h ar j (min (j + 1) n) := by
  rw [Bool.eq_iff_iff, agDone_iff]
  unfold wantF
  simp only [List.any_eq_true, List.mem_range, Bool.and_eq_true]
  constructor
  · rintro ⟨k, h1, h2, h3⟩
    obtain ⟨i, g1, g2, g3, g4⟩ := (ageF_iff T S h am j k).1 h3
    obtain ⟨g5, g6⟩ := (ham i).1 g2
    refine ⟨i, by omega, ⟨g6, ?_⟩, g3⟩
    unfold okc
    rcases hm with ⟨rfl, rfl, rfl⟩ | ⟨rfl, hL, rfl⟩
    · simp [agK] at g4
      simp; omega
    · simp [agK] at g4
      simp; omega
  · rintro ⟨i, g1, ⟨g2, g3⟩, g4⟩
    unfold okc at g3
    rcases hm with ⟨rfl, rfl, rfl⟩ | ⟨rfl, hL, rfl⟩
    · simp at g3
      exact ⟨T, by omega, by omega, (ageF_iff _ _ _ _ _ _).2 ⟨i, by omega, (ham i).2 ⟨by omega, g2⟩, g4, by simp [agK]; omega⟩⟩
    · simp at g3
      exact ⟨j - i, by omega, by omega, (ageF_iff _ _ _ _ _ _).2 ⟨i, by omega, (ham i).2 ⟨by omega, g2⟩, g4, by simp [agK]; omega⟩⟩
end Go.Proofs.Ytcognpfihojphaa
