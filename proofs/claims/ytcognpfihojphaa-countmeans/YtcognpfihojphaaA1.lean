/- Ages as flags, and how the greatest age, or the ages themselves, keep them: no program in it. -/
namespace Go.Proofs.Ytcognpfihojphaa

/-- the age 0 is there, too -/
def agArm (f : Nat → Bool) (k : Nat) : Bool := decide (k = 0) || f k
/-- each age is one more; at the top it stays, or is gone -/
def agGrow (T : Nat) (S : Bool) (f : Nat → Bool) (k : Nat) : Bool := (decide (0 < k ∧ k ≤ T) && f (k - 1)) || (S && decide (k = T) && f T)
/-- no age -/
def agNone (_ : Nat) : Bool := false
/-- there is an age that is enough -/
def agDone (L T : Nat) (f : Nat → Bool) : Bool := (List.range (T + 1)).any fun k => decide (L ≤ k) && f k
/-- no age is above the top -/
def Sup (T : Nat) (f : Nat → Bool) : Prop := ∀ k, T < k → f k = false

theorem agDone_iff (L T : Nat) (f : Nat → Bool) : agDone L T f = true ↔ ∃ k, L ≤ k ∧ k ≤ T ∧ f k = true := by
  unfold agDone
  simp only [List.any_eq_true, List.mem_range, Bool.and_eq_true, decide_eq_true_eq]
  constructor
  · rintro ⟨k, h1, h2, h3⟩; exact ⟨k, h2, by omega, h3⟩
  · rintro ⟨k, h1, h2, h3⟩; exact ⟨k, by omega, h1, h3⟩
theorem agGrow_iff (T : Nat) (S : Bool) (f : Nat → Bool) (k : Nat) : agGrow T S f k = true ↔ (0 < k ∧ k ≤ T ∧ f (k - 1) = true) ∨ (S = true ∧ k = T ∧ f T = true) := by
  unfold agGrow
  simp only [Bool.or_eq_true, Bool.and_eq_true, decide_eq_true_eq]
  constructor
  · rintro (⟨⟨h1, h2⟩, h3⟩ | ⟨⟨h1, h2⟩, h3⟩)
    · exact .inl ⟨h1, h2, h3⟩
    · exact .inr ⟨h1, h2, h3⟩
  · rintro (⟨h1, h2, h3⟩ | ⟨h1, h2, h3⟩)
    · exact .inl ⟨⟨h1, h2⟩, h3⟩
    · exact .inr ⟨⟨h1, h2⟩, h3⟩
theorem agArm_iff (f : Nat → Bool) (k : Nat) : agArm f k = true ↔ k = 0 ∨ f k = true := by unfold agArm; simp
theorem Sup.arm {T : Nat} {f : Nat → Bool} (h : Sup T f) : Sup T (agArm f) := fun k hk => by
  unfold agArm; rw [h k hk, decide_eq_false (by omega)]; rfl
theorem Sup.grow (T : Nat) (S : Bool) (f : Nat → Bool) : Sup T (agGrow T S f) := fun k hk => by
  rw [Bool.eq_false_iff]; intro h
  rcases (agGrow_iff T S f k).1 h with ⟨_, h2, _⟩ | ⟨_, h2, _⟩ <;> omega
theorem Sup.none (T : Nat) : Sup T agNone := fun _ _ => rfl

/-- the greatest age and one, or 0 -/
def SpA (T told : Nat) (f : Nat → Bool) : Prop := told ≤ T + 1 ∧ (∀ k, f k = true → k < told) ∧ (0 < told → f (told - 1) = true)
theorem spA_none (T : Nat) : SpA T 0 agNone := ⟨by omega, (fun _ h => by cases h), (fun h => by omega)⟩
theorem spA_arm {T told : Nat} {f : Nat → Bool} (h : SpA T told f) : SpA T (max told 1) (agArm f) := by
  obtain ⟨h1, h2, h3⟩ := h
  refine ⟨by omega, fun k hk => ?_, fun _ => ?_⟩
  · rcases (agArm_iff f k).1 hk with rfl | hk
    · omega
    · have := h2 k hk; omega
  · by_cases h0 : 0 < told
    · rw [Nat.max_eq_left (by omega)]; exact (agArm_iff f _).2 (.inr (h3 h0))
    · rw [Nat.max_eq_right (by omega)]; exact (agArm_iff f _).2 (.inl rfl)
theorem spA_grow {T told : Nat} {f : Nat → Bool} (h : SpA T told f) (h0 : 0 < told) : SpA T (min told T + 1) (agGrow T true f) := by
  obtain ⟨h1, h2, h3⟩ := h
  refine ⟨by omega, fun k hk => ?_, fun _ => ?_⟩
  · rcases (agGrow_iff T true f k).1 hk with ⟨a, b, c⟩ | ⟨_, rfl, c⟩
    · have := h2 _ c; omega
    · have := h2 _ c; omega
  · rw [Nat.add_sub_cancel, agGrow_iff]
    by_cases hT : told ≤ T
    · rw [Nat.min_eq_left hT]; exact .inl ⟨h0, hT, h3 h0⟩
    · rw [Nat.min_eq_right (by omega)]
      have e : told - 1 = T := by omega
      exact .inr ⟨rfl, rfl, e ▸ h3 h0⟩
theorem spA_stay {T : Nat} {f : Nat → Bool} (h : SpA T 0 f) : SpA T 0 (agGrow T true f) := by
  refine ⟨by omega, fun k hk => ?_, fun h => by omega⟩
  rcases (agGrow_iff T true f k).1 hk with ⟨_, _, c⟩ | ⟨_, _, c⟩
  · have := h.2.1 _ c; omega
  · have := h.2.1 _ c; omega
theorem spA_done {L T told : Nat} {f : Nat → Bool} (h : SpA T told f) : agDone L T f = decide (L < told) := by
  rw [Bool.eq_iff_iff, agDone_iff, decide_eq_true_eq]
  constructor
  · rintro ⟨k, a, b, c⟩; have := h.2.1 k c; omega
  · intro hl; exact ⟨told - 1, by omega, by have := h.1; omega, h.2.2 (by omega)⟩

/-- the ages as they are, the oldest first; where they stay at the top all but the first one are below it -/
structure RgA (T : Nat) (S : Bool) (n : Nat) (a : Nat → Nat) (f : Nat → Bool) : Prop where
  fall : ∀ i j, i < j → j < n → a j < a i
  low : S = false → ∀ i, i < n → a i ≤ T
  stay : S = true → ∀ i, 1 ≤ i → i < n → a i < T
  ages : ∀ k, f k = true ↔ ∃ i, i < n ∧ min (a i) T = k
theorem rgA_none (T : Nat) (S : Bool) (a : Nat → Nat) : RgA T S 0 a agNone :=
  ⟨(fun _ _ _ h => by omega), (fun _ _ h => by omega), (fun _ _ _ h => by omega), fun k => ⟨(fun h => by cases h), (fun ⟨_, h, _⟩ => by omega)⟩⟩
theorem rg_fall {T n : Nat} {S : Bool} {a : Nat → Nat} {f : Nat → Bool} (h : RgA T S n a f) (b i : Nat) (hb : b ≤ i) : i < n → a i + (i - b) ≤ a b := by
  obtain ⟨d, rfl⟩ : ∃ d, i = b + d := ⟨i - b, by omega⟩
  clear hb
  induction d with
  | zero => intro _; simp
  | succ d ih =>
    intro hn
    have := ih (by omega)
    have := h.fall (b + d) (b + (d + 1)) (by omega) hn
    omega
theorem rgA_size {T n : Nat} {S : Bool} {a : Nat → Nat} {f : Nat → Bool} (h : RgA T S n a f) : n ≤ T + 1 := by
  cases S with
  | false =>
    rcases Nat.lt_or_ge 0 n with h0 | h0
    · have := rg_fall h 0 (n - 1) (by omega) (by omega)
      have := h.low rfl 0 h0
      omega
    · omega
  | true =>
    rcases Nat.lt_or_ge 1 n with h0 | h0
    · have := rg_fall h 1 (n - 1) (by omega) (by omega)
      have := h.stay rfl 1 (by omega) h0
      omega
    · omega
/-- there is room for one more, where the last one isn't 0 -/
theorem rgA_room {T n : Nat} {S : Bool} {a : Nat → Nat} {f : Nat → Bool} (h : RgA T S n a f) (h0 : n = 0 ∨ 0 < min (a (n - 1)) T) : n < T + 1 := by
  have hs := rgA_size h
  rcases h0 with rfl | h0
  · omega
  · rcases Nat.lt_or_ge n (T + 1) with hl | hl
    · exact hl
    · exfalso
      cases S with
      | false =>
        have := rg_fall h 0 (n - 1) (by omega) (by omega)
        have := h.low rfl 0 (by omega)
        omega
      | true =>
        have := rg_fall h 1 (n - 1) (by omega) (by omega)
        have := h.stay rfl 1 (by omega) (by omega)
        omega
theorem rgA_arm {T n : Nat} {S : Bool} {a : Nat → Nat} {f : Nat → Bool} (h : RgA T S n a f) (h0 : n = 0 ∨ 0 < min (a (n - 1)) T) : RgA T S (n + 1) (fun i => if i < n then a i else 0) (agArm f) := by
  refine ⟨fun i j hij hj => ?_, fun hS i hi => ?_, fun hS i h1 hi => ?_, fun k => ?_⟩
  · simp only [show i < n by omega, if_true]
    by_cases hjn : j < n
    · rw [if_pos hjn]; exact h.fall i j hij hjn
    · rw [if_neg hjn]
      rcases h0 with h0 | h0
      · omega
      · by_cases e : i = n - 1
        · subst e; omega
        · have := h.fall i (n - 1) (by omega) (by omega); omega
  · by_cases hin : i < n
    · simp only [hin, if_true]; exact h.low hS i hin
    · simp only [hin, if_false]; omega
  · by_cases hin : i < n
    · simp only [hin, if_true]; exact h.stay hS i h1 hin
    · simp only [hin, if_false]
      rcases h0 with h0 | h0
      · omega
      · omega
  · rw [agArm_iff, h.ages]
    constructor
    · rintro (rfl | ⟨i, hi, e⟩)
      · exact ⟨n, by omega, by simp⟩
      · exact ⟨i, by omega, by simp only [hi, if_true]; exact e⟩
    · rintro ⟨i, hi, e⟩
      by_cases hin : i < n
      · simp only [hin, if_true] at e; exact .inr ⟨i, hin, e⟩
      · simp only [hin, if_false] at e; left; omega
theorem rgA_armed {T n : Nat} {S : Bool} {a : Nat → Nat} {f : Nat → Bool} (h : RgA T S n a f) (h0 : 0 < n) (h1 : min (a (n - 1)) T = 0) : RgA T S n a (agArm f) := by
  refine ⟨h.fall, h.low, h.stay, fun k => ?_⟩
  rw [agArm_iff, ← h.ages]
  refine ⟨?_, .inr⟩
  rintro (rfl | hk)
  · exact (h.ages 0).2 ⟨n - 1, by omega, h1⟩
  · exact hk
/-- the oldest one tells nothing any more -/
def spent (T : Nat) (S : Bool) (n : Nat) (a : Nat → Nat) : Bool := if S then decide (1 < n) && decide (min (a 1) T = T) else decide (0 < n) && decide (T < a 0)
theorem rgA_grow {T n : Nat} {S : Bool} {a : Nat → Nat} {f : Nat → Bool} (h : RgA T S n a f) (hs : spent T S n (fun i => a i + 1) = false) : RgA T S n (fun i => a i + 1) (agGrow T S f) := by
  cases S with
  | false =>
    have hlow := h.low rfl
    have hsp : ∀ i, i < n → a i + 1 ≤ T := by
      intro i hi
      simp [spent] at hs
      have := hs (by omega)
      by_cases e : i = 0
      · subst e; omega
      · have := h.fall 0 i (by omega) hi; omega
    refine ⟨(fun i j hij hj => by have := h.fall i j hij hj; (try simp only); omega), fun _ i hi => hsp i hi, (fun e => by cases e), fun k => ?_⟩
    rw [agGrow_iff]
    constructor
    · rintro (⟨h1, h2, h3⟩ | ⟨h1, _⟩)
      · obtain ⟨i, hi, e⟩ := (h.ages _).1 h3
        have := hsp i hi
        exact ⟨i, hi, by (try simp only); omega⟩
      · cases h1
    · rintro ⟨i, hi, e⟩
      have := hsp i hi
      try simp only at e
      exact .inl ⟨by omega, by omega, (h.ages _).2 ⟨i, hi, by omega⟩⟩
  | true =>
    have hst := h.stay rfl
    have hsp : ∀ i, 1 ≤ i → i < n → a i + 1 < T := by
      intro i h1 hi
      simp [spent] at hs
      have := hs (by omega)
      have := hst 1 (by omega) (by omega)
      by_cases e : i = 1
      · subst e; omega
      · have := h.fall 1 i (by omega) hi; omega
    refine ⟨(fun i j hij hj => by have := h.fall i j hij hj; (try simp only); omega), (fun e => by cases e), fun _ i h1 hi => hsp i h1 hi, fun k => ?_⟩
    rw [agGrow_iff]
    constructor
    · rintro (⟨h1, h2, h3⟩ | ⟨_, rfl, h3⟩)
      · obtain ⟨i, hi, e⟩ := (h.ages _).1 h3
        refine ⟨i, hi, ?_⟩
        (try simp only); omega
      · obtain ⟨i, hi, e⟩ := (h.ages _).1 h3
        refine ⟨i, hi, ?_⟩
        (try simp only); omega
    · rintro ⟨i, hi, e⟩
      try simp only at e
      by_cases hT : a i < T
      · exact .inl ⟨by omega, by omega, (h.ages _).2 ⟨i, hi, by omega⟩⟩
      · exact .inr ⟨rfl, by omega, (h.ages _).2 ⟨i, hi, by omega⟩⟩
theorem rgA_drop {T n : Nat} {S : Bool} {a : Nat → Nat} {f : Nat → Bool} (h : RgA T S n a f) (hs : spent T S n (fun i => a i + 1) = true) : 0 < n ∧ RgA T S (n - 1) (fun i => a (i + 1) + 1) (agGrow T S f) := by
  cases S with
  | false =>
    simp [spent] at hs
    have hlow := h.low rfl
    have h0 := hlow 0 (by omega)
    refine ⟨hs.1, fun i j hij hj => ?_, fun _ i hi => ?_, fun e => (by cases e), fun k => ?_⟩
    · have := h.fall (i + 1) (j + 1) (by omega) (by omega); (try simp only); omega
    · have := h.fall 0 (i + 1) (by omega) (by omega); (try simp only); omega
    · rw [agGrow_iff]
      constructor
      · rintro (⟨h1, h2, h3⟩ | ⟨h1, _⟩)
        · obtain ⟨i, hi, e⟩ := (h.ages _).1 h3
          have := hlow i hi
          have hi0 : i ≠ 0 := by rintro rfl; omega
          refine ⟨i - 1, by omega, ?_⟩
          simp only [show i - 1 + 1 = i by omega]; omega
        · cases h1
      · rintro ⟨i, hi, e⟩
        try simp only at e
        have := h.fall 0 (i + 1) (by omega) (by omega)
        exact .inl ⟨by omega, by omega, (h.ages _).2 ⟨i + 1, by omega, by omega⟩⟩
  | true =>
    simp [spent] at hs
    have hst := h.stay rfl
    have h1 := hst 1 (by omega) (by omega)
    refine ⟨by omega, fun i j hij hj => ?_, fun e => (by cases e), fun _ i hi1 hi => ?_, fun k => ?_⟩
    · have := h.fall (i + 1) (j + 1) (by omega) (by omega); (try simp only); omega
    · have := h.fall 1 (i + 1) (by omega) (by omega); (try simp only); omega
    · rw [agGrow_iff]
      constructor
      · rintro (⟨g1, g2, g3⟩ | ⟨_, rfl, g3⟩)
        · obtain ⟨i, hi, e⟩ := (h.ages _).1 g3
          by_cases hi0 : i = 0
          · subst hi0
            have := h.fall 0 1 (by omega) (by omega)
            refine ⟨0, by omega, ?_⟩
            simp only [Nat.zero_add]; omega
          · refine ⟨i - 1, by omega, ?_⟩
            simp only [show i - 1 + 1 = i by omega]; omega
        · refine ⟨0, by omega, ?_⟩
          simp only [Nat.zero_add]; omega
      · rintro ⟨i, hi, e⟩
        try simp only at e
        have := hst (i + 1) (by omega) (by omega)
        exact .inl ⟨by omega, by omega, (h.ages _).2 ⟨i + 1, by omega, by omega⟩⟩
theorem rgA_done {L T n : Nat} {S : Bool} {a : Nat → Nat} {f : Nat → Bool} (h : RgA T S n a f) : agDone L T f = (decide (0 < n) && decide (L ≤ min (a 0) T)) := by
  rw [Bool.eq_iff_iff, agDone_iff, Bool.and_eq_true, decide_eq_true_eq, decide_eq_true_eq]
  constructor
  · rintro ⟨k, h1, h2, h3⟩
    obtain ⟨i, hi, e⟩ := (h.ages _).1 h3
    refine ⟨by omega, ?_⟩
    by_cases e0 : i = 0
    · subst e0; omega
    · have := h.fall 0 i (by omega) hi; omega
  · rintro ⟨h1, h2⟩
    exact ⟨min (a 0) T, h2, by omega, (h.ages _).2 ⟨0, h1, rfl⟩⟩
end Go.Proofs.Ytcognpfihojphaa
