/- Places sorted by insertion stand in order, equal ones by their places: pure. Two sorted rows of places side by side are merged: what a step of it leaves: pure. Two sorted rows of places side by side are merged: the search, single ones, and turning: pure. Places in order, however they came to be so, give the marks; blocks of them lie apart: pure. -/
import Derived.Test.YtkljagffccommaaG33
import Derived.Sort.LotA
namespace Go.Proofs.Ytkljagffccommaa
open Go.RowKit Go.Sort
/-- less by the comparison -/
def ltC (c : Nat → Nat → Int) (x y : Nat) : Bool := decide (c x y < 0)
/-- less by the comparison, equal ones by their places -/
def ltP (c : Nat → Nat → Int) (x y : Nat) : Bool := decide (c x y < 0 ∨ (c x y = 0 ∧ x < y))
structure OrdC (c : Nat → Nat → Int) : Prop where
  swap : ∀ i j, c j i = - c i j
  trans : ∀ i j k, c i j ≤ 0 → c j k ≤ 0 → c i k ≤ 0
theorem OrdC.lt1 {c : Nat → Nat → Int} (h : OrdC c) {i j k : Nat} (h1 : c i j < 0) (h2 : c j k ≤ 0) : c i k < 0 := by
  rcases Int.lt_or_le (c i k) 0 with e | e
  · exact e
  · have := h.trans j k i h2 (by have := h.swap i k; omega)
    have := h.swap i j
    omega
theorem OrdC.lt2 {c : Nat → Nat → Int} (h : OrdC c) {i j k : Nat} (h1 : c i j ≤ 0) (h2 : c j k < 0) : c i k < 0 := by
  rcases Int.lt_or_le (c i k) 0 with e | e
  · exact e
  · have := h.trans k i j (by have := h.swap i k; omega) h1
    have := h.swap j k
    omega
theorem ltP_not {c : Nat → Nat → Int} (h : OrdC c) {x y : Nat} : ltP c x y = false ↔ x = y ∨ ltP c y x = true := by
  unfold ltP
  rw [decide_eq_false_iff_not, decide_eq_true_iff]
  have h1 := h.swap x y
  have h2 := h.swap x x
  constructor
  · intro n
    by_cases e : x = y
    · exact .inl e
    · exact .inr (by omega)
  · rintro (rfl | n) <;> omega
theorem ltP_trans {c : Nat → Nat → Int} (h : OrdC c) {x y z : Nat} (h1 : ltP c x y = true) (h2 : ltP c y z = true) : ltP c x z = true := by
  unfold ltP at *
  rw [decide_eq_true_iff] at *
  rcases h1 with h1 | ⟨h1, h3⟩
  · exact .inl (h.lt1 h1 (by omega))
  · rcases h2 with h2 | ⟨h2, h4⟩
    · exact .inl (h.lt2 (by omega) h2)
    · have a := h.trans x y z (by omega) (by omega)
      have b := h.trans z y x (by have := h.swap y z; omega) (by have := h.swap x y; omega)
      have := h.swap x z
      exact .inr ⟨by omega, by omega⟩
theorem ltP_swo {c : Nat → Nat → Int} (h : OrdC c) : SWO (ltP c) where
  irrefl := fun x => (ltP_not h).2 (.inl rfl)
  trans := fun x y z => ltP_trans h
  ntrans := fun x y z h1 h2 => by
    rw [ltP_not h] at *
    rcases h1 with rfl | h1
    · exact h2
    · rcases h2 with rfl | h2
      · exact .inr h1
      · exact .inr (ltP_trans h h2 h1)
theorem get_swp (d : Array Nat) (j : Nat) (hj : j + 1 < d.size) : (swp d (j + 1) j)[j]! = d[j + 1]! ∧ ∀ q, q < j → (swp d (j + 1) j)[q]! = d[q]! := by
  unfold swp
  constructor
  · rw [getElem!_pos _ _ (by simp; omega)]
    simp
  · intro q hq
    rw [getElem!_pos _ _ (by simp; omega), getElem!_pos _ _ (by omega)]
    rw [Array.getElem_setIfInBounds_ne (by simp; omega) (by omega), Array.getElem_setIfInBounds_ne (by omega) (by omega)]
    exact (getElem!_pos d q (by omega)).symm
theorem inner_same (lt lt' : Nat → Nat → Bool) (a : Nat) : ∀ (j : Nat) (d : Array Nat), j < d.size → (∀ q, q < j → lt d[j]! d[q]! = lt' d[j]! d[q]!) → insInner lt a j d = insInner lt' a j d
  | 0, _, _, _ => rfl
  | j + 1, d, hj, h => by
    rw [insInner, insInner, h j (by omega)]
    split
    · obtain ⟨e1, e2⟩ := get_swp d j hj
      apply inner_same lt lt' a j
      · rw [swp_size]; omega
      · intro q hq
        rw [e1, e2 q hq]
        exact h q (by omega)
    · rfl
theorem outer_same {c : Nat → Nat → Int} (h : OrdC c) (n : Nat) : ∀ (m i : Nat) (d : Array Nat), n - i = m → d.size = n → 0 < i → SortedIn (ltP c) 0 i d → (∀ q, i ≤ q → q < n → d[q]! = q) → (∀ q, q < i → q < n → d[q]! < i) → insOuter (ltC c) 0 n i d = insOuter (ltP c) 0 n i d
  | 0, i, d, hm, _, _, _, _, _ => by
    have e1 : ∀ lt : Nat → Nat → Bool, insOuter lt 0 n i d = d := fun lt => by rw [insOuter, if_neg (by omega)]
    rw [e1, e1]
  | m + 1, i, d, hm, hs, h0, hso, hhi, hlo => by
    have hi : i < n := by omega
    have e1 : ∀ lt : Nat → Nat → Bool, insOuter lt 0 n i d = insOuter lt 0 n (i + 1) (insInner lt 0 i d) := fun lt => by rw [insOuter, if_pos hi]
    rw [e1, e1]
    have e : insInner (ltC c) 0 i d = insInner (ltP c) 0 i d := by
      apply inner_same _ _ _ _ _ (by omega)
      intro q hq
      rw [hhi i (Nat.le_refl _) hi]
      have := hlo q hq (by omega)
      unfold ltC ltP
      exact decide_eq_decide.2 ⟨fun x => .inl x, fun x => x.elim id fun y => by omega⟩
    rw [e]
    obtain ⟨hp, hso'⟩ := insInner_spec (ltP_swo h) swp_permIn permIn_refl permIn_trans 0 (i + 1) i (by omega) i d (by omega) (Nat.le_refl _) (by omega) ⟨fun p q hap hpq hqi _ hq => hso p q hap hpq (by omega), fun q h1 h2 => by omega⟩
    apply outer_same h n m (i + 1) _ (by omega) (by rw [hp.1, hs]) (by omega) hso'
    · intro q hq hqn
      rw [hp.2.1 q (.inr hq)]
      exact hhi q (by omega) hqn
    · intro q hq hqn
      exact permIn_all d _ 0 (i + 1) (fun x => x < i + 1) (by omega) hp (fun p _ hp2 => by
        by_cases e : p = i
        · rw [e, hhi i (Nat.le_refl _) hi]; omega
        · have := hlo p (by omega) (by omega); omega) q (by omega) hq
/-- the places, sorted by insertion -/
theorem sort_stable {c : Nat → Nat → Int} (h : OrdC c) (n : Nat) (d : Array Nat) (hd : d.toList = List.range n) :
    inOrd c (insertionSort (ltC c) d 0 n).toList ∧ (insertionSort (ltC c) d 0 n).toList.Perm (List.range n) := by
  have hsz : d.size = n := by rw [← Array.length_toList, hd, List.length_range]
  have hget : ∀ q, q < n → d[q]! = q := fun q hq => by
    rw [getElem!_pos d q (by omega), ← Array.getElem_toList]
    simp [hd]
  have e : insertionSort (ltC c) d 0 n = insertionSort (ltP c) d 0 n := by
    unfold insertionSort
    exact outer_same h n (n - 1) 1 d rfl hsz (by omega) (fun i j h1 h2 h3 => by omega) (fun q _ hq => hget q hq) (fun q hq hqn => by rw [hget q hqn]; omega)
  rw [e]
  obtain ⟨hp, hs⟩ := insertionSort_holds (ltP_swo h) d 0 n (Nat.zero_le _) (by omega)
  generalize insertionSort (ltP c) d 0 n = d' at hp hs
  have hperm : d'.toList.Perm (List.range n) := by
    have := hp.2.2
    rw [show d'.extract 0 n = d' by rw [← hsz, ← hp.1]; simp, show d.extract 0 n = d by rw [← hsz]; simp, hd] at this
    exact this
  refine ⟨?_, hperm⟩
  have hnd : d'.toList.Nodup := hperm.nodup_iff.2 List.nodup_range
  unfold inOrd
  rw [List.pairwise_iff_getElem]
  intro i j hi hj hij
  rw [Array.length_toList] at hi hj
  have hne : d'.toList[i] ≠ d'.toList[j] := fun e => by
    have := (List.getElem_inj hnd).1 e
    omega
  have h1 := hs i j (Nat.zero_le _) hij (by rw [hp.1] at hj; omega)
  rw [getElem!_pos d' i hi, getElem!_pos d' j hj, ltP_not h] at h1
  rw [Array.getElem_toList, Array.getElem_toList] at hne ⊢
  rcases h1 with e | h1
  · exact absurd e.symm hne
  · unfold ltP at h1
    exact of_decide_eq_true h1
end Go.Proofs.Ytkljagffccommaa
namespace Go.Proofs.Ytkljagffccommaa
open Go.RowKit Go.Sort
/-- ascending on a ≤ i < b -/
def Asc (c : Nat → Nat → Int) (a b : Nat) (f : Nat → Nat) : Prop := ∀ i j, a ≤ i → i < j → j < b → ltP c (f i) (f j) = true
/-- the places in the left part are less than those in the right -/
def Lft (a m b : Nat) (f : Nat → Nat) : Prop := ∀ i j, a ≤ i → i < m → m ≤ j → j < b → f i < f j
/-- halving: where P ends to hold -/
def bs (P : Nat → Bool) (i j : Nat) : Nat := if h : i < j then (if P ((i + j) / 2) = true then bs P ((i + j) / 2 + 1) j else bs P i ((i + j) / 2)) else i
termination_by j - i
theorem bs_spec (P : Nat → Bool) : ∀ (n i j : Nat), j - i = n → i ≤ j → i ≤ bs P i j ∧ bs P i j ≤ j ∧ (i < bs P i j → P (bs P i j - 1) = true) ∧ (bs P i j < j → P (bs P i j) = false) := by
  intro n
  induction n using Nat.strongRecOn with
  | _ n ih =>
    intro i j hn hij
    rw [bs]
    by_cases h : i < j
    · rw [dif_pos h]
      split
      · rename_i hp
        obtain ⟨h1, h2, h3, h4⟩ := ih (j - ((i + j) / 2 + 1)) (by omega) ((i + j) / 2 + 1) j rfl (by omega)
        refine ⟨by omega, h2, fun _ => ?_, h4⟩
        by_cases e : (i + j) / 2 + 1 < bs P ((i + j) / 2 + 1) j
        · exact h3 e
        · have : bs P ((i + j) / 2 + 1) j = (i + j) / 2 + 1 := by omega
          rw [this]; exact hp
      · rename_i hp
        obtain ⟨h1, h2, h3, h4⟩ := ih ((i + j) / 2 - i) (by omega) i ((i + j) / 2) rfl (by omega)
        refine ⟨h1, by omega, h3, fun _ => ?_⟩
        by_cases e : bs P i ((i + j) / 2) < (i + j) / 2
        · exact h4 e
        · have : bs P i ((i + j) / 2) = (i + j) / 2 := by omega
          rw [this]; exact Bool.eq_false_iff.2 hp
    · rw [dif_neg h]
      exact ⟨Nat.le_refl _, hij, fun x => by omega, fun x => by omega⟩
section
variable {c : Nat → Nat → Int} (h : OrdC c)
include h
omit h in
/-- a right one against a left one: the comparison alone tells -/
theorem ltC_right {x y : Nat} (hxy : x < y) : ltC c y x = ltP c y x := by
  unfold ltC ltP
  exact decide_eq_decide.2 ⟨fun z => .inl z, fun z => z.elim id fun u => by omega⟩
theorem lt_of_not {x y : Nat} (hxy : x < y) (hn : ltP c y x = false) : ltP c x y = true := by
  rcases (ltP_not h).1 hn with e | e
  · omega
  · exact e
theorem Asc.le {a b : Nat} {f : Nat → Nat} (s : Asc c a b f) {i j : Nat} (hi : a ≤ i) (hij : i ≤ j) (hj : j < b) {z : Nat} (hz : ltP c (f j) z = true) : ltP c (f i) z = true := by
  rcases Nat.eq_or_lt_of_le hij with rfl | e
  · exact hz
  · exact ltP_trans h (s i j hi e hj) hz
theorem Asc.ge {a b : Nat} {f : Nat → Nat} (s : Asc c a b f) {i j : Nat} (hi : a ≤ i) (hij : i ≤ j) (hj : j < b) {z : Nat} (hz : ltP c z (f i) = true) : ltP c z (f j) = true := by
  rcases Nat.eq_or_lt_of_le hij with rfl | e
  · exact hz
  · exact ltP_trans h hz (s i j hi e hj)
omit h in
theorem Asc.sub {a b a' b' : Nat} {f : Nat → Nat} (s : Asc c a b f) (h1 : a ≤ a') (h2 : b' ≤ b) : Asc c a' b' f := fun i j hi hij hj => s i j (by omega) hij (by omega)
omit h in
theorem asc_join {a m b : Nat} {f : Nat → Nat} (s1 : Asc c a m f) (s2 : Asc c m b f) (hx : ∀ i j, a ≤ i → i < m → m ≤ j → j < b → ltP c (f i) (f j) = true) : Asc c a b f := fun i j hi hij hj => by
  rcases Nat.lt_or_ge j m with e | e
  · exact s1 i j hi hij e
  · rcases Nat.lt_or_ge i m with e2 | e2
    · exact hx i j hi e2 e hj
    · exact s2 i j e2 hij hj
/-- the middle part turned: what stood behind m stands ahead of what stood before it -/
def Rot (s m e : Nat) (f g : Nat → Nat) : Prop := (∀ k, k < s ∨ e ≤ k → g k = f k) ∧ (∀ k, s ≤ k → k < s + (e - m) → g k = f (k - s + m)) ∧ (∀ k, s + (e - m) ≤ k → k < e → g k = f (k - (s + (e - m)) + s))
theorem merge_step {a m b s e mid : Nat} {f g : Nat → Nat} (hL : Asc c a m f) (hR : Asc c m b f) (hp : Lft a m b f) (has : a ≤ s) (hsm : s ≤ m) (hme : m ≤ e) (heb : e ≤ b) (hmid : s + (e - m) = mid)
    (h1 : a < s → e < b → ltC c (f e) (f (s - 1)) = false) (h2 : s < m → m < e → ltC c (f (e - 1)) (f s) = true) (hg : Rot s m e f g) :
    Asc c a s g ∧ Asc c s mid g ∧ Lft a s mid g ∧ Asc c mid e g ∧ Asc c e b g ∧ Lft mid e b g ∧ ∀ i j, a ≤ i → i < mid → mid ≤ j → j < b → ltP c (g i) (g j) = true := by
  obtain ⟨g1, g2, g3⟩ := hg
  rw [hmid] at g2 g3
  have x1 : ∀ i j, a ≤ i → i < s → e ≤ j → j < b → ltP c (f i) (f j) = true := fun i j hi his hj hjb => by
    have hlt := hp (s - 1) e (by omega) (by omega) hme (by omega)
    have hh := h1 (by omega) (by omega)
    rw [ltC_right hlt] at hh
    exact Asc.le h hL (j := s - 1) hi (by omega) (by omega) (Asc.ge h hR (i := e) hme hj hjb (lt_of_not h hlt hh))
  have x2 : ∀ i j, m ≤ i → i < e → s ≤ j → j < m → ltP c (f i) (f j) = true := fun i j hi hie hj hjm => by
    have hlt := hp s (e - 1) has (by omega) (by omega) (by omega)
    have hh := h2 (by omega) (by omega)
    rw [ltC_right hlt] at hh
    exact Asc.le h hR (j := e - 1) hi (by omega) (by omega) (Asc.ge h hL (i := s) has hj hjm hh)
  refine ⟨?_, ?_, ?_, ?_, ?_, ?_, ?_⟩
  · intro i j hi hij hj
    rw [g1 i (.inl (by omega)), g1 j (.inl (by omega))]
    exact hL i j hi hij (by omega)
  · intro i j hi hij hj
    rw [g2 i hi (by omega), g2 j (by omega) hj]
    exact hR _ _ (by omega) (by omega) (by omega)
  · intro i j hi his hj hjm
    rw [g1 i (.inl his), g2 j hj hjm]
    exact hp _ _ hi (by omega) (by omega) (by omega)
  · intro i j hi hij hj
    rw [g3 i hi (by omega), g3 j (by omega) hj]
    exact hL _ _ (by omega) (by omega) (by omega)
  · intro i j hi hij hj
    rw [g1 i (.inr hi), g1 j (.inr (by omega))]
    exact hR i j (by omega) hij hj
  · intro i j hi hie hj hjb
    rw [g3 i hi hie, g1 j (.inr hj)]
    exact hp _ _ (by omega) (by omega) (by omega) hjb
  · intro i j hi him hj hjb
    rcases Nat.lt_or_ge i s with q | q
    · rw [g1 i (.inl q)]
      rcases Nat.lt_or_ge j e with r | r
      · rw [g3 j hj r]; exact hL _ _ hi (by omega) (by omega)
      · rw [g1 j (.inr r)]; exact x1 i j hi q r hjb
    · rw [g2 i q him]
      rcases Nat.lt_or_ge j e with r | r
      · rw [g3 j hj r]; exact x2 _ _ (by omega) (by omega) (by omega) (by omega)
      · rw [g1 j (.inr r)]; exact hR _ _ (by omega) (by omega) hjb
end
end Go.Proofs.Ytkljagffccommaa
namespace Go.Proofs.Ytkljagffccommaa
open Go.RowKit Go.Sort
/-- where the search begins and ends, and what it asks -/
def symS (m b mid : Nat) (a : Nat) : Nat := if mid < m then mid + m - b else a
def symR (m mid : Nat) : Nat := if mid < m then mid else m
def symP (c : Nat → Nat → Int) (f : Nat → Nat) (p x : Nat) : Bool := !(ltC c (f (p - x)) (f x))
theorem sym_in {a m b mid x : Nat} (ha : a < m) (hb : m < b) (hm : mid = (a + b) / 2) (h1 : symS m b mid a ≤ x) (h2 : x < symR m mid) : m ≤ mid + m - 1 - x ∧ mid + m - 1 - x < b ∧ a ≤ x ∧ x < m := by
  unfold symS symR at *
  split at h1 <;> rename_i q
  · rw [if_pos q] at h2; omega
  · rw [if_neg q] at h2; omega
theorem sym_search (c : Nat → Nat → Int) {a m b mid s : Nat} (f : Nat → Nat) (ha : a < m) (hb : m < b) (hm : mid = (a + b) / 2) (hs : s = bs (symP c f (mid + m - 1)) (symS m b mid a) (symR m mid)) :
    a ≤ s ∧ s ≤ m ∧ m ≤ mid + m - s ∧ mid + m - s ≤ b ∧ s + (mid + m - s - m) = mid ∧
    (a < s → mid + m - s < b → ltC c (f (mid + m - s)) (f (s - 1)) = false) ∧ (s < m → m < mid + m - s → ltC c (f (mid + m - s - 1)) (f s) = true) := by
  have hle : symS m b mid a ≤ symR m mid := by
    unfold symS symR
    by_cases q : mid < m
    · rw [if_pos q, if_pos q]; omega
    · rw [if_neg q, if_neg q]; omega
  obtain ⟨b1, b2, b3, b4⟩ := bs_spec (symP c f (mid + m - 1)) _ _ _ rfl hle
  rw [← hs] at b1 b2 b3 b4
  have hb5 : a ≤ s ∧ s ≤ m ∧ m ≤ mid + m - s ∧ mid + m - s ≤ b ∧ s + (mid + m - s - m) = mid ∧ (a < s → mid + m - s < b → symS m b mid a < s) ∧ (s < m → m < mid + m - s → s < symR m mid) := by
    clear b3 b4 hs hle
    by_cases q : mid < m
    · have e1 : symS m b mid a = mid + m - b := if_pos q
      have e2 : symR m mid = mid := if_pos q
      rw [e1] at b1 ⊢
      rw [e2] at b2 ⊢
      omega
    · have e1 : symS m b mid a = a := if_neg q
      have e2 : symR m mid = m := if_neg q
      rw [e1] at b1 ⊢
      rw [e2] at b2 ⊢
      omega
  obtain ⟨c1, c2, c3, c4, c5, c6, c7⟩ := hb5
  refine ⟨c1, c2, c3, c4, c5, fun x y => ?_, fun x y => ?_⟩
  · have := b3 (c6 x y)
    unfold symP at this
    rw [show mid + m - 1 - (s - 1) = mid + m - s by omega] at this
    simpa using this
  · have := b4 (c7 x y)
    unfold symP at this
    rw [show mid + m - 1 - s = mid + m - s - 1 by omega] at this
    simpa using this
section
variable {c : Nat → Nat → Int} (h : OrdC c)
include h
theorem ins_left {a b i : Nat} {f g : Nat → Nat} (hab : a + 1 ≤ b) (hR : Asc c (a + 1) b f) (hp : Lft a (a + 1) b f) (hi : i = bs (fun k => ltC c (f k) (f a)) (a + 1) b)
    (g1 : ∀ k, a ≤ k → k + 1 < i → g k = f (k + 1)) (g2 : g (i - 1) = f a) (g3 : ∀ k, i ≤ k → g k = f k) : Asc c a b g := by
  obtain ⟨b1, b2, b3, b4⟩ := bs_spec (fun k => ltC c (f k) (f a)) _ (a + 1) b rfl hab
  rw [← hi] at b1 b2 b3 b4
  have lo : ∀ k, a + 1 ≤ k → k < i → ltP c (f k) (f a) = true := fun k hk hki => by
    have e := b3 (by omega)
    have hlt := hp a (i - 1) (Nat.le_refl _) (by omega) (by omega) (by omega)
    rw [ltC_right hlt] at e
    exact Asc.le h hR (j := i - 1) hk (by omega) (by omega) e
  have hi' : ∀ k, i ≤ k → k < b → ltP c (f a) (f k) = true := fun k hk hkb => by
    have e := b4 (by omega)
    have hlt := hp a i (Nat.le_refl _) (by omega) (by omega) (by omega)
    rw [ltC_right hlt] at e
    exact Asc.ge h hR (i := i) (by omega) hk hkb (lt_of_not h hlt e)
  intro x y hx hxy hy
  rcases Nat.lt_or_ge (x + 1) i with q | q
  · rw [g1 x hx q]
    rcases Nat.lt_or_ge (y + 1) i with r | r
    · rw [g1 y (by omega) r]; exact hR _ _ (by omega) (by omega) (by omega)
    · rcases Nat.lt_or_ge y i with t | t
      · rw [show y = i - 1 by omega, g2]; exact lo _ (by omega) (by omega)
      · rw [g3 y t]; exact hR _ _ (by omega) (by omega) hy
  · rcases Nat.lt_or_ge x i with t | t
    · rw [show x = i - 1 by omega, g2, g3 y (by omega)]; exact hi' y (by omega) hy
    · rw [g3 x t, g3 y (by omega)]; exact hR _ _ (by omega) hxy hy
theorem ins_right {a m i : Nat} {f g : Nat → Nat} (ham : a ≤ m) (hL : Asc c a m f) (hp : Lft a m (m + 1) f) (hi : i = bs (fun k => !(ltC c (f m) (f k))) a m)
    (g1 : ∀ k, i < k → k ≤ m → g k = f (k - 1)) (g2 : g i = f m) (g3 : ∀ k, k < i → g k = f k) : Asc c a (m + 1) g := by
  obtain ⟨b1, b2, b3, b4⟩ := bs_spec (fun k => !(ltC c (f m) (f k))) _ a m rfl ham
  rw [← hi] at b1 b2 b3 b4
  have lo : ∀ k, a ≤ k → k < i → ltP c (f k) (f m) = true := fun k hk hki => by
    have e := b3 (by omega)
    have hlt := hp (i - 1) m (by omega) (by omega) (Nat.le_refl _) (by omega)
    have e' : ltC c (f m) (f (i - 1)) = false := by simpa using e
    rw [ltC_right hlt] at e'
    exact Asc.le h hL (j := i - 1) hk (by omega) (by omega) (lt_of_not h hlt e')
  have hi' : ∀ k, i ≤ k → k < m → ltP c (f m) (f k) = true := fun k hk hkb => by
    have e := b4 (by omega)
    have hlt := hp i m b1 (by omega) (Nat.le_refl _) (by omega)
    have e' : ltC c (f m) (f i) = true := by simpa using e
    rw [ltC_right hlt] at e'
    exact Asc.ge h hL (i := i) b1 hk hkb e'
  intro x y hx hxy hy
  rcases Nat.lt_or_ge x i with q | q
  · rw [g3 x q]
    rcases Nat.lt_or_ge y i with r | r
    · rw [g3 y r]; exact hL _ _ hx hxy (by omega)
    · rcases Nat.eq_or_lt_of_le r with rfl | t
      · rw [g2]; exact lo x hx q
      · rw [g1 y t (by omega)]; exact hL _ _ hx (by omega) (by omega)
  · rw [g1 y (by omega) (by omega)]
    rcases Nat.eq_or_lt_of_le q with rfl | t
    · rw [g2]; exact hi' _ (by omega) (by omega)
    · rw [g1 x t (by omega)]; exact hL _ _ (by omega) (by omega) (by omega)
end
/-- two stretches of n places change places -/
def Swr (x y n : Nat) (f g : Nat → Nat) : Prop := (∀ t, t < n → g (x + t) = f (y + t) ∧ g (y + t) = f (x + t)) ∧ ∀ k, (k < x ∨ x + n ≤ k) → (k < y ∨ y + n ≤ k) → g k = f k
theorem rot_same {m i : Nat} {f g : Nat → Nat} (hi : i ≤ m) (h : Swr (m - i) m i f g) : Rot (m - i) m (m + i) f g := by
  obtain ⟨h1, h2⟩ := h
  refine ⟨fun k hk => h2 k (by omega) (by omega), fun k a b => ?_, fun k a b => ?_⟩
  · have := (h1 (k - (m - i)) (by omega)).1
    rw [show m - i + (k - (m - i)) = k by omega] at this
    rw [this]; congr 1; omega
  · have := (h1 (k - m) (by omega)).2
    rw [show m + (k - m) = k by omega] at this
    rw [this]; congr 1; omega
theorem rot_more {m i j : Nat} {f g g' : Nat → Nat} (hi : i ≤ m) (hj : j < i) (h : Swr (m - i) m j f g) (r : Rot (m - (i - j)) m (m + j) g g') : Rot (m - i) m (m + j) f g' := by
  obtain ⟨h1, h2⟩ := h
  obtain ⟨r1, r2, r3⟩ := r
  refine ⟨fun k hk => ?_, fun k a b => ?_, fun k a b => ?_⟩
  · rw [r1 k (by omega)]; exact h2 k (by omega) (by omega)
  · rw [r1 k (by omega)]
    have := (h1 (k - (m - i)) (by omega)).1
    rw [show m - i + (k - (m - i)) = k by omega] at this
    rw [this]; congr 1; omega
  · rcases Nat.lt_or_ge k (m - (i - j) + j) with q | q
    · rw [r2 k (by omega) (by omega)]
      have := (h1 (k - (m - (i - j))) (by omega)).2
      rw [show m + (k - (m - (i - j))) = k - (m - (i - j)) + m by omega] at this
      rw [this]; congr 1; omega
    · rw [r3 k (by omega) b, h2 _ (by omega) (by omega)]; congr 1; omega
theorem rot_less {m i j : Nat} {f g g' : Nat → Nat} (hi : i ≤ m) (hj : i < j) (h : Swr (m - i) (m + j - i) i f g) (r : Rot (m - i) m (m + (j - i)) g g') : Rot (m - i) m (m + j) f g' := by
  obtain ⟨h1, h2⟩ := h
  obtain ⟨r1, r2, r3⟩ := r
  refine ⟨fun k hk => ?_, fun k a b => ?_, fun k a b => ?_⟩
  · rw [r1 k (by omega)]; exact h2 k (by omega) (by omega)
  · rcases Nat.lt_or_ge k (m - i + (j - i)) with q | q
    · rw [r2 k a (by omega), h2 _ (by omega) (by omega)]
    · rw [r3 k (by omega) (by omega)]
      have := (h1 (k - (m - i + (j - i))) (by omega)).1
      rw [show m - i + (k - (m - i + (j - i))) = k - (m - i + (m + (j - i) - m)) + (m - i) by omega] at this
      rw [this]; congr 1; omega
  · rw [r1 k (by omega)]
    have := (h1 (k - (m + j - i)) (by omega)).2
    rw [show m + j - i + (k - (m + j - i)) = k by omega] at this
    rw [this]; congr 1; omega
end Go.Proofs.Ytkljagffccommaa
namespace Go.Proofs.Ytkljagffccommaa
open Go.RowKit Go.Sort
def cmpP (l : List Tm) (i j : Nat) : Int := cmpT (l.getD i (lfT 1)) (l.getD j (lfT 1))
theorem cmpP_ord (l : List Tm) : OrdC (cmpP l) := ⟨fun _ _ => cmpT_swap _ _, fun _ _ _ => cmpT_trans _ _ _⟩
theorem asc_ord {c : Nat → Nat → Int} {n : Nat} {f : Nat → Nat} (h : Asc c 0 n f) : inOrd c ((List.range n).map f) := by
  unfold inOrd
  rw [List.pairwise_map, List.pairwise_iff_getElem]
  intro i j hi hj hij
  rw [List.length_range] at hi hj
  rw [List.getElem_range, List.getElem_range]
  exact of_decide_eq_true (h i j (Nat.zero_le _) hij hj)
/-- the marks that places in order give leave what once leaves -/
theorem asc_once (l : List Tm) (f : Nat → Nat) (h : Asc (cmpP l) 0 l.length f) (hp : ((List.range l.length).map f).Perm (List.range l.length)) (B : Nat → Bool)
    (hB : ∀ k, k < l.length → B (f k) = decide (0 < k ∧ cmpP l (f (k - 1)) (f k) = 0)) : keepP B l 0 = once [] l := by
  apply marks_are l ((List.range l.length).map f) (fun i hi => hp.mem_iff.2 (List.mem_range.2 hi)) (fun i hi => List.mem_range.1 (hp.mem_iff.1 hi)) (asc_ord h) B
  intro k j hk
  rw [List.getElem?_map] at hk
  by_cases hkn : k < l.length
  · rw [List.getElem?_range hkn] at hk
    obtain rfl : f k = j := Option.some.inj hk
    rw [hB k hkn]
    apply decide_eq_decide.2
    constructor
    · rintro ⟨h0, e⟩
      exact ⟨h0, f (k - 1), by rw [List.getElem?_map, List.getElem?_range (by omega)]; rfl, e⟩
    · rintro ⟨h0, i, hi, e⟩
      rw [List.getElem?_map, List.getElem?_range (show k - 1 < l.length by omega)] at hi
      obtain rfl : f (k - 1) = i := Option.some.inj hi
      exact ⟨h0, e⟩
  · rw [List.getElem?_eq_none (by rw [List.length_range]; omega)] at hk
    cases hk
/-- between a and b stand the places from a to b -/
def InB (a b : Nat) (f : Nat → Nat) : Prop := ∀ i, a ≤ i → i < b → a ≤ f i ∧ f i < b
theorem InB.lft {a m b : Nat} {f : Nat → Nat} (h1 : InB a m f) (h2 : InB m b f) : Lft a m b f := fun i j hi him hj hjb => by
  have := (h1 i hi him).2
  have := (h2 j hj hjb).1
  omega
theorem InB.join {a m b : Nat} {f : Nat → Nat} (h1 : InB a m f) (h2 : InB m b f) (ham : a ≤ m) (hmb : m ≤ b) : InB a b f := fun i hi hib => by
  rcases Nat.lt_or_ge i m with e | e
  · have := h1 i hi e; omega
  · have := h2 i e hib; omega
theorem InB.perm {a b : Nat} {d d' : Array Nat} (h : InB a b fun i => d[i]!) (hb : b ≤ d.size) (hp : PermIn a b d d') : InB a b fun i => d'[i]! :=
  fun i hi hib => permIn_all d d' a b (fun x => a ≤ x ∧ x < b) hb hp (fun j hj hjb => h j hj hjb) i hi hib
theorem InB.same {a b : Nat} {f g : Nat → Nat} (h : InB a b f) (e : ∀ i, a ≤ i → i < b → g i = f i) : InB a b g := fun i hi hib => by rw [e i hi hib]; exact h i hi hib
theorem Asc.same {c : Nat → Nat → Int} {a b : Nat} {f g : Nat → Nat} (h : Asc c a b f) (e : ∀ i, a ≤ i → i < b → g i = f i) : Asc c a b g := fun i j hi hij hj => by
  rw [e i hi (by omega), e j (by omega) hj]; exact h i j hi hij hj
/-- the kit's sorted rows, as they are told here -/
theorem sorted_asc {c : Nat → Nat → Int} (h : OrdC c) {a b : Nat} {d : Array Nat} (hs : SortedIn (ltP c) a b d) (hd : ∀ i j, a ≤ i → i < j → j < b → d[i]! ≠ d[j]!) : Asc c a b fun i => d[i]! := fun i j hi hij hj => by
  rcases (ltP_not h).1 (hs i j hi hij hj) with e | e
  · exact absurd e.symm (hd i j hi hij hj)
  · exact e
end Go.Proofs.Ytkljagffccommaa
