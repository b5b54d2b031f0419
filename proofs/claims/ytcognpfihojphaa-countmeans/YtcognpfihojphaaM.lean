/- Plain facts on vectors of bits as lists of words (no program in it): the one form, bits, that the one form with given bits is one, counts. -/
namespace Go.Proofs.Ytcognpfihojphaa

/-- the vector without words 0 at its end -/
def canon (xs : List (BitVec 64)) : List (BitVec 64) := (xs.reverse.dropWhile (· == 0#64)).reverse
/-- the bit i of a vector -/
def bit (xs : List (BitVec 64)) (i : Nat) : Bool := (xs.getD (i / 64) 0#64).getLsbD (i % 64)
/-- the word j of a vector -/
def wd (xs : List (BitVec 64)) (j : Nat) : BitVec 64 := xs.getD j 0#64
/-- no word 0 at the end -/
def Can (xs : List (BitVec 64)) : Prop := 0 < xs.length → xs.getD (xs.length - 1) 0#64 ≠ 0#64
/-- how many bits are set -/
def cnt (xs : List (BitVec 64)) : Nat := (List.range (64 * xs.length)).countP (bit xs)

theorem canon_nil : canon [] = [] := rfl
theorem canon_snoc_zero (xs : List (BitVec 64)) : canon (xs ++ [0#64]) = canon xs := by simp [canon]
theorem canon_snoc (xs : List (BitVec 64)) (x : BitVec 64) (h : x ≠ 0#64) : canon (xs ++ [x]) = xs ++ [x] := by
  have h' : (x == (0#64)) = false := by simpa using h
  simp [canon, List.dropWhile_cons, h']
theorem canon_le (xs : List (BitVec 64)) : (canon xs).length ≤ xs.length := by
  unfold canon
  rw [List.length_reverse]
  have := (List.dropWhile_sublist (· == 0#64) (l := xs.reverse)).length_le
  simpa using this
theorem canon_prefix (xs : List (BitVec 64)) : canon xs <+: xs := by
  unfold canon
  have := List.dropWhile_suffix (l := xs.reverse) (· == 0#64)
  have h2 := List.reverse_prefix.2 this
  simpa using h2
theorem canon_take (xs : List (BitVec 64)) : xs.take (canon xs).length = canon xs := (List.prefix_iff_eq_take.1 (canon_prefix xs)).symm

theorem snoc_ind {P : List (BitVec 64) → Prop} (h0 : P []) (h1 : ∀ xs x, P xs → P (xs ++ [x])) : ∀ xs, P xs := by
  intro xs
  rw [← List.reverse_reverse xs]
  induction xs.reverse with
  | nil => exact h0
  | cons x r ih => rw [List.reverse_cons]; exact h1 _ _ ih

theorem can_canon (xs : List (BitVec 64)) : Can (canon xs) := by
  refine snoc_ind (P := fun xs => Can (canon xs)) ?_ ?_ xs
  · intro h; simp [canon] at h
  · intro ys y ih
    by_cases hy : y = 0#64
    · subst hy; rw [canon_snoc_zero]; exact ih
    · rw [canon_snoc _ _ hy]; intro _; simpa [List.getD] using hy

theorem canon_of_can (xs : List (BitVec 64)) (h : Can xs) : canon xs = xs := by
  revert h
  refine snoc_ind (P := fun xs => Can xs → canon xs = xs) ?_ ?_ xs
  · intro _; rfl
  · intro ys y _ hc
    have : y ≠ 0#64 := by simpa [Can, List.getD] using hc
    exact canon_snoc _ _ this

theorem getD_snoc (xs : List (BitVec 64)) (x : BitVec 64) (j : Nat) : (xs ++ [x]).getD j 0#64 = if j = xs.length then x else xs.getD j 0#64 := by
  simp only [List.getD, List.getElem?_append]
  by_cases h : j < xs.length
  · rw [if_pos h, if_neg (by omega)]
  · rw [if_neg h]
    by_cases h2 : j = xs.length
    · subst h2; simp
    · rw [if_neg h2]
      have h3 : xs[j]? = none := List.getElem?_eq_none (by omega)
      have h4 : [x][j - xs.length]? = none := List.getElem?_eq_none (by simp; omega)
      rw [h3, h4]

theorem canon_getD (xs : List (BitVec 64)) (j : Nat) : (canon xs).getD j 0#64 = xs.getD j 0#64 := by
  refine snoc_ind (P := fun xs => (canon xs).getD j 0#64 = xs.getD j 0#64) ?_ ?_ xs
  · rfl
  · intro ys y ih
    by_cases hy : y = 0#64
    · subst hy
      rw [canon_snoc_zero, ih, getD_snoc]
      split
      · rename_i h; subst h; simp [List.getD]
      · rfl
    · rw [canon_snoc _ _ hy]

theorem bit_canon (xs : List (BitVec 64)) (i : Nat) : bit (canon xs) i = bit xs i := by unfold bit; rw [canon_getD]

theorem getD_of_bit (xs ys : List (BitVec 64)) (h : ∀ i, bit xs i = bit ys i) (j : Nat) : xs.getD j 0#64 = ys.getD j 0#64 := by
  apply BitVec.eq_of_getLsbD_eq
  intro l hl
  have := h (64 * j + l)
  unfold bit at this
  rw [show (64 * j + l) / 64 = j by omega, show (64 * j + l) % 64 = l by omega] at this
  exact this

theorem can_len (xs ys : List (BitVec 64)) (hy : Can ys) (h : ∀ j, xs.getD j 0#64 = ys.getD j 0#64) : ys.length ≤ xs.length := by
  rcases Nat.lt_or_ge xs.length ys.length with hlt | hge
  · exfalso
    have h1 := hy (by omega)
    apply h1
    rw [← h]
    simp [List.getD, List.getElem?_eq_none (show xs.length ≤ ys.length - 1 by omega)]
  · exact hge

/-- two vectors in the one form with the same bits are one -/
theorem bit_ext (xs ys : List (BitVec 64)) (hx : Can xs) (hy : Can ys) (h : ∀ i, bit xs i = bit ys i) : xs = ys := by
  have hg := getD_of_bit xs ys h
  have l1 := can_len xs ys hy hg
  have l2 := can_len ys xs hx (fun j => (hg j).symm)
  apply List.ext_getElem (by omega)
  intro j h1 h2
  have := hg j
  simpa [List.getD, h1, h2] using this

theorem can_nil : Can [] := fun h => by simp at h

theorem bit_big (xs : List (BitVec 64)) (i : Nat) (h : 64 * xs.length ≤ i) : bit xs i = false := by
  unfold bit
  have : xs.getD (i / 64) 0#64 = 0#64 := by simp [List.getD, List.getElem?_eq_none (show xs.length ≤ i / 64 by omega)]
  rw [this]; simp

theorem can_nil_of (xs : List (BitVec 64)) (hx : Can xs) (h : ∀ i, bit xs i = false) : xs = [] :=
  bit_ext xs [] hx can_nil fun i => by rw [h]; simp [bit]

theorem countP_range_more (p : Nat → Bool) (N : Nat) : ∀ d, (∀ i, N ≤ i → p i = false) → (List.range (N + d)).countP p = (List.range N).countP p
  | 0, _ => rfl
  | d + 1, h => by
    rw [← Nat.add_assoc, List.range_succ, List.countP_append, countP_range_more p N d h]
    simp [h (N + d) (by omega)]

theorem cnt_eq (xs : List (BitVec 64)) (N : Nat) (h : 64 * xs.length ≤ N) : cnt xs = (List.range N).countP (bit xs) := by
  obtain ⟨d, rfl⟩ : ∃ d, N = 64 * xs.length + d := ⟨N - 64 * xs.length, by omega⟩
  rw [countP_range_more _ _ _ (bit_big xs)]; rfl

theorem cnt_congr (xs ys : List (BitVec 64)) (h : ∀ i, bit xs i = bit ys i) : cnt xs = cnt ys := by
  rw [cnt_eq xs (64 * xs.length + 64 * ys.length) (by omega), cnt_eq ys (64 * xs.length + 64 * ys.length) (by omega)]
  exact List.countP_congr fun i _ => by rw [h]

theorem cnt_canon (xs : List (BitVec 64)) : cnt (canon xs) = cnt xs := cnt_congr _ _ (bit_canon xs)

theorem countP_two (p q : Nat → Bool) : ∀ l : List Nat, l.countP (fun i => p i && q i) + l.countP (fun i => p i || q i) = l.countP p + l.countP q
  | [] => rfl
  | a :: l => by
    have ih := countP_two p q l
    simp only [List.countP_cons]
    cases p a <;> cases q a <;> simp <;> omega

theorem cnt_and_or (a b x y : List (BitVec 64)) (hx : ∀ i, bit x i = (bit a i && bit b i)) (hy : ∀ i, bit y i = (bit a i || bit b i)) : cnt x + cnt y = cnt a + cnt b := by
  let N := 64 * a.length + 64 * b.length + 64 * x.length + 64 * y.length
  rw [cnt_eq x N (by omega), cnt_eq y N (by omega), cnt_eq a N (by omega), cnt_eq b N (by omega), ← countP_two (bit a) (bit b)]
  congr 1
  · exact List.countP_congr fun i _ => by rw [hx]
  · exact List.countP_congr fun i _ => by rw [hy]

theorem countP_shift (p : Nat → Bool) (n : Nat) : ∀ N, (List.range (n + N)).countP (fun i => decide (n ≤ i) && p (i - n)) = (List.range N).countP p
  | 0 => by
    rw [Nat.add_zero]
    simp only [List.range_zero, List.countP_nil]
    rw [List.countP_eq_zero]
    intro i hi
    have := List.mem_range.1 hi
    simp; intro h; omega
  | N + 1 => by
    rw [← Nat.add_assoc, List.range_succ, List.range_succ, List.countP_append, List.countP_append, countP_shift p n N]
    simp

theorem cnt_up (a x : List (BitVec 64)) (n : Nat) (hx : ∀ i, bit x i = (decide (n ≤ i) && bit a (i - n))) : cnt x = cnt a := by
  let N := 64 * a.length + 64 * x.length
  rw [cnt_eq x (n + N) (by omega), cnt_eq a N (by omega), ← countP_shift (bit a) n N]
  exact List.countP_congr fun i _ => by rw [hx]

/-- the vector of the first n words that f gives -/
def mkv (f : Nat → BitVec 64) (n : Nat) : List (BitVec 64) := (List.range n).map f
theorem len_mkv (f : Nat → BitVec 64) (n : Nat) : (mkv f n).length = n := by simp [mkv]
theorem getD_mkv (f : Nat → BitVec 64) (n j : Nat) : (mkv f n).getD j 0#64 = if j < n then f j else 0#64 := by
  unfold mkv
  simp only [List.getD, List.getElem?_map]
  by_cases h : j < n
  · rw [if_pos h, List.getElem?_range h]; rfl
  · rw [if_neg h, List.getElem?_eq_none (by simp; omega)]; rfl

/-- two vectors joined word by word -/
def joinv (f : BitVec 64 → BitVec 64 → BitVec 64) (a b : List (BitVec 64)) : List (BitVec 64) := mkv (fun j => f (wd a j) (wd b j)) (max a.length b.length)

theorem bit_joinv (f : BitVec 64 → BitVec 64 → BitVec 64) (g : Bool → Bool → Bool) (h : ∀ x y l, l < 64 → (f x y).getLsbD l = g (x.getLsbD l) (y.getLsbD l)) (h0 : g false false = false)
    (a b : List (BitVec 64)) (i : Nat) : bit (joinv f a b) i = g (bit a i) (bit b i) := by
  unfold bit joinv wd
  rw [getD_mkv]
  by_cases hi : i / 64 < max a.length b.length
  · rw [if_pos hi, h _ _ _ (by omega)]
  · rw [if_neg hi]
    have ha : a.getD (i / 64) 0#64 = 0#64 := by simp [List.getD, List.getElem?_eq_none (show a.length ≤ i / 64 by omega)]
    have hb : b.getD (i / 64) 0#64 = 0#64 := by simp [List.getD, List.getElem?_eq_none (show b.length ≤ i / 64 by omega)]
    rw [ha, hb]; simp [h0]

def andv (a b : List (BitVec 64)) : List (BitVec 64) := canon (joinv (fun x y => x &&& y) a b)
def orv (a b : List (BitVec 64)) : List (BitVec 64) := canon (joinv (fun x y => x ||| y) a b)
def minusv (a b : List (BitVec 64)) : List (BitVec 64) := canon (joinv (fun x y => x &&& ~~~y) a b)

theorem bit_andv (a b : List (BitVec 64)) (i : Nat) : bit (andv a b) i = (bit a i && bit b i) := by
  unfold andv; rw [bit_canon]
  exact bit_joinv _ (fun p q => p && q) (fun x y l _ => by simp) rfl a b i
theorem bit_orv (a b : List (BitVec 64)) (i : Nat) : bit (orv a b) i = (bit a i || bit b i) := by
  unfold orv; rw [bit_canon]
  exact bit_joinv _ (fun p q => p || q) (fun x y l _ => by simp) rfl a b i
theorem bit_minusv (a b : List (BitVec 64)) (i : Nat) : bit (minusv a b) i = (bit a i && !bit b i) := by
  unfold minusv; rw [bit_canon]
  exact bit_joinv _ (fun p q => p && !q) (fun x y l hl => by simp [hl]) rfl a b i
theorem can_andv (a b : List (BitVec 64)) : Can (andv a b) := can_canon _
theorem can_orv (a b : List (BitVec 64)) : Can (orv a b) := can_canon _
theorem can_minusv (a b : List (BitVec 64)) : Can (minusv a b) := can_canon _
theorem len_joinv (f : BitVec 64 → BitVec 64 → BitVec 64) (a b : List (BitVec 64)) : (joinv f a b).length = max a.length b.length := len_mkv _ _
theorem len_canon_joinv (f : BitVec 64 → BitVec 64 → BitVec 64) (a b : List (BitVec 64)) : (canon (joinv f a b)).length ≤ max a.length b.length := by
  have := canon_le (joinv f a b); rw [len_joinv] at this; exact this

/-- the first k of the n words that f gives, the others 0 -/
def partv (f : Nat → BitVec 64) (n k : Nat) : List (BitVec 64) := mkv (fun j => if j < k then f j else 0#64) n
theorem len_partv (f : Nat → BitVec 64) (n k : Nat) : (partv f n k).length = n := len_mkv _ _
theorem partv_set (f : Nat → BitVec 64) (n k : Nat) : (partv f n k).set k (f k) = partv f n (k + 1) := by
  unfold partv mkv
  apply List.ext_getElem (by simp)
  intro j h1 h2
  simp only [List.getElem_set, List.getElem_map, List.getElem_range]
  by_cases h : k = j
  · subst h; simp
  · rw [if_neg h]
    by_cases h' : j < k
    · rw [if_pos h', if_pos (by omega)]
    · rw [if_neg h', if_neg (by omega)]
theorem partv_full (f : Nat → BitVec 64) (n : Nat) : partv f n n = mkv f n := by
  unfold partv mkv
  apply List.map_congr_left
  intro j hj
  rw [if_pos (List.mem_range.1 hj)]
theorem partv_zero (f : Nat → BitVec 64) (n : Nat) : partv f n 0 = List.replicate n 0#64 := by
  unfold partv mkv
  apply List.ext_getElem (by simp)
  intro j h1 h2
  simp
end Go.Proofs.Ytcognpfihojphaa
