/- What the program reads as an escape, an item, a class is what the document does: pure. What the program reads as a number, a quant, a single atom is a token of the document: pure. What was read as a tree: its tokens, its term; the document's list of tokens, place by place: pure. A text that the program's reader reads is a tree of the document's tokens: pure. All of a text: the program's reader and the document's tokens agree, and what is read is their tree: pure. What Parse answers, told by the document's tokens: pure. -/
import Derived.Test.YtnaecagmcpndhaaF20
import Derived.Test.YtnaecagmcpndhaaF22
namespace Go.Proofs.Ytnaecagmcpndhaa
open Go.RowKit
/-- what is read by places, as the program's reader tells it -/
def cv {α β : Type} (s : St) (f : α → β) (r : Except Nat (α × Nat)) : Except Nat (β × St) :=
  match r with
  | .error p => .error p
  | .ok (a, j) => .ok (f a, { s with i := j })
theorem sb_in {bs : List Nat} {i b : Nat} (h : i < bs.length) : sb bs i b = decide (bn bs i = b) := by unfold sb; simp [h]
theorem sb_out {bs : List Nat} {i b : Nat} (h : ¬ i < bs.length) : sb bs i b = false := by unfold sb; simp [h]
theorem hex_eq (bs : List Nat) (s : St) (h : s.i ≤ bs.length) : hexF bs s = cv s id (hexR bs s.i) := by
  unfold hexF hexR
  by_cases hl : s.i < bs.length
  · rw [if_pos hl, if_pos hl]
    cases hexv (bn bs s.i) <;> rfl
  · rw [if_neg hl, if_neg hl]
    have : s.i = bs.length := by omega
    rw [this]; rfl
theorem hexR_le {bs : List Nat} {i v j : Nat} (h : hexR bs i = .ok (v, j)) : j ≤ bs.length ∧ i < j := by
  unfold hexR at h
  split at h
  · split at h
    · injection h with h; injection h with _ h; omega
    · cases h
  · cases h
theorem escR_one {bs : List Nat} {i j : Nat} {many : Bool} {a : Esc} (h : escR bs i many = .ok (a, j)) (hm : many = false ∨ mng (bn bs i) = none) : a.1 = rgF a.2.1 a.2.1 ∧ a.2.2 = true := by
  unfold escR at h
  split at h
  · split at h
    · injection h with h; injection h with h _; subst h; exact ⟨rfl, rfl⟩
    split at h
    · injection h with h; injection h with h _; subst h; exact ⟨rfl, rfl⟩
    split at h
    · injection h with h; injection h with h _; subst h; exact ⟨rfl, rfl⟩
    split at h
    · obtain ⟨x, y, h1, h⟩ := thR_ok h
      obtain ⟨x2, y2, h2, h⟩ := thR_ok h
      injection h with h; injection h with h _; subst h; exact ⟨rfl, rfl⟩
    split at h
    · injection h with h; injection h with h _; subst h; exact ⟨rfl, rfl⟩
    · rcases hm with rfl | hm
      · split at h
        · simp at h
        · cases h
      · rw [hm] at h; cases h
  · cases h
theorem escR_le {bs : List Nat} {i j : Nat} {many : Bool} {a : Esc} (h : escR bs i many = .ok (a, j)) : j ≤ bs.length := by
  unfold escR at h
  split at h
  · split at h
    · injection h with h; injection h with _ h; omega
    split at h
    · injection h with h; injection h with _ h; omega
    split at h
    · injection h with h; injection h with _ h; omega
    split at h
    · obtain ⟨x, y, h1, h⟩ := thR_ok h
      obtain ⟨x2, y2, h2, h⟩ := thR_ok h
      injection h with h; injection h with _ h
      have := hexR_le h2; omega
    split at h
    · injection h with h; injection h with _ h; omega
    · split at h
      · split at h
        · injection h with h; injection h with _ h; omega
        · cases h
      · cases h
  · cases h
theorem endR_le {bs : List Nat} {i j : Nat} {many : Bool} {a : Esc} (h : endR bs i many = .ok (a, j)) : j ≤ bs.length := by
  unfold endR at h
  split at h
  · split at h
    · exact escR_le h
    split at h
    · cases h
    · injection h with h; injection h with _ h; omega
  · cases h
theorem escRest_eq (bs : List Nat) (s : St) (h : s.i ≤ bs.length) : escRest bs s = cv s (fun a => a.2.1) (escR bs s.i false) := by
  unfold escRest escR escTail
  by_cases hl : s.i < bs.length
  · rw [sb_in hl, sb_in hl, sb_in hl, sb_in hl, if_pos hl]
    by_cases h1 : bn bs s.i = 110
    · rw [if_pos h1, if_pos (decide_eq_true h1)]; rfl
    rw [if_neg h1, if_neg (by simp [h1])]
    by_cases h2 : bn bs s.i = 116
    · rw [if_pos h2, if_pos (decide_eq_true h2)]; rfl
    rw [if_neg h2, if_neg (by simp [h2])]
    by_cases h3 : bn bs s.i = 114
    · rw [if_pos h3, if_pos (decide_eq_true h3)]; rfl
    rw [if_neg h3, if_neg (by simp [h3])]
    by_cases h4 : bn bs s.i = 120
    · rw [if_pos h4, if_pos (decide_eq_true h4), hex_eq bs s.nx (by show s.i + 1 ≤ _; omega)]
      show thn (cv s.nx id (hexR bs (s.i + 1))) _ = _
      cases hx : hexR bs (s.i + 1) with
      | error p => rfl
      | ok x =>
        obtain ⟨v, j⟩ := x
        have hj := hexR_le hx
        show thn (hexF bs { s.nx with i := j }) _ = cv s _ (thR (hexR bs j) _)
        rw [hex_eq bs { s.nx with i := j } hj.1]
        show thn (cv _ id (hexR bs j)) _ = _
        cases hexR bs j with
        | error p => rfl
        | ok x => obtain ⟨v2, j2⟩ := x; rfl
    rw [if_neg h4, if_neg (by simp [h4])]
    cases hm : isM (bn bs s.i) with
    | true => rw [if_pos ⟨hl, rfl⟩, if_pos rfl]; rfl
    | false =>
      rw [if_neg (by simp), if_neg (by decide)]
      cases mng (bn bs s.i) <;> rfl
  · have e : s.i = bs.length := by omega
    rw [sb_out hl, sb_out hl, sb_out hl, sb_out hl, if_neg hl, if_neg (by decide), if_neg (by decide), if_neg (by decide), if_neg (by decide), if_neg (fun h => hl h.1), e]; rfl
theorem escaped_eq (bs : List Nat) (s : St) (h : sb bs s.i 92 = true) : escapedF bs s = cv s (fun a => a.2.1) (escR bs (s.i + 1) false) := by
  have hl := (sb_lt h).1
  unfold escapedF mustF
  rw [if_pos h]
  show escRest bs s.nx = _
  rw [escRest_eq bs s.nx (by show s.i + 1 ≤ _; omega)]
  show cv s.nx _ (escR bs (s.i + 1) false) = _
  cases escR bs (s.i + 1) false with
  | error p => rfl
  | ok x => obtain ⟨a, j⟩ := x; rfl
theorem mng_not {y : Nat} {f : Nat → Bool} (h : mng y = some f) : y ≠ 110 ∧ y ≠ 116 ∧ y ≠ 114 ∧ y ≠ 120 ∧ isM y = false := by
  have := (let_some h).1
  unfold isLet at this
  simp at this
  have hc : y = 100 ∨ y = 119 ∨ y = 115 ∨ y = 68 ∨ y = 87 ∨ y = 83 := by omega
  rcases hc with rfl | rfl | rfl | rfl | rfl | rfl <;> decide
theorem escR_let {bs : List Nat} {i : Nat} {f : Nat → Bool} (hl : i < bs.length) (h : mng (bn bs i) = some f) : escR bs i true = .ok ((f, 0, false), i + 1) := by
  obtain ⟨n1, n2, n3, n4, n5⟩ := mng_not h
  unfold escR
  rw [if_pos hl, if_neg n1, if_neg n2, if_neg n3, if_neg n4, if_neg (by rw [n5]; decide), h]; rfl
theorem escR_same {bs : List Nat} {i : Nat} (h : ¬ i < bs.length ∨ mng (bn bs i) = none) : escR bs i true = escR bs i false := by
  unfold escR
  by_cases hl : i < bs.length
  · rw [h.resolve_left (fun h => h hl)]
  · rw [if_neg hl, if_neg hl]
/-- what letterF tells -/
theorem letter_cases (bs : List Nat) (s : St) : (∃ f, sb bs s.i 92 = true ∧ s.i + 1 < bs.length ∧ mng (bn bs (s.i + 1)) = some f ∧ letterF bs s = (some f, { s with i := s.i + 2 })) ∨ ((sb bs s.i 92 = true → ¬ s.i + 1 < bs.length ∨ mng (bn bs (s.i + 1)) = none) ∧ ∃ s', letterF bs s = (none, s')) := by
  unfold letterF
  by_cases h : sb bs s.i 92 = true ∧ s.i + 1 < bs.length
  · rw [if_pos h]
    cases hm : mng (bn bs (s.i + 1)) with
    | some f => exact .inl ⟨f, h.1, h.2, rfl, rfl⟩
    | none => exact .inr ⟨fun _ => .inr rfl, s, rfl⟩
  · rw [if_neg h]
    exact .inr ⟨fun h1 => .inl fun h2 => h ⟨h1, h2⟩, s, rfl⟩
theorem escape_eq (bs : List Nat) (s : St) (h : sb bs s.i 92 = true) : escapeF bs s = cv s (fun a => a.1) (escR bs (s.i + 1) true) := by
  unfold escapeF
  rcases letter_cases bs s with ⟨f, h1, h2, h3, h4⟩ | ⟨h1, s', h4⟩
  · rw [h4, escR_let h2 h3]; rfl
  · rw [h4, escR_same (h1 h)]
    show thn (escapedF bs s) _ = _
    rw [escaped_eq bs s h]
    cases hr : escR bs (s.i + 1) false with
    | error p => rfl
    | ok x =>
      obtain ⟨a, j⟩ := x
      show Except.ok (rgF a.2.1 a.2.1, _) = Except.ok (a.1, _)
      rw [(escR_one hr (.inl rfl)).1]
theorem end_eq (bs : List Nat) (s : St) (h : s.i ≤ bs.length) : endF bs s = cv s (fun a => a.2.1) (endR bs s.i false) := by
  unfold endF endR
  by_cases hl : s.i < bs.length
  · rw [if_pos hl, sb_in hl]
    by_cases h1 : bn bs s.i = 92
    · rw [if_pos h1, if_pos (decide_eq_true h1), escaped_eq bs s (by rw [sb_in hl]; exact decide_eq_true h1)]
    · rw [if_neg h1, if_neg (by simp [h1])]
      unfold takeButF
      by_cases h2 : bn bs s.i = 91 ∨ bn bs s.i = 93 ∨ bn bs s.i = 94 ∨ bn bs s.i = 45
      · rw [if_pos h2, if_neg (by simp [hl, h2])]; rfl
      · rw [if_neg h2, if_pos (by simp [hl]; omega)]; rfl
  · have e : s.i = bs.length := by omega
    rw [if_neg hl, sb_out hl, if_neg (by decide)]
    unfold takeButF
    rw [if_neg (fun h => hl h.1), e]; rfl
theorem endR_one {bs : List Nat} {i j : Nat} {a : Esc} (h : endR bs i false = .ok (a, j)) : a.1 = rgF a.2.1 a.2.1 ∧ a.2.2 = true := by
  unfold endR at h
  split at h
  · split at h
    · exact escR_one h (.inl rfl)
    split at h
    · cases h
    · injection h with h; injection h with h _; subst h; exact ⟨rfl, rfl⟩
  · cases h
theorem item_eq (bs : List Nat) (s : St) (h : s.i ≤ bs.length) : itemF bs s = cv s id (itR bs s.i) := by
  unfold itemF itR
  rcases letter_cases bs s with ⟨f, h1, h2, h3, h4⟩ | ⟨h1, s', h4⟩
  · have hl := (sb_lt h1).1
    have e : endR bs s.i true = .ok ((f, 0, false), s.i + 1 + 1) := by
      unfold endR; rw [if_pos hl, if_pos (sb_lt h1).2, escR_let h2 h3]
    rw [h4, e]; rfl
  · have e : endR bs s.i true = endR bs s.i false := by
      unfold endR
      by_cases hl : s.i < bs.length
      · rw [if_pos hl, if_pos hl]
        by_cases h2 : bn bs s.i = 92
        · rw [if_pos h2, if_pos h2, escR_same (h1 (by rw [sb_in hl]; exact decide_eq_true h2))]
        · rw [if_neg h2, if_neg h2]
      · rw [if_neg hl, if_neg hl]
    rw [h4, e]
    show thn (endF bs s) _ = _
    rw [end_eq bs s h]
    cases hr : endR bs s.i false with
    | error p => rfl
    | ok x =>
      obtain ⟨a, j⟩ := x
      obtain ⟨o1, o2⟩ := endR_one hr
      have hj := endR_le hr
      show (if sb bs j 45 then thn (endF bs _) _ else Except.ok (rgF a.2.1 a.2.1, _)) = cv s id (if a.2.2 && sb bs j 45 then _ else _)
      rw [o2, Bool.true_and]
      cases hs : sb bs j 45 with
      | false => rw [if_neg (by decide), if_neg (by decide), o1]; rfl
      | true =>
        rw [if_pos rfl, if_pos rfl]
        have hl := (sb_lt hs).1
        rw [end_eq bs _ (by show j + 1 ≤ _; omega)]
        show thn (cv _ _ (endR bs (j + 1) false)) _ = cv s id (thR (endR bs (j + 1) false) _)
        cases endR bs (j + 1) false with
        | error p => rfl
        | ok y => obtain ⟨b, k⟩ := y; rfl
theorem itR_le {bs : List Nat} {i j : Nat} {f : Nat → Bool} (h : itR bs i = .ok (f, j)) : j ≤ bs.length := by
  unfold itR at h
  obtain ⟨x, y, h1, h⟩ := thR_ok h
  have := endR_le h1
  split at h
  · obtain ⟨x2, y2, h2, h⟩ := thR_ok h
    have := endR_le h2
    injection h with h; injection h with _ h; omega
  · injection h with h; injection h with _ h; omega
theorem cls_eq (bs : List Nat) : ∀ (n m : Nat) (f : Nat → Bool) (s : St), s.i ≤ bs.length → bs.length < n + s.i → bs.length < m + s.i → clsL bs n f s = cv s id (clsR bs m false f s.i)
  | 0, m, f, s, h, h1, h2 => by omega
  | n + 1, 0, f, s, h, h1, h2 => by omega
  | n + 1, m + 1, f, s, h, h1, h2 => by
    rw [clsL, clsR]
    cases hs : sb bs s.i 93 with
    | true => rw [if_pos rfl, if_pos ⟨rfl, rfl⟩]; rfl
    | false =>
      rw [if_neg (by decide), if_neg (by simp), item_eq bs s h]
      cases hr : itR bs s.i with
      | error p => rfl
      | ok x =>
        obtain ⟨g, j⟩ := x
        have h3 := itR_lt hr
        have h4 := itR_le hr
        show clsL bs n (fun i => f i || g i) { s with i := j } = cv s id (clsR bs m false (fun k => f k || g k) j)
        rw [cls_eq bs n m _ { s with i := j } h4 (by show _ < n + j; omega) (by show _ < m + j; omega)]
        show cv _ id (clsR bs m false _ j) = _
        cases clsR bs m false (fun k => f k || g k) j with
        | error p => rfl
        | ok y => obtain ⟨b, k⟩ := y; rfl
theorem class_eq (bs : List Nat) (s : St) (h : sb bs s.i 91 = true) : classF bs s = cv s id (classR bs (s.i + 1)) := by
  have hl := (sb_lt h).1
  unfold classF mustF classR
  rw [if_pos h]
  show thn (itemF bs (nx? (sb bs (s.i + 1) 94) s.nx)) _ = _
  obtain ⟨i1, hi1⟩ : ∃ i1, (if sb bs (s.i + 1) 94 then s.i + 1 + 1 else s.i + 1) = i1 := ⟨_, rfl⟩
  have e : nx? (sb bs (s.i + 1) 94) s.nx = { s with i := i1 } := by
    rw [← hi1]; unfold nx?; cases sb bs (s.i + 1) 94 <;> rfl
  have hle : i1 ≤ bs.length := by
    rw [← hi1]
    cases hs : sb bs (s.i + 1) 94 with
    | true => have := (sb_lt hs).1; simp; omega
    | false => simp; omega
  rw [e, hi1, item_eq bs _ hle, clsR, if_neg (by simp)]
  show thn (cv _ id (itR bs i1)) _ = cv s id (thR (thR (itR bs i1) _) _)
  cases hr : itR bs i1 with
  | error p => rfl
  | ok x =>
    obtain ⟨g, j⟩ := x
    have h3 := itR_lt hr
    have h4 := itR_le hr
    have eg : (fun k => noB k || g k) = g := by funext k; rfl
    show thn (clsL bs (bs.length + 1) g _) _ = cv s id (thR (clsR bs bs.length false (fun k => noB k || g k) j) _)
    rw [eg, cls_eq bs (bs.length + 1) bs.length g _ h4 (by show _ < _ + j; omega) (by show _ < _ + j; omega)]
    show thn (cv _ id (clsR bs bs.length false g j)) _ = _
    cases clsR bs bs.length false g j with
    | error p => rfl
    | ok y => obtain ⟨b, k⟩ := y; rfl
end Go.Proofs.Ytnaecagmcpndhaa
namespace Go.Proofs.Ytnaecagmcpndhaa
open Go.RowKit
theorem numL_eq (bs : List Nat) : ∀ (k n : Nat) (s : St), numL bs k n s = ((numLR bs k n s.i).1, { s with i := (numLR bs k n s.i).2 })
  | 0, n, s => by rw [numL, numLR]
  | k + 1, n, s => by
    rw [numL, numLR]
    split
    · rw [numL_eq bs k _ s.nx]; rfl
    · rfl
theorem number_eq (bs : List Nat) (s : St) : numberF bs s = cv s id (numR bs s.i) := by
  unfold numberF digitF numR
  cases hd : dg bs s.i with
  | false => rw [if_neg (by decide), if_neg (by decide)]; rfl
  | true =>
    rw [if_pos rfl, if_pos rfl]
    have e : numLR bs 3 0 s.i = numLR bs 2 (10 * 0 + (bn bs s.i - 48)) (s.i + 1) := by
      rw [show (3 : Nat) = 2 + 1 from rfl, numLR, if_pos hd]
    rw [Nat.mul_zero, Nat.zero_add] at e
    show Except.ok (numL bs 2 (bn bs s.i - 48) s.nx) = Except.ok ((numLR bs 3 0 s.i).1, { s with i := (numLR bs 3 0 s.i).2 })
    rw [numL_eq, e]; rfl
theorem numLR_le (bs : List Nat) : ∀ (k n i : Nat), i ≤ bs.length → (numLR bs k n i).2 ≤ bs.length ∧ i ≤ (numLR bs k n i).2
  | 0, n, i, h => by rw [numLR]; exact ⟨h, Nat.le_refl _⟩
  | k + 1, n, i, h => by
    rw [numLR]
    split
    · rename_i hd
      unfold dg at hd
      simp at hd
      have := numLR_le bs k (10 * n + (bn bs i - 48)) (i + 1) (by omega)
      omega
    · exact ⟨h, Nat.le_refl _⟩
theorem numR_le {bs : List Nat} {i n j : Nat} (h : numR bs i = .ok (n, j)) (hi : i ≤ bs.length) : j ≤ bs.length := by
  unfold numR at h
  split at h
  · injection h with h
    have := (numLR_le bs 3 0 i hi).1
    rw [h] at this; exact this
  · cases h
theorem upper_eq (bs : List Nat) (lo : Nat) (s : St) : upperF bs lo s = cv s id (upR bs lo s.i) := by
  unfold upperF upR
  cases h1 : sb bs s.i 44 with
  | false => rw [if_neg (by decide), if_neg (by decide)]; rfl
  | true =>
    rw [if_pos rfl, if_pos rfl]
    show (if sb bs (s.i + 1) 125 then _ else _) = _
    cases h2 : sb bs (s.i + 1) 125 with
    | true => rw [if_pos rfl, if_pos rfl]; rfl
    | false =>
      rw [if_neg (by decide), if_neg (by decide), number_eq bs s.nx]
      show thn (cv _ id (numR bs (s.i + 1))) _ = _
      cases numR bs (s.i + 1) with
      | error p => rfl
      | ok x => obtain ⟨n, j⟩ := x; rfl
/-- a quant comes next -/
def isQs (bs : List Nat) (i : Nat) : Bool := decide (i < bs.length) && isQ (bn bs i)
theorem braces_eq (bs : List Nat) (s : St) (h : sb bs s.i 123 = true) : bracesF bs s = match tokR bs s.i with | .error p => .error p | .ok (t, j) => .ok ((t.lo, t.hi), lateF s t.lo t.hi { s with i := j }) := by
  have hy := (sb_lt h).2
  have e : tokR bs s.i = thR (numR bs (s.i + 1)) fun lo j => thR (upR bs lo j) fun hi k => if sb bs k 125 then .ok (⟨113, s.i, noB, (lo : Int), hi⟩, k + 1) else .error k := by
    unfold tokR; rw [hy, if_neg (by decide), if_neg (by decide), if_neg (by decide), if_neg (by decide), if_neg (by decide), if_pos rfl]
  unfold bracesF mustF
  rw [if_pos h, e]
  show thn (numberF bs s.nx) _ = _
  rw [number_eq bs s.nx]
  show thn (cv _ id (numR bs (s.i + 1))) _ = _
  cases numR bs (s.i + 1) with
  | error p => rfl
  | ok x =>
    obtain ⟨lo, j⟩ := x
    show thn (upperF bs lo { s.nx with i := j }) _ = (match thR (upR bs lo j) (fun hi k => if sb bs k 125 then .ok ((⟨113, s.i, noB, (lo : Int), hi⟩ : Tk), k + 1) else .error k) with | .error p => Except.error p | .ok (t, j) => Except.ok ((t.lo, t.hi), lateF s t.lo t.hi { s with i := j }))
    rw [upper_eq]
    show thn (cv _ id (upR bs lo j)) _ = _
    cases upR bs lo j with
    | error p => rfl
    | ok x =>
      obtain ⟨hi, k⟩ := x
      show thn (if sb bs k 125 then .ok ((), _) else .error k) _ = (match (if sb bs k 125 then .ok ((⟨113, s.i, noB, (lo : Int), hi⟩ : Tk), k + 1) else .error k : Except Nat (Tk × Nat)) with | .error p => Except.error p | .ok (t, j) => Except.ok ((t.lo, t.hi), lateF s t.lo t.hi { s with i := j }))
      cases sb bs k 125 with
      | true => rw [if_pos rfl, if_pos rfl]; rfl
      | false => rw [if_neg (by decide), if_neg (by decide)]; rfl
theorem quant_eq (bs : List Nat) (s : St) : quantF bs s = if isQs bs s.i then (match tokR bs s.i with | .error p => .error p | .ok (t, j) => .ok ((t.lo, t.hi, true), lateF s t.lo t.hi { s with i := j })) else .ok ((0, 0, false), s) := by
  unfold quantF isQs isQ
  by_cases hl : s.i < bs.length
  · rw [sb_in hl, sb_in hl, sb_in hl, sb_in hl, decide_eq_true hl, Bool.true_and]
    by_cases h1 : bn bs s.i = 42
    · have e : tokR bs s.i = .ok (⟨113, s.i, noB, 0, -1⟩, s.i + 1) := by
        unfold tokR; rw [h1, if_neg (by decide), if_neg (by decide), if_pos rfl]
      rw [if_pos (decide_eq_true h1), if_pos (by simp [h1]), e]
      show _ = Except.ok ((0, -1, true), lateF s 0 (-1) _)
      unfold lateF; rw [if_neg (by simp [fitsF])]; rfl
    rw [if_neg (by simp [h1])]
    by_cases h2 : bn bs s.i = 43
    · have e : tokR bs s.i = .ok (⟨113, s.i, noB, 1, -1⟩, s.i + 1) := by
        unfold tokR; rw [h2, if_neg (by decide), if_neg (by decide), if_neg (by decide), if_pos rfl]
      rw [if_pos (decide_eq_true h2), if_pos (by simp [h2]), e]
      show _ = Except.ok ((1, -1, true), lateF s 1 (-1) _)
      unfold lateF; rw [if_neg (by simp [fitsF])]; rfl
    rw [if_neg (by simp [h2])]
    by_cases h3 : bn bs s.i = 63
    · have e : tokR bs s.i = .ok (⟨113, s.i, noB, 0, 1⟩, s.i + 1) := by
        unfold tokR; rw [h3, if_neg (by decide), if_neg (by decide), if_neg (by decide), if_neg (by decide), if_pos rfl]
      rw [if_pos (decide_eq_true h3), if_pos (by simp [h3]), e]
      show _ = Except.ok ((0, 1, true), lateF s 0 1 _)
      unfold lateF; rw [if_neg (by simp [fitsF])]; rfl
    rw [if_neg (by simp [h3])]
    by_cases h4 : bn bs s.i = 123
    · rw [if_pos (decide_eq_true h4), if_pos (by simp [h4]), braces_eq bs s (by rw [sb_in hl]; exact decide_eq_true h4)]
      cases tokR bs s.i with
      | error p => rfl
      | ok x => obtain ⟨t, j⟩ := x; rfl
    · rw [if_neg (by simp [h4]), if_neg (by simp [h1, h2, h3, h4])]
  · rw [sb_out hl, sb_out hl, sb_out hl, sb_out hl, decide_eq_false hl]
    rfl
/-- the term of a token that is none of a group, a bar, a quant -/
def leafT (t : Tk) : Tm := if t.kind = 46 then opT 3 else if t.kind = 94 then opT 4 else if t.kind = 36 then opT 5 else setT t.set
theorem atom_eq (rec : St → Except Nat (Tm × St)) (bs : List Nat) (s : St) (hl : s.i < bs.length) (h40 : bn bs s.i ≠ 40) (h41 : bn bs s.i ≠ 41) (h124 : bn bs s.i ≠ 124) (hq : isQ (bn bs s.i) = false) : atomF rec bs s = cv s leafT (tokR bs s.i) := by
  have hq2 : bn bs s.i ≠ 42 ∧ bn bs s.i ≠ 43 ∧ bn bs s.i ≠ 63 ∧ bn bs s.i ≠ 123 := by
    unfold isQ at hq; simp at hq; omega
  obtain ⟨n42, n43, n63, n123⟩ := hq2
  unfold atomF tokR
  rw [sb_in hl, sb_in hl, sb_in hl, sb_in hl, sb_in hl, sb_in hl, if_neg (by simp [h40])]
  by_cases h1 : bn bs s.i = 91
  · rw [if_pos (decide_eq_true h1), if_pos h1, class_eq bs s (by rw [sb_in hl]; exact decide_eq_true h1)]
    cases classR bs (s.i + 1) with
    | error p => rfl
    | ok x => obtain ⟨f, j⟩ := x; rfl
  rw [if_neg (by simp [h1]), if_neg h1]
  by_cases h2 : bn bs s.i = 92
  · rw [if_pos (decide_eq_true h2), if_pos h2, escape_eq bs s (by rw [sb_in hl]; exact decide_eq_true h2)]
    cases escR bs (s.i + 1) true with
    | error p => rfl
    | ok x => obtain ⟨f, j⟩ := x; rfl
  rw [if_neg (by simp [h2]), if_neg h2, if_neg n42, if_neg n43, if_neg n63, if_neg n123]
  by_cases h93 : bn bs s.i = 93 ∨ bn bs s.i = 125
  · rw [if_pos h93, if_neg (by simp; omega), if_neg (by simp; omega), if_neg (by simp; omega)]
    unfold takeButF
    rw [if_neg (by simp [hl]; omega)]; rfl
  rw [if_neg h93]
  by_cases h3 : bn bs s.i = 46
  · rw [if_pos (decide_eq_true h3), if_pos (.inl h3), h3]; rfl
  rw [if_neg (by simp [h3])]
  by_cases h4 : bn bs s.i = 94
  · rw [if_pos (decide_eq_true h4), if_pos (.inr (.inl h4)), h4]; rfl
  rw [if_neg (by simp [h4])]
  by_cases h5 : bn bs s.i = 36
  · rw [if_pos (decide_eq_true h5), if_pos (.inr (.inr (.inl h5))), h5]; rfl
  rw [if_neg (by simp [h5]), if_neg (by omega)]
  unfold takeButF
  rw [if_pos (by simp [hl]; omega)]; rfl
end Go.Proofs.Ytnaecagmcpndhaa
namespace Go.Proofs.Ytnaecagmcpndhaa
open Go.RowKit
theorem classR_le {bs : List Nat} {i j : Nat} {f : Nat → Bool} (h : classR bs i = .ok (f, j)) : i < j ∧ j ≤ bs.length := by
  have key : ∀ (n : Nat) (b : Bool) (f g : Nat → Bool) (i j : Nat), clsR bs n b f i = .ok (g, j) → i < j ∧ j ≤ bs.length := by
    intro n
    induction n with
    | zero => intro b f g i j h; rw [clsR] at h; cases h
    | succ n ih =>
      intro b f g i j h
      rw [clsR] at h
      split at h
      · rename_i hc
        have := (sb_lt hc.2).1
        injection h with h; injection h with _ h; omega
      · obtain ⟨x, y, h1, h⟩ := thR_ok h
        have h2 := itR_lt h1
        have h3 := ih _ _ _ _ _ h
        omega
  unfold classR at h
  obtain ⟨x, y, h1, h⟩ := thR_ok h
  have h2 := key _ _ _ _ _ _ h1
  injection h with h; injection h with _ h
  split at h2 <;> omega
theorem numR_lt {bs : List Nat} {i n j : Nat} (h : numR bs i = .ok (n, j)) : i < j ∧ j ≤ bs.length := by
  unfold numR at h
  split at h
  · rename_i hd
    injection h with h
    rw [numLR, if_pos hd] at h
    have hl : i < bs.length := by unfold dg at hd; simp at hd; omega
    have := numLR_le bs 2 (10 * 0 + (bn bs i - 48)) (i + 1) (by omega)
    rw [h] at this
    show i < j ∧ j ≤ _
    have h1 : j = (n, j).2 := rfl
    omega
  · cases h
theorem tokR_lt {bs : List Nat} {i j : Nat} {t : Tk} (hi : i < bs.length) (h : tokR bs i = .ok (t, j)) : i < j ∧ j ≤ bs.length ∧ t.pos = i := by
  unfold tokR at h
  split at h
  · obtain ⟨x, y, h1, h⟩ := thR_ok h
    have := classR_le h1
    injection h with h; injection h with h h2; subst h; exact ⟨by omega, by omega, rfl⟩
  split at h
  · obtain ⟨x, y, h1, h⟩ := thR_ok h
    have := escR_lt h1; have := escR_le h1
    injection h with h; injection h with h h2; subst h; exact ⟨by omega, by omega, rfl⟩
  split at h
  · injection h with h; injection h with h h2; subst h; exact ⟨by omega, by omega, rfl⟩
  split at h
  · injection h with h; injection h with h h2; subst h; exact ⟨by omega, by omega, rfl⟩
  split at h
  · injection h with h; injection h with h h2; subst h; exact ⟨by omega, by omega, rfl⟩
  split at h
  · obtain ⟨x, y, h1, h⟩ := thR_ok h
    obtain ⟨x2, y2, h2, h⟩ := thR_ok h
    have h3 := numR_lt h1
    have h4 : y ≤ y2 := by
      unfold upR at h2
      split at h2
      · split at h2
        · injection h2 with h2; injection h2 with _ h2; omega
        · obtain ⟨x3, y3, h5, h2⟩ := thR_ok h2
          have := numR_lt h5
          injection h2 with h2; injection h2 with _ h2; omega
      · injection h2 with h2; injection h2 with _ h2; omega
    split at h
    · rename_i hs
      have := (sb_lt hs).1
      injection h with h; injection h with h h2; subst h; exact ⟨by omega, by omega, rfl⟩
    · cases h
  split at h
  · cases h
  split at h
  · injection h with h; injection h with h h2; subst h; exact ⟨by omega, by omega, rfl⟩
  · injection h with h; injection h with h h2; subst h; exact ⟨by omega, by omega, rfl⟩
/-- tkL does not hang on its fuel, if that is enough -/
theorem tkL_fuel (bs : List Nat) : ∀ (n m : Nat) (acc : List Tk) (i d : Nat) (am : Bool), i ≤ bs.length → bs.length < n + i → bs.length < m + i → tkL bs n acc i d am = tkL bs m acc i d am
  | 0, m, acc, i, d, am, h, h1, h2 => by omega
  | n + 1, 0, acc, i, d, am, h, h1, h2 => by omega
  | n + 1, m + 1, acc, i, d, am, h, h1, h2 => by
    rw [tkL, tkL]
    split
    · rename_i hl
      split
      · rfl
      · cases ht : tokR bs i with
        | error p => rfl
        | ok x =>
          obtain ⟨t, j⟩ := x
          have := tokR_lt hl ht
          exact tkL_fuel bs n m _ j _ _ (by omega) (by omega) (by omega)
    · rfl
def tkE (bs : List Nat) (acc : List Tk) (i d : Nat) (am : Bool) : Except Nat (List Tk) := tkL bs (bs.length + 1) acc i d am
theorem tkE_eq (bs : List Nat) (acc : List Tk) (i d : Nat) (am : Bool) (h : i ≤ bs.length) : tkE bs acc i d am = if i < bs.length then
      (if (isQ (bn bs i) = true ∧ am = false) ∨ (bn bs i = 41 ∧ d = 0) then .error i
      else match tokR bs i with | .error p => .error p | .ok (t, j) => tkE bs (acc ++ [t]) j (deepR d t.kind) (atomR t.kind))
    else if 0 < d then .error bs.length else .ok acc := by
  unfold tkE
  rw [tkL]
  by_cases hl : i < bs.length
  · rw [if_pos hl, if_pos hl]
    split
    · rfl
    · cases ht : tokR bs i with
      | error p => rfl
      | ok x =>
        obtain ⟨t, j⟩ := x
        have := tokR_lt hl ht
        exact tkL_fuel bs _ _ _ j _ _ (by omega) (by omega) (by omega)
  · rw [if_neg hl, if_neg hl]
/-- where no quant stands it does not matter what stood ahead -/
theorem tkE_am (bs : List Nat) (acc : List Tk) (i d : Nat) (am am' : Bool) (h : i ≤ bs.length) (hq : isQs bs i = false) : tkE bs acc i d am = tkE bs acc i d am' := by
  rw [tkE_eq bs acc i d am h, tkE_eq bs acc i d am' h]
  by_cases hl : i < bs.length
  · have : isQ (bn bs i) = false := by unfold isQs at hq; rw [decide_eq_true hl, Bool.true_and] at hq; exact hq
    rw [if_pos hl, if_pos hl, this]
    simp
  · rw [if_neg hl, if_neg hl]

mutual
/-- what was read: an item (an alternative, a row of items) -/
inductive It where
  | leaf (t : Tk) (q : Option Tk)
  | grp (o : Tk) (a : Al) (c : Tk) (q : Option Tk)
inductive Al where
  | one (r : Ro)
  | bar (a : Al) (b : Tk) (r : Ro)
inductive Ro where
  | nil
  | snoc (r : Ro) (x : It)
end
mutual
def It.toks : It → List Tk
  | .leaf t q => t :: q.toList
  | .grp o a c q => o :: (a.toks ++ c :: q.toList)
def Al.toks : Al → List Tk
  | .one r => r.toks
  | .bar a b r => a.toks ++ b :: r.toks
def Ro.toks : Ro → List Tk
  | .nil => []
  | .snoc r x => r.toks ++ x.toks
end
def qT : Option Tk → Tm → Tm
  | none, t => t
  | some q, t => .mk 8 noB q.lo q.hi [t]
mutual
def It.term : It → Tm
  | .leaf t q => qT q (leafT t)
  | .grp _ a _ q => qT q (altT a.terms)
def Al.terms : Al → List Tm
  | .one r => [catT r.terms]
  | .bar a _ r => a.terms ++ [catT r.terms]
def Ro.terms : Ro → List Tm
  | .nil => []
  | .snoc r x => r.terms ++ [x.term]
end
def qOk : Option Tk → Prop
  | none => True
  | some q => q.kind = 113 ∧ -1 ≤ q.hi
mutual
def It.wf : It → Prop
  | .leaf t q => (t.kind = 115 ∨ t.kind = 46 ∨ t.kind = 94 ∨ t.kind = 36) ∧ qOk q
  | .grp o a c q => o.kind = 40 ∧ a.wf ∧ c.kind = 41 ∧ qOk q
def Al.wf : Al → Prop
  | .one r => r.wf
  | .bar a b r => a.wf ∧ b.kind = 124 ∧ r.wf
def Ro.wf : Ro → Prop
  | .nil => True
  | .snoc r x => r.wf ∧ x.wf
end
/-- how deep tokens go, and the place of the first that goes too deep -/
def dpL : List Tk → Nat × Int → Nat × Int
  | [], x => x
  | t :: r, x => dpL r (if t.kind = 40 then (x.1 + 1, if 30 ≤ x.1 ∧ x.2 = -1 then (t.pos : Int) else x.2) else if t.kind = 41 then (x.1 - 1, x.2) else x)
/-- the place of the first quant whose numbers are none -/
def rpL : List Tk → Int → Int
  | [], x => x
  | t :: r, x => rpL r (if t.kind = 113 ∧ fitsF t.lo t.hi = false ∧ x = -1 then (t.pos : Int) else x)
theorem dpL_app (a b : List Tk) (x : Nat × Int) : dpL (a ++ b) x = dpL b (dpL a x) := by
  induction a generalizing x with
  | nil => rfl
  | cons t r ih => rw [List.cons_append, dpL, dpL, ih]
theorem rpL_app (a b : List Tk) (x : Int) : rpL (a ++ b) x = rpL b (rpL a x) := by
  induction a generalizing x with
  | nil => rfl
  | cons t r ih => rw [List.cons_append, rpL, rpL, ih]
end Go.Proofs.Ytnaecagmcpndhaa
namespace Go.Proofs.Ytnaecagmcpndhaa
open Go.RowKit
/-- from s on to s' by the tokens P -/
structure Stp (bs : List Nat) (s s' : St) (P : List Tk) (am : Bool) : Prop where
  lo : s.i ≤ s'.i
  hi : s'.i ≤ bs.length
  dp : dpL P (s.op, s.dp) = (s'.op, s'.dp)
  rp : rpL P s.rp = s'.rp
  tk : ∀ acc d, tkE bs acc s.i d false = tkE bs (acc ++ P) s'.i d am
/-- of a reading: what a fault tells, and what it tells else -/
def onR {α : Type} (r : Except Nat (α × St)) (E : Nat → Prop) (O : α → St → Prop) : Prop :=
  match r with
  | .error p => E p
  | .ok (a, s) => O a s
/-- the document's tokens have that fault -/
def Flt (bs : List Nat) (i p : Nat) : Prop := ∀ (acc : List Tk) (d : Nat), tkE bs acc i d false = .error p
/-- how what stands in a group is read -/
def AltOk (bs : List Nat) (rec : St → Except Nat (Tm × St)) (s : St) : Prop :=
  onR (rec s) (Flt bs s.i) (fun t s' => ∃ a : Al, a.wf ∧ altT a.terms = t ∧ Stp bs s s' a.toks false ∧ (s'.i = bs.length ∨ sb bs s'.i 41 = true))
theorem tokR_q {bs : List Nat} {i j : Nat} {t : Tk} (hq : isQ (bn bs i) = true) (h : tokR bs i = .ok (t, j)) : t.kind = 113 := by
  unfold isQ at hq
  simp at hq
  unfold tokR at h
  rw [if_neg (by omega), if_neg (by omega)] at h
  split at h
  · injection h with h; injection h with h _; subst h; rfl
  split at h
  · injection h with h; injection h with h _; subst h; rfl
  split at h
  · injection h with h; injection h with h _; subst h; rfl
  split at h
  · obtain ⟨x, y, h1, h⟩ := thR_ok h
    obtain ⟨x2, y2, h2, h⟩ := thR_ok h
    split at h
    · injection h with h; injection h with h _; subst h; rfl
    · cases h
  · omega
theorem upR_hi {bs : List Nat} {lo j k : Nat} {h : Int} (e : upR bs lo j = .ok (h, k)) : -1 ≤ h := by
  unfold upR at e
  split at e
  · split at e
    · injection e with e; injection e with e _; omega
    · obtain ⟨x, y, h1, e⟩ := thR_ok e
      injection e with e; injection e with e _; omega
  · injection e with e; injection e with e _; omega
theorem tokR_hi {bs : List Nat} {i j : Nat} {t : Tk} (hq : isQ (bn bs i) = true) (h : tokR bs i = .ok (t, j)) : -1 ≤ t.hi := by
  unfold isQ at hq
  simp at hq
  unfold tokR at h
  rw [if_neg (by omega), if_neg (by omega)] at h
  split at h
  · injection h with h; injection h with h _; subst h; show (-1 : Int) ≤ -1; omega
  split at h
  · injection h with h; injection h with h _; subst h; show (-1 : Int) ≤ -1; omega
  split at h
  · injection h with h; injection h with h _; subst h; show (-1 : Int) ≤ 1; omega
  split at h
  · obtain ⟨x, y, h1, h⟩ := thR_ok h
    obtain ⟨x2, y2, h2, h⟩ := thR_ok h
    have := upR_hi h2
    split at h
    · injection h with h; injection h with h _; subst h; exact this
    · cases h
  · omega
theorem tokR_leaf {bs : List Nat} {i j : Nat} {t : Tk} (h40 : bn bs i ≠ 40) (h41 : bn bs i ≠ 41) (h124 : bn bs i ≠ 124) (hq : isQ (bn bs i) = false) (h : tokR bs i = .ok (t, j)) : t.kind = 115 ∨ t.kind = 46 ∨ t.kind = 94 ∨ t.kind = 36 := by
  unfold isQ at hq
  simp at hq
  unfold tokR at h
  split at h
  · obtain ⟨x, y, h1, h⟩ := thR_ok h
    injection h with h; injection h with h _; subst h; exact .inl rfl
  split at h
  · obtain ⟨x, y, h1, h⟩ := thR_ok h
    injection h with h; injection h with h _; subst h; exact .inl rfl
  rw [if_neg (by omega), if_neg (by omega), if_neg (by omega), if_neg (by omega)] at h
  split at h
  · cases h
  split at h
  · injection h with h; injection h with h _; subst h
    show bn bs i = 115 ∨ bn bs i = 46 ∨ bn bs i = 94 ∨ bn bs i = 36
    omega
  · injection h with h; injection h with h _; subst h; exact .inl rfl
theorem tokR_b {bs : List Nat} {i : Nat} (h : bn bs i = 40 ∨ bn bs i = 41 ∨ bn bs i = 124) : tokR bs i = .ok (⟨bn bs i, i, noB, 0, 0⟩, i + 1) := by
  unfold tokR
  rw [if_neg (by omega), if_neg (by omega), if_neg (by omega), if_neg (by omega), if_neg (by omega), if_neg (by omega), if_neg (by omega), if_pos (by omega)]
/-- a token is taken -/
theorem tkE_step {bs : List Nat} {i j : Nat} {t : Tk} {am : Bool} (acc : List Tk) (d : Nat) (hl : i < bs.length) (h1 : isQ (bn bs i) = false ∨ am = true) (h2 : bn bs i ≠ 41 ∨ d ≠ 0) (h : tokR bs i = .ok (t, j)) : tkE bs acc i d am = tkE bs (acc ++ [t]) j (deepR d t.kind) (atomR t.kind) := by
  rw [tkE_eq bs acc i d am (by omega), if_pos hl, if_neg, h]
  rintro (⟨a, b⟩ | ⟨a, b⟩)
  · rcases h1 with h1 | h1
    · rw [h1] at a; cases a
    · rw [h1] at b; cases b
  · rcases h2 with h2 | h2
    · exact h2 a
    · exact h2 b
theorem tkE_fault {bs : List Nat} {i p : Nat} {am : Bool} (acc : List Tk) (d : Nat) (hl : i < bs.length) (h1 : isQ (bn bs i) = false ∨ am = true) (h2 : bn bs i ≠ 41 ∨ d ≠ 0) (h : tokR bs i = .error p) : tkE bs acc i d am = .error p := by
  rw [tkE_eq bs acc i d am (by omega), if_pos hl, if_neg, h]
  rintro (⟨a, b⟩ | ⟨a, b⟩)
  · rcases h1 with h1 | h1
    · rw [h1] at a; cases a
    · rw [h1] at b; cases b
  · rcases h2 with h2 | h2
    · exact h2 a
    · exact h2 b
/-- an atom, with the tokens behind which it stands -/
inductive At (bs : List Nat) (s s1 : St) (t : Tm) : Prop
  | leaf (k : Tk) (hk : k.kind = 115 ∨ k.kind = 46 ∨ k.kind = 94 ∨ k.kind = 36) (e : leafT k = t) (h : Stp bs s s1 [k] true)
  | grp (o : Tk) (a : Al) (c : Tk) (ho : o.kind = 40) (ha : a.wf) (hc : c.kind = 41) (e : altT a.terms = t) (h : Stp bs s s1 (o :: (a.toks ++ [c])) true)
theorem atom_reads (rec : St → Except Nat (Tm × St)) (bs : List Nat) (s : St) (hl : s.i < bs.length) (h41 : bn bs s.i ≠ 41) (h124 : bn bs s.i ≠ 124) (ih : ∀ s2 : St, s.i < s2.i → s2.i ≤ bs.length → AltOk bs rec s2) :
    onR (atomF rec bs s) (Flt bs s.i) (fun t s1 => s.i < s1.i ∧ At bs s s1 t) := by
  cases hq : isQ (bn bs s.i) with
  | true =>
    have e : atomF rec bs s = .error s.i := by
      unfold isQ at hq
      simp at hq
      unfold atomF
      rw [sb_in hl, sb_in hl, sb_in hl, sb_in hl, sb_in hl, sb_in hl, if_neg (by simp; omega), if_neg (by simp; omega), if_neg (by simp; omega), if_neg (by simp; omega), if_neg (by simp; omega), if_neg (by simp; omega)]
      unfold takeButF
      rw [if_neg (by simp [hl]; omega)]; rfl
    rw [e]
    show Flt bs s.i s.i
    intro acc d
    rw [tkE_eq bs acc s.i d false (by omega), if_pos hl, if_pos (.inl ⟨hq, rfl⟩)]
  | false =>
    by_cases h40 : bn bs s.i = 40
    · have e : atomF rec bs s = groupF rec bs s := by unfold atomF; rw [sb_in hl, if_pos (decide_eq_true h40)]
      have ht := tokR_b (bs := bs) (i := s.i) (.inl h40)
      have hs2 : (deepF s).i = s.i := by unfold deepF; split <;> rfl
      rw [e]
      unfold groupF mustF
      rw [hs2, sb_in hl, if_pos (decide_eq_true h40)]
      show onR (thn (rec (deepF s).nx) _) _ _
      have hi2 : (deepF s).nx.i = s.i + 1 := by show (deepF s).i + 1 = _; rw [hs2]
      have hA := ih (deepF s).nx (by rw [hi2]; omega) (by rw [hi2]; omega)
      have st : ∀ acc d, tkE bs acc s.i d false = tkE bs (acc ++ [⟨40, s.i, noB, 0, 0⟩]) (s.i + 1) (d + 1) false := fun acc d => by
        have := tkE_step acc d hl (.inl hq) (.inl (by omega)) ht (am := false)
        rw [h40] at this; exact this
      unfold AltOk at hA
      cases hr : rec (deepF s).nx with
      | error p =>
        rw [hr] at hA
        have hA2 : Flt bs (deepF s).nx.i p := hA
        rw [hi2] at hA2
        show Flt bs s.i p
        intro acc d
        rw [st, hA2]
      | ok x =>
        obtain ⟨t, s3⟩ := x
        rw [hr] at hA
        obtain ⟨a, wa, ea, sa, he⟩ : ∃ a : Al, a.wf ∧ altT a.terms = t ∧ Stp bs (deepF s).nx s3 a.toks false ∧ (s3.i = bs.length ∨ sb bs s3.i 41 = true) := hA
        show onR (thn (if sb bs s3.i 41 then .ok ((), s3.nx) else .error s3.i) _) _ _
        cases hb : sb bs s3.i 41 with
        | false =>
          have hlen : s3.i = bs.length := he.resolve_right (by rw [hb]; decide)
          rw [if_neg (by decide)]
          show Flt bs s.i s3.i
          intro acc d
          have h2 := sa.tk (acc ++ [⟨40, s.i, noB, 0, 0⟩]) (d + 1)
          rw [hi2] at h2
          rw [st, h2, tkE_eq _ _ _ _ _ sa.hi, if_neg (by omega), if_pos (by omega), hlen]
        | true =>
          have hb2 := sb_lt hb
          rw [if_pos rfl]
          have ht3 := tokR_b (bs := bs) (i := s3.i) (.inr (.inl hb2.2))
          have hlo := sa.lo
          rw [hi2] at hlo
          show s.i < s3.i + 1 ∧ At bs s { s3.nx with op := s3.nx.op - 1 } t
          refine ⟨by omega, .grp ⟨40, s.i, noB, 0, 0⟩ a ⟨41, s3.i, noB, 0, 0⟩ rfl wa rfl ea ⟨by show s.i ≤ s3.i + 1; omega, by show s3.i + 1 ≤ _; omega, ?_, ?_, ?_⟩⟩
          · have h1 : dpL (⟨40, s.i, noB, 0, 0⟩ :: (a.toks ++ [⟨41, s3.i, noB, 0, 0⟩])) (s.op, s.dp) = dpL [⟨41, s3.i, noB, 0, 0⟩] (dpL a.toks ((deepF s).nx.op, (deepF s).nx.dp)) := by
              rw [dpL, dpL_app]
              congr 2
              unfold deepF
              by_cases hc : 30 ≤ s.op ∧ s.dp = -1
              · rw [if_pos hc]; show (if (40 : Nat) = 40 then _ else _) = _; rw [if_pos rfl, if_pos hc]; rfl
              · rw [if_neg hc]; show (if (40 : Nat) = 40 then _ else _) = _; rw [if_pos rfl, if_neg hc]; rfl
            rw [h1, sa.dp]; rfl
          · have h1 : rpL (⟨40, s.i, noB, 0, 0⟩ :: (a.toks ++ [⟨41, s3.i, noB, 0, 0⟩])) s.rp = rpL [⟨41, s3.i, noB, 0, 0⟩] (rpL a.toks (deepF s).nx.rp) := by
              rw [rpL, rpL_app]
              congr 2
              rw [if_neg (by simp)]
              unfold deepF; split <;> rfl
            rw [h1, sa.rp]
            show (if (41 : Nat) = 113 ∧ fitsF 0 0 = false ∧ s3.rp = -1 then ((s3.i : Nat) : Int) else s3.rp) = s3.rp
            rw [if_neg (by simp)]
          · intro acc d
            have h2 := sa.tk (acc ++ [⟨40, s.i, noB, 0, 0⟩]) (d + 1)
            rw [hi2] at h2
            have h3 := tkE_step (acc ++ [⟨40, s.i, noB, 0, 0⟩] ++ a.toks) (d + 1) hb2.1 (.inl (by rw [hb2.2]; rfl)) (.inr (by omega)) ht3 (am := false)
            rw [hb2.2] at h3
            rw [st, h2, h3]
            show tkE bs _ (s3.i + 1) d true = tkE bs _ (s3.i + 1) d true
            congr 1
            simp
    · have e := atom_eq rec bs s hl h40 h41 h124 hq
      rw [e]
      cases ht : tokR bs s.i with
      | error p =>
        show Flt bs s.i p
        intro acc d
        exact tkE_fault acc d hl (.inl hq) (.inl h41) ht
      | ok x =>
        obtain ⟨k, j⟩ := x
        have hk := tokR_leaf h40 h41 h124 hq ht
        have hj := tokR_lt hl ht
        show s.i < j ∧ At bs s { s with i := j } (leafT k)
        refine ⟨hj.1, .leaf k hk rfl ⟨by show s.i ≤ j; omega, hj.2.1, ?_, ?_, ?_⟩⟩
        · show (if k.kind = 40 then _ else if k.kind = 41 then _ else _) = _
          rw [if_neg (by omega), if_neg (by omega)]
        · show (if k.kind = 113 ∧ _ then _ else _) = _
          rw [if_neg (by omega)]
        · intro acc d
          rw [tkE_step acc d hl (.inl hq) (.inl h41) ht]
          have e1 : deepR d k.kind = d := by unfold deepR; rw [if_neg (by omega), if_neg (by omega)]
          have e2 : atomR k.kind = true := by unfold atomR; simp; omega
          rw [e1, e2]
end Go.Proofs.Ytnaecagmcpndhaa
namespace Go.Proofs.Ytnaecagmcpndhaa
open Go.RowKit
section
variable {bs : List Nat} {s s1 s2 : St} {P Q : List Tk} {am : Bool}
theorem Stp.refl (bs : List Nat) (s : St) (h : s.i ≤ bs.length) : Stp bs s s [] false := ⟨Nat.le_refl _, h, rfl, rfl, fun acc d => by rw [List.append_nil]⟩
theorem Stp.nq (h : Stp bs s s1 P am) (hq : isQs bs s1.i = false) : Stp bs s s1 P false := ⟨h.lo, h.hi, h.dp, h.rp, fun acc d => by rw [h.tk acc d, tkE_am bs _ _ _ am false h.hi hq]⟩
theorem Stp.trans (h1 : Stp bs s s1 P false) (h2 : Stp bs s1 s2 Q am) : Stp bs s s2 (P ++ Q) am :=
  ⟨Nat.le_trans h1.lo h2.lo, h2.hi, by rw [dpL_app, h1.dp, h2.dp], by rw [rpL_app, h1.rp, h2.rp], fun acc d => by rw [h1.tk, h2.tk, List.append_assoc]⟩
theorem Stp.q {q : Tk} {j : Nat} (h : Stp bs s s1 P true) (hl : s1.i < bs.length) (hq : isQ (bn bs s1.i) = true) (ht : tokR bs s1.i = .ok (q, j)) : Stp bs s (lateF s1 q.lo q.hi { s1 with i := j }) (P ++ [q]) false := by
  have hk := tokR_q hq ht
  have hj := tokR_lt hl ht
  have hi : (lateF s1 q.lo q.hi { s1 with i := j }).i = j := by unfold lateF; split <;> rfl
  have h41 : bn bs s1.i ≠ 41 := fun e => by rw [e] at hq; exact absurd hq (by decide)
  have hlo := h.lo
  refine ⟨by rw [hi]; omega, by rw [hi]; exact hj.2.1, ?_, ?_, fun acc d => ?_⟩
  · rw [dpL_app, h.dp]
    show (if q.kind = 40 then _ else if q.kind = 41 then _ else _) = _
    rw [if_neg (by omega), if_neg (by omega)]
    unfold lateF; split <;> rfl
  · rw [rpL_app, h.rp]
    show (if q.kind = 113 ∧ fitsF q.lo q.hi = false ∧ s1.rp = -1 then (q.pos : Int) else s1.rp) = _
    unfold lateF
    by_cases hc : fitsF q.lo q.hi = false ∧ s1.rp = -1
    · rw [if_pos ⟨hk, hc⟩, if_pos hc, hj.2.2]
    · rw [if_neg (fun h => hc h.2), if_neg hc]
  · rw [h.tk, tkE_step (acc ++ P) d hl (.inr rfl) (.inl h41) ht, hi, hk, List.append_assoc]
    rfl
end
theorem rep_reads (rec : St → Except Nat (Tm × St)) (bs : List Nat) (s : St) (hl : s.i < bs.length) (h41 : bn bs s.i ≠ 41) (h124 : bn bs s.i ≠ 124) (ih : ∀ s2 : St, s.i < s2.i → s2.i ≤ bs.length → AltOk bs rec s2) :
    onR (repF rec bs s) (Flt bs s.i) (fun t s' => s.i < s'.i ∧ ∃ x : It, x.wf ∧ x.term = t ∧ Stp bs s s' x.toks false) := by
  have hA := atom_reads rec bs s hl h41 h124 ih
  unfold repF
  cases ha : atomF rec bs s with
  | error p => rw [ha] at hA; exact hA
  | ok x =>
    obtain ⟨t, s1⟩ := x
    rw [ha] at hA
    obtain ⟨h1, hat⟩ : s.i < s1.i ∧ At bs s s1 t := hA
    show onR (thn (quantF bs s1) _) _ _
    rw [quant_eq]
    cases hq : isQs bs s1.i with
    | false =>
      rw [if_neg (by decide)]
      show s.i < s1.i ∧ ∃ x : It, x.wf ∧ x.term = t ∧ Stp bs s s1 x.toks false
      refine ⟨h1, ?_⟩
      cases hat with
      | leaf k hk e h => exact ⟨.leaf k none, ⟨hk, trivial⟩, e, h.nq hq⟩
      | grp o a c ho ha hc e h => exact ⟨.grp o a c none, ⟨ho, ha, hc, trivial⟩, e, h.nq hq⟩
    | true =>
      rw [if_pos rfl]
      have hq1 : s1.i < bs.length ∧ isQ (bn bs s1.i) = true := by
        unfold isQs at hq; simp at hq; exact hq
      have h41b : bn bs s1.i ≠ 41 := fun e => by have := hq1.2; rw [e] at this; exact absurd this (by decide)
      cases ht : tokR bs s1.i with
      | error p =>
        show Flt bs s.i p
        intro acc d
        cases hat with
        | leaf k hk e h => rw [h.tk acc d]; exact tkE_fault _ d hq1.1 (.inr rfl) (.inl h41b) ht
        | grp o a c ho ha hc e h => rw [h.tk acc d]; exact tkE_fault _ d hq1.1 (.inr rfl) (.inl h41b) ht
      | ok x =>
        obtain ⟨q, j⟩ := x
        have hk113 := tokR_q hq1.2 ht
        have hj := tokR_lt hq1.1 ht
        have hi : (lateF s1 q.lo q.hi { s1 with i := j }).i = j := by unfold lateF; split <;> rfl
        show s.i < (lateF s1 q.lo q.hi { s1 with i := j }).i ∧ ∃ x : It, x.wf ∧ x.term = .mk 8 noB q.lo q.hi [t] ∧ Stp bs s (lateF s1 q.lo q.hi { s1 with i := j }) x.toks false
        refine ⟨by rw [hi]; omega, ?_⟩
        cases hat with
        | leaf k hk e h =>
          refine ⟨.leaf k (some q), ⟨hk, hk113, tokR_hi hq1.2 ht⟩, ?_, h.q hq1.1 hq1.2 ht⟩
          show Tm.mk 8 noB q.lo q.hi [leafT k] = _
          rw [e]
        | grp o a c ho ha hc e h =>
          refine ⟨.grp o a c (some q), ⟨ho, ha, hc, hk113, tokR_hi hq1.2 ht⟩, ?_, ?_⟩
          · show Tm.mk 8 noB q.lo q.hi [altT a.terms] = _
            rw [e]
          · have := h.q hq1.1 hq1.2 ht
            have e2 : (o :: (a.toks ++ [c])) ++ [q] = (It.grp o a c (some q)).toks := by simp [It.toks]
            rw [e2] at this; exact this
def CatK (bs : List Nat) (s : St) (r : Ro) (ts : List Tm) (s' : St) : Prop := ∃ r2 : Ro, r2.wf ∧ r2.terms = ts ∧ (∃ Q, r2.toks = r.toks ++ Q ∧ Stp bs s s' Q false) ∧ (s'.i = bs.length ∨ sb bs s'.i 124 = true ∨ sb bs s'.i 41 = true)
def AltK (bs : List Nat) (s : St) (a : Al) (us : List Tm) (s' : St) : Prop := ∃ a2 : Al, a2.wf ∧ a2.terms = us ∧ (∃ Q, a2.toks = a.toks ++ Q ∧ Stp bs s s' Q false) ∧ (s'.i = bs.length ∨ sb bs s'.i 41 = true)
theorem cat_reads (rec : St → Except Nat (Tm × St)) (bs : List Nat) (i0 : Nat) (ih : ∀ s2 : St, i0 < s2.i → s2.i ≤ bs.length → AltOk bs rec s2) : ∀ (n : Nat) (r : Ro) (s : St), r.wf → i0 ≤ s.i → s.i ≤ bs.length → bs.length < n + s.i →
    onR (catL rec bs n r.terms s) (Flt bs s.i) (CatK bs s r)
  | 0, r, s, hw, h0, hs, hn => by omega
  | n + 1, r, s, hw, h0, hs, hn => by
    rw [catL]
    by_cases hc : s.i = bs.length ∨ sb bs s.i 124 = true ∨ sb bs s.i 41 = true
    · rw [if_pos hc]
      exact ⟨r, hw, rfl, ⟨[], by rw [List.append_nil], Stp.refl bs s hs⟩, hc⟩
    · rw [if_neg hc]
      have hl : s.i < bs.length := by omega
      have h124 : bn bs s.i ≠ 124 := fun e => hc (.inr (.inl (by rw [sb_in hl]; exact decide_eq_true e)))
      have h41 : bn bs s.i ≠ 41 := fun e => hc (.inr (.inr (by rw [sb_in hl]; exact decide_eq_true e)))
      have hR := rep_reads rec bs s hl h41 h124 (fun s2 h => ih s2 (by omega))
      cases hr : repF rec bs s with
      | error p => rw [hr] at hR; exact hR
      | ok x =>
        obtain ⟨t, s1⟩ := x
        rw [hr] at hR
        obtain ⟨h1, x, wx, ex, sx⟩ : s.i < s1.i ∧ ∃ x : It, x.wf ∧ x.term = t ∧ Stp bs s s1 x.toks false := hR
        have hI := cat_reads rec bs i0 ih n (.snoc r x) s1 ⟨hw, wx⟩ (by omega) sx.hi (by omega)
        have et : (Ro.snoc r x).terms = r.terms ++ [t] := by rw [Ro.terms, ex]
        rw [et] at hI
        show onR (catL rec bs n (r.terms ++ [t]) s1) _ _
        cases hr2 : catL rec bs n (r.terms ++ [t]) s1 with
        | error p =>
          rw [hr2] at hI
          have hI2 : Flt bs s1.i p := hI
          show Flt bs s.i p
          intro acc d
          rw [sx.tk acc d]; exact hI2 _ d
        | ok y =>
          obtain ⟨ts, s'⟩ := y
          rw [hr2] at hI
          obtain ⟨r2, w2, e2, ⟨Q, eQ, sQ⟩, hst⟩ : CatK bs s1 (.snoc r x) ts s' := hI
          exact ⟨r2, w2, e2, ⟨x.toks ++ Q, by rw [eQ, Ro.toks, List.append_assoc], sx.trans sQ⟩, hst⟩
theorem alts_reads (rec : St → Except Nat (Tm × St)) (bs : List Nat) (i0 : Nat) (ih : ∀ s2 : St, i0 < s2.i → s2.i ≤ bs.length → AltOk bs rec s2) : ∀ (n : Nat) (a : Al) (s : St), a.wf → i0 ≤ s.i → s.i ≤ bs.length → bs.length < n + s.i → (s.i = bs.length ∨ sb bs s.i 124 = true ∨ sb bs s.i 41 = true) →
    onR (altL rec bs n a.terms s) (Flt bs s.i) (AltK bs s a)
  | 0, a, s, hw, h0, hs, hn, hst => by omega
  | n + 1, a, s, hw, h0, hs, hn, hst => by
    rw [altL]
    cases hb : sb bs s.i 124 with
    | false =>
      rw [if_neg (by decide)]
      refine ⟨a, hw, rfl, ⟨[], by rw [List.append_nil], Stp.refl bs s hs⟩, ?_⟩
      rcases hst with h | h | h
      · exact .inl h
      · rw [hb] at h; cases h
      · exact .inr h
    | true =>
      rw [if_pos rfl]
      have hb2 := sb_lt hb
      have ht := tokR_b (bs := bs) (i := s.i) (.inr (.inr hb2.2))
      have st : Stp bs s s.nx [⟨124, s.i, noB, 0, 0⟩] false := by
        refine ⟨by show s.i ≤ s.i + 1; omega, by show s.i + 1 ≤ _; omega, rfl, rfl, fun acc d => ?_⟩
        have := tkE_step acc d hb2.1 (.inl (by rw [hb2.2]; rfl)) (.inl (by rw [hb2.2]; decide)) ht (am := false)
        rw [hb2.2] at this; exact this
      have hC := cat_reads rec bs i0 ih (bs.length + 1) .nil s.nx trivial (by show i0 ≤ s.i + 1; omega) (by show s.i + 1 ≤ _; omega) (by show _ < _ + (s.i + 1); omega)
      unfold catF
      show onR (thn (thn (catL rec bs (bs.length + 1) (Ro.nil).terms s.nx) _) _) _ _
      cases hr : catL rec bs (bs.length + 1) (Ro.nil).terms s.nx with
      | error p =>
        rw [hr] at hC
        have hC2 : Flt bs s.nx.i p := hC
        show Flt bs s.i p
        intro acc d
        rw [st.tk acc d]; exact hC2 _ d
      | ok y =>
        obtain ⟨ts, s1⟩ := y
        rw [hr] at hC
        obtain ⟨r2, w2, e2, ⟨Q, eQ, sQ⟩, hst1⟩ : CatK bs s.nx .nil ts s1 := hC
        have eQ' : r2.toks = Q := eQ
        have hlo := sQ.lo
        have hlo2 : s.i + 1 ≤ s1.i := hlo
        have hI := alts_reads rec bs i0 ih n (.bar a ⟨124, s.i, noB, 0, 0⟩ r2) s1 ⟨hw, rfl, w2⟩ (by omega) sQ.hi (by omega) hst1
        have et : (Al.bar a ⟨124, s.i, noB, 0, 0⟩ r2).terms = a.terms ++ [catT ts] := by rw [Al.terms, e2]
        rw [et] at hI
        show onR (altL rec bs n (a.terms ++ [catT ts]) s1) _ _
        cases hr2 : altL rec bs n (a.terms ++ [catT ts]) s1 with
        | error p =>
          rw [hr2] at hI
          have hI2 : Flt bs s1.i p := hI
          show Flt bs s.i p
          intro acc d
          rw [st.tk acc d, sQ.tk]; exact hI2 _ d
        | ok z =>
          obtain ⟨us, s'⟩ := z
          rw [hr2] at hI
          obtain ⟨a2, wa, ea, ⟨Q2, eQ2, sQ2⟩, hst2⟩ : AltK bs s1 (.bar a ⟨124, s.i, noB, 0, 0⟩ r2) us s' := hI
          refine ⟨a2, wa, ea, ⟨⟨124, s.i, noB, 0, 0⟩ :: (Q ++ Q2), ?_, ?_⟩, hst2⟩
          · rw [eQ2, Al.toks, eQ']; simp
          · exact (st.trans (sQ.trans sQ2))
theorem altG_reads (rec : St → Except Nat (Tm × St)) (bs : List Nat) (s : St) (hs : s.i ≤ bs.length) (ih : ∀ s2 : St, s.i < s2.i → s2.i ≤ bs.length → AltOk bs rec s2) : AltOk bs (altG rec bs) s := by
  unfold AltOk altG catF
  have hC := cat_reads rec bs s.i ih (bs.length + 1) .nil s trivial (Nat.le_refl _) hs (by omega)
  show onR (thn (thn (catL rec bs (bs.length + 1) (Ro.nil).terms s) _) _) _ _
  cases hr : catL rec bs (bs.length + 1) (Ro.nil).terms s with
  | error p => rw [hr] at hC; exact hC
  | ok y =>
    obtain ⟨ts, s1⟩ := y
    rw [hr] at hC
    obtain ⟨r2, w2, e2, ⟨Q, eQ, sQ⟩, hst1⟩ : CatK bs s .nil ts s1 := hC
    have eQ' : r2.toks = Q := eQ
    have hlo := sQ.lo
    have hI := alts_reads rec bs s.i ih (bs.length + 1) (.one r2) s1 w2 hlo sQ.hi (by omega) hst1
    have et : (Al.one r2).terms = [catT ts] := by rw [Al.terms, e2]
    rw [et] at hI
    show onR (thn (altL rec bs (bs.length + 1) [catT ts] s1) _) _ _
    cases hr2 : altL rec bs (bs.length + 1) [catT ts] s1 with
    | error p =>
      rw [hr2] at hI
      have hI2 : Flt bs s1.i p := hI
      show Flt bs s.i p
      intro acc d
      rw [sQ.tk acc d]; exact hI2 _ d
    | ok z =>
      obtain ⟨us, s'⟩ := z
      rw [hr2] at hI
      obtain ⟨a2, wa, ea, ⟨Q2, eQ2, sQ2⟩, hst2⟩ : AltK bs s1 (.one r2) us s' := hI
      refine ⟨a2, wa, by rw [ea], ?_, hst2⟩
      have e3 : a2.toks = Q ++ Q2 := by rw [eQ2, Al.toks, eQ']
      rw [e3]; exact sQ.trans sQ2
theorem alt_all (bs : List Nat) : ∀ (n i0 : Nat), bs.length ≤ n + i0 → ∀ s : St, i0 < s.i → s.i ≤ bs.length → AltOk bs (altF bs n) s
  | 0, i0, h, s, h1, h2 => by omega
  | n + 1, i0, h, s, h1, h2 => by
    have := altG_reads (altF bs n) bs s h2 (fun s2 h3 h4 => alt_all bs n s.i (by omega) s2 h3 h4)
    unfold AltOk at this ⊢
    rw [altF]; exact this
/-- the whole of a text -/
theorem alt_whole (bs : List Nat) : AltOk bs (altF bs (bs.length + 1)) s0 := by
  have := altG_reads (altF bs bs.length) bs s0 (Nat.zero_le _) (fun s2 h3 h4 => alt_all bs bs.length 0 (by omega) s2 h3 h4)
  unfold AltOk at this ⊢
  rw [altF]; exact this
end Go.Proofs.Ytnaecagmcpndhaa
namespace Go.Proofs.Ytnaecagmcpndhaa
open Go.RowKit
/-- the first token that goes too deep -/
def deepL : List Tk → Nat → Option Nat
  | [], _ => none
  | t :: r, d => if 30 < deepR d t.kind then some t.pos else deepL r (deepR d t.kind)
/-- the first quant whose numbers are none -/
def repL : List Tk → Option Nat
  | [] => none
  | t :: r => if t.kind = 113 ∧ (200 < t.lo ∨ 200 < t.hi ∨ (0 ≤ t.hi ∧ t.hi < t.lo)) then some t.pos else repL r
def orM : Option Nat → Int
  | none => -1
  | some p => (p : Int)
theorem dpL_set : ∀ (L : List Tk) (x : Nat × Int), x.2 ≠ -1 → (dpL L x).2 = x.2
  | [], x, _ => rfl
  | t :: r, x, h => by
    rw [dpL]
    split
    · rw [dpL_set r _ (by show (if _ ∧ x.2 = -1 then _ else x.2) ≠ -1; rw [if_neg (fun e => h e.2)]; exact h)]
      show (if _ ∧ x.2 = -1 then _ else x.2) = _
      rw [if_neg (fun e => h e.2)]
    split
    · exact dpL_set r _ h
    · exact dpL_set r _ h
theorem deep_is : ∀ (L : List Tk) (d : Nat), d ≤ 30 → (dpL L (d, -1)).2 = orM (deepL L d)
  | [], d, _ => rfl
  | t :: r, d, h => by
    rw [dpL, deepL]
    by_cases h40 : t.kind = 40
    · have e : deepR d t.kind = d + 1 := by unfold deepR; rw [if_pos h40]
      rw [if_pos h40, e]
      show (dpL r (d + 1, if 30 ≤ d ∧ (-1 : Int) = -1 then (t.pos : Int) else -1)).2 = orM (if 30 < d + 1 then some t.pos else deepL r (d + 1))
      by_cases h30 : 30 ≤ d
      · rw [if_pos (show 30 < d + 1 by omega), if_pos (show 30 ≤ d ∧ (-1 : Int) = -1 from ⟨h30, rfl⟩), dpL_set r _ (by show (t.pos : Int) ≠ -1; omega)]
        rfl
      · rw [if_neg (show ¬ 30 < d + 1 by omega), if_neg (show ¬ (30 ≤ d ∧ (-1 : Int) = -1) from fun e => h30 e.1)]
        exact deep_is r (d + 1) (by omega)
    · rw [if_neg h40]
      by_cases h41 : t.kind = 41
      · have e : deepR d t.kind = d - 1 := by unfold deepR; rw [if_neg h40, if_pos h41]
        rw [if_pos h41, e, if_neg (by omega)]
        exact deep_is r (d - 1) (by omega)
      · have e : deepR d t.kind = d := by unfold deepR; rw [if_neg h40, if_neg h41]
        rw [if_neg h41, e, if_neg (by omega)]
        exact deep_is r d h
theorem rpL_set : ∀ (L : List Tk) (x : Int), x ≠ -1 → rpL L x = x
  | [], x, _ => rfl
  | t :: r, x, h => by rw [rpL, if_neg (fun e => h e.2.2)]; exact rpL_set r x h
theorem fits_is (lo hi : Int) (h : -1 ≤ hi) : fitsF lo hi = false ↔ (200 < lo ∨ 200 < hi ∨ (0 ≤ hi ∧ hi < lo)) := by
  unfold fitsF
  split
  · rw [decide_eq_false_iff_not]; omega
  · rw [decide_eq_false_iff_not]; omega
theorem rep_is : ∀ (L : List Tk), (∀ t ∈ L, t.kind = 113 → -1 ≤ t.hi) → rpL L (-1) = orM (repL L)
  | [], _ => rfl
  | t :: r, h => by
    rw [rpL, repL]
    have hr := rep_is r fun x hx => h x (by simp [hx])
    by_cases hc : t.kind = 113 ∧ (200 < t.lo ∨ 200 < t.hi ∨ (0 ≤ t.hi ∧ t.hi < t.lo))
    · rw [if_pos hc, if_pos ⟨hc.1, (fits_is _ _ (h t (by simp) hc.1)).2 hc.2, rfl⟩, rpL_set r _ (by omega)]
      rfl
    · rw [if_neg hc, if_neg (fun e => hc ⟨e.1, (fits_is _ _ (h t (by simp) e.1)).1 e.2.1⟩)]
      exact hr
theorem q_hi (q : Option Tk) (h : qOk q) : ∀ t ∈ q.toList, t.kind = 113 → -1 ≤ t.hi := by
  cases q with
  | none => intro t ht; simp at ht
  | some q => intro t ht _; simp at ht; subst ht; exact h.2
mutual
theorem It.hi (x : It) (h : x.wf) : ∀ t ∈ x.toks, t.kind = 113 → -1 ≤ t.hi := by
  cases x with
  | leaf k q =>
    intro t ht hk
    rw [It.toks] at ht
    rcases List.mem_cons.1 ht with e | e
    · subst e; have := h.1; omega
    · exact q_hi q h.2 t e hk
  | grp o a c q =>
    intro t ht hk
    rw [It.toks] at ht
    rcases List.mem_cons.1 ht with e | e
    · subst e; have := h.1; omega
    · rcases List.mem_append.1 e with e | e
      · exact Al.hi a h.2.1 t e hk
      · rcases List.mem_cons.1 e with e | e
        · subst e; have := h.2.2.1; omega
        · exact q_hi q h.2.2.2 t e hk
theorem Al.hi (a : Al) (h : a.wf) : ∀ t ∈ a.toks, t.kind = 113 → -1 ≤ t.hi := by
  cases a with
  | one r => intro t ht hk; rw [Al.toks] at ht; exact Ro.hi r h t ht hk
  | bar a b r =>
    intro t ht hk
    rw [Al.toks] at ht
    rcases List.mem_append.1 ht with e | e
    · exact Al.hi a h.1 t e hk
    · rcases List.mem_cons.1 e with e | e
      · subst e; have := h.2.1; omega
      · exact Ro.hi r h.2.2 t e hk
theorem Ro.hi (r : Ro) (h : r.wf) : ∀ t ∈ r.toks, t.kind = 113 → -1 ≤ t.hi := by
  cases r with
  | nil => intro t ht; rw [Ro.toks] at ht; simp at ht
  | snoc r x =>
    intro t ht hk
    rw [Ro.toks] at ht
    rcases List.mem_append.1 ht with e | e
    · exact Ro.hi r h.1 t e hk
    · exact It.hi x h.2 t e hk
end
/-- what the document answers for tokens that are a tree -/
def docA (a : Al) : Tm × Nat × Int :=
  match deepL a.toks 0 with
  | some p => (zTm, 52, (p : Int))
  | none => match repL a.toks with
    | some p => (zTm, 51, (p : Int))
    | none => (altT a.terms, 0, 0)
/-- what Parse answers is what the document's tokens tell -/
theorem doc_whole (bs : List Nat) (hl : bs.length ≤ 200) : (∃ p, tkL bs (bs.length + 1) [] 0 0 false = .error p ∧ parseF bs = (zTm, 50, (p : Int))) ∨ (∃ a : Al, a.wf ∧ tkL bs (bs.length + 1) [] 0 0 false = .ok a.toks ∧ parseF bs = docA a) := by
  have h := alt_whole bs
  unfold AltOk at h
  unfold parseF
  rw [if_neg (by omega)]
  cases hr : altF bs (bs.length + 1) s0 with
  | error p =>
    rw [hr] at h
    have h2 : Flt bs 0 p := h
    exact .inl ⟨p, h2 [] 0, rfl⟩
  | ok x =>
    obtain ⟨t, s⟩ := x
    rw [hr] at h
    obtain ⟨a, wa, ea, sa, he⟩ : ∃ a : Al, a.wf ∧ altT a.terms = t ∧ Stp bs s0 s a.toks false ∧ (s.i = bs.length ∨ sb bs s.i 41 = true) := h
    have tk : tkE bs [] 0 0 false = tkE bs a.toks s.i 0 false := sa.tk [] 0
    by_cases hi : s.i = bs.length
    · right
      refine ⟨a, wa, ?_, ?_⟩
      · show tkE bs [] 0 0 false = _
        rw [tk, tkE_eq _ _ _ _ _ sa.hi, if_neg (by omega), if_neg (by omega)]
      · have h1 : s.dp = orM (deepL a.toks 0) := by
          have e1 := sa.dp
          have e2 := deep_is a.toks 0 (by omega)
          have e3 : dpL a.toks (0, -1) = (s.op, s.dp) := e1
          rw [e3] at e2; exact e2
        have h2 : s.rp = orM (repL a.toks) := by
          have e1 : rpL a.toks (-1) = s.rp := sa.rp
          rw [← e1]; exact rep_is a.toks (Al.hi a wa)
        show (if s.i = bs.length then if s.dp = -1 then if s.rp = -1 then (t, 0, 0) else (zTm, 51, s.rp) else (zTm, 52, s.dp) else (zTm, 50, (s.i : Int))) = docA a
        rw [if_pos hi, h1, h2]
        unfold docA
        cases deepL a.toks 0 with
        | some p =>
          rw [if_neg (by show (p : Int) ≠ -1; omega)]; rfl
        | none =>
          rw [if_pos (show orM none = -1 from rfl)]
          cases repL a.toks with
          | some p => rw [if_neg (by show (p : Int) ≠ -1; omega)]; rfl
          | none => rw [if_pos (show orM none = -1 from rfl), ea]
    · left
      have hb := sb_lt (he.resolve_left hi)
      refine ⟨s.i, ?_, ?_⟩
      · show tkE bs [] 0 0 false = _
        rw [tk, tkE_eq _ _ _ _ _ sa.hi, if_pos hb.1, if_pos (.inr ⟨hb.2, rfl⟩)]
      · show (if s.i = bs.length then _ else (zTm, 50, (s.i : Int))) = _
        rw [if_neg hi]
end Go.Proofs.Ytnaecagmcpndhaa
