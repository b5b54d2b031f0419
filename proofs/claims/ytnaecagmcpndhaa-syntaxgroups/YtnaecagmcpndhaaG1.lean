/- A text that is read well is read so within brackets, too. -/
import Derived.Test.YtnaecagmcpndhaaP3
namespace Go.Proofs.Ytnaecagmcpndhaa
open Go.RowKit

/-- the text a stands in v from place q on, and there it ends, or a bracket shuts -/
structure Ins (a v : List Nat) (q : Nat) : Prop where
  len : q + a.length ≤ v.length
  same : ∀ j, j < a.length → bn v (q + j) = bn a j
  shut : q + a.length = v.length ∨ bn v (q + a.length) = 41
/-- two readings stand at the same byte -/
structure SH (q k : Nat) (s s' : St) : Prop where
  i : s'.i = q + s.i
  op : k = 0 → s'.op = s.op
  dp : k = 0 → (s.dp = -1 ↔ s'.dp = -1)
  rp : s.rp = -1 → s'.rp = -1
/-- what one reading gives, the other one gives -/
def SM {α : Type} (q k : Nat) (r r' : Except Nat (α × St)) : Prop := ∀ x s2, r = .ok (x, s2) → ∃ s2', r' = .ok (x, s2') ∧ SH q k s2 s2'
section
variable {α β : Type} {q k : Nat} {s s' : St} {r r' : Except Nat (α × St)}
theorem SM.thn {G G' : α → St → Except Nat (β × St)} (h : SM q k r r') (hg : ∀ x s1 s1', r = .ok (x, s1) → SH q k s1 s1' → SM q k (G x s1) (G' x s1')) : SM q k (thn r G) (thn r' G') := by
  intro y s2 he
  cases r with
  | error p => cases he
  | ok z =>
    obtain ⟨x, s1⟩ := z
    obtain ⟨s1', e1, h1⟩ := h x s1 rfl
    obtain ⟨s2', e2, h2⟩ := hg x s1 s1' rfl h1 y s2 he
    exact ⟨s2', by rw [e1]; exact e2, h2⟩
theorem SM.ok (h : SH q k s s') (a : α) : SM q k (.ok (a, s)) (.ok (a, s')) := fun x s2 he => by cases he; exact ⟨s', rfl, h⟩
theorem SM.err (p : Nat) : SM q k (.error p : Except Nat (α × St)) r' := fun x s2 he => by cases he
theorem SH.nx (h : SH q k s s') : SH q k s.nx s'.nx := ⟨by show s'.i + 1 = q + (s.i + 1); have := h.i; omega, h.op, h.dp, h.rp⟩
end
section
variable {α : Type} {a v : List Nat} {q k : Nat} {s s' : St} {r1 r1' r2 r2' : Except Nat (α × St)}
theorem Ins.sbA (A : Ins a v q) {i : Nat} (hi : i < a.length) (b : Nat) : sb v (q + i) b = sb a i b := by
  unfold Go.Proofs.Ytnaecagmcpndhaa.sb
  have := A.len
  rw [A.same i hi]
  congr 1
  rw [eq_iff_iff]
  constructor
  · exact fun ⟨_, h⟩ => ⟨hi, h⟩
  · exact fun ⟨_, h⟩ => ⟨by omega, h⟩
theorem Ins.sb_end (A : Ins a v q) {b : Nat} (hb : b ≠ 41) : sb v (q + a.length) b = false := sbF (by
  rintro ⟨h1, h2⟩
  rcases A.shut with h | h
  · omega
  · omega)
theorem Ins.sb_ne (A : Ins a v q) (h : SH q k s s') (hs : s.i ≤ a.length) {b : Nat} (hb : b ≠ 41) : sb v s'.i b = sb a s.i b := by
  rw [h.i]
  rcases Nat.lt_or_ge s.i a.length with hi | hi
  · exact A.sbA hi b
  · have e : s.i = a.length := by omega
    rw [e, A.sb_end hb, sbF (by omega)]
theorem SM.ifs (A : Ins a v q) (h : SH q k s s') (hs : s.i ≤ a.length) (b : Nat) (hb : b ≠ 41) (h1 : sb a s.i b = true → SM q k r1 r1') (h2 : sb a s.i b = false → SM q k r2 r2') :
    SM q k (if sb a s.i b = true then r1 else r2) (if sb v s'.i b = true then r1' else r2') := by
  rw [A.sb_ne h hs hb]
  cases hh : sb a s.i b with
  | true => rw [if_pos rfl, if_pos rfl]; exact h1 hh
  | false => rw [if_neg (by simp), if_neg (by simp)]; exact h2 hh
theorem must_sm (A : Ins a v q) (h : SH q k s s') (b : Nat) : SM q k (mustF a s b) (mustF v s' b) := by
  unfold mustF
  cases hh : sb a s.i b with
  | false => rw [if_neg (by simp)]; exact SM.err _
  | true =>
    have hi := (sb_lt hh).1
    rw [h.i, A.sbA hi b, hh, if_pos rfl, if_pos rfl]
    exact SM.ok h.nx ()
theorem Ins.dgA (A : Ins a v q) (h : SH q k s s') (hs : s.i ≤ a.length) : dg v s'.i = dg a s.i := by
  rw [h.i]
  unfold Go.Proofs.Ytnaecagmcpndhaa.dg
  have := A.len
  rcases Nat.lt_or_ge s.i a.length with hi | hi
  · rw [A.same _ hi, decide_eq_true (show q + s.i < v.length by omega), decide_eq_true hi]
  · have e : s.i = a.length := by omega
    rw [e]
    rcases A.shut with h | h
    · rw [decide_eq_false (show ¬ q + a.length < v.length by omega), decide_eq_false (show ¬ a.length < a.length by omega)]; rfl
    · rw [h, decide_eq_false (show ¬ a.length < a.length by omega)]; simp [isD]
theorem digit_sm (A : Ins a v q) (h : SH q k s s') (hs : s.i ≤ a.length) : SM q k (digitF a s) (digitF v s') := by
  unfold digitF
  cases hh : Go.Proofs.Ytnaecagmcpndhaa.dg a s.i with
  | false => rw [if_neg (by simp)]; exact SM.err _
  | true =>
    have hi := dg_lt hh
    rw [A.dgA h hs, hh, if_pos rfl, if_pos rfl, h.i, A.same _ hi]
    exact SM.ok h.nx _
theorem numL_sm (A : Ins a v q) : ∀ (n x : Nat) (s s' : St), SH q k s s' → s.i ≤ a.length → SM q k (.ok (numL a n x s)) (.ok (numL v n x s'))
  | 0, x, s, s', h, _ => SM.ok h x
  | n + 1, x, s, s', h, hs => by
    rw [numL, numL, A.dgA h hs]
    cases hh : Go.Proofs.Ytnaecagmcpndhaa.dg a s.i with
    | false => rw [if_neg (by simp), if_neg (by simp)]; exact SM.ok h x
    | true =>
      have hi := dg_lt hh
      rw [if_pos rfl, if_pos rfl, h.i, A.same _ hi]
      exact numL_sm A n _ s.nx s'.nx h.nx hi
theorem number_sm (A : Ins a v q) (h : SH q k s s') (hs : s.i ≤ a.length) : SM q k (numberF a s) (numberF v s') := by
  refine (digit_sm A h hs).thn fun x s1 s1' e1 h1 => numL_sm A 2 x s1 s1' h1 ?_
  have := (digit_ll (agree0 a) hs).le
  rw [e1] at this
  exact this
/-- where a reading stands that gave something -/
theorem LL.at_ {len m d : Nat} {r r' : Except Nat (α × St)} {x : α} {s1 : St} (h : LL len m d s r r') (e : r = .ok (x, s1)) : s1.i ≤ len := by have := h.le; rw [e] at this; exact this
theorem upper_sm (A : Ins a v q) (h : SH q k s s') (hs : s.i ≤ a.length) (lo : Nat) : SM q k (upperF a lo s) (upperF v lo s') := by
  unfold upperF
  refine SM.ifs A h hs 44 (by omega) (fun hb => ?_) (fun _ => SM.ok h _)
  refine SM.ifs A h.nx (nx_le hb) 125 (by omega) (fun _ => SM.ok h.nx _) (fun _ => ?_)
  exact (number_sm A h.nx (nx_le hb)).thn fun x s1 s1' _ h1 => SM.ok h1 _
theorem late_sh {s1 s1' : St} (h : SH q k s s') (lo hi : Int) : SH q k (lateF s1 lo hi s) (lateF s1' lo hi s') := by
  unfold lateF
  by_cases hf : fitsF lo hi = false
  · by_cases h1 : s.rp = -1
    · rw [if_pos ⟨hf, h1⟩, if_pos ⟨hf, h.rp h1⟩]
      exact ⟨h.i, h.op, h.dp, fun e => absurd e (by show ¬ ((s1.i : Int) = -1); omega)⟩
    · rw [if_neg (fun e => h1 e.2)]
      split
      · exact ⟨h.i, h.op, h.dp, fun e => absurd e h1⟩
      · exact h
  · rw [if_neg (fun e => hf e.1), if_neg (fun e => hf e.1)]
    exact h
theorem braces_sm (A : Ins a v q) (h : SH q k s s') (hs : s.i ≤ a.length) : SM q k (bracesF a s) (bracesF v s') := by
  unfold bracesF
  refine (must_sm A h 123).thn fun _ s1 s1' e1 h1 => ?_
  have l1 := (must_ll (agree0 a) hs 123).at_ e1
  refine (number_sm A h1 l1).thn fun lo s2 s2' e2 h2 => ?_
  have l2 := (number_ll (agree0 a) l1).at_ e2
  refine (upper_sm A h2 l2 lo).thn fun hi s3 s3' e3 h3 => ?_
  refine (must_sm A h3 125).thn fun _ s4 s4' e4 h4 => ?_
  exact SM.ok (late_sh h4 _ _) _
theorem quant_sm (A : Ins a v q) (h : SH q k s s') (hs : s.i ≤ a.length) : SM q k (quantF a s) (quantF v s') := by
  unfold quantF
  refine SM.ifs A h hs 42 (by omega) (fun _ => SM.ok h.nx _) fun _ => SM.ifs A h hs 43 (by omega) (fun _ => SM.ok h.nx _) fun _ => SM.ifs A h hs 63 (by omega) (fun _ => SM.ok h.nx _) fun _ => SM.ifs A h hs 123 (by omega) (fun _ => ?_) fun _ => SM.ok h _
  exact (braces_sm A h hs).thn fun p s1 s1' _ h1 => SM.ok h1 _
theorem hex_sm (A : Ins a v q) (h : SH q k s s') : SM q k (hexF a s) (hexF v s') := by
  unfold hexF
  by_cases hi : s.i < a.length
  · have := A.len
    rw [if_pos hi, if_pos (by rw [h.i]; omega), h.i, A.same _ hi]
    cases hexv (bn a s.i) with
    | none => exact SM.err _
    | some x => exact SM.ok h.nx _
  · rw [if_neg hi]; exact SM.err _
theorem escTail_sm (A : Ins a v q) (h : SH q k s s') : SM q k (escTail a s) (escTail v s') := by
  unfold escTail
  by_cases hi : s.i < a.length ∧ isM (bn a s.i) = true
  · have := A.len
    rw [if_pos hi, if_pos (by rw [h.i, A.same _ hi.1]; exact ⟨by omega, hi.2⟩), h.i, A.same _ hi.1]
    exact SM.ok h.nx _
  · rw [if_neg hi]; exact SM.err _
theorem escRest_sm (A : Ins a v q) (h : SH q k s s') (hs : s.i ≤ a.length) : SM q k (escRest a s) (escRest v s') := by
  unfold escRest
  refine SM.ifs A h hs 110 (by omega) (fun _ => SM.ok h.nx _) fun _ => SM.ifs A h hs 116 (by omega) (fun _ => SM.ok h.nx _) fun _ => SM.ifs A h hs 114 (by omega) (fun _ => SM.ok h.nx _) fun _ => SM.ifs A h hs 120 (by omega) (fun _ => ?_) fun _ => escTail_sm A h
  exact (hex_sm A h.nx).thn fun x s1 s1' _ h1 => (hex_sm A h1).thn fun y s2 s2' _ h2 => SM.ok h2 _
theorem escaped_sm (A : Ins a v q) (h : SH q k s s') (hs : s.i ≤ a.length) : SM q k (escapedF a s) (escapedF v s') :=
  (must_sm A h 92).thn fun _ s1 s1' e1 h1 => escRest_sm A h1 ((must_ll (agree0 a) hs 92).at_ e1)
theorem takeBut_sm (A : Ins a v q) (h : SH q k s s') (xs : List Nat) : SM q k (takeButF a s xs) (takeButF v s' xs) := by
  unfold takeButF
  by_cases hi : s.i < a.length ∧ ¬ bn a s.i ∈ xs
  · have := A.len
    rw [if_pos hi, if_pos (by rw [h.i, A.same _ hi.1]; exact ⟨by omega, hi.2⟩), h.i, A.same _ hi.1]
    exact SM.ok h.nx _
  · rw [if_neg hi]; exact SM.err _
theorem end_sm (A : Ins a v q) (h : SH q k s s') (hs : s.i ≤ a.length) : SM q k (endF a s) (endF v s') := by
  unfold endF
  exact SM.ifs A h hs 92 (by omega) (fun _ => escaped_sm A h hs) (fun _ => takeBut_sm A h _)
theorem letter_sm {r r' : Except Nat (α × St)} (A : Ins a v q) (h : SH q k s s') (hs : s.i ≤ a.length) (g : (Nat → Bool) → α) (hr : SM q k r r') :
    SM q k (match letterF a s with | (some f, s2) => .ok (g f, s2) | (none, _) => r) (match letterF v s' with | (some f, s2) => .ok (g f, s2) | (none, _) => r') := by
  have hl := A.len
  by_cases hb : sb a s.i 92 = true
  · have hb' : sb v s'.i 92 = true := by rw [A.sb_ne h hs (by omega)]; exact hb
    have hi := (sb_lt hb).1
    have e1 : s'.i + 1 = q + (s.i + 1) := by have := h.i; omega
    by_cases hn : s.i + 1 < a.length
    · have e2 : bn v (s'.i + 1) = bn a (s.i + 1) := by rw [e1, A.same _ hn]
      cases hf : mng (bn a (s.i + 1)) with
      | some f =>
        have e3 : letterF a s = (some f, { s with i := s.i + 2 }) := by unfold letterF; rw [if_pos ⟨hb, hn⟩, hf]
        have e4 : letterF v s' = (some f, { s' with i := s'.i + 2 }) := by unfold letterF; rw [if_pos ⟨hb', by omega⟩, e2, hf]
        rw [e3, e4]
        exact SM.ok (s := { s with i := s.i + 2 }) (s' := { s' with i := s'.i + 2 }) ⟨by show s'.i + 2 = q + (s.i + 2); omega, h.op, h.dp, h.rp⟩ _
      | none =>
        have e3 : letterF a s = (none, s) := by unfold letterF; rw [if_pos ⟨hb, hn⟩, hf]
        have e4 : letterF v s' = (none, s') := by unfold letterF; rw [if_pos ⟨hb', by omega⟩, e2, hf]
        rw [e3, e4]
        exact hr
    · have e3 : letterF a s = (none, s) := by unfold letterF; rw [if_neg (fun e => hn e.2)]
      have e4 : letterF v s' = (none, s') := by
        unfold letterF
        by_cases hv : s'.i + 1 < v.length
        · have e5 : bn v (s'.i + 1) = 41 := by
            rcases A.shut with h1 | h1
            · omega
            · rw [e1, show s.i + 1 = a.length by omega]; exact h1
          rw [if_pos ⟨hb', hv⟩, e5]
          rfl
        · rw [if_neg (fun e => hv e.2)]
      rw [e3, e4]
      exact hr
  · have hb' : ¬ sb v s'.i 92 = true := by rw [A.sb_ne h hs (by omega)]; exact hb
    have e3 : letterF a s = (none, s) := by unfold letterF; rw [if_neg (fun e => hb e.1)]
    have e4 : letterF v s' = (none, s') := by unfold letterF; rw [if_neg (fun e => hb' e.1)]
    rw [e3, e4]
    exact hr
theorem escape_sm (A : Ins a v q) (h : SH q k s s') (hs : s.i ≤ a.length) : SM q k (escapeF a s) (escapeF v s') :=
  letter_sm A h hs id ((escaped_sm A h hs).thn fun b s1 s1' _ h1 => SM.ok h1 _)
theorem item_sm (A : Ins a v q) (h : SH q k s s') (hs : s.i ≤ a.length) : SM q k (itemF a s) (itemF v s') := by
  refine letter_sm A h hs id ((end_sm A h hs).thn fun x s1 s1' e1 h1 => ?_)
  have l1 := (end_ll (agree0 a) hs).at_ e1
  exact SM.ifs A h1 l1 45 (by omega) (fun hb => (end_sm A h1.nx (nx_le hb)).thn fun y s2 s2' _ h2 => SM.ok h2 _) fun _ => SM.ok h1 _
end
theorem clsL_sm {a v : List Nat} {q k : Nat} (A : Ins a v q) : ∀ (n n' : Nat) (f : Nat → Bool) (s s' : St), SH q k s s' → s.i ≤ a.length → v.length < n' + s'.i → SM q k (clsL a n f s) (clsL v n' f s')
  | 0, n', f, s, s', _, _, _ => SM.err _
  | n + 1, 0, f, s, s', h, hs, hn => absurd hn (by have := A.len; have := h.i; omega)
  | n + 1, n' + 1, f, s, s', h, hs, hn => by
    rw [clsL, clsL]
    refine SM.ifs A h hs 93 (by omega) (fun _ => SM.ok h.nx _) fun _ => ?_
    refine (item_sm A h hs).thn fun g s1 s1' e1 h1 => ?_
    have hp := (item_ll (agree0 a) hs).prog g s1 e1
    exact clsL_sm A n n' _ s1 s1' h1 ((item_ll (agree0 a) hs).at_ e1) (by have h2 := h.i; have h3 := h1.i; omega)
theorem class_sm {a v : List Nat} {q k : Nat} {s s' : St} (A : Ins a v q) (h : SH q k s s') (hs : s.i ≤ a.length) : SM q k (classF a s) (classF v s') := by
  unfold classF
  refine (must_sm A h 91).thn fun _ s1 s1' e1 h1 => ?_
  have l1 := (must_ll (agree0 a) hs 91).at_ e1
  rw [A.sb_ne h1 l1 (by omega)]
  have h2 : SH q k (nx? (sb a s1.i 94) s1) (nx? (sb a s1.i 94) s1') ∧ (nx? (sb a s1.i 94) s1).i ≤ a.length := by
    cases hb : sb a s1.i 94 with
    | false => exact ⟨h1, l1⟩
    | true => exact ⟨h1.nx, nx_le hb⟩
  refine (item_sm A h2.1 h2.2).thn fun f s3 s3' e3 h3 => ?_
  exact (clsL_sm A (a.length + 1) (v.length + 1) f s3 s3' h3 ((item_ll (agree0 a) h2.2).at_ e3) (by omega)).thn fun g s4 s4' _ h4 => SM.ok h4 _
end Go.Proofs.Ytnaecagmcpndhaa
