/- The reader's pieces look at no byte behind the place where they stand. -/
import Derived.Test.YtnaecagmcpndhaaP1
namespace Go.Proofs.Ytnaecagmcpndhaa
open Go.RowKit
section
variable {bs bs' : List Nat} {m : Nat} {s : St}
theorem numL_ll (A : Agree bs bs' m) : ∀ (k n : Nat) (s : St), s.i ≤ bs.length → LL bs.length m 0 s (.ok (numL bs k n s)) (.ok (numL bs' k n s))
  | 0, n, s, hs => LL.ok hs n
  | k + 1, n, s, hs => by
    have h := LL.ifp (bs := bs) (s := s) (m := m) (d := 0) (r1 := Except.ok (numL bs k (10 * n + (bn bs s.i - 48)) s.nx)) (r2 := .ok (n, s)) (r1' := .ok (numL bs' k (10 * n + (bn bs' s.i - 48)) s.nx)) (r2' := .ok (n, s)) (dg bs s.i = true) (dg bs' s.i = true) (fun hi => A.dg hi)
      (fun hd => by
        have h1 := (numL_ll A k (10 * n + (bn bs s.i - 48)) s.nx (dg_lt hd)).at (s := s) 1 rfl
        refine ⟨h1.mono, h1.le, fun a s' h => by have := h1.prog a s' h; omega, fun hp => ?_⟩
        have hm : s.i + 1 ≤ pos (Except.ok (numL bs k (10 * n + (bn bs s.i - 48)) s.nx)) := (numL_ll A k (10 * n + (bn bs s.i - 48)) s.nx (dg_lt hd)).mono
        rw [← A.same s.i (by omega)]
        exact h1.eq hp) (fun _ => LL.ok hs n)
    have e1 : Except.ok (numL bs (k + 1) n s) = (if dg bs s.i = true then Except.ok (numL bs k (10 * n + (bn bs s.i - 48)) s.nx) else (.ok (n, s) : Except Nat (Nat × St))) := by rw [numL]; split <;> rfl
    have e2 : Except.ok (numL bs' (k + 1) n s) = (if dg bs' s.i = true then Except.ok (numL bs' k (10 * n + (bn bs' s.i - 48)) s.nx) else (.ok (n, s) : Except Nat (Nat × St))) := by rw [numL]; split <;> rfl
    rw [e1, e2]
    exact h
theorem number_ll (A : Agree bs bs' m) (hs : s.i ≤ bs.length) : LL bs.length m 1 s (numberF bs s) (numberF bs' s) := (digit_ll A hs).thn fun n s1 _ h1 => numL_ll A 2 n s1 h1
theorem upper_ll (A : Agree bs bs' m) (lo : Nat) (hs : s.i ≤ bs.length) : LL bs.length m 0 s (upperF bs lo s) (upperF bs' lo s) := by
  unfold upperF
  refine LL.ifs A 44 (fun h => ?_) (fun _ => LL.ok hs _)
  have h1 : LL bs.length m 0 s.nx (if sb bs s.nx.i 125 = true then Except.ok ((-1 : Int), s.nx) else thn (numberF bs s.nx) fun hi s3 => .ok ((hi : Int), s3)) (if sb bs' s.nx.i 125 = true then Except.ok ((-1 : Int), s.nx) else thn (numberF bs' s.nx) fun hi s3 => .ok ((hi : Int), s3)) :=
    LL.ifs A 125 (fun _ => LL.ok (nx_le h) _) (fun _ => ((number_ll A (nx_le h)).thn fun n s1 _ h1 => LL.ok h1 _).weak (by omega))
  exact (h1.at (s := s) 1 rfl).weak (by omega)
theorem late_i (s1 : St) (lo hi : Int) (s2 : St) : (lateF s1 lo hi s2).i = s2.i := by unfold lateF; split <;> rfl
theorem braces_ll (A : Agree bs bs' m) (hs : s.i ≤ bs.length) : LL bs.length m 1 s (bracesF bs s) (bracesF bs' s) := by
  unfold bracesF
  refine ((must_ll A hs 123).thn (e := 0) fun _ s1 _ h1 => ?_).weak (by omega)
  refine ((number_ll A h1).thn (e := 0) fun lo s2 _ h2 => ?_).weak (by omega)
  refine ((upper_ll A lo h2).thn (e := 0) fun hi s4 _ h4 => ?_).weak (by omega)
  refine ((must_ll A h4 125).thn (e := 0) fun _ s5 _ h5 => ?_).weak (by omega)
  exact LL.okAt (by rw [late_i]; exact h5) (by rw [late_i]; omega) _
theorem quant_ll (A : Agree bs bs' m) (hs : s.i ≤ bs.length) : LL bs.length m 0 s (quantF bs s) (quantF bs' s) := by
  unfold quantF
  refine LL.ifs A 42 (fun h => (LL.took 42 h _).weak (by omega)) fun _ => LL.ifs A 43 (fun h => (LL.took 43 h _).weak (by omega)) fun _ => LL.ifs A 63 (fun h => (LL.took 63 h _).weak (by omega)) fun _ => LL.ifs A 123 (fun _ => ?_) fun _ => LL.ok hs _
  exact ((braces_ll A hs).thn (e := 0) fun p s1 _ h1 => LL.ok h1 _).weak (by omega)
theorem hex_ll (A : Agree bs bs' m) (hs : s.i ≤ bs.length) : LL bs.length m 1 s (hexF bs s) (hexF bs' s) := by
  unfold hexF
  refine LL.ifp (bs := bs) (s.i < bs.length) (s.i < bs'.length) (fun hi => A.lt hi) (fun h => ?_) (fun _ => LL.err hs)
  cases hv : hexv (bn bs s.i) with
  | none => exact ⟨Nat.le_refl _, hs, fun b s1 h => (by cases h), fun hp => by rw [← A.same s.i hp, hv]⟩
  | some v => exact ⟨by show s.i ≤ s.i + 1; omega, h, fun b s1 h => by cases h; exact Nat.le_refl _, fun hp => by rw [← A.same s.i (by have : s.i + 1 < m := hp; omega), hv]⟩
theorem escTail_ll (A : Agree bs bs' m) (hs : s.i ≤ bs.length) : LL bs.length m 1 s (escTail bs s) (escTail bs' s) := by
  unfold escTail
  refine LL.ifp (bs := bs) _ _ (fun hi => by rw [A.same s.i hi, A.lt hi]) (fun h => ?_) (fun _ => LL.err hs)
  exact ⟨by show s.i ≤ s.i + 1; omega, h.1, fun b s1 h => by cases h; exact Nat.le_refl _, fun hp => by rw [← A.same s.i (by have : s.i + 1 < m := hp; omega)]⟩
theorem escRest_ll (A : Agree bs bs' m) (hs : s.i ≤ bs.length) : LL bs.length m 1 s (escRest bs s) (escRest bs' s) := by
  unfold escRest
  refine LL.ifs A 110 (fun h => LL.took 110 h _) fun _ => LL.ifs A 116 (fun h => LL.took 116 h _) fun _ => LL.ifs A 114 (fun h => LL.took 114 h _) fun _ => LL.ifs A 120 (fun h => ?_) fun _ => escTail_ll A hs
  have h1 := (hex_ll A (nx_le h)).thn (e := 1) (G := fun h' s2 => thn (hexF bs s2) fun l s3 => .ok (16 * h' + l, s3)) (G' := fun h' s2 => thn (hexF bs' s2) fun l s3 => .ok (16 * h' + l, s3)) fun a s2 _ h2 => (hex_ll A h2).thn (e := 0) fun l s3 _ h3 => LL.ok h3 _
  exact (h1.at (s := s) 1 rfl).weak (by omega)
theorem escaped_ll (A : Agree bs bs' m) (hs : s.i ≤ bs.length) : LL bs.length m 2 s (escapedF bs s) (escapedF bs' s) := (must_ll A hs 92).thn fun _ s1 _ h1 => escRest_ll A h1
theorem takeBut_ll (A : Agree bs bs' m) (hs : s.i ≤ bs.length) (xs : List Nat) : LL bs.length m 1 s (takeButF bs s xs) (takeButF bs' s xs) := by
  unfold takeButF
  refine LL.ifp (bs := bs) _ _ (fun hi => by rw [A.same s.i hi, A.lt hi]) (fun h => ?_) (fun _ => LL.err hs)
  exact ⟨by show s.i ≤ s.i + 1; omega, h.1, fun b s1 h => by cases h; exact Nat.le_refl _, fun hp => by rw [← A.same s.i (by have : s.i + 1 < m := hp; omega)]⟩
theorem end_ll (A : Agree bs bs' m) (hs : s.i ≤ bs.length) : LL bs.length m 1 s (endF bs s) (endF bs' s) := by
  unfold endF
  exact LL.ifs A 92 (fun _ => (escaped_ll A hs).weak (by omega)) (fun _ => takeBut_ll A hs _)
/-- what stands behind a backslash is looked at ahead -/
theorem letter_ll {α : Type} {d : Nat} {r r' : Except Nat (α × St)} (A : Agree bs bs' m) (g : (Nat → Bool) → α) (hd : d ≤ 2)
    (h : LL bs.length m d s r r') (hm : sb bs s.i 92 = true → s.i + 1 ≤ pos r) :
    LL bs.length m d s (match letterF bs s with | (some f, s') => .ok (g f, s') | (none, _) => r) (match letterF bs' s with | (some f, s') => .ok (g f, s') | (none, _) => r') := by
  have a1 := A.h1
  have a2 := A.h2
  by_cases hc : sb bs s.i 92 = true ∧ s.i + 1 < bs.length
  · cases hf : mng (bn bs (s.i + 1)) with
    | some f =>
      have e1 : letterF bs s = (some f, { s with i := s.i + 2 }) := by unfold letterF; rw [if_pos hc, hf]
      rw [e1]
      refine ⟨by show s.i ≤ s.i + 2; omega, by show s.i + 2 ≤ _; omega, fun a s' h' => by cases h'; show s.i + d ≤ s.i + 2; omega, fun hp => ?_⟩
      have hp' : s.i + 2 < m := hp
      have e2 : letterF bs' s = (some f, { s with i := s.i + 2 }) := by unfold letterF; rw [if_pos ⟨by rw [A.sb (by omega)]; exact hc.1, by omega⟩, ← A.same (s.i + 1) (by omega), hf]
      rw [e2]
    | none =>
      have e1 : letterF bs s = (none, s) := by unfold letterF; rw [if_pos hc, hf]
      rw [e1]
      refine ⟨h.mono, h.le, h.prog, fun hp => ?_⟩
      have hp2 := hm hc.1
      have hp' : pos r < m := hp
      have e2 : letterF bs' s = (none, s) := by unfold letterF; rw [if_pos ⟨by rw [A.sb (by omega)]; exact hc.1, by omega⟩, ← A.same (s.i + 1) (by omega), hf]
      rw [e2]
      exact h.eq hp
  · have e1 : letterF bs s = (none, s) := by unfold letterF; rw [if_neg hc]
    rw [e1]
    refine ⟨h.mono, h.le, h.prog, fun hp => ?_⟩
    have hp' : pos r < m := hp
    have h0 := h.mono
    have e2 : letterF bs' s = (none, s) := by
      unfold letterF
      rw [if_neg]
      rintro ⟨x, y⟩
      rw [A.sb (by omega)] at x
      have := hm x
      exact hc ⟨x, by omega⟩
    rw [e2]
    exact h.eq hp
theorem escaped_pos (h : sb bs s.i 92 = true) : s.i + 1 ≤ pos (escapedF bs s) := by
  have A : Agree bs bs bs.length := ⟨Nat.le_refl _, Nat.le_refl _, fun _ _ => rfl⟩
  unfold escapedF mustF
  rw [if_pos h]
  exact (escRest_ll (s := s.nx) A (nx_le h)).mono
theorem thn_pos {α β : Type} {k : Nat} {r : Except Nat (α × St)} {G : α → St → Except Nat (β × St)} (h : k ≤ pos r) (hg : ∀ a s1, r = .ok (a, s1) → s1.i ≤ pos (G a s1)) : k ≤ pos (thn r G) := by
  cases r with
  | error p => exact h
  | ok x =>
    obtain ⟨a, s1⟩ := x
    have h1 := hg a s1 rfl
    have h2 : k ≤ s1.i := h
    show k ≤ pos (G a s1)
    omega
theorem escape_ll (A : Agree bs bs' m) (hs : s.i ≤ bs.length) : LL bs.length m 2 s (escapeF bs s) (escapeF bs' s) := by
  refine letter_ll A id (by omega) ((escaped_ll A hs).thn (e := 0) fun b s1 _ h1 => LL.ok h1 _) fun h => ?_
  exact thn_pos (escaped_pos h) fun a s1 _ => Nat.le_refl _
theorem itemRest_ll (A : Agree bs bs' m) (hs : s.i ≤ bs.length) : LL bs.length m 1 s (thn (endF bs s) fun a s1 => if sb bs s1.i 45 = true then thn (endF bs s1.nx) fun b s2 => .ok (rgF a b, s2) else .ok (rgF a a, s1)) (thn (endF bs' s) fun a s1 => if sb bs' s1.i 45 = true then thn (endF bs' s1.nx) fun b s2 => .ok (rgF a b, s2) else .ok (rgF a a, s1)) := by
  refine ((end_ll A hs).thn (e := 0) fun a s1 _ h1 => ?_).weak (by omega)
  refine LL.ifs A 45 (fun h => ?_) fun _ => LL.ok h1 _
  have h2 := (end_ll A (nx_le h)).thn (e := 0) (G := fun b s2 => .ok (rgF a b, s2)) (G' := fun b s2 => .ok (rgF a b, s2)) fun b s2 _ h2 => LL.ok h2 _
  exact (h2.at (s := s1) 1 rfl).weak (by omega)
theorem item_ll (A : Agree bs bs' m) (hs : s.i ≤ bs.length) : LL bs.length m 1 s (itemF bs s) (itemF bs' s) := by
  refine letter_ll A id (by omega) (itemRest_ll A hs) fun h => ?_
  have A0 : Agree bs bs bs.length := ⟨Nat.le_refl _, Nat.le_refl _, fun _ _ => rfl⟩
  refine thn_pos ?_ fun a s1 he => ?_
  · unfold endF; rw [if_pos h]; exact escaped_pos h
  · have h1 : s1.i ≤ bs.length := by have := (end_ll (s := s) A0 hs).le; rw [he] at this; exact this
    cases h45 : sb bs s1.i 45 with
    | false => exact Nat.le_refl _
    | true =>
      rw [if_pos rfl]
      have h2 := (end_ll (s := s1.nx) A0 (nx_le h45)).mono
      exact thn_pos (by have := nx_i s1; omega) fun a s1 _ => Nat.le_refl _
theorem LL.zero {α : Type} {len d : Nat} {s : St} {r r1 : Except Nat (α × St)} (h : LL len 0 d s r r1) {m : Nat} (r' : Except Nat (α × St)) (hm : m ≤ s.i) : LL len m d s r r' := ⟨h.mono, h.le, h.prog, fun hp => absurd hp (by have := h.mono; omega)⟩
end
theorem agree0 (bs : List Nat) : Agree bs bs 0 := ⟨Nat.zero_le _, Nat.zero_le _, fun j h => absurd h (by omega)⟩
theorem clsL_0 (bs : List Nat) : ∀ (n : Nat) (f : Nat → Bool) (s : St), s.i ≤ bs.length → bs.length < n + s.i → LL bs.length 0 1 s (clsL bs n f s) (clsL bs n f s)
  | 0, f, s, hs, h => absurd h (by omega)
  | n + 1, f, s, hs, h => by
    rw [clsL]
    refine LL.ifs (agree0 bs) 93 (fun h => LL.took 93 h _) fun _ => ?_
    refine ((item_ll (agree0 bs) hs).thn (e := 0) fun g s1 e1 h1 => ?_).weak (by omega)
    have hp := (item_ll (s := s) (agree0 bs) hs).prog g s1 e1
    exact (clsL_0 bs n _ s1 h1 (by omega)).weak (by omega)
theorem clsL_ll {bs bs' : List Nat} {m : Nat} (A : Agree bs bs' m) : ∀ (n n' : Nat) (f : Nat → Bool) (s : St), s.i ≤ bs.length → bs.length < n + s.i → bs'.length < n' + s.i → LL bs.length m 1 s (clsL bs n f s) (clsL bs' n' f s)
  | 0, n', f, s, hs, h, _ => absurd h (by omega)
  | n + 1, 0, f, s, hs, h, h' => (clsL_0 bs (n + 1) f s hs h).zero _ (by have := A.h2; omega)
  | n + 1, n' + 1, f, s, hs, h, h' => by
    rw [clsL, clsL]
    refine LL.ifs A 93 (fun h => LL.took 93 h _) fun _ => ?_
    refine ((item_ll A hs).thn (e := 0) fun g s1 e1 h1 => ?_).weak (by omega)
    have hp := (item_ll A hs).prog g s1 e1
    exact (clsL_ll A n n' _ s1 h1 (by omega) (by omega)).weak (by omega)
section
variable {bs bs' : List Nat} {m : Nat} {s : St}
theorem nxq_i (b : Bool) (s : St) : s.i ≤ (nx? b s).i ∧ (nx? b s).i = if b then s.i + 1 else s.i := by cases b <;> simp [nx?, St.nx]
theorem class_ll (A : Agree bs bs' m) (hs : s.i ≤ bs.length) : LL bs.length m 1 s (classF bs s) (classF bs' s) := by
  unfold classF
  refine ((must_ll A hs 91).thn (e := 0) fun _ s1 _ h1 => ?_).weak (by omega)
  -- the sign that turns a class round is looked at first
  have key : ∀ b : Bool, sb bs s1.i 94 = b → LL bs.length m 0 s1 (thn (itemF bs (nx? b s1)) fun f s3 => thn (clsL bs (bs.length + 1) f s3) fun h s4 => .ok (neg? b h, s4)) (thn (itemF bs' (nx? b s1)) fun f s3 => thn (clsL bs' (bs'.length + 1) f s3) fun h s4 => .ok (neg? b h, s4)) := fun b hb => by
    have hn : (nx? b s1).i ≤ bs.length := by
      cases b with
      | false => exact h1
      | true => exact nx_le hb
    have h2 : LL bs.length m 0 (nx? b s1) (thn (itemF bs (nx? b s1)) fun f s3 => thn (clsL bs (bs.length + 1) f s3) fun h s4 => .ok (neg? b h, s4)) (thn (itemF bs' (nx? b s1)) fun f s3 => thn (clsL bs' (bs'.length + 1) f s3) fun h s4 => .ok (neg? b h, s4)) := by
      refine ((item_ll A hn).thn (e := 0) fun f s3 _ h3 => ?_).weak (by omega)
      exact ((clsL_ll A (bs.length + 1) (bs'.length + 1) f s3 h3 (by omega) (by omega)).thn (e := 0) fun h s4 _ h4 => LL.ok h4 _).weak (by omega)
    have hi := (nxq_i b s1).1
    obtain ⟨k, hk⟩ : ∃ k, (nx? b s1).i = s1.i + k := ⟨(nx? b s1).i - s1.i, by omega⟩
    exact (h2.at k hk).weak (by omega)
  have h3 := key _ rfl
  refine ⟨h3.mono, h3.le, h3.prog, fun hp => ?_⟩
  have := h3.mono
  have hp' : pos (thn (itemF bs (nx? (sb bs s1.i 94) s1)) fun f s3 => thn (clsL bs (bs.length + 1) f s3) fun h s4 => .ok (neg? (sb bs s1.i 94) h, s4)) < m := hp
  rw [A.sb (i := s1.i) (by omega) 94]
  exact h3.eq hp'
end
end Go.Proofs.Ytnaecagmcpndhaa
