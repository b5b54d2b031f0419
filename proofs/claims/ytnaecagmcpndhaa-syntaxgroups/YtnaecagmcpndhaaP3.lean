/- The whole reading looks at no byte behind the place where it gives up. -/
import Derived.Test.YtnaecagmcpndhaaP2
namespace Go.Proofs.Ytnaecagmcpndhaa
open Go.RowKit
def RL (bs : List Nat) (m : Nat) (rec rec' : St → Except Nat (Tm × St)) (i0 : Nat) : Prop := ∀ s, i0 < s.i → s.i ≤ bs.length → LL bs.length m 0 s (rec s) (rec' s)
theorem RL.mono {bs : List Nat} {m : Nat} {rec rec' : St → Except Nat (Tm × St)} {i j : Nat} (h : RL bs m rec rec' i) (hij : i ≤ j) : RL bs m rec rec' j := fun s hs => h s (by omega)
section
variable {bs bs' : List Nat} {m : Nat} {s : St} {rec rec' : St → Except Nat (Tm × St)}
theorem group_ll (A : Agree bs bs' m) (hs : s.i ≤ bs.length) (hR : RL bs m rec rec' s.i) : LL bs.length m 1 s (groupF rec bs s) (groupF rec' bs' s) := by
  have hd := (deep_i s).1
  have hs' : (deepF s).i ≤ bs.length := by omega
  have h1 : LL bs.length m (1 + 0) (deepF s) (groupF rec bs s) (groupF rec' bs' s) := by
    refine (must_ll A hs' 40).thn fun _ s2 e2 h2 => ?_
    have hp := (must_ll (s := deepF s) A hs' 40).prog _ s2 e2
    refine ((hR s2 (by omega) h2).thn (e := 0) fun t s3 _ h3 => ?_).weak (by omega)
    refine ((must_ll A h3 41).thn (e := 0) fun _ s4 _ h4 => ?_).weak (by omega)
    exact LL.okAt (s2 := { s4 with op := s4.op - 1 }) h4 (by show s4.i + 0 ≤ s4.i; omega) t
  exact (h1.at (s := s) 0 hd).weak (by omega)
theorem atom_ll (A : Agree bs bs' m) (hs : s.i ≤ bs.length) (hR : RL bs m rec rec' s.i) : LL bs.length m 1 s (atomF rec bs s) (atomF rec' bs' s) := by
  unfold atomF
  refine LL.ifs A 40 (fun _ => group_ll A hs hR) fun _ => LL.ifs A 91 (fun _ => ?_) fun _ => LL.ifs A 92 (fun _ => ?_) fun _ => LL.ifs A 46 (fun h => LL.took 46 h _) fun _ => LL.ifs A 94 (fun h => LL.took 94 h _) fun _ => LL.ifs A 36 (fun h => LL.took 36 h _) fun _ => ?_
  · exact ((class_ll A hs).thn (e := 0) fun f s1 _ h1 => LL.ok h1 _).weak (by omega)
  · exact ((escape_ll A hs).thn (e := 0) fun f s1 _ h1 => LL.ok h1 _).weak (by omega)
  · exact ((takeBut_ll A hs _).thn (e := 0) fun f s1 _ h1 => LL.ok h1 _).weak (by omega)
theorem rep_ll (A : Agree bs bs' m) (hs : s.i ≤ bs.length) (hR : RL bs m rec rec' s.i) : LL bs.length m 1 s (repF rec bs s) (repF rec' bs' s) := by
  refine ((atom_ll A hs hR).thn (e := 0) fun t s1 _ h1 => ?_).weak (by omega)
  exact ((quant_ll A h1).thn (e := 0) fun p s2 _ h2 => LL.ok h2 _).weak (by omega)
theorem cat_cond (A : Agree bs bs' m) (hi : s.i < m) : (s.i = bs.length ∨ sb bs s.i 124 = true ∨ sb bs s.i 41 = true) ↔ (s.i = bs'.length ∨ sb bs' s.i 124 = true ∨ sb bs' s.i 41 = true) := by
  rw [A.sb hi, A.sb hi]
  have := A.h1; have := A.h2
  constructor
  · rintro (h | h)
    · omega
    · exact .inr h
  · rintro (h | h)
    · omega
    · exact .inr h
end
theorem catL_0 (bs : List Nat) (rec : St → Except Nat (Tm × St)) : ∀ (n : Nat) (ts : List Tm) (s : St), s.i ≤ bs.length → bs.length < n + s.i → RL bs 0 rec rec s.i → LL bs.length 0 0 s (catL rec bs n ts s) (catL rec bs n ts s)
  | 0, ts, s, hs, h, _ => absurd h (by omega)
  | n + 1, ts, s, hs, h, hR => by
    rw [catL]
    refine LL.ifp (bs := bs) _ _ (fun _ => Iff.rfl) (fun _ => LL.ok hs _) fun _ => ?_
    refine ((rep_ll (agree0 bs) hs hR).thn (e := 0) fun t s1 e1 h1 => ?_).weak (by omega)
    have hp := (rep_ll (s := s) (agree0 bs) hs hR).prog t s1 e1
    exact catL_0 bs rec n _ s1 h1 (by omega) (hR.mono (by omega))
theorem RL.self0 {bs : List Nat} {m : Nat} {rec rec' : St → Except Nat (Tm × St)} {i : Nat} (h : RL bs m rec rec' i) : RL bs 0 rec rec i := fun s h1 h2 => have h3 := h s h1 h2; ⟨h3.mono, h3.le, h3.prog, fun _ => rfl⟩
theorem catL_ll {bs bs' : List Nat} {m : Nat} {rec rec' : St → Except Nat (Tm × St)} (A : Agree bs bs' m) : ∀ (n n' : Nat) (ts : List Tm) (s : St), s.i ≤ bs.length → bs.length < n + s.i → bs'.length < n' + s.i → RL bs m rec rec' s.i → LL bs.length m 0 s (catL rec bs n ts s) (catL rec' bs' n' ts s)
  | 0, n', ts, s, hs, h, _, _ => absurd h (by omega)
  | n + 1, 0, ts, s, hs, h, h', hR => (catL_0 bs rec (n + 1) ts s hs h hR.self0).zero _ (by have := A.h2; omega)
  | n + 1, n' + 1, ts, s, hs, h, h', hR => by
    rw [catL, catL]
    refine LL.ifp (bs := bs) _ _ (fun hi => cat_cond A hi) (fun _ => LL.ok hs _) fun _ => ?_
    refine ((rep_ll A hs hR).thn (e := 0) fun t s1 e1 h1 => ?_).weak (by omega)
    have hp := (rep_ll A hs hR).prog t s1 e1
    exact catL_ll A n n' _ s1 h1 (by omega) (by omega) (hR.mono (by omega))
theorem cat_ll {bs bs' : List Nat} {m : Nat} {s : St} {rec rec' : St → Except Nat (Tm × St)} (A : Agree bs bs' m) (hs : s.i ≤ bs.length) (hR : RL bs m rec rec' s.i) : LL bs.length m 0 s (catF rec bs s) (catF rec' bs' s) :=
  (catL_ll A (bs.length + 1) (bs'.length + 1) [] s hs (by omega) (by omega) hR).thn (e := 0) fun ts s1 _ h1 => LL.ok h1 _
theorem altL_0 (bs : List Nat) (rec : St → Except Nat (Tm × St)) : ∀ (n : Nat) (ts : List Tm) (s : St), s.i ≤ bs.length → bs.length < n + s.i → RL bs 0 rec rec s.i → LL bs.length 0 0 s (altL rec bs n ts s) (altL rec bs n ts s)
  | 0, ts, s, hs, h, _ => absurd h (by omega)
  | n + 1, ts, s, hs, h, hR => by
    rw [altL]
    refine LL.ifs (agree0 bs) 124 (fun hb => ?_) fun _ => LL.ok hs _
    have h1 : LL bs.length 0 0 s.nx (thn (catF rec bs s.nx) fun t s' => altL rec bs n (ts ++ [t]) s') (thn (catF rec bs s.nx) fun t s' => altL rec bs n (ts ++ [t]) s') := by
      refine (cat_ll (agree0 bs) (nx_le hb) (hR.mono (by have := nx_i s; omega))).thn (e := 0) fun t s1 e1 h1 => ?_
      have hp := (cat_ll (s := s.nx) (agree0 bs) (nx_le hb) (hR.mono (by have := nx_i s; omega))).prog t s1 e1
      have := nx_i s
      exact altL_0 bs rec n _ s1 h1 (by omega) (hR.mono (by omega))
    exact (h1.at (s := s) 1 rfl).weak (by omega)
theorem altL_ll {bs bs' : List Nat} {m : Nat} {rec rec' : St → Except Nat (Tm × St)} (A : Agree bs bs' m) : ∀ (n n' : Nat) (ts : List Tm) (s : St), s.i ≤ bs.length → bs.length < n + s.i → bs'.length < n' + s.i → RL bs m rec rec' s.i → LL bs.length m 0 s (altL rec bs n ts s) (altL rec' bs' n' ts s)
  | 0, n', ts, s, hs, h, _, _ => absurd h (by omega)
  | n + 1, 0, ts, s, hs, h, h', hR => (altL_0 bs rec (n + 1) ts s hs h hR.self0).zero _ (by have := A.h2; omega)
  | n + 1, n' + 1, ts, s, hs, h, h', hR => by
    rw [altL, altL]
    refine LL.ifs A 124 (fun hb => ?_) fun _ => LL.ok hs _
    have h1 : LL bs.length m 0 s.nx (thn (catF rec bs s.nx) fun t s' => altL rec bs n (ts ++ [t]) s') (thn (catF rec' bs' s.nx) fun t s' => altL rec' bs' n' (ts ++ [t]) s') := by
      refine (cat_ll A (nx_le hb) (hR.mono (by have := nx_i s; omega))).thn (e := 0) fun t s1 e1 h1 => ?_
      have hp := (cat_ll (s := s.nx) A (nx_le hb) (hR.mono (by have := nx_i s; omega))).prog t s1 e1
      have := nx_i s
      exact altL_ll A n n' _ s1 h1 (by omega) (by omega) (hR.mono (by omega))
    exact (h1.at (s := s) 1 rfl).weak (by omega)
theorem altG_ll {bs bs' : List Nat} {m : Nat} {s : St} {rec rec' : St → Except Nat (Tm × St)} (A : Agree bs bs' m) (hs : s.i ≤ bs.length) (hR : RL bs m rec rec' s.i) : LL bs.length m 0 s (altG rec bs s) (altG rec' bs' s) := by
  refine (cat_ll A hs hR).thn (e := 0) fun t s1 e1 h1 => ?_
  have hp := (cat_ll A hs hR).prog t s1 e1
  exact (altL_ll A (bs.length + 1) (bs'.length + 1) [t] s1 h1 (by omega) (by omega) (hR.mono (by omega))).thn (e := 0) fun ts s2 _ h2 => LL.ok h2 _
theorem altF_0 (bs : List Nat) : ∀ n i0, bs.length ≤ n + i0 → RL bs 0 (altF bs n) (altF bs n) i0
  | 0, i0, h => fun s h1 h2 => absurd h2 (by omega)
  | n + 1, i0, h => fun s h1 h2 => altG_ll (agree0 bs) h2 (altF_0 bs n s.i (by omega))
theorem altF_ll {bs bs' : List Nat} {m : Nat} (A : Agree bs bs' m) : ∀ n n' i0, bs.length ≤ n + i0 → bs'.length ≤ n' + i0 → RL bs m (altF bs n) (altF bs' n') i0
  | 0, n', i0, h, _ => fun s h1 h2 => absurd h2 (by omega)
  | n + 1, 0, i0, h, h' => fun s h1 h2 => (altF_0 bs (n + 1) i0 h s h1 h2).zero _ (by have := A.h2; omega)
  | n + 1, n' + 1, i0, h, h' => fun s h1 h2 => altG_ll A h2 (altF_ll A n n' s.i (by omega) (by omega))
/-- the whole text -/
def topF (bs : List Nat) : Except Nat (Tm × St) := altF bs (bs.length + 1) s0
theorem top_ll {bs bs' : List Nat} {m : Nat} (A : Agree bs bs' m) : LL bs.length m 0 s0 (topF bs) (topF bs') :=
  altG_ll (s := s0) A (Nat.zero_le _) (altF_ll A bs.length bs'.length 0 (by omega) (by omega))
theorem top_le (bs : List Nat) : pos (topF bs) ≤ bs.length := (top_ll (agree0 bs)).le
/-- a wrong byte's place -/
theorem parse_spot (bs : List Nat) (hl : bs.length ≤ 200) : ((parseF bs).2.1 = 50 → (parseF bs).2.2 = (pos (topF bs) : Int) ∧ (pos (topF bs) = bs.length → ∃ p, topF bs = .error p)) ∧ ((pos (topF bs) ≠ bs.length ∨ ∃ p, topF bs = .error p) → parseF bs = (zTm, 50, (pos (topF bs) : Int))) := by
  unfold parseF
  rw [if_neg (by omega)]
  show ((match topF bs with | .error p => (zTm, 50, (p : Int)) | .ok (t, s) => if s.i = bs.length then if s.dp = -1 then if s.rp = -1 then (t, 0, 0) else (zTm, 51, s.rp) else (zTm, 52, s.dp) else (zTm, 50, (s.i : Int))).2.1 = 50 → (match topF bs with | .error p => (zTm, 50, (p : Int)) | .ok (t, s) => if s.i = bs.length then if s.dp = -1 then if s.rp = -1 then (t, 0, 0) else (zTm, 51, s.rp) else (zTm, 52, s.dp) else (zTm, 50, (s.i : Int))).2.2 = (pos (topF bs) : Int) ∧ _) ∧ (_ → (match topF bs with | .error p => (zTm, 50, (p : Int)) | .ok (t, s) => if s.i = bs.length then if s.dp = -1 then if s.rp = -1 then (t, 0, 0) else (zTm, 51, s.rp) else (zTm, 52, s.dp) else (zTm, 50, (s.i : Int))) = _)
  cases topF bs with
  | error p => exact ⟨fun _ => ⟨rfl, fun _ => ⟨p, rfl⟩⟩, fun _ => rfl⟩
  | ok x =>
    obtain ⟨t, s⟩ := x
    by_cases h1 : s.i = bs.length
    · simp only [h1, if_true]
      refine ⟨fun h => ?_, fun h => ?_⟩
      · by_cases h2 : s.dp = -1
        · by_cases h3 : s.rp = -1
          · simp [h2, h3] at h
          · simp [h2, h3] at h
        · simp [h2] at h
      · rcases h with h | ⟨p, h⟩
        · exact absurd h1 h
        · cases h
    · simp only [h1, if_false]
      exact ⟨fun _ => ⟨rfl, fun h => absurd h h1⟩, fun _ => rfl⟩
theorem bn_take (bs : List Nat) (n j : Nat) (h : j < n) : bn (bs.take n) j = bn bs j := by unfold bn; rw [List.getD, List.getD, List.getElem?_take_of_lt h]
theorem bn_app (a b : List Nat) (j : Nat) (h : j < a.length) : bn (a ++ b) j = bn a j := by unfold bn; rw [List.getD, List.getD, List.getElem?_append_left h]
/-- whatever follows a wrong byte, it is wrong -/
theorem parse_more (bs more : List Nat) (n : Nat) (hl : bs.length ≤ 200) (h : (parseF bs).2.1 = 50) (hn : (parseF bs).2.2 = (n : Int)) (hlt : n < bs.length) (hm : n + 1 + more.length ≤ 200) : parseF (bs.take (n + 1) ++ more) = (zTm, 50, (n : Int)) := by
  obtain ⟨h1, _⟩ := (parse_spot bs hl).1 h
  have hp : pos (topF bs) = n := by omega
  have hlen : (bs.take (n + 1) ++ more).length = n + 1 + more.length := by simp; omega
  have A : Agree bs (bs.take (n + 1) ++ more) (n + 1) := ⟨by omega, by omega, fun j hj => by rw [bn_app _ _ _ (by simp; omega), bn_take _ _ _ hj]⟩
  have e := (top_ll A).eq (by omega)
  have hp2 : pos (topF (bs.take (n + 1) ++ more)) = n := by rw [e, hp]
  have := (parse_spot (bs.take (n + 1) ++ more) (by omega)).2 (.inl (by omega))
  rw [hp2] at this
  exact this
/-- what stands ahead of a wrong byte is not wrong but by its end -/
theorem parse_less (bs : List Nat) (n : Nat) (hl : bs.length ≤ 200) (h : (parseF bs).2.1 = 50) (hn : (parseF bs).2.2 = (n : Int)) (hlt : n < bs.length) : (parseF (bs.take n)).2.1 = 50 → (parseF (bs.take n)).2.2 = (n : Int) := by
  intro h2
  have hlen : (bs.take n).length = n := by simp; omega
  obtain ⟨h1, _⟩ := (parse_spot bs hl).1 h
  obtain ⟨h3, _⟩ := (parse_spot (bs.take n) (by omega)).1 h2
  have hle := top_le (bs.take n)
  have A : Agree (bs.take n) bs n := ⟨by omega, by omega, fun j hj => bn_take _ _ _ hj⟩
  have hp : pos (topF bs) = n := by omega
  rcases Nat.lt_or_ge (pos (topF (bs.take n))) n with hh | hh
  · have e := (top_ll A).eq hh
    rw [e] at hp
    omega
  · omega
theorem parse_in (bs : List Nat) (h : (parseF bs).2.1 = 50) : 0 ≤ (parseF bs).2.2 ∧ (parseF bs).2.2 ≤ (bs.length : Int) := by
  by_cases hl : bs.length ≤ 200
  · obtain ⟨h1, _⟩ := (parse_spot bs hl).1 h
    have := top_le bs
    omega
  · unfold parseF at h
    rw [if_pos (by omega)] at h
    simp at h
end Go.Proofs.Ytnaecagmcpndhaa
