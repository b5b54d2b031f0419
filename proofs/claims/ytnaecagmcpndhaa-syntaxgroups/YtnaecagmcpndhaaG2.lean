/- A text that is read well is read so within brackets: the whole. -/
import Derived.Test.YtnaecagmcpndhaaG1
namespace Go.Proofs.Ytnaecagmcpndhaa
open Go.RowKit
def RS (a : List Nat) (q k : Nat) (rec rec' : St → Except Nat (Tm × St)) (i0 : Nat) : Prop := ∀ s s', i0 < s.i → s.i ≤ a.length → SH q k s s' → SM q k (rec s) (rec' s')
theorem RS.mono {a : List Nat} {q k : Nat} {rec rec' : St → Except Nat (Tm × St)} {i j : Nat} (h : RS a q k rec rec' i) (hij : i ≤ j) : RS a q k rec rec' j := fun s s' hs => h s s' (by omega)
/-- a reading that goes on, of a's own -/
def RA (a : List Nat) (rec : St → Except Nat (Tm × St)) (i0 : Nat) : Prop := RL a 0 rec rec i0
theorem deep_sh {q k : Nat} {s s' : St} (h : SH q k s s') : SH q k (deepF s) (deepF s') := by
  refine ⟨by rw [(deep_i s).1, (deep_i s').1]; exact h.i, fun hk => by rw [(deep_i s).2, (deep_i s').2, h.op hk], fun hk => ?_, fun hr => ?_⟩
  · have ho := h.op hk
    have hd := h.dp hk
    unfold deepF
    rw [ho]
    by_cases h1 : 30 ≤ s.op ∧ s.dp = -1
    · rw [if_pos h1, if_pos ⟨h1.1, hd.1 h1.2⟩]
      show ((s.i : Int) = -1) ↔ ((s'.i : Int) = -1)
      omega
    · rw [if_neg h1, if_neg (fun e => h1 ⟨e.1, hd.2 e.2⟩)]
      exact hd
  · have e1 : (deepF s).rp = s.rp := by unfold deepF; split <;> rfl
    have e2 : (deepF s').rp = s'.rp := by unfold deepF; split <;> rfl
    rw [e1] at hr
    rw [e2]
    exact h.rp hr
section
variable {a v : List Nat} {q k : Nat} {s s' : St} {rec rec' : St → Except Nat (Tm × St)}
theorem group_sm (A : Ins a v q) (h : SH q k s s') (hs : s.i ≤ a.length) (hR : RS a q k rec rec' s.i) (hA : RA a rec s.i) : SM q k (groupF rec a s) (groupF rec' v s') := by
  unfold groupF
  have hd := (deep_i s).1
  refine (must_sm A (deep_sh h) 40).thn fun _ s2 s2' e2 h2 => ?_
  have hp := (must_ll (s := deepF s) (agree0 a) (by omega) 40).prog _ s2 e2
  have l2 := (must_ll (s := deepF s) (agree0 a) (by omega) 40).at_ e2
  refine (hR s2 s2' (by omega) l2 h2).thn fun t s3 s3' e3 h3 => ?_
  refine (must_sm A h3 41).thn fun _ s4 s4' _ h4 => ?_
  exact SM.ok (s := { s4 with op := s4.op - 1 }) (s' := { s4' with op := s4'.op - 1 }) ⟨h4.i, fun hk => by show s4'.op - 1 = s4.op - 1; rw [h4.op hk], h4.dp, h4.rp⟩ t
theorem atom_sm (A : Ins a v q) (h : SH q k s s') (hs : s.i ≤ a.length) (hR : RS a q k rec rec' s.i) (hA : RA a rec s.i) : SM q k (atomF rec a s) (atomF rec' v s') := by
  unfold atomF
  refine SM.ifs A h hs 40 (by omega) (fun _ => group_sm A h hs hR hA) fun _ => SM.ifs A h hs 91 (by omega) (fun _ => ?_) fun _ => SM.ifs A h hs 92 (by omega) (fun _ => ?_) fun _ => SM.ifs A h hs 46 (by omega) (fun _ => SM.ok h.nx _) fun _ => SM.ifs A h hs 94 (by omega) (fun _ => SM.ok h.nx _) fun _ => SM.ifs A h hs 36 (by omega) (fun _ => SM.ok h.nx _) fun _ => ?_
  · exact (class_sm A h hs).thn fun f s1 s1' _ h1 => SM.ok h1 _
  · exact (escape_sm A h hs).thn fun f s1 s1' _ h1 => SM.ok h1 _
  · exact (takeBut_sm A h _).thn fun f s1 s1' _ h1 => SM.ok h1 _
theorem rep_sm (A : Ins a v q) (h : SH q k s s') (hs : s.i ≤ a.length) (hR : RS a q k rec rec' s.i) (hA : RA a rec s.i) : SM q k (repF rec a s) (repF rec' v s') := by
  refine (atom_sm A h hs hR hA).thn fun t s1 s1' e1 h1 => ?_
  exact (quant_sm A h1 ((atom_ll (agree0 a) hs hA).at_ e1)).thn fun p s2 s2' _ h2 => SM.ok h2 _
theorem catc_sm (A : Ins a v q) (h : SH q k s s') (hs : s.i ≤ a.length) : (s.i = a.length ∨ sb a s.i 124 = true ∨ sb a s.i 41 = true) ↔ (s'.i = v.length ∨ sb v s'.i 124 = true ∨ sb v s'.i 41 = true) := by
  have hl := A.len
  have hi := h.i
  rcases Nat.lt_or_ge s.i a.length with h1 | h1
  · rw [hi, A.sbA h1 124, A.sbA h1 41]
    constructor
    · rintro (e | e)
      · omega
      · exact .inr e
    · rintro (e | e)
      · omega
      · exact .inr e
  · have e : s.i = a.length := by omega
    constructor
    · intro _
      rcases A.shut with h2 | h2
      · exact .inl (by omega)
      · rcases Nat.lt_or_ge (q + a.length) v.length with h3 | h3
        · exact .inr (.inr (by rw [hi, e]; exact sbT h3 h2))
        · exact .inl (by omega)
    · intro _; exact .inl e
end
theorem catL_sm {a v : List Nat} {q k : Nat} {rec rec' : St → Except Nat (Tm × St)} (A : Ins a v q) : ∀ (n n' : Nat) (ts : List Tm) (s s' : St), SH q k s s' → s.i ≤ a.length → v.length < n' + s'.i → RS a q k rec rec' s.i → RA a rec s.i → SM q k (catL rec a n ts s) (catL rec' v n' ts s')
  | 0, n', ts, s, s', _, _, _, _, _ => SM.err _
  | n + 1, 0, ts, s, s', h, hs, hn, _, _ => absurd hn (by have := A.len; have := h.i; omega)
  | n + 1, n' + 1, ts, s, s', h, hs, hn, hR, hA => by
    rw [catL, catL]
    by_cases hc : s.i = a.length ∨ sb a s.i 124 = true ∨ sb a s.i 41 = true
    · rw [if_pos hc, if_pos ((catc_sm A h hs).1 hc)]
      exact SM.ok h _
    · rw [if_neg hc, if_neg (fun e => hc ((catc_sm A h hs).2 e))]
      refine (rep_sm A h hs hR hA).thn fun t s1 s1' e1 h1 => ?_
      have hp := (rep_ll (agree0 a) hs hA).prog t s1 e1
      exact catL_sm A n n' _ s1 s1' h1 ((rep_ll (agree0 a) hs hA).at_ e1) (by have h2 := h.i; have h3 := h1.i; omega) (hR.mono (by omega)) (RL.mono hA (by omega))
theorem cat_sm {a v : List Nat} {q k : Nat} {s s' : St} {rec rec' : St → Except Nat (Tm × St)} (A : Ins a v q) (h : SH q k s s') (hs : s.i ≤ a.length) (hR : RS a q k rec rec' s.i) (hA : RA a rec s.i) : SM q k (catF rec a s) (catF rec' v s') :=
  (catL_sm A (a.length + 1) (v.length + 1) [] s s' h hs (by omega) hR hA).thn fun ts s1 s1' _ h1 => SM.ok h1 _
theorem altL_sm {a v : List Nat} {q k : Nat} {rec rec' : St → Except Nat (Tm × St)} (A : Ins a v q) : ∀ (n n' : Nat) (ts : List Tm) (s s' : St), SH q k s s' → s.i ≤ a.length → v.length < n' + s'.i → RS a q k rec rec' s.i → RA a rec s.i → SM q k (altL rec a n ts s) (altL rec' v n' ts s')
  | 0, n', ts, s, s', _, _, _, _, _ => SM.err _
  | n + 1, 0, ts, s, s', h, hs, hn, _, _ => absurd hn (by have := A.len; have := h.i; omega)
  | n + 1, n' + 1, ts, s, s', h, hs, hn, hR, hA => by
    rw [altL, altL]
    refine SM.ifs A h hs 124 (by omega) (fun hb => ?_) fun _ => SM.ok h _
    have hx := nx_i s
    refine (cat_sm A h.nx (nx_le hb) (hR.mono (by omega)) (RL.mono hA (by omega))).thn fun t s1 s1' e1 h1 => ?_
    have hp := (cat_ll (s := s.nx) (agree0 a) (nx_le hb) (RL.mono hA (by omega))).prog t s1 e1
    exact altL_sm A n n' _ s1 s1' h1 ((cat_ll (s := s.nx) (agree0 a) (nx_le hb) (RL.mono hA (by omega))).at_ e1) (by have h2 := h.i; have h3 := h1.i; omega) (hR.mono (by omega)) (RL.mono hA (by omega))
theorem altG_sm {a v : List Nat} {q k : Nat} {s s' : St} {rec rec' : St → Except Nat (Tm × St)} (A : Ins a v q) (h : SH q k s s') (hs : s.i ≤ a.length) (hR : RS a q k rec rec' s.i) (hA : RA a rec s.i) : SM q k (altG rec a s) (altG rec' v s') := by
  refine (cat_sm A h hs hR hA).thn fun t s1 s1' e1 h1 => ?_
  have hp := (cat_ll (agree0 a) hs hA).prog t s1 e1
  exact (altL_sm A (a.length + 1) (v.length + 1) [t] s1 s1' h1 ((cat_ll (agree0 a) hs hA).at_ e1) (by omega) (hR.mono (by omega)) (RL.mono hA (by omega))).thn fun ts s2 s2' _ h2 => SM.ok h2 _
theorem altF_sm {a v : List Nat} {q k : Nat} (A : Ins a v q) : ∀ n n' i0, a.length ≤ n + i0 → v.length ≤ n' + q + i0 → RS a q k (altF a n) (altF v n') i0
  | 0, n', i0, _, _ => fun s s' h1 h2 h3 => SM.err _
  | n + 1, 0, i0, _, hn => fun s s' h1 h2 h3 => absurd hn (by have := A.len; omega)
  | n + 1, n' + 1, i0, ha, hn => fun s s' h1 h2 h3 => altG_sm A h3 h2 (altF_sm A n n' s.i (by omega) (by omega)) (altF_0 a n s.i (by omega))
/-- a text is read as a term, with nothing wrong but its depth -/
def Well (a : List Nat) (x : Tm) : Prop := ∃ sa, topF a = .ok (x, sa) ∧ sa.i = a.length ∧ sa.rp = -1
theorem ins_self (a : List Nat) : Ins a a 0 := ⟨by omega, fun j _ => by rw [Nat.zero_add], .inl (by omega)⟩
/-- read within another text -/
theorem within {a v : List Nat} {q k : Nat} {x : Tm} {s s' : St} {s2 : St} (A : Ins a v q) (hq : 1 ≤ q) (h : SH q k s s') (hs : s.i = 0) (e : altG (altF a a.length) a s = .ok (x, s2)) : ∃ s2', altF v v.length s' = .ok (x, s2') ∧ SH q k s2 s2' := by
  have hl := A.len
  obtain ⟨m, hm⟩ : ∃ m, v.length = m + 1 := ⟨v.length - 1, by omega⟩
  have h1 := altG_sm (rec := altF a a.length) (rec' := altF v m) A h (by omega) (altF_sm A a.length m s.i (by omega) (by omega)) (altF_0 a a.length s.i (by omega))
  rw [hm]
  exact h1 x s2 e
/-- two groups of the same text, in two texts -/
theorem group2 {a v1 v2 : List Nat} {p1 p2 : Nat} {x : Tm} {s1 s2 : St} (W : Well a x) (A1 : Ins a v1 (p1 + 1)) (A2 : Ins a v2 (p2 + 1)) (o1 : sb v1 p1 40 = true) (o2 : sb v2 p2 40 = true) (c1 : sb v1 (p1 + 1 + a.length) 41 = true) (c2 : sb v2 (p2 + 1 + a.length) 41 = true)
    (i1 : s1.i = p1) (i2 : s2.i = p2) (r1 : s1.rp = -1) (r2 : s2.rp = -1) (ho : s2.op = s1.op) (hd : s1.dp = -1 ↔ s2.dp = -1) :
    ∃ t1 t2, groupF (altF v1 v1.length) v1 s1 = .ok (x, t1) ∧ groupF (altF v2 v2.length) v2 s2 = .ok (x, t2) ∧ t1.i = p1 + a.length + 2 ∧ t2.i = p2 + a.length + 2 ∧ t1.rp = -1 ∧ t2.rp = -1 ∧ t2.op = t1.op ∧ (t1.dp = -1 ↔ t2.dp = -1) := by
  obtain ⟨sa, e0, ea, er⟩ := W
  have dr1 : (deepF s1).rp = -1 := by unfold deepF; split <;> exact r1
  have dr2 : (deepF s2).rp = -1 := by unfold deepF; split <;> exact r2
  have di1 := deep_i s1
  have di2 := deep_i s2
  have hdd : (deepF s1).dp = -1 ↔ (deepF s2).dp = -1 := (deep_sh (q := 0) (k := 0) (s := { s1 with i := s2.i }) (s' := s2) ⟨by show s2.i = 0 + s2.i; omega, fun _ => ho, fun _ => hd, fun _ => r2⟩).dp rfl |> fun h => by
    have e1 : ((deepF { s1 with i := s2.i }).dp = -1) ↔ ((deepF s1).dp = -1) := by
      unfold deepF
      by_cases hc : 30 ≤ s1.op ∧ s1.dp = -1
      · rw [if_pos hc, if_pos hc]
        show ((s2.i : Int) = -1) ↔ ((s1.i : Int) = -1)
        omega
      · rw [if_neg hc, if_neg hc]
    exact e1.symm.trans h
  -- the text alone, begun as deep as here
  obtain ⟨sb', eb, hb⟩ := altG_sm (q := 0) (k := 1) (s := s0) (s' := { i := 0, op := (deepF s1).op, dp := (deepF s1).dp, rp := -1 }) (rec := altF a a.length) (rec' := altF a a.length) (ins_self a) ⟨rfl, fun h => by omega, fun h => by omega, fun _ => rfl⟩ (Nat.zero_le _) (altF_sm (ins_self a) a.length a.length 0 (by omega) (by omega)) (altF_0 a a.length 0 (by omega)) x sa e0
  have hbi := hb.i
  have hbr := hb.rp er
  have m1 : mustF v1 (deepF s1) 40 = .ok ((), (deepF s1).nx) := by unfold mustF; rw [if_pos (by rw [di1.1, i1]; exact o1)]
  have m2 : mustF v2 (deepF s2) 40 = .ok ((), (deepF s2).nx) := by unfold mustF; rw [if_pos (by rw [di2.1, i2]; exact o2)]
  obtain ⟨u1, f1, g1⟩ := within (k := 0) A1 (by omega) (s := { i := 0, op := (deepF s1).op, dp := (deepF s1).dp, rp := -1 }) (s' := (deepF s1).nx) ⟨by show (deepF s1).i + 1 = p1 + 1 + 0; omega, fun _ => rfl, fun _ => Iff.rfl, fun _ => dr1⟩ rfl eb
  obtain ⟨u2, f2, g2⟩ := within (k := 0) A2 (by omega) (s := { i := 0, op := (deepF s1).op, dp := (deepF s1).dp, rp := -1 }) (s' := (deepF s2).nx) ⟨by show (deepF s2).i + 1 = p2 + 1 + 0; omega, fun _ => (by show (deepF s2).op = (deepF s1).op; rw [di1.2, di2.2, ho]), fun _ => hdd, fun _ => dr2⟩ rfl eb
  have j1 : u1.i = p1 + 1 + a.length := by have := g1.i; omega
  have j2 : u2.i = p2 + 1 + a.length := by have := g2.i; omega
  have n1 : mustF v1 u1 41 = .ok ((), u1.nx) := by unfold mustF; rw [if_pos (by rw [j1]; exact c1)]
  have n2 : mustF v2 u2 41 = .ok ((), u2.nx) := by unfold mustF; rw [if_pos (by rw [j2]; exact c2)]
  refine ⟨{ u1.nx with op := u1.nx.op - 1 }, { u2.nx with op := u2.nx.op - 1 }, ?_, ?_, by show u1.i + 1 = _; omega, by show u2.i + 1 = _; omega, g1.rp hbr, g2.rp hbr, ?_, ?_⟩
  · unfold groupF
    rw [m1, thn_ok, f1, thn_ok, n1, thn_ok]
  · unfold groupF
    rw [m2, thn_ok, f2, thn_ok, n2, thn_ok]
  · show u2.op - 1 = u1.op - 1
    rw [g1.op rfl, g2.op rfl]
  · exact (g1.dp rfl).symm.trans (g2.dp rfl)
end Go.Proofs.Ytnaecagmcpndhaa
