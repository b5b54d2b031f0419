/- A reading looks at no byte behind the place where it stands, or gives up. -/
import Derived.Test.YtnaecagmcpndhaaM1
namespace Go.Proofs.Ytnaecagmcpndhaa
open Go.RowKit

/-- where a reading stands, or has given up -/
def pos {α : Type} : Except Nat (α × St) → Nat
  | .error p => p
  | .ok (_, s) => s.i
/-- two texts are the same up to a place -/
structure Agree (bs bs' : List Nat) (m : Nat) : Prop where
  h1 : m ≤ bs.length
  h2 : m ≤ bs'.length
  same : ∀ j, j < m → bn bs j = bn bs' j
/-- what is read of one text is read of the other one, if that ends ahead of m -/
structure LL {α : Type} (len m d : Nat) (s : St) (r r' : Except Nat (α × St)) : Prop where
  mono : s.i ≤ pos r
  le : pos r ≤ len
  prog : ∀ a s', r = .ok (a, s') → s.i + d ≤ s'.i
  eq : pos r < m → r' = r
section
variable {α β : Type} {len m d e : Nat} {s s2 : St} {r r' : Except Nat (α × St)}
theorem LL.thn {G G' : α → St → Except Nat (β × St)} (h : LL len m d s r r') (hg : ∀ a s1, r = .ok (a, s1) → s1.i ≤ len → LL len m e s1 (G a s1) (G' a s1)) : LL len m (d + e) s (thn r G) (thn r' G') := by
  cases r with
  | error p => exact ⟨h.mono, h.le, fun a s' h' => (by cases h'), fun hp => by rw [h.eq hp]; rfl⟩
  | ok x =>
    obtain ⟨a, s1⟩ := x
    have h1 := h.prog a s1 rfl
    have h2 := hg a s1 rfl h.le
    have h3 := h2.mono
    refine ⟨?_, h2.le, fun b s' hb => ?_, fun hp => ?_⟩
    · show s.i ≤ pos (G a s1); omega
    · have := h2.prog b s' hb; omega
    · have hp' : pos (G a s1) < m := hp
      have e1 := h.eq (show s1.i < m by omega)
      rw [e1]
      exact h2.eq hp'
theorem LL.ok (hs : s.i ≤ len) (a : α) : LL len m 0 s (.ok (a, s)) (.ok (a, s)) := ⟨Nat.le_refl _, hs, fun b s' h => by cases h; exact Nat.le_refl _, fun _ => rfl⟩
theorem LL.okAt (hs : s2.i ≤ len) (h : s.i + d ≤ s2.i) (a : α) : LL len m d s (.ok (a, s2)) (.ok (a, s2)) := ⟨by show s.i ≤ s2.i; omega, hs, fun b s' h => by cases h; omega, fun _ => rfl⟩
theorem LL.err (hs : s.i ≤ len) : LL (α := α) len m d s (.error s.i) (.error s.i) := ⟨Nat.le_refl _, hs, fun b s1 h => (by cases h), fun _ => rfl⟩
theorem LL.weak (h : LL len m d s r r') (he : e ≤ d) : LL len m e s r r' := ⟨h.mono, h.le, fun a s' h' => by have := h.prog a s' h'; omega, h.eq⟩
theorem LL.at (h : LL len m d s2 r r') (k : Nat) (hk : s2.i = s.i + k) : LL len m (k + d) s r r' := ⟨by have := h.mono; omega, h.le, fun a s' h' => by have := h.prog a s' h'; omega, h.eq⟩
end
section
variable {α : Type} {bs bs' : List Nat} {m d : Nat} {s : St} {r1 r1' r2 r2' : Except Nat (α × St)}
theorem Agree.sb (A : Agree bs bs' m) {i : Nat} (hi : i < m) (b : Nat) : sb bs' i b = sb bs i b := by
  unfold Go.Proofs.Ytnaecagmcpndhaa.sb
  have := A.h1; have := A.h2
  rw [A.same i hi]
  congr 1
  rw [eq_iff_iff]
  constructor
  · exact fun ⟨_, h⟩ => ⟨by omega, h⟩
  · exact fun ⟨_, h⟩ => ⟨by omega, h⟩
theorem LL.ifs (A : Agree bs bs' m) (b : Nat) (h1 : sb bs s.i b = true → LL bs.length m d s r1 r1') (h2 : sb bs s.i b = false → LL bs.length m d s r2 r2') :
    LL bs.length m d s (if sb bs s.i b = true then r1 else r2) (if sb bs' s.i b = true then r1' else r2') := by
  cases h : sb bs s.i b with
  | true =>
    have hh := h1 h
    rw [if_pos rfl]
    refine ⟨hh.mono, hh.le, hh.prog, fun hp => ?_⟩
    have := hh.mono
    rw [A.sb (by omega) b, h, if_pos rfl]
    exact hh.eq hp
  | false =>
    have hh := h2 h
    rw [if_neg (by simp)]
    refine ⟨hh.mono, hh.le, hh.prog, fun hp => ?_⟩
    have := hh.mono
    rw [A.sb (by omega) b, h, if_neg (by simp)]
    exact hh.eq hp
/-- a condition that looks at the next byte alone -/
theorem LL.ifp (c c' : Prop) [Decidable c] [Decidable c'] (hc : s.i < m → (c ↔ c')) (h1 : c → LL bs.length m d s r1 r1') (h2 : ¬ c → LL bs.length m d s r2 r2') :
    LL bs.length m d s (if c then r1 else r2) (if c' then r1' else r2') := by
  by_cases h : c
  · have hh := h1 h
    rw [if_pos h]
    refine ⟨hh.mono, hh.le, hh.prog, fun hp => ?_⟩
    have := hh.mono
    rw [if_pos ((hc (by omega)).1 h)]
    exact hh.eq hp
  · have hh := h2 h
    rw [if_neg h]
    refine ⟨hh.mono, hh.le, hh.prog, fun hp => ?_⟩
    have := hh.mono
    rw [if_neg (fun h' => h ((hc (by omega)).2 h'))]
    exact hh.eq hp
theorem nx_le (h : sb bs s.i d = true) : s.nx.i ≤ bs.length := (sb_lt h).1
theorem nx_i (s : St) : s.nx.i = s.i + 1 := rfl
theorem LL.took (b : Nat) (h : sb bs s.i b = true) (a : α) : LL bs.length m 1 s (.ok (a, s.nx)) (.ok (a, s.nx)) := LL.okAt (nx_le h) (Nat.le_refl _) a
theorem must_ll (A : Agree bs bs' m) (hs : s.i ≤ bs.length) (b : Nat) : LL bs.length m 1 s (mustF bs s b) (mustF bs' s b) := LL.ifs A b (fun h => LL.took b h ()) (fun _ => LL.err hs)
theorem Agree.lt (A : Agree bs bs' m) {i : Nat} (hi : i < m) : (i < bs.length ↔ i < bs'.length) := by have := A.h1; have := A.h2; omega
theorem Agree.dg (A : Agree bs bs' m) {i : Nat} (hi : i < m) : dg bs i = true ↔ dg bs' i = true := by
  unfold Go.Proofs.Ytnaecagmcpndhaa.dg
  have := A.h1; have := A.h2
  rw [A.same i hi, decide_eq_true (show i < bs.length by omega), decide_eq_true (show i < bs'.length by omega)]
theorem dg_lt {i : Nat} (h : dg bs i = true) : i < bs.length := by
  unfold dg at h
  simp at h
  exact h.1
theorem digit_ll (A : Agree bs bs' m) (hs : s.i ≤ bs.length) : LL bs.length m 1 s (digitF bs s) (digitF bs' s) := by
  unfold digitF
  have h := LL.ifp (bs := bs) (s := s) (m := m) (d := 1) (r1 := Except.ok (bn bs s.i - 48, s.nx)) (r2 := .error s.i) (r1' := .ok (bn bs' s.i - 48, s.nx)) (r2' := .error s.i) (dg bs s.i = true) (dg bs' s.i = true) (fun hi => A.dg hi)
    (fun hd => ⟨by show s.i ≤ s.i + 1; omega, dg_lt hd, fun a s' h => by cases h; exact Nat.le_refl _, fun hp => by rw [A.same s.i (by have : s.i + 1 < m := hp; omega)]⟩) (fun _ => LL.err hs)
  exact h
end
end Go.Proofs.Ytnaecagmcpndhaa
