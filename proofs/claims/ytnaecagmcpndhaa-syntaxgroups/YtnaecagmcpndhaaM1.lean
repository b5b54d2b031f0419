/- What plain letters, and bytes told by their hexes, are read as. -/
import Derived.Test.YtnaecagmcpndhaaU1
namespace Go.Proofs.Ytnaecagmcpndhaa
open Go.RowKit

theorem sbF {bs : List Nat} {i b : Nat} (h : ¬ (i < bs.length ∧ bn bs i = b)) : sb bs i b = false := decide_eq_false h
theorem sbT {bs : List Nat} {i b : Nat} (h1 : i < bs.length) (h2 : bn bs i = b) : sb bs i b = true := decide_eq_true ⟨h1, h2⟩
theorem thn_ok {α β : Type} (a : α) (s : St) (f : α → St → Except Nat (β × St)) : thn (.ok (a, s)) f = f a s := rfl
def one (x : Nat) : Tm := setT (rgF x x)
theorem rep_low (rec : St → Except Nat (Tm × St)) (bs : List Nat) (s : St) (hi : s.i < bs.length) (hl : ∀ i, i < bs.length → 97 ≤ bn bs i ∧ bn bs i ≤ 122) : repF rec bs s = .ok (one (bn bs s.i), s.nx) := by
  have e : ∀ b, (b < 97 ∨ 122 < b) → sb bs s.i b = false := fun b hb => sbF (by have := hl s.i hi; omega)
  have e2 : ∀ b, (b < 97 ∨ 122 < b) → sb bs s.nx.i b = false := fun b hb => sbF (by
    rintro ⟨h1, h2⟩
    have := hl s.nx.i h1
    omega)
  have t : takeButF bs s [124, 40, 41, 93, 123, 125, 42, 43, 63] = .ok (bn bs s.i, s.nx) := by
    unfold takeButF
    rw [if_pos ⟨hi, by have := hl s.i hi; simp; omega⟩]
  unfold repF atomF
  rw [e 40 (by omega), e 91 (by omega), e 92 (by omega), e 46 (by omega), e 94 (by omega), e 36 (by omega)]
  simp only [Bool.false_eq_true, if_false]
  rw [t, thn_ok, thn_ok]
  unfold quantF
  rw [e2 42 (by omega), e2 43 (by omega), e2 63 (by omega), e2 123 (by omega)]
  rfl
theorem catL_low (rec : St → Except Nat (Tm × St)) (bs : List Nat) (hl : ∀ i, i < bs.length → 97 ≤ bn bs i ∧ bn bs i ≤ 122) : ∀ k n ts s, s.i + k = bs.length → k < n → catL rec bs n ts s = .ok (ts ++ (List.range' s.i k).map (fun i => one (bn bs i)), { s with i := bs.length })
  | 0, n + 1, ts, s, h, _ => by
    rw [catL, if_pos (.inl (by omega))]
    have : ({ s with i := bs.length } : St) = s := by cases s; simp at h ⊢; omega
    rw [this]
    simp
  | k + 1, n + 1, ts, s, h, hn => by
    have hi : s.i < bs.length := by omega
    rw [catL, if_neg, rep_low rec bs s hi hl, thn_ok, catL_low rec bs hl k n _ s.nx (by show s.i + 1 + k = _; omega) (by omega)]
    · show Except.ok _ = Except.ok _
      rw [List.range'_succ, List.map_cons, List.append_assoc]
      rfl
    · have := hl s.i hi
      rintro (e | e | e)
      · omega
      · rw [sbF (by omega)] at e; cases e
      · rw [sbF (by omega)] at e; cases e
def rowT (bs : List Nat) : List Tm := (List.range' 0 bs.length).map (fun i => one (bn bs i))
theorem rowT_len (bs : List Nat) : (rowT bs).length = bs.length := by simp [rowT]
theorem rowT_at (bs : List Nat) (i : Nat) (hi : i < bs.length) : (rowT bs)[i]? = some (one (bn bs i)) := by
  simp [rowT, List.getElem?_map, List.getElem?_range', hi]
theorem catT_two : ∀ ts : List Tm, 2 ≤ ts.length → catT ts = .mk 6 noB 0 0 ts
  | [], h => by simp at h
  | [_], h => by simp at h
  | _ :: _ :: _, _ => rfl
theorem parse_low (bs : List Nat) (h1 : 2 ≤ bs.length) (h2 : bs.length ≤ 200) (hl : ∀ i, i < bs.length → 97 ≤ bn bs i ∧ bn bs i ≤ 122) : parseF bs = (.mk 6 noB 0 0 (rowT bs), 0, 0) := by
  have hc : catF (altF bs bs.length) bs s0 = .ok (.mk 6 noB 0 0 (rowT bs), ⟨bs.length, 0, -1, -1⟩) := by
    unfold catF
    rw [catL_low _ bs hl bs.length (bs.length + 1) [] s0 (by simp [s0]) (by omega), thn_ok]
    show Except.ok (catT (rowT bs), _) = _
    rw [catT_two _ (by rw [rowT_len]; exact h1)]
    rfl
  have ha : altF bs (bs.length + 1) s0 = .ok (.mk 6 noB 0 0 (rowT bs), ⟨bs.length, 0, -1, -1⟩) := by
    show altG (altF bs bs.length) bs s0 = _
    unfold altG
    rw [hc, thn_ok, altL, if_neg (by rw [sbF (by simp)]; simp), thn_ok]
    rfl
  unfold parseF
  rw [if_neg (by omega), ha]
  simp

/-- the class of one byte, word by word -/
def oneq (y : Nat) : Nat → BitVec 64 := fun j => if j = y / 64 then BitVec.twoPow 64 (y % 64) else 0#64
theorem oneq_is (y : Nat) (_ : y < 256) : IsK (rgF y y) (oneq y) := fun i hi => by
  unfold kb oneq rgF
  rw [Bool.eq_iff_iff]
  by_cases h : i / 64 = y / 64
  · rw [if_pos h, BitVec.getLsbD_twoPow]
    simp
    omega
  · rw [if_neg h]
    simp
    omega
theorem uv_pow (k : Nat) (hk : k < 64) : IntKind.u64.wrap ((2 : Int) ^ k) = uv (BitVec.twoPow 64 k) := by
  unfold uv
  rw [BitVec.toNat_twoPow, Nat.mod_eq_of_lt (Nat.pow_lt_pow_right (by omega) hk)]
  have h : (2 : Nat) ^ k < 2 ^ 64 := Nat.pow_lt_pow_right (by omega) hk
  have hw : ∀ n : Int, IntKind.u64.wrap n = n % 18446744073709551616 := fun n => by simp [IntKind.wrap, IntKind.bits, IntKind.signed]
  rw [hw]
  have e : ((2 : Int) ^ k) = (((2 : Nat) ^ k : Nat) : Int) := by simp
  rw [e]
  generalize (2 : Nat) ^ k = m at *
  have h64 : (2 : Nat) ^ 64 = 18446744073709551616 := by decide
  rw [h64] at h
  omega
theorem sameT_refl : ∀ t : Tm, sameT t t = true := fun t => by
  induction t using Tm.ind with
  | h op f lo hi ks ih =>
    have hL : ∀ l : List Tm, (∀ k ∈ l, sameT k k = true) → sameL l l = true := fun l => by
      induction l with
      | nil => intro _; simp [sameL]
      | cons a r hr => intro h; rw [sameL, h a (by simp), hr (fun k hk => h k (by simp [hk]))]; rfl
    have e : eqK f f = true := (eqK_iff f f).2 fun _ _ => rfl
    simp [sameT, e, hL ks ih]
/-- a byte told by its hexes stands there -/
structure Hex (bs : List Nat) (i x y : Nat) : Prop where
  lt : i + 3 < bs.length
  b0 : bn bs i = 92
  b1 : bn bs (i + 1) = 120
  b2 : hexv (bn bs (i + 2)) = some x
  b3 : hexv (bn bs (i + 3)) = some y
section
variable {bs : List Nat} {s : St} {x y : Nat}
theorem Hex.letter (h : Hex bs s.i x y) : letterF bs s = (none, s) := by
  have := h.lt
  unfold letterF
  rw [if_pos ⟨sbT (by omega) h.b0, by omega⟩, h.b1]
  rfl
theorem Hex.escaped (h : Hex bs s.i x y) : escapedF bs s = .ok (16 * x + y, { s with i := s.i + 4 }) := by
  have hlt := h.lt
  unfold escapedF mustF
  rw [if_pos (sbT (by omega) h.b0), thn_ok]
  unfold escRest
  have e : ∀ b, b ≠ 120 → sb bs s.nx.i b = false := fun b hb => sbF (by rintro ⟨_, h2⟩; rw [show bn bs s.nx.i = 120 from h.b1] at h2; exact hb h2.symm)
  rw [e 110 (by omega), e 116 (by omega), e 114 (by omega), sbT (bs := bs) (i := s.nx.i) (b := 120) (by show s.i + 1 < _; omega) h.b1]
  simp only [Bool.false_eq_true, if_false, if_true]
  have e2 : hexF bs s.nx.nx = .ok (x, s.nx.nx.nx) := by
    unfold hexF
    rw [if_pos (by show s.i + 1 + 1 < _; omega), show bn bs s.nx.nx.i = bn bs (s.i + 2) from rfl, h.b2]
  have e3 : hexF bs s.nx.nx.nx = .ok (y, s.nx.nx.nx.nx) := by
    unfold hexF
    rw [if_pos (by show s.i + 1 + 1 + 1 < _; omega), show bn bs s.nx.nx.nx.i = bn bs (s.i + 3) from rfl, h.b3]
  rw [e2, thn_ok, e3, thn_ok]
  rfl
theorem Hex.atEnd (h : Hex bs s.i x y) : endF bs s = .ok (16 * x + y, { s with i := s.i + 4 }) := by
  unfold endF
  rw [if_pos (sbT (by have := h.lt; omega) h.b0)]
  exact h.escaped
theorem Hex.esc (h : Hex bs s.i x y) : escapeF bs s = .ok (rgF (16 * x + y) (16 * x + y), { s with i := s.i + 4 }) := by
  unfold escapeF
  rw [h.letter]
  show thn (escapedF bs s) _ = _
  rw [h.escaped]
  rfl
end
end Go.Proofs.Ytnaecagmcpndhaa
