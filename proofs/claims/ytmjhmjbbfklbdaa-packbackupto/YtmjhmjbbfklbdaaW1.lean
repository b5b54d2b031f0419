/- Scripts of calls on a pen: what each writes; rows apart from one another. -/
import Derived.Test.YtmjhmjbbfklbdaaP8
namespace Go.Proofs.Ytmjhmjbbfklbdaa
open Go.RowKit

theorem i64_and1 (n : Int) : bits .and .i64 n 1 = n % 2 := by
  have h1 : (BitVec.ofInt 64 1).toNat = 2 ^ 1 - 1 := by decide
  have key : (BitVec.ofInt 64 n &&& BitVec.ofInt 64 1).toNat = (n % ((2 ^ 64 : Nat) : Int)).toNat % 2 ^ 1 := by
    rw [BitVec.toNat_and, BitVec.toNat_ofInt, h1, Nat.and_two_pow_sub_one_eq_mod]
  show IntKind.i64.wrap ((BitVec.ofInt 64 n &&& BitVec.ofInt 64 1).toNat : Nat) = n % 2
  rw [key, IntKind.wrap_i64]
  omega

/-- what a number in so many bytes is, and its error -/
def uok (n : Nat) (sz : Int) : Prop := (1 ≤ sz ∧ sz ≤ 8) ∧ n < 256 ^ sz.toNat
instance (n : Nat) (sz : Int) : Decidable (uok n sz) := inferInstanceAs (Decidable (_ ∧ _))
def ub (n : Nat) (sz : Int) : List Nat := if uok n sz then le sz.toNat n else []
def uc (n : Nat) (sz : Int) : Nat := if uok n sz then 0 else 2
theorem len_ub (n : Nat) (sz : Int) : (ub n sz).length ≤ 8 := by
  unfold ub
  split
  · rename_i h; rw [len_le]; have := h.1; omega
  · simp

/-- what a pen's call leaves, with any answer -/
def WroteC (w : World) (g : Nat) (A : Option Addr) (l more : List Nat) (code : Nat) (e : Ending) (w' : World) : Prop :=
  e = .returned (.int .i64 (code : Nat)) ∧ ∃ A' c' l', Hid (l' = l ++ more) ∧ Pen w' g A' c' l' ∧ Fr w w' g (ow A) ∧ Nr w A A'

theorem penUint_all (g : Nat) (A : Option Addr) (c : Nat) (l : List Nat) (n : Nat) (sz : Int) (w : World) (hp : Pen w g A c l) (hn2 : n < 18446744073709551616) (lx : l.length + 8 ≤ 140737488355328) :
    Calls Try.prog 11 #[.pointer (some ⟨g, 0, none⟩), .int .u64 (n : Nat), .int .i64 sz] w (WroteC w g A l (ub n sz) (uc n sz)) := by
  by_cases h : 1 ≤ sz ∧ sz ≤ 8
  · obtain ⟨s, rfl⟩ : ∃ s : Nat, sz = (s : Int) := ⟨sz.toNat, by omega⟩
    by_cases h2 : n < 256 ^ s
    · have hu : uok n s := ⟨h, h2⟩
      unfold ub uc
      rw [if_pos hu, if_pos hu]
      exact penUint_ok g A c l n s w hp (by omega) (by omega) h2 hn2 lx
    · have hu : ¬ uok n s := fun k => h2 k.2
      unfold ub uc
      rw [if_neg hu, if_neg hu]
      refine (penUint_bad2 g n s w (by omega) (by omega) h2 hn2).mono fun e w' ⟨he, hw⟩ => ⟨he, A, c, l, by show l = l ++ []; simp, ?_⟩
      subst hw
      exact ⟨hp, Fr.refl _ _ _, Nr.refl _ _⟩
  · have hu : ¬ uok n sz := fun k => h k.1
    unfold ub uc
    rw [if_neg hu, if_neg hu]
    refine (penUint_bad1 g n sz w h).mono fun e w' ⟨he, hw⟩ => ⟨he, A, c, l, by show l = l ++ []; simp, ?_⟩
    subst hw
    exact ⟨hp, Fr.refl _ _ _, Nr.refl _ _⟩
theorem uint2_all (n : Nat) (sz : Int) (w : World) (hn2 : n < 18446744073709551616) (h1 : -9223372036854775808 ≤ sz) (h2 : sz ≤ 9223372036854775807) :
    Calls Try.prog 12 #[.int .u64 (n : Nat), .int .i64 sz] w (GivesQ w (ub n sz) (uc n sz)) := by
  by_cases h : 1 ≤ sz ∧ sz ≤ 8
  · obtain ⟨s, rfl⟩ : ∃ s : Nat, sz = (s : Int) := ⟨sz.toNat, by omega⟩
    refine (uint2_any n s w (by omega) (by omega) hn2).mono fun e w' k => ?_
    by_cases h3 : n < 256 ^ s
    · have hu : uok n s := ⟨h, h3⟩
      unfold ub uc
      rw [if_pos hu, if_pos hu]
      exact k.1 h3
    · have hu : ¬ uok n s := fun k => h3 k.2
      unfold ub uc
      rw [if_neg hu, if_neg hu]
      exact k.2 h3
  · have hu : ¬ uok n sz := fun k => h k.1
    unfold ub uc
    rw [if_neg hu, if_neg hu]
    exact uint2_bad n sz w h h1 h2

/-- one call of a script -/
structure OpD where
  kd : Int
  sz : Int
  n : Nat
  A : Option Addr
  c : Nat
  bs : List Nat
def wr1 (o : OpD) : List Nat := if o.kd % 2 = 0 then ub o.n o.sz else le 4 o.bs.length ++ o.bs
def wrs (os : List OpD) : Nat → List Nat
  | 0 => []
  | k + 1 => wrs os k ++ (match os[k]? with | some o => wr1 o | none => [])
def Ops (w : World) (A : Option Addr) (os : List OpD) : Prop :=
  (∀ o ∈ os, Bts w o.A o.bs ∧ (o.A = none → o.c = 0) ∧ o.n < 18446744073709551616 ∧ -9223372036854775808 ≤ o.sz ∧ o.sz ≤ 9223372036854775807 ∧ -9223372036854775808 ≤ o.kd ∧ o.kd ≤ 9223372036854775807) ∧
  (0 < os.length → ∃ b off, A = some ⟨b, off, none⟩ ∧ b < w.heap.size ∧ ∀ i o, os[i]? = some o →
    w.cell? ⟨b, off + i * 4, none⟩ = some (.int .i64 o.kd) ∧ w.cell? ⟨b, off + i * 4 + 1, none⟩ = some (.int .i64 o.sz) ∧ w.cell? ⟨b, off + i * 4 + 2, none⟩ = some (.int .u64 (o.n : Nat)) ∧ w.cell? ⟨b, off + i * 4 + 3, none⟩ = some (.slice o.A o.bs.length o.c))
def tot (os : List OpD) : Nat := (os.map fun o => 8 + o.bs.length).sum
theorem len_wr1 (o : OpD) : (wr1 o).length ≤ 8 + o.bs.length := by
  unfold wr1
  split
  · have := len_ub o.n o.sz; omega
  · rw [List.length_append, len_le]; omega
theorem len_wrs (os : List OpD) (k : Nat) (hk : k ≤ os.length) : (wrs os k).length ≤ ((os.take k).map fun o => 8 + o.bs.length).sum := by
  induction k with
  | zero => simp [wrs]
  | succ k ih =>
    have hl : k < os.length := by omega
    rw [wrs, List.getElem?_eq_getElem hl, List.length_append, List.take_succ_eq_append_getElem hl, List.map_append, List.sum_append]
    have h1 := ih (by omega)
    have h2 := len_wr1 os[k]
    simp only [List.map_cons, List.map_nil, List.sum_cons, List.sum_nil]
    omega
theorem len_next (os : List OpD) (k : Nat) (hk : k < os.length) : (wrs os k).length + 8 + os[k].bs.length ≤ tot os := by
  have h1 := len_wrs os k (by omega)
  have e : os = os.take k ++ (os[k] :: os.drop (k + 1)) := by
    rw [← List.drop_eq_getElem_cons hk, List.take_append_drop]
  have h2 : tot os = ((os.take k).map fun o => 8 + o.bs.length).sum + (8 + os[k].bs.length + ((os.drop (k + 1)).map fun o => 8 + o.bs.length).sum) := by
    conv => lhs; unfold tot; rw [e]
    rw [List.map_append, List.sum_append]; rfl
  omega

/-- two rows apart from one another -/
def Ap (A B : Option Addr) : Prop := ∀ k, ow A = some k → ow B ≠ some k
theorem Ap.symm {A B : Option Addr} (h : Ap A B) : Ap B A := fun k hk e => h k e hk
theorem Ap.nr {w : World} {X A A' : Option Addr} (h : Ap X A) (hr : Nr w A A') (hx : ∀ k, ow X = some k → k < w.heap.size) : Ap X A' := fun k hk e => by
  rcases hr with e2 | ⟨j, e2, hj⟩
  · exact h k hk (by rw [← e2, e])
  · have := hx k hk
    rw [e2] at e; injection e with e; omega
theorem Ap.fresh {X Y : Option Addr} {N : Nat} (hx : ∀ k, ow X = some k → k < N) (hy : ∀ k, ow Y = some k → N ≤ k) : Ap X Y := fun k hk e => by
  have h1 := hx k hk; have h2 := hy k e; omega
theorem Ap.fr {w w' : World} {X A : Option Addr} {c g : Nat} {l : List Nat} (h : Own w X c l) (ha : Ap X A) (hf : Fr w w' g (ow A)) (hg : ow X ≠ some g) : Own w' X c l := h.fr hf hg (by
  cases e : ow X with
  | none => exact .inl rfl
  | some k => exact .inr fun e2 => ha k e e2.symm)
theorem Ap.grown {w w' : World} {X A : Option Addr} {c : Nat} {l : List Nat} (h : Own w X c l) (ha : Ap X A) (hf : w.grownBy w' (ow A)) : Own w' X c l := h.kept hf (by
  cases e : ow X with
  | none => exact .inl rfl
  | some k => exact .inr fun e2 => ha k e e2.symm)
theorem Pen.grown {w w' : World} {g c : Nat} {A X : Option Addr} {l : List Nat} {c2 : Nat} {l2 : List Nat} (h : Pen w g A c l) (hx : Own w X c2 l2) (ha : Ap A X) (hf : w.grownBy w' (ow X)) : Pen w' g A c l :=
  ⟨(hf.block g h.lt (fun e => hx.ne h.1 (by decide) e.symm)).trans h.1, Ap.grown h.2 ha hf⟩
end Go.Proofs.Ytmjhmjbbfklbdaa
