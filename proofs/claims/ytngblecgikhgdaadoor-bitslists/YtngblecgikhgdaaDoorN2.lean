/- The contracts once more, with what is known of the vector that is given. -/
import Derived.Test.YtngblecgikhgdaaDoorN
namespace Go.Proofs.YtngblecgikhgdaaDoor
open Go.RowKit

/-- a new vector of which P is known -/
def GivesP (w : World) (P : List (BitVec 64) → Prop) (e : Ending) (w' : World) : Prop :=
  ∃ z A c, e = .returned (.slice A z.length c) ∧ z.length ≤ c ∧ z.length ≤ 35184372088832 ∧ U64s w' A z ∧ Fre w' w.heap.size A z.length ∧ Below w.heap.size w w' ∧ P z
def GivesOkP (w : World) (P : List (BitVec 64) → Prop) (e : Ending) (w' : World) : Prop :=
  ∃ z A c, e = .returned (.tuple #[.slice A z.length c, .int .i64 0]) ∧ z.length ≤ c ∧ z.length ≤ 35184372080000 ∧ U64s w' A z ∧ Fre w' w.heap.size A z.length ∧ Below w.heap.size w w' ∧ P z
/-- in the one form, with these bits -/
def Is (f : Nat → Bool) (z : List (BitVec 64)) : Prop := Can z ∧ ∀ i, bit z i = f i
theorem Is.eq {f g : Nat → Bool} {x y : List (BitVec 64)} (hx : Is f x) (hy : Is g y) (h : ∀ i, f i = g i) : x = y :=
  bit_ext x y hx.1 hy.1 fun i => by rw [hx.2, hy.2, h]
theorem Is.nil {f : Nat → Bool} {x : List (BitVec 64)} (hx : Is f x) (h : ∀ i, f i = false) : x = [] := can_nil_of x hx.1 fun i => by rw [hx.2, h]

theorem gives_p {w : World} {ys : List (BitVec 64)} {P : List (BitVec 64) → Prop} (hl : ys.length ≤ 35184372088832) (hp : P ys) : ∀ e w', Gives w ys e w' → GivesP w P e w' := by
  rintro e w' ⟨A, c, h1, h2, h3, h4, h5⟩
  exact ⟨ys, A, c, h1, h2, hl, h3, h4, h5, hp⟩
theorem givesOk_p {w : World} {ys : List (BitVec 64)} {P : List (BitVec 64) → Prop} (hl : ys.length ≤ 35184372080000) (hp : P ys) : ∀ e w', GivesOk w ys e w' → GivesOkP w P e w' := by
  rintro e w' ⟨A, c, h1, h2, h3, h4, h5⟩
  exact ⟨ys, A, c, h1, h2, hl, h3, h4, h5, hp⟩

theorem and_p (A B : Option Addr) (c d : Nat) (xs ys : List (BitVec 64)) (w : World) (hx : U64s w A xs) (hy : U64s w B ys) (lx : xs.length ≤ 35184372088832) (ly : ys.length ≤ 35184372088832) :
    Calls Tryd.prog 15 #[.slice A xs.length c, .slice B ys.length d] w (GivesP w (Is fun i => bit xs i &&bit ys i)) :=
  (and_any A B c d xs ys w hx hy lx ly).mono (gives_p (Nat.le_trans (len_canon_joinv _ xs ys) (by omega)) ⟨can_andv xs ys, bit_andv xs ys⟩)

theorem or_p (A B : Option Addr) (c d : Nat) (xs ys : List (BitVec 64)) (w : World) (hx : U64s w A xs) (hy : U64s w B ys) (lx : xs.length ≤ 35184372088832) (ly : ys.length ≤ 35184372088832) :
    Calls Tryd.prog 16 #[.slice A xs.length c, .slice B ys.length d] w (GivesP w (Is fun i => bit xs i ||bit ys i)) :=
  (or_any A B c d xs ys w hx hy lx ly).mono (gives_p (Nat.le_trans (len_canon_joinv _ xs ys) (by omega)) ⟨can_orv xs ys, bit_orv xs ys⟩)

theorem minus_p (A B : Option Addr) (c d : Nat) (xs ys : List (BitVec 64)) (w : World) (hx : U64s w A xs) (hy : U64s w B ys) (lx : xs.length ≤ 35184372088832) (ly : ys.length ≤ 35184372088832) :
    Calls Tryd.prog 17 #[.slice A xs.length c, .slice B ys.length d] w (GivesP w (Is fun i => bit xs i && !bit ys i)) :=
  (minus_any A B c d xs ys w hx hy lx ly).mono (gives_p (Nat.le_trans (len_canon_joinv _ xs ys) (by omega)) ⟨can_minusv xs ys, bit_minusv xs ys⟩)

theorem trim_p (A : Option Addr) (c : Nat) (xs : List (BitVec 64)) (w : World) (hx : U64s w A xs) (hc : xs.length ≤ c) (lx : xs.length ≤ 35184372088832) :
    Calls Tryd.prog 23 #[.slice A xs.length c] w (GivesP w (Is (bit xs))) :=
  (trim_any A c xs w hx hc lx).mono (gives_p (Nat.le_trans (canon_le xs) lx) ⟨can_canon xs, bit_canon xs⟩)
theorem low_p (A : Option Addr) (c : Nat) (n : Int) (xs : List (BitVec 64)) (w : World) (hx : U64s w A xs) (hc : xs.length ≤ c) (lx : xs.length ≤ 35184372088832) (hi : n ≤ 9223372036854775807) :
    Calls Tryd.prog 30 #[.slice A xs.length c, .int .i64 n] w (GivesP w (Is fun i => decide ((i : Int) < n) && bit xs i)) :=
  (low_any A c n xs w hx hc lx hi).mono (gives_p (Nat.le_trans (len_lowv xs n) lx) ⟨can_lowv xs n, bit_lowv xs n⟩)
theorem clear_p (A : Option Addr) (c : Nat) (xs : List (BitVec 64)) (i : Int) (w : World) (hx : U64s w A xs) (hc : xs.length ≤ c) (lx : xs.length ≤ 35184372088832) (hi : i ≤ 9223372036854775807) :
    Calls Tryd.prog 22 #[.slice A xs.length c, .int .i64 i] w (GivesP w (Is fun j => bit xs j && !decide ((j : Int) = i))) :=
  (clear_any A c xs i w hx hc lx hi).mono (gives_p (Nat.le_trans (len_clrv xs i) lx) ⟨can_clrv xs i, bit_clrv xs i⟩)
theorem set_p (A : Option Addr) (c : Nat) (xs : List (BitVec 64)) (i : Int) (w : World) (hx : U64s w A xs) (hc : xs.length ≤ c) (lx : xs.length ≤ 35184372080000) (h0 : 0 ≤ i) (hi : i < 65536) :
    Calls Tryd.prog 21 #[.slice A xs.length c, .int .i64 i] w (GivesOkP w (Is fun j => bit xs j || decide ((j : Int) = i))) := by
  obtain ⟨m, rfl⟩ := Int.eq_ofNat_of_zero_le h0
  obtain ⟨h1, h2, h3⟩ := can_setv xs m
  have hl := canon_le xs
  refine (set_any A c m xs w hx hc (by omega) (by omega)).mono (givesOk_p (by omega) ⟨h1, fun j => ?_⟩)
  rw [h2]
  congr 1
  rw [Bool.eq_iff_iff]; simp; omega
theorem up_p (A : Option Addr) (c : Nat) (xs : List (BitVec 64)) (n : Int) (w : World) (hx : U64s w A xs) (hc : xs.length ≤ c) (lx : xs.length ≤ 35184372070000) (h0 : 0 ≤ n) (hi : n ≤ 65536) :
    Calls Tryd.prog 29 #[.slice A xs.length c, .int .i64 n] w (GivesOkP w fun z => Is (fun j => decide (n ≤ (j : Int)) && bit xs (j - n.toNat)) z ∧ cnt z = cnt xs ∧ z.length ≤ xs.length + 1025) := by
  obtain ⟨m, rfl⟩ := Int.eq_ofNat_of_zero_le h0
  have hl := len_upv xs m
  refine (up_any A c m xs w hx hc (by omega) (by omega)).mono (givesOk_p (by omega) ⟨⟨can_upv xs m, fun j => ?_⟩, cnt_up xs (upv xs m) m (bit_upv xs m), by omega⟩)
  rw [bit_upv, Int.toNat_natCast]
  congr 1
  rw [Bool.eq_iff_iff]; simp
theorem same_p (A B : Option Addr) (c d : Nat) (xs ys : List (BitVec 64)) (w : World) (hx : U64s w A xs) (hy : U64s w B ys) (lx : xs.length ≤ 35184372088832) (h : xs = ys) :
    Calls Tryd.prog 18 #[.slice A xs.length c, .slice B ys.length d] w fun e w' => e = .returned (.bool true) ∧ Below w.heap.size w w' := by
  subst h; exact same_b A B c d xs w hx hy lx
theorem count_p (A : Option Addr) (c : Nat) (xs : List (BitVec 64)) (w : World) (hx : U64s w A xs) (lx : xs.length ≤ 35184372088832) :
    Calls Tryd.prog 37 #[.slice A xs.length c] w fun e w' => ∃ m : Nat, e = .returned (.int .i64 m) ∧ w = w' ∧ m ≤ 2251799813685248 ∧ m = cnt xs := by
  refine (count_any A c xs w hx lx).mono ?_
  rintro e w' ⟨rfl, rfl⟩
  have := cnt_le xs
  exact ⟨cnt xs, rfl, rfl, by omega, rfl⟩
theorem get_p (A : Option Addr) (c : Nat) (xs : List (BitVec 64)) (i : Int) (w : World) (hx : U64s w A xs) (lx : xs.length ≤ 35184372088832) (hi : i ≤ 9223372036854775807) :
    Calls Tryd.prog 24 #[.slice A xs.length c, .int .i64 i] w fun e w' => e = .returned (.bool (decide (0 ≤ i) && bit xs i.toNat)) ∧ w = w' := by
  by_cases h0 : 0 ≤ i
  · obtain ⟨m, rfl⟩ := Int.eq_ofNat_of_zero_le h0
    rw [decide_eq_true h0, Int.toNat_natCast, Bool.true_and]
    exact get_any A c m xs w hx lx (by omega)
  · rw [decide_eq_false h0, Bool.false_and]
    exact get_no A c xs i w (by omega)
end Go.Proofs.YtngblecgikhgdaaDoor
