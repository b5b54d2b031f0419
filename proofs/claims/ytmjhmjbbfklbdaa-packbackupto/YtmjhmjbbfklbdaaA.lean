/- Bytes in memory. -/
import Derived.Test.YtmjhmjbbfklbdaaRows
import Derived.Test.YtmjhmjbbfklbdaaM
import Derived.WalkKit
import Derived.WalkSpells
import Derived.WalkLawsBesides
import Derived.Lib.Hide
import Derived.Deep.QuietTactic
import Derived.BigQuiet
import Derived.Deep.RegionHeld3
import Derived.Laws.BitsAllLaws
namespace Go.Proofs.Ytmjhmjbbfklbdaa
open Go.RowKit

theorem ret_int {k : IntKind} {a b : Int} (h : a = b) : Ending.returned (.int k a) = .returned (.int k b) := by rw [h]
/-- bytes in memory -/
def bn (bs : List Nat) (j : Nat) : Nat := bs.getD j 0
def Bts (w : World) (A : Option Addr) (bs : List Nat) : Prop :=
  (∀ j, bn bs j < 256) ∧ (0 < bs.length → ∃ b off, A = some ⟨b, off, none⟩ ∧ b < w.heap.size ∧ ∀ j, j < bs.length → w.cell? ⟨b, off + j, none⟩ = some (.int .u8 (bn bs j : Nat)))
theorem Bts.below {w w' : World} {A : Option Addr} {bs : List Nat} (h : Bts w A bs) (hb : Below w.heap.size w w') : Bts w' A bs := ⟨h.1, fun h0 => by
  obtain ⟨b, off, e, hlt, hc⟩ := h.2 h0
  exact ⟨b, off, e, Nat.lt_of_lt_of_le hlt hb.size, fun j hj => (hb.cell (p := ⟨b, off + j, none⟩) hlt).trans (hc j hj)⟩⟩
theorem bn_mem {bs : List Nat} (h : ∀ j, bn bs j < 256) : ∀ x ∈ bs, x < 256 := by
  intro x hx
  obtain ⟨j, hj, e⟩ := List.getElem_of_mem hx
  have := h j
  simp [bn, List.getD, hj, e] at this
  exact this
theorem mem_bn {bs : List Nat} (h : ∀ x ∈ bs, x < 256) (j : Nat) : bn bs j < 256 := by
  unfold bn
  rcases Nat.lt_or_ge j bs.length with hj | hj
  · simp only [List.getD, List.getElem?_eq_getElem hj, Option.getD_some]; exact h _ (List.getElem_mem hj)
  · simp [List.getD, List.getElem?_eq_none hj]
theorem bn_get {bs : List Nat} {j : Nat} (hj : j < bs.length) : bn bs j = bs[j] := by simp [bn, List.getD, hj]
theorem take_snoc (bs : List Nat) (k : Nat) (h : k < bs.length) : bs.take (k + 1) = bs.take k ++ [bn bs k] := by
  rw [List.take_succ_eq_append_getElem h, bn_get h]
end Go.Proofs.Ytmjhmjbbfklbdaa
