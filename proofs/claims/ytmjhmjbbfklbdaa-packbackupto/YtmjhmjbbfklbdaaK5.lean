/- PackBursts: its walk. -/
import Derived.Test.YtmjhmjbbfklbdaaF2
namespace Go.Proofs.Ytmjhmjbbfklbdaa
open Go.RowKit

/-- the copy of a frame, turned in the first k bits of a burst -/
def Turned (bs : List Nat) (x room fr k : Nat) (l : List Nat) : Prop := Like 7 bs l ∧ num l = num (frame 7 bs) ^^^ fl x room k * 2 ^ (64 + fr)
theorem turned_zero (bs : List Nat) (hb : ∀ x ∈ bs, x < 256) (x room fr : Nat) : Turned bs x room fr 0 (frame 7 bs) := ⟨⟨rfl, frame_lt 7 bs (by omega) hb, fun _ _ => rfl⟩, by simp [fl]⟩
theorem turned_same {bs : List Nat} {x room fr k : Nat} {l : List Nat} (h : Turned bs x room fr k l) (hk : ¬ (x / 2 ^ k % 2 = 1 ∧ k < room)) : Turned bs x room fr (k + 1) l := ⟨h.1, by rw [h.2, fl_same _ _ _ hk]⟩
theorem turned_step {bs : List Nat} {x room fr k : Nat} {l : List Nat} (h : Turned bs x room fr k l) (hk : x / 2 ^ k % 2 = 1 ∧ k < room) (hj : 8 + (fr + k) / 8 < l.length) :
    Turned bs x room fr (k + 1) (l.set (8 + (fr + k) / 8) (bn l (8 + (fr + k) / 8) ^^^ 2 ^ ((fr + k) % 8))) := by
  refine ⟨⟨by rw [List.length_set]; exact h.1.1, fun y hy => ?_, fun j hj8 => ?_⟩, ?_⟩
  · rcases List.mem_or_eq_of_mem_set hy with hy | rfl
    · exact h.1.2.1 y hy
    · exact Nat.xor_lt_two_pow (n := 8) (mem_bn h.1.2.1 _) (Nat.pow_lt_pow_right (by omega) (by omega))
  · rw [← h.1.2.2 j hj8]
    unfold bn
    simp only [List.getD, List.getElem?_set]
    rw [if_neg (by omega)]
  · rw [num_set l h.1.2.1 _ _ hj (by omega), h.2, fl_xor _ _ _ hk, Nat.xor_assoc]
    congr 1
    rw [← Nat.shiftLeft_eq, ← Nat.shiftLeft_eq, Nat.shiftLeft_xor_distrib]
    congr 1
    rw [Nat.shiftLeft_eq, ← Nat.pow_add]
    congr 1; omega

theorem Own.stored {w : World} {g c : Nat} {l : List Nat} (h : Own w (some ⟨g, 0, none⟩) c l) (j y : Nat) (hy : y < 256) : Own (w.setCell ⟨g, j, none⟩ (.int .u8 (y : Nat))) (some ⟨g, 0, none⟩) c (l.set j y) := by
  have h1 := (h.1.stored j (.int .u8 (y : Nat))).1
  refine ⟨?_, fun x hx => ?_, fun h => by cases h⟩
  · rw [List.length_set]
    unfold yvals at h1 ⊢
    rw [List.map_set]
    exact h1
  · rcases List.mem_or_eq_of_mem_set hx with hx | rfl
    · exact h.2.1 x hx
    · exact hy
theorem Own.at_ {w : World} {g c : Nat} {l : List Nat} (h : Own w (some ⟨g, 0, none⟩) c l) (j : Nat) (hj : j < l.length) : w.cell? ⟨g, j, none⟩ = some (.int .u8 (bn l j : Nat)) ∧ w.frozen? ⟨g, j, none⟩ = false :=
  ⟨by rw [h.1.cellAt j (by omega)]; simp [yvals, bn, List.getD, hj], h.1.frozenAt j⟩
theorem own_addr {w : World} {A : Option Addr} {c : Nat} {l : List Nat} (h : Own w A c l) (h0 : 0 < l.length) : ∃ g, A = some ⟨g, 0, none⟩ := by
  rcases h.1.2 with ⟨_, h1⟩ | ⟨g, cap, cur, e, _⟩
  · omega
  · injection e with e; exact ⟨g, e⟩
theorem low_bit32 (x k : Nat) (h : x < 4294967296) : bits .and .u32 ((x : Int) / 2 ^ k) 1 = ((x / 2 ^ k % 2 : Nat) : Int) := by
  have e : ((x : Int) / 2 ^ k) = ((x / 2 ^ k : Nat) : Int) := by simp
  rw [e]
  exact low_bit _ (Nat.lt_of_le_of_lt (Nat.div_le_self _ _) h)
end Go.Proofs.Ytmjhmjbbfklbdaa
