/- The runs, byte by byte, and a whole run at once. -/
import Derived.Test.YtodcnpjhkkifcaaC10
namespace Go.Proofs.Ytodcnpjhkkifcaa
open Go.RowKit

/-- the runs of the bytes below n -/
def Rn (q : Nat → BitVec 64) (n : Nat) : List (Nat × Nat) := runsK (byl q n) (byl q n).length
theorem runsK_snoc (l : List Nat) (x : Nat) : ∀ k, k ≤ l.length → runsK (l ++ [x]) k = runsK l k
  | 0, _ => rfl
  | k + 1, h => by
    have e : bn (l ++ [x]) k = bn l k := by unfold bn; rw [List.getD, List.getD, List.getElem?_append_left (by omega)]
    rw [runsK, runsK, runsK_snoc l x k (by omega), e]
theorem Rn_zero (q : Nat → BitVec 64) : Rn q 0 = [] := rfl
theorem Rn_skip (q : Nat → BitVec 64) (n : Nat) (h : kb q n = false) : Rn q (n + 1) = Rn q n := by unfold Rn; rw [byl_skip q n h]
theorem Rn_take (q : Nat → BitVec 64) (n : Nat) (h : kb q n = true) : Rn q (n + 1) = stepR (Rn q n) n := by
  unfold Rn
  rw [byl_take q n h, List.length_append, List.length_singleton, runsK, runsK_snoc _ _ _ (Nat.le_refl _)]
  congr 1
  unfold bn
  rw [List.getD, List.getElem?_append_right (Nat.le_refl _)]
  simp
theorem byl_up' (q : Nat → BitVec 64) (n j : Nat) (h0 : 0 < j) (hj : j < (byl q n).length) : bn (byl q n) (j - 1) < bn (byl q n) j := by
  have hs : (byl q n).Pairwise (· < ·) := List.Pairwise.filter _ List.pairwise_lt_range
  unfold bn
  rw [List.getD, List.getD, List.getElem?_eq_getElem hj, List.getElem?_eq_getElem (by omega)]
  exact List.pairwise_iff_getElem.1 hs (j - 1) j (by omega) hj (by omega)
theorem bn_mem (q : Nat → BitVec 64) (n j : Nat) (hj : j < (byl q n).length) : bn (byl q n) j < n ∧ kb q (bn (byl q n) j) = true := by
  have hm : (byl q n)[j] ∈ byl q n := List.getElem_mem hj
  have e : bn (byl q n) j = (byl q n)[j] := by unfold bn; rw [List.getD, List.getElem?_eq_getElem hj]; rfl
  rw [e]
  have h2 := List.mem_filter.1 (show (byl q n)[j] ∈ (List.range n).filter (kb q) from hm)
  exact ⟨List.mem_range.1 h2.1, h2.2⟩
theorem Rn_last (q : Nat → BitVec 64) (n : Nat) (hn : n ≤ 256) (h0 : 0 < (Rn q n).length) : (pr (Rn q n) ((Rn q n).length - 1)).2 < n ∧ kb q (pr (Rn q n) ((Rn q n).length - 1)).2 = true := by
  have hi := (runs_inv (byl q n) (fun j a b => byl_up' q n j a b) (fun j => byl_lt q n hn j) _ (Nat.le_refl _)).2.1 h0
  unfold Rn
  rw [hi.2.1]
  exact bn_mem q n _ (by have := hi.1; omega)
theorem Rn_first (q : Nat → BitVec 64) (n : Nat) (hn : n < 256) (h1 : n = 0 ∨ kb q (n - 1) = false) (h : kb q n = true) : Rn q (n + 1) = Rn q n ++ [(n, n)] := by
  rw [Rn_take q n h]
  unfold stepR
  rw [if_neg]
  rintro ⟨h0, e⟩
  obtain ⟨a, b⟩ := Rn_last q n (by omega) h0
  rw [e] at a b
  rcases h1 with rfl | h1
  · omega
  · rw [show (n + 255) % 256 = n - 1 by omega] at b
    rw [h1] at b; cases b
theorem Rn_block (q : Nat → BitVec 64) (n : Nat) (h1 : n = 0 ∨ kb q (n - 1) = false) : ∀ d, n + d < 256 → (∀ j, n ≤ j → j ≤ n + d → kb q j = true) → Rn q (n + d + 1) = Rn q n ++ [(n, n + d)]
  | 0, hn, hk => Rn_first q n (by omega) h1 (hk n (Nat.le_refl _) (by omega))
  | d + 1, hn, hk => by
    have ih := Rn_block q n h1 d (by omega) (fun j a b => hk j a (by omega))
    rw [show n + (d + 1) = n + d + 1 by omega, Rn_take q (n + d + 1) (hk _ (by omega) (by omega)), ih]
    have hp : pr (Rn q n ++ [(n, n + d)]) (Rn q n).length = (n, n + d) := by rw [pr_snoc, if_neg (by omega), if_pos rfl]
    unfold stepR
    rw [List.length_append, List.length_singleton, Nat.add_sub_cancel, hp, if_pos ⟨by omega, by simp only; omega⟩]
    simp
end Go.Proofs.Ytodcnpjhkkifcaa
