/- What the walks of the laws of width have in common. -/
import Derived.Test.YtnaecagmcpndhaaX6
namespace Go.Proofs.Ytnaecagmcpndhaa
open Go.RowKit
/-- a law's argument, and what is known of it -/
structure Cx (w wr : World) (b : Nat) (t : Tm) (d : TD) : Prop where
  bel : Below w.heap.size w wr
  tr : TR wr t d
  tb : TB wr b d
theorem Cx.to {w wr w' : World} {b : Nat} {t : Tm} {d : TD} (h : Cx w wr b t d) (hb : Below wr.heap.size wr w') : Cx w w' b t d := ⟨h.bel.trans (hb.mono h.bel.size), h.tr.keeps hb, h.tb.below hb⟩
theorem ok_one {t : Tm} (lo hi : Int) (h : Ok t) (h1 : (0 ≤ lo ∧ lo ≤ 200) ∧ (-1 ≤ hi ∧ hi ≤ 200)) : Ok (.mk 8 noB lo hi [t]) := .mk _ _ _ _ _ (fun _ => h1) (fun k hk => by simp at hk; rw [hk]; exact h)
theorem span_one (t : Tm) (lo hi : Int) : spanT (.mk 8 noB lo hi [t]) = repeatF (spanT t) lo hi := by rw [spanT]; simp [repX]
theorem span_star (t : Tm) : ∃ M, spanT (.mk 8 noB 0 (-1) [t]) = ⟨0, M, true⟩ ∧ (((spanT t).a = false ∧ M = 0) ∨ ((spanT t).a = true ∧ (spanT t).m = 0 ∧ M = 0) ∨ ((spanT t).a = true ∧ ¬ (spanT t).m = 0 ∧ M = -1)) := by
  rw [span_one]
  generalize spanT t = x
  obtain ⟨l, m, a⟩ := x
  cases a
  · exact ⟨0, by simp [repeatF], .inl ⟨rfl, rfl⟩⟩
  · by_cases hm : m = 0
    · exact ⟨0, by simp [repeatF, timesF, hm], .inr (.inl ⟨rfl, hm, rfl⟩)⟩
    · exact ⟨-1, by simp [repeatF, timesF, mostF, hm], .inr (.inr ⟨rfl, hm, rfl⟩)⟩
theorem pos_one (t : Tm) (lo hi : Int) (h : Ok t) : posT (.mk 8 noB lo hi [t]) = timesF (posT t) (copiesF lo hi) := by
  have hs := posT_sm t h
  have e : plusF 0 (posT t) = posT t := by unfold Sm at hs; unfold plusF; rw [if_pos (by omega)]; omega
  rw [posT]
  simp [posL, e]
theorem pos_star (t : Tm) (h : Ok t) : posT (.mk 8 noB 0 (-1) [t]) = posT t := by
  have hs := posT_sm t h
  rw [pos_one t _ _ h]
  unfold Sm at hs
  simp [copiesF, timesF]
  omega
theorem anc_one (t : Tm) (lo hi : Int) : ancT (.mk 8 noB lo hi [t]) = ancT t := by
  rw [ancT]
  simp [ancL]
/-- two terms that lie there -/
def Bo (w : World) (b b' : Nat) (t u : Tm) (d e : TD) (W : World) : Prop := Cx w W b t d ∧ Cx w W b' u e
theorem step_bo {w W w' : World} {b b' : Nat} {t u : Tm} {d e : TD} (h : Hid (Bo w b b' t u d e W)) (hb : Below W.heap.size W w') : Hid (Bo w b b' t u d e w') := ⟨h.out.1.to hb, h.out.2.to hb⟩
theorem span_no (t : Tm) (h : (spanT t).a = false) : (spanT t).l = 0 ∧ (spanT t).m = 0 := by
  suffices H : (spanT t).a = false → spanT t = ⟨0, 0, false⟩ by rw [H h]; exact ⟨rfl, rfl⟩
  clear h
  induction t using Tm.ind with
  | h op f lo hi ks ih =>
    have hc : ∀ (l : List Tm) (x : Ex), (∀ k ∈ l, (spanT k).a = false → spanT k = ⟨0, 0, false⟩) → (x.a = false → x = ⟨0, 0, false⟩) → (catX l x).a = false → catX l x = ⟨0, 0, false⟩ := by
      intro l
      induction l with
      | nil => intro x _ hx; rw [catX]; exact hx
      | cons k r ihl =>
        intro x hk hx
        rw [catX]
        refine ihl _ (fun y hy => hk y (by simp [hy])) ?_
        unfold thenF
        split
        · intro h; cases h
        · intro _; rfl
    have ha : ∀ (l : List Tm) (x : Ex), (∀ k ∈ l, (spanT k).a = false → spanT k = ⟨0, 0, false⟩) → (x.a = false → x = ⟨0, 0, false⟩) → (altX l x).a = false → altX l x = ⟨0, 0, false⟩ := by
      intro l
      induction l with
      | nil => intro x _ hx; rw [altX]; exact hx
      | cons k r ihl =>
        intro x hk hx
        rw [altX]
        refine ihl _ (fun y hy => hk y (by simp [hy])) ?_
        unfold orF
        split
        · split
          · intro h; cases h
          · exact hx
        · exact hk k (by simp)
    rw [spanT]
    split
    · intro h; cases h
    split
    · intro h; cases h
    split
    · split
      · intro _; rfl
      · intro h; cases h
    split
    · exact hc ks _ ih (fun h => by cases h)
    split
    · exact ha ks _ ih (fun _ => rfl)
    split
    · match ks with
      | [] => intro _; rw [repX]; simp
      | [k] =>
        rw [repX]
        unfold repeatF
        split
        · intro h; cases h
        · intro h
          have h' : decide (lo = 0) = false := h
          rw [h']
      | _ :: _ :: _ => intro _; rw [repX]; simp
    · intro _; rfl
end Go.Proofs.Ytnaecagmcpndhaa
