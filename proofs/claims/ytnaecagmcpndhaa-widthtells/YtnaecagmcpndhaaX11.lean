/- Where a term's numbers are within bounds nothing wraps. -/
import Derived.Test.YtnaecagmcpndhaaJ15
import Derived.Test.YtnaecagmcpndhaaJ13
namespace Go.Proofs.Ytnaecagmcpndhaa
open Go.RowKit
theorem wrap_in {x : Int} (h1 : -9223372036854775808 ≤ x) (h2 : x ≤ 9223372036854775807) : wrap64 x = x := by
  rw [← wrapEq]; exact IntWalk.i64_in _ (by omega)
theorem plus_same {a b : Int} (ha : Sm a) (hb : Sm b) : A.plusF a b = plusF a b := by
  unfold Sm at ha hb
  unfold A.plusF plusF
  rw [wrap_in (by omega) (by omega)]
theorem times_same {a b : Int} (ha : Sm a) (h0 : 0 ≤ b) (h2 : b ≤ 200) : A.timesF a b = timesF a b := by
  unfold Sm at ha
  have h3 : 0 ≤ a * b := Int.mul_nonneg ha.1 h0
  have h4 : a * b ≤ 1099511627776 * 200 := Int.mul_le_mul ha.2 h2 h0 (by omega)
  unfold A.timesF timesF
  by_cases ha0 : a = 0
  · subst ha0
    rw [if_neg (fun h => h.1 rfl), wrap_in (by omega) (by omega), if_pos (by omega)]
  · have hp : 0 < a := by omega
    have e : Int.tdiv 1099511627776 a = 1099511627776 / a := Int.tdiv_eq_ediv_of_nonneg (by omega)
    have k1 := Int.ediv_nonneg (a := 1099511627776) (b := a) (by omega) (by omega)
    have k2 := Int.ediv_le_self (a := 1099511627776) a (by omega)
    have key := Int.le_ediv_iff_mul_le (a := b) (b := 1099511627776) (c := a) hp
    rw [e, wrap_in (by omega) (by omega), wrap_in (by omega) (by omega)]
    have ec : b * a = a * b := Int.mul_comm b a
    by_cases hq : 1099511627776 / a < b
    · rw [if_pos ⟨ha0, hq⟩, if_neg (fun h => by have := key.2 (by omega); omega)]
    · rw [if_neg (fun h => hq h.2), if_pos (by have := key.1 (by omega); omega)]
theorem copies_same {a b : Int} (ha : 0 ≤ a) : A.copiesF a b = copiesF a b := by
  unfold A.copiesF copiesF
  split
  · split <;> split <;> omega
  · rfl
def toA (x : Ex) : A.Ex := ⟨x.l, x.m, x.a⟩
theorem most_same {a b : Int} {f g : Int → Int → Int} (h : ¬ a = -1 → ¬ b = -1 → f a b = g a b) : A.mostF f a b = mostF g a b := by
  unfold A.mostF mostF
  split
  · rfl
  · rename_i hn
    exact h (fun e => hn (.inl e)) (fun e => hn (.inr e))
theorem then_same {x y : Ex} (hx : Eo x) (hy : Eo y) : A.thenF (toA x) (toA y) = toA (thenF x y) := by
  obtain ⟨l, m, a⟩ := x
  obtain ⟨l', m', a'⟩ := y
  cases a <;> cases a'
  · rfl
  · rfl
  · rfl
  · show A.Ex.mk (A.plusF l l') (A.mostF A.plusF m m') true = A.Ex.mk (plusF l l') (mostF plusF m m') true
    rw [plus_same hx.l hy.l, most_same (g := plusF) fun h1 h2 => plus_same (hx.m.resolve_left h1) (hy.m.resolve_left h2)]
theorem or_same (x y : Ex) : A.orF (toA x) (toA y) = toA (orF x y) := by
  obtain ⟨l, m, a⟩ := x
  obtain ⟨l', m', a'⟩ := y
  cases a <;> cases a' <;> rfl
theorem rep_same {x : Ex} {lo hi : Int} (hx : Eo x) (h1 : 0 ≤ lo ∧ lo ≤ 200) (h2 : -1 ≤ hi ∧ hi ≤ 200) : A.repeatF (toA x) lo hi = toA (repeatF x lo hi) := by
  obtain ⟨l, m, a⟩ := x
  cases a
  · rfl
  · show A.Ex.mk (A.timesF l lo) (if m = 0 ∨ hi = 0 then 0 else A.mostF A.timesF m hi) true = A.Ex.mk (timesF l lo) (if m = 0 ∨ hi = 0 then 0 else mostF timesF m hi) true
    rw [times_same hx.l h1.1 h1.2, most_same (g := timesF) fun e1 e2 => times_same (hx.m.resolve_left e1) (by omega) h2.2]
theorem span_same (t : Tm) (h : Ok t) : A.spanT t = toA (spanT t) := by
  induction t using Tm.ind with
  | h op f lo hi ks ih =>
    have hc : ∀ (l : List Tm) (x : Ex), (∀ k ∈ l, A.spanT k = toA (spanT k) ∧ Eo (spanT k)) → Eo x → A.catX l (toA x) = toA (catX l x) := by
      intro l
      induction l with
      | nil => intro x _ _; rw [A.catX, catX]
      | cons k r ihl =>
        intro x hk hx
        rw [A.catX, catX, (hk k (by simp)).1, then_same hx (hk k (by simp)).2]
        exact ihl _ (fun y hy => hk y (by simp [hy])) (thenF_eo hx (hk k (by simp)).2)
    have ha : ∀ (l : List Tm) (x : Ex), (∀ k ∈ l, A.spanT k = toA (spanT k) ∧ Eo (spanT k)) → A.altX l (toA x) = toA (altX l x) := by
      intro l
      induction l with
      | nil => intro x _; rw [A.altX, altX]
      | cons k r ihl =>
        intro x hk
        rw [A.altX, altX, (hk k (by simp)).1, or_same]
        exact ihl _ (fun y hy => hk y (by simp [hy]))
    have hk : ∀ k ∈ ks, A.spanT k = toA (spanT k) ∧ Eo (spanT k) := fun k hk => ⟨ih k hk (h.kid hk), spanT_eo k (h.kid hk)⟩
    rw [A.spanT, spanT]
    split
    · rfl
    split
    · rfl
    split
    · split <;> rfl
    split
    · exact hc ks ⟨0, 0, true⟩ hk (eo0 _)
    split
    · exact ha ks ⟨0, 0, false⟩ hk
    split
    · rename_i h8
      have hn := h.num h8
      match ks, hk with
      | [], _ => rw [A.repX, repX]; rfl; intro k e; cases e; intro k e; cases e
      | [k], hk => rw [A.repX, repX, (hk k (by simp)).1]; exact rep_same (hk k (by simp)).2 hn.1 hn.2
      | _ :: _ :: _, _ => rw [A.repX, repX]; rfl; intro k e; cases e; intro k e; cases e
    · rfl
theorem pos_same (t : Tm) (h : Ok t) : A.posT t = posT t := by
  induction t using Tm.ind with
  | h op f lo hi ks ih =>
    have hL : ∀ (l : List Tm) (n : Int), (∀ k ∈ l, A.posT k = posT k ∧ Sm (posT k)) → Sm n → A.posL l n = posL l n := by
      intro l
      induction l with
      | nil => intro n _ _; rw [A.posL, posL]
      | cons k r ihl =>
        intro n hk hn
        rw [A.posL, posL, (hk k (by simp)).1, plus_same hn (hk k (by simp)).2]
        exact ihl _ (fun y hy => hk y (by simp [hy])) (plusF_sm hn (hk k (by simp)).2)
    have hk : ∀ k ∈ ks, A.posT k = posT k ∧ Sm (posT k) := fun k hk => ⟨ih k hk (h.kid hk), posT_sm k (h.kid hk)⟩
    have e := hL ks 0 hk sm0
    have es := posL_sm ks 0 (fun k hk' => (hk k hk').2) sm0
    rw [A.posT, posT, e]
    split
    · rfl
    split
    · rename_i h8
      have hn := h.num h8
      rw [copies_same hn.1.1]
      exact times_same es (by unfold copiesF; split <;> (try split) <;> omega) (by unfold copiesF; split <;> (try split) <;> omega)
    · rfl
end Go.Proofs.Ytnaecagmcpndhaa
