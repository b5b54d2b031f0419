/- Span: what its closure tells. -/
import Derived.Test.YtnaecagmcpndhaaW3
namespace Go.Proofs.Ytnaecagmcpndhaa
open Go.RowKit
mutual
def spanT : Tm → Ex
  | .mk op f lo hi ks => if op = 1 ∨ op = 4 ∨ op = 5 then ⟨0, 0, true⟩ else if op = 3 then ⟨1, 1, true⟩ else if op = 2 then (if eqK f noB then ⟨0, 0, false⟩ else ⟨1, 1, true⟩)
      else if op = 6 then catX ks ⟨0, 0, true⟩ else if op = 7 then altX ks ⟨0, 0, false⟩ else if op = 8 then repX ks lo hi else ⟨0, 0, false⟩
def catX : List Tm → Ex → Ex
  | [], x => x
  | k :: r, x => catX r (thenF x (spanT k))
def altX : List Tm → Ex → Ex
  | [], x => x
  | k :: r, x => altX r (orF x (spanT k))
def repX : List Tm → Int → Int → Ex
  | [k], lo, hi => repeatF (spanT k) lo hi
  | _, _, _ => ⟨0, 0, false⟩
end
theorem eo0 (b : Bool) : Eo ⟨0, 0, b⟩ := ⟨sm0, .inr sm0⟩
theorem eo1 (b : Bool) : Eo ⟨1, 1, b⟩ := ⟨sm1, .inr sm1⟩
theorem mostF_eo {f : Int → Int → Int} {a b : Int} (ha : a = -1 ∨ Sm a) (hb : b = -1 ∨ Sm b) (hf : ∀ a b, Sm a → Sm b → Sm (f a b)) : mostF f a b = -1 ∨ Sm (mostF f a b) := by
  unfold mostF
  split
  · exact .inl rfl
  · rename_i h
    exact .inr (hf a b (ha.resolve_left fun e => h (.inl e)) (hb.resolve_left fun e => h (.inr e)))
theorem thenF_eo {x y : Ex} (hx : Eo x) (hy : Eo y) : Eo (thenF x y) := by
  unfold thenF
  split
  · exact ⟨plusF_sm hx.l hy.l, mostF_eo hx.m hy.m fun a b => plusF_sm⟩
  · exact eo0 _
theorem orF_eo {x y : Ex} (hx : Eo x) (hy : Eo y) : Eo (orF x y) := by
  unfold orF
  split
  · split
    · refine ⟨?_, mostF_eo hx.m hy.m fun a b ha hb => ?_⟩
      · have h1 := hx.l; have h2 := hy.l; unfold Sm at *; show 0 ≤ min x.l y.l ∧ min x.l y.l ≤ _; omega
      · unfold Sm at *; omega
    · exact hx
  · exact hy
theorem repeatF_eo {x : Ex} {lo hi : Int} (hx : Eo x) (hlo : 0 ≤ lo) (hhi : -1 ≤ hi) : Eo (repeatF x lo hi) := by
  unfold repeatF
  split
  · refine ⟨timesF_sm hx.l hlo, ?_⟩
    show (if x.m = 0 ∨ hi = 0 then 0 else mostF timesF x.m hi) = -1 ∨ Sm (if x.m = 0 ∨ hi = 0 then 0 else mostF timesF x.m hi)
    split
    · exact .inr sm0
    · unfold mostF
      split
      · exact .inl rfl
      · rename_i h
        exact .inr (timesF_sm (hx.m.resolve_left fun e => h (.inl e)) (by omega))
  · exact eo0 _
theorem catX_eo : ∀ (l : List Tm) (x : Ex), (∀ k ∈ l, Eo (spanT k)) → Eo x → Eo (catX l x)
  | [], x, _, h => by rw [catX]; exact h
  | k :: r, x, hk, h => by rw [catX]; exact catX_eo r _ (fun y hy => hk y (by simp [hy])) (thenF_eo h (hk k (by simp)))
theorem altX_eo : ∀ (l : List Tm) (x : Ex), (∀ k ∈ l, Eo (spanT k)) → Eo x → Eo (altX l x)
  | [], x, _, h => by rw [altX]; exact h
  | k :: r, x, hk, h => by rw [altX]; exact altX_eo r _ (fun y hy => hk y (by simp [hy])) (orF_eo h (hk k (by simp)))
theorem spanT_eo (t : Tm) (h : Ok t) : Eo (spanT t) := by
  induction t using Tm.ind with
  | h op f lo hi ks ih =>
    have hk : ∀ k ∈ ks, Eo (spanT k) := fun k hk => ih k hk (h.kid hk)
    rw [spanT]
    split
    · exact eo0 _
    split
    · exact eo1 _
    split
    · split
      · exact eo0 _
      · exact eo1 _
    split
    · exact catX_eo ks _ hk (eo0 _)
    split
    · exact altX_eo ks _ hk (eo0 _)
    split
    · rename_i h8
      have hn := h.num h8
      match ks, hk with
      | [], _ => rw [repX]; exact eo0 _; intro k e; cases e
      | [k], hk => rw [repX]; exact repeatF_eo (hk k (by simp)) hn.1.1 hn.2.1
      | _ :: _ :: _, _ => rw [repX]; exact eo0 _; intro k e; cases e
    · exact eo0 _
end Go.Proofs.Ytnaecagmcpndhaa
