/- The rows of the laws of width: a term that comes in as an argument. -/
import Derived.Test.YtegehcdjnnajcaaDoorN1
namespace Go.Proofs.YtegehcdjnnajcaaDoor
open Go.ChangeShapes Go.WideShapes Go.ChangeAt Go.RowKit
theorem okWide_agg {P : Program} {W : World} {r : Reach} {base : Nat} {v : Value} {t : TypeId} {fs} (ht : P.underlying t = some (.struct fs)) (h : Value.okWide P W r base t v) : ∃ cs, v = .agg cs := by
  unfold Value.okWide at h
  rw [ht] at h
  obtain ⟨cs, e, _⟩ := h
  exact ⟨cs, e⟩
set_option maxRecDepth 100000 in
theorem open_term {H : Type} {enc : TypeId × Value → H} {W : World} {base b0 : Nat} {v : Value} {d : DataW H} {p : List MemPlace} {sp : Nat → Bool} {held : Bool}
    (hv : Value.okWide Tryd.prog W .any b0 27 v) (h : DataW.Trod enc Tryd.prog W base sp held 27 v d p) : ∃ t dd, v = TD.val dd ∧ TR W t dd := by
  obtain ⟨cs, e0⟩ := okWide_agg Tryd.underlying27 hv
  obtain ⟨fuel, hf⟩ := h
  obtain ⟨t, dd, e, ht⟩ := open_tm fuel _ _ hf
  refine ⟨t, dd, ?_, ht⟩
  rw [e0] at e ⊢
  have e2 : cs.toList = dd.cells.toList := e
  have e3 : cs = dd.cells := Array.toList_inj.1 e2
  rw [e3]
  rfl
end Go.Proofs.YtegehcdjnnajcaaDoor
