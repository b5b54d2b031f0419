/- Right, by the document. -/
import Derived.Test.YtegehcdjnnajcaaDoorA1
import Derived.Test.YtegehcdjnnajcaaDoorA2
namespace Go.Proofs.YtegehcdjnnajcaaDoor
open Go.RowKit
theorem right_mk {op : Int} {f : Nat → Bool} {lo hi : Int} {ks : List Tm} (h : Ri op f lo hi ks) : rightT (.mk op f lo hi ks) = true := by
  rw [rightT]
  simp only [Bool.and_eq_true, Bool.or_eq_true, decide_eq_true_iff]
  refine ⟨⟨h.op1, h.op8⟩, ?_, ?_, ?_, ?_, (rightL_iff ks).2 h.kids⟩
  · unfold kidsOk
    rw [decide_eq_true_iff]
    exact ⟨fun x => by rw [h.leaf x]; rfl, h.two, h.rep⟩
  · by_cases e : op = 8
    · exact .inl e
    · exact .inr (h.num e)
  · by_cases e : op = 2
    · exact .inl e
    · exact .inr (h.set e)
  · by_cases e : op = 8
    · exact .inr (by unfold bndB; rw [decide_eq_true_iff]; exact h.bnd e)
    · exact .inl e
theorem rt_no {op : Int} {f : Nat → Bool} {lo hi : Int} {ks : List Tm} (h : ¬ Ri op f lo hi ks) : rightT (.mk op f lo hi ks) = false := by
  rw [Bool.eq_false_iff]; intro h2; exact h (right_is h2)
end Go.Proofs.YtegehcdjnnajcaaDoor
