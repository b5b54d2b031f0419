/- The document's form of a term. -/
import Derived.Test.YtegehcdjnnajcaaDoorA10
import Derived.Test.YtegehcdjnnajcaaDoorB23h
import Derived.Test.YtegehcdjnnajcaaDoorA9
namespace Go.Proofs.YtegehcdjnnajcaaDoor
open Go.RowKit
theorem szL_take : ∀ (ks : List Tm) (i : Nat), szL (ks.take i) ≤ szL ks
  | [], i => by simp
  | k :: r, 0 => by rw [List.take_zero, szL]; omega
  | k :: r, i + 1 => by rw [List.take_succ_cons, szL, szL]; have := szL_take r i; omega
end Go.Proofs.YtegehcdjnnajcaaDoor
