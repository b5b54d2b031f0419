/- The rows of the pack laws: what they share. -/
import Derived.Test.YtmjhmjbbfklbdaaRows
import Derived.Test.YtmjhmjbbfklbdaaK1
import Derived.ProofKit
import Derived.OpenShut
namespace Go.Proofs.Ytmjhmjbbfklbdaa
open Go.ChangeShapes Go.WideShapes Go.ChangeAt Go.RowKit

theorem ownK : ownKnob Try.prog.godebug = none := by kernel_rfl
theorem laidOutK : laidOutB Try.prog = true := by kernel_rfl
end Go.Proofs.Ytmjhmjbbfklbdaa
