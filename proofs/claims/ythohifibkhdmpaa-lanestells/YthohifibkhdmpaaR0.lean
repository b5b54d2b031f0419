/- The rows of the lanes laws: what they share. -/
import Derived.Test.YthohifibkhdmpaaRows
import Derived.Test.YthohifibkhdmpaaL6
import Derived.ProofKit
import Derived.OpenShut
namespace Go.Proofs.Ythohifibkhdmpaa
open Go.ChangeShapes Go.WideShapes Go.ChangeAt Go.RowKit

theorem ownK : ownKnob Try.prog.godebug = none := by kernel_rfl
theorem laidOutK : laidOutB Try.prog = true := by kernel_rfl
end Go.Proofs.Ythohifibkhdmpaa
