/-
  No cell of these rows narrows 'for every input' (looked for: loops, veiled, ifaces, maps, wideKeys, modest, calm, conditions, laid).
  DERIVED. THE GIVEN ROWS OF THIS SEAT. 6 by the template 'for every input the law returns true; each argument reads behind the call as it read before'; 0 by the template 'total and deterministic' (their statements: YtodcnpjhkkifcaaTotals.lean).
  GIVEN WITH THE SEED: the statements are not yours to turn. If you find one false, say at which input.
  Laid BY PROGRAM, IN A SANDBOX (cutbox-rows.mjs): the forced cells as the released guide's own fill.sh prints them over the translation 209382ee1318590b… (all of the seat's roots in one cut). By AI agents, Wed Nov 11 2026. No macro, syntax, notation, axiom, sorry.
-/
import Derived.Test.YtodcnpjhkkifcaaChecked
import GoSem.Claim
import GoSem.ClaimJoined
import GoSem.ClaimMapViews
import Derived.JoinedTies
import Derived.KernelRfl
namespace Go.Proofs.Ytodcnpjhkkifcaa
/- THE CELL 'sum', in the pinned program and in every row, IS THE sha256 OF THE DUMP (.gsa) THAT YtodcnpjhkkifcaaProg.lean LOADS. Nothing in Lean hashes anything: it is a label: what it is worth is what the hold of that sum in a sandbox is worth. -/
noncomputable def Try.pinned : Pinned := { name := "ytodcnpjhkkifcaa", sum := "209382ee1318590bf550bdb18930ec9ff49d1640bb450f8c2f0e3c3efb17b0ab", checked := Try.checked }
namespace Rows
def none {H : Type} : Left H := { results := [], args := [] }

/-- 'riddlelaw02.ClassMakes': WHATEVER THE INPUT: true; the input reads as it did. -/
def classMakesSpec : ChangeSpec := { name := "classMakes", fn := fun _ => fun
  | [d1, d2, d3] => { results := [.lit (.bool true)], args := [d1, d2, d3] }
  | _ => none }
def classMakesRow : OpenClaim := { program := "ytodcnpjhkkifcaa", sum := "209382ee1318590bf550bdb18930ec9ff49d1640bb450f8c2f0e3c3efb17b0ab", func := "riddle/riddlelaw02.ClassMakes", spec := "classMakes", apart := false }
def ClassMakesSaid : Prop := classMakesRow.holds Try.pinned (OpenSpec.ofChange classMakesSpec)

/-- ITS FALSE NEIGHBOUR: 'it returns false'. Refute it at one input. -/
def classMakesWrong : ChangeSpec := { name := "classMakes", fn := fun _ => fun
  | [d1, d2, d3] => { results := [.lit (.bool false)], args := [d1, d2, d3] }
  | _ => none }
def ClassMakesWrongFalsely : Prop := classMakesRow.holds Try.pinned (OpenSpec.ofChange classMakesWrong)

/-- 'riddlelaw02.ClassJoins': WHATEVER THE INPUT: true; the input reads as it did. -/
def classJoinsSpec : ChangeSpec := { name := "classJoins", fn := fun _ => fun
  | [d1, d2] => { results := [.lit (.bool true)], args := [d1, d2] }
  | _ => none }
def classJoinsRow : OpenClaim := { program := "ytodcnpjhkkifcaa", sum := "209382ee1318590bf550bdb18930ec9ff49d1640bb450f8c2f0e3c3efb17b0ab", func := "riddle/riddlelaw02.ClassJoins", spec := "classJoins", apart := false }
def ClassJoinsSaid : Prop := classJoinsRow.holds Try.pinned (OpenSpec.ofChange classJoinsSpec)

/-- ITS FALSE NEIGHBOUR: 'it returns false'. Refute it at one input. -/
def classJoinsWrong : ChangeSpec := { name := "classJoins", fn := fun _ => fun
  | [d1, d2] => { results := [.lit (.bool false)], args := [d1, d2] }
  | _ => none }
def ClassJoinsWrongFalsely : Prop := classJoinsRow.holds Try.pinned (OpenSpec.ofChange classJoinsWrong)

/-- 'riddlelaw02.ClassTells': WHATEVER THE INPUT: true; the input reads as it did. -/
def classTellsSpec : ChangeSpec := { name := "classTells", fn := fun _ => fun
  | [d] => { results := [.lit (.bool true)], args := [d] }
  | _ => none }
def classTellsRow : OpenClaim := { program := "ytodcnpjhkkifcaa", sum := "209382ee1318590bf550bdb18930ec9ff49d1640bb450f8c2f0e3c3efb17b0ab", func := "riddle/riddlelaw02.ClassTells", spec := "classTells", apart := false }
def ClassTellsSaid : Prop := classTellsRow.holds Try.pinned (OpenSpec.ofChange classTellsSpec)

/-- ITS FALSE NEIGHBOUR: 'it returns false'. Refute it at one input. -/
def classTellsWrong : ChangeSpec := { name := "classTells", fn := fun _ => fun
  | [d] => { results := [.lit (.bool false)], args := [d] }
  | _ => none }
def ClassTellsWrongFalsely : Prop := classTellsRow.holds Try.pinned (OpenSpec.ofChange classTellsWrong)

/-- 'riddlelaw02.ClassRules': WHATEVER THE INPUT: true; the input reads as it did. -/
def classRulesSpec : ChangeSpec := { name := "classRules", fn := fun _ => fun
  | [d1, d2] => { results := [.lit (.bool true)], args := [d1, d2] }
  | _ => none }
def classRulesRow : OpenClaim := { program := "ytodcnpjhkkifcaa", sum := "209382ee1318590bf550bdb18930ec9ff49d1640bb450f8c2f0e3c3efb17b0ab", func := "riddle/riddlelaw02.ClassRules", spec := "classRules", apart := false }
def ClassRulesSaid : Prop := classRulesRow.holds Try.pinned (OpenSpec.ofChange classRulesSpec)

/-- ITS FALSE NEIGHBOUR: 'it returns false'. Refute it at one input. -/
def classRulesWrong : ChangeSpec := { name := "classRules", fn := fun _ => fun
  | [d1, d2] => { results := [.lit (.bool false)], args := [d1, d2] }
  | _ => none }
def ClassRulesWrongFalsely : Prop := classRulesRow.holds Try.pinned (OpenSpec.ofChange classRulesWrong)

/-- 'riddlelaw02.ClassCounts': WHATEVER THE INPUT: true; the input reads as it did. -/
def classCountsSpec : ChangeSpec := { name := "classCounts", fn := fun _ => fun
  | [d1, d2] => { results := [.lit (.bool true)], args := [d1, d2] }
  | _ => none }
def classCountsRow : OpenClaim := { program := "ytodcnpjhkkifcaa", sum := "209382ee1318590bf550bdb18930ec9ff49d1640bb450f8c2f0e3c3efb17b0ab", func := "riddle/riddlelaw02.ClassCounts", spec := "classCounts", apart := false }
def ClassCountsSaid : Prop := classCountsRow.holds Try.pinned (OpenSpec.ofChange classCountsSpec)

/-- ITS FALSE NEIGHBOUR: 'it returns false'. Refute it at one input. -/
def classCountsWrong : ChangeSpec := { name := "classCounts", fn := fun _ => fun
  | [d1, d2] => { results := [.lit (.bool false)], args := [d1, d2] }
  | _ => none }
def ClassCountsWrongFalsely : Prop := classCountsRow.holds Try.pinned (OpenSpec.ofChange classCountsWrong)

/-- 'riddlelaw02.ClassOne': WHATEVER THE INPUT: true; the input reads as it did. -/
def classOneSpec : ChangeSpec := { name := "classOne", fn := fun _ => fun
  | [d1, d2] => { results := [.lit (.bool true)], args := [d1, d2] }
  | _ => none }
def classOneRow : OpenClaim := { program := "ytodcnpjhkkifcaa", sum := "209382ee1318590bf550bdb18930ec9ff49d1640bb450f8c2f0e3c3efb17b0ab", func := "riddle/riddlelaw02.ClassOne", spec := "classOne", apart := false }
def ClassOneSaid : Prop := classOneRow.holds Try.pinned (OpenSpec.ofChange classOneSpec)

/-- ITS FALSE NEIGHBOUR: 'it returns false'. Refute it at one input. -/
def classOneWrong : ChangeSpec := { name := "classOne", fn := fun _ => fun
  | [d1, d2] => { results := [.lit (.bool false)], args := [d1, d2] }
  | _ => none }
def ClassOneWrongFalsely : Prop := classOneRow.holds Try.pinned (OpenSpec.ofChange classOneWrong)

/- THE SECOND FORM. 'bulk': how many values and letters a reading holds, each counted each time it is reached (what is shared counts as often as it is met; a slice's spare places count too). A statement '..UptoSaid' is the law's where the arguments, and the package variables that the reading takes, are together of bulk at most 1048576: NARROWER than '..Said'. Prove '..Said' where nothing that the law and all that it calls make is longer than what came in: it says more and counts as full. Else prove '..UptoSaid'. A law counts once. -/
mutual
def uptoBulk {H : Type} : DataW H → Nat
  | .lit (.string bytes) => bytes.length + 1
  | .lit _ => 1
  | .nil => 1
  | .ptr d => uptoBulk d + 1
  | .slice elems spare => uptoBulkAll elems + uptoBulkAll spare + 1
  | .agg parts => uptoBulkAll parts + 1
  | .iface _ d => uptoBulk d + 1
  | .map entries => uptoBulkEntries entries + 1
  | .held _ => 1
def uptoBulkAll {H : Type} : List (DataW H) → Nat
  | [] => 0
  | d :: r => uptoBulk d + uptoBulkAll r
def uptoBulkEntries {H : Type} : List (Lit × DataW H) → Nat
  | [] => 0
  | x :: r => uptoBulkEntry x + uptoBulkEntries r
def uptoBulkEntry {H : Type} : Lit × DataW H → Nat
  | (.string bytes, d) => bytes.length + uptoBulk d + 1
  | (_, d) => uptoBulk d + 1
 end
def uptoSmall : (H : Type) → List (DataW H) → Bool := fun _ ds => decide (uptoBulkAll ds ≤ 1048576)
def OpenSpec.upto (s : _root_.Go.ChangeSpec) : _root_.Go.OpenSpec := { _root_.Go.OpenSpec.ofChange s with cond := some uptoSmall }

/-- 'riddlelaw02.ClassMakes', WHERE WHAT IT READS IS OF BULK AT MOST 1048576: true; the input reads as it did. -/
def classMakesUptoRow : OpenClaim := { program := "ytodcnpjhkkifcaa", sum := "209382ee1318590bf550bdb18930ec9ff49d1640bb450f8c2f0e3c3efb17b0ab", func := "riddle/riddlelaw02.ClassMakes", spec := "classMakes", apart := false, narrowed := true }
def ClassMakesUptoSaid : Prop := classMakesUptoRow.holds Try.pinned (OpenSpec.upto classMakesSpec)

/-- 'riddlelaw02.ClassJoins', WHERE WHAT IT READS IS OF BULK AT MOST 1048576: true; the input reads as it did. -/
def classJoinsUptoRow : OpenClaim := { program := "ytodcnpjhkkifcaa", sum := "209382ee1318590bf550bdb18930ec9ff49d1640bb450f8c2f0e3c3efb17b0ab", func := "riddle/riddlelaw02.ClassJoins", spec := "classJoins", apart := false, narrowed := true }
def ClassJoinsUptoSaid : Prop := classJoinsUptoRow.holds Try.pinned (OpenSpec.upto classJoinsSpec)

/-- 'riddlelaw02.ClassTells', WHERE WHAT IT READS IS OF BULK AT MOST 1048576: true; the input reads as it did. -/
def classTellsUptoRow : OpenClaim := { program := "ytodcnpjhkkifcaa", sum := "209382ee1318590bf550bdb18930ec9ff49d1640bb450f8c2f0e3c3efb17b0ab", func := "riddle/riddlelaw02.ClassTells", spec := "classTells", apart := false, narrowed := true }
def ClassTellsUptoSaid : Prop := classTellsUptoRow.holds Try.pinned (OpenSpec.upto classTellsSpec)

/-- 'riddlelaw02.ClassRules', WHERE WHAT IT READS IS OF BULK AT MOST 1048576: true; the input reads as it did. -/
def classRulesUptoRow : OpenClaim := { program := "ytodcnpjhkkifcaa", sum := "209382ee1318590bf550bdb18930ec9ff49d1640bb450f8c2f0e3c3efb17b0ab", func := "riddle/riddlelaw02.ClassRules", spec := "classRules", apart := false, narrowed := true }
def ClassRulesUptoSaid : Prop := classRulesUptoRow.holds Try.pinned (OpenSpec.upto classRulesSpec)

/-- 'riddlelaw02.ClassCounts', WHERE WHAT IT READS IS OF BULK AT MOST 1048576: true; the input reads as it did. -/
def classCountsUptoRow : OpenClaim := { program := "ytodcnpjhkkifcaa", sum := "209382ee1318590bf550bdb18930ec9ff49d1640bb450f8c2f0e3c3efb17b0ab", func := "riddle/riddlelaw02.ClassCounts", spec := "classCounts", apart := false, narrowed := true }
def ClassCountsUptoSaid : Prop := classCountsUptoRow.holds Try.pinned (OpenSpec.upto classCountsSpec)

/-- 'riddlelaw02.ClassOne', WHERE WHAT IT READS IS OF BULK AT MOST 1048576: true; the input reads as it did. -/
def classOneUptoRow : OpenClaim := { program := "ytodcnpjhkkifcaa", sum := "209382ee1318590bf550bdb18930ec9ff49d1640bb450f8c2f0e3c3efb17b0ab", func := "riddle/riddlelaw02.ClassOne", spec := "classOne", apart := false, narrowed := true }
def ClassOneUptoSaid : Prop := classOneUptoRow.holds Try.pinned (OpenSpec.upto classOneSpec)

end Rows
end Go.Proofs.Ytodcnpjhkkifcaa
