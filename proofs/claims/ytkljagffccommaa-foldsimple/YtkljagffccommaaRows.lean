/-
  NARROWER THAN 'FOR EVERY INPUT', by the rows' own cells (each row's printed sentence says how): FoldResolves: loops · FoldSimple: loops · FoldOnce: loops · FoldTwice: loops · FoldSteps: loops.
  DERIVED. THE GIVEN ROWS OF THIS SEAT. 7 by the template 'for every input the law returns true; each argument reads behind the call as it read before'; 0 by the template 'total and deterministic' (their statements: YtkljagffccommaaTotals.lean).
  GIVEN WITH THE SEED: the statements are not yours to turn. If you find one false, say at which input.
  Laid BY PROGRAM, IN A SANDBOX (cutbox-rows.mjs): the forced cells as the released guide's own fill.sh prints them over the translation 32011ecdb0736cd2… (all of the seat's roots in one cut). By AI agents, Wed Nov 11 2026. No macro, syntax, notation, axiom, sorry.
-/
import Derived.Test.YtkljagffccommaaChecked
import GoSem.Claim
import GoSem.ClaimJoined
import GoSem.ClaimMapViews
import Derived.JoinedTies
import Derived.KernelRfl
namespace Go.Proofs.Ytkljagffccommaa
/- THE CELL 'sum', in the pinned program and in every row, IS THE sha256 OF THE DUMP (.gsa) THAT YtkljagffccommaaProg.lean LOADS. Nothing in Lean hashes anything: it is a label: what it is worth is what the hold of that sum in a sandbox is worth. -/
noncomputable def Try.pinned : Pinned := { name := "ytkljagffccommaa", sum := "32011ecdb0736cd2ef0e4b7fb81235784a9f3183712a964ba71e791f5f08fff3", checked := Try.checked }
namespace Rows
def none {H : Type} : Left H := { results := [], args := [] }

/-- 'riddlelaw05.SyntaxNames': WHATEVER THE INPUT: true; the input reads as it did. -/
def syntaxNamesSpec : ChangeSpec := { name := "syntaxNames", fn := fun _ => fun
  | [] => { results := [.lit (.bool true)], args := [] }
  | _ => none }
def syntaxNamesRow : OpenClaim := { program := "ytkljagffccommaa", sum := "32011ecdb0736cd2ef0e4b7fb81235784a9f3183712a964ba71e791f5f08fff3", func := "riddle/riddlelaw05.SyntaxNames", spec := "syntaxNames", unfollowed := true, recurses := true, apart := false }
def SyntaxNamesSaid : Prop := syntaxNamesRow.holds Try.pinned (OpenSpec.ofChange syntaxNamesSpec)

/-- ITS FALSE NEIGHBOUR: 'it returns false'. Refute it at one input. -/
def syntaxNamesWrong : ChangeSpec := { name := "syntaxNames", fn := fun _ => fun
  | [] => { results := [.lit (.bool false)], args := [] }
  | _ => none }
def SyntaxNamesWrongFalsely : Prop := syntaxNamesRow.holds Try.pinned (OpenSpec.ofChange syntaxNamesWrong)

/-- 'riddlelaw05.SyntaxReads': WHATEVER THE INPUT: true; the input reads as it did. -/
def syntaxReadsSpec : ChangeSpec := { name := "syntaxReads", fn := fun _ => fun
  | [d] => { results := [.lit (.bool true)], args := [d] }
  | _ => none }
def syntaxReadsRow : OpenClaim := { program := "ytkljagffccommaa", sum := "32011ecdb0736cd2ef0e4b7fb81235784a9f3183712a964ba71e791f5f08fff3", func := "riddle/riddlelaw05.SyntaxReads", spec := "syntaxReads", unfollowed := true, recurses := true, apart := false }
def SyntaxReadsSaid : Prop := syntaxReadsRow.holds Try.pinned (OpenSpec.ofChange syntaxReadsSpec)

/-- ITS FALSE NEIGHBOUR: 'it returns false'. Refute it at one input. -/
def syntaxReadsWrong : ChangeSpec := { name := "syntaxReads", fn := fun _ => fun
  | [d] => { results := [.lit (.bool false)], args := [d] }
  | _ => none }
def SyntaxReadsWrongFalsely : Prop := syntaxReadsRow.holds Try.pinned (OpenSpec.ofChange syntaxReadsWrong)

/-- 'riddlelaw08.FoldResolves': WHATEVER THE INPUT: true; the input reads as it did. -/
def foldResolvesSpec : ChangeSpec := { name := "foldResolves", fn := fun _ => fun
  | [d1, d2] => { results := [.lit (.bool true)], args := [d1, d2] }
  | _ => none }
def foldResolvesRow : OpenClaim := { program := "ytkljagffccommaa", sum := "32011ecdb0736cd2ef0e4b7fb81235784a9f3183712a964ba71e791f5f08fff3", func := "riddle/riddlelaw08.FoldResolves", spec := "foldResolves", unfollowed := true, recurses := true, loops := true, apart := false }
def FoldResolvesSaid : Prop := foldResolvesRow.holds Try.pinned (OpenSpec.ofChange foldResolvesSpec)

/-- ITS FALSE NEIGHBOUR: 'it returns false'. Refute it at one input. -/
def foldResolvesWrong : ChangeSpec := { name := "foldResolves", fn := fun _ => fun
  | [d1, d2] => { results := [.lit (.bool false)], args := [d1, d2] }
  | _ => none }
def FoldResolvesWrongFalsely : Prop := foldResolvesRow.holds Try.pinned (OpenSpec.ofChange foldResolvesWrong)

/-- 'riddlelaw08.FoldSimple': WHATEVER THE INPUT: true; the input reads as it did. -/
def foldSimpleSpec : ChangeSpec := { name := "foldSimple", fn := fun _ => fun
  | [d] => { results := [.lit (.bool true)], args := [d] }
  | _ => none }
def foldSimpleRow : OpenClaim := { program := "ytkljagffccommaa", sum := "32011ecdb0736cd2ef0e4b7fb81235784a9f3183712a964ba71e791f5f08fff3", func := "riddle/riddlelaw08.FoldSimple", spec := "foldSimple", unfollowed := true, recurses := true, loops := true, apart := false }
def FoldSimpleSaid : Prop := foldSimpleRow.holds Try.pinned (OpenSpec.ofChange foldSimpleSpec)

/-- ITS FALSE NEIGHBOUR: 'it returns false'. Refute it at one input. -/
def foldSimpleWrong : ChangeSpec := { name := "foldSimple", fn := fun _ => fun
  | [d] => { results := [.lit (.bool false)], args := [d] }
  | _ => none }
def FoldSimpleWrongFalsely : Prop := foldSimpleRow.holds Try.pinned (OpenSpec.ofChange foldSimpleWrong)

/-- 'riddlelaw08.FoldOnce': WHATEVER THE INPUT: true; the input reads as it did. -/
def foldOnceSpec : ChangeSpec := { name := "foldOnce", fn := fun _ => fun
  | [d] => { results := [.lit (.bool true)], args := [d] }
  | _ => none }
def foldOnceRow : OpenClaim := { program := "ytkljagffccommaa", sum := "32011ecdb0736cd2ef0e4b7fb81235784a9f3183712a964ba71e791f5f08fff3", func := "riddle/riddlelaw08.FoldOnce", spec := "foldOnce", unfollowed := true, recurses := true, loops := true, apart := false }
def FoldOnceSaid : Prop := foldOnceRow.holds Try.pinned (OpenSpec.ofChange foldOnceSpec)

/-- ITS FALSE NEIGHBOUR: 'it returns false'. Refute it at one input. -/
def foldOnceWrong : ChangeSpec := { name := "foldOnce", fn := fun _ => fun
  | [d] => { results := [.lit (.bool false)], args := [d] }
  | _ => none }
def FoldOnceWrongFalsely : Prop := foldOnceRow.holds Try.pinned (OpenSpec.ofChange foldOnceWrong)

/-- 'riddlelaw08.FoldTwice': WHATEVER THE INPUT: true; the input reads as it did. -/
def foldTwiceSpec : ChangeSpec := { name := "foldTwice", fn := fun _ => fun
  | [d1, d2] => { results := [.lit (.bool true)], args := [d1, d2] }
  | _ => none }
def foldTwiceRow : OpenClaim := { program := "ytkljagffccommaa", sum := "32011ecdb0736cd2ef0e4b7fb81235784a9f3183712a964ba71e791f5f08fff3", func := "riddle/riddlelaw08.FoldTwice", spec := "foldTwice", unfollowed := true, recurses := true, loops := true, apart := false }
def FoldTwiceSaid : Prop := foldTwiceRow.holds Try.pinned (OpenSpec.ofChange foldTwiceSpec)

/-- ITS FALSE NEIGHBOUR: 'it returns false'. Refute it at one input. -/
def foldTwiceWrong : ChangeSpec := { name := "foldTwice", fn := fun _ => fun
  | [d1, d2] => { results := [.lit (.bool false)], args := [d1, d2] }
  | _ => none }
def FoldTwiceWrongFalsely : Prop := foldTwiceRow.holds Try.pinned (OpenSpec.ofChange foldTwiceWrong)

/-- 'riddlelaw08.FoldSteps': WHATEVER THE INPUT: true; the input reads as it did. -/
def foldStepsSpec : ChangeSpec := { name := "foldSteps", fn := fun _ => fun
  | [d] => { results := [.lit (.bool true)], args := [d] }
  | _ => none }
def foldStepsRow : OpenClaim := { program := "ytkljagffccommaa", sum := "32011ecdb0736cd2ef0e4b7fb81235784a9f3183712a964ba71e791f5f08fff3", func := "riddle/riddlelaw08.FoldSteps", spec := "foldSteps", unfollowed := true, recurses := true, loops := true, apart := false }
def FoldStepsSaid : Prop := foldStepsRow.holds Try.pinned (OpenSpec.ofChange foldStepsSpec)

/-- ITS FALSE NEIGHBOUR: 'it returns false'. Refute it at one input. -/
def foldStepsWrong : ChangeSpec := { name := "foldSteps", fn := fun _ => fun
  | [d] => { results := [.lit (.bool false)], args := [d] }
  | _ => none }
def FoldStepsWrongFalsely : Prop := foldStepsRow.holds Try.pinned (OpenSpec.ofChange foldStepsWrong)

/- THE SECOND FORM. 'bulk': how many values and letters a reading holds, each counted each time it is reached (what is shared counts as often as it is met; a slice's spare places count too). A statement '..UptoSaid' is the law's where the arguments, and the package variables that the reading takes, are together of bulk at most 1048576: NARROWER than '..Said'. Prove '..Said' where nothing that the law and all that it calls make is longer than what came in: it says more and counts as full. Else prove '..UptoSaid'. A law counts once. -/
mutual
def uptoBulk {H : Type} : DataW H → Nat
  | .lit (.string bytes) => bytes.length + 1
  | .lit _ => 1
  | .nil => 1
  | .ptr d => uptoBulk d + 1
  | .slice elems spare => uptoBulkAll elems + uptoBulkAll spare + 1
  | .agg parts => uptoBulkAll parts + 1
  | .iface _ d => uptoBulk d + 1
  | .map entries => uptoBulkEntries entries + 1
  | .held _ => 1
def uptoBulkAll {H : Type} : List (DataW H) → Nat
  | [] => 0
  | d :: r => uptoBulk d + uptoBulkAll r
def uptoBulkEntries {H : Type} : List (Lit × DataW H) → Nat
  | [] => 0
  | x :: r => uptoBulkEntry x + uptoBulkEntries r
def uptoBulkEntry {H : Type} : Lit × DataW H → Nat
  | (.string bytes, d) => bytes.length + uptoBulk d + 1
  | (_, d) => uptoBulk d + 1
 end
def uptoSmall : (H : Type) → List (DataW H) → Bool := fun _ ds => decide (uptoBulkAll ds ≤ 1048576)
def OpenSpec.upto (s : _root_.Go.ChangeSpec) : _root_.Go.OpenSpec := { _root_.Go.OpenSpec.ofChange s with cond := some uptoSmall }

/-- 'riddlelaw05.SyntaxNames', WHERE WHAT IT READS IS OF BULK AT MOST 1048576: true; the input reads as it did. -/
def syntaxNamesUptoRow : OpenClaim := { program := "ytkljagffccommaa", sum := "32011ecdb0736cd2ef0e4b7fb81235784a9f3183712a964ba71e791f5f08fff3", func := "riddle/riddlelaw05.SyntaxNames", spec := "syntaxNames", unfollowed := true, recurses := true, apart := false, narrowed := true }
def SyntaxNamesUptoSaid : Prop := syntaxNamesUptoRow.holds Try.pinned (OpenSpec.upto syntaxNamesSpec)

/-- 'riddlelaw05.SyntaxReads', WHERE WHAT IT READS IS OF BULK AT MOST 1048576: true; the input reads as it did. -/
def syntaxReadsUptoRow : OpenClaim := { program := "ytkljagffccommaa", sum := "32011ecdb0736cd2ef0e4b7fb81235784a9f3183712a964ba71e791f5f08fff3", func := "riddle/riddlelaw05.SyntaxReads", spec := "syntaxReads", unfollowed := true, recurses := true, apart := false, narrowed := true }
def SyntaxReadsUptoSaid : Prop := syntaxReadsUptoRow.holds Try.pinned (OpenSpec.upto syntaxReadsSpec)

/-- 'riddlelaw08.FoldResolves', WHERE WHAT IT READS IS OF BULK AT MOST 1048576: true; the input reads as it did. -/
def foldResolvesUptoRow : OpenClaim := { program := "ytkljagffccommaa", sum := "32011ecdb0736cd2ef0e4b7fb81235784a9f3183712a964ba71e791f5f08fff3", func := "riddle/riddlelaw08.FoldResolves", spec := "foldResolves", unfollowed := true, recurses := true, loops := true, apart := false, narrowed := true }
def FoldResolvesUptoSaid : Prop := foldResolvesUptoRow.holds Try.pinned (OpenSpec.upto foldResolvesSpec)

/-- 'riddlelaw08.FoldSimple', WHERE WHAT IT READS IS OF BULK AT MOST 1048576: true; the input reads as it did. -/
def foldSimpleUptoRow : OpenClaim := { program := "ytkljagffccommaa", sum := "32011ecdb0736cd2ef0e4b7fb81235784a9f3183712a964ba71e791f5f08fff3", func := "riddle/riddlelaw08.FoldSimple", spec := "foldSimple", unfollowed := true, recurses := true, loops := true, apart := false, narrowed := true }
def FoldSimpleUptoSaid : Prop := foldSimpleUptoRow.holds Try.pinned (OpenSpec.upto foldSimpleSpec)

/-- 'riddlelaw08.FoldOnce', WHERE WHAT IT READS IS OF BULK AT MOST 1048576: true; the input reads as it did. -/
def foldOnceUptoRow : OpenClaim := { program := "ytkljagffccommaa", sum := "32011ecdb0736cd2ef0e4b7fb81235784a9f3183712a964ba71e791f5f08fff3", func := "riddle/riddlelaw08.FoldOnce", spec := "foldOnce", unfollowed := true, recurses := true, loops := true, apart := false, narrowed := true }
def FoldOnceUptoSaid : Prop := foldOnceUptoRow.holds Try.pinned (OpenSpec.upto foldOnceSpec)

/-- 'riddlelaw08.FoldTwice', WHERE WHAT IT READS IS OF BULK AT MOST 1048576: true; the input reads as it did. -/
def foldTwiceUptoRow : OpenClaim := { program := "ytkljagffccommaa", sum := "32011ecdb0736cd2ef0e4b7fb81235784a9f3183712a964ba71e791f5f08fff3", func := "riddle/riddlelaw08.FoldTwice", spec := "foldTwice", unfollowed := true, recurses := true, loops := true, apart := false, narrowed := true }
def FoldTwiceUptoSaid : Prop := foldTwiceUptoRow.holds Try.pinned (OpenSpec.upto foldTwiceSpec)

/-- 'riddlelaw08.FoldSteps', WHERE WHAT IT READS IS OF BULK AT MOST 1048576: true; the input reads as it did. -/
def foldStepsUptoRow : OpenClaim := { program := "ytkljagffccommaa", sum := "32011ecdb0736cd2ef0e4b7fb81235784a9f3183712a964ba71e791f5f08fff3", func := "riddle/riddlelaw08.FoldSteps", spec := "foldSteps", unfollowed := true, recurses := true, loops := true, apart := false, narrowed := true }
def FoldStepsUptoSaid : Prop := foldStepsUptoRow.holds Try.pinned (OpenSpec.upto foldStepsSpec)

end Rows
end Go.Proofs.Ytkljagffccommaa
