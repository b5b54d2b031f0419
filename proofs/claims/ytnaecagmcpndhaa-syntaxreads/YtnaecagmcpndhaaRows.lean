/-
  NARROWER THAN 'FOR EVERY INPUT', by the rows' own cells (each row's printed sentence says how): WidthTells: loops · WidthSums: loops · WidthTimes: loops · WidthOpen: loops.
  DERIVED. THE GIVEN ROWS OF THIS SEAT. 10 by the template 'for every input the law returns true; each argument reads behind the call as it read before'; 0 by the template 'total and deterministic' (their statements: YtnaecagmcpndhaaTotals.lean).
  GIVEN WITH THE SEED: the statements are not yours to turn. If you find one false, say at which input.
  Laid BY PROGRAM, IN A SANDBOX (cutbox-rows.mjs): the forced cells as the released guide's own fill.sh prints them over the translation b462927c6b538657… (all of the seat's roots in one cut). By AI agents, Wed Nov 11 2026. No macro, syntax, notation, axiom, sorry.
-/
import Derived.Test.YtnaecagmcpndhaaChecked
import GoSem.Claim
import GoSem.ClaimJoined
import GoSem.ClaimMapViews
import Derived.JoinedTies
import Derived.KernelRfl
namespace Go.Proofs.Ytnaecagmcpndhaa
/- THE CELL 'sum', in the pinned program and in every row, IS THE sha256 OF THE DUMP (.gsa) THAT YtnaecagmcpndhaaProg.lean LOADS. Nothing in Lean hashes anything: it is a label: what it is worth is what the hold of that sum in a sandbox is worth. -/
noncomputable def Try.pinned : Pinned := { name := "ytnaecagmcpndhaa", sum := "b462927c6b538657507fadb4342354690d9f1e8a8902bdda3d26c2fb4be9cf0b", checked := Try.checked }
namespace Rows
def none {H : Type} : Left H := { results := [], args := [] }

/-- 'riddlelaw05.SyntaxNames': WHATEVER THE INPUT: true; the input reads as it did. -/
def syntaxNamesSpec : ChangeSpec := { name := "syntaxNames", fn := fun _ => fun
  | [] => { results := [.lit (.bool true)], args := [] }
  | _ => none }
def syntaxNamesRow : OpenClaim := { program := "ytnaecagmcpndhaa", sum := "b462927c6b538657507fadb4342354690d9f1e8a8902bdda3d26c2fb4be9cf0b", func := "riddle/riddlelaw05.SyntaxNames", spec := "syntaxNames", unfollowed := true, recurses := true, apart := false }
def SyntaxNamesSaid : Prop := syntaxNamesRow.holds Try.pinned (OpenSpec.ofChange syntaxNamesSpec)

/-- ITS FALSE NEIGHBOUR: 'it returns false'. Refute it at one input. -/
def syntaxNamesWrong : ChangeSpec := { name := "syntaxNames", fn := fun _ => fun
  | [] => { results := [.lit (.bool false)], args := [] }
  | _ => none }
def SyntaxNamesWrongFalsely : Prop := syntaxNamesRow.holds Try.pinned (OpenSpec.ofChange syntaxNamesWrong)

/-- 'riddlelaw05.SyntaxReads': WHATEVER THE INPUT: true; the input reads as it did. -/
def syntaxReadsSpec : ChangeSpec := { name := "syntaxReads", fn := fun _ => fun
  | [d] => { results := [.lit (.bool true)], args := [d] }
  | _ => none }
def syntaxReadsRow : OpenClaim := { program := "ytnaecagmcpndhaa", sum := "b462927c6b538657507fadb4342354690d9f1e8a8902bdda3d26c2fb4be9cf0b", func := "riddle/riddlelaw05.SyntaxReads", spec := "syntaxReads", unfollowed := true, recurses := true, apart := false }
def SyntaxReadsSaid : Prop := syntaxReadsRow.holds Try.pinned (OpenSpec.ofChange syntaxReadsSpec)

/-- ITS FALSE NEIGHBOUR: 'it returns false'. Refute it at one input. -/
def syntaxReadsWrong : ChangeSpec := { name := "syntaxReads", fn := fun _ => fun
  | [d] => { results := [.lit (.bool false)], args := [d] }
  | _ => none }
def SyntaxReadsWrongFalsely : Prop := syntaxReadsRow.holds Try.pinned (OpenSpec.ofChange syntaxReadsWrong)

/-- 'riddlelaw05.SyntaxPrefix': WHATEVER THE INPUT: true; the input reads as it did. -/
def syntaxPrefixSpec : ChangeSpec := { name := "syntaxPrefix", fn := fun _ => fun
  | [d1, d2] => { results := [.lit (.bool true)], args := [d1, d2] }
  | _ => none }
def syntaxPrefixRow : OpenClaim := { program := "ytnaecagmcpndhaa", sum := "b462927c6b538657507fadb4342354690d9f1e8a8902bdda3d26c2fb4be9cf0b", func := "riddle/riddlelaw05.SyntaxPrefix", spec := "syntaxPrefix", unfollowed := true, recurses := true, apart := false }
def SyntaxPrefixSaid : Prop := syntaxPrefixRow.holds Try.pinned (OpenSpec.ofChange syntaxPrefixSpec)

/-- ITS FALSE NEIGHBOUR: 'it returns false'. Refute it at one input. -/
def syntaxPrefixWrong : ChangeSpec := { name := "syntaxPrefix", fn := fun _ => fun
  | [d1, d2] => { results := [.lit (.bool false)], args := [d1, d2] }
  | _ => none }
def SyntaxPrefixWrongFalsely : Prop := syntaxPrefixRow.holds Try.pinned (OpenSpec.ofChange syntaxPrefixWrong)

/-- 'riddlelaw05.SyntaxGroups': WHATEVER THE INPUT: true; the input reads as it did. -/
def syntaxGroupsSpec : ChangeSpec := { name := "syntaxGroups", fn := fun _ => fun
  | [d1, d2] => { results := [.lit (.bool true)], args := [d1, d2] }
  | _ => none }
def syntaxGroupsRow : OpenClaim := { program := "ytnaecagmcpndhaa", sum := "b462927c6b538657507fadb4342354690d9f1e8a8902bdda3d26c2fb4be9cf0b", func := "riddle/riddlelaw05.SyntaxGroups", spec := "syntaxGroups", unfollowed := true, recurses := true, apart := false }
def SyntaxGroupsSaid : Prop := syntaxGroupsRow.holds Try.pinned (OpenSpec.ofChange syntaxGroupsSpec)

/-- ITS FALSE NEIGHBOUR: 'it returns false'. Refute it at one input. -/
def syntaxGroupsWrong : ChangeSpec := { name := "syntaxGroups", fn := fun _ => fun
  | [d1, d2] => { results := [.lit (.bool false)], args := [d1, d2] }
  | _ => none }
def SyntaxGroupsWrongFalsely : Prop := syntaxGroupsRow.holds Try.pinned (OpenSpec.ofChange syntaxGroupsWrong)

/-- 'riddlelaw05.SyntaxByte': WHATEVER THE INPUT: true; the input reads as it did. -/
def syntaxByteSpec : ChangeSpec := { name := "syntaxByte", fn := fun _ => fun
  | [d1, d2] => { results := [.lit (.bool true)], args := [d1, d2] }
  | _ => none }
def syntaxByteRow : OpenClaim := { program := "ytnaecagmcpndhaa", sum := "b462927c6b538657507fadb4342354690d9f1e8a8902bdda3d26c2fb4be9cf0b", func := "riddle/riddlelaw05.SyntaxByte", spec := "syntaxByte", unfollowed := true, recurses := true, apart := false }
def SyntaxByteSaid : Prop := syntaxByteRow.holds Try.pinned (OpenSpec.ofChange syntaxByteSpec)

/-- ITS FALSE NEIGHBOUR: 'it returns false'. Refute it at one input. -/
def syntaxByteWrong : ChangeSpec := { name := "syntaxByte", fn := fun _ => fun
  | [d1, d2] => { results := [.lit (.bool false)], args := [d1, d2] }
  | _ => none }
def SyntaxByteWrongFalsely : Prop := syntaxByteRow.holds Try.pinned (OpenSpec.ofChange syntaxByteWrong)

/-- 'riddlelaw05.SyntaxRow': WHATEVER THE INPUT: true; the input reads as it did. -/
def syntaxRowSpec : ChangeSpec := { name := "syntaxRow", fn := fun _ => fun
  | [d] => { results := [.lit (.bool true)], args := [d] }
  | _ => none }
def syntaxRowRow : OpenClaim := { program := "ytnaecagmcpndhaa", sum := "b462927c6b538657507fadb4342354690d9f1e8a8902bdda3d26c2fb4be9cf0b", func := "riddle/riddlelaw05.SyntaxRow", spec := "syntaxRow", unfollowed := true, recurses := true, apart := false }
def SyntaxRowSaid : Prop := syntaxRowRow.holds Try.pinned (OpenSpec.ofChange syntaxRowSpec)

/-- ITS FALSE NEIGHBOUR: 'it returns false'. Refute it at one input. -/
def syntaxRowWrong : ChangeSpec := { name := "syntaxRow", fn := fun _ => fun
  | [d] => { results := [.lit (.bool false)], args := [d] }
  | _ => none }
def SyntaxRowWrongFalsely : Prop := syntaxRowRow.holds Try.pinned (OpenSpec.ofChange syntaxRowWrong)

/-- 'riddlelaw07.WidthTells': WHATEVER THE INPUT: true; the input reads as it did. -/
def widthTellsSpec : ChangeSpec := { name := "widthTells", fn := fun _ => fun
  | [d] => { results := [.lit (.bool true)], args := [d] }
  | _ => none }
def widthTellsRow : OpenClaim := { program := "ytnaecagmcpndhaa", sum := "b462927c6b538657507fadb4342354690d9f1e8a8902bdda3d26c2fb4be9cf0b", func := "riddle/riddlelaw07.WidthTells", spec := "widthTells", unfollowed := true, recurses := true, loops := true, apart := false }
def WidthTellsSaid : Prop := widthTellsRow.holds Try.pinned (OpenSpec.ofChange widthTellsSpec)

/-- ITS FALSE NEIGHBOUR: 'it returns false'. Refute it at one input. -/
def widthTellsWrong : ChangeSpec := { name := "widthTells", fn := fun _ => fun
  | [d] => { results := [.lit (.bool false)], args := [d] }
  | _ => none }
def WidthTellsWrongFalsely : Prop := widthTellsRow.holds Try.pinned (OpenSpec.ofChange widthTellsWrong)

/-- 'riddlelaw07.WidthSums': WHATEVER THE INPUT: true; the input reads as it did. -/
def widthSumsSpec : ChangeSpec := { name := "widthSums", fn := fun _ => fun
  | [d1, d2] => { results := [.lit (.bool true)], args := [d1, d2] }
  | _ => none }
def widthSumsRow : OpenClaim := { program := "ytnaecagmcpndhaa", sum := "b462927c6b538657507fadb4342354690d9f1e8a8902bdda3d26c2fb4be9cf0b", func := "riddle/riddlelaw07.WidthSums", spec := "widthSums", unfollowed := true, recurses := true, loops := true, apart := false }
def WidthSumsSaid : Prop := widthSumsRow.holds Try.pinned (OpenSpec.ofChange widthSumsSpec)

/-- ITS FALSE NEIGHBOUR: 'it returns false'. Refute it at one input. -/
def widthSumsWrong : ChangeSpec := { name := "widthSums", fn := fun _ => fun
  | [d1, d2] => { results := [.lit (.bool false)], args := [d1, d2] }
  | _ => none }
def WidthSumsWrongFalsely : Prop := widthSumsRow.holds Try.pinned (OpenSpec.ofChange widthSumsWrong)

/-- 'riddlelaw07.WidthTimes': WHATEVER THE INPUT: true; the input reads as it did. -/
def widthTimesSpec : ChangeSpec := { name := "widthTimes", fn := fun _ => fun
  | [d1, d2] => { results := [.lit (.bool true)], args := [d1, d2] }
  | _ => none }
def widthTimesRow : OpenClaim := { program := "ytnaecagmcpndhaa", sum := "b462927c6b538657507fadb4342354690d9f1e8a8902bdda3d26c2fb4be9cf0b", func := "riddle/riddlelaw07.WidthTimes", spec := "widthTimes", unfollowed := true, recurses := true, loops := true, apart := false }
def WidthTimesSaid : Prop := widthTimesRow.holds Try.pinned (OpenSpec.ofChange widthTimesSpec)

/-- ITS FALSE NEIGHBOUR: 'it returns false'. Refute it at one input. -/
def widthTimesWrong : ChangeSpec := { name := "widthTimes", fn := fun _ => fun
  | [d1, d2] => { results := [.lit (.bool false)], args := [d1, d2] }
  | _ => none }
def WidthTimesWrongFalsely : Prop := widthTimesRow.holds Try.pinned (OpenSpec.ofChange widthTimesWrong)

/-- 'riddlelaw07.WidthOpen': WHATEVER THE INPUT: true; the input reads as it did. -/
def widthOpenSpec : ChangeSpec := { name := "widthOpen", fn := fun _ => fun
  | [d] => { results := [.lit (.bool true)], args := [d] }
  | _ => none }
def widthOpenRow : OpenClaim := { program := "ytnaecagmcpndhaa", sum := "b462927c6b538657507fadb4342354690d9f1e8a8902bdda3d26c2fb4be9cf0b", func := "riddle/riddlelaw07.WidthOpen", spec := "widthOpen", unfollowed := true, recurses := true, loops := true, apart := false }
def WidthOpenSaid : Prop := widthOpenRow.holds Try.pinned (OpenSpec.ofChange widthOpenSpec)

/-- ITS FALSE NEIGHBOUR: 'it returns false'. Refute it at one input. -/
def widthOpenWrong : ChangeSpec := { name := "widthOpen", fn := fun _ => fun
  | [d] => { results := [.lit (.bool false)], args := [d] }
  | _ => none }
def WidthOpenWrongFalsely : Prop := widthOpenRow.holds Try.pinned (OpenSpec.ofChange widthOpenWrong)

/- THE SECOND FORM. 'bulk': how many values and letters a reading holds, each counted each time it is reached (what is shared counts as often as it is met; a slice's spare places count too). A statement '..UptoSaid' is the law's where the arguments, and the package variables that the reading takes, are together of bulk at most 1048576: NARROWER than '..Said'. Prove '..Said' where nothing that the law and all that it calls make is longer than what came in: it says more and counts as full. Else prove '..UptoSaid'. A law counts once. -/
mutual
def uptoBulk {H : Type} : DataW H → Nat
  | .lit (.string bytes) => bytes.length + 1
  | .lit _ => 1
  | .nil => 1
  | .ptr d => uptoBulk d + 1
  | .slice elems spare => uptoBulkAll elems + uptoBulkAll spare + 1
  | .agg parts => uptoBulkAll parts + 1
  | .iface _ d => uptoBulk d + 1
  | .map entries => uptoBulkEntries entries + 1
  | .held _ => 1
def uptoBulkAll {H : Type} : List (DataW H) → Nat
  | [] => 0
  | d :: r => uptoBulk d + uptoBulkAll r
def uptoBulkEntries {H : Type} : List (Lit × DataW H) → Nat
  | [] => 0
  | x :: r => uptoBulkEntry x + uptoBulkEntries r
def uptoBulkEntry {H : Type} : Lit × DataW H → Nat
  | (.string bytes, d) => bytes.length + uptoBulk d + 1
  | (_, d) => uptoBulk d + 1
 end
def uptoSmall : (H : Type) → List (DataW H) → Bool := fun _ ds => decide (uptoBulkAll ds ≤ 1048576)
def OpenSpec.upto (s : _root_.Go.ChangeSpec) : _root_.Go.OpenSpec := { _root_.Go.OpenSpec.ofChange s with cond := some uptoSmall }

/-- 'riddlelaw05.SyntaxNames', WHERE WHAT IT READS IS OF BULK AT MOST 1048576: true; the input reads as it did. -/
def syntaxNamesUptoRow : OpenClaim := { program := "ytnaecagmcpndhaa", sum := "b462927c6b538657507fadb4342354690d9f1e8a8902bdda3d26c2fb4be9cf0b", func := "riddle/riddlelaw05.SyntaxNames", spec := "syntaxNames", unfollowed := true, recurses := true, apart := false, narrowed := true }
def SyntaxNamesUptoSaid : Prop := syntaxNamesUptoRow.holds Try.pinned (OpenSpec.upto syntaxNamesSpec)

/-- 'riddlelaw05.SyntaxReads', WHERE WHAT IT READS IS OF BULK AT MOST 1048576: true; the input reads as it did. -/
def syntaxReadsUptoRow : OpenClaim := { program := "ytnaecagmcpndhaa", sum := "b462927c6b538657507fadb4342354690d9f1e8a8902bdda3d26c2fb4be9cf0b", func := "riddle/riddlelaw05.SyntaxReads", spec := "syntaxReads", unfollowed := true, recurses := true, apart := false, narrowed := true }
def SyntaxReadsUptoSaid : Prop := syntaxReadsUptoRow.holds Try.pinned (OpenSpec.upto syntaxReadsSpec)

/-- 'riddlelaw05.SyntaxPrefix', WHERE WHAT IT READS IS OF BULK AT MOST 1048576: true; the input reads as it did. -/
def syntaxPrefixUptoRow : OpenClaim := { program := "ytnaecagmcpndhaa", sum := "b462927c6b538657507fadb4342354690d9f1e8a8902bdda3d26c2fb4be9cf0b", func := "riddle/riddlelaw05.SyntaxPrefix", spec := "syntaxPrefix", unfollowed := true, recurses := true, apart := false, narrowed := true }
def SyntaxPrefixUptoSaid : Prop := syntaxPrefixUptoRow.holds Try.pinned (OpenSpec.upto syntaxPrefixSpec)

/-- 'riddlelaw05.SyntaxGroups', WHERE WHAT IT READS IS OF BULK AT MOST 1048576: true; the input reads as it did. -/
def syntaxGroupsUptoRow : OpenClaim := { program := "ytnaecagmcpndhaa", sum := "b462927c6b538657507fadb4342354690d9f1e8a8902bdda3d26c2fb4be9cf0b", func := "riddle/riddlelaw05.SyntaxGroups", spec := "syntaxGroups", unfollowed := true, recurses := true, apart := false, narrowed := true }
def SyntaxGroupsUptoSaid : Prop := syntaxGroupsUptoRow.holds Try.pinned (OpenSpec.upto syntaxGroupsSpec)

/-- 'riddlelaw05.SyntaxByte', WHERE WHAT IT READS IS OF BULK AT MOST 1048576: true; the input reads as it did. -/
def syntaxByteUptoRow : OpenClaim := { program := "ytnaecagmcpndhaa", sum := "b462927c6b538657507fadb4342354690d9f1e8a8902bdda3d26c2fb4be9cf0b", func := "riddle/riddlelaw05.SyntaxByte", spec := "syntaxByte", unfollowed := true, recurses := true, apart := false, narrowed := true }
def SyntaxByteUptoSaid : Prop := syntaxByteUptoRow.holds Try.pinned (OpenSpec.upto syntaxByteSpec)

/-- 'riddlelaw05.SyntaxRow', WHERE WHAT IT READS IS OF BULK AT MOST 1048576: true; the input reads as it did. -/
def syntaxRowUptoRow : OpenClaim := { program := "ytnaecagmcpndhaa", sum := "b462927c6b538657507fadb4342354690d9f1e8a8902bdda3d26c2fb4be9cf0b", func := "riddle/riddlelaw05.SyntaxRow", spec := "syntaxRow", unfollowed := true, recurses := true, apart := false, narrowed := true }
def SyntaxRowUptoSaid : Prop := syntaxRowUptoRow.holds Try.pinned (OpenSpec.upto syntaxRowSpec)

/-- 'riddlelaw07.WidthTells', WHERE WHAT IT READS IS OF BULK AT MOST 1048576: true; the input reads as it did. -/
def widthTellsUptoRow : OpenClaim := { program := "ytnaecagmcpndhaa", sum := "b462927c6b538657507fadb4342354690d9f1e8a8902bdda3d26c2fb4be9cf0b", func := "riddle/riddlelaw07.WidthTells", spec := "widthTells", unfollowed := true, recurses := true, loops := true, apart := false, narrowed := true }
def WidthTellsUptoSaid : Prop := widthTellsUptoRow.holds Try.pinned (OpenSpec.upto widthTellsSpec)

/-- 'riddlelaw07.WidthSums', WHERE WHAT IT READS IS OF BULK AT MOST 1048576: true; the input reads as it did. -/
def widthSumsUptoRow : OpenClaim := { program := "ytnaecagmcpndhaa", sum := "b462927c6b538657507fadb4342354690d9f1e8a8902bdda3d26c2fb4be9cf0b", func := "riddle/riddlelaw07.WidthSums", spec := "widthSums", unfollowed := true, recurses := true, loops := true, apart := false, narrowed := true }
def WidthSumsUptoSaid : Prop := widthSumsUptoRow.holds Try.pinned (OpenSpec.upto widthSumsSpec)

/-- 'riddlelaw07.WidthTimes', WHERE WHAT IT READS IS OF BULK AT MOST 1048576: true; the input reads as it did. -/
def widthTimesUptoRow : OpenClaim := { program := "ytnaecagmcpndhaa", sum := "b462927c6b538657507fadb4342354690d9f1e8a8902bdda3d26c2fb4be9cf0b", func := "riddle/riddlelaw07.WidthTimes", spec := "widthTimes", unfollowed := true, recurses := true, loops := true, apart := false, narrowed := true }
def WidthTimesUptoSaid : Prop := widthTimesUptoRow.holds Try.pinned (OpenSpec.upto widthTimesSpec)

/-- 'riddlelaw07.WidthOpen', WHERE WHAT IT READS IS OF BULK AT MOST 1048576: true; the input reads as it did. -/
def widthOpenUptoRow : OpenClaim := { program := "ytnaecagmcpndhaa", sum := "b462927c6b538657507fadb4342354690d9f1e8a8902bdda3d26c2fb4be9cf0b", func := "riddle/riddlelaw07.WidthOpen", spec := "widthOpen", unfollowed := true, recurses := true, loops := true, apart := false, narrowed := true }
def WidthOpenUptoSaid : Prop := widthOpenUptoRow.holds Try.pinned (OpenSpec.upto widthOpenSpec)

end Rows
end Go.Proofs.Ytnaecagmcpndhaa
