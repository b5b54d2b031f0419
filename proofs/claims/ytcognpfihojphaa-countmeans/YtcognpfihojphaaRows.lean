/-
  No cell of these rows narrows 'for every input' (looked for: loops, veiled, ifaces, maps, wideKeys, modest, calm, conditions, laid).
  DERIVED. THE GIVEN ROWS OF THIS SEAT. 4 by the template 'for every input the law returns true; each argument reads behind the call as it read before'; 0 by the template 'total and deterministic' (their statements: YtcognpfihojphaaTotals.lean).
  GIVEN WITH THE SEED: the statements are not yours to turn. If you find one false, say at which input.
  Laid BY PROGRAM, IN A SANDBOX (cutbox-rows.mjs): the forced cells as the released guide's own fill.sh prints them over the translation feb0d613be599c57… (all of the seat's roots in one cut). By AI agents, Wed Nov 11 2026. No macro, syntax, notation, axiom, sorry.
-/
import Derived.Test.YtcognpfihojphaaChecked
import GoSem.Claim
import GoSem.ClaimJoined
import GoSem.ClaimMapViews
import Derived.JoinedTies
import Derived.KernelRfl
namespace Go.Proofs.Ytcognpfihojphaa
/- THE CELL 'sum', in the pinned program and in every row, IS THE sha256 OF THE DUMP (.gsa) THAT YtcognpfihojphaaProg.lean LOADS. Nothing in Lean hashes anything: it is a label: what it is worth is what the hold of that sum in a sandbox is worth. -/
noncomputable def Try.pinned : Pinned := { name := "ytcognpfihojphaa", sum := "feb0d613be599c57a4b03951e79a4848236033ba3a6edd11463d66559883066c", checked := Try.checked }
namespace Rows
def none {H : Type} : Left H := { results := [], args := [] }

/-- 'riddlelaw17.CountPlays': WHATEVER THE INPUT: true; the input reads as it did. -/
def countPlaysSpec : ChangeSpec := { name := "countPlays", fn := fun _ => fun
  | [d1, d2] => { results := [.lit (.bool true)], args := [d1, d2] }
  | _ => none }
def countPlaysRow : OpenClaim := { program := "ytcognpfihojphaa", sum := "feb0d613be599c57a4b03951e79a4848236033ba3a6edd11463d66559883066c", func := "riddle/riddlelaw17.CountPlays", spec := "countPlays", unfollowed := true, recurses := true, apart := false }
def CountPlaysSaid : Prop := countPlaysRow.holds Try.pinned (OpenSpec.ofChange countPlaysSpec)

/-- ITS FALSE NEIGHBOUR: 'it returns false'. Refute it at one input. -/
def countPlaysWrong : ChangeSpec := { name := "countPlays", fn := fun _ => fun
  | [d1, d2] => { results := [.lit (.bool false)], args := [d1, d2] }
  | _ => none }
def CountPlaysWrongFalsely : Prop := countPlaysRow.holds Try.pinned (OpenSpec.ofChange countPlaysWrong)

/-- 'riddlelaw17.CountAlike': WHATEVER THE INPUT: true; the input reads as it did. -/
def countAlikeSpec : ChangeSpec := { name := "countAlike", fn := fun _ => fun
  | [d1, d2, d3] => { results := [.lit (.bool true)], args := [d1, d2, d3] }
  | _ => none }
def countAlikeRow : OpenClaim := { program := "ytcognpfihojphaa", sum := "feb0d613be599c57a4b03951e79a4848236033ba3a6edd11463d66559883066c", func := "riddle/riddlelaw17.CountAlike", spec := "countAlike", unfollowed := true, recurses := true, apart := false }
def CountAlikeSaid : Prop := countAlikeRow.holds Try.pinned (OpenSpec.ofChange countAlikeSpec)

/-- ITS FALSE NEIGHBOUR: 'it returns false'. Refute it at one input. -/
def countAlikeWrong : ChangeSpec := { name := "countAlike", fn := fun _ => fun
  | [d1, d2, d3] => { results := [.lit (.bool false)], args := [d1, d2, d3] }
  | _ => none }
def CountAlikeWrongFalsely : Prop := countAlikeRow.holds Try.pinned (OpenSpec.ofChange countAlikeWrong)

/-- 'riddlelaw17.CountMeans': WHATEVER THE INPUT: true; the input reads as it did. -/
def countMeansSpec : ChangeSpec := { name := "countMeans", fn := fun _ => fun
  | [d1, d2, d3] => { results := [.lit (.bool true)], args := [d1, d2, d3] }
  | _ => none }
def countMeansRow : OpenClaim := { program := "ytcognpfihojphaa", sum := "feb0d613be599c57a4b03951e79a4848236033ba3a6edd11463d66559883066c", func := "riddle/riddlelaw17.CountMeans", spec := "countMeans", unfollowed := true, recurses := true, apart := false }
def CountMeansSaid : Prop := countMeansRow.holds Try.pinned (OpenSpec.ofChange countMeansSpec)

/-- ITS FALSE NEIGHBOUR: 'it returns false'. Refute it at one input. -/
def countMeansWrong : ChangeSpec := { name := "countMeans", fn := fun _ => fun
  | [d1, d2, d3] => { results := [.lit (.bool false)], args := [d1, d2, d3] }
  | _ => none }
def CountMeansWrongFalsely : Prop := countMeansRow.holds Try.pinned (OpenSpec.ofChange countMeansWrong)

/-- 'riddlelaw17.CountBreaks': WHATEVER THE INPUT: true; the input reads as it did. -/
def countBreaksSpec : ChangeSpec := { name := "countBreaks", fn := fun _ => fun
  | [d1, d2, d3] => { results := [.lit (.bool true)], args := [d1, d2, d3] }
  | _ => none }
def countBreaksRow : OpenClaim := { program := "ytcognpfihojphaa", sum := "feb0d613be599c57a4b03951e79a4848236033ba3a6edd11463d66559883066c", func := "riddle/riddlelaw17.CountBreaks", spec := "countBreaks", unfollowed := true, recurses := true, apart := false }
def CountBreaksSaid : Prop := countBreaksRow.holds Try.pinned (OpenSpec.ofChange countBreaksSpec)

/-- ITS FALSE NEIGHBOUR: 'it returns false'. Refute it at one input. -/
def countBreaksWrong : ChangeSpec := { name := "countBreaks", fn := fun _ => fun
  | [d1, d2, d3] => { results := [.lit (.bool false)], args := [d1, d2, d3] }
  | _ => none }
def CountBreaksWrongFalsely : Prop := countBreaksRow.holds Try.pinned (OpenSpec.ofChange countBreaksWrong)

/- THE SECOND FORM. 'bulk': how many values and letters a reading holds, each counted each time it is reached (what is shared counts as often as it is met; a slice's spare places count too). A statement '..UptoSaid' is the law's where the arguments, and the package variables that the reading takes, are together of bulk at most 1048576: NARROWER than '..Said'. Prove '..Said' where nothing that the law and all that it calls make is longer than what came in: it says more and counts as full. Else prove '..UptoSaid'. A law counts once. -/
mutual
def uptoBulk {H : Type} : DataW H → Nat
  | .lit (.string bytes) => bytes.length + 1
  | .lit _ => 1
  | .nil => 1
  | .ptr d => uptoBulk d + 1
  | .slice elems spare => uptoBulkAll elems + uptoBulkAll spare + 1
  | .agg parts => uptoBulkAll parts + 1
  | .iface _ d => uptoBulk d + 1
  | .map entries => uptoBulkEntries entries + 1
  | .held _ => 1
def uptoBulkAll {H : Type} : List (DataW H) → Nat
  | [] => 0
  | d :: r => uptoBulk d + uptoBulkAll r
def uptoBulkEntries {H : Type} : List (Lit × DataW H) → Nat
  | [] => 0
  | x :: r => uptoBulkEntry x + uptoBulkEntries r
def uptoBulkEntry {H : Type} : Lit × DataW H → Nat
  | (.string bytes, d) => bytes.length + uptoBulk d + 1
  | (_, d) => uptoBulk d + 1
 end
def uptoSmall : (H : Type) → List (DataW H) → Bool := fun _ ds => decide (uptoBulkAll ds ≤ 1048576)
def OpenSpec.upto (s : _root_.Go.ChangeSpec) : _root_.Go.OpenSpec := { _root_.Go.OpenSpec.ofChange s with cond := some uptoSmall }

/-- 'riddlelaw17.CountPlays', WHERE WHAT IT READS IS OF BULK AT MOST 1048576: true; the input reads as it did. -/
def countPlaysUptoRow : OpenClaim := { program := "ytcognpfihojphaa", sum := "feb0d613be599c57a4b03951e79a4848236033ba3a6edd11463d66559883066c", func := "riddle/riddlelaw17.CountPlays", spec := "countPlays", unfollowed := true, recurses := true, apart := false, narrowed := true }
def CountPlaysUptoSaid : Prop := countPlaysUptoRow.holds Try.pinned (OpenSpec.upto countPlaysSpec)

/-- 'riddlelaw17.CountAlike', WHERE WHAT IT READS IS OF BULK AT MOST 1048576: true; the input reads as it did. -/
def countAlikeUptoRow : OpenClaim := { program := "ytcognpfihojphaa", sum := "feb0d613be599c57a4b03951e79a4848236033ba3a6edd11463d66559883066c", func := "riddle/riddlelaw17.CountAlike", spec := "countAlike", unfollowed := true, recurses := true, apart := false, narrowed := true }
def CountAlikeUptoSaid : Prop := countAlikeUptoRow.holds Try.pinned (OpenSpec.upto countAlikeSpec)

/-- 'riddlelaw17.CountMeans', WHERE WHAT IT READS IS OF BULK AT MOST 1048576: true; the input reads as it did. -/
def countMeansUptoRow : OpenClaim := { program := "ytcognpfihojphaa", sum := "feb0d613be599c57a4b03951e79a4848236033ba3a6edd11463d66559883066c", func := "riddle/riddlelaw17.CountMeans", spec := "countMeans", unfollowed := true, recurses := true, apart := false, narrowed := true }
def CountMeansUptoSaid : Prop := countMeansUptoRow.holds Try.pinned (OpenSpec.upto countMeansSpec)

/-- 'riddlelaw17.CountBreaks', WHERE WHAT IT READS IS OF BULK AT MOST 1048576: true; the input reads as it did. -/
def countBreaksUptoRow : OpenClaim := { program := "ytcognpfihojphaa", sum := "feb0d613be599c57a4b03951e79a4848236033ba3a6edd11463d66559883066c", func := "riddle/riddlelaw17.CountBreaks", spec := "countBreaks", unfollowed := true, recurses := true, apart := false, narrowed := true }
def CountBreaksUptoSaid : Prop := countBreaksUptoRow.holds Try.pinned (OpenSpec.upto countBreaksSpec)

end Rows
end Go.Proofs.Ytcognpfihojphaa
