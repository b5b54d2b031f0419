/-
  DERIVED. GIVEN WITH THE SEED: THE CARDS: each row of YtegehcdjnnajcaaDoorRows.lean that lists a variable, with what it lists TIED to the program's text (the seventh form; the later family's looks); each row that meets fmt, with fmt's text TOLD by the authors' own Lean function (tested against real Go, not proved from fmt's source: count such statements apart). THE CARD IS WHAT COUNTS. Prove the row's statement (the work); the ties are given (YtegehcdjnnajcaaDoorTie.lean); close each card by the builder's one call (the guide's Derived/Test/ToyasCard.lean, 'card_holds'). Laid BY PROGRAM, IN A SANDBOX (cutbox-door.mjs). By AI agents, Wed Nov 11 2026. No macro, syntax, notation, axiom, sorry.
-/
import Derived.Test.YtegehcdjnnajcaaDoorRows
import GoSem.ClaimSeven
namespace Go.Proofs.YtegehcdjnnajcaaDoor
namespace Rows

/-- THE TIED CARD OF 'riddlelaw06.ShowWrites'. -/
def showWritesCard : Claim7 := { stood := { row := showWritesRow, standIns := [], harness := (true, "82dc88fdb718d0a7f7b90c1f9015fa5033600f59591f03417c7bde3a91c69dfb"), looks := true }, kinds := [], alts := [], laidByText := true, laidKinds := [.data, .data, .data], laidTests := true, laidLooks := .later }
def ShowWritesCardSaid : Prop := Claim7.holds Tryd.pinned (.plain (OpenSpec.ofChange showWritesSpec)) showWritesCard

/-- THE TIED CARD OF 'riddlelaw06.ShowThere'. -/
def showThereCard : Claim7 := { stood := { row := showThereRow, standIns := [], harness := (true, "82dc88fdb718d0a7f7b90c1f9015fa5033600f59591f03417c7bde3a91c69dfb"), looks := true }, kinds := [], alts := [], laidByText := true, laidKinds := [.data, .data, .data], laidTests := true, laidLooks := .later }
def ShowThereCardSaid : Prop := Claim7.holds Tryd.pinned (.plain (OpenSpec.ofChange showThereSpec)) showThereCard

/-- THE TIED CARD OF 'riddlelaw06.ShowBack'. -/
def showBackCard : Claim7 := { stood := { row := showBackRow, standIns := [], harness := (true, "82dc88fdb718d0a7f7b90c1f9015fa5033600f59591f03417c7bde3a91c69dfb"), looks := true }, kinds := [], alts := [], laidByText := true, laidKinds := [.data, .data, .data], laidTests := true, laidLooks := .later }
def ShowBackCardSaid : Prop := Claim7.holds Tryd.pinned (.plain (OpenSpec.ofChange showBackSpec)) showBackCard

/-- THE TIED CARD OF 'riddlelaw06.ShowSets'. -/
def showSetsCard : Claim7 := { stood := { row := showSetsRow, standIns := [], harness := (true, "82dc88fdb718d0a7f7b90c1f9015fa5033600f59591f03417c7bde3a91c69dfb"), looks := true }, kinds := [], alts := [], laidByText := true, laidKinds := [.data, .data, .data], laidTests := true, laidLooks := .later }
def ShowSetsCardSaid : Prop := Claim7.holds Tryd.pinned (.plain (OpenSpec.ofChange showSetsSpec)) showSetsCard

/-- THE SECOND FORM's CARD OF 'riddlelaw06.ShowWrites'. -/
def showWritesUptoCard : Claim7 := { stood := { row := showWritesUptoRow, standIns := [], harness := (true, "82dc88fdb718d0a7f7b90c1f9015fa5033600f59591f03417c7bde3a91c69dfb"), looks := true }, kinds := [], alts := [], laidByText := true, laidKinds := [.data, .data, .data], laidTests := true, laidLooks := .later }
def ShowWritesUptoCardSaid : Prop := Claim7.holds Tryd.pinned (.plain (OpenSpec.upto showWritesSpec)) showWritesUptoCard

/-- THE SECOND FORM's CARD OF 'riddlelaw06.ShowThere'. -/
def showThereUptoCard : Claim7 := { stood := { row := showThereUptoRow, standIns := [], harness := (true, "82dc88fdb718d0a7f7b90c1f9015fa5033600f59591f03417c7bde3a91c69dfb"), looks := true }, kinds := [], alts := [], laidByText := true, laidKinds := [.data, .data, .data], laidTests := true, laidLooks := .later }
def ShowThereUptoCardSaid : Prop := Claim7.holds Tryd.pinned (.plain (OpenSpec.upto showThereSpec)) showThereUptoCard

/-- THE SECOND FORM's CARD OF 'riddlelaw06.ShowBack'. -/
def showBackUptoCard : Claim7 := { stood := { row := showBackUptoRow, standIns := [], harness := (true, "82dc88fdb718d0a7f7b90c1f9015fa5033600f59591f03417c7bde3a91c69dfb"), looks := true }, kinds := [], alts := [], laidByText := true, laidKinds := [.data, .data, .data], laidTests := true, laidLooks := .later }
def ShowBackUptoCardSaid : Prop := Claim7.holds Tryd.pinned (.plain (OpenSpec.upto showBackSpec)) showBackUptoCard

/-- THE SECOND FORM's CARD OF 'riddlelaw06.ShowSets'. -/
def showSetsUptoCard : Claim7 := { stood := { row := showSetsUptoRow, standIns := [], harness := (true, "82dc88fdb718d0a7f7b90c1f9015fa5033600f59591f03417c7bde3a91c69dfb"), looks := true }, kinds := [], alts := [], laidByText := true, laidKinds := [.data, .data, .data], laidTests := true, laidLooks := .later }
def ShowSetsUptoCardSaid : Prop := Claim7.holds Tryd.pinned (.plain (OpenSpec.upto showSetsSpec)) showSetsUptoCard
end Rows
end Go.Proofs.YtegehcdjnnajcaaDoor
