/-
  DERIVED. GIVEN WITH THE SEED: THE CARDS: each row of YtdobeghbkonimaaGreatDoorRows.lean that lists a variable, with what it lists TIED to the program's text (the seventh form; the later family's looks); each row that meets fmt, with fmt's text TOLD by the authors' own Lean function (tested against real Go, not proved from fmt's source: count such statements apart). THE CARD IS WHAT COUNTS. Prove the row's statement (the work); the ties are given (YtdobeghbkonimaaGreatDoorTie.lean); close each card by the builder's one call (the guide's Derived/Test/ToyasCard.lean, 'card_holds'). Laid BY PROGRAM, IN A SANDBOX (cutbox-door.mjs). By AI agents, Wed Nov 11 2026. No macro, syntax, notation, axiom, sorry.
-/
import Derived.Test.YtdobeghbkonimaaGreatDoorRows
import GoSem.ClaimSeven
namespace Go.Proofs.YtdobeghbkonimaaGreatDoor
namespace Rows

/-- THE TIED CARD OF 'thimblelaw13.FoldTells'. -/
def foldTellsCard : Claim7 := { stood := { row := foldTellsRow, standIns := [], harness := (true, "c2705ba954201f7ebee06e7357a6b26698a0f197613a4aac12b632d29f71afef"), looks := true }, kinds := [], alts := [], laidByText := true, laidKinds := [.data], laidTests := true, laidLooks := .later }
def FoldTellsCardSaid : Prop := Claim7.holds Tryz.pinned (.plain (OpenSpec.ofChange foldTellsSpec)) foldTellsCard

/-- THE TIED CARD OF 'thimblelaw13.FoldConverges'. -/
def foldConvergesCard : Claim7 := { stood := { row := foldConvergesRow, standIns := [], harness := (true, "c2705ba954201f7ebee06e7357a6b26698a0f197613a4aac12b632d29f71afef"), looks := true }, kinds := [], alts := [], laidByText := true, laidKinds := [.data], laidTests := true, laidLooks := .later }
def FoldConvergesCardSaid : Prop := Claim7.holds Tryz.pinned (.plain (OpenSpec.ofChange foldConvergesSpec)) foldConvergesCard

/-- THE TIED CARD OF 'thimblelaw13.FoldSplits'. -/
def foldSplitsCard : Claim7 := { stood := { row := foldSplitsRow, standIns := [], harness := (true, "c2705ba954201f7ebee06e7357a6b26698a0f197613a4aac12b632d29f71afef"), looks := true }, kinds := [], alts := [], laidByText := true, laidKinds := [.data], laidTests := true, laidLooks := .later }
def FoldSplitsCardSaid : Prop := Claim7.holds Tryz.pinned (.plain (OpenSpec.ofChange foldSplitsSpec)) foldSplitsCard

/-- THE TIED CARD OF 'thimblelaw13.FoldNext'. -/
def foldNextCard : Claim7 := { stood := { row := foldNextRow, standIns := [], harness := (true, "c2705ba954201f7ebee06e7357a6b26698a0f197613a4aac12b632d29f71afef"), looks := true }, kinds := [], alts := [], laidByText := true, laidKinds := [.data], laidTests := true, laidLooks := .later }
def FoldNextCardSaid : Prop := Claim7.holds Tryz.pinned (.plain (OpenSpec.ofChange foldNextSpec)) foldNextCard

/-- THE TIED CARD OF 'thimblelaw13.FoldSorted'. -/
def foldSortedCard : Claim7 := { stood := { row := foldSortedRow, standIns := [], harness := (true, "c2705ba954201f7ebee06e7357a6b26698a0f197613a4aac12b632d29f71afef"), looks := true }, kinds := [], alts := [], laidByText := true, laidKinds := [.data], laidTests := true, laidLooks := .later }
def FoldSortedCardSaid : Prop := Claim7.holds Tryz.pinned (.plain (OpenSpec.ofChange foldSortedSpec)) foldSortedCard

/-- THE TIED CARD OF 'thimblelaw13.FoldIdle'. -/
def foldIdleCard : Claim7 := { stood := { row := foldIdleRow, standIns := [], harness := (true, "c2705ba954201f7ebee06e7357a6b26698a0f197613a4aac12b632d29f71afef"), looks := true }, kinds := [], alts := [], laidByText := true, laidKinds := [.data], laidTests := true, laidLooks := .later }
def FoldIdleCardSaid : Prop := Claim7.holds Tryz.pinned (.plain (OpenSpec.ofChange foldIdleSpec)) foldIdleCard

/-- THE TIED CARD OF 'thimblelaw13.FoldLater'. -/
def foldLaterCard : Claim7 := { stood := { row := foldLaterRow, standIns := [], harness := (true, "c2705ba954201f7ebee06e7357a6b26698a0f197613a4aac12b632d29f71afef"), looks := true }, kinds := [], alts := [], laidByText := true, laidKinds := [.data], laidTests := true, laidLooks := .later }
def FoldLaterCardSaid : Prop := Claim7.holds Tryz.pinned (.plain (OpenSpec.ofChange foldLaterSpec)) foldLaterCard

/-- THE SECOND FORM's CARD OF 'thimblelaw13.FoldTells'. -/
def foldTellsUptoCard : Claim7 := { stood := { row := foldTellsUptoRow, standIns := [], harness := (true, "c2705ba954201f7ebee06e7357a6b26698a0f197613a4aac12b632d29f71afef"), looks := true }, kinds := [], alts := [], laidByText := true, laidKinds := [.data], laidTests := true, laidLooks := .later }
def FoldTellsUptoCardSaid : Prop := Claim7.holds Tryz.pinned (.plain (OpenSpec.upto foldTellsSpec)) foldTellsUptoCard

/-- THE SECOND FORM's CARD OF 'thimblelaw13.FoldConverges'. -/
def foldConvergesUptoCard : Claim7 := { stood := { row := foldConvergesUptoRow, standIns := [], harness := (true, "c2705ba954201f7ebee06e7357a6b26698a0f197613a4aac12b632d29f71afef"), looks := true }, kinds := [], alts := [], laidByText := true, laidKinds := [.data], laidTests := true, laidLooks := .later }
def FoldConvergesUptoCardSaid : Prop := Claim7.holds Tryz.pinned (.plain (OpenSpec.upto foldConvergesSpec)) foldConvergesUptoCard

/-- THE SECOND FORM's CARD OF 'thimblelaw13.FoldSplits'. -/
def foldSplitsUptoCard : Claim7 := { stood := { row := foldSplitsUptoRow, standIns := [], harness := (true, "c2705ba954201f7ebee06e7357a6b26698a0f197613a4aac12b632d29f71afef"), looks := true }, kinds := [], alts := [], laidByText := true, laidKinds := [.data], laidTests := true, laidLooks := .later }
def FoldSplitsUptoCardSaid : Prop := Claim7.holds Tryz.pinned (.plain (OpenSpec.upto foldSplitsSpec)) foldSplitsUptoCard

/-- THE SECOND FORM's CARD OF 'thimblelaw13.FoldNext'. -/
def foldNextUptoCard : Claim7 := { stood := { row := foldNextUptoRow, standIns := [], harness := (true, "c2705ba954201f7ebee06e7357a6b26698a0f197613a4aac12b632d29f71afef"), looks := true }, kinds := [], alts := [], laidByText := true, laidKinds := [.data], laidTests := true, laidLooks := .later }
def FoldNextUptoCardSaid : Prop := Claim7.holds Tryz.pinned (.plain (OpenSpec.upto foldNextSpec)) foldNextUptoCard

/-- THE SECOND FORM's CARD OF 'thimblelaw13.FoldSorted'. -/
def foldSortedUptoCard : Claim7 := { stood := { row := foldSortedUptoRow, standIns := [], harness := (true, "c2705ba954201f7ebee06e7357a6b26698a0f197613a4aac12b632d29f71afef"), looks := true }, kinds := [], alts := [], laidByText := true, laidKinds := [.data], laidTests := true, laidLooks := .later }
def FoldSortedUptoCardSaid : Prop := Claim7.holds Tryz.pinned (.plain (OpenSpec.upto foldSortedSpec)) foldSortedUptoCard

/-- THE SECOND FORM's CARD OF 'thimblelaw13.FoldIdle'. -/
def foldIdleUptoCard : Claim7 := { stood := { row := foldIdleUptoRow, standIns := [], harness := (true, "c2705ba954201f7ebee06e7357a6b26698a0f197613a4aac12b632d29f71afef"), looks := true }, kinds := [], alts := [], laidByText := true, laidKinds := [.data], laidTests := true, laidLooks := .later }
def FoldIdleUptoCardSaid : Prop := Claim7.holds Tryz.pinned (.plain (OpenSpec.upto foldIdleSpec)) foldIdleUptoCard

/-- THE SECOND FORM's CARD OF 'thimblelaw13.FoldLater'. -/
def foldLaterUptoCard : Claim7 := { stood := { row := foldLaterUptoRow, standIns := [], harness := (true, "c2705ba954201f7ebee06e7357a6b26698a0f197613a4aac12b632d29f71afef"), looks := true }, kinds := [], alts := [], laidByText := true, laidKinds := [.data], laidTests := true, laidLooks := .later }
def FoldLaterUptoCardSaid : Prop := Claim7.holds Tryz.pinned (.plain (OpenSpec.upto foldLaterSpec)) foldLaterUptoCard
end Rows
end Go.Proofs.YtdobeghbkonimaaGreatDoor
