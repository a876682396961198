/-
  DERIVED. GIVEN WITH THE SEED: THE CARDS: each row of YthcmgaibbpacfaaGreatDoorRows.lean that lists a variable, with what it lists TIED to the program's text (the seventh form; the later family's looks); each row that meets fmt, with fmt's text TOLD by the authors' own Lean function (tested against real Go, not proved from fmt's source: count such statements apart). THE CARD IS WHAT COUNTS. Prove the row's statement (the work); the ties are given (YthcmgaibbpacfaaGreatDoorTie.lean); close each card by the builder's one call (the guide's Derived/Test/ToyasCard.lean, 'card_holds'). Laid BY PROGRAM, IN A SANDBOX (cutbox-door.mjs). By AI agents, Wed Nov 11 2026. No macro, syntax, notation, axiom, sorry.
-/
import Derived.Test.YthcmgaibbpacfaaGreatDoorRows
import GoSem.ClaimSeven
namespace Go.Proofs.YthcmgaibbpacfaaGreatDoor
namespace Rows

/-- THE TIED CARD OF 'thimblelaw12.UndoTells'. -/
def undoTellsCard : Claim7 := { stood := { row := undoTellsRow, standIns := [], harness := (true, "d73b5e313de30c024bff1fd1bf8674f5a1124afb2b06ec2cae1944c2ff0cba2a"), looks := true }, kinds := [], alts := [], laidByText := true, laidKinds := [.data], laidTests := true, laidLooks := .later }
def UndoTellsCardSaid : Prop := Claim7.holds Tryz.pinned (.plain (OpenSpec.ofChange undoTellsSpec)) undoTellsCard

/-- THE TIED CARD OF 'thimblelaw12.UndoBack'. -/
def undoBackCard : Claim7 := { stood := { row := undoBackRow, standIns := [], harness := (true, "d73b5e313de30c024bff1fd1bf8674f5a1124afb2b06ec2cae1944c2ff0cba2a"), looks := true }, kinds := [], alts := [], laidByText := true, laidKinds := [.data], laidTests := true, laidLooks := .later }
def UndoBackCardSaid : Prop := Claim7.holds Tryz.pinned (.plain (OpenSpec.ofChange undoBackSpec)) undoBackCard

/-- THE TIED CARD OF 'thimblelaw12.UndoFew'. -/
def undoFewCard : Claim7 := { stood := { row := undoFewRow, standIns := [], harness := (true, "d73b5e313de30c024bff1fd1bf8674f5a1124afb2b06ec2cae1944c2ff0cba2a"), looks := true }, kinds := [], alts := [], laidByText := true, laidKinds := [.data], laidTests := true, laidLooks := .later }
def UndoFewCardSaid : Prop := Claim7.holds Tryz.pinned (.plain (OpenSpec.ofChange undoFewSpec)) undoFewCard

/-- THE TIED CARD OF 'thimblelaw12.UndoSelf'. -/
def undoSelfCard : Claim7 := { stood := { row := undoSelfRow, standIns := [], harness := (true, "d73b5e313de30c024bff1fd1bf8674f5a1124afb2b06ec2cae1944c2ff0cba2a"), looks := true }, kinds := [], alts := [], laidByText := true, laidKinds := [.data], laidTests := true, laidLooks := .later }
def UndoSelfCardSaid : Prop := Claim7.holds Tryz.pinned (.plain (OpenSpec.ofChange undoSelfSpec)) undoSelfCard

/-- THE TIED CARD OF 'thimblelaw12.UndoThree'. -/
def undoThreeCard : Claim7 := { stood := { row := undoThreeRow, standIns := [], harness := (true, "d73b5e313de30c024bff1fd1bf8674f5a1124afb2b06ec2cae1944c2ff0cba2a"), looks := true }, kinds := [], alts := [], laidByText := true, laidKinds := [.data], laidTests := true, laidLooks := .later }
def UndoThreeCardSaid : Prop := Claim7.holds Tryz.pinned (.plain (OpenSpec.ofChange undoThreeSpec)) undoThreeCard

/-- THE SECOND FORM's CARD OF 'thimblelaw12.UndoTells'. -/
def undoTellsUptoCard : Claim7 := { stood := { row := undoTellsUptoRow, standIns := [], harness := (true, "d73b5e313de30c024bff1fd1bf8674f5a1124afb2b06ec2cae1944c2ff0cba2a"), looks := true }, kinds := [], alts := [], laidByText := true, laidKinds := [.data], laidTests := true, laidLooks := .later }
def UndoTellsUptoCardSaid : Prop := Claim7.holds Tryz.pinned (.plain (OpenSpec.upto undoTellsSpec)) undoTellsUptoCard

/-- THE SECOND FORM's CARD OF 'thimblelaw12.UndoBack'. -/
def undoBackUptoCard : Claim7 := { stood := { row := undoBackUptoRow, standIns := [], harness := (true, "d73b5e313de30c024bff1fd1bf8674f5a1124afb2b06ec2cae1944c2ff0cba2a"), looks := true }, kinds := [], alts := [], laidByText := true, laidKinds := [.data], laidTests := true, laidLooks := .later }
def UndoBackUptoCardSaid : Prop := Claim7.holds Tryz.pinned (.plain (OpenSpec.upto undoBackSpec)) undoBackUptoCard

/-- THE SECOND FORM's CARD OF 'thimblelaw12.UndoFew'. -/
def undoFewUptoCard : Claim7 := { stood := { row := undoFewUptoRow, standIns := [], harness := (true, "d73b5e313de30c024bff1fd1bf8674f5a1124afb2b06ec2cae1944c2ff0cba2a"), looks := true }, kinds := [], alts := [], laidByText := true, laidKinds := [.data], laidTests := true, laidLooks := .later }
def UndoFewUptoCardSaid : Prop := Claim7.holds Tryz.pinned (.plain (OpenSpec.upto undoFewSpec)) undoFewUptoCard

/-- THE SECOND FORM's CARD OF 'thimblelaw12.UndoSelf'. -/
def undoSelfUptoCard : Claim7 := { stood := { row := undoSelfUptoRow, standIns := [], harness := (true, "d73b5e313de30c024bff1fd1bf8674f5a1124afb2b06ec2cae1944c2ff0cba2a"), looks := true }, kinds := [], alts := [], laidByText := true, laidKinds := [.data], laidTests := true, laidLooks := .later }
def UndoSelfUptoCardSaid : Prop := Claim7.holds Tryz.pinned (.plain (OpenSpec.upto undoSelfSpec)) undoSelfUptoCard

/-- THE SECOND FORM's CARD OF 'thimblelaw12.UndoThree'. -/
def undoThreeUptoCard : Claim7 := { stood := { row := undoThreeUptoRow, standIns := [], harness := (true, "d73b5e313de30c024bff1fd1bf8674f5a1124afb2b06ec2cae1944c2ff0cba2a"), looks := true }, kinds := [], alts := [], laidByText := true, laidKinds := [.data], laidTests := true, laidLooks := .later }
def UndoThreeUptoCardSaid : Prop := Claim7.holds Tryz.pinned (.plain (OpenSpec.upto undoThreeSpec)) undoThreeUptoCard
end Rows
end Go.Proofs.YthcmgaibbpacfaaGreatDoor
