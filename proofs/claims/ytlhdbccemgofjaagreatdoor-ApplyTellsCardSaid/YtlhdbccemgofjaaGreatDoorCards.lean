/-
  DERIVED. GIVEN WITH THE SEED: THE CARDS: each row of YtlhdbccemgofjaaGreatDoorRows.lean that lists a variable, with what it lists TIED to the program's text (the seventh form; the later family's looks); each row that meets fmt, with fmt's text TOLD by the authors' own Lean function (tested against real Go, not proved from fmt's source: count such statements apart). THE CARD IS WHAT COUNTS. Prove the row's statement (the work); the ties are given (YtlhdbccemgofjaaGreatDoorTie.lean); close each card by the builder's one call (the guide's Derived/Test/ToyasCard.lean, 'card_holds'). Laid BY PROGRAM, IN A SANDBOX (cutbox-door.mjs). By AI agents, Wed Nov 11 2026. No macro, syntax, notation, axiom, sorry.
-/
import Derived.Test.YtlhdbccemgofjaaGreatDoorRows
import GoSem.ClaimSeven
namespace Go.Proofs.YtlhdbccemgofjaaGreatDoor
namespace Rows

/-- THE TIED CARD OF 'thimblelaw11.ApplyTells'. -/
def applyTellsCard : Claim7 := { stood := { row := applyTellsRow, standIns := [], harness := (true, "c474e127b5b08cf8fdfc73bcace76e3d39bdd4a6f3242f5cc6b262554880f73a"), looks := true }, kinds := [], alts := [], laidByText := true, laidKinds := [.data], laidTests := true, laidLooks := .later }
def ApplyTellsCardSaid : Prop := Claim7.holds Tryz.pinned (.plain (OpenSpec.ofChange applyTellsSpec)) applyTellsCard

/-- THE TIED CARD OF 'thimblelaw11.ApplyFine'. -/
def applyFineCard : Claim7 := { stood := { row := applyFineRow, standIns := [], harness := (true, "c474e127b5b08cf8fdfc73bcace76e3d39bdd4a6f3242f5cc6b262554880f73a"), looks := true }, kinds := [], alts := [], laidByText := true, laidKinds := [.data], laidTests := true, laidLooks := .later }
def ApplyFineCardSaid : Prop := Claim7.holds Tryz.pinned (.plain (OpenSpec.ofChange applyFineSpec)) applyFineCard

/-- THE TIED CARD OF 'thimblelaw11.ApplyNothing'. -/
def applyNothingCard : Claim7 := { stood := { row := applyNothingRow, standIns := [], harness := (true, "c474e127b5b08cf8fdfc73bcace76e3d39bdd4a6f3242f5cc6b262554880f73a"), looks := true }, kinds := [], alts := [], laidByText := true, laidKinds := [.data], laidTests := true, laidLooks := .later }
def ApplyNothingCardSaid : Prop := Claim7.holds Tryz.pinned (.plain (OpenSpec.ofChange applyNothingSpec)) applyNothingCard

/-- THE TIED CARD OF 'thimblelaw11.ApplyMakes'. -/
def applyMakesCard : Claim7 := { stood := { row := applyMakesRow, standIns := [], harness := (true, "c474e127b5b08cf8fdfc73bcace76e3d39bdd4a6f3242f5cc6b262554880f73a"), looks := true }, kinds := [], alts := [], laidByText := true, laidKinds := [.data], laidTests := true, laidLooks := .later }
def ApplyMakesCardSaid : Prop := Claim7.holds Tryz.pinned (.plain (OpenSpec.ofChange applyMakesSpec)) applyMakesCard

/-- THE TIED CARD OF 'thimblelaw11.ApplyMoves'. -/
def applyMovesCard : Claim7 := { stood := { row := applyMovesRow, standIns := [], harness := (true, "c474e127b5b08cf8fdfc73bcace76e3d39bdd4a6f3242f5cc6b262554880f73a"), looks := true }, kinds := [], alts := [], laidByText := true, laidKinds := [.data], laidTests := true, laidLooks := .later }
def ApplyMovesCardSaid : Prop := Claim7.holds Tryz.pinned (.plain (OpenSpec.ofChange applyMovesSpec)) applyMovesCard

/-- THE TIED CARD OF 'thimblelaw11.ApplyData'. -/
def applyDataCard : Claim7 := { stood := { row := applyDataRow, standIns := [], harness := (true, "c474e127b5b08cf8fdfc73bcace76e3d39bdd4a6f3242f5cc6b262554880f73a"), looks := true }, kinds := [], alts := [], laidByText := true, laidKinds := [.data], laidTests := true, laidLooks := .later }
def ApplyDataCardSaid : Prop := Claim7.holds Tryz.pinned (.plain (OpenSpec.ofChange applyDataSpec)) applyDataCard

/-- THE TIED CARD OF 'thimblelaw11.ApplyApart'. -/
def applyApartCard : Claim7 := { stood := { row := applyApartRow, standIns := [], harness := (true, "c474e127b5b08cf8fdfc73bcace76e3d39bdd4a6f3242f5cc6b262554880f73a"), looks := true }, kinds := [], alts := [], laidByText := true, laidKinds := [.data], laidTests := true, laidLooks := .later }
def ApplyApartCardSaid : Prop := Claim7.holds Tryz.pinned (.plain (OpenSpec.ofChange applyApartSpec)) applyApartCard

/-- THE TIED CARD OF 'thimblelaw11.ApplyGone'. -/
def applyGoneCard : Claim7 := { stood := { row := applyGoneRow, standIns := [], harness := (true, "c474e127b5b08cf8fdfc73bcace76e3d39bdd4a6f3242f5cc6b262554880f73a"), looks := true }, kinds := [], alts := [], laidByText := true, laidKinds := [.data], laidTests := true, laidLooks := .later }
def ApplyGoneCardSaid : Prop := Claim7.holds Tryz.pinned (.plain (OpenSpec.ofChange applyGoneSpec)) applyGoneCard

/-- THE SECOND FORM's CARD OF 'thimblelaw11.ApplyTells'. -/
def applyTellsUptoCard : Claim7 := { stood := { row := applyTellsUptoRow, standIns := [], harness := (true, "c474e127b5b08cf8fdfc73bcace76e3d39bdd4a6f3242f5cc6b262554880f73a"), looks := true }, kinds := [], alts := [], laidByText := true, laidKinds := [.data], laidTests := true, laidLooks := .later }
def ApplyTellsUptoCardSaid : Prop := Claim7.holds Tryz.pinned (.plain (OpenSpec.upto applyTellsSpec)) applyTellsUptoCard

/-- THE SECOND FORM's CARD OF 'thimblelaw11.ApplyFine'. -/
def applyFineUptoCard : Claim7 := { stood := { row := applyFineUptoRow, standIns := [], harness := (true, "c474e127b5b08cf8fdfc73bcace76e3d39bdd4a6f3242f5cc6b262554880f73a"), looks := true }, kinds := [], alts := [], laidByText := true, laidKinds := [.data], laidTests := true, laidLooks := .later }
def ApplyFineUptoCardSaid : Prop := Claim7.holds Tryz.pinned (.plain (OpenSpec.upto applyFineSpec)) applyFineUptoCard

/-- THE SECOND FORM's CARD OF 'thimblelaw11.ApplyNothing'. -/
def applyNothingUptoCard : Claim7 := { stood := { row := applyNothingUptoRow, standIns := [], harness := (true, "c474e127b5b08cf8fdfc73bcace76e3d39bdd4a6f3242f5cc6b262554880f73a"), looks := true }, kinds := [], alts := [], laidByText := true, laidKinds := [.data], laidTests := true, laidLooks := .later }
def ApplyNothingUptoCardSaid : Prop := Claim7.holds Tryz.pinned (.plain (OpenSpec.upto applyNothingSpec)) applyNothingUptoCard

/-- THE SECOND FORM's CARD OF 'thimblelaw11.ApplyMakes'. -/
def applyMakesUptoCard : Claim7 := { stood := { row := applyMakesUptoRow, standIns := [], harness := (true, "c474e127b5b08cf8fdfc73bcace76e3d39bdd4a6f3242f5cc6b262554880f73a"), looks := true }, kinds := [], alts := [], laidByText := true, laidKinds := [.data], laidTests := true, laidLooks := .later }
def ApplyMakesUptoCardSaid : Prop := Claim7.holds Tryz.pinned (.plain (OpenSpec.upto applyMakesSpec)) applyMakesUptoCard

/-- THE SECOND FORM's CARD OF 'thimblelaw11.ApplyMoves'. -/
def applyMovesUptoCard : Claim7 := { stood := { row := applyMovesUptoRow, standIns := [], harness := (true, "c474e127b5b08cf8fdfc73bcace76e3d39bdd4a6f3242f5cc6b262554880f73a"), looks := true }, kinds := [], alts := [], laidByText := true, laidKinds := [.data], laidTests := true, laidLooks := .later }
def ApplyMovesUptoCardSaid : Prop := Claim7.holds Tryz.pinned (.plain (OpenSpec.upto applyMovesSpec)) applyMovesUptoCard

/-- THE SECOND FORM's CARD OF 'thimblelaw11.ApplyData'. -/
def applyDataUptoCard : Claim7 := { stood := { row := applyDataUptoRow, standIns := [], harness := (true, "c474e127b5b08cf8fdfc73bcace76e3d39bdd4a6f3242f5cc6b262554880f73a"), looks := true }, kinds := [], alts := [], laidByText := true, laidKinds := [.data], laidTests := true, laidLooks := .later }
def ApplyDataUptoCardSaid : Prop := Claim7.holds Tryz.pinned (.plain (OpenSpec.upto applyDataSpec)) applyDataUptoCard

/-- THE SECOND FORM's CARD OF 'thimblelaw11.ApplyApart'. -/
def applyApartUptoCard : Claim7 := { stood := { row := applyApartUptoRow, standIns := [], harness := (true, "c474e127b5b08cf8fdfc73bcace76e3d39bdd4a6f3242f5cc6b262554880f73a"), looks := true }, kinds := [], alts := [], laidByText := true, laidKinds := [.data], laidTests := true, laidLooks := .later }
def ApplyApartUptoCardSaid : Prop := Claim7.holds Tryz.pinned (.plain (OpenSpec.upto applyApartSpec)) applyApartUptoCard

/-- THE SECOND FORM's CARD OF 'thimblelaw11.ApplyGone'. -/
def applyGoneUptoCard : Claim7 := { stood := { row := applyGoneUptoRow, standIns := [], harness := (true, "c474e127b5b08cf8fdfc73bcace76e3d39bdd4a6f3242f5cc6b262554880f73a"), looks := true }, kinds := [], alts := [], laidByText := true, laidKinds := [.data], laidTests := true, laidLooks := .later }
def ApplyGoneUptoCardSaid : Prop := Claim7.holds Tryz.pinned (.plain (OpenSpec.upto applyGoneSpec)) applyGoneUptoCard
end Rows
end Go.Proofs.YtlhdbccemgofjaaGreatDoor
