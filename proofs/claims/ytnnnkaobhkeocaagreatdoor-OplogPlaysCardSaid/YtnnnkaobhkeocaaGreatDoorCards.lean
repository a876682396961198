/-
  DERIVED. GIVEN WITH THE SEED: THE CARDS: each row of YtnnnkaobhkeocaaGreatDoorRows.lean that lists a variable, with what it lists TIED to the program's text (the seventh form; the later family's looks); each row that meets fmt, with fmt's text TOLD by the authors' own Lean function (tested against real Go, not proved from fmt's source: count such statements apart). THE CARD IS WHAT COUNTS. Prove the row's statement (the work); the ties are given (YtnnnkaobhkeocaaGreatDoorTie.lean); close each card by the builder's one call (the guide's Derived/Test/ToyasCard.lean, 'card_holds'). Laid BY PROGRAM, IN A SANDBOX (cutbox-door.mjs). By AI agents, Wed Nov 11 2026. No macro, syntax, notation, axiom, sorry.
-/
import Derived.Test.YtnnnkaobhkeocaaGreatDoorRows
import GoSem.ClaimSeven
namespace Go.Proofs.YtnnnkaobhkeocaaGreatDoor
namespace Rows

/-- THE TIED CARD OF 'thimblelaw14.OplogPlays'. -/
def oplogPlaysCard : Claim7 := { stood := { row := oplogPlaysRow, standIns := [], harness := (true, "d384b9aff5662fbe15596281b5791a5170ef89cb8560427b6bcd1ff14924aafb"), looks := true }, kinds := [], alts := [], laidByText := true, laidKinds := [.data], laidTests := true, laidLooks := .later }
def OplogPlaysCardSaid : Prop := Claim7.holds Tryz.pinned (.plain (OpenSpec.ofChange oplogPlaysSpec)) oplogPlaysCard

/-- THE TIED CARD OF 'thimblelaw14.OplogTheorem'. -/
def oplogTheoremCard : Claim7 := { stood := { row := oplogTheoremRow, standIns := [], harness := (true, "d384b9aff5662fbe15596281b5791a5170ef89cb8560427b6bcd1ff14924aafb"), looks := true }, kinds := [], alts := [], laidByText := true, laidKinds := [.data], laidTests := true, laidLooks := .later }
def OplogTheoremCardSaid : Prop := Claim7.holds Tryz.pinned (.plain (OpenSpec.ofChange oplogTheoremSpec)) oplogTheoremCard

/-- THE TIED CARD OF 'thimblelaw14.OplogOrder'. -/
def oplogOrderCard : Claim7 := { stood := { row := oplogOrderRow, standIns := [], harness := (true, "d384b9aff5662fbe15596281b5791a5170ef89cb8560427b6bcd1ff14924aafb"), looks := true }, kinds := [], alts := [], laidByText := true, laidKinds := [.data], laidTests := true, laidLooks := .later }
def OplogOrderCardSaid : Prop := Claim7.holds Tryz.pinned (.plain (OpenSpec.ofChange oplogOrderSpec)) oplogOrderCard

/-- THE TIED CARD OF 'thimblelaw14.OplogTwice'. -/
def oplogTwiceCard : Claim7 := { stood := { row := oplogTwiceRow, standIns := [], harness := (true, "d384b9aff5662fbe15596281b5791a5170ef89cb8560427b6bcd1ff14924aafb"), looks := true }, kinds := [], alts := [], laidByText := true, laidKinds := [.data], laidTests := true, laidLooks := .later }
def OplogTwiceCardSaid : Prop := Claim7.holds Tryz.pinned (.plain (OpenSpec.ofChange oplogTwiceSpec)) oplogTwiceCard

/-- THE TIED CARD OF 'thimblelaw14.OplogCopies'. -/
def oplogCopiesCard : Claim7 := { stood := { row := oplogCopiesRow, standIns := [], harness := (true, "d384b9aff5662fbe15596281b5791a5170ef89cb8560427b6bcd1ff14924aafb"), looks := true }, kinds := [], alts := [], laidByText := true, laidKinds := [.data], laidTests := true, laidLooks := .later }
def OplogCopiesCardSaid : Prop := Claim7.holds Tryz.pinned (.plain (OpenSpec.ofChange oplogCopiesSpec)) oplogCopiesCard

/-- THE SECOND FORM's CARD OF 'thimblelaw14.OplogPlays'. -/
def oplogPlaysUptoCard : Claim7 := { stood := { row := oplogPlaysUptoRow, standIns := [], harness := (true, "d384b9aff5662fbe15596281b5791a5170ef89cb8560427b6bcd1ff14924aafb"), looks := true }, kinds := [], alts := [], laidByText := true, laidKinds := [.data], laidTests := true, laidLooks := .later }
def OplogPlaysUptoCardSaid : Prop := Claim7.holds Tryz.pinned (.plain (OpenSpec.upto oplogPlaysSpec)) oplogPlaysUptoCard

/-- THE SECOND FORM's CARD OF 'thimblelaw14.OplogTheorem'. -/
def oplogTheoremUptoCard : Claim7 := { stood := { row := oplogTheoremUptoRow, standIns := [], harness := (true, "d384b9aff5662fbe15596281b5791a5170ef89cb8560427b6bcd1ff14924aafb"), looks := true }, kinds := [], alts := [], laidByText := true, laidKinds := [.data], laidTests := true, laidLooks := .later }
def OplogTheoremUptoCardSaid : Prop := Claim7.holds Tryz.pinned (.plain (OpenSpec.upto oplogTheoremSpec)) oplogTheoremUptoCard

/-- THE SECOND FORM's CARD OF 'thimblelaw14.OplogOrder'. -/
def oplogOrderUptoCard : Claim7 := { stood := { row := oplogOrderUptoRow, standIns := [], harness := (true, "d384b9aff5662fbe15596281b5791a5170ef89cb8560427b6bcd1ff14924aafb"), looks := true }, kinds := [], alts := [], laidByText := true, laidKinds := [.data], laidTests := true, laidLooks := .later }
def OplogOrderUptoCardSaid : Prop := Claim7.holds Tryz.pinned (.plain (OpenSpec.upto oplogOrderSpec)) oplogOrderUptoCard

/-- THE SECOND FORM's CARD OF 'thimblelaw14.OplogTwice'. -/
def oplogTwiceUptoCard : Claim7 := { stood := { row := oplogTwiceUptoRow, standIns := [], harness := (true, "d384b9aff5662fbe15596281b5791a5170ef89cb8560427b6bcd1ff14924aafb"), looks := true }, kinds := [], alts := [], laidByText := true, laidKinds := [.data], laidTests := true, laidLooks := .later }
def OplogTwiceUptoCardSaid : Prop := Claim7.holds Tryz.pinned (.plain (OpenSpec.upto oplogTwiceSpec)) oplogTwiceUptoCard

/-- THE SECOND FORM's CARD OF 'thimblelaw14.OplogCopies'. -/
def oplogCopiesUptoCard : Claim7 := { stood := { row := oplogCopiesUptoRow, standIns := [], harness := (true, "d384b9aff5662fbe15596281b5791a5170ef89cb8560427b6bcd1ff14924aafb"), looks := true }, kinds := [], alts := [], laidByText := true, laidKinds := [.data], laidTests := true, laidLooks := .later }
def OplogCopiesUptoCardSaid : Prop := Claim7.holds Tryz.pinned (.plain (OpenSpec.upto oplogCopiesSpec)) oplogCopiesUptoCard
end Rows
end Go.Proofs.YtnnnkaobhkeocaaGreatDoor
