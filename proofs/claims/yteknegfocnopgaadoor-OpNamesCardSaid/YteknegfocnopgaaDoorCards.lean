/-
  DERIVED. GIVEN WITH THE SEED: THE CARDS: each row of YteknegfocnopgaaDoorRows.lean that lists a variable, with what it lists TIED to the program's text (the seventh form; the later family's looks); each row that meets fmt, with fmt's text TOLD by the authors' own Lean function (tested against real Go, not proved from fmt's source: count such statements apart). THE CARD IS WHAT COUNTS. Prove the row's statement (the work); the ties are given (YteknegfocnopgaaDoorTie.lean); close each card by the builder's one call (the guide's Derived/Test/ToyasCard.lean, 'card_holds'). Laid BY PROGRAM, IN A SANDBOX (cutbox-door.mjs). By AI agents, Wed Nov 11 2026. No macro, syntax, notation, axiom, sorry.
-/
import Derived.Test.YteknegfocnopgaaDoorRows
import GoSem.ClaimSeven
namespace Go.Proofs.YteknegfocnopgaaDoor
namespace Rows

/-- THE TIED CARD OF 'thimblelaw05.OpTells'. -/
def opTellsCard : Claim7 := { stood := { row := opTellsRow, standIns := [], harness := (true, "99799e45aa91a6480b908f3506cd58db29c4a21ec611c37cc1694ad297b43b7d"), looks := false }, kinds := [], alts := [], laidByText := true, laidKinds := [.data], laidTests := true, laidLooks := .later }
def OpTellsCardSaid : Prop := Claim7.holds Tryd.pinned (.plain (OpenSpec.ofChange opTellsSpec)) opTellsCard

/-- THE TIED CARD OF 'thimblelaw05.OpBack'. -/
def opBackCard : Claim7 := { stood := { row := opBackRow, standIns := [], harness := (true, "99799e45aa91a6480b908f3506cd58db29c4a21ec611c37cc1694ad297b43b7d"), looks := false }, kinds := [], alts := [], laidByText := true, laidKinds := [.data], laidTests := true, laidLooks := .later }
def OpBackCardSaid : Prop := Claim7.holds Tryd.pinned (.plain (OpenSpec.ofChange opBackSpec)) opBackCard

/-- THE TIED CARD OF 'thimblelaw05.OpFields'. -/
def opFieldsCard : Claim7 := { stood := { row := opFieldsRow, standIns := [], harness := (true, "99799e45aa91a6480b908f3506cd58db29c4a21ec611c37cc1694ad297b43b7d"), looks := false }, kinds := [], alts := [], laidByText := true, laidKinds := [.data], laidTests := true, laidLooks := .later }
def OpFieldsCardSaid : Prop := Claim7.holds Tryd.pinned (.plain (OpenSpec.ofChange opFieldsSpec)) opFieldsCard

/-- THE TIED CARD OF 'thimblelaw05.OpNames'. -/
def opNamesCard : Claim7 := { stood := { row := opNamesRow, standIns := [], harness := (true, "99799e45aa91a6480b908f3506cd58db29c4a21ec611c37cc1694ad297b43b7d"), looks := false }, kinds := [], alts := [], laidByText := true, laidKinds := [.data], laidTests := true, laidLooks := .later }
def OpNamesCardSaid : Prop := Claim7.holds Tryd.pinned (.plain (OpenSpec.ofChange opNamesSpec)) opNamesCard

/-- THE TIED CARD OF 'thimblelaw05.OpUses'. -/
def opUsesCard : Claim7 := { stood := { row := opUsesRow, standIns := [], harness := (true, "99799e45aa91a6480b908f3506cd58db29c4a21ec611c37cc1694ad297b43b7d"), looks := false }, kinds := [], alts := [], laidByText := true, laidKinds := [.data], laidTests := true, laidLooks := .later }
def OpUsesCardSaid : Prop := Claim7.holds Tryd.pinned (.plain (OpenSpec.ofChange opUsesSpec)) opUsesCard

/-- THE TIED CARD OF 'thimblelaw05.OpStamps'. -/
def opStampsCard : Claim7 := { stood := { row := opStampsRow, standIns := [], harness := (true, "99799e45aa91a6480b908f3506cd58db29c4a21ec611c37cc1694ad297b43b7d"), looks := false }, kinds := [], alts := [], laidByText := true, laidKinds := [.data], laidTests := true, laidLooks := .later }
def OpStampsCardSaid : Prop := Claim7.holds Tryd.pinned (.plain (OpenSpec.ofChange opStampsSpec)) opStampsCard

/-- THE SECOND FORM's CARD OF 'thimblelaw05.OpTells'. -/
def opTellsUptoCard : Claim7 := { stood := { row := opTellsUptoRow, standIns := [], harness := (true, "99799e45aa91a6480b908f3506cd58db29c4a21ec611c37cc1694ad297b43b7d"), looks := false }, kinds := [], alts := [], laidByText := true, laidKinds := [.data], laidTests := true, laidLooks := .later }
def OpTellsUptoCardSaid : Prop := Claim7.holds Tryd.pinned (.plain (OpenSpec.upto opTellsSpec)) opTellsUptoCard

/-- THE SECOND FORM's CARD OF 'thimblelaw05.OpBack'. -/
def opBackUptoCard : Claim7 := { stood := { row := opBackUptoRow, standIns := [], harness := (true, "99799e45aa91a6480b908f3506cd58db29c4a21ec611c37cc1694ad297b43b7d"), looks := false }, kinds := [], alts := [], laidByText := true, laidKinds := [.data], laidTests := true, laidLooks := .later }
def OpBackUptoCardSaid : Prop := Claim7.holds Tryd.pinned (.plain (OpenSpec.upto opBackSpec)) opBackUptoCard

/-- THE SECOND FORM's CARD OF 'thimblelaw05.OpFields'. -/
def opFieldsUptoCard : Claim7 := { stood := { row := opFieldsUptoRow, standIns := [], harness := (true, "99799e45aa91a6480b908f3506cd58db29c4a21ec611c37cc1694ad297b43b7d"), looks := false }, kinds := [], alts := [], laidByText := true, laidKinds := [.data], laidTests := true, laidLooks := .later }
def OpFieldsUptoCardSaid : Prop := Claim7.holds Tryd.pinned (.plain (OpenSpec.upto opFieldsSpec)) opFieldsUptoCard

/-- THE SECOND FORM's CARD OF 'thimblelaw05.OpNames'. -/
def opNamesUptoCard : Claim7 := { stood := { row := opNamesUptoRow, standIns := [], harness := (true, "99799e45aa91a6480b908f3506cd58db29c4a21ec611c37cc1694ad297b43b7d"), looks := false }, kinds := [], alts := [], laidByText := true, laidKinds := [.data], laidTests := true, laidLooks := .later }
def OpNamesUptoCardSaid : Prop := Claim7.holds Tryd.pinned (.plain (OpenSpec.upto opNamesSpec)) opNamesUptoCard

/-- THE SECOND FORM's CARD OF 'thimblelaw05.OpUses'. -/
def opUsesUptoCard : Claim7 := { stood := { row := opUsesUptoRow, standIns := [], harness := (true, "99799e45aa91a6480b908f3506cd58db29c4a21ec611c37cc1694ad297b43b7d"), looks := false }, kinds := [], alts := [], laidByText := true, laidKinds := [.data], laidTests := true, laidLooks := .later }
def OpUsesUptoCardSaid : Prop := Claim7.holds Tryd.pinned (.plain (OpenSpec.upto opUsesSpec)) opUsesUptoCard

/-- THE SECOND FORM's CARD OF 'thimblelaw05.OpStamps'. -/
def opStampsUptoCard : Claim7 := { stood := { row := opStampsUptoRow, standIns := [], harness := (true, "99799e45aa91a6480b908f3506cd58db29c4a21ec611c37cc1694ad297b43b7d"), looks := false }, kinds := [], alts := [], laidByText := true, laidKinds := [.data], laidTests := true, laidLooks := .later }
def OpStampsUptoCardSaid : Prop := Claim7.holds Tryd.pinned (.plain (OpenSpec.upto opStampsSpec)) opStampsUptoCard
end Rows
end Go.Proofs.YteknegfocnopgaaDoor
