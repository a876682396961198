/-
  DERIVED. GIVEN WITH THE SEED: THE CARDS: each row of YtbkijfhfjhpebaaGreatDoorRows.lean that lists a variable, with what it lists TIED to the program's text (the seventh form; the later family's looks); each row that meets fmt, with fmt's text TOLD by the authors' own Lean function (tested against real Go, not proved from fmt's source: count such statements apart). THE CARD IS WHAT COUNTS. Prove the row's statement (the work); the ties are given (YtbkijfhfjhpebaaGreatDoorTie.lean); close each card by the builder's one call (the guide's Derived/Test/ToyasCard.lean, 'card_holds'). Laid BY PROGRAM, IN A SANDBOX (cutbox-door.mjs). By AI agents, Wed Nov 11 2026. No macro, syntax, notation, axiom, sorry.
-/
import Derived.Test.YtbkijfhfjhpebaaGreatDoorRows
import GoSem.ClaimSeven
namespace Go.Proofs.YtbkijfhfjhpebaaGreatDoor
namespace Rows

/-- THE TIED CARD OF 'thimblelaw15.PathHome'. -/
def pathHomeCard : Claim7 := { stood := { row := pathHomeRow, standIns := [], harness := (true, "87a7f0e2db62854ab045d681d6ca88c1e3f59f30ed23f771d1094dcff3aeaf2f"), looks := true }, kinds := [], alts := [], laidByText := true, laidKinds := [.data, .data, .pinned], laidTests := true, laidLooks := .later }
def PathHomeCardSaid : Prop := Claim7.holds Tryz.pinned (.plain (OpenSpec.ofChange pathHomeSpec)) pathHomeCard

/-- THE TIED CARD OF 'thimblelaw15.PathPoints'. -/
def pathPointsCard : Claim7 := { stood := { row := pathPointsRow, standIns := [], harness := (true, "87a7f0e2db62854ab045d681d6ca88c1e3f59f30ed23f771d1094dcff3aeaf2f"), looks := true }, kinds := [], alts := [], laidByText := true, laidKinds := [.data, .data, .pinned], laidTests := true, laidLooks := .later }
def PathPointsCardSaid : Prop := Claim7.holds Tryz.pinned (.plain (OpenSpec.ofChange pathPointsSpec)) pathPointsCard

/-- THE TIED CARD OF 'thimblelaw15.PathParts'. -/
def pathPartsCard : Claim7 := { stood := { row := pathPartsRow, standIns := [], harness := (true, "87a7f0e2db62854ab045d681d6ca88c1e3f59f30ed23f771d1094dcff3aeaf2f"), looks := true }, kinds := [], alts := [], laidByText := true, laidKinds := [.data, .data, .pinned], laidTests := true, laidLooks := .later }
def PathPartsCardSaid : Prop := Claim7.holds Tryz.pinned (.plain (OpenSpec.ofChange pathPartsSpec)) pathPartsCard

/-- THE TIED CARD OF 'thimblelaw15.PathNobody'. -/
def pathNobodyCard : Claim7 := { stood := { row := pathNobodyRow, standIns := [], harness := (true, "87a7f0e2db62854ab045d681d6ca88c1e3f59f30ed23f771d1094dcff3aeaf2f"), looks := true }, kinds := [], alts := [], laidByText := true, laidKinds := [.data, .data, .pinned], laidTests := true, laidLooks := .later }
def PathNobodyCardSaid : Prop := Claim7.holds Tryz.pinned (.plain (OpenSpec.ofChange pathNobodySpec)) pathNobodyCard

/-- THE TIED CARD OF 'thimblelaw15.PathUp'. -/
def pathUpCard : Claim7 := { stood := { row := pathUpRow, standIns := [], harness := (true, "87a7f0e2db62854ab045d681d6ca88c1e3f59f30ed23f771d1094dcff3aeaf2f"), looks := true }, kinds := [], alts := [], laidByText := true, laidKinds := [.data, .data, .pinned], laidTests := true, laidLooks := .later }
def PathUpCardSaid : Prop := Claim7.holds Tryz.pinned (.plain (OpenSpec.ofChange pathUpSpec)) pathUpCard

/-- THE SECOND FORM's CARD OF 'thimblelaw15.PathHome'. -/
def pathHomeUptoCard : Claim7 := { stood := { row := pathHomeUptoRow, standIns := [], harness := (true, "87a7f0e2db62854ab045d681d6ca88c1e3f59f30ed23f771d1094dcff3aeaf2f"), looks := true }, kinds := [], alts := [], laidByText := true, laidKinds := [.data, .data, .pinned], laidTests := true, laidLooks := .later }
def PathHomeUptoCardSaid : Prop := Claim7.holds Tryz.pinned (.plain (OpenSpec.upto pathHomeSpec)) pathHomeUptoCard

/-- THE SECOND FORM's CARD OF 'thimblelaw15.PathPoints'. -/
def pathPointsUptoCard : Claim7 := { stood := { row := pathPointsUptoRow, standIns := [], harness := (true, "87a7f0e2db62854ab045d681d6ca88c1e3f59f30ed23f771d1094dcff3aeaf2f"), looks := true }, kinds := [], alts := [], laidByText := true, laidKinds := [.data, .data, .pinned], laidTests := true, laidLooks := .later }
def PathPointsUptoCardSaid : Prop := Claim7.holds Tryz.pinned (.plain (OpenSpec.upto pathPointsSpec)) pathPointsUptoCard

/-- THE SECOND FORM's CARD OF 'thimblelaw15.PathParts'. -/
def pathPartsUptoCard : Claim7 := { stood := { row := pathPartsUptoRow, standIns := [], harness := (true, "87a7f0e2db62854ab045d681d6ca88c1e3f59f30ed23f771d1094dcff3aeaf2f"), looks := true }, kinds := [], alts := [], laidByText := true, laidKinds := [.data, .data, .pinned], laidTests := true, laidLooks := .later }
def PathPartsUptoCardSaid : Prop := Claim7.holds Tryz.pinned (.plain (OpenSpec.upto pathPartsSpec)) pathPartsUptoCard

/-- THE SECOND FORM's CARD OF 'thimblelaw15.PathNobody'. -/
def pathNobodyUptoCard : Claim7 := { stood := { row := pathNobodyUptoRow, standIns := [], harness := (true, "87a7f0e2db62854ab045d681d6ca88c1e3f59f30ed23f771d1094dcff3aeaf2f"), looks := true }, kinds := [], alts := [], laidByText := true, laidKinds := [.data, .data, .pinned], laidTests := true, laidLooks := .later }
def PathNobodyUptoCardSaid : Prop := Claim7.holds Tryz.pinned (.plain (OpenSpec.upto pathNobodySpec)) pathNobodyUptoCard

/-- THE SECOND FORM's CARD OF 'thimblelaw15.PathUp'. -/
def pathUpUptoCard : Claim7 := { stood := { row := pathUpUptoRow, standIns := [], harness := (true, "87a7f0e2db62854ab045d681d6ca88c1e3f59f30ed23f771d1094dcff3aeaf2f"), looks := true }, kinds := [], alts := [], laidByText := true, laidKinds := [.data, .data, .pinned], laidTests := true, laidLooks := .later }
def PathUpUptoCardSaid : Prop := Claim7.holds Tryz.pinned (.plain (OpenSpec.upto pathUpSpec)) pathUpUptoCard
end Rows
end Go.Proofs.YtbkijfhfjhpebaaGreatDoor
