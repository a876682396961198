/-
  NARROWER THAN 'FOR EVERY INPUT', by the rows' own cells (each row's printed sentence says how): ApplyTells: laid · ApplyFine: laid · ApplyNothing: laid · ApplyMakes: laid · ApplyMoves: laid · ApplyData: laid · ApplyApart: laid · ApplyGone: laid.
  DERIVED. THE GIVEN ROWS OF THIS SEAT. 8 by the template 'for every input the law returns true; each argument reads behind the call as it read before'; 0 by the template 'total and deterministic' (their statements: YtlhdbccemgofjaaGreatDoorTotals.lean).
  GIVEN WITH THE SEED: the statements are not yours to turn. If you find one false, say at which input.
  Laid BY PROGRAM, IN A SANDBOX (cutbox-rows.mjs): the forced cells as the released guide's own fill.sh prints them over the translation 3c0b770eba8805a8… (all of the seat's roots in one cut). By AI agents, Wed Nov 11 2026. No macro, syntax, notation, axiom, sorry.
-/
import Derived.Test.YtlhdbccemgofjaaGreatDoorChecked
import GoSem.Claim
import GoSem.ClaimJoined
import GoSem.ClaimMapViews
import Derived.JoinedTies
import Derived.KernelRfl
namespace Go.Proofs.YtlhdbccemgofjaaGreatDoor
/- THE CELL 'sum', in the pinned program and in every row, IS THE sha256 OF THE DUMP (.gsa) THAT YtlhdbccemgofjaaGreatDoorProg.lean LOADS. Nothing in Lean hashes anything: it is a label: what it is worth is what the hold of that sum in a sandbox is worth. -/
noncomputable def Tryz.pinned : Pinned := { name := "ytlhdbccemgofjaagreatdoor", sum := "3c0b770eba8805a8283f71e17dacc017433a33d9d6e9eb1491c091bab2222b24", checked := Tryz.checked }
namespace Rows
def none {H : Type} : Left H := { results := [], args := [] }

/- WHAT THE LISTED PACKAGE-LEVEL VARIABLES READ AS WHEN THE CALL BEGINS. Each datum BY PROGRAM (the guide's laid-datum.mjs) off the statement by which the dump's own 'gosem.cut.vars' lays the variable. In a bare row this is a premise. The card (YtlhdbccemgofjaaGreatDoorCards.lean) ties it to the program's text. -/
def laid_thimble_op_fields {H : Type} : DataW H := .agg [.lit (.int .i64 0), .lit (.int .i64 9), .lit (.int .i64 9), .lit (.int .i64 73), .lit (.int .i64 11), .lit (.int .i64 11), .lit (.int .i64 11), .lit (.int .i64 31), .lit (.int .i64 98), .lit (.int .i64 34), .lit (.int .i64 34)]

/-- 'thimblelaw11.ApplyTells': WHATEVER THE INPUT: true; the input reads as it did. -/
def applyTellsSpec : ChangeSpec := { name := "applyTells", fn := fun _ => fun
  | [d] => { results := [.lit (.bool true)], args := [d] }
  | _ => none }
def applyTellsRow : OpenClaim := { program := "ytlhdbccemgofjaagreatdoor", sum := "3c0b770eba8805a8283f71e17dacc017433a33d9d6e9eb1491c091bab2222b24", func := "thimble/thimblelaw11.ApplyTells", spec := "applyTells", inPlace := ["internal/bytealg.IndexByteString"], unfollowed := true, recurses := true, named := ["thimble/op.fields"], plainKeys := false, apart := false, laid := [("thimble/op.fields", laid_thimble_op_fields)] }
def ApplyTellsSaid : Prop := applyTellsRow.holds Tryz.pinned (OpenSpec.ofChange applyTellsSpec)

/-- ITS FALSE NEIGHBOUR: 'it returns false'. Refute it at one input. -/
def applyTellsWrong : ChangeSpec := { name := "applyTells", fn := fun _ => fun
  | [d] => { results := [.lit (.bool false)], args := [d] }
  | _ => none }
def ApplyTellsWrongFalsely : Prop := applyTellsRow.holds Tryz.pinned (OpenSpec.ofChange applyTellsWrong)

/-- 'thimblelaw11.ApplyFine': WHATEVER THE INPUT: true; the input reads as it did. -/
def applyFineSpec : ChangeSpec := { name := "applyFine", fn := fun _ => fun
  | [d] => { results := [.lit (.bool true)], args := [d] }
  | _ => none }
def applyFineRow : OpenClaim := { program := "ytlhdbccemgofjaagreatdoor", sum := "3c0b770eba8805a8283f71e17dacc017433a33d9d6e9eb1491c091bab2222b24", func := "thimble/thimblelaw11.ApplyFine", spec := "applyFine", inPlace := ["internal/bytealg.IndexByteString"], unfollowed := true, recurses := true, named := ["thimble/op.fields"], plainKeys := false, apart := false, laid := [("thimble/op.fields", laid_thimble_op_fields)] }
def ApplyFineSaid : Prop := applyFineRow.holds Tryz.pinned (OpenSpec.ofChange applyFineSpec)

/-- ITS FALSE NEIGHBOUR: 'it returns false'. Refute it at one input. -/
def applyFineWrong : ChangeSpec := { name := "applyFine", fn := fun _ => fun
  | [d] => { results := [.lit (.bool false)], args := [d] }
  | _ => none }
def ApplyFineWrongFalsely : Prop := applyFineRow.holds Tryz.pinned (OpenSpec.ofChange applyFineWrong)

/-- 'thimblelaw11.ApplyNothing': WHATEVER THE INPUT: true; the input reads as it did. -/
def applyNothingSpec : ChangeSpec := { name := "applyNothing", fn := fun _ => fun
  | [d1, d2] => { results := [.lit (.bool true)], args := [d1, d2] }
  | _ => none }
def applyNothingRow : OpenClaim := { program := "ytlhdbccemgofjaagreatdoor", sum := "3c0b770eba8805a8283f71e17dacc017433a33d9d6e9eb1491c091bab2222b24", func := "thimble/thimblelaw11.ApplyNothing", spec := "applyNothing", inPlace := ["internal/bytealg.IndexByteString", "maps.clone"], unfollowed := true, recurses := true, named := ["thimble/op.fields"], plainKeys := false, apart := false, laid := [("thimble/op.fields", laid_thimble_op_fields)] }
def ApplyNothingSaid : Prop := applyNothingRow.holds Tryz.pinned (OpenSpec.ofChange applyNothingSpec)

/-- ITS FALSE NEIGHBOUR: 'it returns false'. Refute it at one input. -/
def applyNothingWrong : ChangeSpec := { name := "applyNothing", fn := fun _ => fun
  | [d1, d2] => { results := [.lit (.bool false)], args := [d1, d2] }
  | _ => none }
def ApplyNothingWrongFalsely : Prop := applyNothingRow.holds Tryz.pinned (OpenSpec.ofChange applyNothingWrong)

/-- 'thimblelaw11.ApplyMakes': WHATEVER THE INPUT: true; the input reads as it did. -/
def applyMakesSpec : ChangeSpec := { name := "applyMakes", fn := fun _ => fun
  | [d1, d2] => { results := [.lit (.bool true)], args := [d1, d2] }
  | _ => none }
def applyMakesRow : OpenClaim := { program := "ytlhdbccemgofjaagreatdoor", sum := "3c0b770eba8805a8283f71e17dacc017433a33d9d6e9eb1491c091bab2222b24", func := "thimble/thimblelaw11.ApplyMakes", spec := "applyMakes", inPlace := ["internal/bytealg.IndexByteString", "maps.clone"], unfollowed := true, recurses := true, named := ["thimble/op.fields"], plainKeys := false, apart := false, laid := [("thimble/op.fields", laid_thimble_op_fields)] }
def ApplyMakesSaid : Prop := applyMakesRow.holds Tryz.pinned (OpenSpec.ofChange applyMakesSpec)

/-- ITS FALSE NEIGHBOUR: 'it returns false'. Refute it at one input. -/
def applyMakesWrong : ChangeSpec := { name := "applyMakes", fn := fun _ => fun
  | [d1, d2] => { results := [.lit (.bool false)], args := [d1, d2] }
  | _ => none }
def ApplyMakesWrongFalsely : Prop := applyMakesRow.holds Tryz.pinned (OpenSpec.ofChange applyMakesWrong)

/-- 'thimblelaw11.ApplyMoves': WHATEVER THE INPUT: true; the input reads as it did. -/
def applyMovesSpec : ChangeSpec := { name := "applyMoves", fn := fun _ => fun
  | [d1, d2] => { results := [.lit (.bool true)], args := [d1, d2] }
  | _ => none }
def applyMovesRow : OpenClaim := { program := "ytlhdbccemgofjaagreatdoor", sum := "3c0b770eba8805a8283f71e17dacc017433a33d9d6e9eb1491c091bab2222b24", func := "thimble/thimblelaw11.ApplyMoves", spec := "applyMoves", inPlace := ["internal/bytealg.IndexByteString"], unfollowed := true, recurses := true, named := ["thimble/op.fields"], plainKeys := false, apart := false, laid := [("thimble/op.fields", laid_thimble_op_fields)] }
def ApplyMovesSaid : Prop := applyMovesRow.holds Tryz.pinned (OpenSpec.ofChange applyMovesSpec)

/-- ITS FALSE NEIGHBOUR: 'it returns false'. Refute it at one input. -/
def applyMovesWrong : ChangeSpec := { name := "applyMoves", fn := fun _ => fun
  | [d1, d2] => { results := [.lit (.bool false)], args := [d1, d2] }
  | _ => none }
def ApplyMovesWrongFalsely : Prop := applyMovesRow.holds Tryz.pinned (OpenSpec.ofChange applyMovesWrong)

/-- 'thimblelaw11.ApplyData': WHATEVER THE INPUT: true; the input reads as it did. -/
def applyDataSpec : ChangeSpec := { name := "applyData", fn := fun _ => fun
  | [d1, d2, d3] => { results := [.lit (.bool true)], args := [d1, d2, d3] }
  | _ => none }
def applyDataRow : OpenClaim := { program := "ytlhdbccemgofjaagreatdoor", sum := "3c0b770eba8805a8283f71e17dacc017433a33d9d6e9eb1491c091bab2222b24", func := "thimble/thimblelaw11.ApplyData", spec := "applyData", inPlace := ["internal/bytealg.IndexByteString"], unfollowed := true, recurses := true, named := ["thimble/op.fields"], plainKeys := false, apart := false, laid := [("thimble/op.fields", laid_thimble_op_fields)] }
def ApplyDataSaid : Prop := applyDataRow.holds Tryz.pinned (OpenSpec.ofChange applyDataSpec)

/-- ITS FALSE NEIGHBOUR: 'it returns false'. Refute it at one input. -/
def applyDataWrong : ChangeSpec := { name := "applyData", fn := fun _ => fun
  | [d1, d2, d3] => { results := [.lit (.bool false)], args := [d1, d2, d3] }
  | _ => none }
def ApplyDataWrongFalsely : Prop := applyDataRow.holds Tryz.pinned (OpenSpec.ofChange applyDataWrong)

/-- 'thimblelaw11.ApplyApart': WHATEVER THE INPUT: true; the input reads as it did. -/
def applyApartSpec : ChangeSpec := { name := "applyApart", fn := fun _ => fun
  | [d1, d2, d3] => { results := [.lit (.bool true)], args := [d1, d2, d3] }
  | _ => none }
def applyApartRow : OpenClaim := { program := "ytlhdbccemgofjaagreatdoor", sum := "3c0b770eba8805a8283f71e17dacc017433a33d9d6e9eb1491c091bab2222b24", func := "thimble/thimblelaw11.ApplyApart", spec := "applyApart", inPlace := ["internal/bytealg.IndexByteString", "maps.clone"], unfollowed := true, recurses := true, named := ["thimble/op.fields"], plainKeys := false, apart := false, laid := [("thimble/op.fields", laid_thimble_op_fields)] }
def ApplyApartSaid : Prop := applyApartRow.holds Tryz.pinned (OpenSpec.ofChange applyApartSpec)

/-- ITS FALSE NEIGHBOUR: 'it returns false'. Refute it at one input. -/
def applyApartWrong : ChangeSpec := { name := "applyApart", fn := fun _ => fun
  | [d1, d2, d3] => { results := [.lit (.bool false)], args := [d1, d2, d3] }
  | _ => none }
def ApplyApartWrongFalsely : Prop := applyApartRow.holds Tryz.pinned (OpenSpec.ofChange applyApartWrong)

/-- 'thimblelaw11.ApplyGone': WHATEVER THE INPUT: true; the input reads as it did. -/
def applyGoneSpec : ChangeSpec := { name := "applyGone", fn := fun _ => fun
  | [d1, d2] => { results := [.lit (.bool true)], args := [d1, d2] }
  | _ => none }
def applyGoneRow : OpenClaim := { program := "ytlhdbccemgofjaagreatdoor", sum := "3c0b770eba8805a8283f71e17dacc017433a33d9d6e9eb1491c091bab2222b24", func := "thimble/thimblelaw11.ApplyGone", spec := "applyGone", inPlace := ["internal/bytealg.IndexByteString"], unfollowed := true, recurses := true, named := ["thimble/op.fields"], plainKeys := false, apart := false, laid := [("thimble/op.fields", laid_thimble_op_fields)] }
def ApplyGoneSaid : Prop := applyGoneRow.holds Tryz.pinned (OpenSpec.ofChange applyGoneSpec)

/-- ITS FALSE NEIGHBOUR: 'it returns false'. Refute it at one input. -/
def applyGoneWrong : ChangeSpec := { name := "applyGone", fn := fun _ => fun
  | [d1, d2] => { results := [.lit (.bool false)], args := [d1, d2] }
  | _ => none }
def ApplyGoneWrongFalsely : Prop := applyGoneRow.holds Tryz.pinned (OpenSpec.ofChange applyGoneWrong)

/- THE SECOND FORM. 'bulk': how many values and letters a reading holds, each counted each time it is reached (what is shared counts as often as it is met; a slice's spare places count too). A statement '..UptoSaid' is the law's where the arguments, and the package variables that the reading takes, are together of bulk at most 1048576: NARROWER than '..Said'. Prove '..Said' where nothing that the law and all that it calls make is longer than what came in: it says more and counts as full. Else prove '..UptoSaid'. A law counts once. -/
mutual
def uptoBulk {H : Type} : DataW H → Nat
  | .lit (.string bytes) => bytes.length + 1
  | .lit _ => 1
  | .nil => 1
  | .ptr d => uptoBulk d + 1
  | .slice elems spare => uptoBulkAll elems + uptoBulkAll spare + 1
  | .agg parts => uptoBulkAll parts + 1
  | .iface _ d => uptoBulk d + 1
  | .map entries => uptoBulkEntries entries + 1
  | .held _ => 1
def uptoBulkAll {H : Type} : List (DataW H) → Nat
  | [] => 0
  | d :: r => uptoBulk d + uptoBulkAll r
def uptoBulkEntries {H : Type} : List (Lit × DataW H) → Nat
  | [] => 0
  | x :: r => uptoBulkEntry x + uptoBulkEntries r
def uptoBulkEntry {H : Type} : Lit × DataW H → Nat
  | (.string bytes, d) => bytes.length + uptoBulk d + 1
  | (_, d) => uptoBulk d + 1
 end
def uptoSmall : (H : Type) → List (DataW H) → Bool := fun _ ds => decide (uptoBulkAll ds ≤ 1048576)
def OpenSpec.upto (s : _root_.Go.ChangeSpec) : _root_.Go.OpenSpec := { _root_.Go.OpenSpec.ofChange s with cond := some uptoSmall }

/-- 'thimblelaw11.ApplyTells', WHERE WHAT IT READS IS OF BULK AT MOST 1048576: true; the input reads as it did. -/
def applyTellsUptoRow : OpenClaim := { program := "ytlhdbccemgofjaagreatdoor", sum := "3c0b770eba8805a8283f71e17dacc017433a33d9d6e9eb1491c091bab2222b24", func := "thimble/thimblelaw11.ApplyTells", spec := "applyTells", inPlace := ["internal/bytealg.IndexByteString"], unfollowed := true, recurses := true, named := ["thimble/op.fields"], plainKeys := false, apart := false, laid := [("thimble/op.fields", laid_thimble_op_fields)], narrowed := true }
def ApplyTellsUptoSaid : Prop := applyTellsUptoRow.holds Tryz.pinned (OpenSpec.upto applyTellsSpec)

/-- 'thimblelaw11.ApplyFine', WHERE WHAT IT READS IS OF BULK AT MOST 1048576: true; the input reads as it did. -/
def applyFineUptoRow : OpenClaim := { program := "ytlhdbccemgofjaagreatdoor", sum := "3c0b770eba8805a8283f71e17dacc017433a33d9d6e9eb1491c091bab2222b24", func := "thimble/thimblelaw11.ApplyFine", spec := "applyFine", inPlace := ["internal/bytealg.IndexByteString"], unfollowed := true, recurses := true, named := ["thimble/op.fields"], plainKeys := false, apart := false, laid := [("thimble/op.fields", laid_thimble_op_fields)], narrowed := true }
def ApplyFineUptoSaid : Prop := applyFineUptoRow.holds Tryz.pinned (OpenSpec.upto applyFineSpec)

/-- 'thimblelaw11.ApplyNothing', WHERE WHAT IT READS IS OF BULK AT MOST 1048576: true; the input reads as it did. -/
def applyNothingUptoRow : OpenClaim := { program := "ytlhdbccemgofjaagreatdoor", sum := "3c0b770eba8805a8283f71e17dacc017433a33d9d6e9eb1491c091bab2222b24", func := "thimble/thimblelaw11.ApplyNothing", spec := "applyNothing", inPlace := ["internal/bytealg.IndexByteString", "maps.clone"], unfollowed := true, recurses := true, named := ["thimble/op.fields"], plainKeys := false, apart := false, laid := [("thimble/op.fields", laid_thimble_op_fields)], narrowed := true }
def ApplyNothingUptoSaid : Prop := applyNothingUptoRow.holds Tryz.pinned (OpenSpec.upto applyNothingSpec)

/-- 'thimblelaw11.ApplyMakes', WHERE WHAT IT READS IS OF BULK AT MOST 1048576: true; the input reads as it did. -/
def applyMakesUptoRow : OpenClaim := { program := "ytlhdbccemgofjaagreatdoor", sum := "3c0b770eba8805a8283f71e17dacc017433a33d9d6e9eb1491c091bab2222b24", func := "thimble/thimblelaw11.ApplyMakes", spec := "applyMakes", inPlace := ["internal/bytealg.IndexByteString", "maps.clone"], unfollowed := true, recurses := true, named := ["thimble/op.fields"], plainKeys := false, apart := false, laid := [("thimble/op.fields", laid_thimble_op_fields)], narrowed := true }
def ApplyMakesUptoSaid : Prop := applyMakesUptoRow.holds Tryz.pinned (OpenSpec.upto applyMakesSpec)

/-- 'thimblelaw11.ApplyMoves', WHERE WHAT IT READS IS OF BULK AT MOST 1048576: true; the input reads as it did. -/
def applyMovesUptoRow : OpenClaim := { program := "ytlhdbccemgofjaagreatdoor", sum := "3c0b770eba8805a8283f71e17dacc017433a33d9d6e9eb1491c091bab2222b24", func := "thimble/thimblelaw11.ApplyMoves", spec := "applyMoves", inPlace := ["internal/bytealg.IndexByteString"], unfollowed := true, recurses := true, named := ["thimble/op.fields"], plainKeys := false, apart := false, laid := [("thimble/op.fields", laid_thimble_op_fields)], narrowed := true }
def ApplyMovesUptoSaid : Prop := applyMovesUptoRow.holds Tryz.pinned (OpenSpec.upto applyMovesSpec)

/-- 'thimblelaw11.ApplyData', WHERE WHAT IT READS IS OF BULK AT MOST 1048576: true; the input reads as it did. -/
def applyDataUptoRow : OpenClaim := { program := "ytlhdbccemgofjaagreatdoor", sum := "3c0b770eba8805a8283f71e17dacc017433a33d9d6e9eb1491c091bab2222b24", func := "thimble/thimblelaw11.ApplyData", spec := "applyData", inPlace := ["internal/bytealg.IndexByteString"], unfollowed := true, recurses := true, named := ["thimble/op.fields"], plainKeys := false, apart := false, laid := [("thimble/op.fields", laid_thimble_op_fields)], narrowed := true }
def ApplyDataUptoSaid : Prop := applyDataUptoRow.holds Tryz.pinned (OpenSpec.upto applyDataSpec)

/-- 'thimblelaw11.ApplyApart', WHERE WHAT IT READS IS OF BULK AT MOST 1048576: true; the input reads as it did. -/
def applyApartUptoRow : OpenClaim := { program := "ytlhdbccemgofjaagreatdoor", sum := "3c0b770eba8805a8283f71e17dacc017433a33d9d6e9eb1491c091bab2222b24", func := "thimble/thimblelaw11.ApplyApart", spec := "applyApart", inPlace := ["internal/bytealg.IndexByteString", "maps.clone"], unfollowed := true, recurses := true, named := ["thimble/op.fields"], plainKeys := false, apart := false, laid := [("thimble/op.fields", laid_thimble_op_fields)], narrowed := true }
def ApplyApartUptoSaid : Prop := applyApartUptoRow.holds Tryz.pinned (OpenSpec.upto applyApartSpec)

/-- 'thimblelaw11.ApplyGone', WHERE WHAT IT READS IS OF BULK AT MOST 1048576: true; the input reads as it did. -/
def applyGoneUptoRow : OpenClaim := { program := "ytlhdbccemgofjaagreatdoor", sum := "3c0b770eba8805a8283f71e17dacc017433a33d9d6e9eb1491c091bab2222b24", func := "thimble/thimblelaw11.ApplyGone", spec := "applyGone", inPlace := ["internal/bytealg.IndexByteString"], unfollowed := true, recurses := true, named := ["thimble/op.fields"], plainKeys := false, apart := false, laid := [("thimble/op.fields", laid_thimble_op_fields)], narrowed := true }
def ApplyGoneUptoSaid : Prop := applyGoneUptoRow.holds Tryz.pinned (OpenSpec.upto applyGoneSpec)

end Rows
end Go.Proofs.YtlhdbccemgofjaaGreatDoor
