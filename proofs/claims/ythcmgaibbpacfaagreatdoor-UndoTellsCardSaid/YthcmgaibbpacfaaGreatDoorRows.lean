/-
  NARROWER THAN 'FOR EVERY INPUT', by the rows' own cells (each row's printed sentence says how): UndoTells: laid · UndoBack: laid · UndoFew: laid · UndoSelf: laid · UndoThree: laid.
  DERIVED. THE GIVEN ROWS OF THIS SEAT. 5 by the template 'for every input the law returns true; each argument reads behind the call as it read before'; 0 by the template 'total and deterministic' (their statements: YthcmgaibbpacfaaGreatDoorTotals.lean).
  GIVEN WITH THE SEED: the statements are not yours to turn. If you find one false, say at which input.
  Laid BY PROGRAM, IN A SANDBOX (cutbox-rows.mjs): the forced cells as the released guide's own fill.sh prints them over the translation 8323536be4b2a33e… (all of the seat's roots in one cut). By AI agents, Wed Nov 11 2026. No macro, syntax, notation, axiom, sorry.
-/
import Derived.Test.YthcmgaibbpacfaaGreatDoorChecked
import GoSem.Claim
import GoSem.ClaimJoined
import GoSem.ClaimMapViews
import Derived.JoinedTies
import Derived.KernelRfl
namespace Go.Proofs.YthcmgaibbpacfaaGreatDoor
/- THE CELL 'sum', in the pinned program and in every row, IS THE sha256 OF THE DUMP (.gsa) THAT YthcmgaibbpacfaaGreatDoorProg.lean LOADS. Nothing in Lean hashes anything: it is a label: what it is worth is what the hold of that sum in a sandbox is worth. -/
noncomputable def Tryz.pinned : Pinned := { name := "ythcmgaibbpacfaagreatdoor", sum := "8323536be4b2a33ed19004151113a76eefca5976d988a656c856a9287c15cf67", checked := Tryz.checked }
namespace Rows
def none {H : Type} : Left H := { results := [], args := [] }

/- WHAT THE LISTED PACKAGE-LEVEL VARIABLES READ AS WHEN THE CALL BEGINS. Each datum BY PROGRAM (the guide's laid-datum.mjs) off the statement by which the dump's own 'gosem.cut.vars' lays the variable. In a bare row this is a premise. The card (YthcmgaibbpacfaaGreatDoorCards.lean) ties it to the program's text. -/
def laid_thimble_op_fields {H : Type} : DataW H := .agg [.lit (.int .i64 0), .lit (.int .i64 9), .lit (.int .i64 9), .lit (.int .i64 73), .lit (.int .i64 11), .lit (.int .i64 11), .lit (.int .i64 11), .lit (.int .i64 31), .lit (.int .i64 98), .lit (.int .i64 34), .lit (.int .i64 34)]

/-- 'thimblelaw12.UndoTells': WHATEVER THE INPUT: true; the input reads as it did. -/
def undoTellsSpec : ChangeSpec := { name := "undoTells", fn := fun _ => fun
  | [d1, d2, d3] => { results := [.lit (.bool true)], args := [d1, d2, d3] }
  | _ => none }
def undoTellsRow : OpenClaim := { program := "ythcmgaibbpacfaagreatdoor", sum := "8323536be4b2a33ed19004151113a76eefca5976d988a656c856a9287c15cf67", func := "thimble/thimblelaw12.UndoTells", spec := "undoTells", inPlace := ["maps.clone", "internal/bytealg.IndexByteString"], unfollowed := true, recurses := true, named := ["thimble/op.fields"], plainKeys := false, apart := false, laid := [("thimble/op.fields", laid_thimble_op_fields)] }
def UndoTellsSaid : Prop := undoTellsRow.holds Tryz.pinned (OpenSpec.ofChange undoTellsSpec)

/-- ITS FALSE NEIGHBOUR: 'it returns false'. Refute it at one input. -/
def undoTellsWrong : ChangeSpec := { name := "undoTells", fn := fun _ => fun
  | [d1, d2, d3] => { results := [.lit (.bool false)], args := [d1, d2, d3] }
  | _ => none }
def UndoTellsWrongFalsely : Prop := undoTellsRow.holds Tryz.pinned (OpenSpec.ofChange undoTellsWrong)

/-- 'thimblelaw12.UndoBack': WHATEVER THE INPUT: true; the input reads as it did. -/
def undoBackSpec : ChangeSpec := { name := "undoBack", fn := fun _ => fun
  | [d1, d2] => { results := [.lit (.bool true)], args := [d1, d2] }
  | _ => none }
def undoBackRow : OpenClaim := { program := "ythcmgaibbpacfaagreatdoor", sum := "8323536be4b2a33ed19004151113a76eefca5976d988a656c856a9287c15cf67", func := "thimble/thimblelaw12.UndoBack", spec := "undoBack", inPlace := ["maps.clone", "internal/bytealg.IndexByteString"], unfollowed := true, recurses := true, named := ["thimble/op.fields"], plainKeys := false, apart := false, laid := [("thimble/op.fields", laid_thimble_op_fields)] }
def UndoBackSaid : Prop := undoBackRow.holds Tryz.pinned (OpenSpec.ofChange undoBackSpec)

/-- ITS FALSE NEIGHBOUR: 'it returns false'. Refute it at one input. -/
def undoBackWrong : ChangeSpec := { name := "undoBack", fn := fun _ => fun
  | [d1, d2] => { results := [.lit (.bool false)], args := [d1, d2] }
  | _ => none }
def UndoBackWrongFalsely : Prop := undoBackRow.holds Tryz.pinned (OpenSpec.ofChange undoBackWrong)

/-- 'thimblelaw12.UndoFew': WHATEVER THE INPUT: true; the input reads as it did. -/
def undoFewSpec : ChangeSpec := { name := "undoFew", fn := fun _ => fun
  | [d1, d2] => { results := [.lit (.bool true)], args := [d1, d2] }
  | _ => none }
def undoFewRow : OpenClaim := { program := "ythcmgaibbpacfaagreatdoor", sum := "8323536be4b2a33ed19004151113a76eefca5976d988a656c856a9287c15cf67", func := "thimble/thimblelaw12.UndoFew", spec := "undoFew", inPlace := ["maps.clone", "internal/bytealg.IndexByteString"], unfollowed := true, recurses := true, named := ["thimble/op.fields"], plainKeys := false, apart := false, laid := [("thimble/op.fields", laid_thimble_op_fields)] }
def UndoFewSaid : Prop := undoFewRow.holds Tryz.pinned (OpenSpec.ofChange undoFewSpec)

/-- ITS FALSE NEIGHBOUR: 'it returns false'. Refute it at one input. -/
def undoFewWrong : ChangeSpec := { name := "undoFew", fn := fun _ => fun
  | [d1, d2] => { results := [.lit (.bool false)], args := [d1, d2] }
  | _ => none }
def UndoFewWrongFalsely : Prop := undoFewRow.holds Tryz.pinned (OpenSpec.ofChange undoFewWrong)

/-- 'thimblelaw12.UndoSelf': WHATEVER THE INPUT: true; the input reads as it did. -/
def undoSelfSpec : ChangeSpec := { name := "undoSelf", fn := fun _ => fun
  | [d1, d2] => { results := [.lit (.bool true)], args := [d1, d2] }
  | _ => none }
def undoSelfRow : OpenClaim := { program := "ythcmgaibbpacfaagreatdoor", sum := "8323536be4b2a33ed19004151113a76eefca5976d988a656c856a9287c15cf67", func := "thimble/thimblelaw12.UndoSelf", spec := "undoSelf", inPlace := ["maps.clone", "internal/bytealg.IndexByteString"], unfollowed := true, recurses := true, named := ["thimble/op.fields"], plainKeys := false, apart := false, laid := [("thimble/op.fields", laid_thimble_op_fields)] }
def UndoSelfSaid : Prop := undoSelfRow.holds Tryz.pinned (OpenSpec.ofChange undoSelfSpec)

/-- ITS FALSE NEIGHBOUR: 'it returns false'. Refute it at one input. -/
def undoSelfWrong : ChangeSpec := { name := "undoSelf", fn := fun _ => fun
  | [d1, d2] => { results := [.lit (.bool false)], args := [d1, d2] }
  | _ => none }
def UndoSelfWrongFalsely : Prop := undoSelfRow.holds Tryz.pinned (OpenSpec.ofChange undoSelfWrong)

/-- 'thimblelaw12.UndoThree': WHATEVER THE INPUT: true; the input reads as it did. -/
def undoThreeSpec : ChangeSpec := { name := "undoThree", fn := fun _ => fun
  | [d1, d2, d3] => { results := [.lit (.bool true)], args := [d1, d2, d3] }
  | _ => none }
def undoThreeRow : OpenClaim := { program := "ythcmgaibbpacfaagreatdoor", sum := "8323536be4b2a33ed19004151113a76eefca5976d988a656c856a9287c15cf67", func := "thimble/thimblelaw12.UndoThree", spec := "undoThree", inPlace := ["maps.clone", "internal/bytealg.IndexByteString"], unfollowed := true, recurses := true, named := ["thimble/op.fields"], plainKeys := false, apart := false, laid := [("thimble/op.fields", laid_thimble_op_fields)] }
def UndoThreeSaid : Prop := undoThreeRow.holds Tryz.pinned (OpenSpec.ofChange undoThreeSpec)

/-- ITS FALSE NEIGHBOUR: 'it returns false'. Refute it at one input. -/
def undoThreeWrong : ChangeSpec := { name := "undoThree", fn := fun _ => fun
  | [d1, d2, d3] => { results := [.lit (.bool false)], args := [d1, d2, d3] }
  | _ => none }
def UndoThreeWrongFalsely : Prop := undoThreeRow.holds Tryz.pinned (OpenSpec.ofChange undoThreeWrong)

/- THE SECOND FORM. 'bulk': how many values and letters a reading holds, each counted each time it is reached (what is shared counts as often as it is met; a slice's spare places count too). A statement '..UptoSaid' is the law's where the arguments, and the package variables that the reading takes, are together of bulk at most 1048576: NARROWER than '..Said'. Prove '..Said' where nothing that the law and all that it calls make is longer than what came in: it says more and counts as full. Else prove '..UptoSaid'. A law counts once. -/
mutual
def uptoBulk {H : Type} : DataW H → Nat
  | .lit (.string bytes) => bytes.length + 1
  | .lit _ => 1
  | .nil => 1
  | .ptr d => uptoBulk d + 1
  | .slice elems spare => uptoBulkAll elems + uptoBulkAll spare + 1
  | .agg parts => uptoBulkAll parts + 1
  | .iface _ d => uptoBulk d + 1
  | .map entries => uptoBulkEntries entries + 1
  | .held _ => 1
def uptoBulkAll {H : Type} : List (DataW H) → Nat
  | [] => 0
  | d :: r => uptoBulk d + uptoBulkAll r
def uptoBulkEntries {H : Type} : List (Lit × DataW H) → Nat
  | [] => 0
  | x :: r => uptoBulkEntry x + uptoBulkEntries r
def uptoBulkEntry {H : Type} : Lit × DataW H → Nat
  | (.string bytes, d) => bytes.length + uptoBulk d + 1
  | (_, d) => uptoBulk d + 1
 end
def uptoSmall : (H : Type) → List (DataW H) → Bool := fun _ ds => decide (uptoBulkAll ds ≤ 1048576)
def OpenSpec.upto (s : _root_.Go.ChangeSpec) : _root_.Go.OpenSpec := { _root_.Go.OpenSpec.ofChange s with cond := some uptoSmall }

/-- 'thimblelaw12.UndoTells', WHERE WHAT IT READS IS OF BULK AT MOST 1048576: true; the input reads as it did. -/
def undoTellsUptoRow : OpenClaim := { program := "ythcmgaibbpacfaagreatdoor", sum := "8323536be4b2a33ed19004151113a76eefca5976d988a656c856a9287c15cf67", func := "thimble/thimblelaw12.UndoTells", spec := "undoTells", inPlace := ["maps.clone", "internal/bytealg.IndexByteString"], unfollowed := true, recurses := true, named := ["thimble/op.fields"], plainKeys := false, apart := false, laid := [("thimble/op.fields", laid_thimble_op_fields)], narrowed := true }
def UndoTellsUptoSaid : Prop := undoTellsUptoRow.holds Tryz.pinned (OpenSpec.upto undoTellsSpec)

/-- 'thimblelaw12.UndoBack', WHERE WHAT IT READS IS OF BULK AT MOST 1048576: true; the input reads as it did. -/
def undoBackUptoRow : OpenClaim := { program := "ythcmgaibbpacfaagreatdoor", sum := "8323536be4b2a33ed19004151113a76eefca5976d988a656c856a9287c15cf67", func := "thimble/thimblelaw12.UndoBack", spec := "undoBack", inPlace := ["maps.clone", "internal/bytealg.IndexByteString"], unfollowed := true, recurses := true, named := ["thimble/op.fields"], plainKeys := false, apart := false, laid := [("thimble/op.fields", laid_thimble_op_fields)], narrowed := true }
def UndoBackUptoSaid : Prop := undoBackUptoRow.holds Tryz.pinned (OpenSpec.upto undoBackSpec)

/-- 'thimblelaw12.UndoFew', WHERE WHAT IT READS IS OF BULK AT MOST 1048576: true; the input reads as it did. -/
def undoFewUptoRow : OpenClaim := { program := "ythcmgaibbpacfaagreatdoor", sum := "8323536be4b2a33ed19004151113a76eefca5976d988a656c856a9287c15cf67", func := "thimble/thimblelaw12.UndoFew", spec := "undoFew", inPlace := ["maps.clone", "internal/bytealg.IndexByteString"], unfollowed := true, recurses := true, named := ["thimble/op.fields"], plainKeys := false, apart := false, laid := [("thimble/op.fields", laid_thimble_op_fields)], narrowed := true }
def UndoFewUptoSaid : Prop := undoFewUptoRow.holds Tryz.pinned (OpenSpec.upto undoFewSpec)

/-- 'thimblelaw12.UndoSelf', WHERE WHAT IT READS IS OF BULK AT MOST 1048576: true; the input reads as it did. -/
def undoSelfUptoRow : OpenClaim := { program := "ythcmgaibbpacfaagreatdoor", sum := "8323536be4b2a33ed19004151113a76eefca5976d988a656c856a9287c15cf67", func := "thimble/thimblelaw12.UndoSelf", spec := "undoSelf", inPlace := ["maps.clone", "internal/bytealg.IndexByteString"], unfollowed := true, recurses := true, named := ["thimble/op.fields"], plainKeys := false, apart := false, laid := [("thimble/op.fields", laid_thimble_op_fields)], narrowed := true }
def UndoSelfUptoSaid : Prop := undoSelfUptoRow.holds Tryz.pinned (OpenSpec.upto undoSelfSpec)

/-- 'thimblelaw12.UndoThree', WHERE WHAT IT READS IS OF BULK AT MOST 1048576: true; the input reads as it did. -/
def undoThreeUptoRow : OpenClaim := { program := "ythcmgaibbpacfaagreatdoor", sum := "8323536be4b2a33ed19004151113a76eefca5976d988a656c856a9287c15cf67", func := "thimble/thimblelaw12.UndoThree", spec := "undoThree", inPlace := ["maps.clone", "internal/bytealg.IndexByteString"], unfollowed := true, recurses := true, named := ["thimble/op.fields"], plainKeys := false, apart := false, laid := [("thimble/op.fields", laid_thimble_op_fields)], narrowed := true }
def UndoThreeUptoSaid : Prop := undoThreeUptoRow.holds Tryz.pinned (OpenSpec.upto undoThreeSpec)

end Rows
end Go.Proofs.YthcmgaibbpacfaaGreatDoor
