/-
  NARROWER THAN 'FOR EVERY INPUT', by the rows' own cells (each row's printed sentence says how): OpTells: laid · OpBack: laid · OpFields: laid · OpNames: laid · OpUses: laid · OpStamps: laid.
  DERIVED. THE GIVEN ROWS OF THIS SEAT. 6 by the template 'for every input the law returns true; each argument reads behind the call as it read before'; 0 by the template 'total and deterministic' (their statements: YteknegfocnopgaaDoorTotals.lean).
  GIVEN WITH THE SEED: the statements are not yours to turn. If you find one false, say at which input.
  Laid BY PROGRAM, IN A SANDBOX (cutbox-rows.mjs): the forced cells as the released guide's own fill.sh prints them over the translation 9846f9c9b650414a… (all of the seat's roots in one cut). By AI agents, Wed Nov 11 2026. No macro, syntax, notation, axiom, sorry.
-/
import Derived.Test.YteknegfocnopgaaDoorChecked
import GoSem.Claim
import GoSem.ClaimJoined
import GoSem.ClaimMapViews
import Derived.JoinedTies
import Derived.KernelRfl
namespace Go.Proofs.YteknegfocnopgaaDoor
/- THE CELL 'sum', in the pinned program and in every row, IS THE sha256 OF THE DUMP (.gsa) THAT YteknegfocnopgaaDoorProg.lean LOADS. Nothing in Lean hashes anything: it is a label: what it is worth is what the hold of that sum in a sandbox is worth. -/
noncomputable def Tryd.pinned : Pinned := { name := "yteknegfocnopgaadoor", sum := "9846f9c9b650414ae873c6c22ad490f299b66c6c466a298ac59fafe9aeb914a3", checked := Tryd.checked }
namespace Rows
def none {H : Type} : Left H := { results := [], args := [] }

/- WHAT THE LISTED PACKAGE-LEVEL VARIABLES READ AS WHEN THE CALL BEGINS. Each datum BY PROGRAM (the guide's laid-datum.mjs) off the statement by which the dump's own 'gosem.cut.vars' lays the variable. In a bare row this is a premise. The card (YteknegfocnopgaaDoorCards.lean) ties it to the program's text. -/
def laid_thimble_op_fields {H : Type} : DataW H := .agg [.lit (.int .i64 0), .lit (.int .i64 9), .lit (.int .i64 9), .lit (.int .i64 73), .lit (.int .i64 11), .lit (.int .i64 11), .lit (.int .i64 11), .lit (.int .i64 31), .lit (.int .i64 98), .lit (.int .i64 34), .lit (.int .i64 34)]

/-- 'thimblelaw05.OpTells': WHATEVER THE INPUT: true; the input reads as it did. -/
def opTellsSpec : ChangeSpec := { name := "opTells", fn := fun _ => fun
  | [d1, d2] => { results := [.lit (.bool true)], args := [d1, d2] }
  | _ => none }
def opTellsRow : OpenClaim := { program := "yteknegfocnopgaadoor", sum := "9846f9c9b650414ae873c6c22ad490f299b66c6c466a298ac59fafe9aeb914a3", func := "thimble/thimblelaw05.OpTells", spec := "opTells", inPlace := ["internal/bytealg.IndexByteString"], recurses := true, named := ["thimble/op.fields"], apart := false, laid := [("thimble/op.fields", laid_thimble_op_fields)] }
def OpTellsSaid : Prop := opTellsRow.holds Tryd.pinned (OpenSpec.ofChange opTellsSpec)

/-- ITS FALSE NEIGHBOUR: 'it returns false'. Refute it at one input. -/
def opTellsWrong : ChangeSpec := { name := "opTells", fn := fun _ => fun
  | [d1, d2] => { results := [.lit (.bool false)], args := [d1, d2] }
  | _ => none }
def OpTellsWrongFalsely : Prop := opTellsRow.holds Tryd.pinned (OpenSpec.ofChange opTellsWrong)

/-- 'thimblelaw05.OpBack': WHATEVER THE INPUT: true; the input reads as it did. -/
def opBackSpec : ChangeSpec := { name := "opBack", fn := fun _ => fun
  | [d1, d2] => { results := [.lit (.bool true)], args := [d1, d2] }
  | _ => none }
def opBackRow : OpenClaim := { program := "yteknegfocnopgaadoor", sum := "9846f9c9b650414ae873c6c22ad490f299b66c6c466a298ac59fafe9aeb914a3", func := "thimble/thimblelaw05.OpBack", spec := "opBack", inPlace := ["internal/bytealg.IndexByteString"], named := ["thimble/op.fields"], apart := false, laid := [("thimble/op.fields", laid_thimble_op_fields)] }
def OpBackSaid : Prop := opBackRow.holds Tryd.pinned (OpenSpec.ofChange opBackSpec)

/-- ITS FALSE NEIGHBOUR: 'it returns false'. Refute it at one input. -/
def opBackWrong : ChangeSpec := { name := "opBack", fn := fun _ => fun
  | [d1, d2] => { results := [.lit (.bool false)], args := [d1, d2] }
  | _ => none }
def OpBackWrongFalsely : Prop := opBackRow.holds Tryd.pinned (OpenSpec.ofChange opBackWrong)

/-- 'thimblelaw05.OpFields': WHATEVER THE INPUT: true; the input reads as it did. -/
def opFieldsSpec : ChangeSpec := { name := "opFields", fn := fun _ => fun
  | [d1, d2] => { results := [.lit (.bool true)], args := [d1, d2] }
  | _ => none }
def opFieldsRow : OpenClaim := { program := "yteknegfocnopgaadoor", sum := "9846f9c9b650414ae873c6c22ad490f299b66c6c466a298ac59fafe9aeb914a3", func := "thimble/thimblelaw05.OpFields", spec := "opFields", inPlace := ["internal/bytealg.IndexByteString"], named := ["thimble/op.fields"], apart := false, laid := [("thimble/op.fields", laid_thimble_op_fields)] }
def OpFieldsSaid : Prop := opFieldsRow.holds Tryd.pinned (OpenSpec.ofChange opFieldsSpec)

/-- ITS FALSE NEIGHBOUR: 'it returns false'. Refute it at one input. -/
def opFieldsWrong : ChangeSpec := { name := "opFields", fn := fun _ => fun
  | [d1, d2] => { results := [.lit (.bool false)], args := [d1, d2] }
  | _ => none }
def OpFieldsWrongFalsely : Prop := opFieldsRow.holds Tryd.pinned (OpenSpec.ofChange opFieldsWrong)

/-- 'thimblelaw05.OpNames': WHATEVER THE INPUT: true; the input reads as it did. -/
def opNamesSpec : ChangeSpec := { name := "opNames", fn := fun _ => fun
  | [d1, d2] => { results := [.lit (.bool true)], args := [d1, d2] }
  | _ => none }
def opNamesRow : OpenClaim := { program := "yteknegfocnopgaadoor", sum := "9846f9c9b650414ae873c6c22ad490f299b66c6c466a298ac59fafe9aeb914a3", func := "thimble/thimblelaw05.OpNames", spec := "opNames", inPlace := ["internal/bytealg.IndexByteString"], named := ["thimble/op.fields"], apart := false, laid := [("thimble/op.fields", laid_thimble_op_fields)] }
def OpNamesSaid : Prop := opNamesRow.holds Tryd.pinned (OpenSpec.ofChange opNamesSpec)

/-- ITS FALSE NEIGHBOUR: 'it returns false'. Refute it at one input. -/
def opNamesWrong : ChangeSpec := { name := "opNames", fn := fun _ => fun
  | [d1, d2] => { results := [.lit (.bool false)], args := [d1, d2] }
  | _ => none }
def OpNamesWrongFalsely : Prop := opNamesRow.holds Tryd.pinned (OpenSpec.ofChange opNamesWrong)

/-- 'thimblelaw05.OpUses': WHATEVER THE INPUT: true; the input reads as it did. -/
def opUsesSpec : ChangeSpec := { name := "opUses", fn := fun _ => fun
  | [d] => { results := [.lit (.bool true)], args := [d] }
  | _ => none }
def opUsesRow : OpenClaim := { program := "yteknegfocnopgaadoor", sum := "9846f9c9b650414ae873c6c22ad490f299b66c6c466a298ac59fafe9aeb914a3", func := "thimble/thimblelaw05.OpUses", spec := "opUses", inPlace := ["internal/bytealg.IndexByteString"], named := ["thimble/op.fields"], apart := false, laid := [("thimble/op.fields", laid_thimble_op_fields)] }
def OpUsesSaid : Prop := opUsesRow.holds Tryd.pinned (OpenSpec.ofChange opUsesSpec)

/-- ITS FALSE NEIGHBOUR: 'it returns false'. Refute it at one input. -/
def opUsesWrong : ChangeSpec := { name := "opUses", fn := fun _ => fun
  | [d] => { results := [.lit (.bool false)], args := [d] }
  | _ => none }
def OpUsesWrongFalsely : Prop := opUsesRow.holds Tryd.pinned (OpenSpec.ofChange opUsesWrong)

/-- 'thimblelaw05.OpStamps': WHATEVER THE INPUT: true; the input reads as it did. -/
def opStampsSpec : ChangeSpec := { name := "opStamps", fn := fun _ => fun
  | [d1, d2, d3] => { results := [.lit (.bool true)], args := [d1, d2, d3] }
  | _ => none }
def opStampsRow : OpenClaim := { program := "yteknegfocnopgaadoor", sum := "9846f9c9b650414ae873c6c22ad490f299b66c6c466a298ac59fafe9aeb914a3", func := "thimble/thimblelaw05.OpStamps", spec := "opStamps", inPlace := ["internal/bytealg.IndexByteString"], named := ["thimble/op.fields"], apart := false, laid := [("thimble/op.fields", laid_thimble_op_fields)] }
def OpStampsSaid : Prop := opStampsRow.holds Tryd.pinned (OpenSpec.ofChange opStampsSpec)

/-- ITS FALSE NEIGHBOUR: 'it returns false'. Refute it at one input. -/
def opStampsWrong : ChangeSpec := { name := "opStamps", fn := fun _ => fun
  | [d1, d2, d3] => { results := [.lit (.bool false)], args := [d1, d2, d3] }
  | _ => none }
def OpStampsWrongFalsely : Prop := opStampsRow.holds Tryd.pinned (OpenSpec.ofChange opStampsWrong)

/- THE SECOND FORM. 'bulk': how many values and letters a reading holds, each counted each time it is reached (what is shared counts as often as it is met; a slice's spare places count too). A statement '..UptoSaid' is the law's where the arguments, and the package variables that the reading takes, are together of bulk at most 1048576: NARROWER than '..Said'. Prove '..Said' where nothing that the law and all that it calls make is longer than what came in: it says more and counts as full. Else prove '..UptoSaid'. A law counts once. -/
mutual
def uptoBulk {H : Type} : DataW H → Nat
  | .lit (.string bytes) => bytes.length + 1
  | .lit _ => 1
  | .nil => 1
  | .ptr d => uptoBulk d + 1
  | .slice elems spare => uptoBulkAll elems + uptoBulkAll spare + 1
  | .agg parts => uptoBulkAll parts + 1
  | .iface _ d => uptoBulk d + 1
  | .map entries => uptoBulkEntries entries + 1
  | .held _ => 1
def uptoBulkAll {H : Type} : List (DataW H) → Nat
  | [] => 0
  | d :: r => uptoBulk d + uptoBulkAll r
def uptoBulkEntries {H : Type} : List (Lit × DataW H) → Nat
  | [] => 0
  | x :: r => uptoBulkEntry x + uptoBulkEntries r
def uptoBulkEntry {H : Type} : Lit × DataW H → Nat
  | (.string bytes, d) => bytes.length + uptoBulk d + 1
  | (_, d) => uptoBulk d + 1
 end
def uptoSmall : (H : Type) → List (DataW H) → Bool := fun _ ds => decide (uptoBulkAll ds ≤ 1048576)
def OpenSpec.upto (s : _root_.Go.ChangeSpec) : _root_.Go.OpenSpec := { _root_.Go.OpenSpec.ofChange s with cond := some uptoSmall }

/-- 'thimblelaw05.OpTells', WHERE WHAT IT READS IS OF BULK AT MOST 1048576: true; the input reads as it did. -/
def opTellsUptoRow : OpenClaim := { program := "yteknegfocnopgaadoor", sum := "9846f9c9b650414ae873c6c22ad490f299b66c6c466a298ac59fafe9aeb914a3", func := "thimble/thimblelaw05.OpTells", spec := "opTells", inPlace := ["internal/bytealg.IndexByteString"], recurses := true, named := ["thimble/op.fields"], apart := false, laid := [("thimble/op.fields", laid_thimble_op_fields)], narrowed := true }
def OpTellsUptoSaid : Prop := opTellsUptoRow.holds Tryd.pinned (OpenSpec.upto opTellsSpec)

/-- 'thimblelaw05.OpBack', WHERE WHAT IT READS IS OF BULK AT MOST 1048576: true; the input reads as it did. -/
def opBackUptoRow : OpenClaim := { program := "yteknegfocnopgaadoor", sum := "9846f9c9b650414ae873c6c22ad490f299b66c6c466a298ac59fafe9aeb914a3", func := "thimble/thimblelaw05.OpBack", spec := "opBack", inPlace := ["internal/bytealg.IndexByteString"], named := ["thimble/op.fields"], apart := false, laid := [("thimble/op.fields", laid_thimble_op_fields)], narrowed := true }
def OpBackUptoSaid : Prop := opBackUptoRow.holds Tryd.pinned (OpenSpec.upto opBackSpec)

/-- 'thimblelaw05.OpFields', WHERE WHAT IT READS IS OF BULK AT MOST 1048576: true; the input reads as it did. -/
def opFieldsUptoRow : OpenClaim := { program := "yteknegfocnopgaadoor", sum := "9846f9c9b650414ae873c6c22ad490f299b66c6c466a298ac59fafe9aeb914a3", func := "thimble/thimblelaw05.OpFields", spec := "opFields", inPlace := ["internal/bytealg.IndexByteString"], named := ["thimble/op.fields"], apart := false, laid := [("thimble/op.fields", laid_thimble_op_fields)], narrowed := true }
def OpFieldsUptoSaid : Prop := opFieldsUptoRow.holds Tryd.pinned (OpenSpec.upto opFieldsSpec)

/-- 'thimblelaw05.OpNames', WHERE WHAT IT READS IS OF BULK AT MOST 1048576: true; the input reads as it did. -/
def opNamesUptoRow : OpenClaim := { program := "yteknegfocnopgaadoor", sum := "9846f9c9b650414ae873c6c22ad490f299b66c6c466a298ac59fafe9aeb914a3", func := "thimble/thimblelaw05.OpNames", spec := "opNames", inPlace := ["internal/bytealg.IndexByteString"], named := ["thimble/op.fields"], apart := false, laid := [("thimble/op.fields", laid_thimble_op_fields)], narrowed := true }
def OpNamesUptoSaid : Prop := opNamesUptoRow.holds Tryd.pinned (OpenSpec.upto opNamesSpec)

/-- 'thimblelaw05.OpUses', WHERE WHAT IT READS IS OF BULK AT MOST 1048576: true; the input reads as it did. -/
def opUsesUptoRow : OpenClaim := { program := "yteknegfocnopgaadoor", sum := "9846f9c9b650414ae873c6c22ad490f299b66c6c466a298ac59fafe9aeb914a3", func := "thimble/thimblelaw05.OpUses", spec := "opUses", inPlace := ["internal/bytealg.IndexByteString"], named := ["thimble/op.fields"], apart := false, laid := [("thimble/op.fields", laid_thimble_op_fields)], narrowed := true }
def OpUsesUptoSaid : Prop := opUsesUptoRow.holds Tryd.pinned (OpenSpec.upto opUsesSpec)

/-- 'thimblelaw05.OpStamps', WHERE WHAT IT READS IS OF BULK AT MOST 1048576: true; the input reads as it did. -/
def opStampsUptoRow : OpenClaim := { program := "yteknegfocnopgaadoor", sum := "9846f9c9b650414ae873c6c22ad490f299b66c6c466a298ac59fafe9aeb914a3", func := "thimble/thimblelaw05.OpStamps", spec := "opStamps", inPlace := ["internal/bytealg.IndexByteString"], named := ["thimble/op.fields"], apart := false, laid := [("thimble/op.fields", laid_thimble_op_fields)], narrowed := true }
def OpStampsUptoSaid : Prop := opStampsUptoRow.holds Tryd.pinned (OpenSpec.upto opStampsSpec)

end Rows
end Go.Proofs.YteknegfocnopgaaDoor
