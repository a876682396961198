/-
  NARROWER THAN 'FOR EVERY INPUT', by the rows' own cells (each row's printed sentence says how): OplogPlays: laid · OplogTheorem: laid · OplogOrder: laid · OplogTwice: laid · OplogCopies: laid.
  DERIVED. THE GIVEN ROWS OF THIS SEAT. 5 by the template 'for every input the law returns true; each argument reads behind the call as it read before'; 0 by the template 'total and deterministic' (their statements: YtnnnkaobhkeocaaGreatDoorTotals.lean).
  GIVEN WITH THE SEED: the statements are not yours to turn. If you find one false, say at which input.
  Laid BY PROGRAM, IN A SANDBOX (cutbox-rows.mjs): the forced cells as the released guide's own fill.sh prints them over the translation 313a94294eaff3a1… (all of the seat's roots in one cut). By AI agents, Wed Nov 11 2026. No macro, syntax, notation, axiom, sorry.
-/
import Derived.Test.YtnnnkaobhkeocaaGreatDoorChecked
import GoSem.Claim
import GoSem.ClaimJoined
import GoSem.ClaimMapViews
import Derived.JoinedTies
import Derived.KernelRfl
namespace Go.Proofs.YtnnnkaobhkeocaaGreatDoor
/- THE CELL 'sum', in the pinned program and in every row, IS THE sha256 OF THE DUMP (.gsa) THAT YtnnnkaobhkeocaaGreatDoorProg.lean LOADS. Nothing in Lean hashes anything: it is a label: what it is worth is what the hold of that sum in a sandbox is worth. -/
noncomputable def Tryz.pinned : Pinned := { name := "ytnnnkaobhkeocaagreatdoor", sum := "313a94294eaff3a1d1912ddeed12206cbd96bab889f2b3407927eb3ed7b8dcec", checked := Tryz.checked }
namespace Rows
def none {H : Type} : Left H := { results := [], args := [] }

/- WHAT THE LISTED PACKAGE-LEVEL VARIABLES READ AS WHEN THE CALL BEGINS. Each datum BY PROGRAM (the guide's laid-datum.mjs) off the statement by which the dump's own 'gosem.cut.vars' lays the variable. In a bare row this is a premise. The card (YtnnnkaobhkeocaaGreatDoorCards.lean) ties it to the program's text. -/
def laid_thimble_op_fields {H : Type} : DataW H := .agg [.lit (.int .i64 0), .lit (.int .i64 9), .lit (.int .i64 9), .lit (.int .i64 73), .lit (.int .i64 11), .lit (.int .i64 11), .lit (.int .i64 11), .lit (.int .i64 31), .lit (.int .i64 98), .lit (.int .i64 34), .lit (.int .i64 34)]

/-- 'thimblelaw14.OplogPlays': WHATEVER THE INPUT: true; the input reads as it did. -/
def oplogPlaysSpec : ChangeSpec := { name := "oplogPlays", fn := fun _ => fun
  | [d1, d2] => { results := [.lit (.bool true)], args := [d1, d2] }
  | _ => none }
def oplogPlaysRow : OpenClaim := { program := "ytnnnkaobhkeocaagreatdoor", sum := "313a94294eaff3a1d1912ddeed12206cbd96bab889f2b3407927eb3ed7b8dcec", func := "thimble/thimblelaw14.OplogPlays", spec := "oplogPlays", inPlace := ["maps.clone", "internal/bytealg.IndexByteString"], unfollowed := true, recurses := true, named := ["thimble/op.fields"], plainKeys := false, apart := false, laid := [("thimble/op.fields", laid_thimble_op_fields)] }
def OplogPlaysSaid : Prop := oplogPlaysRow.holds Tryz.pinned (OpenSpec.ofChange oplogPlaysSpec)

/-- ITS FALSE NEIGHBOUR: 'it returns false'. Refute it at one input. -/
def oplogPlaysWrong : ChangeSpec := { name := "oplogPlays", fn := fun _ => fun
  | [d1, d2] => { results := [.lit (.bool false)], args := [d1, d2] }
  | _ => none }
def OplogPlaysWrongFalsely : Prop := oplogPlaysRow.holds Tryz.pinned (OpenSpec.ofChange oplogPlaysWrong)

/-- 'thimblelaw14.OplogTheorem': WHATEVER THE INPUT: true; the input reads as it did. -/
def oplogTheoremSpec : ChangeSpec := { name := "oplogTheorem", fn := fun _ => fun
  | [d] => { results := [.lit (.bool true)], args := [d] }
  | _ => none }
def oplogTheoremRow : OpenClaim := { program := "ytnnnkaobhkeocaagreatdoor", sum := "313a94294eaff3a1d1912ddeed12206cbd96bab889f2b3407927eb3ed7b8dcec", func := "thimble/thimblelaw14.OplogTheorem", spec := "oplogTheorem", inPlace := ["maps.clone", "internal/bytealg.IndexByteString"], unfollowed := true, recurses := true, named := ["thimble/op.fields"], plainKeys := false, apart := false, laid := [("thimble/op.fields", laid_thimble_op_fields)] }
def OplogTheoremSaid : Prop := oplogTheoremRow.holds Tryz.pinned (OpenSpec.ofChange oplogTheoremSpec)

/-- ITS FALSE NEIGHBOUR: 'it returns false'. Refute it at one input. -/
def oplogTheoremWrong : ChangeSpec := { name := "oplogTheorem", fn := fun _ => fun
  | [d] => { results := [.lit (.bool false)], args := [d] }
  | _ => none }
def OplogTheoremWrongFalsely : Prop := oplogTheoremRow.holds Tryz.pinned (OpenSpec.ofChange oplogTheoremWrong)

/-- 'thimblelaw14.OplogOrder': WHATEVER THE INPUT: true; the input reads as it did. -/
def oplogOrderSpec : ChangeSpec := { name := "oplogOrder", fn := fun _ => fun
  | [d1, d2] => { results := [.lit (.bool true)], args := [d1, d2] }
  | _ => none }
def oplogOrderRow : OpenClaim := { program := "ytnnnkaobhkeocaagreatdoor", sum := "313a94294eaff3a1d1912ddeed12206cbd96bab889f2b3407927eb3ed7b8dcec", func := "thimble/thimblelaw14.OplogOrder", spec := "oplogOrder", inPlace := ["maps.clone", "internal/bytealg.IndexByteString"], unfollowed := true, recurses := true, named := ["thimble/op.fields"], plainKeys := false, apart := false, laid := [("thimble/op.fields", laid_thimble_op_fields)] }
def OplogOrderSaid : Prop := oplogOrderRow.holds Tryz.pinned (OpenSpec.ofChange oplogOrderSpec)

/-- ITS FALSE NEIGHBOUR: 'it returns false'. Refute it at one input. -/
def oplogOrderWrong : ChangeSpec := { name := "oplogOrder", fn := fun _ => fun
  | [d1, d2] => { results := [.lit (.bool false)], args := [d1, d2] }
  | _ => none }
def OplogOrderWrongFalsely : Prop := oplogOrderRow.holds Tryz.pinned (OpenSpec.ofChange oplogOrderWrong)

/-- 'thimblelaw14.OplogTwice': WHATEVER THE INPUT: true; the input reads as it did. -/
def oplogTwiceSpec : ChangeSpec := { name := "oplogTwice", fn := fun _ => fun
  | [d1, d2, d3] => { results := [.lit (.bool true)], args := [d1, d2, d3] }
  | _ => none }
def oplogTwiceRow : OpenClaim := { program := "ytnnnkaobhkeocaagreatdoor", sum := "313a94294eaff3a1d1912ddeed12206cbd96bab889f2b3407927eb3ed7b8dcec", func := "thimble/thimblelaw14.OplogTwice", spec := "oplogTwice", inPlace := ["maps.clone", "internal/bytealg.IndexByteString"], unfollowed := true, recurses := true, named := ["thimble/op.fields"], plainKeys := false, apart := false, laid := [("thimble/op.fields", laid_thimble_op_fields)] }
def OplogTwiceSaid : Prop := oplogTwiceRow.holds Tryz.pinned (OpenSpec.ofChange oplogTwiceSpec)

/-- ITS FALSE NEIGHBOUR: 'it returns false'. Refute it at one input. -/
def oplogTwiceWrong : ChangeSpec := { name := "oplogTwice", fn := fun _ => fun
  | [d1, d2, d3] => { results := [.lit (.bool false)], args := [d1, d2, d3] }
  | _ => none }
def OplogTwiceWrongFalsely : Prop := oplogTwiceRow.holds Tryz.pinned (OpenSpec.ofChange oplogTwiceWrong)

/-- 'thimblelaw14.OplogCopies': WHATEVER THE INPUT: true; the input reads as it did. -/
def oplogCopiesSpec : ChangeSpec := { name := "oplogCopies", fn := fun _ => fun
  | [d1, d2, d3] => { results := [.lit (.bool true)], args := [d1, d2, d3] }
  | _ => none }
def oplogCopiesRow : OpenClaim := { program := "ytnnnkaobhkeocaagreatdoor", sum := "313a94294eaff3a1d1912ddeed12206cbd96bab889f2b3407927eb3ed7b8dcec", func := "thimble/thimblelaw14.OplogCopies", spec := "oplogCopies", inPlace := ["maps.clone", "internal/bytealg.IndexByteString"], unfollowed := true, recurses := true, named := ["thimble/op.fields"], plainKeys := false, apart := false, laid := [("thimble/op.fields", laid_thimble_op_fields)] }
def OplogCopiesSaid : Prop := oplogCopiesRow.holds Tryz.pinned (OpenSpec.ofChange oplogCopiesSpec)

/-- ITS FALSE NEIGHBOUR: 'it returns false'. Refute it at one input. -/
def oplogCopiesWrong : ChangeSpec := { name := "oplogCopies", fn := fun _ => fun
  | [d1, d2, d3] => { results := [.lit (.bool false)], args := [d1, d2, d3] }
  | _ => none }
def OplogCopiesWrongFalsely : Prop := oplogCopiesRow.holds Tryz.pinned (OpenSpec.ofChange oplogCopiesWrong)

/- THE SECOND FORM. 'bulk': how many values and letters a reading holds, each counted each time it is reached (what is shared counts as often as it is met; a slice's spare places count too). A statement '..UptoSaid' is the law's where the arguments, and the package variables that the reading takes, are together of bulk at most 1048576: NARROWER than '..Said'. Prove '..Said' where nothing that the law and all that it calls make is longer than what came in: it says more and counts as full. Else prove '..UptoSaid'. A law counts once. -/
mutual
def uptoBulk {H : Type} : DataW H → Nat
  | .lit (.string bytes) => bytes.length + 1
  | .lit _ => 1
  | .nil => 1
  | .ptr d => uptoBulk d + 1
  | .slice elems spare => uptoBulkAll elems + uptoBulkAll spare + 1
  | .agg parts => uptoBulkAll parts + 1
  | .iface _ d => uptoBulk d + 1
  | .map entries => uptoBulkEntries entries + 1
  | .held _ => 1
def uptoBulkAll {H : Type} : List (DataW H) → Nat
  | [] => 0
  | d :: r => uptoBulk d + uptoBulkAll r
def uptoBulkEntries {H : Type} : List (Lit × DataW H) → Nat
  | [] => 0
  | x :: r => uptoBulkEntry x + uptoBulkEntries r
def uptoBulkEntry {H : Type} : Lit × DataW H → Nat
  | (.string bytes, d) => bytes.length + uptoBulk d + 1
  | (_, d) => uptoBulk d + 1
 end
def uptoSmall : (H : Type) → List (DataW H) → Bool := fun _ ds => decide (uptoBulkAll ds ≤ 1048576)
def OpenSpec.upto (s : _root_.Go.ChangeSpec) : _root_.Go.OpenSpec := { _root_.Go.OpenSpec.ofChange s with cond := some uptoSmall }

/-- 'thimblelaw14.OplogPlays', WHERE WHAT IT READS IS OF BULK AT MOST 1048576: true; the input reads as it did. -/
def oplogPlaysUptoRow : OpenClaim := { program := "ytnnnkaobhkeocaagreatdoor", sum := "313a94294eaff3a1d1912ddeed12206cbd96bab889f2b3407927eb3ed7b8dcec", func := "thimble/thimblelaw14.OplogPlays", spec := "oplogPlays", inPlace := ["maps.clone", "internal/bytealg.IndexByteString"], unfollowed := true, recurses := true, named := ["thimble/op.fields"], plainKeys := false, apart := false, laid := [("thimble/op.fields", laid_thimble_op_fields)], narrowed := true }
def OplogPlaysUptoSaid : Prop := oplogPlaysUptoRow.holds Tryz.pinned (OpenSpec.upto oplogPlaysSpec)

/-- 'thimblelaw14.OplogTheorem', WHERE WHAT IT READS IS OF BULK AT MOST 1048576: true; the input reads as it did. -/
def oplogTheoremUptoRow : OpenClaim := { program := "ytnnnkaobhkeocaagreatdoor", sum := "313a94294eaff3a1d1912ddeed12206cbd96bab889f2b3407927eb3ed7b8dcec", func := "thimble/thimblelaw14.OplogTheorem", spec := "oplogTheorem", inPlace := ["maps.clone", "internal/bytealg.IndexByteString"], unfollowed := true, recurses := true, named := ["thimble/op.fields"], plainKeys := false, apart := false, laid := [("thimble/op.fields", laid_thimble_op_fields)], narrowed := true }
def OplogTheoremUptoSaid : Prop := oplogTheoremUptoRow.holds Tryz.pinned (OpenSpec.upto oplogTheoremSpec)

/-- 'thimblelaw14.OplogOrder', WHERE WHAT IT READS IS OF BULK AT MOST 1048576: true; the input reads as it did. -/
def oplogOrderUptoRow : OpenClaim := { program := "ytnnnkaobhkeocaagreatdoor", sum := "313a94294eaff3a1d1912ddeed12206cbd96bab889f2b3407927eb3ed7b8dcec", func := "thimble/thimblelaw14.OplogOrder", spec := "oplogOrder", inPlace := ["maps.clone", "internal/bytealg.IndexByteString"], unfollowed := true, recurses := true, named := ["thimble/op.fields"], plainKeys := false, apart := false, laid := [("thimble/op.fields", laid_thimble_op_fields)], narrowed := true }
def OplogOrderUptoSaid : Prop := oplogOrderUptoRow.holds Tryz.pinned (OpenSpec.upto oplogOrderSpec)

/-- 'thimblelaw14.OplogTwice', WHERE WHAT IT READS IS OF BULK AT MOST 1048576: true; the input reads as it did. -/
def oplogTwiceUptoRow : OpenClaim := { program := "ytnnnkaobhkeocaagreatdoor", sum := "313a94294eaff3a1d1912ddeed12206cbd96bab889f2b3407927eb3ed7b8dcec", func := "thimble/thimblelaw14.OplogTwice", spec := "oplogTwice", inPlace := ["maps.clone", "internal/bytealg.IndexByteString"], unfollowed := true, recurses := true, named := ["thimble/op.fields"], plainKeys := false, apart := false, laid := [("thimble/op.fields", laid_thimble_op_fields)], narrowed := true }
def OplogTwiceUptoSaid : Prop := oplogTwiceUptoRow.holds Tryz.pinned (OpenSpec.upto oplogTwiceSpec)

/-- 'thimblelaw14.OplogCopies', WHERE WHAT IT READS IS OF BULK AT MOST 1048576: true; the input reads as it did. -/
def oplogCopiesUptoRow : OpenClaim := { program := "ytnnnkaobhkeocaagreatdoor", sum := "313a94294eaff3a1d1912ddeed12206cbd96bab889f2b3407927eb3ed7b8dcec", func := "thimble/thimblelaw14.OplogCopies", spec := "oplogCopies", inPlace := ["maps.clone", "internal/bytealg.IndexByteString"], unfollowed := true, recurses := true, named := ["thimble/op.fields"], plainKeys := false, apart := false, laid := [("thimble/op.fields", laid_thimble_op_fields)], narrowed := true }
def OplogCopiesUptoSaid : Prop := oplogCopiesUptoRow.holds Tryz.pinned (OpenSpec.upto oplogCopiesSpec)

end Rows
end Go.Proofs.YtnnnkaobhkeocaaGreatDoor
