/-
  NARROWER THAN 'FOR EVERY INPUT', by the rows' own cells (each row's printed sentence says how): FoldTells: laid · FoldConverges: laid · FoldSplits: laid · FoldNext: laid · FoldSorted: laid · FoldIdle: laid · FoldLater: laid.
  DERIVED. THE GIVEN ROWS OF THIS SEAT. 7 by the template 'for every input the law returns true; each argument reads behind the call as it read before'; 0 by the template 'total and deterministic' (their statements: YtdobeghbkonimaaGreatDoorTotals.lean).
  GIVEN WITH THE SEED: the statements are not yours to turn. If you find one false, say at which input.
  Laid BY PROGRAM, IN A SANDBOX (cutbox-rows.mjs): the forced cells as the released guide's own fill.sh prints them over the translation 14654fe3996624e0… (all of the seat's roots in one cut). By AI agents, Wed Nov 11 2026. No macro, syntax, notation, axiom, sorry.
-/
import Derived.Test.YtdobeghbkonimaaGreatDoorChecked
import GoSem.Claim
import GoSem.ClaimJoined
import GoSem.ClaimMapViews
import Derived.JoinedTies
import Derived.KernelRfl
namespace Go.Proofs.YtdobeghbkonimaaGreatDoor
/- THE CELL 'sum', in the pinned program and in every row, IS THE sha256 OF THE DUMP (.gsa) THAT YtdobeghbkonimaaGreatDoorProg.lean LOADS. Nothing in Lean hashes anything: it is a label: what it is worth is what the hold of that sum in a sandbox is worth. -/
noncomputable def Tryz.pinned : Pinned := { name := "ytdobeghbkonimaagreatdoor", sum := "14654fe3996624e03950247ecbccbd57e16274c272d74cf8e404dbc36d72f336", checked := Tryz.checked }
namespace Rows
def none {H : Type} : Left H := { results := [], args := [] }

/- WHAT THE LISTED PACKAGE-LEVEL VARIABLES READ AS WHEN THE CALL BEGINS. Each datum BY PROGRAM (the guide's laid-datum.mjs) off the statement by which the dump's own 'gosem.cut.vars' lays the variable. In a bare row this is a premise. The card (YtdobeghbkonimaaGreatDoorCards.lean) ties it to the program's text. -/
def laid_thimble_op_fields {H : Type} : DataW H := .agg [.lit (.int .i64 0), .lit (.int .i64 9), .lit (.int .i64 9), .lit (.int .i64 73), .lit (.int .i64 11), .lit (.int .i64 11), .lit (.int .i64 11), .lit (.int .i64 31), .lit (.int .i64 98), .lit (.int .i64 34), .lit (.int .i64 34)]

/-- 'thimblelaw13.FoldTells': WHATEVER THE INPUT: true; the input reads as it did. -/
def foldTellsSpec : ChangeSpec := { name := "foldTells", fn := fun _ => fun
  | [d1, d2, d3, d4] => { results := [.lit (.bool true)], args := [d1, d2, d3, d4] }
  | _ => none }
def foldTellsRow : OpenClaim := { program := "ytdobeghbkonimaagreatdoor", sum := "14654fe3996624e03950247ecbccbd57e16274c272d74cf8e404dbc36d72f336", func := "thimble/thimblelaw13.FoldTells", spec := "foldTells", inPlace := ["maps.clone", "internal/bytealg.IndexByteString"], unfollowed := true, recurses := true, named := ["thimble/op.fields"], plainKeys := false, apart := false, laid := [("thimble/op.fields", laid_thimble_op_fields)] }
def FoldTellsSaid : Prop := foldTellsRow.holds Tryz.pinned (OpenSpec.ofChange foldTellsSpec)

/-- ITS FALSE NEIGHBOUR: 'it returns false'. Refute it at one input. -/
def foldTellsWrong : ChangeSpec := { name := "foldTells", fn := fun _ => fun
  | [d1, d2, d3, d4] => { results := [.lit (.bool false)], args := [d1, d2, d3, d4] }
  | _ => none }
def FoldTellsWrongFalsely : Prop := foldTellsRow.holds Tryz.pinned (OpenSpec.ofChange foldTellsWrong)

/-- 'thimblelaw13.FoldConverges': WHATEVER THE INPUT: true; the input reads as it did. -/
def foldConvergesSpec : ChangeSpec := { name := "foldConverges", fn := fun _ => fun
  | [d1, d2] => { results := [.lit (.bool true)], args := [d1, d2] }
  | _ => none }
def foldConvergesRow : OpenClaim := { program := "ytdobeghbkonimaagreatdoor", sum := "14654fe3996624e03950247ecbccbd57e16274c272d74cf8e404dbc36d72f336", func := "thimble/thimblelaw13.FoldConverges", spec := "foldConverges", inPlace := ["maps.clone", "internal/bytealg.IndexByteString"], unfollowed := true, recurses := true, named := ["thimble/op.fields"], plainKeys := false, apart := false, laid := [("thimble/op.fields", laid_thimble_op_fields)] }
def FoldConvergesSaid : Prop := foldConvergesRow.holds Tryz.pinned (OpenSpec.ofChange foldConvergesSpec)

/-- ITS FALSE NEIGHBOUR: 'it returns false'. Refute it at one input. -/
def foldConvergesWrong : ChangeSpec := { name := "foldConverges", fn := fun _ => fun
  | [d1, d2] => { results := [.lit (.bool false)], args := [d1, d2] }
  | _ => none }
def FoldConvergesWrongFalsely : Prop := foldConvergesRow.holds Tryz.pinned (OpenSpec.ofChange foldConvergesWrong)

/-- 'thimblelaw13.FoldSplits': WHATEVER THE INPUT: true; the input reads as it did. -/
def foldSplitsSpec : ChangeSpec := { name := "foldSplits", fn := fun _ => fun
  | [d1, d2] => { results := [.lit (.bool true)], args := [d1, d2] }
  | _ => none }
def foldSplitsRow : OpenClaim := { program := "ytdobeghbkonimaagreatdoor", sum := "14654fe3996624e03950247ecbccbd57e16274c272d74cf8e404dbc36d72f336", func := "thimble/thimblelaw13.FoldSplits", spec := "foldSplits", inPlace := ["maps.clone", "internal/bytealg.IndexByteString"], unfollowed := true, recurses := true, named := ["thimble/op.fields"], plainKeys := false, apart := false, laid := [("thimble/op.fields", laid_thimble_op_fields)] }
def FoldSplitsSaid : Prop := foldSplitsRow.holds Tryz.pinned (OpenSpec.ofChange foldSplitsSpec)

/-- ITS FALSE NEIGHBOUR: 'it returns false'. Refute it at one input. -/
def foldSplitsWrong : ChangeSpec := { name := "foldSplits", fn := fun _ => fun
  | [d1, d2] => { results := [.lit (.bool false)], args := [d1, d2] }
  | _ => none }
def FoldSplitsWrongFalsely : Prop := foldSplitsRow.holds Tryz.pinned (OpenSpec.ofChange foldSplitsWrong)

/-- 'thimblelaw13.FoldNext': WHATEVER THE INPUT: true; the input reads as it did. -/
def foldNextSpec : ChangeSpec := { name := "foldNext", fn := fun _ => fun
  | [d1, d2] => { results := [.lit (.bool true)], args := [d1, d2] }
  | _ => none }
def foldNextRow : OpenClaim := { program := "ytdobeghbkonimaagreatdoor", sum := "14654fe3996624e03950247ecbccbd57e16274c272d74cf8e404dbc36d72f336", func := "thimble/thimblelaw13.FoldNext", spec := "foldNext", inPlace := ["maps.clone", "internal/bytealg.IndexByteString"], unfollowed := true, recurses := true, named := ["thimble/op.fields"], plainKeys := false, apart := false, laid := [("thimble/op.fields", laid_thimble_op_fields)] }
def FoldNextSaid : Prop := foldNextRow.holds Tryz.pinned (OpenSpec.ofChange foldNextSpec)

/-- ITS FALSE NEIGHBOUR: 'it returns false'. Refute it at one input. -/
def foldNextWrong : ChangeSpec := { name := "foldNext", fn := fun _ => fun
  | [d1, d2] => { results := [.lit (.bool false)], args := [d1, d2] }
  | _ => none }
def FoldNextWrongFalsely : Prop := foldNextRow.holds Tryz.pinned (OpenSpec.ofChange foldNextWrong)

/-- 'thimblelaw13.FoldSorted': WHATEVER THE INPUT: true; the input reads as it did. -/
def foldSortedSpec : ChangeSpec := { name := "foldSorted", fn := fun _ => fun
  | [d] => { results := [.lit (.bool true)], args := [d] }
  | _ => none }
def foldSortedRow : OpenClaim := { program := "ytdobeghbkonimaagreatdoor", sum := "14654fe3996624e03950247ecbccbd57e16274c272d74cf8e404dbc36d72f336", func := "thimble/thimblelaw13.FoldSorted", spec := "foldSorted", inPlace := ["maps.clone", "internal/bytealg.IndexByteString"], unfollowed := true, recurses := true, named := ["thimble/op.fields"], plainKeys := false, apart := false, laid := [("thimble/op.fields", laid_thimble_op_fields)] }
def FoldSortedSaid : Prop := foldSortedRow.holds Tryz.pinned (OpenSpec.ofChange foldSortedSpec)

/-- ITS FALSE NEIGHBOUR: 'it returns false'. Refute it at one input. -/
def foldSortedWrong : ChangeSpec := { name := "foldSorted", fn := fun _ => fun
  | [d] => { results := [.lit (.bool false)], args := [d] }
  | _ => none }
def FoldSortedWrongFalsely : Prop := foldSortedRow.holds Tryz.pinned (OpenSpec.ofChange foldSortedWrong)

/-- 'thimblelaw13.FoldIdle': WHATEVER THE INPUT: true; the input reads as it did. -/
def foldIdleSpec : ChangeSpec := { name := "foldIdle", fn := fun _ => fun
  | [d] => { results := [.lit (.bool true)], args := [d] }
  | _ => none }
def foldIdleRow : OpenClaim := { program := "ytdobeghbkonimaagreatdoor", sum := "14654fe3996624e03950247ecbccbd57e16274c272d74cf8e404dbc36d72f336", func := "thimble/thimblelaw13.FoldIdle", spec := "foldIdle", inPlace := ["maps.clone", "internal/bytealg.IndexByteString"], unfollowed := true, recurses := true, named := ["thimble/op.fields"], plainKeys := false, apart := false, laid := [("thimble/op.fields", laid_thimble_op_fields)] }
def FoldIdleSaid : Prop := foldIdleRow.holds Tryz.pinned (OpenSpec.ofChange foldIdleSpec)

/-- ITS FALSE NEIGHBOUR: 'it returns false'. Refute it at one input. -/
def foldIdleWrong : ChangeSpec := { name := "foldIdle", fn := fun _ => fun
  | [d] => { results := [.lit (.bool false)], args := [d] }
  | _ => none }
def FoldIdleWrongFalsely : Prop := foldIdleRow.holds Tryz.pinned (OpenSpec.ofChange foldIdleWrong)

/-- 'thimblelaw13.FoldLater': WHATEVER THE INPUT: true; the input reads as it did. -/
def foldLaterSpec : ChangeSpec := { name := "foldLater", fn := fun _ => fun
  | [d1, d2, d3] => { results := [.lit (.bool true)], args := [d1, d2, d3] }
  | _ => none }
def foldLaterRow : OpenClaim := { program := "ytdobeghbkonimaagreatdoor", sum := "14654fe3996624e03950247ecbccbd57e16274c272d74cf8e404dbc36d72f336", func := "thimble/thimblelaw13.FoldLater", spec := "foldLater", inPlace := ["maps.clone", "internal/bytealg.IndexByteString"], unfollowed := true, recurses := true, named := ["thimble/op.fields"], plainKeys := false, apart := false, laid := [("thimble/op.fields", laid_thimble_op_fields)] }
def FoldLaterSaid : Prop := foldLaterRow.holds Tryz.pinned (OpenSpec.ofChange foldLaterSpec)

/-- ITS FALSE NEIGHBOUR: 'it returns false'. Refute it at one input. -/
def foldLaterWrong : ChangeSpec := { name := "foldLater", fn := fun _ => fun
  | [d1, d2, d3] => { results := [.lit (.bool false)], args := [d1, d2, d3] }
  | _ => none }
def FoldLaterWrongFalsely : Prop := foldLaterRow.holds Tryz.pinned (OpenSpec.ofChange foldLaterWrong)

/- THE SECOND FORM. 'bulk': how many values and letters a reading holds, each counted each time it is reached (what is shared counts as often as it is met; a slice's spare places count too). A statement '..UptoSaid' is the law's where the arguments, and the package variables that the reading takes, are together of bulk at most 1048576: NARROWER than '..Said'. Prove '..Said' where nothing that the law and all that it calls make is longer than what came in: it says more and counts as full. Else prove '..UptoSaid'. A law counts once. -/
mutual
def uptoBulk {H : Type} : DataW H → Nat
  | .lit (.string bytes) => bytes.length + 1
  | .lit _ => 1
  | .nil => 1
  | .ptr d => uptoBulk d + 1
  | .slice elems spare => uptoBulkAll elems + uptoBulkAll spare + 1
  | .agg parts => uptoBulkAll parts + 1
  | .iface _ d => uptoBulk d + 1
  | .map entries => uptoBulkEntries entries + 1
  | .held _ => 1
def uptoBulkAll {H : Type} : List (DataW H) → Nat
  | [] => 0
  | d :: r => uptoBulk d + uptoBulkAll r
def uptoBulkEntries {H : Type} : List (Lit × DataW H) → Nat
  | [] => 0
  | x :: r => uptoBulkEntry x + uptoBulkEntries r
def uptoBulkEntry {H : Type} : Lit × DataW H → Nat
  | (.string bytes, d) => bytes.length + uptoBulk d + 1
  | (_, d) => uptoBulk d + 1
 end
def uptoSmall : (H : Type) → List (DataW H) → Bool := fun _ ds => decide (uptoBulkAll ds ≤ 1048576)
def OpenSpec.upto (s : _root_.Go.ChangeSpec) : _root_.Go.OpenSpec := { _root_.Go.OpenSpec.ofChange s with cond := some uptoSmall }

/-- 'thimblelaw13.FoldTells', WHERE WHAT IT READS IS OF BULK AT MOST 1048576: true; the input reads as it did. -/
def foldTellsUptoRow : OpenClaim := { program := "ytdobeghbkonimaagreatdoor", sum := "14654fe3996624e03950247ecbccbd57e16274c272d74cf8e404dbc36d72f336", func := "thimble/thimblelaw13.FoldTells", spec := "foldTells", inPlace := ["maps.clone", "internal/bytealg.IndexByteString"], unfollowed := true, recurses := true, named := ["thimble/op.fields"], plainKeys := false, apart := false, laid := [("thimble/op.fields", laid_thimble_op_fields)], narrowed := true }
def FoldTellsUptoSaid : Prop := foldTellsUptoRow.holds Tryz.pinned (OpenSpec.upto foldTellsSpec)

/-- 'thimblelaw13.FoldConverges', WHERE WHAT IT READS IS OF BULK AT MOST 1048576: true; the input reads as it did. -/
def foldConvergesUptoRow : OpenClaim := { program := "ytdobeghbkonimaagreatdoor", sum := "14654fe3996624e03950247ecbccbd57e16274c272d74cf8e404dbc36d72f336", func := "thimble/thimblelaw13.FoldConverges", spec := "foldConverges", inPlace := ["maps.clone", "internal/bytealg.IndexByteString"], unfollowed := true, recurses := true, named := ["thimble/op.fields"], plainKeys := false, apart := false, laid := [("thimble/op.fields", laid_thimble_op_fields)], narrowed := true }
def FoldConvergesUptoSaid : Prop := foldConvergesUptoRow.holds Tryz.pinned (OpenSpec.upto foldConvergesSpec)

/-- 'thimblelaw13.FoldSplits', WHERE WHAT IT READS IS OF BULK AT MOST 1048576: true; the input reads as it did. -/
def foldSplitsUptoRow : OpenClaim := { program := "ytdobeghbkonimaagreatdoor", sum := "14654fe3996624e03950247ecbccbd57e16274c272d74cf8e404dbc36d72f336", func := "thimble/thimblelaw13.FoldSplits", spec := "foldSplits", inPlace := ["maps.clone", "internal/bytealg.IndexByteString"], unfollowed := true, recurses := true, named := ["thimble/op.fields"], plainKeys := false, apart := false, laid := [("thimble/op.fields", laid_thimble_op_fields)], narrowed := true }
def FoldSplitsUptoSaid : Prop := foldSplitsUptoRow.holds Tryz.pinned (OpenSpec.upto foldSplitsSpec)

/-- 'thimblelaw13.FoldNext', WHERE WHAT IT READS IS OF BULK AT MOST 1048576: true; the input reads as it did. -/
def foldNextUptoRow : OpenClaim := { program := "ytdobeghbkonimaagreatdoor", sum := "14654fe3996624e03950247ecbccbd57e16274c272d74cf8e404dbc36d72f336", func := "thimble/thimblelaw13.FoldNext", spec := "foldNext", inPlace := ["maps.clone", "internal/bytealg.IndexByteString"], unfollowed := true, recurses := true, named := ["thimble/op.fields"], plainKeys := false, apart := false, laid := [("thimble/op.fields", laid_thimble_op_fields)], narrowed := true }
def FoldNextUptoSaid : Prop := foldNextUptoRow.holds Tryz.pinned (OpenSpec.upto foldNextSpec)

/-- 'thimblelaw13.FoldSorted', WHERE WHAT IT READS IS OF BULK AT MOST 1048576: true; the input reads as it did. -/
def foldSortedUptoRow : OpenClaim := { program := "ytdobeghbkonimaagreatdoor", sum := "14654fe3996624e03950247ecbccbd57e16274c272d74cf8e404dbc36d72f336", func := "thimble/thimblelaw13.FoldSorted", spec := "foldSorted", inPlace := ["maps.clone", "internal/bytealg.IndexByteString"], unfollowed := true, recurses := true, named := ["thimble/op.fields"], plainKeys := false, apart := false, laid := [("thimble/op.fields", laid_thimble_op_fields)], narrowed := true }
def FoldSortedUptoSaid : Prop := foldSortedUptoRow.holds Tryz.pinned (OpenSpec.upto foldSortedSpec)

/-- 'thimblelaw13.FoldIdle', WHERE WHAT IT READS IS OF BULK AT MOST 1048576: true; the input reads as it did. -/
def foldIdleUptoRow : OpenClaim := { program := "ytdobeghbkonimaagreatdoor", sum := "14654fe3996624e03950247ecbccbd57e16274c272d74cf8e404dbc36d72f336", func := "thimble/thimblelaw13.FoldIdle", spec := "foldIdle", inPlace := ["maps.clone", "internal/bytealg.IndexByteString"], unfollowed := true, recurses := true, named := ["thimble/op.fields"], plainKeys := false, apart := false, laid := [("thimble/op.fields", laid_thimble_op_fields)], narrowed := true }
def FoldIdleUptoSaid : Prop := foldIdleUptoRow.holds Tryz.pinned (OpenSpec.upto foldIdleSpec)

/-- 'thimblelaw13.FoldLater', WHERE WHAT IT READS IS OF BULK AT MOST 1048576: true; the input reads as it did. -/
def foldLaterUptoRow : OpenClaim := { program := "ytdobeghbkonimaagreatdoor", sum := "14654fe3996624e03950247ecbccbd57e16274c272d74cf8e404dbc36d72f336", func := "thimble/thimblelaw13.FoldLater", spec := "foldLater", inPlace := ["maps.clone", "internal/bytealg.IndexByteString"], unfollowed := true, recurses := true, named := ["thimble/op.fields"], plainKeys := false, apart := false, laid := [("thimble/op.fields", laid_thimble_op_fields)], narrowed := true }
def FoldLaterUptoSaid : Prop := foldLaterUptoRow.holds Tryz.pinned (OpenSpec.upto foldLaterSpec)

end Rows
end Go.Proofs.YtdobeghbkonimaaGreatDoor
