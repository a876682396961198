/-
  NARROWER THAN 'FOR EVERY INPUT', by the rows' own cells (each row's printed sentence says how): PathHome: laid · PathPoints: laid · PathParts: laid · PathNobody: laid · PathUp: laid.
  DERIVED. THE GIVEN ROWS OF THIS SEAT. 5 by the template 'for every input the law returns true; each argument reads behind the call as it read before'; 0 by the template 'total and deterministic' (their statements: YtbkijfhfjhpebaaGreatDoorTotals.lean).
  GIVEN WITH THE SEED: the statements are not yours to turn. If you find one false, say at which input.
  Laid BY PROGRAM, IN A SANDBOX (cutbox-rows.mjs): the forced cells as the released guide's own fill.sh prints them over the translation 2a5cac4545f6fdb8… (all of the seat's roots in one cut). By AI agents, Wed Nov 11 2026. No macro, syntax, notation, axiom, sorry.
-/
import Derived.Test.YtbkijfhfjhpebaaGreatDoorChecked
import GoSem.PinnedTables
import GoSem.Claim
import GoSem.ClaimJoined
import GoSem.ClaimMapViews
import Derived.JoinedTies
import Derived.KernelRfl
namespace Go.Proofs.YtbkijfhfjhpebaaGreatDoor
/- THE CELL 'sum', in the pinned program and in every row, IS THE sha256 OF THE DUMP (.gsa) THAT YtbkijfhfjhpebaaGreatDoorProg.lean LOADS. Nothing in Lean hashes anything: it is a label: what it is worth is what the hold of that sum in a sandbox is worth. -/
noncomputable def Tryz.pinned : Pinned := { name := "ytbkijfhfjhpebaagreatdoor", sum := "2a5cac4545f6fdb8218de43b07ccb878edfb0bc6bb5a24aa9fec2ba449c42b92", checked := Tryz.checked }
namespace Rows
def none {H : Type} : Left H := { results := [], args := [] }

/- WHAT THE LISTED PACKAGE-LEVEL VARIABLES READ AS WHEN THE CALL BEGINS. Each datum BY PROGRAM (the guide's laid-datum.mjs) off the statement by which the dump's own 'gosem.cut.vars' lays the variable. In a bare row this is a premise. The card (YtbkijfhfjhpebaaGreatDoorCards.lean) ties it to the program's text. -/
def laid_unicode_utf8_acceptRanges {H : Type} : DataW H := .agg [.agg [.lit (.int .u8 128), .lit (.int .u8 191)], .agg [.lit (.int .u8 160), .lit (.int .u8 191)], .agg [.lit (.int .u8 128), .lit (.int .u8 159)], .agg [.lit (.int .u8 144), .lit (.int .u8 191)], .agg [.lit (.int .u8 128), .lit (.int .u8 143)], .agg [.lit (.int .u8 0), .lit (.int .u8 0)], .agg [.lit (.int .u8 0), .lit (.int .u8 0)], .agg [.lit (.int .u8 0), .lit (.int .u8 0)], .agg [.lit (.int .u8 0), .lit (.int .u8 0)], .agg [.lit (.int .u8 0), .lit (.int .u8 0)], .agg [.lit (.int .u8 0), .lit (.int .u8 0)], .agg [.lit (.int .u8 0), .lit (.int .u8 0)], .agg [.lit (.int .u8 0), .lit (.int .u8 0)], .agg [.lit (.int .u8 0), .lit (.int .u8 0)], .agg [.lit (.int .u8 0), .lit (.int .u8 0)], .agg [.lit (.int .u8 0), .lit (.int .u8 0)]]
def laid_thimble_op_fields {H : Type} : DataW H := .agg [.lit (.int .i64 0), .lit (.int .i64 9), .lit (.int .i64 9), .lit (.int .i64 73), .lit (.int .i64 11), .lit (.int .i64 11), .lit (.int .i64 11), .lit (.int .i64 31), .lit (.int .i64 98), .lit (.int .i64 34), .lit (.int .i64 34)]
/-- One of Go's own tables, pinned by name: the form's constant. -/
def laid_unicode_utf8_first : DataW Unit := Go.Pinned.utf8First

/-- 'thimblelaw15.PathHome': WHATEVER THE INPUT: true; the input reads as it did. -/
def pathHomeSpec : ChangeSpec := { name := "pathHome", fn := fun _ => fun
  | [d1, d2] => { results := [.lit (.bool true)], args := [d1, d2] }
  | _ => none }
def pathHomeRow : OpenClaim := { program := "ytbkijfhfjhpebaagreatdoor", sum := "2a5cac4545f6fdb8218de43b07ccb878edfb0bc6bb5a24aa9fec2ba449c42b92", func := "thimble/thimblelaw15.PathHome", spec := "pathHome", inPlace := ["maps.clone", "internal/bytealg.IndexByteString", "internal/bytealg.CountString", "internal/bytealg.IndexString"], unfollowed := true, recurses := true, named := ["thimble/op.fields", "unicode/utf8.first", "unicode/utf8.acceptRanges", "internal/bytealg.MaxLen"], plainKeys := false, apart := false, laid := [("unicode/utf8.acceptRanges", laid_unicode_utf8_acceptRanges), ("thimble/op.fields", laid_thimble_op_fields), ("unicode/utf8.first", laid_unicode_utf8_first)] }
def PathHomeSaid : Prop := pathHomeRow.holds Tryz.pinned (OpenSpec.ofChange pathHomeSpec)

/-- ITS FALSE NEIGHBOUR: 'it returns false'. Refute it at one input. -/
def pathHomeWrong : ChangeSpec := { name := "pathHome", fn := fun _ => fun
  | [d1, d2] => { results := [.lit (.bool false)], args := [d1, d2] }
  | _ => none }
def PathHomeWrongFalsely : Prop := pathHomeRow.holds Tryz.pinned (OpenSpec.ofChange pathHomeWrong)

/-- 'thimblelaw15.PathPoints': WHATEVER THE INPUT: true; the input reads as it did. -/
def pathPointsSpec : ChangeSpec := { name := "pathPoints", fn := fun _ => fun
  | [d1, d2, d3, d4] => { results := [.lit (.bool true)], args := [d1, d2, d3, d4] }
  | _ => none }
def pathPointsRow : OpenClaim := { program := "ytbkijfhfjhpebaagreatdoor", sum := "2a5cac4545f6fdb8218de43b07ccb878edfb0bc6bb5a24aa9fec2ba449c42b92", func := "thimble/thimblelaw15.PathPoints", spec := "pathPoints", inPlace := ["maps.clone", "internal/bytealg.IndexByteString", "internal/bytealg.CountString", "internal/bytealg.IndexString"], unfollowed := true, recurses := true, named := ["thimble/op.fields", "unicode/utf8.first", "unicode/utf8.acceptRanges", "internal/bytealg.MaxLen"], plainKeys := false, apart := false, laid := [("unicode/utf8.acceptRanges", laid_unicode_utf8_acceptRanges), ("thimble/op.fields", laid_thimble_op_fields), ("unicode/utf8.first", laid_unicode_utf8_first)] }
def PathPointsSaid : Prop := pathPointsRow.holds Tryz.pinned (OpenSpec.ofChange pathPointsSpec)

/-- ITS FALSE NEIGHBOUR: 'it returns false'. Refute it at one input. -/
def pathPointsWrong : ChangeSpec := { name := "pathPoints", fn := fun _ => fun
  | [d1, d2, d3, d4] => { results := [.lit (.bool false)], args := [d1, d2, d3, d4] }
  | _ => none }
def PathPointsWrongFalsely : Prop := pathPointsRow.holds Tryz.pinned (OpenSpec.ofChange pathPointsWrong)

/-- 'thimblelaw15.PathParts': WHATEVER THE INPUT: true; the input reads as it did. -/
def pathPartsSpec : ChangeSpec := { name := "pathParts", fn := fun _ => fun
  | [d] => { results := [.lit (.bool true)], args := [d] }
  | _ => none }
def pathPartsRow : OpenClaim := { program := "ytbkijfhfjhpebaagreatdoor", sum := "2a5cac4545f6fdb8218de43b07ccb878edfb0bc6bb5a24aa9fec2ba449c42b92", func := "thimble/thimblelaw15.PathParts", spec := "pathParts", inPlace := ["maps.clone", "internal/bytealg.IndexByteString", "internal/bytealg.CountString", "internal/bytealg.IndexString"], unfollowed := true, recurses := true, named := ["thimble/op.fields", "unicode/utf8.first", "unicode/utf8.acceptRanges", "internal/bytealg.MaxLen"], plainKeys := false, apart := false, laid := [("unicode/utf8.acceptRanges", laid_unicode_utf8_acceptRanges), ("thimble/op.fields", laid_thimble_op_fields), ("unicode/utf8.first", laid_unicode_utf8_first)] }
def PathPartsSaid : Prop := pathPartsRow.holds Tryz.pinned (OpenSpec.ofChange pathPartsSpec)

/-- ITS FALSE NEIGHBOUR: 'it returns false'. Refute it at one input. -/
def pathPartsWrong : ChangeSpec := { name := "pathParts", fn := fun _ => fun
  | [d] => { results := [.lit (.bool false)], args := [d] }
  | _ => none }
def PathPartsWrongFalsely : Prop := pathPartsRow.holds Tryz.pinned (OpenSpec.ofChange pathPartsWrong)

/-- 'thimblelaw15.PathNobody': WHATEVER THE INPUT: true; the input reads as it did. -/
def pathNobodySpec : ChangeSpec := { name := "pathNobody", fn := fun _ => fun
  | [d1, d2] => { results := [.lit (.bool true)], args := [d1, d2] }
  | _ => none }
def pathNobodyRow : OpenClaim := { program := "ytbkijfhfjhpebaagreatdoor", sum := "2a5cac4545f6fdb8218de43b07ccb878edfb0bc6bb5a24aa9fec2ba449c42b92", func := "thimble/thimblelaw15.PathNobody", spec := "pathNobody", inPlace := ["maps.clone", "internal/bytealg.IndexByteString", "internal/bytealg.CountString", "internal/bytealg.IndexString"], unfollowed := true, recurses := true, named := ["thimble/op.fields", "unicode/utf8.first", "unicode/utf8.acceptRanges", "internal/bytealg.MaxLen"], plainKeys := false, apart := false, laid := [("unicode/utf8.acceptRanges", laid_unicode_utf8_acceptRanges), ("thimble/op.fields", laid_thimble_op_fields), ("unicode/utf8.first", laid_unicode_utf8_first)] }
def PathNobodySaid : Prop := pathNobodyRow.holds Tryz.pinned (OpenSpec.ofChange pathNobodySpec)

/-- ITS FALSE NEIGHBOUR: 'it returns false'. Refute it at one input. -/
def pathNobodyWrong : ChangeSpec := { name := "pathNobody", fn := fun _ => fun
  | [d1, d2] => { results := [.lit (.bool false)], args := [d1, d2] }
  | _ => none }
def PathNobodyWrongFalsely : Prop := pathNobodyRow.holds Tryz.pinned (OpenSpec.ofChange pathNobodyWrong)

/-- 'thimblelaw15.PathUp': WHATEVER THE INPUT: true; the input reads as it did. -/
def pathUpSpec : ChangeSpec := { name := "pathUp", fn := fun _ => fun
  | [d1, d2] => { results := [.lit (.bool true)], args := [d1, d2] }
  | _ => none }
def pathUpRow : OpenClaim := { program := "ytbkijfhfjhpebaagreatdoor", sum := "2a5cac4545f6fdb8218de43b07ccb878edfb0bc6bb5a24aa9fec2ba449c42b92", func := "thimble/thimblelaw15.PathUp", spec := "pathUp", inPlace := ["maps.clone", "internal/bytealg.IndexByteString", "internal/bytealg.CountString", "internal/bytealg.IndexString"], unfollowed := true, recurses := true, named := ["thimble/op.fields", "unicode/utf8.first", "unicode/utf8.acceptRanges", "internal/bytealg.MaxLen"], plainKeys := false, apart := false, laid := [("unicode/utf8.acceptRanges", laid_unicode_utf8_acceptRanges), ("thimble/op.fields", laid_thimble_op_fields), ("unicode/utf8.first", laid_unicode_utf8_first)] }
def PathUpSaid : Prop := pathUpRow.holds Tryz.pinned (OpenSpec.ofChange pathUpSpec)

/-- ITS FALSE NEIGHBOUR: 'it returns false'. Refute it at one input. -/
def pathUpWrong : ChangeSpec := { name := "pathUp", fn := fun _ => fun
  | [d1, d2] => { results := [.lit (.bool false)], args := [d1, d2] }
  | _ => none }
def PathUpWrongFalsely : Prop := pathUpRow.holds Tryz.pinned (OpenSpec.ofChange pathUpWrong)

/- THE SECOND FORM. 'bulk': how many values and letters a reading holds, each counted each time it is reached (what is shared counts as often as it is met; a slice's spare places count too). A statement '..UptoSaid' is the law's where the arguments, and the package variables that the reading takes, are together of bulk at most 1048576: NARROWER than '..Said'. Prove '..Said' where nothing that the law and all that it calls make is longer than what came in: it says more and counts as full. Else prove '..UptoSaid'. A law counts once. -/
mutual
def uptoBulk {H : Type} : DataW H → Nat
  | .lit (.string bytes) => bytes.length + 1
  | .lit _ => 1
  | .nil => 1
  | .ptr d => uptoBulk d + 1
  | .slice elems spare => uptoBulkAll elems + uptoBulkAll spare + 1
  | .agg parts => uptoBulkAll parts + 1
  | .iface _ d => uptoBulk d + 1
  | .map entries => uptoBulkEntries entries + 1
  | .held _ => 1
def uptoBulkAll {H : Type} : List (DataW H) → Nat
  | [] => 0
  | d :: r => uptoBulk d + uptoBulkAll r
def uptoBulkEntries {H : Type} : List (Lit × DataW H) → Nat
  | [] => 0
  | x :: r => uptoBulkEntry x + uptoBulkEntries r
def uptoBulkEntry {H : Type} : Lit × DataW H → Nat
  | (.string bytes, d) => bytes.length + uptoBulk d + 1
  | (_, d) => uptoBulk d + 1
 end
def uptoSmall : (H : Type) → List (DataW H) → Bool := fun _ ds => decide (uptoBulkAll ds ≤ 1048576)
def OpenSpec.upto (s : _root_.Go.ChangeSpec) : _root_.Go.OpenSpec := { _root_.Go.OpenSpec.ofChange s with cond := some uptoSmall }

/-- 'thimblelaw15.PathHome', WHERE WHAT IT READS IS OF BULK AT MOST 1048576: true; the input reads as it did. -/
def pathHomeUptoRow : OpenClaim := { program := "ytbkijfhfjhpebaagreatdoor", sum := "2a5cac4545f6fdb8218de43b07ccb878edfb0bc6bb5a24aa9fec2ba449c42b92", func := "thimble/thimblelaw15.PathHome", spec := "pathHome", inPlace := ["maps.clone", "internal/bytealg.IndexByteString", "internal/bytealg.CountString", "internal/bytealg.IndexString"], unfollowed := true, recurses := true, named := ["thimble/op.fields", "unicode/utf8.first", "unicode/utf8.acceptRanges", "internal/bytealg.MaxLen"], plainKeys := false, apart := false, laid := [("unicode/utf8.acceptRanges", laid_unicode_utf8_acceptRanges), ("thimble/op.fields", laid_thimble_op_fields), ("unicode/utf8.first", laid_unicode_utf8_first)], narrowed := true }
def PathHomeUptoSaid : Prop := pathHomeUptoRow.holds Tryz.pinned (OpenSpec.upto pathHomeSpec)

/-- 'thimblelaw15.PathPoints', WHERE WHAT IT READS IS OF BULK AT MOST 1048576: true; the input reads as it did. -/
def pathPointsUptoRow : OpenClaim := { program := "ytbkijfhfjhpebaagreatdoor", sum := "2a5cac4545f6fdb8218de43b07ccb878edfb0bc6bb5a24aa9fec2ba449c42b92", func := "thimble/thimblelaw15.PathPoints", spec := "pathPoints", inPlace := ["maps.clone", "internal/bytealg.IndexByteString", "internal/bytealg.CountString", "internal/bytealg.IndexString"], unfollowed := true, recurses := true, named := ["thimble/op.fields", "unicode/utf8.first", "unicode/utf8.acceptRanges", "internal/bytealg.MaxLen"], plainKeys := false, apart := false, laid := [("unicode/utf8.acceptRanges", laid_unicode_utf8_acceptRanges), ("thimble/op.fields", laid_thimble_op_fields), ("unicode/utf8.first", laid_unicode_utf8_first)], narrowed := true }
def PathPointsUptoSaid : Prop := pathPointsUptoRow.holds Tryz.pinned (OpenSpec.upto pathPointsSpec)

/-- 'thimblelaw15.PathParts', WHERE WHAT IT READS IS OF BULK AT MOST 1048576: true; the input reads as it did. -/
def pathPartsUptoRow : OpenClaim := { program := "ytbkijfhfjhpebaagreatdoor", sum := "2a5cac4545f6fdb8218de43b07ccb878edfb0bc6bb5a24aa9fec2ba449c42b92", func := "thimble/thimblelaw15.PathParts", spec := "pathParts", inPlace := ["maps.clone", "internal/bytealg.IndexByteString", "internal/bytealg.CountString", "internal/bytealg.IndexString"], unfollowed := true, recurses := true, named := ["thimble/op.fields", "unicode/utf8.first", "unicode/utf8.acceptRanges", "internal/bytealg.MaxLen"], plainKeys := false, apart := false, laid := [("unicode/utf8.acceptRanges", laid_unicode_utf8_acceptRanges), ("thimble/op.fields", laid_thimble_op_fields), ("unicode/utf8.first", laid_unicode_utf8_first)], narrowed := true }
def PathPartsUptoSaid : Prop := pathPartsUptoRow.holds Tryz.pinned (OpenSpec.upto pathPartsSpec)

/-- 'thimblelaw15.PathNobody', WHERE WHAT IT READS IS OF BULK AT MOST 1048576: true; the input reads as it did. -/
def pathNobodyUptoRow : OpenClaim := { program := "ytbkijfhfjhpebaagreatdoor", sum := "2a5cac4545f6fdb8218de43b07ccb878edfb0bc6bb5a24aa9fec2ba449c42b92", func := "thimble/thimblelaw15.PathNobody", spec := "pathNobody", inPlace := ["maps.clone", "internal/bytealg.IndexByteString", "internal/bytealg.CountString", "internal/bytealg.IndexString"], unfollowed := true, recurses := true, named := ["thimble/op.fields", "unicode/utf8.first", "unicode/utf8.acceptRanges", "internal/bytealg.MaxLen"], plainKeys := false, apart := false, laid := [("unicode/utf8.acceptRanges", laid_unicode_utf8_acceptRanges), ("thimble/op.fields", laid_thimble_op_fields), ("unicode/utf8.first", laid_unicode_utf8_first)], narrowed := true }
def PathNobodyUptoSaid : Prop := pathNobodyUptoRow.holds Tryz.pinned (OpenSpec.upto pathNobodySpec)

/-- 'thimblelaw15.PathUp', WHERE WHAT IT READS IS OF BULK AT MOST 1048576: true; the input reads as it did. -/
def pathUpUptoRow : OpenClaim := { program := "ytbkijfhfjhpebaagreatdoor", sum := "2a5cac4545f6fdb8218de43b07ccb878edfb0bc6bb5a24aa9fec2ba449c42b92", func := "thimble/thimblelaw15.PathUp", spec := "pathUp", inPlace := ["maps.clone", "internal/bytealg.IndexByteString", "internal/bytealg.CountString", "internal/bytealg.IndexString"], unfollowed := true, recurses := true, named := ["thimble/op.fields", "unicode/utf8.first", "unicode/utf8.acceptRanges", "internal/bytealg.MaxLen"], plainKeys := false, apart := false, laid := [("unicode/utf8.acceptRanges", laid_unicode_utf8_acceptRanges), ("thimble/op.fields", laid_thimble_op_fields), ("unicode/utf8.first", laid_unicode_utf8_first)], narrowed := true }
def PathUpUptoSaid : Prop := pathUpUptoRow.holds Tryz.pinned (OpenSpec.upto pathUpSpec)

end Rows
end Go.Proofs.YtbkijfhfjhpebaaGreatDoor
