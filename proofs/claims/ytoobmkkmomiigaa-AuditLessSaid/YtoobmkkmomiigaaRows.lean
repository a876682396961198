/-
  No cell of these rows narrows 'for every input' (looked for: loops, veiled, ifaces, maps, wideKeys, modest, calm, conditions, laid).
  DERIVED. THE GIVEN ROWS OF THIS SEAT. 3 by the template 'for every input the law returns true; each argument reads behind the call as it read before'; 0 by the template 'total and deterministic' (their statements: YtoobmkkmomiigaaTotals.lean).
  GIVEN WITH THE SEED: the statements are not yours to turn. If you find one false, say at which input.
  Laid BY PROGRAM, IN A SANDBOX (cutbox-rows.mjs): the forced cells as the released guide's own fill.sh prints them over the translation e63f4f998ba80fbb… (all of the seat's roots in one cut). By AI agents, Wed Nov 11 2026. No macro, syntax, notation, axiom, sorry.
-/
import Derived.Test.YtoobmkkmomiigaaChecked
import GoSem.Claim
import GoSem.ClaimJoined
import GoSem.ClaimMapViews
import Derived.JoinedTies
import Derived.KernelRfl
namespace Go.Proofs.Ytoobmkkmomiigaa
/- THE CELL 'sum', in the pinned program and in every row, IS THE sha256 OF THE DUMP (.gsa) THAT YtoobmkkmomiigaaProg.lean LOADS. Nothing in Lean hashes anything: it is a label: what it is worth is what the hold of that sum in a sandbox is worth. -/
noncomputable def Try.pinned : Pinned := { name := "ytoobmkkmomiigaa", sum := "e63f4f998ba80fbb0d070969ada2bbf63c3a349f1e0d6ce7cff5d8d8932ee246", checked := Try.checked }
namespace Rows
def none {H : Type} : Left H := { results := [], args := [] }

/-- 'thimblelaw10.AuditLess': WHATEVER THE INPUT: true; the input reads as it did. -/
def auditLessSpec : ChangeSpec := { name := "auditLess", fn := fun _ => fun
  | [d1, d2, d3] => { results := [.lit (.bool true)], args := [d1, d2, d3] }
  | _ => none }
def auditLessRow : OpenClaim := { program := "ytoobmkkmomiigaa", sum := "e63f4f998ba80fbb0d070969ada2bbf63c3a349f1e0d6ce7cff5d8d8932ee246", func := "thimble/thimblelaw10.AuditLess", spec := "auditLess", inPlace := ["internal/bytealg.IndexByteString"], unfollowed := true, recurses := true, plainKeys := false, apart := false }
def AuditLessSaid : Prop := auditLessRow.holds Try.pinned (OpenSpec.ofChange auditLessSpec)

/-- ITS FALSE NEIGHBOUR: 'it returns false'. Refute it at one input. -/
def auditLessWrong : ChangeSpec := { name := "auditLess", fn := fun _ => fun
  | [d1, d2, d3] => { results := [.lit (.bool false)], args := [d1, d2, d3] }
  | _ => none }
def AuditLessWrongFalsely : Prop := auditLessRow.holds Try.pinned (OpenSpec.ofChange auditLessWrong)

/-- 'thimblelaw10.AuditTree': WHATEVER THE INPUT: true; the input reads as it did. -/
def auditTreeSpec : ChangeSpec := { name := "auditTree", fn := fun _ => fun
  | [d1, d2] => { results := [.lit (.bool true)], args := [d1, d2] }
  | _ => none }
def auditTreeRow : OpenClaim := { program := "ytoobmkkmomiigaa", sum := "e63f4f998ba80fbb0d070969ada2bbf63c3a349f1e0d6ce7cff5d8d8932ee246", func := "thimble/thimblelaw10.AuditTree", spec := "auditTree", inPlace := ["internal/bytealg.IndexByteString"], unfollowed := true, recurses := true, plainKeys := false, apart := false }
def AuditTreeSaid : Prop := auditTreeRow.holds Try.pinned (OpenSpec.ofChange auditTreeSpec)

/-- ITS FALSE NEIGHBOUR: 'it returns false'. Refute it at one input. -/
def auditTreeWrong : ChangeSpec := { name := "auditTree", fn := fun _ => fun
  | [d1, d2] => { results := [.lit (.bool false)], args := [d1, d2] }
  | _ => none }
def AuditTreeWrongFalsely : Prop := auditTreeRow.holds Try.pinned (OpenSpec.ofChange auditTreeWrong)

/-- 'thimblelaw10.AuditReaches': WHATEVER THE INPUT: true; the input reads as it did. -/
def auditReachesSpec : ChangeSpec := { name := "auditReaches", fn := fun _ => fun
  | [d1, d2, d3] => { results := [.lit (.bool true)], args := [d1, d2, d3] }
  | _ => none }
def auditReachesRow : OpenClaim := { program := "ytoobmkkmomiigaa", sum := "e63f4f998ba80fbb0d070969ada2bbf63c3a349f1e0d6ce7cff5d8d8932ee246", func := "thimble/thimblelaw10.AuditReaches", spec := "auditReaches", inPlace := ["internal/bytealg.IndexByteString"], unfollowed := true, recurses := true, plainKeys := false, apart := false }
def AuditReachesSaid : Prop := auditReachesRow.holds Try.pinned (OpenSpec.ofChange auditReachesSpec)

/-- ITS FALSE NEIGHBOUR: 'it returns false'. Refute it at one input. -/
def auditReachesWrong : ChangeSpec := { name := "auditReaches", fn := fun _ => fun
  | [d1, d2, d3] => { results := [.lit (.bool false)], args := [d1, d2, d3] }
  | _ => none }
def AuditReachesWrongFalsely : Prop := auditReachesRow.holds Try.pinned (OpenSpec.ofChange auditReachesWrong)

/- THE SECOND FORM. 'bulk': how many values and letters a reading holds, each counted each time it is reached (what is shared counts as often as it is met; a slice's spare places count too). A statement '..UptoSaid' is the law's where the arguments, and the package variables that the reading takes, are together of bulk at most 1048576: NARROWER than '..Said'. Prove '..Said' where nothing that the law and all that it calls make is longer than what came in: it says more and counts as full. Else prove '..UptoSaid'. A law counts once. -/
mutual
def uptoBulk {H : Type} : DataW H → Nat
  | .lit (.string bytes) => bytes.length + 1
  | .lit _ => 1
  | .nil => 1
  | .ptr d => uptoBulk d + 1
  | .slice elems spare => uptoBulkAll elems + uptoBulkAll spare + 1
  | .agg parts => uptoBulkAll parts + 1
  | .iface _ d => uptoBulk d + 1
  | .map entries => uptoBulkEntries entries + 1
  | .held _ => 1
def uptoBulkAll {H : Type} : List (DataW H) → Nat
  | [] => 0
  | d :: r => uptoBulk d + uptoBulkAll r
def uptoBulkEntries {H : Type} : List (Lit × DataW H) → Nat
  | [] => 0
  | x :: r => uptoBulkEntry x + uptoBulkEntries r
def uptoBulkEntry {H : Type} : Lit × DataW H → Nat
  | (.string bytes, d) => bytes.length + uptoBulk d + 1
  | (_, d) => uptoBulk d + 1
 end
def uptoSmall : (H : Type) → List (DataW H) → Bool := fun _ ds => decide (uptoBulkAll ds ≤ 1048576)
def OpenSpec.upto (s : _root_.Go.ChangeSpec) : _root_.Go.OpenSpec := { _root_.Go.OpenSpec.ofChange s with cond := some uptoSmall }

/-- 'thimblelaw10.AuditLess', WHERE WHAT IT READS IS OF BULK AT MOST 1048576: true; the input reads as it did. -/
def auditLessUptoRow : OpenClaim := { program := "ytoobmkkmomiigaa", sum := "e63f4f998ba80fbb0d070969ada2bbf63c3a349f1e0d6ce7cff5d8d8932ee246", func := "thimble/thimblelaw10.AuditLess", spec := "auditLess", inPlace := ["internal/bytealg.IndexByteString"], unfollowed := true, recurses := true, plainKeys := false, apart := false, narrowed := true }
def AuditLessUptoSaid : Prop := auditLessUptoRow.holds Try.pinned (OpenSpec.upto auditLessSpec)

/-- 'thimblelaw10.AuditTree', WHERE WHAT IT READS IS OF BULK AT MOST 1048576: true; the input reads as it did. -/
def auditTreeUptoRow : OpenClaim := { program := "ytoobmkkmomiigaa", sum := "e63f4f998ba80fbb0d070969ada2bbf63c3a349f1e0d6ce7cff5d8d8932ee246", func := "thimble/thimblelaw10.AuditTree", spec := "auditTree", inPlace := ["internal/bytealg.IndexByteString"], unfollowed := true, recurses := true, plainKeys := false, apart := false, narrowed := true }
def AuditTreeUptoSaid : Prop := auditTreeUptoRow.holds Try.pinned (OpenSpec.upto auditTreeSpec)

/-- 'thimblelaw10.AuditReaches', WHERE WHAT IT READS IS OF BULK AT MOST 1048576: true; the input reads as it did. -/
def auditReachesUptoRow : OpenClaim := { program := "ytoobmkkmomiigaa", sum := "e63f4f998ba80fbb0d070969ada2bbf63c3a349f1e0d6ce7cff5d8d8932ee246", func := "thimble/thimblelaw10.AuditReaches", spec := "auditReaches", inPlace := ["internal/bytealg.IndexByteString"], unfollowed := true, recurses := true, plainKeys := false, apart := false, narrowed := true }
def AuditReachesUptoSaid : Prop := auditReachesUptoRow.holds Try.pinned (OpenSpec.upto auditReachesSpec)

end Rows
end Go.Proofs.Ytoobmkkmomiigaa
