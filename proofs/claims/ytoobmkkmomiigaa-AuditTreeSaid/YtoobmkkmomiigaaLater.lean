/-
  A region that draws its order, whose own operations only read, and whose callees may make memory but turn nothing that is there: one walk, in the text's order. It needs no program.
-/
import Derived.Test.YtoobmkkmomiigaaBase
import Derived.Deep.QuietTactic
import Derived.BigQuiet
namespace Go.Proofs.Ytoobmkkmomiigaa
open Go.RowKit

open Classical in
/-- A world in which all that was there in w reads as before: x, if it is one. -/
noncomputable def later (w x : World) : World := if Below w.heap.size w x then x else w

theorem later_below (w x : World) : Below w.heap.size w (later w x) := by
  unfold later
  split
  · assumption
  · exact Below.refl _ _

theorem later_of {w x : World} (h : Below w.heap.size w x) : later w x = x := by
  unfold later
  rw [if_pos h]

theorem later_cell {w : World} {a : Addr} {v : Value} (h : w.cell? a = some v) (x : World) : (later w x).cell? a = some v := cell_later (later_below w x) h

/-- The walk of the lexical order serves every order. -/
theorem wp_region_later {P : Program} {id : Nat} {Q : Exit → Act → World → Prop} {a : Act} {w : World} {l : List Oper} (hm : P.follows .mixedOrders = true) (hB : Region.lexB .any l.toArray = true)
    (h : wpQuiet P l.toArray (fun w' => ∃ x, w' = later w x) (fun a' => ∀ w', (∃ x, w' = later w x) → Q .normal a' w') l a) : (Code.region id l.toArray true).wp P Q a w :=
  wp_region_quiet (C := fun w' => ∃ x, w' = later w x) hm hB ⟨w.drew, (later_of (Below.refl _ _).drew).symm⟩ (by simpa using h)

/-- A callee's contract, met in such a world. -/
theorem later_call {P : Program} {f : FuncId} {args : Array Value} {w x : World} {v : Value} (h : Calls P f args (later w x) fun e w' => e = .returned v ∧ Below (later w x).heap.size (later w x) w') :
    Calls P f args (later w x) fun e w'' => e = .returned v ∧ ∃ y, w'' = later w y :=
  h.mono fun _ w' ⟨he, hb⟩ => ⟨he, w', (later_of (below_step (later_below w x) hb)).symm⟩

end Go.Proofs.Ytoobmkkmomiigaa
