/-
  The package's table of fields, as it lies in memory: worlds in which it does, and that what is below a world's end stays.
-/
import Derived.Test.YteknegfocnopgaaDoorBase
import Derived.Test.YteknegfocnopgaaDoorLater
import Derived.Test.YteknegfocnopgaaDoorHeld
import Derived.Test.YteknegfocnopgaaDoorRows
namespace Go.Proofs.YteknegfocnopgaaDoor
open Go.RowKit

/-- The numbers of the table. -/
def tabL : List Int := [0, 9, 9, 73, 11, 11, 11, 31, 98, 34, 34]

/-- The table lies in this world. -/
class Tab (W : World) : Prop where
  cells : Hid (∀ (i : Nat) (x : Int), tabL[i]? = some x → W.cell? ⟨0, i, none⟩ = some (.int .i64 x))

theorem Tab.at {W : World} (T : Tab W) (i : Nat) {x : Int} (h : tabL[i]? = some x) : W.cell? ⟨0, i, none⟩ = some (.int .i64 x) := T.cells.out i x h

theorem tab_below {B : Nat} {W W' : World} (T : Tab W) (hB : W.heap.size ≤ B) (h : Below B W W') : Tab W' :=
  ⟨Lib.hid fun i _ hx => (h.cell (p := ⟨0, i, none⟩) (Nat.lt_of_lt_of_le (World.block_lt_of_cell? _ _ (T.at i hx)) hB)).trans (T.at i hx)⟩

theorem tab_step {W W' : World} [T : Tab W] (h : Below W.heap.size W W') : Tab W' := tab_below T (Nat.le_refl _) h

theorem tab_held {w W : World} {L : List (Nat × Obj)} [T : Tab w] (h : Held w L W) : Tab W := tab_step h.below

theorem tab_kept {w W : World} [T : Tab w] (h : KeptFrom w W) : Tab W := tab_step (kept_below h)

instance tabAlloc {W : World} [T : Tab W] (o : Obj) : Tab (W.alloc o) := tab_step ((Below.refl _ W).alloc (Nat.le_refl _) o)

instance tabDrew {W : World} [T : Tab W] : Tab W.drew := tab_step ((Below.refl _ W).drew)

instance tabDrewN {W : World} [T : Tab W] (n : Nat) : Tab (W.drewN n) := tab_step (below_drewN' (Below.refl _ W) n)

instance tabLater {w : World} [T : Tab w] (x : World) : Tab (later w x) := tab_step (later_below w x)

end Go.Proofs.YteknegfocnopgaaDoor
