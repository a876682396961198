/-
  The walk of the document's own Do, whatever the operation.
-/
import Derived.Test.YtlhdbccemgofjaaGreatDoorApplyRefMZ
import Derived.Test.YtlhdbccemgofjaaGreatDoorApplyRefNZ
import Derived.Test.YtlhdbccemgofjaaGreatDoorApplyRefOZ
namespace Go.Proofs.YtlhdbccemgofjaaGreatDoor
open Go.RowKit StampMath GraphMath OpMath

theorem refDo (N : Nat → Prop) (v : Value) (g : Gr) (o : Opn) (hf : g.fine) (z1 : o.name.size ≤ 9223372036854775807) (z2 : o.new.size ≤ 9223372036854775807) (z3 : o.data.size ≤ 9223372036854775807) (ok : Ok64 o) (w : World) (hv : GrAt N w v g) :
    Calls Tryz.prog 17 #[v, .agg (opA o)] w (GrPost N (doA g o) w) := by
  by_cases hw : whyA g o = 0
  · by_cases h3 : o.k ≤ 3
    · exact refDoMake N v g o hf hw h3 z1 z2 z3 ok w hv
    · by_cases h7 : o.k = 7
      · exact refDoRename N v g o hf hw h7 z1 z2 z3 ok w hv
      · exact refDoOk N v g o hf hw (by omega) h7 z1 z2 z3 ok w hv
  · exact refDoBad N v g o hf.ok hw z1 z2 z3 w hv

end Go.Proofs.YtlhdbccemgofjaaGreatDoor
