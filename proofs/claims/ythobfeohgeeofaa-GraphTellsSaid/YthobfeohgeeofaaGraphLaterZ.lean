/-
  Rows that a call has told, in a later world.
-/
import Derived.Test.YthobfeohgeeofaaZ03
import Derived.Test.YthobfeohgeeofaaZ11
import Derived.Test.YthobfeohgeeofaaGraphRefSameZ
import Derived.Test.YthobfeohgeeofaaZ12
import Derived.Deep.RegionHeld3
namespace Go.Proofs.Ythobfeohgeeofaa
open Go.RowKit StampMath GraphMath OpMath

theorem InosIn.later {W W' : World} {A : Option Addr} {n : Nat} {I : List Ino} (h : InosIn W W.heap.size A n I) (hb : Below W.heap.size W W') : InosIn W' W'.heap.size A n I := (h.below hb).more hb.size
theorem EntsIn.later {W W' : World} {A : Option Addr} {n : Nat} {E : List Ent} (h : EntsIn W W.heap.size A n E) (hb : Below W.heap.size W W') : EntsIn W' W'.heap.size A n E := (h.below hb).more hb.size

end Go.Proofs.Ythobfeohgeeofaa
