/-
  The walk of the document's own Int.
-/
import Derived.Test.YteknegfocnopgaaDoorPackRefNum
namespace Go.Proofs.YteknegfocnopgaaDoor
open Go.RowKit PackMath

set_option maxHeartbeats 400000 in
theorem refInt (n : Int) (hn : IsI64 n) (w : World) :
    Calls Tryd.prog 40 #[.int .i64 n] w fun e w' => e = .returned (.string ⟨(numL (zig n)).toArray⟩) ∧ Below w.heap.size w w' := by
  have h1 := hn.1
  have h2 := hn.2
  have HN := Lib.hid hn
  clear hn
  by_cases h0 : n < 0
  · go_enter Tryd.func40, Tryd.ntmps40
    go_wp2_with fail
    rw [show 2 * -(n + 1) + 1 = (zig n : Int) from by unfold zig; rw [if_pos h0]; omega]
    refine (refNum _ (zig_u64 HN.out) _).mono ?_
    rintro e w' ⟨rfl, hb⟩
    go_wp2_with fail
    go_ret
    exact ⟨rfl, hb⟩
  · go_enter Tryd.func40, Tryd.ntmps40
    go_wp2_with fail
    rw [show 2 * n = (zig n : Int) from by unfold zig; rw [if_neg (by omega)]; omega]
    refine (refNum _ (zig_u64 HN.out) _).mono ?_
    rintro e w' ⟨rfl, hb⟩
    go_wp2_with fail
    go_ret
    exact ⟨rfl, hb⟩

end Go.Proofs.YteknegfocnopgaaDoor
