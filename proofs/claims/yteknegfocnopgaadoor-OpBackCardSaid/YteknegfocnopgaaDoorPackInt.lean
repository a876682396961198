/-
  The walk of pack.Int.
-/
import Derived.Test.YteknegfocnopgaaDoorPackNum
namespace Go.Proofs.YteknegfocnopgaaDoor
open Go.RowKit PackMath

set_option maxHeartbeats 400000 in
theorem int_any (n : Int) (hn : IsI64 n) (w : World) :
    Calls Tryd.prog 39 #[.int .i64 n] w fun e w' => e = .returned (.string ⟨(numL (zig n)).toArray⟩) ∧ Below w.heap.size w w' := by
  have HN := Lib.hid hn
  clear hn
  by_cases h0 : n < 0
  · go_enter Tryd.func39, Tryd.ntmps39
    go_wp2_with fail
    rw [zig_neg HN.out h0]
    refine (num_any _ (zig_u64 HN.out) _).mono ?_
    rintro e w' ⟨rfl, hb⟩
    go_wp2_with fail
    go_ret
    exact ⟨rfl, hb⟩
  · go_enter Tryd.func39, Tryd.ntmps39
    go_wp2_with fail
    rw [zig_pos HN.out (by omega)]
    refine (num_any _ (zig_u64 HN.out) _).mono ?_
    rintro e w' ⟨rfl, hb⟩
    go_wp2_with fail
    go_ret
    exact ⟨rfl, hb⟩

end Go.Proofs.YteknegfocnopgaaDoor
