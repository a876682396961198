/-
  The walk of the statements' head: the document's examples.
-/
import Derived.Test.YthaihblogfefnaaPackInt
namespace Go.Proofs.Ythaihblogfefnaa
open Go.RowKit PackMath

theorem numL_300 : numL 300 = [172, 2] := by decide +kernel
theorem numL_1 : numL (zig (-1)) = [1] := by decide +kernel

set_option maxHeartbeats 400000 in
theorem shown_any (w : World) :
    Calls Try.prog 7 #[] w fun e w' => e = .returned (.bool true) ∧ Below w.heap.size w w' := by
  go_enter Try.func7, Try.ntmps7
  go_wp2_with fail
  refine (num_any 300 (IsU64.small (by decide)) _).mono ?_
  rintro e w1 ⟨rfl, hb1⟩
  rw [numL_300]
  go_wp2_with fail
  refine (int_any (-1) (by unfold IsI64; omega) _).mono ?_
  rintro e w2 ⟨rfl, hb2⟩
  rw [numL_1]
  go_wp2_with fail
  go_ret
  exact ⟨rfl, hb1.trans (hb2.mono hb1.size)⟩

end Go.Proofs.Ythaihblogfefnaa
