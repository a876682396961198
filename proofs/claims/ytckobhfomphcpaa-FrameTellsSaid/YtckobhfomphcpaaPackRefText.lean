/-
  The walk of the document's own Text.
-/
import Derived.Test.YtckobhfomphcpaaPackRefNum
namespace Go.Proofs.Ytckobhfomphcpaa
open Go.RowKit PackMath

set_option maxHeartbeats 400000 in
theorem refText (s : ByteArray) (hs : s.size ≤ 4000) (w : World) :
    Calls Try.prog 20 #[.string s] w fun e w' => e = .returned (.string ⟨(numL s.size ++ s.data.toList).toArray⟩) ∧ Below w.heap.size w w' := by
  have hl := (numL_length s.size).2
  go_enter Try.func20, Try.ntmps20
  go_wp2_with fail
  refine (refNum _ (IsU64.small (by omega)) _).mono ?_
  rintro e w' ⟨rfl, hb⟩
  go_wp2_with fail
  go_ret
  exact ⟨by rw [← mk_append_data]; rfl, hb⟩

end Go.Proofs.Ytckobhfomphcpaa
