/-
  The walk of pack.Text.
-/
import Derived.Test.YtckobhfomphcpaaPackNum
namespace Go.Proofs.Ytckobhfomphcpaa
open Go.RowKit PackMath

set_option maxHeartbeats 400000 in
theorem text_any (s : ByteArray) (hs : s.size ≤ 30000) (w : World) :
    Calls Try.prog 18 #[.string s] w fun e w' => e = .returned (.string ⟨(numL s.size ++ s.data.toList).toArray⟩) ∧ Below w.heap.size w w' := by
  have hm : s.size ≤ maxLen := by unfold maxLen; omega
  have hl := (numL_length s.size).2
  go_enter Try.func18, Try.ntmps18
  go_wp2_with fail
  refine (num_any _ (IsU64.small (by omega)) _).mono ?_
  rintro e w' ⟨rfl, hb⟩
  go_wp2_with fail
  go_ret
  exact ⟨by rw [← mk_append_data]; rfl, hb⟩

end Go.Proofs.Ytckobhfomphcpaa
