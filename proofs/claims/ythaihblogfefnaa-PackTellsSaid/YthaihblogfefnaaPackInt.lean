/-
  The walks of pack.Int and pack.Text.
-/
import Derived.Test.YthaihblogfefnaaPackNum
namespace Go.Proofs.Ythaihblogfefnaa
open Go.RowKit PackMath

set_option maxHeartbeats 400000 in
theorem int_any (n : Int) (hn : IsI64 n) (w : World) :
    Calls Try.prog 16 #[.int .i64 n] w fun e w' => e = .returned (.string ⟨(numL (zig n)).toArray⟩) ∧ Below w.heap.size w w' := by
  have HN := Lib.hid hn
  clear hn
  by_cases h0 : n < 0
  · go_enter Try.func16, Try.ntmps16
    go_wp2_with fail
    rw [zig_neg HN.out h0]
    refine (num_any _ (zig_u64 HN.out) _).mono ?_
    rintro e w' ⟨rfl, hb⟩
    go_wp2_with fail
    go_ret
    exact ⟨rfl, hb⟩
  · go_enter Try.func16, Try.ntmps16
    go_wp2_with fail
    rw [zig_pos HN.out (by omega)]
    refine (num_any _ (zig_u64 HN.out) _).mono ?_
    rintro e w' ⟨rfl, hb⟩
    go_wp2_with fail
    go_ret
    exact ⟨rfl, hb⟩

theorem mk_append_data (l : List UInt8) (s : ByteArray) : (⟨l.toArray⟩ : ByteArray) ++ s = ⟨(l ++ s.data.toList).toArray⟩ := by
  apply ByteArray.ext
  simp [ByteArray.data_append]

set_option maxHeartbeats 400000 in
theorem text_any (s : ByteArray) (hs : s.size ≤ 4000) (w : World) :
    Calls Try.prog 18 #[.string s] w fun e w' => e = .returned (.string ⟨(numL s.size ++ s.data.toList).toArray⟩) ∧ Below w.heap.size w w' := by
  have hm : s.size ≤ maxLen := by unfold maxLen; omega
  have hl := (numL_length s.size).2
  go_enter Try.func18, Try.ntmps18
  go_wp2_with fail
  refine (num_any _ (IsU64.small (by omega)) _).mono ?_
  rintro e w' ⟨rfl, hb⟩
  go_wp2_with fail
  go_ret
  exact ⟨by rw [← mk_append_data]; rfl, hb⟩

end Go.Proofs.Ythaihblogfefnaa
