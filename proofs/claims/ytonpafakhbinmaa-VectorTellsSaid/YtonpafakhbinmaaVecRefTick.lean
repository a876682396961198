/-
  The walk of the document's own Tick.
-/
import Derived.Test.YtonpafakhbinmaaVecRef
namespace Go.Proofs.Ytonpafakhbinmaa
open Go.RowKit VecMath

set_option maxRecDepth 100000 in
set_option maxHeartbeats 800000 in
theorem refTick_out (v : Nat → Int) (rep : Int) (h : rep < 0 ∨ 7 < rep) (w : World) :
    Calls Try.prog 10 #[.agg #[.int .i64 (v 0), .int .i64 (v 1), .int .i64 (v 2), .int .i64 (v 3), .int .i64 (v 4), .int .i64 (v 5), .int .i64 (v 6), .int .i64 (v 7)], .int .i64 rep] w fun e w' => e = .returned (.tuple #[.agg (arr v), .int .i64 0]) ∧ Below w.heap.size w w' := by
  have hcase : rep < 0 ∨ (¬ rep < 0 ∧ 7 < rep) := by omega
  clear h
  rcases hcase with h1 | ⟨h1, h2⟩
  all_goals
    go_enter Try.func10, Try.ntmps10
    go_wp2_with fail
    exact bodyPost_ret (v := .tuple #[.agg (arr v), .int .i64 0]) (by simp [results, Try.results10, go_sem, arr]) rfl ⟨rfl, ((Below.refl _ _).alloc (Nat.le_refl _) _).alloc (by simp) _⟩

set_option maxRecDepth 100000 in
set_option maxHeartbeats 800000 in
theorem refTick_in (v : Nat → Int) (k : Nat) (h : k < 8) (w : World) :
    Calls Try.prog 10 #[.agg #[.int .i64 (v 0), .int .i64 (v 1), .int .i64 (v 2), .int .i64 (v 3), .int .i64 (v 4), .int .i64 (v 5), .int .i64 (v 6), .int .i64 (v 7)], .int .i64 (k : Int)] w fun e w' => e = .returned (.tuple #[.agg (arr (put v k (wrap64 (v k + 1)))), .int .i64 (wrap64 (v k + 1))]) ∧ Below w.heap.size w w' := by
  rcases lt8 h with rfl | rfl | rfl | rfl | rfl | rfl | rfl | rfl
  all_goals
    go_enter Try.func10, Try.ntmps10
    go_wp2_with fail
    go_region
  all_goals
    go_wp2_with fail
    refine bodyPost_ret ?_ rfl ⟨rfl, (((((Below.refl _ _).alloc (Nat.le_refl _) _).alloc (by simp) _).alloc (by simp; omega) _).drew)⟩
    simp [results, Try.results10, go_sem, arr, put]

end Go.Proofs.Ytonpafakhbinmaa
