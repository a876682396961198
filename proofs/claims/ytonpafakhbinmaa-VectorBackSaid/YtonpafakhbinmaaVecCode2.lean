/-
  The walks of vector's own May, Tick, Ready.
-/
import Derived.Test.YtonpafakhbinmaaVecCode
namespace Go.Proofs.Ytonpafakhbinmaa
open Go.RowKit VecMath PackMath

theorem may_eq (v : Nat → Int) : (covV v (fun _ => 0) && covV mostV v) = mayV v := by
  rw [Bool.eq_iff_iff, Bool.and_eq_true, covV_iff, covV_iff, mayV_iff]
  exact ⟨fun h i hi => ⟨h.1 i hi, h.2 i hi⟩, fun h => ⟨fun i hi => (h i hi).1, fun i hi => (h i hi).2⟩⟩

theorem most_each8 (w : World) : Calls Try.prog 27 #[.func (.func 28) #[] #[]] w fun e w' => e = .returned (.agg #[.int .i64 1073741824, .int .i64 1073741824, .int .i64 1073741824, .int .i64 1073741824, .int .i64 1073741824, .int .i64 1073741824, .int .i64 1073741824, .int .i64 1073741824]) ∧ Below w.heap.size w w' := most_each w

set_option maxRecDepth 100000 in
set_option maxHeartbeats 1600000 in
theorem vecMay_any (v : Nat → Int) (w : World) :
    Calls Try.prog 13 #[.agg #[.int .i64 (v 0), .int .i64 (v 1), .int .i64 (v 2), .int .i64 (v 3), .int .i64 (v 4), .int .i64 (v 5), .int .i64 (v 6), .int .i64 (v 7)]] w fun e w' => e = .returned (.bool (mayV v)) ∧ Below w.heap.size w w' := by
  obtain ⟨c1, e1⟩ : ∃ c, c = covV v (fun _ => 0) := ⟨_, rfl⟩
  obtain ⟨c2, e2⟩ : ∃ c, c = covV mostV v := ⟨_, rfl⟩
  have H1 : Hid (∀ W : World, Calls Try.prog 15 #[.agg #[.int .i64 (v 0), .int .i64 (v 1), .int .i64 (v 2), .int .i64 (v 3), .int .i64 (v 4), .int .i64 (v 5), .int .i64 (v 6), .int .i64 (v 7)], .agg #[.int .i64 0, .int .i64 0, .int .i64 0, .int .i64 0, .int .i64 0, .int .i64 0, .int .i64 0, .int .i64 0]] W fun e w' => e = .returned (.bool c1) ∧ Below W.heap.size W w') := fun W => by rw [e1]; exact covers_any v (fun _ => 0) W
  have H2 : Hid (∀ W : World, Calls Try.prog 15 #[.agg #[.int .i64 1073741824, .int .i64 1073741824, .int .i64 1073741824, .int .i64 1073741824, .int .i64 1073741824, .int .i64 1073741824, .int .i64 1073741824, .int .i64 1073741824], .agg #[.int .i64 (v 0), .int .i64 (v 1), .int .i64 (v 2), .int .i64 (v 3), .int .i64 (v 4), .int .i64 (v 5), .int .i64 (v 6), .int .i64 (v 7)]] W fun e w' => e = .returned (.bool c2) ∧ Below W.heap.size W w') := fun W => by rw [e2]; exact covers_any mostV v W
  rw [← may_eq v, ← e1, ← e2]
  clear e1 e2
  have q1 := heap_alloc_new w (.cells (arr v) 24)
  have Q1 := Lib.hid q1
  clear q1
  cases c1
  all_goals
    go_enter Try.func13, Try.ntmps13
    go_wp2_with fail
    refine (most_each8 _).mono ?_
    rintro e w1 ⟨rfl, hb1⟩
    have h1 := (hb1.block w.heap.size (by simp)).trans Q1.out
    have hz : w.heap.size < w1.heap.size := heap_lt h1
    have hB := below_step ((Below.refl w.heap.size w).alloc (Nat.le_refl _) _) hb1
    have z0 := cell_arr h1 (show 0 < 8 by omega)
    have z1 := cell_arr h1 (show 1 < 8 by omega)
    have z2 := cell_arr h1 (show 2 < 8 by omega)
    have z3 := cell_arr h1 (show 3 < 8 by omega)
    have z4 := cell_arr h1 (show 4 < 8 by omega)
    have z5 := cell_arr h1 (show 5 < 8 by omega)
    have z6 := cell_arr h1 (show 6 < 8 by omega)
    have z7 := cell_arr h1 (show 7 < 8 by omega)
    clear hb1
    go_wp2_with fail
    refine (H1.out _).mono ?_
    rintro e w2 ⟨rfl, hb2⟩
  · have hB2 := below_step (hB.alloc (Nat.le_of_lt hz) _) hb2
    go_wp2_with fail
    go_ret
    exact ⟨rfl, hB2⟩
  · have hB2 := below_step (hB.alloc (Nat.le_of_lt hz) _) hb2
    obtain ⟨hc2, hf2⟩ := bcell_below hb2
    have hz2 : w1.heap.size < w2.heap.size := by have := hb2.size; simp at this; omega
    clear hb2
    go_wp2_with fail
    refine (H2.out _).mono ?_
    rintro e w3 ⟨rfl, hb3⟩
    go_wp2_with fail
    go_ret
    exact ⟨rfl, below_step hB2 hb3⟩

set_option maxRecDepth 100000 in
set_option maxHeartbeats 800000 in
theorem vecTick_out (v : Nat → Int) (rep : Int) (w : World) (h : rep < 0 ∨ 7 < rep) :
    Calls Try.prog 9 #[.agg #[.int .i64 (v 0), .int .i64 (v 1), .int .i64 (v 2), .int .i64 (v 3), .int .i64 (v 4), .int .i64 (v 5), .int .i64 (v 6), .int .i64 (v 7)], .int .i64 rep] w fun e w' => e = .returned (.tuple #[.agg (arr v), .int .i64 0]) ∧ Below w.heap.size w w' := by
  have HR : Hid (∀ W : World, Calls Try.prog 24 #[.int .i64 rep] W fun e w' => e = .returned (.bool false) ∧ W = w') := fun W => by
    have k := vecIsRep_any rep W
    rw [show (decide (0 ≤ rep) && decide (rep < 8)) = false by rw [Bool.and_eq_false_iff, decide_eq_false_iff_not, decide_eq_false_iff_not]; omega] at k
    exact k
  clear h
  go_enter Try.func9, Try.ntmps9
  go_wp2_with fail
  refine (HR.out _).mono ?_
  rintro e w' ⟨rfl, rfl⟩
  go_wp2_with fail
  exact bodyPost_ret (v := .tuple #[.agg (arr v), .int .i64 0]) (by simp [results, Try.results9, go_sem, arr]) rfl ⟨rfl, ((Below.refl _ _).alloc (Nat.le_refl _) _).alloc (by simp) _⟩

set_option maxRecDepth 100000 in
set_option maxHeartbeats 1600000 in
theorem vecTick_in (v : Nat → Int) (k : Nat) (w : World) (h : k < 8) :
    Calls Try.prog 9 #[.agg #[.int .i64 (v 0), .int .i64 (v 1), .int .i64 (v 2), .int .i64 (v 3), .int .i64 (v 4), .int .i64 (v 5), .int .i64 (v 6), .int .i64 (v 7)], .int .i64 (k : Int)] w fun e w' => e = .returned (.tuple #[.agg (arr (put v k (wrap64 (v k + 1)))), .int .i64 (wrap64 (v k + 1))]) ∧ Below w.heap.size w w' := by
  have HR : Hid (∀ W : World, Calls Try.prog 24 #[.int .i64 (k : Int)] W fun e w' => e = .returned (.bool true) ∧ W = w') := fun W => by
    have e := vecIsRep_any (k : Int) W
    rw [show (decide (0 ≤ (k : Int)) && decide ((k : Int) < 8)) = true by rw [Bool.and_eq_true, decide_eq_true_iff, decide_eq_true_iff]; omega] at e
    exact e
  rcases lt8 h with rfl | rfl | rfl | rfl | rfl | rfl | rfl | rfl
  all_goals
    clear h
    go_enter Try.func9, Try.ntmps9
    go_wp2_with fail
    refine (HR.out _).mono ?_
    rintro e w' ⟨rfl, rfl⟩
    go_wp2_with fail
    go_region
  all_goals
    go_wp2_with fail
    refine bodyPost_ret ?_ rfl ⟨rfl, ((((Below.refl _ _).alloc (Nat.le_refl _) _).alloc (by simp) _).drew)⟩
    simp [results, Try.results9, go_sem, arr, put]

end Go.Proofs.Ytonpafakhbinmaa
