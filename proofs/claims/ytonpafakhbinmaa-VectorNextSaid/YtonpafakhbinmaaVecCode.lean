/-
  The walks of vector's own functions: the numbers of replicas, join and meet, covers, may.
-/
import Derived.Test.YtonpafakhbinmaaVecEach
import Derived.Test.YtonpafakhbinmaaVecEq
import Derived.Test.YtonpafakhbinmaaLater
import Derived.Deep.DeepCutAuto
namespace Go.Proofs.Ytonpafakhbinmaa
open Go.RowKit VecMath PackMath

theorem vecIsRep_any (r : Int) (w : World) :
    Calls Try.prog 24 #[.int .i64 r] w fun e w' => e = .returned (.bool (decide (0 ≤ r) && decide (r < 8))) ∧ w = w' := by
  have hcase : (decide (0 ≤ r) = false) ∨ 0 ≤ r := by
    by_cases h : 0 ≤ r
    · exact Or.inr h
    · exact Or.inl (by simp; omega)
  rcases hcase with h | h
  all_goals
    go_enter Try.func24, Try.ntmps24
    go_wp2_with fail
    go_ret
    exact ⟨by simp [h], rfl⟩

set_option maxRecDepth 100000 in
set_option maxHeartbeats 800000 in
theorem joinV_any (a b : Nat → Int) (w : World) :
    Calls Try.prog 19 #[.agg #[.int .i64 (a 0), .int .i64 (a 1), .int .i64 (a 2), .int .i64 (a 3), .int .i64 (a 4), .int .i64 (a 5), .int .i64 (a 6), .int .i64 (a 7)], .agg #[.int .i64 (b 0), .int .i64 (b 1), .int .i64 (b 2), .int .i64 (b 3), .int .i64 (b 4), .int .i64 (b 5), .int .i64 (b 6), .int .i64 (b 7)]] w fun e w' => e = .returned (.agg (arr (joinV a b))) ∧ Below w.heap.size w w' := by
  have hsz : (Try.prog.info? 24).map (·.size) = some 8 := vv_info
  have HI := Lib.hid hsz
  clear hsz
  have hmf : ∀ (fn : Fn) (first cap : Array Value) (w : World), (Instr.makeFunc fn first cap).run Try.prog w = .ok (.func fn first cap) w := fun _ _ _ _ => rfl
  obtain ⟨q1, q2, q3⟩ := heap3 w (.cells (arr a) 24) (.cells (arr b) 24) (.cells (arr fun _ => 0) 24)
  have Q1 := Lib.hid q1
  have Q2 := Lib.hid q2
  have Q3 := Lib.hid q3
  clear q1 q2 q3
  go_enter Try.func19, Try.ntmps19
  go_wp2_with fail
  refine (join_each a b w.heap.size (w.heap.size + 1) _ Q1.out Q2.out).mono ?_
  rintro e w1 ⟨rfl, hb1⟩
  have h1 := (hb1.block (w.heap.size + 1 + 1) (by simp)).trans Q3.out
  have hB := below_step ((((Below.refl w.heap.size w).alloc (Nat.le_refl _) _).alloc (by simp) _).alloc (by simp; omega) _) hb1
  clear hb1
  obtain ⟨j, hj⟩ : ∃ j, j = joinV a b := ⟨_, rfl⟩
  rw [← hj]
  have HJ := Lib.hid hj
  clear hj
  have hst : (storeCells ⟨w.heap.size + 1 + 1, 0, none⟩ (arr j).toList 0).run Try.prog w1 = .ok () (w1.setRow (w.heap.size + 1 + 1) (arr j)) := by
    have h := run_storeCells_from (P := Try.prog) (w.heap.size + 1 + 1) 24 (arr j).toList 0 (arr fun _ => 0) w1 h1 (by simp [arr_size]) (fun v hv => (Array.all_eq_true_iff_forall_mem.1 (arr_one j)) v (by simpa using hv))
    rw [h]
    congr 2
  go_wp2_with fail
  exact bodyPost_ret (v := .agg (arr j)) (results_cell_row rfl _ _ (w.heap.size + 1 + 1) 24 (arr j) (0, 0) _ rfl (setRow_heap w1 _ _ _ _ _ h1) Try.underlying24 rfl HI.out) rfl ⟨by rw [HJ.out], below_setRow hB (by omega) _⟩

set_option maxRecDepth 100000 in
set_option maxHeartbeats 800000 in
theorem meetV_any (a b : Nat → Int) (w : World) :
    Calls Try.prog 21 #[.agg #[.int .i64 (a 0), .int .i64 (a 1), .int .i64 (a 2), .int .i64 (a 3), .int .i64 (a 4), .int .i64 (a 5), .int .i64 (a 6), .int .i64 (a 7)], .agg #[.int .i64 (b 0), .int .i64 (b 1), .int .i64 (b 2), .int .i64 (b 3), .int .i64 (b 4), .int .i64 (b 5), .int .i64 (b 6), .int .i64 (b 7)]] w fun e w' => e = .returned (.agg (arr (meetV a b))) ∧ Below w.heap.size w w' := by
  have hsz : (Try.prog.info? 24).map (·.size) = some 8 := vv_info
  have HI := Lib.hid hsz
  clear hsz
  have hmf : ∀ (fn : Fn) (first cap : Array Value) (w : World), (Instr.makeFunc fn first cap).run Try.prog w = .ok (.func fn first cap) w := fun _ _ _ _ => rfl
  obtain ⟨q1, q2, q3⟩ := heap3 w (.cells (arr a) 24) (.cells (arr b) 24) (.cells (arr fun _ => 0) 24)
  have Q1 := Lib.hid q1
  have Q2 := Lib.hid q2
  have Q3 := Lib.hid q3
  clear q1 q2 q3
  go_enter Try.func21, Try.ntmps21
  go_wp2_with fail
  refine (meet_each a b w.heap.size (w.heap.size + 1) _ Q1.out Q2.out).mono ?_
  rintro e w1 ⟨rfl, hb1⟩
  have h1 := (hb1.block (w.heap.size + 1 + 1) (by simp)).trans Q3.out
  have hB := below_step ((((Below.refl w.heap.size w).alloc (Nat.le_refl _) _).alloc (by simp) _).alloc (by simp; omega) _) hb1
  clear hb1
  obtain ⟨j, hj⟩ : ∃ j, j = meetV a b := ⟨_, rfl⟩
  rw [← hj]
  have HJ := Lib.hid hj
  clear hj
  have hst : (storeCells ⟨w.heap.size + 1 + 1, 0, none⟩ (arr j).toList 0).run Try.prog w1 = .ok () (w1.setRow (w.heap.size + 1 + 1) (arr j)) := by
    have h := run_storeCells_from (P := Try.prog) (w.heap.size + 1 + 1) 24 (arr j).toList 0 (arr fun _ => 0) w1 h1 (by simp [arr_size]) (fun v hv => (Array.all_eq_true_iff_forall_mem.1 (arr_one j)) v (by simpa using hv))
    rw [h]
    congr 2
  go_wp2_with fail
  exact bodyPost_ret (v := .agg (arr j)) (results_cell_row rfl _ _ (w.heap.size + 1 + 1) 24 (arr j) (0, 0) _ rfl (setRow_heap w1 _ _ _ _ _ h1) Try.underlying24 rfl HI.out) rfl ⟨by rw [HJ.out], below_setRow hB (by omega) _⟩

theorem covers_eq (a b : Nat → Int) : eqV (joinV a b) a = covV a b := by
  rw [Bool.eq_iff_iff, eqV_iff, covV_iff]
  refine ⟨fun h i hi => ?_, fun h i hi => ?_⟩
  · have := h i hi
    rw [joinV_at] at this
    omega
  · have := h i hi
    rw [joinV_at]
    omega

set_option maxRecDepth 100000 in
set_option maxHeartbeats 1600000 in
theorem covers_any (a b : Nat → Int) (w : World) :
    Calls Try.prog 15 #[.agg #[.int .i64 (a 0), .int .i64 (a 1), .int .i64 (a 2), .int .i64 (a 3), .int .i64 (a 4), .int .i64 (a 5), .int .i64 (a 6), .int .i64 (a 7)], .agg #[.int .i64 (b 0), .int .i64 (b 1), .int .i64 (b 2), .int .i64 (b 3), .int .i64 (b 4), .int .i64 (b 5), .int .i64 (b 6), .int .i64 (b 7)]] w fun e w' => e = .returned (.bool (covV a b)) ∧ Below w.heap.size w w' := by
  have hE : ∀ W : World, (Op.equalIn 10000 24 (.agg (arr (joinV a b))) (.agg #[.int .i64 (a 0), .int .i64 (a 1), .int .i64 (a 2), .int .i64 (a 3), .int .i64 (a 4), .int .i64 (a 5), .int .i64 (a 6), .int .i64 (a 7)])).run Try.prog W = .ok (covV a b) W := fun W => by rw [← covers_eq]; exact run_eqV (joinV a b) a W
  have hJ : ∀ W : World, Calls Try.prog 19 #[.agg #[.int .i64 (a 0), .int .i64 (a 1), .int .i64 (a 2), .int .i64 (a 3), .int .i64 (a 4), .int .i64 (a 5), .int .i64 (a 6), .int .i64 (a 7)], .agg #[.int .i64 (b 0), .int .i64 (b 1), .int .i64 (b 2), .int .i64 (b 3), .int .i64 (b 4), .int .i64 (b 5), .int .i64 (b 6), .int .i64 (b 7)]] W fun e w' => e = .returned (.agg (arr (joinV a b))) ∧ Below W.heap.size W w' := fun W => joinV_any a b W
  obtain ⟨j, hj⟩ : ∃ j, j = joinV a b := ⟨_, rfl⟩
  obtain ⟨c, hc⟩ : ∃ c, c = covV a b := ⟨_, rfl⟩
  rw [← hc]
  rw [← hj] at hJ hE
  rw [← hc] at hE
  have HE := Lib.hid hE
  have HJ := Lib.hid hJ
  clear hE hJ hj hc
  go_enter Try.func15, Try.ntmps15
  go_wp2_with fail
  have hS0 : ((((w.alloc (.cells #[.int .i64 (a 0), .int .i64 (a 1), .int .i64 (a 2), .int .i64 (a 3), .int .i64 (a 4), .int .i64 (a 5), .int .i64 (a 6), .int .i64 (a 7)] 24)).alloc (.cells #[.int .i64 (b 0), .int .i64 (b 1), .int .i64 (b 2), .int .i64 (b 3), .int .i64 (b 4), .int .i64 (b 5), .int .i64 (b 6), .int .i64 (b 7)] 24)).cell? ⟨w.heap.size, 0, none⟩ = some (.int .i64 (a 0)) ∧ ((w.alloc (.cells #[.int .i64 (a 0), .int .i64 (a 1), .int .i64 (a 2), .int .i64 (a 3), .int .i64 (a 4), .int .i64 (a 5), .int .i64 (a 6), .int .i64 (a 7)] 24)).alloc (.cells #[.int .i64 (b 0), .int .i64 (b 1), .int .i64 (b 2), .int .i64 (b 3), .int .i64 (b 4), .int .i64 (b 5), .int .i64 (b 6), .int .i64 (b 7)] 24)).cell? ⟨w.heap.size, 1, none⟩ = some (.int .i64 (a 1)) ∧ ((w.alloc (.cells #[.int .i64 (a 0), .int .i64 (a 1), .int .i64 (a 2), .int .i64 (a 3), .int .i64 (a 4), .int .i64 (a 5), .int .i64 (a 6), .int .i64 (a 7)] 24)).alloc (.cells #[.int .i64 (b 0), .int .i64 (b 1), .int .i64 (b 2), .int .i64 (b 3), .int .i64 (b 4), .int .i64 (b 5), .int .i64 (b 6), .int .i64 (b 7)] 24)).cell? ⟨w.heap.size, 2, none⟩ = some (.int .i64 (a 2)) ∧ ((w.alloc (.cells #[.int .i64 (a 0), .int .i64 (a 1), .int .i64 (a 2), .int .i64 (a 3), .int .i64 (a 4), .int .i64 (a 5), .int .i64 (a 6), .int .i64 (a 7)] 24)).alloc (.cells #[.int .i64 (b 0), .int .i64 (b 1), .int .i64 (b 2), .int .i64 (b 3), .int .i64 (b 4), .int .i64 (b 5), .int .i64 (b 6), .int .i64 (b 7)] 24)).cell? ⟨w.heap.size, 3, none⟩ = some (.int .i64 (a 3)) ∧ ((w.alloc (.cells #[.int .i64 (a 0), .int .i64 (a 1), .int .i64 (a 2), .int .i64 (a 3), .int .i64 (a 4), .int .i64 (a 5), .int .i64 (a 6), .int .i64 (a 7)] 24)).alloc (.cells #[.int .i64 (b 0), .int .i64 (b 1), .int .i64 (b 2), .int .i64 (b 3), .int .i64 (b 4), .int .i64 (b 5), .int .i64 (b 6), .int .i64 (b 7)] 24)).cell? ⟨w.heap.size, 4, none⟩ = some (.int .i64 (a 4)) ∧ ((w.alloc (.cells #[.int .i64 (a 0), .int .i64 (a 1), .int .i64 (a 2), .int .i64 (a 3), .int .i64 (a 4), .int .i64 (a 5), .int .i64 (a 6), .int .i64 (a 7)] 24)).alloc (.cells #[.int .i64 (b 0), .int .i64 (b 1), .int .i64 (b 2), .int .i64 (b 3), .int .i64 (b 4), .int .i64 (b 5), .int .i64 (b 6), .int .i64 (b 7)] 24)).cell? ⟨w.heap.size, 5, none⟩ = some (.int .i64 (a 5)) ∧ ((w.alloc (.cells #[.int .i64 (a 0), .int .i64 (a 1), .int .i64 (a 2), .int .i64 (a 3), .int .i64 (a 4), .int .i64 (a 5), .int .i64 (a 6), .int .i64 (a 7)] 24)).alloc (.cells #[.int .i64 (b 0), .int .i64 (b 1), .int .i64 (b 2), .int .i64 (b 3), .int .i64 (b 4), .int .i64 (b 5), .int .i64 (b 6), .int .i64 (b 7)] 24)).cell? ⟨w.heap.size, 6, none⟩ = some (.int .i64 (a 6)) ∧ ((w.alloc (.cells #[.int .i64 (a 0), .int .i64 (a 1), .int .i64 (a 2), .int .i64 (a 3), .int .i64 (a 4), .int .i64 (a 5), .int .i64 (a 6), .int .i64 (a 7)] 24)).alloc (.cells #[.int .i64 (b 0), .int .i64 (b 1), .int .i64 (b 2), .int .i64 (b 3), .int .i64 (b 4), .int .i64 (b 5), .int .i64 (b 6), .int .i64 (b 7)] 24)).cell? ⟨w.heap.size, 7, none⟩ = some (.int .i64 (a 7))) ∧ (((w.alloc (.cells #[.int .i64 (a 0), .int .i64 (a 1), .int .i64 (a 2), .int .i64 (a 3), .int .i64 (a 4), .int .i64 (a 5), .int .i64 (a 6), .int .i64 (a 7)] 24)).alloc (.cells #[.int .i64 (b 0), .int .i64 (b 1), .int .i64 (b 2), .int .i64 (b 3), .int .i64 (b 4), .int .i64 (b 5), .int .i64 (b 6), .int .i64 (b 7)] 24)).cell? ⟨w.heap.size + 1, 0, none⟩ = some (.int .i64 (b 0)) ∧ ((w.alloc (.cells #[.int .i64 (a 0), .int .i64 (a 1), .int .i64 (a 2), .int .i64 (a 3), .int .i64 (a 4), .int .i64 (a 5), .int .i64 (a 6), .int .i64 (a 7)] 24)).alloc (.cells #[.int .i64 (b 0), .int .i64 (b 1), .int .i64 (b 2), .int .i64 (b 3), .int .i64 (b 4), .int .i64 (b 5), .int .i64 (b 6), .int .i64 (b 7)] 24)).cell? ⟨w.heap.size + 1, 1, none⟩ = some (.int .i64 (b 1)) ∧ ((w.alloc (.cells #[.int .i64 (a 0), .int .i64 (a 1), .int .i64 (a 2), .int .i64 (a 3), .int .i64 (a 4), .int .i64 (a 5), .int .i64 (a 6), .int .i64 (a 7)] 24)).alloc (.cells #[.int .i64 (b 0), .int .i64 (b 1), .int .i64 (b 2), .int .i64 (b 3), .int .i64 (b 4), .int .i64 (b 5), .int .i64 (b 6), .int .i64 (b 7)] 24)).cell? ⟨w.heap.size + 1, 2, none⟩ = some (.int .i64 (b 2)) ∧ ((w.alloc (.cells #[.int .i64 (a 0), .int .i64 (a 1), .int .i64 (a 2), .int .i64 (a 3), .int .i64 (a 4), .int .i64 (a 5), .int .i64 (a 6), .int .i64 (a 7)] 24)).alloc (.cells #[.int .i64 (b 0), .int .i64 (b 1), .int .i64 (b 2), .int .i64 (b 3), .int .i64 (b 4), .int .i64 (b 5), .int .i64 (b 6), .int .i64 (b 7)] 24)).cell? ⟨w.heap.size + 1, 3, none⟩ = some (.int .i64 (b 3)) ∧ ((w.alloc (.cells #[.int .i64 (a 0), .int .i64 (a 1), .int .i64 (a 2), .int .i64 (a 3), .int .i64 (a 4), .int .i64 (a 5), .int .i64 (a 6), .int .i64 (a 7)] 24)).alloc (.cells #[.int .i64 (b 0), .int .i64 (b 1), .int .i64 (b 2), .int .i64 (b 3), .int .i64 (b 4), .int .i64 (b 5), .int .i64 (b 6), .int .i64 (b 7)] 24)).cell? ⟨w.heap.size + 1, 4, none⟩ = some (.int .i64 (b 4)) ∧ ((w.alloc (.cells #[.int .i64 (a 0), .int .i64 (a 1), .int .i64 (a 2), .int .i64 (a 3), .int .i64 (a 4), .int .i64 (a 5), .int .i64 (a 6), .int .i64 (a 7)] 24)).alloc (.cells #[.int .i64 (b 0), .int .i64 (b 1), .int .i64 (b 2), .int .i64 (b 3), .int .i64 (b 4), .int .i64 (b 5), .int .i64 (b 6), .int .i64 (b 7)] 24)).cell? ⟨w.heap.size + 1, 5, none⟩ = some (.int .i64 (b 5)) ∧ ((w.alloc (.cells #[.int .i64 (a 0), .int .i64 (a 1), .int .i64 (a 2), .int .i64 (a 3), .int .i64 (a 4), .int .i64 (a 5), .int .i64 (a 6), .int .i64 (a 7)] 24)).alloc (.cells #[.int .i64 (b 0), .int .i64 (b 1), .int .i64 (b 2), .int .i64 (b 3), .int .i64 (b 4), .int .i64 (b 5), .int .i64 (b 6), .int .i64 (b 7)] 24)).cell? ⟨w.heap.size + 1, 6, none⟩ = some (.int .i64 (b 6)) ∧ ((w.alloc (.cells #[.int .i64 (a 0), .int .i64 (a 1), .int .i64 (a 2), .int .i64 (a 3), .int .i64 (a 4), .int .i64 (a 5), .int .i64 (a 6), .int .i64 (a 7)] 24)).alloc (.cells #[.int .i64 (b 0), .int .i64 (b 1), .int .i64 (b 2), .int .i64 (b 3), .int .i64 (b 4), .int .i64 (b 5), .int .i64 (b 6), .int .i64 (b 7)] 24)).cell? ⟨w.heap.size + 1, 7, none⟩ = some (.int .i64 (b 7)))) ∧ KeptFrom w ((w.alloc (.cells #[.int .i64 (a 0), .int .i64 (a 1), .int .i64 (a 2), .int .i64 (a 3), .int .i64 (a 4), .int .i64 (a 5), .int .i64 (a 6), .int .i64 (a 7)] 24)).alloc (.cells #[.int .i64 (b 0), .int .i64 (b 1), .int .i64 (b 2), .int .i64 (b 3), .int .i64 (b 4), .int .i64 (b 5), .int .i64 (b 6), .int .i64 (b 7)] 24)) := by
    have q1 := heap_alloc2_old w (.cells (arr a) 24) (.cells (arr b) 24)
    have q2 := heap_alloc2_new w (.cells (arr a) 24) (.cells (arr b) 24)
    exact ⟨⟨⟨cell_arr q1 (show 0 < 8 by omega), cell_arr q1 (show 1 < 8 by omega), cell_arr q1 (show 2 < 8 by omega), cell_arr q1 (show 3 < 8 by omega), cell_arr q1 (show 4 < 8 by omega), cell_arr q1 (show 5 < 8 by omega), cell_arr q1 (show 6 < 8 by omega), cell_arr q1 (show 7 < 8 by omega)⟩, ⟨cell_arr q2 (show 0 < 8 by omega), cell_arr q2 (show 1 < 8 by omega), cell_arr q2 (show 2 < 8 by omega), cell_arr q2 (show 3 < 8 by omega), cell_arr q2 (show 4 < 8 by omega), cell_arr q2 (show 5 < 8 by omega), cell_arr q2 (show 6 < 8 by omega), cell_arr q2 (show 7 < 8 by omega)⟩⟩, ((Below.refl _ _).alloc (Nat.le_refl _) _).alloc (by simp) _⟩
  generalize ((w.alloc (.cells #[.int .i64 (a 0), .int .i64 (a 1), .int .i64 (a 2), .int .i64 (a 3), .int .i64 (a 4), .int .i64 (a 5), .int .i64 (a 6), .int .i64 (a 7)] 24)).alloc (.cells #[.int .i64 (b 0), .int .i64 (b 1), .int .i64 (b 2), .int .i64 (b 3), .int .i64 (b 4), .int .i64 (b 5), .int .i64 (b 6), .int .i64 (b 7)] 24)) = W0 at hS0 ⊢
  obtain ⟨⟨⟨s0, s1, s2, s3, s4, s5, s6, s7⟩, ⟨t0, t1, t2, t3, t4, t5, t6, t7⟩⟩, hK⟩ := hS0
  have su0 := later_cell s0
  have su1 := later_cell s1
  have su2 := later_cell s2
  have su3 := later_cell s3
  have su4 := later_cell s4
  have su5 := later_cell s5
  have su6 := later_cell s6
  have su7 := later_cell s7
  have tu0 := later_cell t0
  have tu1 := later_cell t1
  have tu2 := later_cell t2
  have tu3 := later_cell t3
  have tu4 := later_cell t4
  have tu5 := later_cell t5
  have tu6 := later_cell t6
  have tu7 := later_cell t7
  have HK := Lib.hid hK
  clear hK s0 s1 s2 s3 s4 s5 s6 s7 t0 t1 t2 t3 t4 t5 t6 t7
  have E : ∀ W : World, (Op.equalIn 10000 24 (.agg (arr j)) (.agg #[.int .i64 (a 0), .int .i64 (a 1), .int .i64 (a 2), .int .i64 (a 3), .int .i64 (a 4), .int .i64 (a 5), .int .i64 (a 6), .int .i64 (a 7)])).run Try.prog W = .ok c W := HE.out
  refine wp_region_later (by kernel_rfl) (by kernel_rfl) ?_
  repeat (go_big_quiet_step (with_reducible exact later_call (HJ.out _)))
  refine wpQuiet_nil ?_
  intro _ hw'
  obtain ⟨y, rfl⟩ := hw'
  go_wp2_with fail
  go_ret
  exact ⟨rfl, below_step (kept_below HK.out) (later_below _ _)⟩

end Go.Proofs.Ytonpafakhbinmaa
