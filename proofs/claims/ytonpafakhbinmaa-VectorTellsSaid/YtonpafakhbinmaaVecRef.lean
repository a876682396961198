/-
  The walks of the document's own May, Covers, Join, Meet and Tick.
-/
import Derived.Test.YtonpafakhbinmaaVecMath
import Derived.Test.YtonpafakhbinmaaRows
import Derived.Deep.QuietTactic
import Derived.BigQuiet
import Derived.Deep.LoopGhost
import Derived.Laws.CopyOwn
namespace Go.Proofs.Ytonpafakhbinmaa
open Go.RowKit VecMath

theorem vec_info : (Try.prog.info? 22).map (·.size) = some 8 := by kernel_rfl

set_option maxRecDepth 100000 in
set_option maxHeartbeats 800000 in
theorem refMay (v : Nat → Int) (w : World) :
    Calls Try.prog 14 #[.agg #[.int .i64 (v 0), .int .i64 (v 1), .int .i64 (v 2), .int .i64 (v 3), .int .i64 (v 4), .int .i64 (v 5), .int .i64 (v 6), .int .i64 (v 7)]] w fun e w' => e = .returned (.bool (mayV v)) ∧ Below w.heap.size w w' := by
  go_enter Try.func14, Try.ntmps14
  go_wp2_with fail
  have hcell : ∀ k, k < 8 → (w.alloc (.cells #[.int .i64 (v 0), .int .i64 (v 1), .int .i64 (v 2), .int .i64 (v 3), .int .i64 (v 4), .int .i64 (v 5), .int .i64 (v 6), .int .i64 (v 7)] 22)).cell? ⟨w.heap.size, k, none⟩ = some (.int .i64 (v k)) := fun k hk => cell_arr (heap_alloc_new w _) hk
  have HC := Lib.hid hcell
  clear hcell
  go_loop [3] (fun i => ∃ k : Nat, i = .int .i64 (k : Int) ∧ k ≤ 8 ∧ Hid (∀ j, j < k → 0 ≤ v j ∧ v j ≤ 1073741824)) (fun i => 8 - (intOf i).toNat)
  case atStart => exact ⟨0, rfl, by omega, fun j hj => by omega⟩
  case round =>
    obtain ⟨k, rfl, hk, hall⟩ := hrel
    by_cases hlt : k < 8
    · have hc := HC.out k hlt
      obtain ⟨x, hx⟩ : ∃ x, x = v k := ⟨_, rfl⟩
      rw [← hx] at hc
      have HX := Lib.hid hx
      clear hx
      have hcase : x < 0 ∨ (¬ x < 0 ∧ 1073741824 < x) ∨ (¬ x < 0 ∧ ¬ 1073741824 < x) := by omega
      rcases hcase with h1 | ⟨h1, h2⟩ | ⟨h1, h2⟩
      · go_wp2_with fail
        go_ret
        exact ⟨by rw [mayV_no hlt (by rw [← HX.out]; omega)]; rfl, (Below.refl _ _).alloc (Nat.le_refl _) _⟩
      · go_wp2_with fail
        go_ret
        exact ⟨by rw [mayV_no hlt (by rw [← HX.out]; omega)]; rfl, (Below.refl _ _).alloc (Nat.le_refl _) _⟩
      · go_wp2_with fail
        exact ⟨⟨k + 1, by go_num, by omega, fun j hj => by
          by_cases e : j = k
          · subst e; rw [← HX.out]; omega
          · exact hall.out j (by omega)⟩, by simp [intOf]; omega⟩
    · go_wp2_with fail
      go_ret
      exact ⟨by rw [mayV_yes (fun j hj => hall.out j (by omega))]; rfl, (Below.refl _ _).alloc (Nat.le_refl _) _⟩

set_option maxRecDepth 100000 in
set_option maxHeartbeats 800000 in
theorem refCovers (a b : Nat → Int) (w : World) :
    Calls Try.prog 16 #[.agg #[.int .i64 (a 0), .int .i64 (a 1), .int .i64 (a 2), .int .i64 (a 3), .int .i64 (a 4), .int .i64 (a 5), .int .i64 (a 6), .int .i64 (a 7)], .agg #[.int .i64 (b 0), .int .i64 (b 1), .int .i64 (b 2), .int .i64 (b 3), .int .i64 (b 4), .int .i64 (b 5), .int .i64 (b 6), .int .i64 (b 7)]] w fun e w' => e = .returned (.bool (covV a b)) ∧ Below w.heap.size w w' := by
  go_enter Try.func16, Try.ntmps16
  go_wp2_with fail
  go_loopg [5] 9 (fun gk i wr => ∃ k : Nat, i = .int .i64 (k : Int) ∧ gk + k = 9 ∧ k ≤ 8 ∧ Hid (∀ j, j < k → b j ≤ a j) ∧ wr.heap[w.heap.size]? = some (.cells (arr a) 22 (0, 0)) ∧ wr.heap[w.heap.size + 1]? = some (.cells (arr b) 22 (0, 0)) ∧ Below w.heap.size w wr)
  case atStart => exact ⟨0, rfl, by omega, by omega, fun j hj => by omega, heap_alloc2_old w _ _, heap_alloc2_new w _ _, ((Below.refl _ _).alloc (Nat.le_refl _) _).alloc (by simp) _⟩
  case round =>
    obtain ⟨k, rfl, hgk, hk, hall, h1, h2, hB⟩ := hrel
    have HG := Lib.hid hgk
    clear hgk
    by_cases hlt : k < 8
    · have c1 := cell_arr h1 hlt
      have c2 := cell_arr h2 hlt
      obtain ⟨x, hx⟩ : ∃ x, x = a k := ⟨_, rfl⟩
      obtain ⟨y, hy⟩ : ∃ y, y = b k := ⟨_, rfl⟩
      rw [← hx] at c1
      rw [← hy] at c2
      have HX := Lib.hid hx
      have HY := Lib.hid hy
      clear hx hy
      by_cases h : x < y
      · have hd : decide (x < y) = true := by simpa using h
        go_wp2_with fail
        go_quiet (fail)
        go_wp2_with fail
        go_ret
        exact ⟨by rw [covV_no hlt (by rw [← HX.out, ← HY.out]; exact h)]; rfl, below_drewN' hB _⟩
      · have hd : decide (x < y) = false := by simpa using h
        go_wp2_with fail
        go_quiet (fail)
        go_wp2_with fail
        go_roundg (gk - 1)
        case measure => have := HG.out; omega
        case rel => exact ⟨k + 1, by go_num, by have := HG.out; omega, by omega, fun j hj => by
          by_cases e : j = k
          · subst e; rw [← HX.out, ← HY.out]; omega
          · exact hall.out j (by omega), h1, h2, below_drewN' hB _⟩
    · go_wp2_with fail
      go_ret
      exact ⟨by rw [covV_yes (fun j hj => hall.out j (by omega))]; rfl, hB⟩

set_option maxRecDepth 100000 in
set_option maxHeartbeats 800000 in
theorem refJoin (a b : Nat → Int) (w : World) :
    Calls Try.prog 20 #[.agg #[.int .i64 (a 0), .int .i64 (a 1), .int .i64 (a 2), .int .i64 (a 3), .int .i64 (a 4), .int .i64 (a 5), .int .i64 (a 6), .int .i64 (a 7)], .agg #[.int .i64 (b 0), .int .i64 (b 1), .int .i64 (b 2), .int .i64 (b 3), .int .i64 (b 4), .int .i64 (b 5), .int .i64 (b 6), .int .i64 (b 7)]] w fun e w' => e = .returned (.agg (arr (joinV a b))) ∧ Below w.heap.size w w' := by
  have hsz : (Try.prog.info? 22).map (·.size) = some 8 := vec_info
  have HI := Lib.hid hsz
  clear hsz
  go_enter Try.func20, Try.ntmps20
  go_wp2_with fail
  go_loopg [6] 9 (fun gk i wr => ∃ k : Nat, i = .int .i64 (k : Int) ∧ gk + k = 9 ∧ k ≤ 8 ∧ wr.heap[w.heap.size]? = some (.cells (arr a) 22 (0, 0)) ∧ wr.heap[w.heap.size + 1]? = some (.cells (arr b) 22 (0, 0)) ∧
    wr.heap[w.heap.size + 2]? = some (.cells (arr fun _ => 0) 22 (0, 0)) ∧ wr.heap[w.heap.size + 3]? = some (.cells (arr (upto joinV a b k)) 22 (0, 0)) ∧ Below w.heap.size w wr)
  case atStart =>
    obtain ⟨q1, q2, q3, q4⟩ := heap4 w (.cells (arr a) 22) (.cells (arr b) 22) (.cells (arr fun _ => 0) 22) (.cells (arr a) 22)
    refine ⟨0, rfl, by omega, by omega, q1, q2, q3, ?_, (((((Below.refl _ _).alloc (Nat.le_refl _) _).alloc (by simp) _).alloc (by simp; omega) _).alloc (by simp; omega) _)⟩
    rw [upto_none]
    exact q4
  case round =>
    obtain ⟨k, rfl, hgk, hk, h1, h2, h3, h4, hB⟩ := hrel
    have HG := Lib.hid hgk
    clear hgk
    by_cases hlt : k < 8
    · have c1 := cell_arr h1 hlt
      have c2 := cell_arr h2 hlt
      have c4 := cell_arr h4 hlt
      have f4 : wr.frozen? ⟨w.heap.size + 3, k, none⟩ = false := frozen_of_row _ _ k _ _ h4
      obtain ⟨x, hx⟩ : ∃ x, x = a k := ⟨_, rfl⟩
      obtain ⟨y, hy⟩ : ∃ y, y = b k := ⟨_, rfl⟩
      rw [← hx] at c1
      rw [← hy] at c2
      have HX := Lib.hid hx
      have HY := Lib.hid hy
      clear hx hy
      by_cases h : x < y
      · have hd : decide (x < y) = true := by simpa using h
        go_wp2_with fail
        go_quiet (fail)
        go_wp2_with fail
        go_roundg (gk - 1)
        case measure => have := HG.out; omega
        case rel =>
          have q4 := heap_put (w := wr.drewN nq) h4 hlt y
          have e : put (upto joinV a b k) k y = upto joinV a b (k + 1) := by
            rw [show y = joinV a b k by rw [HY.out]; unfold joinV; rw [if_pos (by rw [← HX.out, ← HY.out]; exact h)], upto_put]
          rw [e] at q4
          refine ⟨k + 1, by go_num, by have := HG.out; omega, by omega, ?_, ?_, ?_, q4, (below_drewN' hB nq).setCell (by simp; omega) _⟩
          · exact (heap_setCell_other _ _ _ _ (by dsimp only; omega)).trans h1
          · exact (heap_setCell_other _ _ _ _ (by dsimp only; omega)).trans h2
          · exact (heap_setCell_other _ _ _ _ (by dsimp only; omega)).trans h3
      · have hd : decide (x < y) = false := by simpa using h
        go_wp2_with fail
        go_quiet (fail)
        go_wp2_with fail
        go_roundg (gk - 1)
        case measure => have := HG.out; omega
        case rel => exact ⟨k + 1, by go_num, by have := HG.out; omega, by omega, h1, h2, h3, by rw [upto_same _ _ _ _ (by unfold joinV; rw [if_neg (by rw [← HX.out, ← HY.out]; omega)])]; exact h4, below_drewN' hB nq⟩
    · have hk8 : k = 8 := by omega
      subst hk8
      rw [arr_upto] at h4
      obtain ⟨j, hj⟩ : ∃ j, j = joinV a b := ⟨_, rfl⟩
      rw [← hj] at h4
      have HJ := Lib.hid hj
      clear hj
      have hst : (storeCells ⟨w.heap.size + 2, 0, none⟩ (arr j).toList 0).run Try.prog wr = .ok () (wr.setRow (w.heap.size + 2) (arr j)) := by
        have h := run_storeCells_from (P := Try.prog) (w.heap.size + 2) 22 (arr j).toList 0 (arr fun _ => 0) wr h3 (by simp [arr_size]) (fun v hv => (Array.all_eq_true_iff_forall_mem.1 (arr_one j)) v (by simpa using hv))
        rw [h]
        congr 2
      go_wp2_with (refine wpList_load_row rfl 22 _ rfl (w.heap.size + 1 + 1 + 1) rfl 22 (arr j) (0, 0) _ h4 Try.underlying22 rfl HI.out ?_)
      exact bodyPost_ret (v := .agg (arr j)) (results_cell_row rfl _ _ (w.heap.size + 2) 22 (arr j) (0, 0) _ rfl (setRow_heap wr _ _ _ _ _ h3) Try.underlying22 rfl HI.out) rfl ⟨by rw [HJ.out], below_setRow hB (by omega) _⟩

set_option maxRecDepth 100000 in
set_option maxHeartbeats 800000 in
theorem refMeet (a b : Nat → Int) (w : World) :
    Calls Try.prog 22 #[.agg #[.int .i64 (a 0), .int .i64 (a 1), .int .i64 (a 2), .int .i64 (a 3), .int .i64 (a 4), .int .i64 (a 5), .int .i64 (a 6), .int .i64 (a 7)], .agg #[.int .i64 (b 0), .int .i64 (b 1), .int .i64 (b 2), .int .i64 (b 3), .int .i64 (b 4), .int .i64 (b 5), .int .i64 (b 6), .int .i64 (b 7)]] w fun e w' => e = .returned (.agg (arr (meetV a b))) ∧ Below w.heap.size w w' := by
  have hsz : (Try.prog.info? 22).map (·.size) = some 8 := vec_info
  have HI := Lib.hid hsz
  clear hsz
  go_enter Try.func22, Try.ntmps22
  go_wp2_with fail
  go_loopg [6] 9 (fun gk i wr => ∃ k : Nat, i = .int .i64 (k : Int) ∧ gk + k = 9 ∧ k ≤ 8 ∧ wr.heap[w.heap.size]? = some (.cells (arr a) 22 (0, 0)) ∧ wr.heap[w.heap.size + 1]? = some (.cells (arr b) 22 (0, 0)) ∧
    wr.heap[w.heap.size + 2]? = some (.cells (arr fun _ => 0) 22 (0, 0)) ∧ wr.heap[w.heap.size + 3]? = some (.cells (arr (upto meetV a b k)) 22 (0, 0)) ∧ Below w.heap.size w wr)
  case atStart =>
    obtain ⟨q1, q2, q3, q4⟩ := heap4 w (.cells (arr a) 22) (.cells (arr b) 22) (.cells (arr fun _ => 0) 22) (.cells (arr a) 22)
    refine ⟨0, rfl, by omega, by omega, q1, q2, q3, ?_, (((((Below.refl _ _).alloc (Nat.le_refl _) _).alloc (by simp) _).alloc (by simp; omega) _).alloc (by simp; omega) _)⟩
    rw [upto_none]
    exact q4
  case round =>
    obtain ⟨k, rfl, hgk, hk, h1, h2, h3, h4, hB⟩ := hrel
    have HG := Lib.hid hgk
    clear hgk
    by_cases hlt : k < 8
    · have c1 := cell_arr h1 hlt
      have c2 := cell_arr h2 hlt
      have c4 := cell_arr h4 hlt
      have f4 : wr.frozen? ⟨w.heap.size + 3, k, none⟩ = false := frozen_of_row _ _ k _ _ h4
      obtain ⟨x, hx⟩ : ∃ x, x = a k := ⟨_, rfl⟩
      obtain ⟨y, hy⟩ : ∃ y, y = b k := ⟨_, rfl⟩
      rw [← hx] at c1
      rw [← hy] at c2
      have HX := Lib.hid hx
      have HY := Lib.hid hy
      clear hx hy
      by_cases h : y < x
      · have hd : decide (y < x) = true := by simpa using h
        go_wp2_with fail
        go_quiet (fail)
        go_wp2_with fail
        go_roundg (gk - 1)
        case measure => have := HG.out; omega
        case rel =>
          have q4 := heap_put (w := wr.drewN nq) h4 hlt y
          have e : put (upto meetV a b k) k y = upto meetV a b (k + 1) := by
            rw [show y = meetV a b k by rw [HY.out]; unfold meetV; rw [if_pos (by rw [← HX.out, ← HY.out]; exact h)], upto_put]
          rw [e] at q4
          refine ⟨k + 1, by go_num, by have := HG.out; omega, by omega, ?_, ?_, ?_, q4, (below_drewN' hB nq).setCell (by simp; omega) _⟩
          · exact (heap_setCell_other _ _ _ _ (by dsimp only; omega)).trans h1
          · exact (heap_setCell_other _ _ _ _ (by dsimp only; omega)).trans h2
          · exact (heap_setCell_other _ _ _ _ (by dsimp only; omega)).trans h3
      · have hd : decide (y < x) = false := by simpa using h
        go_wp2_with fail
        go_quiet (fail)
        go_wp2_with fail
        go_roundg (gk - 1)
        case measure => have := HG.out; omega
        case rel => exact ⟨k + 1, by go_num, by have := HG.out; omega, by omega, h1, h2, h3, by rw [upto_same _ _ _ _ (by unfold meetV; rw [if_neg (by rw [← HX.out, ← HY.out]; omega)])]; exact h4, below_drewN' hB nq⟩
    · have hk8 : k = 8 := by omega
      subst hk8
      rw [arr_upto] at h4
      obtain ⟨j, hj⟩ : ∃ j, j = meetV a b := ⟨_, rfl⟩
      rw [← hj] at h4
      have HJ := Lib.hid hj
      clear hj
      have hst : (storeCells ⟨w.heap.size + 2, 0, none⟩ (arr j).toList 0).run Try.prog wr = .ok () (wr.setRow (w.heap.size + 2) (arr j)) := by
        have h := run_storeCells_from (P := Try.prog) (w.heap.size + 2) 22 (arr j).toList 0 (arr fun _ => 0) wr h3 (by simp [arr_size]) (fun v hv => (Array.all_eq_true_iff_forall_mem.1 (arr_one j)) v (by simpa using hv))
        rw [h]
        congr 2
      go_wp2_with (refine wpList_load_row rfl 22 _ rfl (w.heap.size + 1 + 1 + 1) rfl 22 (arr j) (0, 0) _ h4 Try.underlying22 rfl HI.out ?_)
      exact bodyPost_ret (v := .agg (arr j)) (results_cell_row rfl _ _ (w.heap.size + 2) 22 (arr j) (0, 0) _ rfl (setRow_heap wr _ _ _ _ _ h3) Try.underlying22 rfl HI.out) rfl ⟨by rw [HJ.out], below_setRow hB (by omega) _⟩

end Go.Proofs.Ytonpafakhbinmaa
