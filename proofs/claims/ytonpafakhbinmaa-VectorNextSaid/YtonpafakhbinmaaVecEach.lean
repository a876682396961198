/-
  The walks of vector's own closures, and of the function that asks them for each replica.
-/
import Derived.Test.YtonpafakhbinmaaVecMath
import Derived.Test.YtonpafakhbinmaaRows
import Derived.RegionTactic
import Derived.ChangeAlike
import Derived.Deep.QuietTactic
import Derived.BigQuiet
import Derived.Deep.LoopGhost
import Derived.Laws.CopyOwn
namespace Go.Proofs.Ytonpafakhbinmaa
open Go.RowKit VecMath

theorem vv_info : (Try.prog.info? 24).map (·.size) = some 8 := by kernel_rfl

theorem most_clo (n : Int) (w : World) : Calls Try.prog 28 #[.int .i64 n] w fun e w' => e = .returned (.int .i64 1073741824) ∧ w = w' := by
  go_enter Try.func28, Try.ntmps28
  go_wp2_with fail
  go_ret
  exact ⟨rfl, rfl⟩

set_option maxHeartbeats 800000 in
theorem joinV_clo (a b : Nat → Int) (k p q : Nat) (hk : k < 8) (w : World) (h1 : w.heap[p]? = some (.cells (arr a) 24 (0, 0))) (h2 : w.heap[q]? = some (.cells (arr b) 24 (0, 0))) :
    Calls Try.prog 31 #[.int .i64 (k : Int), .pointer (some ⟨p, 0, none⟩), .pointer (some ⟨q, 0, none⟩)] w fun e w' => e = .returned (.int .i64 (joinV a b k)) ∧ w'.heap = w.heap ∧ Below w.heap.size w w' := by
  have c1 := cell_arr h1 hk
  have c2 := cell_arr h2 hk
  clear h1 h2
  have hv : joinV a b k = if a k < b k then b k else a k := rfl
  obtain ⟨x, hx⟩ : ∃ x, x = a k := ⟨_, rfl⟩
  obtain ⟨y, hy⟩ : ∃ y, y = b k := ⟨_, rfl⟩
  rw [← hx] at c1 hv
  rw [← hy] at c2 hv
  clear hx hy
  by_cases h : x < y
  · rw [if_pos h] at hv
    rw [hv]
    clear hv
    go_enter Try.func31, Try.ntmps31
    go_wp2_with fail
    go_region
    all_goals
      go_wp2_with fail
      go_ret
      exact ⟨rfl, rfl, (Below.refl _ _).drew⟩
  · rw [if_neg h] at hv
    rw [hv]
    clear hv
    go_enter Try.func31, Try.ntmps31
    go_wp2_with fail
    go_region
    all_goals
      go_wp2_with fail
      go_ret
      exact ⟨rfl, rfl, (Below.refl _ _).drew⟩

set_option maxHeartbeats 800000 in
theorem meetV_clo (a b : Nat → Int) (k p q : Nat) (hk : k < 8) (w : World) (h1 : w.heap[p]? = some (.cells (arr a) 24 (0, 0))) (h2 : w.heap[q]? = some (.cells (arr b) 24 (0, 0))) :
    Calls Try.prog 32 #[.int .i64 (k : Int), .pointer (some ⟨p, 0, none⟩), .pointer (some ⟨q, 0, none⟩)] w fun e w' => e = .returned (.int .i64 (meetV a b k)) ∧ w'.heap = w.heap ∧ Below w.heap.size w w' := by
  have c1 := cell_arr h1 hk
  have c2 := cell_arr h2 hk
  clear h1 h2
  have hv : meetV a b k = if b k < a k then b k else a k := rfl
  obtain ⟨x, hx⟩ : ∃ x, x = a k := ⟨_, rfl⟩
  obtain ⟨y, hy⟩ : ∃ y, y = b k := ⟨_, rfl⟩
  rw [← hx] at c1 hv
  rw [← hy] at c2 hv
  clear hx hy
  by_cases h : y < x
  · rw [if_pos h] at hv
    rw [hv]
    clear hv
    go_enter Try.func32, Try.ntmps32
    go_wp2_with fail
    go_region
    all_goals
      go_wp2_with fail
      go_ret
      exact ⟨rfl, rfl, (Below.refl _ _).drew⟩
  · rw [if_neg h] at hv
    rw [hv]
    clear hv
    go_enter Try.func32, Try.ntmps32
    go_wp2_with fail
    go_region
    all_goals
      go_wp2_with fail
      go_ret
      exact ⟨rfl, rfl, (Below.refl _ _).drew⟩

/-- The greatest time, of each. -/
def mostV : Nat → Int := fun _ => 1073741824

/-- The first k numbers of f, and zeros. -/
def firstK (f : Nat → Int) (k : Nat) : Nat → Int := fun i => if i < k then f i else 0

theorem firstK_put (f : Nat → Int) (k : Nat) : put (firstK f k) k (f k) = firstK f (k + 1) := by
  funext i
  unfold put firstK
  by_cases h : i = k
  · subst h; rw [if_pos rfl, if_pos (by omega)]
  · rw [if_neg h]
    by_cases h2 : i < k
    · rw [if_pos h2, if_pos (by omega)]
    · rw [if_neg h2, if_neg (by omega)]

theorem arr_firstK (f : Nat → Int) : arr (firstK f 8) = arr f := arr_ext fun _ hk => if_pos hk
theorem firstK_none (f : Nat → Int) : firstK f 0 = fun _ => 0 := by
  funext i
  unfold firstK
  rw [if_neg (by omega)]

set_option maxRecDepth 100000 in
set_option maxHeartbeats 800000 in
theorem most_each (w : World) :
    Calls Try.prog 27 #[.func (.func 28) #[] #[]] w fun e w' => e = .returned (.agg (arr mostV)) ∧ Below w.heap.size w w' := by
  have hsz : (Try.prog.info? 24).map (·.size) = some 8 := vv_info
  have HI := Lib.hid hsz
  clear hsz
  go_enter Try.func27, Try.ntmps27
  go_wp2_with fail
  go_loopg [5] 9 (fun gk i wr => ∃ k : Nat, i = .int .i64 (k : Int) ∧ gk + k = 9 ∧ k ≤ 8 ∧ wr.heap[w.heap.size]? = some (.cells (arr fun _ => 0) 24 (0, 0)) ∧ wr.heap[w.heap.size + 1]? = some (.cells (arr (firstK mostV k)) 24 (0, 0)) ∧ Below w.heap.size w wr)
  case atStart =>
    refine ⟨0, rfl, by omega, by omega, ?_, ?_, ((Below.refl _ _).alloc (Nat.le_refl _) _).alloc (by simp) _⟩
    · exact heap_alloc2_old w _ _
    · rw [firstK_none]; exact heap_alloc2_new w _ _
  case round =>
    obtain ⟨k, rfl, hgk, hk, h1, h2, hB⟩ := hrel
    have HG := Lib.hid hgk
    clear hgk
    by_cases hlt : k < 8
    · have hl2 := heap_lt h2
      go_wp2_with fail
      refine (most_clo _ _).mono ?_
      rintro e w1 ⟨rfl, rfl⟩
      have c2 := cell_arr h2 hlt
      have f2 : wr.frozen? ⟨w.heap.size + 1, k, none⟩ = false := frozen_of_row _ _ k _ _ h2
      go_wp2_with fail
      go_roundg (gk - 1)
      case measure => have := HG.out; omega
      case rel =>
        have q2 := heap_put h2 hlt 1073741824
        rw [show put (firstK mostV k) k 1073741824 = firstK mostV (k + 1) from firstK_put mostV k] at q2
        exact ⟨k + 1, by go_num, by have := HG.out; omega, by omega, (heap_setCell_other _ _ _ _ (by dsimp only; omega)).trans h1, q2, hB.setCell (by simp) _⟩
    · have hk8 : k = 8 := by omega
      subst hk8
      rw [arr_firstK] at h2
      obtain ⟨j, hj⟩ : ∃ j, j = mostV := ⟨_, rfl⟩
      rw [← hj] at h2
      have HJ := Lib.hid hj
      clear hj
      have hst : (storeCells ⟨w.heap.size, 0, none⟩ (arr j).toList 0).run Try.prog wr = .ok () (wr.setRow w.heap.size (arr j)) := by
        have h := run_storeCells_from (P := Try.prog) w.heap.size 24 (arr j).toList 0 (arr fun _ => 0) wr h1 (by simp [arr_size]) (fun v hv => (Array.all_eq_true_iff_forall_mem.1 (arr_one j)) v (by simpa using hv))
        rw [h]
        congr 2
      go_wp2_with (refine wpList_load_row rfl 24 _ rfl (w.heap.size + 1) rfl 24 (arr j) (0, 0) _ h2 Try.underlying24 rfl HI.out ?_)
      exact bodyPost_ret (v := .agg (arr j)) (results_cell_row rfl _ _ w.heap.size 24 (arr j) (0, 0) _ rfl (setRow_heap wr _ _ _ _ _ h1) Try.underlying24 rfl HI.out) rfl ⟨by rw [HJ.out], below_setRow hB (by omega) _⟩

set_option maxRecDepth 100000 in
set_option maxHeartbeats 800000 in
theorem join_each (a b : Nat → Int) (p q : Nat) (w : World) (hp : w.heap[p]? = some (.cells (arr a) 24 (0, 0))) (hq : w.heap[q]? = some (.cells (arr b) 24 (0, 0))) :
    Calls Try.prog 27 #[.func (.func 31) #[] #[.pointer (some ⟨p, 0, none⟩), .pointer (some ⟨q, 0, none⟩)]] w fun e w' => e = .returned (.agg (arr (joinV a b))) ∧ Below w.heap.size w w' := by
  have hsz : (Try.prog.info? 24).map (·.size) = some 8 := vv_info
  have HI := Lib.hid hsz
  clear hsz
  have HP := Lib.hid hp
  have HQ := Lib.hid hq
  clear hp hq
  go_enter Try.func27, Try.ntmps27
  go_wp2_with fail
  go_loopg [5] 9 (fun gk i wr => ∃ k : Nat, i = .int .i64 (k : Int) ∧ gk + k = 9 ∧ k ≤ 8 ∧ wr.heap[w.heap.size]? = some (.cells (arr fun _ => 0) 24 (0, 0)) ∧ wr.heap[w.heap.size + 1]? = some (.cells (arr (firstK (joinV a b) k)) 24 (0, 0)) ∧ Below w.heap.size w wr)
  case atStart =>
    refine ⟨0, rfl, by omega, by omega, ?_, ?_, ((Below.refl _ _).alloc (Nat.le_refl _) _).alloc (by simp) _⟩
    · exact heap_alloc2_old w _ _
    · rw [firstK_none]; exact heap_alloc2_new w _ _
  case round =>
    obtain ⟨k, rfl, hgk, hk, h1, h2, hB⟩ := hrel
    have HG := Lib.hid hgk
    clear hgk
    by_cases hlt : k < 8
    · have hl2 := heap_lt h2
      have z1 := (hB.block p (heap_lt HP.out)).trans HP.out
      have z2 := (hB.block q (heap_lt HQ.out)).trans HQ.out
      go_wp2_with fail
      refine (joinV_clo a b k p q hlt _ z1 z2).mono ?_
      rintro e w1 ⟨rfl, hh, hb1⟩
      have q1 : w1.heap[w.heap.size]? = some (.cells (arr fun _ => 0) 24 (0, 0)) := by rw [hh]; exact h1
      have q2 : w1.heap[w.heap.size + 1]? = some (.cells (arr (firstK (joinV a b) k)) 24 (0, 0)) := by rw [hh]; exact h2
      have qB := below_step hB hb1
      clear h1 h2 hB hb1 hh z1 z2
      have c2 := cell_arr q2 hlt
      have f2 : w1.frozen? ⟨w.heap.size + 1, k, none⟩ = false := frozen_of_row _ _ k _ _ q2
      obtain ⟨x, hx⟩ : ∃ x, x = (joinV a b) k := ⟨_, rfl⟩
      rw [← hx]
      have HX := Lib.hid hx
      clear hx
      go_wp2_with fail
      go_roundg (gk - 1)
      case measure => have := HG.out; omega
      case rel =>
        have q3 := heap_put q2 hlt x
        rw [HX.out, firstK_put] at q3
        rw [HX.out]
        exact ⟨k + 1, by go_num, by have := HG.out; omega, by omega, (heap_setCell_other _ _ _ _ (by dsimp only; omega)).trans q1, q3, qB.setCell (by simp) _⟩
    · have hk8 : k = 8 := by omega
      subst hk8
      rw [arr_firstK] at h2
      obtain ⟨j, hj⟩ : ∃ j, j = (joinV a b) := ⟨_, rfl⟩
      rw [← hj] at h2
      have HJ := Lib.hid hj
      clear hj
      have hst : (storeCells ⟨w.heap.size, 0, none⟩ (arr j).toList 0).run Try.prog wr = .ok () (wr.setRow w.heap.size (arr j)) := by
        have h := run_storeCells_from (P := Try.prog) w.heap.size 24 (arr j).toList 0 (arr fun _ => 0) wr h1 (by simp [arr_size]) (fun v hv => (Array.all_eq_true_iff_forall_mem.1 (arr_one j)) v (by simpa using hv))
        rw [h]
        congr 2
      go_wp2_with (refine wpList_load_row rfl 24 _ rfl (w.heap.size + 1) rfl 24 (arr j) (0, 0) _ h2 Try.underlying24 rfl HI.out ?_)
      exact bodyPost_ret (v := .agg (arr j)) (results_cell_row rfl _ _ w.heap.size 24 (arr j) (0, 0) _ rfl (setRow_heap wr _ _ _ _ _ h1) Try.underlying24 rfl HI.out) rfl ⟨by rw [HJ.out], below_setRow hB (by omega) _⟩

set_option maxRecDepth 100000 in
set_option maxHeartbeats 800000 in
theorem meet_each (a b : Nat → Int) (p q : Nat) (w : World) (hp : w.heap[p]? = some (.cells (arr a) 24 (0, 0))) (hq : w.heap[q]? = some (.cells (arr b) 24 (0, 0))) :
    Calls Try.prog 27 #[.func (.func 32) #[] #[.pointer (some ⟨p, 0, none⟩), .pointer (some ⟨q, 0, none⟩)]] w fun e w' => e = .returned (.agg (arr (meetV a b))) ∧ Below w.heap.size w w' := by
  have hsz : (Try.prog.info? 24).map (·.size) = some 8 := vv_info
  have HI := Lib.hid hsz
  clear hsz
  have HP := Lib.hid hp
  have HQ := Lib.hid hq
  clear hp hq
  go_enter Try.func27, Try.ntmps27
  go_wp2_with fail
  go_loopg [5] 9 (fun gk i wr => ∃ k : Nat, i = .int .i64 (k : Int) ∧ gk + k = 9 ∧ k ≤ 8 ∧ wr.heap[w.heap.size]? = some (.cells (arr fun _ => 0) 24 (0, 0)) ∧ wr.heap[w.heap.size + 1]? = some (.cells (arr (firstK (meetV a b) k)) 24 (0, 0)) ∧ Below w.heap.size w wr)
  case atStart =>
    refine ⟨0, rfl, by omega, by omega, ?_, ?_, ((Below.refl _ _).alloc (Nat.le_refl _) _).alloc (by simp) _⟩
    · exact heap_alloc2_old w _ _
    · rw [firstK_none]; exact heap_alloc2_new w _ _
  case round =>
    obtain ⟨k, rfl, hgk, hk, h1, h2, hB⟩ := hrel
    have HG := Lib.hid hgk
    clear hgk
    by_cases hlt : k < 8
    · have hl2 := heap_lt h2
      have z1 := (hB.block p (heap_lt HP.out)).trans HP.out
      have z2 := (hB.block q (heap_lt HQ.out)).trans HQ.out
      go_wp2_with fail
      refine (meetV_clo a b k p q hlt _ z1 z2).mono ?_
      rintro e w1 ⟨rfl, hh, hb1⟩
      have q1 : w1.heap[w.heap.size]? = some (.cells (arr fun _ => 0) 24 (0, 0)) := by rw [hh]; exact h1
      have q2 : w1.heap[w.heap.size + 1]? = some (.cells (arr (firstK (meetV a b) k)) 24 (0, 0)) := by rw [hh]; exact h2
      have qB := below_step hB hb1
      clear h1 h2 hB hb1 hh z1 z2
      have c2 := cell_arr q2 hlt
      have f2 : w1.frozen? ⟨w.heap.size + 1, k, none⟩ = false := frozen_of_row _ _ k _ _ q2
      obtain ⟨x, hx⟩ : ∃ x, x = (meetV a b) k := ⟨_, rfl⟩
      rw [← hx]
      have HX := Lib.hid hx
      clear hx
      go_wp2_with fail
      go_roundg (gk - 1)
      case measure => have := HG.out; omega
      case rel =>
        have q3 := heap_put q2 hlt x
        rw [HX.out, firstK_put] at q3
        rw [HX.out]
        exact ⟨k + 1, by go_num, by have := HG.out; omega, by omega, (heap_setCell_other _ _ _ _ (by dsimp only; omega)).trans q1, q3, qB.setCell (by simp) _⟩
    · have hk8 : k = 8 := by omega
      subst hk8
      rw [arr_firstK] at h2
      obtain ⟨j, hj⟩ : ∃ j, j = (meetV a b) := ⟨_, rfl⟩
      rw [← hj] at h2
      have HJ := Lib.hid hj
      clear hj
      have hst : (storeCells ⟨w.heap.size, 0, none⟩ (arr j).toList 0).run Try.prog wr = .ok () (wr.setRow w.heap.size (arr j)) := by
        have h := run_storeCells_from (P := Try.prog) w.heap.size 24 (arr j).toList 0 (arr fun _ => 0) wr h1 (by simp [arr_size]) (fun v hv => (Array.all_eq_true_iff_forall_mem.1 (arr_one j)) v (by simpa using hv))
        rw [h]
        congr 2
      go_wp2_with (refine wpList_load_row rfl 24 _ rfl (w.heap.size + 1) rfl 24 (arr j) (0, 0) _ h2 Try.underlying24 rfl HI.out ?_)
      exact bodyPost_ret (v := .agg (arr j)) (results_cell_row rfl _ _ w.heap.size 24 (arr j) (0, 0) _ rfl (setRow_heap wr _ _ _ _ _ h1) Try.underlying24 rfl HI.out) rfl ⟨by rw [HJ.out], below_setRow hB (by omega) _⟩

end Go.Proofs.Ytonpafakhbinmaa
