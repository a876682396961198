/-
  The walks of the document's own Put and Take.
-/
import Derived.Test.YtonpafakhbinmaaVecTakeMath
import Derived.Test.YtonpafakhbinmaaVecRef
import Derived.Test.YtonpafakhbinmaaPackRefInt
import Derived.Test.YtonpafakhbinmaaPackRefTakeInt
namespace Go.Proofs.Ytonpafakhbinmaa
open Go.RowKit VecMath PackMath

set_option maxRecDepth 100000 in
set_option maxHeartbeats 800000 in
theorem refPut (v : Nat → Int) (hv : ∀ i, IsI64 (v i)) (w : World) :
    Calls Try.prog 18 #[.agg #[.int .i64 (v 0), .int .i64 (v 1), .int .i64 (v 2), .int .i64 (v 3), .int .i64 (v 4), .int .i64 (v 5), .int .i64 (v 6), .int .i64 (v 7)]] w fun e w' => e = .returned (.string ⟨(putV v).toArray⟩) ∧ Below w.heap.size w w' := by
  have HV := Lib.hid hv
  clear hv
  go_enter Try.func18, Try.ntmps18
  go_wp2_with fail
  go_loopg [3, 4] 9 (fun gk s i wr => ∃ k : Nat, i = .int .i64 (k : Int) ∧ gk + k = 9 ∧ k ≤ 8 ∧ s = .string ⟨(putU v k).toArray⟩ ∧ wr.heap[w.heap.size]? = some (.cells (arr v) 22 (0, 0)) ∧ Below w.heap.size w wr)
  case atStart => exact ⟨0, rfl, by omega, by omega, rfl, heap_alloc_new w _, (Below.refl _ _).alloc (Nat.le_refl _) _⟩
  case round =>
    obtain ⟨k, rfl, hgk, hk, rfl, h1, hB⟩ := hrel
    have HG := Lib.hid hgk
    clear hgk
    by_cases hlt : k < 8
    · have c1 := cell_arr h1 hlt
      have hx64 := HV.out k
      have hl1 := putU_len v k
      have hl2 := (numL_length (zig (v k))).2
      have hadd : ∀ W : World, (Op.stringOp .add ⟨(putU v k).toArray⟩ ⟨(numL (zig (v k))).toArray⟩).run Try.prog W = .ok (.string ⟨(putU v (k + 1)).toArray⟩) W := fun W => by
        rw [run_string_add_sum W _ _ (by show (putU v k).length + (numL (zig (v k))).length ≤ _; omega), putU_str]
      obtain ⟨x, hx⟩ : ∃ x, x = v k := ⟨_, rfl⟩
      rw [← hx] at c1 hx64
      simp only [← hx] at hadd
      have HX := Lib.hid hx64
      clear hx hx64 hl1 hl2
      go_wp2_with fail
      refine (refInt x HX.out _).mono ?_
      rintro e w1 ⟨rfl, hb1⟩
      have q1 := (hb1.block w.heap.size (heap_lt h1)).trans h1
      have qB := below_step hB hb1
      clear c1 h1 hB hb1
      go_wp2_with fail
      go_roundg (gk - 1)
      case measure => have := HG.out; omega
      case rel => exact ⟨k + 1, by go_num, by have := HG.out; omega, by omega, rfl, q1, qB⟩
    · have hk8 : k = 8 := by omega
      subst hk8
      go_wp2_with fail
      go_ret
      exact ⟨rfl, hB⟩

set_option maxRecDepth 100000 in
set_option maxHeartbeats 800000 in
theorem refVecTake (s : ByteArray) (hs : s.size ≤ 4000) (w : World) :
    Calls Try.prog 12 #[.string s] w fun e w' => e = .returned (vecRes (vecL s.data.toList)) ∧ Below w.heap.size w w' := by
  have hsz : (Try.prog.info? 22).map (·.size) = some 8 := vec_info
  have HI := Lib.hid hsz
  clear hsz
  go_enter Try.func12, Try.ntmps12
  go_wp2_with fail
  go_loopg [0, 6] 9 (fun gk b i wr => ∃ (k : Nat) (f : Nat → Int) (l : List UInt8), i = .int .i64 (k : Int) ∧ gk + k = 9 ∧ k ≤ 8 ∧ b = .string ⟨l.toArray⟩ ∧ l.length ≤ 4000 ∧ Hid (takeF (8 - k) k f l = vecL s.data.toList) ∧
    wr.heap[w.heap.size]? = some (.cells (arr fun _ => 0) 22 (0, 0)) ∧ wr.heap[w.heap.size + 1]? = some (.cells (arr f) 22 (0, 0)) ∧ Below w.heap.size w wr)
  case atStart =>
    refine ⟨0, fun _ => 0, s.data.toList, rfl, by omega, by omega, by rw [Lib.mk_data s], by simpa using hs, rfl, ?_, ?_, ((Below.refl _ _).alloc (Nat.le_refl _) _).alloc (by simp) _⟩
    · exact heap_alloc2_old w _ _
    · exact heap_alloc2_new w _ _
  case round =>
    obtain ⟨k, f, l, rfl, hgk, hk, rfl, hl, hrest, h1, h2, hB⟩ := hrel
    have HG := Lib.hid hgk
    clear hgk
    by_cases hlt : k < 8
    · have hlt2 := heap_lt h2
      cases ht : takeL l with
      | none =>
        have hN : vecL s.data.toList = none := by rw [← hrest.out, show 8 - k = (7 - k) + 1 by omega, takeF_none ht]
        have HN := Lib.hid hN
        have H := Lib.hid ht
        clear ht hN
        go_wp2_with fail
        refine (refTakeInt_none ⟨l.toArray⟩ (by show l.length ≤ 4000; exact hl) H.out _).mono ?_
        rintro e w1 ⟨rfl, hb1⟩
        have q1 := (hb1.block w.heap.size (by omega)).trans h1
        have qB := below_step hB hb1
        have cz0 := cell_arr q1 (show 0 < 8 by omega)
        have fz0 : w1.frozen? ⟨w.heap.size, 0, none⟩ = false := frozen_of_row _ _ 0 _ _ q1
        have cz1 := cell_arr q1 (show 1 < 8 by omega)
        have fz1 : w1.frozen? ⟨w.heap.size, 1, none⟩ = false := frozen_of_row _ _ 1 _ _ q1
        have cz2 := cell_arr q1 (show 2 < 8 by omega)
        have fz2 : w1.frozen? ⟨w.heap.size, 2, none⟩ = false := frozen_of_row _ _ 2 _ _ q1
        have cz3 := cell_arr q1 (show 3 < 8 by omega)
        have fz3 : w1.frozen? ⟨w.heap.size, 3, none⟩ = false := frozen_of_row _ _ 3 _ _ q1
        have cz4 := cell_arr q1 (show 4 < 8 by omega)
        have fz4 : w1.frozen? ⟨w.heap.size, 4, none⟩ = false := frozen_of_row _ _ 4 _ _ q1
        have cz5 := cell_arr q1 (show 5 < 8 by omega)
        have fz5 : w1.frozen? ⟨w.heap.size, 5, none⟩ = false := frozen_of_row _ _ 5 _ _ q1
        have cz6 := cell_arr q1 (show 6 < 8 by omega)
        have fz6 : w1.frozen? ⟨w.heap.size, 6, none⟩ = false := frozen_of_row _ _ 6 _ _ q1
        have cz7 := cell_arr q1 (show 7 < 8 by omega)
        have fz7 : w1.frozen? ⟨w.heap.size, 7, none⟩ = false := frozen_of_row _ _ 7 _ _ q1
        clear h1 h2 hB hb1
        go_wp2_with fail
        have hld := run_loadVar_row (P := Try.prog) _ w.heap.size 22 22 (arr fun _ => 0) (0, 0) _ (heap_zero8 q1) Try.underlying22 rfl HI.out
        refine bodyPost_ret (v := vecRes none) ?_ rfl ⟨by rw [HN.out], below_zero8 qB (Nat.le_refl _)⟩
        simp [results, Try.results12, hld, vecRes, asAddr]
      | some x =>
        obtain ⟨m, t⟩ := x
        have htl := takeL_len ht
        have hcase : (¬ (0 ≤ unzig m ∧ unzig m ≤ 1073741824) ∧ vecL s.data.toList = none) ∨ ((0 ≤ unzig m ∧ unzig m ≤ 1073741824) ∧ takeF (8 - (k + 1)) (k + 1) (put f k (unzig m)) t = vecL s.data.toList) := by
          have hr := hrest.out
          rw [show 8 - k = (8 - (k + 1)) + 1 by omega] at hr
          by_cases hm : 0 ≤ unzig m ∧ unzig m ≤ 1073741824
          · rw [takeF_good ht hm] at hr; exact Or.inr ⟨hm, hr⟩
          · rw [takeF_bad ht hm] at hr; exact Or.inl ⟨hm, hr.symm⟩
        have H : Hid (∀ W : World, Calls Try.prog 26 #[.string ⟨l.toArray⟩] W fun e w' => e = .returned (.tuple #[.int .i64 (unzig m), .string ⟨t.toArray⟩, .int .i64 0]) ∧ Below W.heap.size W w') :=
          fun W => refTakeInt_some ⟨l.toArray⟩ (by show l.length ≤ 4000; exact hl) m t ht W
        obtain ⟨n, hn⟩ : ∃ n, n = unzig m := ⟨_, rfl⟩
        rw [← hn] at hcase H
        clear ht hn hrest
        rcases hcase with ⟨hm, hN⟩ | ⟨hm, hN⟩
        · have HN := Lib.hid hN
          clear hN
          have hcase : n < 0 ∨ (¬ n < 0 ∧ 1073741824 < n) := by omega
          clear hm
          rcases hcase with h3 | ⟨h3, h4⟩
          all_goals
            go_wp2_with fail
            refine (H.out _).mono ?_
            rintro e w1 ⟨rfl, hb1⟩
            have q1 := (hb1.block w.heap.size (by omega)).trans h1
            have qB := below_step hB hb1
            have cz0 := cell_arr q1 (show 0 < 8 by omega)
            have fz0 : w1.frozen? ⟨w.heap.size, 0, none⟩ = false := frozen_of_row _ _ 0 _ _ q1
            have cz1 := cell_arr q1 (show 1 < 8 by omega)
            have fz1 : w1.frozen? ⟨w.heap.size, 1, none⟩ = false := frozen_of_row _ _ 1 _ _ q1
            have cz2 := cell_arr q1 (show 2 < 8 by omega)
            have fz2 : w1.frozen? ⟨w.heap.size, 2, none⟩ = false := frozen_of_row _ _ 2 _ _ q1
            have cz3 := cell_arr q1 (show 3 < 8 by omega)
            have fz3 : w1.frozen? ⟨w.heap.size, 3, none⟩ = false := frozen_of_row _ _ 3 _ _ q1
            have cz4 := cell_arr q1 (show 4 < 8 by omega)
            have fz4 : w1.frozen? ⟨w.heap.size, 4, none⟩ = false := frozen_of_row _ _ 4 _ _ q1
            have cz5 := cell_arr q1 (show 5 < 8 by omega)
            have fz5 : w1.frozen? ⟨w.heap.size, 5, none⟩ = false := frozen_of_row _ _ 5 _ _ q1
            have cz6 := cell_arr q1 (show 6 < 8 by omega)
            have fz6 : w1.frozen? ⟨w.heap.size, 6, none⟩ = false := frozen_of_row _ _ 6 _ _ q1
            have cz7 := cell_arr q1 (show 7 < 8 by omega)
            have fz7 : w1.frozen? ⟨w.heap.size, 7, none⟩ = false := frozen_of_row _ _ 7 _ _ q1
            clear h1 h2 hB hb1
            go_wp2_with fail
            have hld := run_loadVar_row (P := Try.prog) _ w.heap.size 22 22 (arr fun _ => 0) (0, 0) _ (heap_zero8 q1) Try.underlying22 rfl HI.out
            refine bodyPost_ret (v := vecRes none) ?_ rfl ⟨by rw [HN.out], below_zero8 qB (Nat.le_refl _)⟩
            simp [results, Try.results12, hld, vecRes, asAddr]
        · have HN := Lib.hid hN
          clear hN
          obtain ⟨hm1, hm2⟩ := hm
          have h3 : ¬ n < 0 := by omega
          have h4 : ¬ 1073741824 < n := by omega
          go_wp2_with fail
          refine (H.out _).mono ?_
          rintro e w1 ⟨rfl, hb1⟩
          have q1 := (hb1.block w.heap.size (by omega)).trans h1
          have q2 := (hb1.block (w.heap.size + 1) hlt2).trans h2
          have qB := below_step hB hb1
          have c2 := cell_arr q2 hlt
          have f2 : w1.frozen? ⟨w.heap.size + 1, k, none⟩ = false := frozen_of_row _ _ k _ _ q2
          clear h1 h2 hB hb1
          go_wp2_with fail
          go_roundg (gk - 1)
          case measure => have := HG.out; omega
          case rel => exact ⟨k + 1, put f k n, t, by go_num, by have := HG.out; omega, by omega, rfl, by omega, HN, (heap_setCell_other _ _ _ _ (by dsimp only; omega)).trans q1, heap_put q2 hlt n, qB.setCell (by simp) _⟩
    · have hk8 : k = 8 := by omega
      subst hk8
      have hN : vecL s.data.toList = some (f, l) := hrest.out.symm
      have HN := Lib.hid hN
      clear hN hrest
      have hst : (storeCells ⟨w.heap.size, 0, none⟩ (arr f).toList 0).run Try.prog wr = .ok () (wr.setRow w.heap.size (arr f)) := by
        have h := run_storeCells_from (P := Try.prog) w.heap.size 22 (arr f).toList 0 (arr fun _ => 0) wr h1 (by simp [arr_size]) (fun v hv => (Array.all_eq_true_iff_forall_mem.1 (arr_one f)) v (by simpa using hv))
        rw [h]
        congr 2
      go_wp2_with (refine wpList_load_row rfl 22 _ rfl (w.heap.size + 1) rfl 22 (arr f) (0, 0) _ h2 Try.underlying22 rfl HI.out ?_)
      have q1 := setRow_heap wr w.heap.size (arr fun _ => 0) (arr f) _ _ h1
      have hld := run_loadVar_row (P := Try.prog) (wr.setRow w.heap.size (arr f)) w.heap.size 22 22 (arr f) (0, 0) _ q1 Try.underlying22 rfl HI.out
      refine bodyPost_ret (v := vecRes (some (f, l))) ?_ rfl ⟨by rw [HN.out], below_setRow hB (Nat.le_refl _) _⟩
      simp [results, Try.results12, hld, vecRes, asAddr]

end Go.Proofs.Ytonpafakhbinmaa
