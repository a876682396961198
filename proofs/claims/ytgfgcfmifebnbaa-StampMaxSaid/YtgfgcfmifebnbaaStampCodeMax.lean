/-
  The walk of stamp's own Max.
-/
import Derived.Test.YtgfgcfmifebnbaaStampCode
import Derived.Test.YtgfgcfmifebnbaaPairs
import Derived.Deep.LoopGhost
namespace Go.Proofs.Ytgfgcfmifebnbaa
open Go.RowKit StampMath

theorem cmp_neg (t r t' r' : Int) : decide (cmp t r t' r' < 0) = lessB t r t' r' := by
  have h := lessB_iff t r t' r'
  have h2 := cmp_cases t r t' r'
  rw [Bool.eq_iff_iff, h, decide_eq_true_iff]
  omega

set_option maxRecDepth 100000 in
set_option maxHeartbeats 800000 in
theorem max_none (A : Option Addr) (c : Nat) (w : World) :
    Calls Try.prog 20 #[.slice A 0 c] w fun e w' => e = .returned (.agg #[.int .i64 0, .int .i64 0]) ∧ Below w.heap.size w w' := by
  go_enter Try.func20, Try.ntmps20
  go_wp2_with fail
  exact bodyPost_ret (v := .agg #[.int .i64 0, .int .i64 0]) (results_cell_row rfl _ _ w.heap.size 23 #[.int .i64 0, .int .i64 0] (0, 0) _ rfl (heap_alloc_new w _) Try.underlying23 rfl (by kernel_rfl)) rfl ⟨rfl, (Below.refl _ _).alloc (Nat.le_refl _) _⟩

theorem maxL_one {xs : List (Int × Int)} (h : 0 < xs.length) : maxL (xs.take 1) = xs[0] := by
  have e := maxL_step xs 0 h
  rw [if_pos rfl] at e
  exact e

set_option maxRecDepth 100000 in
set_option maxHeartbeats 800000 in
theorem max_one (g o : Nat) (t0 r0 : Int) (w : World) (hg : g < w.heap.size) (e0 : w.cell? ⟨g, o, none⟩ = some (.int .i64 t0)) (e1 : w.cell? ⟨g, o + 1, none⟩ = some (.int .i64 r0)) :
    Calls Try.prog 20 #[.slice (some ⟨g, o, none⟩) 1 1] w fun e w' => e = .returned (.agg #[.int .i64 t0, .int .i64 r0]) ∧ Below w.heap.size w w' := by
  go_enter Try.func20, Try.ntmps20
  go_wp2_with fail
  go_loopg [16] 1 (fun _ i wr => i = .int .i64 0 ∧ wr.heap[w.heap.size]? = some (.cells #[.int .i64 0, .int .i64 0] 23 (0, 0)) ∧
    wr.heap[w.heap.size + 1]? = some (.cells #[.int .i64 t0, .int .i64 r0] 23 (0, 0)) ∧ Below w.heap.size w wr)
  case atStart => exact ⟨rfl, heap_alloc2_old w _ _, heap_alloc2_new w _ _, ((Below.refl _ _).alloc (Nat.le_refl _) _).alloc (by simp) _⟩
  case round =>
    obtain ⟨rfl, h1, h2, hB⟩ := hrel
    have c20 : wr.cell? ⟨w.heap.size + 1, 0, none⟩ = some (.int .i64 t0) := cell_of_row _ _ 0 _ _ (0, 0) h2
    have c21 : wr.cell? ⟨w.heap.size + 1, 1, none⟩ = some (.int .i64 r0) := cell_of_row _ _ 1 _ _ (0, 0) h2
    have c10 : wr.cell? ⟨w.heap.size, 0, none⟩ = some (.int .i64 0) := cell_of_row _ _ 0 _ _ (0, 0) h1
    have c11 : wr.cell? ⟨w.heap.size, 1, none⟩ = some (.int .i64 0) := cell_of_row _ _ 1 _ _ (0, 0) h1
    have f10 : wr.frozen? ⟨w.heap.size, 0, none⟩ = false := frozen_of_row _ _ 0 _ _ h1
    have f11 : wr.frozen? ⟨w.heap.size, 1, none⟩ = false := frozen_of_row _ _ 1 _ _ h1
    go_wp2_with fail
    exact bodyPost_ret (v := .agg #[.int .i64 t0, .int .i64 r0]) (results_cell_row rfl _ _ w.heap.size 23 #[.int .i64 t0, .int .i64 r0] (0, 0) _ rfl (box_set h1) Try.underlying23 rfl (by kernel_rfl)) rfl ⟨rfl, (hB.setCell (Nat.le_refl _) _).setCell (Nat.le_refl _) _⟩

set_option maxRecDepth 100000 in
set_option maxHeartbeats 800000 in
theorem max_some (g o : Nat) (n c : Nat) (xs : List (Int × Int)) (hn : n ≤ 4000) (hn0 : 0 < n) (_hc : n ≤ c) (hc1 : ¬ c = 1) (_hcm : c ≤ maxLen) (w : World) (hxl : xs.length = n) (hg : g < w.heap.size)
    (hx : ∀ j (h : j < xs.length), w.cell? ⟨g, o + j * 2, none⟩ = some (.int .i64 xs[j].1) ∧ w.cell? ⟨g, o + j * 2 + 1, none⟩ = some (.int .i64 xs[j].2)) :
    Calls Try.prog 20 #[.slice (some ⟨g, o, none⟩) n c] w fun e w' => e = .returned (.agg #[.int .i64 (maxL xs).1, .int .i64 (maxL xs).2]) ∧ Below w.heap.size w w' := by
  unfold maxLen at _hcm
  have HX := Lib.hid hx
  obtain ⟨e0, e1⟩ := hx 0 (by omega)
  rw [Nat.zero_mul, Nat.add_zero] at e0 e1
  obtain ⟨t0, ht0⟩ : ∃ x, x = (xs[0]'(by omega)).1 := ⟨_, rfl⟩
  obtain ⟨r0, hr0⟩ : ∃ x, x = (xs[0]'(by omega)).2 := ⟨_, rfl⟩
  rw [← ht0] at e0
  rw [← hr0] at e1
  have HT := Lib.hid ht0
  have HR := Lib.hid hr0
  have hne : ((n : Int) == 0) = false := by rw [beq_eq_false_iff_ne]; omega
  clear hx ht0 hr0
  go_enter Try.func20, Try.ntmps20
  go_wp2_with fail
  go_loopg [16] n (fun gk i wr => ∃ (k : Nat) (mt mr : Int), i = .int .i64 (k : Int) ∧ gk + k = n ∧ k + 1 ≤ n ∧ (mt, mr) = maxL (xs.take (k + 1)) ∧
    wr.heap[w.heap.size]? = some (.cells #[.int .i64 0, .int .i64 0] 23 (0, 0)) ∧
    wr.heap[w.heap.size + 1]? = some (.cells #[.int .i64 mt, .int .i64 mr] 23 (0, 0)) ∧ Below w.heap.size w wr)
  case atStart => exact ⟨0, t0, r0, rfl, by omega, by omega, by rw [maxL_one (by omega), HT.out, HR.out], heap_alloc2_old w _ _, heap_alloc2_new w _ _, ((Below.refl _ _).alloc (Nat.le_refl _) _).alloc (by simp) _⟩
  case round =>
    obtain ⟨k, mt, mr, rfl, hg2, hk, hm, h1, h2, hB⟩ := hrel
    have HG := Lib.hid hg2
    have HM := Lib.hid hm
    clear hg2 hm
    have c20 : wr.cell? ⟨w.heap.size + 1, 0, none⟩ = some (.int .i64 mt) := cell_of_row _ _ 0 _ _ (0, 0) h2
    have c21 : wr.cell? ⟨w.heap.size + 1, 1, none⟩ = some (.int .i64 mr) := cell_of_row _ _ 1 _ _ (0, 0) h2
    by_cases hlt : k < n - 1
    · obtain ⟨e0', e1'⟩ := HX.out (k + 1) (by omega)
      obtain ⟨et, hte⟩ : ∃ et, et = (xs[k + 1]'(by omega)).1 := ⟨_, rfl⟩
      obtain ⟨er, hre⟩ : ∃ er, er = (xs[k + 1]'(by omega)).2 := ⟨_, rfl⟩
      rw [← hte, show o + (k + 1) * 2 = o + 2 + k * 2 by omega] at e0'
      rw [← hre, show o + (k + 1) * 2 = o + 2 + k * 2 by omega] at e1'
      have d0 : wr.cell? ⟨g, o + 2 + k * 2, none⟩ = some (.int .i64 et) := (hB.cell (p := ⟨g, o + 2 + k * 2, none⟩) hg).trans e0'
      have d1 : wr.cell? ⟨g, o + 2 + k * 2 + 1, none⟩ = some (.int .i64 er) := (hB.cell (p := ⟨g, o + 2 + k * 2 + 1, none⟩) hg).trans e1'
      have hst := maxL_step xs (k + 1) (by omega)
      rw [if_neg (by omega), ← HM.out, show xs[k + 1]'(by omega) = (et, er) from by rw [hte, hre]] at hst
      have HST := Lib.hid hst
      have hlt2 := heap_lt h2
      have hz1 : w.heap.size < wr.heap.size := by omega
      obtain ⟨b, hb⟩ : ∃ b, b = lessB mt mr et er := ⟨_, rfl⟩
      obtain ⟨v, hv⟩ : ∃ v, v = cmp mt mr et er := ⟨_, rfl⟩
      have HL : Hid (∀ W : World, Calls Try.prog 16 #[.agg #[.int .i64 mt, .int .i64 mr], .agg #[.int .i64 et, .int .i64 er]] W fun e w' => e = .returned (.int .i64 v) ∧ Below W.heap.size W w') := fun W => by rw [hv]; exact compare_any _ _ _ _ W
      have hdec : decide (v < 0) = b := by rw [hv, hb]; exact cmp_neg _ _ _ _
      have HBB := Lib.hid hb
      clear e0 e1 e0' e1' hte hre hst hb hv
      have hi0 : (0 : Int) ≤ (k : Int) := by omega
      cases b
      · go_wp2_with fail
        refine (HL.out _).mono ?_
        rintro e w3 ⟨rfl, hb3⟩
        have hsz : wr.heap.size < (wr.alloc (.cells #[.int .i64 et, .int .i64 er] 23)).heap.size := by simp
        have q1 := (hb3.block w.heap.size (by omega)).trans ((heap_alloc_old wr _ (by omega)).trans h1)
        have q2 := (hb3.block (w.heap.size + 1) (by omega)).trans ((heap_alloc_old wr _ (by omega)).trans h2)
        have qB : Below w.heap.size w w3 := below_step (hB.alloc hB.size _) hb3
        clear c20 c21 h1 h2 hB hb3 hsz
        go_wp2_with fail
        go_roundg (gk - 1)
        case measure => have := HG.out; omega
        case rel => exact ⟨k + 1, mt, mr, by go_num, by have := HG.out; omega, by omega, by rw [HST.out, ← HBB.out]; rfl, q1, q2, qB⟩
      · go_wp2_with fail
        refine (HL.out _).mono ?_
        rintro e w3 ⟨rfl, hb3⟩
        have hsz : wr.heap.size < (wr.alloc (.cells #[.int .i64 et, .int .i64 er] 23)).heap.size := by simp
        have q1 := (hb3.block w.heap.size (by omega)).trans ((heap_alloc_old wr _ (by omega)).trans h1)
        have q2 := (hb3.block (w.heap.size + 1) (by omega)).trans ((heap_alloc_old wr _ (by omega)).trans h2)
        have q3 := (hb3.block wr.heap.size hsz).trans (heap_alloc_new wr _)
        have g20 : w3.frozen? ⟨w.heap.size + 1, 0, none⟩ = false := frozen_of_row _ _ 0 _ _ q2
        have g21 : w3.frozen? ⟨w.heap.size + 1, 1, none⟩ = false := frozen_of_row _ _ 1 _ _ q2
        have k20 : w3.cell? ⟨w.heap.size + 1, 0, none⟩ = some (.int .i64 mt) := cell_of_row _ _ 0 _ _ (0, 0) q2
        have k21 : w3.cell? ⟨w.heap.size + 1, 1, none⟩ = some (.int .i64 mr) := cell_of_row _ _ 1 _ _ (0, 0) q2
        have k30 : w3.cell? ⟨wr.heap.size, 0, none⟩ = some (.int .i64 et) := cell_of_row _ _ 0 _ _ (0, 0) q3
        have k31 : w3.cell? ⟨wr.heap.size, 1, none⟩ = some (.int .i64 er) := cell_of_row _ _ 1 _ _ (0, 0) q3
        have qB : Below w.heap.size w w3 := below_step (hB.alloc hB.size _) hb3
        clear c20 c21 h1 h2 hB hb3 hsz q3
        go_wp2_with fail
        go_roundg (gk - 1)
        case measure => have := HG.out; omega
        case rel =>
          refine ⟨k + 1, et, er, by go_num, by have := HG.out; omega, by omega, by rw [HST.out, ← HBB.out]; rfl, ?_, box_set q2, (qB.setCell (by simp) _).setCell (by simp) _⟩
          exact ((heap_setCell_other _ _ _ _ (by simp)).trans (heap_setCell_other _ _ _ _ (by simp))).trans q1
    · have c10 : wr.cell? ⟨w.heap.size, 0, none⟩ = some (.int .i64 0) := cell_of_row _ _ 0 _ _ (0, 0) h1
      have c11 : wr.cell? ⟨w.heap.size, 1, none⟩ = some (.int .i64 0) := cell_of_row _ _ 1 _ _ (0, 0) h1
      have f10 : wr.frozen? ⟨w.heap.size, 0, none⟩ = false := frozen_of_row _ _ 0 _ _ h1
      have f11 : wr.frozen? ⟨w.heap.size, 1, none⟩ = false := frozen_of_row _ _ 1 _ _ h1
      have hM : maxL xs = (mt, mr) := by
        have h := HM.out
        rw [List.take_of_length_le (by omega)] at h
        exact h.symm
      have HMM := Lib.hid hM
      clear hM
      go_wp2_with fail
      refine bodyPost_ret (v := .agg #[.int .i64 mt, .int .i64 mr]) (results_cell_row rfl _ _ w.heap.size 23 #[.int .i64 mt, .int .i64 mr] (0, 0) _ rfl (box_set h1) Try.underlying23 rfl (by kernel_rfl)) rfl ⟨?_, (hB.setCell (Nat.le_refl _) _).setCell (Nat.le_refl _) _⟩
      rw [HMM.out]

theorem stampMaxHave : StampMaxHave := ⟨fun A n c xs w hn hc hcm hx => by
  by_cases h0 : n = 0
  · subst h0
    have e : xs = [] := List.length_eq_zero_iff.1 hx.1
    subst e
    exact max_none A c w
  · obtain ⟨g, o, rfl, hg, hcell⟩ := hx.2 (by omega)
    by_cases h1 : c = 1
    · subst h1
      obtain rfl : n = 1 := by omega
      obtain ⟨e0, e1⟩ := hcell 0 (by have := hx.1; omega)
      have hm : maxL xs = xs[0]'(by have := hx.1; omega) := by
        rw [← maxL_one (by have := hx.1; omega), List.take_of_length_le (by have := hx.1; omega)]
      rw [hm]
      exact max_one g o _ _ w hg e0 e1
    · exact max_some g o n c xs hn (by omega) hc h1 hcm w hx.1 hg hcell⟩

end Go.Proofs.Ytgfgcfmifebnbaa
