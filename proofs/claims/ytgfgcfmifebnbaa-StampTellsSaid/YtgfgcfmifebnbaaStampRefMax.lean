/-
  The walk of the document's own Max.
-/
import Derived.Test.YtgfgcfmifebnbaaStampRef
import Derived.Test.YtgfgcfmifebnbaaPairs
import Derived.Deep.RegionHeld3
import Derived.Deep.QuietTactic
import Derived.BigQuiet
import Derived.Deep.LoopGhost
namespace Go.Proofs.Ytgfgcfmifebnbaa
open Go.RowKit StampMath

set_option maxRecDepth 100000 in
set_option maxHeartbeats 800000 in
theorem refMax (A : Option Addr) (n c : Nat) (xs : List (Int × Int)) (hn : n ≤ 4000) (w : World) (hx : PairsIn w w.heap.size A n xs) :
    Calls Try.prog 21 #[.slice A n c] w fun e w' => e = .returned (.agg #[.int .i64 (maxL xs).1, .int .i64 (maxL xs).2]) ∧ Below w.heap.size w w' := by
  have HX := Lib.hid hx
  clear hx
  go_enter Try.func21, Try.ntmps21
  go_wp2_with fail
  go_loopg [4] (n + 1) (fun gk i wr => ∃ (k : Nat) (mt mr : Int), i = .int .i64 (k : Int) ∧ gk + k = n + 1 ∧ k ≤ n ∧ (mt, mr) = maxL (xs.take k) ∧
    wr.heap[w.heap.size]? = some (.cells #[.int .i64 0, .int .i64 0] 23 (0, 0)) ∧
    wr.heap[w.heap.size + 1]? = some (.cells #[.int .i64 mt, .int .i64 mr] 23 (0, 0)) ∧ Below w.heap.size w wr)
  case atStart => exact ⟨0, 0, 0, rfl, by omega, by omega, rfl, heap_alloc2_old w _ _, heap_alloc2_new w _ _, ((Below.refl _ _).alloc (Nat.le_refl _) _).alloc (by simp) _⟩
  case round =>
    obtain ⟨k, mt, mr, rfl, hg, hk, hm, h1, h2, hB⟩ := hrel
    have HG := Lib.hid hg
    have HM := Lib.hid hm
    clear hg hm
    have c20 : wr.cell? ⟨w.heap.size + 1, 0, none⟩ = some (.int .i64 mt) := cell_of_row _ _ 0 _ _ (0, 0) h2
    have c21 : wr.cell? ⟨w.heap.size + 1, 1, none⟩ = some (.int .i64 mr) := cell_of_row _ _ 1 _ _ (0, 0) h2
    have f20 : wr.frozen? ⟨w.heap.size + 1, 0, none⟩ = false := frozen_of_row _ _ 0 _ _ h2
    have f21 : wr.frozen? ⟨w.heap.size + 1, 1, none⟩ = false := frozen_of_row _ _ 1 _ _ h2
    by_cases hlt : k < n
    · obtain ⟨g, o, rfl, hgB, hcell⟩ := HX.out.2 (by omega)
      have hxl := HX.out.1
      obtain ⟨e0, e1⟩ := hcell k (by omega)
      obtain ⟨et, hte⟩ : ∃ et, et = (xs[k]'(by omega)).1 := ⟨_, rfl⟩
      obtain ⟨er, hre⟩ : ∃ er, er = (xs[k]'(by omega)).2 := ⟨_, rfl⟩
      rw [← hte] at e0
      rw [← hre] at e1
      have e0' : wr.cell? ⟨g, o + k * 2, none⟩ = some (.int .i64 et) := (hB.cell (p := ⟨g, o + k * 2, none⟩) hgB).trans e0
      have e1' : wr.cell? ⟨g, o + k * 2 + 1, none⟩ = some (.int .i64 er) := (hB.cell (p := ⟨g, o + k * 2 + 1, none⟩) hgB).trans e1
      have hst := maxL_step xs k (by omega)
      rw [show xs[k]'(by omega) = (et, er) from by rw [hte, hre]] at hst
      have HST := Lib.hid hst
      have hlt2 := heap_lt h2
      clear hcell e0 e1 hte hre hst hxl
      by_cases hk0 : k = 0
      · have hk0' : ((k : Int) == 0) = true := by rw [hk0]; rfl
        have HK := Lib.hid hk0
        clear hk0
        go_wp2_with fail
        go_quiet (fail)
        go_wp2_with fail
        go_roundg (gk - 1)
        case measure => have := HG.out; omega
        case rel =>
          refine ⟨k + 1, et, er, by go_num, by have := HG.out; omega, by omega, by rw [HST.out, if_pos HK.out], ?_, ?_, ?_⟩
          · exact ((heap_setCell_other _ _ _ _ (by simp)).trans (heap_setCell_other _ _ _ _ (by simp))).trans h1
          · exact box_set (w := wr.drewN nq) h2
          · exact ((below_drewN' hB nq).setCell (by simp) _).setCell (by simp) _
      · have hk0' : ((k : Int) == 0) = false := by rw [beq_eq_false_iff_ne]; omega
        have HK := Lib.hid hk0
        obtain ⟨b, hb⟩ : ∃ b, b = lessB mt mr et er := ⟨_, rfl⟩
        have HL : Hid (∀ W : World, Calls Try.prog 28 #[.agg #[.int .i64 mt, .int .i64 mr], .agg #[.int .i64 et, .int .i64 er]] W fun e w' => e = .returned (.bool b) ∧ Below W.heap.size W w') := fun W => by rw [hb]; exact refLess _ _ _ _ W
        have HBB := Lib.hid hb
        have hS0 : (wr.drew.cell? ⟨w.heap.size + 1, 0, none⟩ = some (.int .i64 mt) ∧ wr.drew.cell? ⟨w.heap.size + 1, 1, none⟩ = some (.int .i64 mr) ∧ wr.drew.cell? ⟨g, o + k * 2, none⟩ = some (.int .i64 et) ∧ wr.drew.cell? ⟨g, o + k * 2 + 1, none⟩ = some (.int .i64 er)) ∧ KeptFrom wr wr.drew :=
          ⟨⟨c20, c21, e0', e1'⟩, (Below.refl _ _).drew⟩
        have hi0 : (0 : Int) ≤ (k : Int) := by omega
        have hi1 : (k : Int) < (n : Int) := by omega
        clear hk0 hb
        go_wp2_with fail
        go_region_held3 (fun W => (W.cell? ⟨w.heap.size + 1, 0, none⟩ = some (.int .i64 mt) ∧ W.cell? ⟨w.heap.size + 1, 1, none⟩ = some (.int .i64 mr) ∧ W.cell? ⟨g, o + k * 2, none⟩ = some (.int .i64 et) ∧ W.cell? ⟨g, o + k * 2 + 1, none⟩ = some (.int .i64 er)) ∧ KeptFrom wr W) (first | assumption | (refine ⟨⟨?_, ?_, ?_, ?_⟩, ?_⟩ <;> assumption))
          (first
            | (go_at_call 28; (with_reducible refine (HL.out _).mono ?_); rintro e w' ⟨rfl, hb⟩; have hS := kept_call4 hb (by assumption)))
        have hS2 : (_ ∧ _ ∧ _ ∧ _) ∧ KeptFrom wr _ := ‹(_ ∧ _ ∧ _ ∧ _) ∧ KeptFrom wr _›
        obtain ⟨⟨d20, d21, d30, d31⟩, hKF⟩ := hS2
        have hKB := kept_below hKF
        have g20 := (hKB.frozen (p := ⟨w.heap.size + 1, 0, none⟩) hlt2).trans f20
        have g21 := (hKB.frozen (p := ⟨w.heap.size + 1, 1, none⟩) hlt2).trans f21
        have q1 := (hKB.block w.heap.size (by omega)).trans h1
        have q2 := (hKB.block (w.heap.size + 1) hlt2).trans h2
        have qB := hB.trans (hKB.mono (by omega))
        clear hS0 c20 c21 f20 f21 e0' e1' h1 h2 hB hKF hKB
        cases b
        · go_wp2_with fail
          go_roundg (gk - 1)
          case measure => have := HG.out; omega
          case rel =>
            refine ⟨k + 1, mt, mr, by go_num, by have := HG.out; omega, by omega, ?_, q1, q2, qB⟩
            rw [HST.out, if_neg HK.out, ← HM.out]
            show _ = if lessB mt mr et er = true then _ else _
            rw [← HBB.out]
            rfl
        · go_wp2_with fail
          go_roundg (gk - 1)
          case measure => have := HG.out; omega
          case rel =>
            refine ⟨k + 1, et, er, by go_num, by have := HG.out; omega, by omega, ?_, ?_, box_set q2, (qB.setCell (by simp) _).setCell (by simp) _⟩
            · rw [HST.out, if_neg HK.out, ← HM.out]
              show _ = if lessB mt mr et er = true then _ else _
              rw [← HBB.out]
              rfl
            · exact ((heap_setCell_other _ _ _ _ (by simp)).trans (heap_setCell_other _ _ _ _ (by simp))).trans q1
    · have c10 : wr.cell? ⟨w.heap.size, 0, none⟩ = some (.int .i64 0) := cell_of_row _ _ 0 _ _ (0, 0) h1
      have c11 : wr.cell? ⟨w.heap.size, 1, none⟩ = some (.int .i64 0) := cell_of_row _ _ 1 _ _ (0, 0) h1
      have f10 : wr.frozen? ⟨w.heap.size, 0, none⟩ = false := frozen_of_row _ _ 0 _ _ h1
      have f11 : wr.frozen? ⟨w.heap.size, 1, none⟩ = false := frozen_of_row _ _ 1 _ _ h1
      have hM : maxL xs = (mt, mr) := by
        have h := HM.out
        rw [List.take_of_length_le (by have := HX.out.1; omega)] at h
        exact h.symm
      have HMM := Lib.hid hM
      clear hM
      go_wp2_with fail
      refine bodyPost_ret (v := .agg #[.int .i64 mt, .int .i64 mr]) (results_cell_row rfl _ _ w.heap.size 23 #[.int .i64 mt, .int .i64 mr] (0, 0) _ rfl (box_set h1) Try.underlying23 rfl (by kernel_rfl)) rfl ⟨?_, (hB.setCell (Nat.le_refl _) _).setCell (Nat.le_refl _) _⟩
      rw [HMM.out]

end Go.Proofs.Ytgfgcfmifebnbaa
