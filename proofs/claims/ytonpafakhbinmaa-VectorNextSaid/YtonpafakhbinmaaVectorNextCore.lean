/-
  What is ready isn't, when it was seen; then the one behind it is, if it wants no more: for all vectors that may be, all replicas, and whatever fewer it wants of the others; of vectors that may not be nothing is asked.
-/
import Derived.Test.YtonpafakhbinmaaVecHave
import Derived.Test.YtonpafakhbinmaaVecEq
import Derived.Test.YtonpafakhbinmaaVecKept
import Derived.ProofKit
import Derived.OpenShut
import Derived.Deep.LoopGhost
namespace Go.Proofs.Ytonpafakhbinmaa.lawVectorNext
open Go.RowKit VecMath PackMath

set_option maxRecDepth 100000 in
set_option maxHeartbeats 800000 in
theorem may_not (H : VecHave) (v m : Nat → Int) (r : Int) (h : mayV v = false) (w : World) :
    Calls Try.prog 5 #[.agg #[.int .i64 (v 0), .int .i64 (v 1), .int .i64 (v 2), .int .i64 (v 3), .int .i64 (v 4), .int .i64 (v 5), .int .i64 (v 6), .int .i64 (v 7)], .int .u8 r, .agg #[.int .u8 (m 0), .int .u8 (m 1), .int .u8 (m 2), .int .u8 (m 3), .int .u8 (m 4), .int .u8 (m 5), .int .u8 (m 6), .int .u8 (m 7)]] w fun e w' => e = .returned (.bool true) ∧ Below w.heap.size w w' := by
  have HM : Hid (∀ W : World, Calls Try.prog 13 #[.agg #[.int .i64 (v 0), .int .i64 (v 1), .int .i64 (v 2), .int .i64 (v 3), .int .i64 (v 4), .int .i64 (v 5), .int .i64 (v 6), .int .i64 (v 7)]] W fun e w' => e = .returned (.bool false) ∧ Below W.heap.size W w') := fun W => by
    have q := H.may v W
    rw [h] at q
    exact q
  clear h
  go_enter Try.func5, Try.ntmps5
  go_wp2_with fail
  refine (H.shown _).mono ?_
  rintro e w1 ⟨rfl, hb1⟩
  obtain ⟨hc1, hf1⟩ := bcell_below hb1
  have k1 : w.heap.size < w1.heap.size := by have := hb1.size; simp at this; omega
  go_wp2_with fail
  refine (HM.out _).mono ?_
  rintro e w2 ⟨rfl, hb2⟩
  clear hc1 hf1
  go_wp2_with fail
  go_ret
  exact ⟨rfl, below_step (below_step (((Below.refl _ w).alloc (Nat.le_refl _) _).alloc (by simp) _) hb1) hb2⟩

set_option maxRecDepth 100000 in
set_option maxHeartbeats 6400000 in
theorem core (H : VecHave) (v m D t N Y : Nat → Int) (r k : Nat) (seq : Int) (hk : k < 8) (hr : (r : Int) % 8 = (k : Int)) (hr0 : (r : Int) ≤ 255) (hv : ∀ i, i < 8 → 0 ≤ v i ∧ v i ≤ 1073741824) (hm : ∀ i, 0 ≤ m i ∧ m i ≤ 255)
    (hDk : D k = v k) (hD : ∀ i, i < 8 → i ≠ k → D i = v i - m i) (hs : 1 ≤ seq ∧ seq ≤ 1073741825) (hN : N = put D k seq) (hY : Y = put D ((k + 1) % 8) (v ((k + 1) % 8) + 1)) (w : World)
    (HM : Hid (∀ W : World, Calls Try.prog 13 #[.agg #[.int .i64 (v 0), .int .i64 (v 1), .int .i64 (v 2), .int .i64 (v 3), .int .i64 (v 4), .int .i64 (v 5), .int .i64 (v 6), .int .i64 (v 7)]] W fun e w' => e = .returned (.bool true) ∧ Below W.heap.size W w'))
    (HT : Hid (∀ W : World, Calls Try.prog 9 #[.agg #[.int .i64 (v 0), .int .i64 (v 1), .int .i64 (v 2), .int .i64 (v 3), .int .i64 (v 4), .int .i64 (v 5), .int .i64 (v 6), .int .i64 (v 7)], .int .i64 (k : Int)] W fun e w' => e = .returned (.tuple #[.agg #[.int .i64 (t 0), .int .i64 (t 1), .int .i64 (t 2), .int .i64 (t 3), .int .i64 (t 4), .int .i64 (t 5), .int .i64 (t 6), .int .i64 (t 7)], .int .i64 seq]) ∧ Below W.heap.size W w'))
    (R1 : Hid (∀ W : World, Calls Try.prog 23 #[.agg #[.int .i64 (v 0), .int .i64 (v 1), .int .i64 (v 2), .int .i64 (v 3), .int .i64 (v 4), .int .i64 (v 5), .int .i64 (v 6), .int .i64 (v 7)], .int .i64 (k : Int), .int .i64 seq, .agg #[.int .i64 (D 0), .int .i64 (D 1), .int .i64 (D 2), .int .i64 (D 3), .int .i64 (D 4), .int .i64 (D 5), .int .i64 (D 6), .int .i64 (D 7)]] W fun e w' => e = .returned (.bool true) ∧ Below W.heap.size W w'))
    (R2 : Hid (∀ W : World, Calls Try.prog 23 #[.agg #[.int .i64 (t 0), .int .i64 (t 1), .int .i64 (t 2), .int .i64 (t 3), .int .i64 (t 4), .int .i64 (t 5), .int .i64 (t 6), .int .i64 (t 7)], .int .i64 (k : Int), .int .i64 seq, .agg #[.int .i64 (D 0), .int .i64 (D 1), .int .i64 (D 2), .int .i64 (D 3), .int .i64 (D 4), .int .i64 (D 5), .int .i64 (D 6), .int .i64 (D 7)]] W fun e w' => e = .returned (.bool false) ∧ Below W.heap.size W w'))
    (R3 : Hid (∀ W : World, Calls Try.prog 23 #[.agg #[.int .i64 (t 0), .int .i64 (t 1), .int .i64 (t 2), .int .i64 (t 3), .int .i64 (t 4), .int .i64 (t 5), .int .i64 (t 6), .int .i64 (t 7)], .int .i64 (k : Int), .int .i64 (seq + 1), .agg #[.int .i64 (N 0), .int .i64 (N 1), .int .i64 (N 2), .int .i64 (N 3), .int .i64 (N 4), .int .i64 (N 5), .int .i64 (N 6), .int .i64 (N 7)]] W fun e w' => e = .returned (.bool true) ∧ Below W.heap.size W w'))
    (R4 : Hid (∀ W : World, Calls Try.prog 23 #[.agg #[.int .i64 (v 0), .int .i64 (v 1), .int .i64 (v 2), .int .i64 (v 3), .int .i64 (v 4), .int .i64 (v 5), .int .i64 (v 6), .int .i64 (v 7)], .int .i64 (k : Int), .int .i64 seq, .agg #[.int .i64 (Y 0), .int .i64 (Y 1), .int .i64 (Y 2), .int .i64 (Y 3), .int .i64 (Y 4), .int .i64 (Y 5), .int .i64 (Y 6), .int .i64 (Y 7)]] W fun e w' => e = .returned (.bool false) ∧ Below W.heap.size W w'))
    (R5 : Hid (∀ W : World, Calls Try.prog 23 #[.agg #[.int .i64 (v 0), .int .i64 (v 1), .int .i64 (v 2), .int .i64 (v 3), .int .i64 (v 4), .int .i64 (v 5), .int .i64 (v 6), .int .i64 (v 7)], .int .i64 (k : Int), .int .i64 (seq + 1), .agg #[.int .i64 (N 0), .int .i64 (N 1), .int .i64 (N 2), .int .i64 (N 3), .int .i64 (N 4), .int .i64 (N 5), .int .i64 (N 6), .int .i64 (N 7)]] W fun e w' => e = .returned (.bool false) ∧ Below W.heap.size W w')) :
    Calls Try.prog 5 #[.agg #[.int .i64 (v 0), .int .i64 (v 1), .int .i64 (v 2), .int .i64 (v 3), .int .i64 (v 4), .int .i64 (v 5), .int .i64 (v 6), .int .i64 (v 7)], .int .u8 (r : Int), .agg #[.int .u8 (m 0), .int .u8 (m 1), .int .u8 (m 2), .int .u8 (m 3), .int .u8 (m 4), .int .u8 (m 5), .int .u8 (m 6), .int .u8 (m 7)]] w fun e w' => e = .returned (.bool true) ∧ Below w.heap.size w w' := by
  obtain ⟨hs0, hs1⟩ := hs
  have HV := Lib.hid hv
  have HMM := Lib.hid hm
  have HDK := Lib.hid hDk
  have HD := Lib.hid hD
  have HN := Lib.hid hN
  have HY := Lib.hid hY
  have hr1 : 0 ≤ (r : Int) := by omega
  clear hv hm hDk hD hN hY
  go_enter Try.func5, Try.ntmps5
  go_wp2_with fail
  refine (H.shown _).mono ?_
  rintro e w1 ⟨rfl, hb1⟩
  obtain ⟨hc1, hf1⟩ := bcell_below hb1
  have k1 : w.heap.size < w1.heap.size := by have := hb1.size; simp at this; omega
  have o1 : w1.heap[w.heap.size]? = some (.cells (arr v) 22 (0, 0)) := (hb1.block _ (by simp; omega)).trans (heap_alloc2_old w _ _)
  have o2 : w1.heap[w.heap.size + 1]? = some (.cells (arrB m) 44 (0, 0)) := (hb1.block _ (by simp)).trans (heap_alloc2_new w _ _)
  have A1 : Below w.heap.size w w1 := below_step (((Below.refl _ _).alloc (Nat.le_refl _) _).alloc (by simp) _) hb1
  go_wp2_with fail
  refine (HM.out _).mono ?_
  rintro e w2 ⟨rfl, hb2⟩
  have p1 : w2.heap[w.heap.size]? = some (.cells (arr v) 22 (0, 0)) := (hb2.block _ (heap_lt o1)).trans o1
  have p2 : w2.heap[w.heap.size + 1]? = some (.cells (arrB m) 44 (0, 0)) := (hb2.block _ (heap_lt o2)).trans o2
  have hz2 := heap_lt p2
  have A2 := below_step A1 hb2
  clear hc1 hf1 k1 o1 o2 A1 hb1 hb2
  have c0 := cell_arr p1 (show 0 < 8 by omega)
  have c1 := cell_arr p1 (show 1 < 8 by omega)
  have c2 := cell_arr p1 (show 2 < 8 by omega)
  have c3 := cell_arr p1 (show 3 < 8 by omega)
  have c4 := cell_arr p1 (show 4 < 8 by omega)
  have c5 := cell_arr p1 (show 5 < 8 by omega)
  have c6 := cell_arr p1 (show 6 < 8 by omega)
  have c7 := cell_arr p1 (show 7 < 8 by omega)
  go_wp2_with fail
  clear c0 c1 c2 c3 c4 c5 c6 c7
  clear hr hr0 hr1
  go_loopg [10] 9 (fun gk i wr => ∃ q : Nat, i = .int .i64 (q : Int) ∧ gk + q = 9 ∧ q ≤ 8 ∧ wr.heap[w.heap.size]? = some (.cells (arr v) 22 (0, 0)) ∧ wr.heap[w.heap.size + 1]? = some (.cells (arrB m) 44 (0, 0)) ∧
    wr.heap[w2.heap.size]? = some (.cells (arr (upto (fun _ _ => D) v v q)) 22 (0, 0)) ∧ Below w.heap.size w wr)
  case atStart =>
    refine ⟨0, rfl, by omega, by omega, (heap_alloc_old w2 _ (by omega)).trans p1, (heap_alloc_old w2 _ (by omega)).trans p2, ?_, A2.alloc A2.size _⟩
    rw [upto_none]
    exact heap_alloc_new w2 _
  case round =>
    obtain ⟨q, rfl, hgk, hq, h1, h2, h3, hB⟩ := hrel
    have HG := Lib.hid hgk
    clear hgk p1 p2
    by_cases hlt : q < 8
    · by_cases hqk : q = k
      · have hd : ((q : Int) != (k : Int)) = false := by simp [hqk]
        have HQ := Lib.hid hqk
        clear hqk
        go_wp2_with fail
        go_roundg (gk - 1)
        case measure => have := HG.out; omega
        case rel => exact ⟨q + 1, by go_num, by have := HG.out; omega, by omega, h1, h2, by rw [upto_same _ _ _ _ (by rw [HQ.out]; exact HDK.out)]; exact h3, hB⟩
      · have hd : ((q : Int) != (k : Int)) = true := by simp; omega
        have hval := HD.out q hlt hqk
        have c1 := cell_arr h1 hlt
        have c2 := cell_arrB h2 hlt
        have c3 := cell_arr h3 hlt
        have f3 : wr.frozen? ⟨w2.heap.size, q, none⟩ = false := frozen_of_row _ _ q _ _ h3
        obtain ⟨b1, b2⟩ := HV.out q hlt
        obtain ⟨b3, b4⟩ := HMM.out q
        obtain ⟨x, hx⟩ : ∃ x, x = v q := ⟨_, rfl⟩
        obtain ⟨y, hy⟩ : ∃ y, y = m q := ⟨_, rfl⟩
        rw [← hx] at c1 b1 b2
        rw [← hy] at c2 b3 b4
        rw [← hx, ← hy] at hval
        have HVAL := Lib.hid hval
        have hw1 : IntKind.i64.wrap (x - y) = x - y := IntWalk.i64_in _ (by omega)
        have hi0 : (0 : Int) ≤ (q : Int) := by omega
        have hi1 : (q : Int) < 8 := by omega
        clear hx hy hval hqk
        go_wp2_with fail
        go_region
        go_wp2_with fail
        go_roundg (gk - 1)
        case measure => have := HG.out; omega
        case rel =>
          have e : put (upto (fun _ _ => D) v v q) q (x - y) = upto (fun _ _ => D) v v (q + 1) := by rw [← HVAL.out]; exact upto_put (fun _ _ => D) v v q
          have q3 := heap_put h3 hlt (x - y)
          rw [e] at q3
          exact ⟨q + 1, by go_num, by have := HG.out; omega, by omega, (heap_setCell_other _ _ _ _ (by dsimp only; omega)).trans h1, (heap_setCell_other _ _ _ _ (by dsimp only; omega)).trans h2, q3, (hB.setCell (by dsimp only; omega) _).drew⟩
    · have hq8 : q = 8 := by omega
      subst hq8
      rw [arr_upto] at h3
      have hS1 : (wr.cell? ⟨w.heap.size, 0, none⟩ = some (.int .i64 (v 0)) ∧ wr.cell? ⟨w.heap.size, 1, none⟩ = some (.int .i64 (v 1)) ∧ wr.cell? ⟨w.heap.size, 2, none⟩ = some (.int .i64 (v 2)) ∧ wr.cell? ⟨w.heap.size, 3, none⟩ = some (.int .i64 (v 3)) ∧ wr.cell? ⟨w.heap.size, 4, none⟩ = some (.int .i64 (v 4)) ∧ wr.cell? ⟨w.heap.size, 5, none⟩ = some (.int .i64 (v 5)) ∧ wr.cell? ⟨w.heap.size, 6, none⟩ = some (.int .i64 (v 6)) ∧ wr.cell? ⟨w.heap.size, 7, none⟩ = some (.int .i64 (v 7)) ∧ wr.cell? ⟨w2.heap.size, 0, none⟩ = some (.int .i64 (D 0)) ∧ wr.cell? ⟨w2.heap.size, 1, none⟩ = some (.int .i64 (D 1)) ∧ wr.cell? ⟨w2.heap.size, 2, none⟩ = some (.int .i64 (D 2)) ∧ wr.cell? ⟨w2.heap.size, 3, none⟩ = some (.int .i64 (D 3)) ∧ wr.cell? ⟨w2.heap.size, 4, none⟩ = some (.int .i64 (D 4)) ∧ wr.cell? ⟨w2.heap.size, 5, none⟩ = some (.int .i64 (D 5)) ∧ wr.cell? ⟨w2.heap.size, 6, none⟩ = some (.int .i64 (D 6)) ∧ wr.cell? ⟨w2.heap.size, 7, none⟩ = some (.int .i64 (D 7))) ∧ KeptFrom w wr := ⟨⟨cell_arr h1 (show 0 < 8 by omega), cell_arr h1 (show 1 < 8 by omega), cell_arr h1 (show 2 < 8 by omega), cell_arr h1 (show 3 < 8 by omega), cell_arr h1 (show 4 < 8 by omega), cell_arr h1 (show 5 < 8 by omega), cell_arr h1 (show 6 < 8 by omega), cell_arr h1 (show 7 < 8 by omega), cell_arr h3 (show 0 < 8 by omega), cell_arr h3 (show 1 < 8 by omega), cell_arr h3 (show 2 < 8 by omega), cell_arr h3 (show 3 < 8 by omega), cell_arr h3 (show 4 < 8 by omega), cell_arr h3 (show 5 < 8 by omega), cell_arr h3 (show 6 < 8 by omega), cell_arr h3 (show 7 < 8 by omega)⟩, hB⟩
      obtain ⟨x0, y0⟩ := HV.out 0 (by omega)
      obtain ⟨x1, y1⟩ := HV.out 1 (by omega)
      obtain ⟨x2, y2⟩ := HV.out 2 (by omega)
      obtain ⟨x3, y3⟩ := HV.out 3 (by omega)
      obtain ⟨x4, y4⟩ := HV.out 4 (by omega)
      obtain ⟨x5, y5⟩ := HV.out 5 (by omega)
      obtain ⟨x6, y6⟩ := HV.out 6 (by omega)
      obtain ⟨x7, y7⟩ := HV.out 7 (by omega)
      clear h1 h2 h3 hB
      rcases lt8 hk with rfl | rfl | rfl | rfl | rfl | rfl | rfl | rfl
      · go_wp2_with fail
        refine (HT.out _).mono ?_
        rintro e w5 ⟨rfl, hb5⟩
        have hS2 := kept_call16 hb5 hS1
        clear hb5 hS1
        have z1 : w.heap.size < w5.heap.size := World.block_lt_of_cell? _ _ hS2.1.1
        have z2 : w2.heap.size < w5.heap.size := World.block_lt_of_cell? _ _ hS2.1.2.2.2.2.2.2.2.2.1
        have z1a : w.heap.size < w5.heap.size + 1 := by omega
        have z1b : w.heap.size < w5.heap.size + 1 + 1 := by omega
        have z2a : w2.heap.size < w5.heap.size + 1 := by omega
        have z2b : w2.heap.size < w5.heap.size + 1 + 1 := by omega
        obtain ⟨g1, g2, g3⟩ := heap3 w5 (.cells (arr t) 24) (.cells (arr (put D 0 seq)) 22) (.cells (arr (put D 1 (v 1 + 1))) 22)
        have gB : Below w.heap.size w (((w5.alloc (.cells (arr t) 24)).alloc (.cells (arr (put D 0 seq)) 22)).alloc (.cells (arr (put D 1 (v 1 + 1))) 22)) := (((kept_below hS2.2).alloc (by omega) _).alloc (by simp; omega) _).alloc (by simp; omega) _
        have G := Lib.hid (And.intro g1 (And.intro g2 (And.intro g3 gB)))
        clear g1 g2 g3 gB
        go_wp2_with fail
        refine (R1.out _).mono ?_
        rintro e w6 ⟨rfl, hb6⟩
        have hS6 : (w6.cell? ⟨w.heap.size, 0, none⟩ = some (.int .i64 (v 0)) ∧ w6.cell? ⟨w.heap.size, 1, none⟩ = some (.int .i64 (v 1)) ∧ w6.cell? ⟨w.heap.size, 2, none⟩ = some (.int .i64 (v 2)) ∧ w6.cell? ⟨w.heap.size, 3, none⟩ = some (.int .i64 (v 3)) ∧ w6.cell? ⟨w.heap.size, 4, none⟩ = some (.int .i64 (v 4)) ∧ w6.cell? ⟨w.heap.size, 5, none⟩ = some (.int .i64 (v 5)) ∧ w6.cell? ⟨w.heap.size, 6, none⟩ = some (.int .i64 (v 6)) ∧ w6.cell? ⟨w.heap.size, 7, none⟩ = some (.int .i64 (v 7)) ∧ w6.cell? ⟨w2.heap.size, 0, none⟩ = some (.int .i64 (D 0)) ∧ w6.cell? ⟨w2.heap.size, 1, none⟩ = some (.int .i64 (D 1)) ∧ w6.cell? ⟨w2.heap.size, 2, none⟩ = some (.int .i64 (D 2)) ∧ w6.cell? ⟨w2.heap.size, 3, none⟩ = some (.int .i64 (D 3)) ∧ w6.cell? ⟨w2.heap.size, 4, none⟩ = some (.int .i64 (D 4)) ∧ w6.cell? ⟨w2.heap.size, 5, none⟩ = some (.int .i64 (D 5)) ∧ w6.cell? ⟨w2.heap.size, 6, none⟩ = some (.int .i64 (D 6)) ∧ w6.cell? ⟨w2.heap.size, 7, none⟩ = some (.int .i64 (D 7)) ∧ w6.cell? ⟨w5.heap.size, 0, none⟩ = some (.int .i64 (t 0)) ∧ w6.cell? ⟨w5.heap.size, 1, none⟩ = some (.int .i64 (t 1)) ∧ w6.cell? ⟨w5.heap.size, 2, none⟩ = some (.int .i64 (t 2)) ∧ w6.cell? ⟨w5.heap.size, 3, none⟩ = some (.int .i64 (t 3)) ∧ w6.cell? ⟨w5.heap.size, 4, none⟩ = some (.int .i64 (t 4)) ∧ w6.cell? ⟨w5.heap.size, 5, none⟩ = some (.int .i64 (t 5)) ∧ w6.cell? ⟨w5.heap.size, 6, none⟩ = some (.int .i64 (t 6)) ∧ w6.cell? ⟨w5.heap.size, 7, none⟩ = some (.int .i64 (t 7)) ∧ w6.cell? ⟨w5.heap.size + 1, 0, none⟩ = some (.int .i64 (N 0)) ∧ w6.cell? ⟨w5.heap.size + 1, 1, none⟩ = some (.int .i64 (N 1)) ∧ w6.cell? ⟨w5.heap.size + 1, 2, none⟩ = some (.int .i64 (N 2)) ∧ w6.cell? ⟨w5.heap.size + 1, 3, none⟩ = some (.int .i64 (N 3)) ∧ w6.cell? ⟨w5.heap.size + 1, 4, none⟩ = some (.int .i64 (N 4)) ∧ w6.cell? ⟨w5.heap.size + 1, 5, none⟩ = some (.int .i64 (N 5)) ∧ w6.cell? ⟨w5.heap.size + 1, 6, none⟩ = some (.int .i64 (N 6)) ∧ w6.cell? ⟨w5.heap.size + 1, 7, none⟩ = some (.int .i64 (N 7)) ∧ w6.cell? ⟨w5.heap.size + 1 + 1, 0, none⟩ = some (.int .i64 (Y 0)) ∧ w6.cell? ⟨w5.heap.size + 1 + 1, 1, none⟩ = some (.int .i64 (Y 1)) ∧ w6.cell? ⟨w5.heap.size + 1 + 1, 2, none⟩ = some (.int .i64 (Y 2)) ∧ w6.cell? ⟨w5.heap.size + 1 + 1, 3, none⟩ = some (.int .i64 (Y 3)) ∧ w6.cell? ⟨w5.heap.size + 1 + 1, 4, none⟩ = some (.int .i64 (Y 4)) ∧ w6.cell? ⟨w5.heap.size + 1 + 1, 5, none⟩ = some (.int .i64 (Y 5)) ∧ w6.cell? ⟨w5.heap.size + 1 + 1, 6, none⟩ = some (.int .i64 (Y 6)) ∧ w6.cell? ⟨w5.heap.size + 1 + 1, 7, none⟩ = some (.int .i64 (Y 7))) ∧ KeptFrom w w6 := by
          obtain ⟨g1, g2, g3, gB⟩ := G.out
          refine ⟨⟨cell_later hb6 (cell_in_alloc (cell_in_alloc (cell_in_alloc (hS2.1.1)))), cell_later hb6 (cell_in_alloc (cell_in_alloc (cell_in_alloc (hS2.1.2.1)))), cell_later hb6 (cell_in_alloc (cell_in_alloc (cell_in_alloc (hS2.1.2.2.1)))), cell_later hb6 (cell_in_alloc (cell_in_alloc (cell_in_alloc (hS2.1.2.2.2.1)))), cell_later hb6 (cell_in_alloc (cell_in_alloc (cell_in_alloc (hS2.1.2.2.2.2.1)))), cell_later hb6 (cell_in_alloc (cell_in_alloc (cell_in_alloc (hS2.1.2.2.2.2.2.1)))), cell_later hb6 (cell_in_alloc (cell_in_alloc (cell_in_alloc (hS2.1.2.2.2.2.2.2.1)))), cell_later hb6 (cell_in_alloc (cell_in_alloc (cell_in_alloc (hS2.1.2.2.2.2.2.2.2.1)))), cell_later hb6 (cell_in_alloc (cell_in_alloc (cell_in_alloc (hS2.1.2.2.2.2.2.2.2.2.1)))), cell_later hb6 (cell_in_alloc (cell_in_alloc (cell_in_alloc (hS2.1.2.2.2.2.2.2.2.2.2.1)))), cell_later hb6 (cell_in_alloc (cell_in_alloc (cell_in_alloc (hS2.1.2.2.2.2.2.2.2.2.2.2.1)))), cell_later hb6 (cell_in_alloc (cell_in_alloc (cell_in_alloc (hS2.1.2.2.2.2.2.2.2.2.2.2.2.1)))), cell_later hb6 (cell_in_alloc (cell_in_alloc (cell_in_alloc (hS2.1.2.2.2.2.2.2.2.2.2.2.2.2.1)))), cell_later hb6 (cell_in_alloc (cell_in_alloc (cell_in_alloc (hS2.1.2.2.2.2.2.2.2.2.2.2.2.2.2.1)))), cell_later hb6 (cell_in_alloc (cell_in_alloc (cell_in_alloc (hS2.1.2.2.2.2.2.2.2.2.2.2.2.2.2.2.1)))), cell_later hb6 (cell_in_alloc (cell_in_alloc (cell_in_alloc (hS2.1.2.2.2.2.2.2.2.2.2.2.2.2.2.2.2)))), cell_later hb6 (cell_arr g1 (show 0 < 8 by omega)), cell_later hb6 (cell_arr g1 (show 1 < 8 by omega)), cell_later hb6 (cell_arr g1 (show 2 < 8 by omega)), cell_later hb6 (cell_arr g1 (show 3 < 8 by omega)), cell_later hb6 (cell_arr g1 (show 4 < 8 by omega)), cell_later hb6 (cell_arr g1 (show 5 < 8 by omega)), cell_later hb6 (cell_arr g1 (show 6 < 8 by omega)), cell_later hb6 (cell_arr g1 (show 7 < 8 by omega)), by rw [HN.out]; exact cell_later hb6 (cell_arr g2 (show 0 < 8 by omega)), by rw [HN.out]; exact cell_later hb6 (cell_arr g2 (show 1 < 8 by omega)), by rw [HN.out]; exact cell_later hb6 (cell_arr g2 (show 2 < 8 by omega)), by rw [HN.out]; exact cell_later hb6 (cell_arr g2 (show 3 < 8 by omega)), by rw [HN.out]; exact cell_later hb6 (cell_arr g2 (show 4 < 8 by omega)), by rw [HN.out]; exact cell_later hb6 (cell_arr g2 (show 5 < 8 by omega)), by rw [HN.out]; exact cell_later hb6 (cell_arr g2 (show 6 < 8 by omega)), by rw [HN.out]; exact cell_later hb6 (cell_arr g2 (show 7 < 8 by omega)), by rw [HY.out]; exact cell_later hb6 (cell_arr g3 (show 0 < 8 by omega)), by rw [HY.out]; exact cell_later hb6 (cell_arr g3 (show 1 < 8 by omega)), by rw [HY.out]; exact cell_later hb6 (cell_arr g3 (show 2 < 8 by omega)), by rw [HY.out]; exact cell_later hb6 (cell_arr g3 (show 3 < 8 by omega)), by rw [HY.out]; exact cell_later hb6 (cell_arr g3 (show 4 < 8 by omega)), by rw [HY.out]; exact cell_later hb6 (cell_arr g3 (show 5 < 8 by omega)), by rw [HY.out]; exact cell_later hb6 (cell_arr g3 (show 6 < 8 by omega)), by rw [HY.out]; exact cell_later hb6 (cell_arr g3 (show 7 < 8 by omega))⟩, below_step gB hb6⟩
        clear hb6 hS2 z1 z2 z1a z1b z2a z2b G
        go_wp2_with fail
        refine (R2.out _).mono ?_
        rintro e w7 ⟨rfl, hb7⟩
        have hS7 := kept_call40 hb7 hS6
        clear hb7 hS6
        go_wp2_with fail
        refine (R3.out _).mono ?_
        rintro e w8 ⟨rfl, hb8⟩
        have hS8 := kept_call40 hb8 hS7
        clear hb8 hS7
        go_wp2_with fail
        refine (R4.out _).mono ?_
        rintro e w9 ⟨rfl, hb9⟩
        have hS9 := kept_call40 hb9 hS8
        clear hb9 hS8
        go_wp2_with fail
        refine (R5.out _).mono ?_
        rintro e w10 ⟨rfl, hb10⟩
        have hS10 := kept_call40 hb10 hS9
        clear hb10 hS9
        go_wp2_with fail
        go_ret
        exact ⟨rfl, kept_below hS10.2⟩
      · go_wp2_with fail
        refine (HT.out _).mono ?_
        rintro e w5 ⟨rfl, hb5⟩
        have hS2 := kept_call16 hb5 hS1
        clear hb5 hS1
        have z1 : w.heap.size < w5.heap.size := World.block_lt_of_cell? _ _ hS2.1.1
        have z2 : w2.heap.size < w5.heap.size := World.block_lt_of_cell? _ _ hS2.1.2.2.2.2.2.2.2.2.1
        have z1a : w.heap.size < w5.heap.size + 1 := by omega
        have z1b : w.heap.size < w5.heap.size + 1 + 1 := by omega
        have z2a : w2.heap.size < w5.heap.size + 1 := by omega
        have z2b : w2.heap.size < w5.heap.size + 1 + 1 := by omega
        obtain ⟨g1, g2, g3⟩ := heap3 w5 (.cells (arr t) 24) (.cells (arr (put D 1 seq)) 22) (.cells (arr (put D 2 (v 2 + 1))) 22)
        have gB : Below w.heap.size w (((w5.alloc (.cells (arr t) 24)).alloc (.cells (arr (put D 1 seq)) 22)).alloc (.cells (arr (put D 2 (v 2 + 1))) 22)) := (((kept_below hS2.2).alloc (by omega) _).alloc (by simp; omega) _).alloc (by simp; omega) _
        have G := Lib.hid (And.intro g1 (And.intro g2 (And.intro g3 gB)))
        clear g1 g2 g3 gB
        go_wp2_with fail
        refine (R1.out _).mono ?_
        rintro e w6 ⟨rfl, hb6⟩
        have hS6 : (w6.cell? ⟨w.heap.size, 0, none⟩ = some (.int .i64 (v 0)) ∧ w6.cell? ⟨w.heap.size, 1, none⟩ = some (.int .i64 (v 1)) ∧ w6.cell? ⟨w.heap.size, 2, none⟩ = some (.int .i64 (v 2)) ∧ w6.cell? ⟨w.heap.size, 3, none⟩ = some (.int .i64 (v 3)) ∧ w6.cell? ⟨w.heap.size, 4, none⟩ = some (.int .i64 (v 4)) ∧ w6.cell? ⟨w.heap.size, 5, none⟩ = some (.int .i64 (v 5)) ∧ w6.cell? ⟨w.heap.size, 6, none⟩ = some (.int .i64 (v 6)) ∧ w6.cell? ⟨w.heap.size, 7, none⟩ = some (.int .i64 (v 7)) ∧ w6.cell? ⟨w2.heap.size, 0, none⟩ = some (.int .i64 (D 0)) ∧ w6.cell? ⟨w2.heap.size, 1, none⟩ = some (.int .i64 (D 1)) ∧ w6.cell? ⟨w2.heap.size, 2, none⟩ = some (.int .i64 (D 2)) ∧ w6.cell? ⟨w2.heap.size, 3, none⟩ = some (.int .i64 (D 3)) ∧ w6.cell? ⟨w2.heap.size, 4, none⟩ = some (.int .i64 (D 4)) ∧ w6.cell? ⟨w2.heap.size, 5, none⟩ = some (.int .i64 (D 5)) ∧ w6.cell? ⟨w2.heap.size, 6, none⟩ = some (.int .i64 (D 6)) ∧ w6.cell? ⟨w2.heap.size, 7, none⟩ = some (.int .i64 (D 7)) ∧ w6.cell? ⟨w5.heap.size, 0, none⟩ = some (.int .i64 (t 0)) ∧ w6.cell? ⟨w5.heap.size, 1, none⟩ = some (.int .i64 (t 1)) ∧ w6.cell? ⟨w5.heap.size, 2, none⟩ = some (.int .i64 (t 2)) ∧ w6.cell? ⟨w5.heap.size, 3, none⟩ = some (.int .i64 (t 3)) ∧ w6.cell? ⟨w5.heap.size, 4, none⟩ = some (.int .i64 (t 4)) ∧ w6.cell? ⟨w5.heap.size, 5, none⟩ = some (.int .i64 (t 5)) ∧ w6.cell? ⟨w5.heap.size, 6, none⟩ = some (.int .i64 (t 6)) ∧ w6.cell? ⟨w5.heap.size, 7, none⟩ = some (.int .i64 (t 7)) ∧ w6.cell? ⟨w5.heap.size + 1, 0, none⟩ = some (.int .i64 (N 0)) ∧ w6.cell? ⟨w5.heap.size + 1, 1, none⟩ = some (.int .i64 (N 1)) ∧ w6.cell? ⟨w5.heap.size + 1, 2, none⟩ = some (.int .i64 (N 2)) ∧ w6.cell? ⟨w5.heap.size + 1, 3, none⟩ = some (.int .i64 (N 3)) ∧ w6.cell? ⟨w5.heap.size + 1, 4, none⟩ = some (.int .i64 (N 4)) ∧ w6.cell? ⟨w5.heap.size + 1, 5, none⟩ = some (.int .i64 (N 5)) ∧ w6.cell? ⟨w5.heap.size + 1, 6, none⟩ = some (.int .i64 (N 6)) ∧ w6.cell? ⟨w5.heap.size + 1, 7, none⟩ = some (.int .i64 (N 7)) ∧ w6.cell? ⟨w5.heap.size + 1 + 1, 0, none⟩ = some (.int .i64 (Y 0)) ∧ w6.cell? ⟨w5.heap.size + 1 + 1, 1, none⟩ = some (.int .i64 (Y 1)) ∧ w6.cell? ⟨w5.heap.size + 1 + 1, 2, none⟩ = some (.int .i64 (Y 2)) ∧ w6.cell? ⟨w5.heap.size + 1 + 1, 3, none⟩ = some (.int .i64 (Y 3)) ∧ w6.cell? ⟨w5.heap.size + 1 + 1, 4, none⟩ = some (.int .i64 (Y 4)) ∧ w6.cell? ⟨w5.heap.size + 1 + 1, 5, none⟩ = some (.int .i64 (Y 5)) ∧ w6.cell? ⟨w5.heap.size + 1 + 1, 6, none⟩ = some (.int .i64 (Y 6)) ∧ w6.cell? ⟨w5.heap.size + 1 + 1, 7, none⟩ = some (.int .i64 (Y 7))) ∧ KeptFrom w w6 := by
          obtain ⟨g1, g2, g3, gB⟩ := G.out
          refine ⟨⟨cell_later hb6 (cell_in_alloc (cell_in_alloc (cell_in_alloc (hS2.1.1)))), cell_later hb6 (cell_in_alloc (cell_in_alloc (cell_in_alloc (hS2.1.2.1)))), cell_later hb6 (cell_in_alloc (cell_in_alloc (cell_in_alloc (hS2.1.2.2.1)))), cell_later hb6 (cell_in_alloc (cell_in_alloc (cell_in_alloc (hS2.1.2.2.2.1)))), cell_later hb6 (cell_in_alloc (cell_in_alloc (cell_in_alloc (hS2.1.2.2.2.2.1)))), cell_later hb6 (cell_in_alloc (cell_in_alloc (cell_in_alloc (hS2.1.2.2.2.2.2.1)))), cell_later hb6 (cell_in_alloc (cell_in_alloc (cell_in_alloc (hS2.1.2.2.2.2.2.2.1)))), cell_later hb6 (cell_in_alloc (cell_in_alloc (cell_in_alloc (hS2.1.2.2.2.2.2.2.2.1)))), cell_later hb6 (cell_in_alloc (cell_in_alloc (cell_in_alloc (hS2.1.2.2.2.2.2.2.2.2.1)))), cell_later hb6 (cell_in_alloc (cell_in_alloc (cell_in_alloc (hS2.1.2.2.2.2.2.2.2.2.2.1)))), cell_later hb6 (cell_in_alloc (cell_in_alloc (cell_in_alloc (hS2.1.2.2.2.2.2.2.2.2.2.2.1)))), cell_later hb6 (cell_in_alloc (cell_in_alloc (cell_in_alloc (hS2.1.2.2.2.2.2.2.2.2.2.2.2.1)))), cell_later hb6 (cell_in_alloc (cell_in_alloc (cell_in_alloc (hS2.1.2.2.2.2.2.2.2.2.2.2.2.2.1)))), cell_later hb6 (cell_in_alloc (cell_in_alloc (cell_in_alloc (hS2.1.2.2.2.2.2.2.2.2.2.2.2.2.2.1)))), cell_later hb6 (cell_in_alloc (cell_in_alloc (cell_in_alloc (hS2.1.2.2.2.2.2.2.2.2.2.2.2.2.2.2.1)))), cell_later hb6 (cell_in_alloc (cell_in_alloc (cell_in_alloc (hS2.1.2.2.2.2.2.2.2.2.2.2.2.2.2.2.2)))), cell_later hb6 (cell_arr g1 (show 0 < 8 by omega)), cell_later hb6 (cell_arr g1 (show 1 < 8 by omega)), cell_later hb6 (cell_arr g1 (show 2 < 8 by omega)), cell_later hb6 (cell_arr g1 (show 3 < 8 by omega)), cell_later hb6 (cell_arr g1 (show 4 < 8 by omega)), cell_later hb6 (cell_arr g1 (show 5 < 8 by omega)), cell_later hb6 (cell_arr g1 (show 6 < 8 by omega)), cell_later hb6 (cell_arr g1 (show 7 < 8 by omega)), by rw [HN.out]; exact cell_later hb6 (cell_arr g2 (show 0 < 8 by omega)), by rw [HN.out]; exact cell_later hb6 (cell_arr g2 (show 1 < 8 by omega)), by rw [HN.out]; exact cell_later hb6 (cell_arr g2 (show 2 < 8 by omega)), by rw [HN.out]; exact cell_later hb6 (cell_arr g2 (show 3 < 8 by omega)), by rw [HN.out]; exact cell_later hb6 (cell_arr g2 (show 4 < 8 by omega)), by rw [HN.out]; exact cell_later hb6 (cell_arr g2 (show 5 < 8 by omega)), by rw [HN.out]; exact cell_later hb6 (cell_arr g2 (show 6 < 8 by omega)), by rw [HN.out]; exact cell_later hb6 (cell_arr g2 (show 7 < 8 by omega)), by rw [HY.out]; exact cell_later hb6 (cell_arr g3 (show 0 < 8 by omega)), by rw [HY.out]; exact cell_later hb6 (cell_arr g3 (show 1 < 8 by omega)), by rw [HY.out]; exact cell_later hb6 (cell_arr g3 (show 2 < 8 by omega)), by rw [HY.out]; exact cell_later hb6 (cell_arr g3 (show 3 < 8 by omega)), by rw [HY.out]; exact cell_later hb6 (cell_arr g3 (show 4 < 8 by omega)), by rw [HY.out]; exact cell_later hb6 (cell_arr g3 (show 5 < 8 by omega)), by rw [HY.out]; exact cell_later hb6 (cell_arr g3 (show 6 < 8 by omega)), by rw [HY.out]; exact cell_later hb6 (cell_arr g3 (show 7 < 8 by omega))⟩, below_step gB hb6⟩
        clear hb6 hS2 z1 z2 z1a z1b z2a z2b G
        go_wp2_with fail
        refine (R2.out _).mono ?_
        rintro e w7 ⟨rfl, hb7⟩
        have hS7 := kept_call40 hb7 hS6
        clear hb7 hS6
        go_wp2_with fail
        refine (R3.out _).mono ?_
        rintro e w8 ⟨rfl, hb8⟩
        have hS8 := kept_call40 hb8 hS7
        clear hb8 hS7
        go_wp2_with fail
        refine (R4.out _).mono ?_
        rintro e w9 ⟨rfl, hb9⟩
        have hS9 := kept_call40 hb9 hS8
        clear hb9 hS8
        go_wp2_with fail
        refine (R5.out _).mono ?_
        rintro e w10 ⟨rfl, hb10⟩
        have hS10 := kept_call40 hb10 hS9
        clear hb10 hS9
        go_wp2_with fail
        go_ret
        exact ⟨rfl, kept_below hS10.2⟩
      · go_wp2_with fail
        refine (HT.out _).mono ?_
        rintro e w5 ⟨rfl, hb5⟩
        have hS2 := kept_call16 hb5 hS1
        clear hb5 hS1
        have z1 : w.heap.size < w5.heap.size := World.block_lt_of_cell? _ _ hS2.1.1
        have z2 : w2.heap.size < w5.heap.size := World.block_lt_of_cell? _ _ hS2.1.2.2.2.2.2.2.2.2.1
        have z1a : w.heap.size < w5.heap.size + 1 := by omega
        have z1b : w.heap.size < w5.heap.size + 1 + 1 := by omega
        have z2a : w2.heap.size < w5.heap.size + 1 := by omega
        have z2b : w2.heap.size < w5.heap.size + 1 + 1 := by omega
        obtain ⟨g1, g2, g3⟩ := heap3 w5 (.cells (arr t) 24) (.cells (arr (put D 2 seq)) 22) (.cells (arr (put D 3 (v 3 + 1))) 22)
        have gB : Below w.heap.size w (((w5.alloc (.cells (arr t) 24)).alloc (.cells (arr (put D 2 seq)) 22)).alloc (.cells (arr (put D 3 (v 3 + 1))) 22)) := (((kept_below hS2.2).alloc (by omega) _).alloc (by simp; omega) _).alloc (by simp; omega) _
        have G := Lib.hid (And.intro g1 (And.intro g2 (And.intro g3 gB)))
        clear g1 g2 g3 gB
        go_wp2_with fail
        refine (R1.out _).mono ?_
        rintro e w6 ⟨rfl, hb6⟩
        have hS6 : (w6.cell? ⟨w.heap.size, 0, none⟩ = some (.int .i64 (v 0)) ∧ w6.cell? ⟨w.heap.size, 1, none⟩ = some (.int .i64 (v 1)) ∧ w6.cell? ⟨w.heap.size, 2, none⟩ = some (.int .i64 (v 2)) ∧ w6.cell? ⟨w.heap.size, 3, none⟩ = some (.int .i64 (v 3)) ∧ w6.cell? ⟨w.heap.size, 4, none⟩ = some (.int .i64 (v 4)) ∧ w6.cell? ⟨w.heap.size, 5, none⟩ = some (.int .i64 (v 5)) ∧ w6.cell? ⟨w.heap.size, 6, none⟩ = some (.int .i64 (v 6)) ∧ w6.cell? ⟨w.heap.size, 7, none⟩ = some (.int .i64 (v 7)) ∧ w6.cell? ⟨w2.heap.size, 0, none⟩ = some (.int .i64 (D 0)) ∧ w6.cell? ⟨w2.heap.size, 1, none⟩ = some (.int .i64 (D 1)) ∧ w6.cell? ⟨w2.heap.size, 2, none⟩ = some (.int .i64 (D 2)) ∧ w6.cell? ⟨w2.heap.size, 3, none⟩ = some (.int .i64 (D 3)) ∧ w6.cell? ⟨w2.heap.size, 4, none⟩ = some (.int .i64 (D 4)) ∧ w6.cell? ⟨w2.heap.size, 5, none⟩ = some (.int .i64 (D 5)) ∧ w6.cell? ⟨w2.heap.size, 6, none⟩ = some (.int .i64 (D 6)) ∧ w6.cell? ⟨w2.heap.size, 7, none⟩ = some (.int .i64 (D 7)) ∧ w6.cell? ⟨w5.heap.size, 0, none⟩ = some (.int .i64 (t 0)) ∧ w6.cell? ⟨w5.heap.size, 1, none⟩ = some (.int .i64 (t 1)) ∧ w6.cell? ⟨w5.heap.size, 2, none⟩ = some (.int .i64 (t 2)) ∧ w6.cell? ⟨w5.heap.size, 3, none⟩ = some (.int .i64 (t 3)) ∧ w6.cell? ⟨w5.heap.size, 4, none⟩ = some (.int .i64 (t 4)) ∧ w6.cell? ⟨w5.heap.size, 5, none⟩ = some (.int .i64 (t 5)) ∧ w6.cell? ⟨w5.heap.size, 6, none⟩ = some (.int .i64 (t 6)) ∧ w6.cell? ⟨w5.heap.size, 7, none⟩ = some (.int .i64 (t 7)) ∧ w6.cell? ⟨w5.heap.size + 1, 0, none⟩ = some (.int .i64 (N 0)) ∧ w6.cell? ⟨w5.heap.size + 1, 1, none⟩ = some (.int .i64 (N 1)) ∧ w6.cell? ⟨w5.heap.size + 1, 2, none⟩ = some (.int .i64 (N 2)) ∧ w6.cell? ⟨w5.heap.size + 1, 3, none⟩ = some (.int .i64 (N 3)) ∧ w6.cell? ⟨w5.heap.size + 1, 4, none⟩ = some (.int .i64 (N 4)) ∧ w6.cell? ⟨w5.heap.size + 1, 5, none⟩ = some (.int .i64 (N 5)) ∧ w6.cell? ⟨w5.heap.size + 1, 6, none⟩ = some (.int .i64 (N 6)) ∧ w6.cell? ⟨w5.heap.size + 1, 7, none⟩ = some (.int .i64 (N 7)) ∧ w6.cell? ⟨w5.heap.size + 1 + 1, 0, none⟩ = some (.int .i64 (Y 0)) ∧ w6.cell? ⟨w5.heap.size + 1 + 1, 1, none⟩ = some (.int .i64 (Y 1)) ∧ w6.cell? ⟨w5.heap.size + 1 + 1, 2, none⟩ = some (.int .i64 (Y 2)) ∧ w6.cell? ⟨w5.heap.size + 1 + 1, 3, none⟩ = some (.int .i64 (Y 3)) ∧ w6.cell? ⟨w5.heap.size + 1 + 1, 4, none⟩ = some (.int .i64 (Y 4)) ∧ w6.cell? ⟨w5.heap.size + 1 + 1, 5, none⟩ = some (.int .i64 (Y 5)) ∧ w6.cell? ⟨w5.heap.size + 1 + 1, 6, none⟩ = some (.int .i64 (Y 6)) ∧ w6.cell? ⟨w5.heap.size + 1 + 1, 7, none⟩ = some (.int .i64 (Y 7))) ∧ KeptFrom w w6 := by
          obtain ⟨g1, g2, g3, gB⟩ := G.out
          refine ⟨⟨cell_later hb6 (cell_in_alloc (cell_in_alloc (cell_in_alloc (hS2.1.1)))), cell_later hb6 (cell_in_alloc (cell_in_alloc (cell_in_alloc (hS2.1.2.1)))), cell_later hb6 (cell_in_alloc (cell_in_alloc (cell_in_alloc (hS2.1.2.2.1)))), cell_later hb6 (cell_in_alloc (cell_in_alloc (cell_in_alloc (hS2.1.2.2.2.1)))), cell_later hb6 (cell_in_alloc (cell_in_alloc (cell_in_alloc (hS2.1.2.2.2.2.1)))), cell_later hb6 (cell_in_alloc (cell_in_alloc (cell_in_alloc (hS2.1.2.2.2.2.2.1)))), cell_later hb6 (cell_in_alloc (cell_in_alloc (cell_in_alloc (hS2.1.2.2.2.2.2.2.1)))), cell_later hb6 (cell_in_alloc (cell_in_alloc (cell_in_alloc (hS2.1.2.2.2.2.2.2.2.1)))), cell_later hb6 (cell_in_alloc (cell_in_alloc (cell_in_alloc (hS2.1.2.2.2.2.2.2.2.2.1)))), cell_later hb6 (cell_in_alloc (cell_in_alloc (cell_in_alloc (hS2.1.2.2.2.2.2.2.2.2.2.1)))), cell_later hb6 (cell_in_alloc (cell_in_alloc (cell_in_alloc (hS2.1.2.2.2.2.2.2.2.2.2.2.1)))), cell_later hb6 (cell_in_alloc (cell_in_alloc (cell_in_alloc (hS2.1.2.2.2.2.2.2.2.2.2.2.2.1)))), cell_later hb6 (cell_in_alloc (cell_in_alloc (cell_in_alloc (hS2.1.2.2.2.2.2.2.2.2.2.2.2.2.1)))), cell_later hb6 (cell_in_alloc (cell_in_alloc (cell_in_alloc (hS2.1.2.2.2.2.2.2.2.2.2.2.2.2.2.1)))), cell_later hb6 (cell_in_alloc (cell_in_alloc (cell_in_alloc (hS2.1.2.2.2.2.2.2.2.2.2.2.2.2.2.2.1)))), cell_later hb6 (cell_in_alloc (cell_in_alloc (cell_in_alloc (hS2.1.2.2.2.2.2.2.2.2.2.2.2.2.2.2.2)))), cell_later hb6 (cell_arr g1 (show 0 < 8 by omega)), cell_later hb6 (cell_arr g1 (show 1 < 8 by omega)), cell_later hb6 (cell_arr g1 (show 2 < 8 by omega)), cell_later hb6 (cell_arr g1 (show 3 < 8 by omega)), cell_later hb6 (cell_arr g1 (show 4 < 8 by omega)), cell_later hb6 (cell_arr g1 (show 5 < 8 by omega)), cell_later hb6 (cell_arr g1 (show 6 < 8 by omega)), cell_later hb6 (cell_arr g1 (show 7 < 8 by omega)), by rw [HN.out]; exact cell_later hb6 (cell_arr g2 (show 0 < 8 by omega)), by rw [HN.out]; exact cell_later hb6 (cell_arr g2 (show 1 < 8 by omega)), by rw [HN.out]; exact cell_later hb6 (cell_arr g2 (show 2 < 8 by omega)), by rw [HN.out]; exact cell_later hb6 (cell_arr g2 (show 3 < 8 by omega)), by rw [HN.out]; exact cell_later hb6 (cell_arr g2 (show 4 < 8 by omega)), by rw [HN.out]; exact cell_later hb6 (cell_arr g2 (show 5 < 8 by omega)), by rw [HN.out]; exact cell_later hb6 (cell_arr g2 (show 6 < 8 by omega)), by rw [HN.out]; exact cell_later hb6 (cell_arr g2 (show 7 < 8 by omega)), by rw [HY.out]; exact cell_later hb6 (cell_arr g3 (show 0 < 8 by omega)), by rw [HY.out]; exact cell_later hb6 (cell_arr g3 (show 1 < 8 by omega)), by rw [HY.out]; exact cell_later hb6 (cell_arr g3 (show 2 < 8 by omega)), by rw [HY.out]; exact cell_later hb6 (cell_arr g3 (show 3 < 8 by omega)), by rw [HY.out]; exact cell_later hb6 (cell_arr g3 (show 4 < 8 by omega)), by rw [HY.out]; exact cell_later hb6 (cell_arr g3 (show 5 < 8 by omega)), by rw [HY.out]; exact cell_later hb6 (cell_arr g3 (show 6 < 8 by omega)), by rw [HY.out]; exact cell_later hb6 (cell_arr g3 (show 7 < 8 by omega))⟩, below_step gB hb6⟩
        clear hb6 hS2 z1 z2 z1a z1b z2a z2b G
        go_wp2_with fail
        refine (R2.out _).mono ?_
        rintro e w7 ⟨rfl, hb7⟩
        have hS7 := kept_call40 hb7 hS6
        clear hb7 hS6
        go_wp2_with fail
        refine (R3.out _).mono ?_
        rintro e w8 ⟨rfl, hb8⟩
        have hS8 := kept_call40 hb8 hS7
        clear hb8 hS7
        go_wp2_with fail
        refine (R4.out _).mono ?_
        rintro e w9 ⟨rfl, hb9⟩
        have hS9 := kept_call40 hb9 hS8
        clear hb9 hS8
        go_wp2_with fail
        refine (R5.out _).mono ?_
        rintro e w10 ⟨rfl, hb10⟩
        have hS10 := kept_call40 hb10 hS9
        clear hb10 hS9
        go_wp2_with fail
        go_ret
        exact ⟨rfl, kept_below hS10.2⟩
      · go_wp2_with fail
        refine (HT.out _).mono ?_
        rintro e w5 ⟨rfl, hb5⟩
        have hS2 := kept_call16 hb5 hS1
        clear hb5 hS1
        have z1 : w.heap.size < w5.heap.size := World.block_lt_of_cell? _ _ hS2.1.1
        have z2 : w2.heap.size < w5.heap.size := World.block_lt_of_cell? _ _ hS2.1.2.2.2.2.2.2.2.2.1
        have z1a : w.heap.size < w5.heap.size + 1 := by omega
        have z1b : w.heap.size < w5.heap.size + 1 + 1 := by omega
        have z2a : w2.heap.size < w5.heap.size + 1 := by omega
        have z2b : w2.heap.size < w5.heap.size + 1 + 1 := by omega
        obtain ⟨g1, g2, g3⟩ := heap3 w5 (.cells (arr t) 24) (.cells (arr (put D 3 seq)) 22) (.cells (arr (put D 4 (v 4 + 1))) 22)
        have gB : Below w.heap.size w (((w5.alloc (.cells (arr t) 24)).alloc (.cells (arr (put D 3 seq)) 22)).alloc (.cells (arr (put D 4 (v 4 + 1))) 22)) := (((kept_below hS2.2).alloc (by omega) _).alloc (by simp; omega) _).alloc (by simp; omega) _
        have G := Lib.hid (And.intro g1 (And.intro g2 (And.intro g3 gB)))
        clear g1 g2 g3 gB
        go_wp2_with fail
        refine (R1.out _).mono ?_
        rintro e w6 ⟨rfl, hb6⟩
        have hS6 : (w6.cell? ⟨w.heap.size, 0, none⟩ = some (.int .i64 (v 0)) ∧ w6.cell? ⟨w.heap.size, 1, none⟩ = some (.int .i64 (v 1)) ∧ w6.cell? ⟨w.heap.size, 2, none⟩ = some (.int .i64 (v 2)) ∧ w6.cell? ⟨w.heap.size, 3, none⟩ = some (.int .i64 (v 3)) ∧ w6.cell? ⟨w.heap.size, 4, none⟩ = some (.int .i64 (v 4)) ∧ w6.cell? ⟨w.heap.size, 5, none⟩ = some (.int .i64 (v 5)) ∧ w6.cell? ⟨w.heap.size, 6, none⟩ = some (.int .i64 (v 6)) ∧ w6.cell? ⟨w.heap.size, 7, none⟩ = some (.int .i64 (v 7)) ∧ w6.cell? ⟨w2.heap.size, 0, none⟩ = some (.int .i64 (D 0)) ∧ w6.cell? ⟨w2.heap.size, 1, none⟩ = some (.int .i64 (D 1)) ∧ w6.cell? ⟨w2.heap.size, 2, none⟩ = some (.int .i64 (D 2)) ∧ w6.cell? ⟨w2.heap.size, 3, none⟩ = some (.int .i64 (D 3)) ∧ w6.cell? ⟨w2.heap.size, 4, none⟩ = some (.int .i64 (D 4)) ∧ w6.cell? ⟨w2.heap.size, 5, none⟩ = some (.int .i64 (D 5)) ∧ w6.cell? ⟨w2.heap.size, 6, none⟩ = some (.int .i64 (D 6)) ∧ w6.cell? ⟨w2.heap.size, 7, none⟩ = some (.int .i64 (D 7)) ∧ w6.cell? ⟨w5.heap.size, 0, none⟩ = some (.int .i64 (t 0)) ∧ w6.cell? ⟨w5.heap.size, 1, none⟩ = some (.int .i64 (t 1)) ∧ w6.cell? ⟨w5.heap.size, 2, none⟩ = some (.int .i64 (t 2)) ∧ w6.cell? ⟨w5.heap.size, 3, none⟩ = some (.int .i64 (t 3)) ∧ w6.cell? ⟨w5.heap.size, 4, none⟩ = some (.int .i64 (t 4)) ∧ w6.cell? ⟨w5.heap.size, 5, none⟩ = some (.int .i64 (t 5)) ∧ w6.cell? ⟨w5.heap.size, 6, none⟩ = some (.int .i64 (t 6)) ∧ w6.cell? ⟨w5.heap.size, 7, none⟩ = some (.int .i64 (t 7)) ∧ w6.cell? ⟨w5.heap.size + 1, 0, none⟩ = some (.int .i64 (N 0)) ∧ w6.cell? ⟨w5.heap.size + 1, 1, none⟩ = some (.int .i64 (N 1)) ∧ w6.cell? ⟨w5.heap.size + 1, 2, none⟩ = some (.int .i64 (N 2)) ∧ w6.cell? ⟨w5.heap.size + 1, 3, none⟩ = some (.int .i64 (N 3)) ∧ w6.cell? ⟨w5.heap.size + 1, 4, none⟩ = some (.int .i64 (N 4)) ∧ w6.cell? ⟨w5.heap.size + 1, 5, none⟩ = some (.int .i64 (N 5)) ∧ w6.cell? ⟨w5.heap.size + 1, 6, none⟩ = some (.int .i64 (N 6)) ∧ w6.cell? ⟨w5.heap.size + 1, 7, none⟩ = some (.int .i64 (N 7)) ∧ w6.cell? ⟨w5.heap.size + 1 + 1, 0, none⟩ = some (.int .i64 (Y 0)) ∧ w6.cell? ⟨w5.heap.size + 1 + 1, 1, none⟩ = some (.int .i64 (Y 1)) ∧ w6.cell? ⟨w5.heap.size + 1 + 1, 2, none⟩ = some (.int .i64 (Y 2)) ∧ w6.cell? ⟨w5.heap.size + 1 + 1, 3, none⟩ = some (.int .i64 (Y 3)) ∧ w6.cell? ⟨w5.heap.size + 1 + 1, 4, none⟩ = some (.int .i64 (Y 4)) ∧ w6.cell? ⟨w5.heap.size + 1 + 1, 5, none⟩ = some (.int .i64 (Y 5)) ∧ w6.cell? ⟨w5.heap.size + 1 + 1, 6, none⟩ = some (.int .i64 (Y 6)) ∧ w6.cell? ⟨w5.heap.size + 1 + 1, 7, none⟩ = some (.int .i64 (Y 7))) ∧ KeptFrom w w6 := by
          obtain ⟨g1, g2, g3, gB⟩ := G.out
          refine ⟨⟨cell_later hb6 (cell_in_alloc (cell_in_alloc (cell_in_alloc (hS2.1.1)))), cell_later hb6 (cell_in_alloc (cell_in_alloc (cell_in_alloc (hS2.1.2.1)))), cell_later hb6 (cell_in_alloc (cell_in_alloc (cell_in_alloc (hS2.1.2.2.1)))), cell_later hb6 (cell_in_alloc (cell_in_alloc (cell_in_alloc (hS2.1.2.2.2.1)))), cell_later hb6 (cell_in_alloc (cell_in_alloc (cell_in_alloc (hS2.1.2.2.2.2.1)))), cell_later hb6 (cell_in_alloc (cell_in_alloc (cell_in_alloc (hS2.1.2.2.2.2.2.1)))), cell_later hb6 (cell_in_alloc (cell_in_alloc (cell_in_alloc (hS2.1.2.2.2.2.2.2.1)))), cell_later hb6 (cell_in_alloc (cell_in_alloc (cell_in_alloc (hS2.1.2.2.2.2.2.2.2.1)))), cell_later hb6 (cell_in_alloc (cell_in_alloc (cell_in_alloc (hS2.1.2.2.2.2.2.2.2.2.1)))), cell_later hb6 (cell_in_alloc (cell_in_alloc (cell_in_alloc (hS2.1.2.2.2.2.2.2.2.2.2.1)))), cell_later hb6 (cell_in_alloc (cell_in_alloc (cell_in_alloc (hS2.1.2.2.2.2.2.2.2.2.2.2.1)))), cell_later hb6 (cell_in_alloc (cell_in_alloc (cell_in_alloc (hS2.1.2.2.2.2.2.2.2.2.2.2.2.1)))), cell_later hb6 (cell_in_alloc (cell_in_alloc (cell_in_alloc (hS2.1.2.2.2.2.2.2.2.2.2.2.2.2.1)))), cell_later hb6 (cell_in_alloc (cell_in_alloc (cell_in_alloc (hS2.1.2.2.2.2.2.2.2.2.2.2.2.2.2.1)))), cell_later hb6 (cell_in_alloc (cell_in_alloc (cell_in_alloc (hS2.1.2.2.2.2.2.2.2.2.2.2.2.2.2.2.1)))), cell_later hb6 (cell_in_alloc (cell_in_alloc (cell_in_alloc (hS2.1.2.2.2.2.2.2.2.2.2.2.2.2.2.2.2)))), cell_later hb6 (cell_arr g1 (show 0 < 8 by omega)), cell_later hb6 (cell_arr g1 (show 1 < 8 by omega)), cell_later hb6 (cell_arr g1 (show 2 < 8 by omega)), cell_later hb6 (cell_arr g1 (show 3 < 8 by omega)), cell_later hb6 (cell_arr g1 (show 4 < 8 by omega)), cell_later hb6 (cell_arr g1 (show 5 < 8 by omega)), cell_later hb6 (cell_arr g1 (show 6 < 8 by omega)), cell_later hb6 (cell_arr g1 (show 7 < 8 by omega)), by rw [HN.out]; exact cell_later hb6 (cell_arr g2 (show 0 < 8 by omega)), by rw [HN.out]; exact cell_later hb6 (cell_arr g2 (show 1 < 8 by omega)), by rw [HN.out]; exact cell_later hb6 (cell_arr g2 (show 2 < 8 by omega)), by rw [HN.out]; exact cell_later hb6 (cell_arr g2 (show 3 < 8 by omega)), by rw [HN.out]; exact cell_later hb6 (cell_arr g2 (show 4 < 8 by omega)), by rw [HN.out]; exact cell_later hb6 (cell_arr g2 (show 5 < 8 by omega)), by rw [HN.out]; exact cell_later hb6 (cell_arr g2 (show 6 < 8 by omega)), by rw [HN.out]; exact cell_later hb6 (cell_arr g2 (show 7 < 8 by omega)), by rw [HY.out]; exact cell_later hb6 (cell_arr g3 (show 0 < 8 by omega)), by rw [HY.out]; exact cell_later hb6 (cell_arr g3 (show 1 < 8 by omega)), by rw [HY.out]; exact cell_later hb6 (cell_arr g3 (show 2 < 8 by omega)), by rw [HY.out]; exact cell_later hb6 (cell_arr g3 (show 3 < 8 by omega)), by rw [HY.out]; exact cell_later hb6 (cell_arr g3 (show 4 < 8 by omega)), by rw [HY.out]; exact cell_later hb6 (cell_arr g3 (show 5 < 8 by omega)), by rw [HY.out]; exact cell_later hb6 (cell_arr g3 (show 6 < 8 by omega)), by rw [HY.out]; exact cell_later hb6 (cell_arr g3 (show 7 < 8 by omega))⟩, below_step gB hb6⟩
        clear hb6 hS2 z1 z2 z1a z1b z2a z2b G
        go_wp2_with fail
        refine (R2.out _).mono ?_
        rintro e w7 ⟨rfl, hb7⟩
        have hS7 := kept_call40 hb7 hS6
        clear hb7 hS6
        go_wp2_with fail
        refine (R3.out _).mono ?_
        rintro e w8 ⟨rfl, hb8⟩
        have hS8 := kept_call40 hb8 hS7
        clear hb8 hS7
        go_wp2_with fail
        refine (R4.out _).mono ?_
        rintro e w9 ⟨rfl, hb9⟩
        have hS9 := kept_call40 hb9 hS8
        clear hb9 hS8
        go_wp2_with fail
        refine (R5.out _).mono ?_
        rintro e w10 ⟨rfl, hb10⟩
        have hS10 := kept_call40 hb10 hS9
        clear hb10 hS9
        go_wp2_with fail
        go_ret
        exact ⟨rfl, kept_below hS10.2⟩
      · go_wp2_with fail
        refine (HT.out _).mono ?_
        rintro e w5 ⟨rfl, hb5⟩
        have hS2 := kept_call16 hb5 hS1
        clear hb5 hS1
        have z1 : w.heap.size < w5.heap.size := World.block_lt_of_cell? _ _ hS2.1.1
        have z2 : w2.heap.size < w5.heap.size := World.block_lt_of_cell? _ _ hS2.1.2.2.2.2.2.2.2.2.1
        have z1a : w.heap.size < w5.heap.size + 1 := by omega
        have z1b : w.heap.size < w5.heap.size + 1 + 1 := by omega
        have z2a : w2.heap.size < w5.heap.size + 1 := by omega
        have z2b : w2.heap.size < w5.heap.size + 1 + 1 := by omega
        obtain ⟨g1, g2, g3⟩ := heap3 w5 (.cells (arr t) 24) (.cells (arr (put D 4 seq)) 22) (.cells (arr (put D 5 (v 5 + 1))) 22)
        have gB : Below w.heap.size w (((w5.alloc (.cells (arr t) 24)).alloc (.cells (arr (put D 4 seq)) 22)).alloc (.cells (arr (put D 5 (v 5 + 1))) 22)) := (((kept_below hS2.2).alloc (by omega) _).alloc (by simp; omega) _).alloc (by simp; omega) _
        have G := Lib.hid (And.intro g1 (And.intro g2 (And.intro g3 gB)))
        clear g1 g2 g3 gB
        go_wp2_with fail
        refine (R1.out _).mono ?_
        rintro e w6 ⟨rfl, hb6⟩
        have hS6 : (w6.cell? ⟨w.heap.size, 0, none⟩ = some (.int .i64 (v 0)) ∧ w6.cell? ⟨w.heap.size, 1, none⟩ = some (.int .i64 (v 1)) ∧ w6.cell? ⟨w.heap.size, 2, none⟩ = some (.int .i64 (v 2)) ∧ w6.cell? ⟨w.heap.size, 3, none⟩ = some (.int .i64 (v 3)) ∧ w6.cell? ⟨w.heap.size, 4, none⟩ = some (.int .i64 (v 4)) ∧ w6.cell? ⟨w.heap.size, 5, none⟩ = some (.int .i64 (v 5)) ∧ w6.cell? ⟨w.heap.size, 6, none⟩ = some (.int .i64 (v 6)) ∧ w6.cell? ⟨w.heap.size, 7, none⟩ = some (.int .i64 (v 7)) ∧ w6.cell? ⟨w2.heap.size, 0, none⟩ = some (.int .i64 (D 0)) ∧ w6.cell? ⟨w2.heap.size, 1, none⟩ = some (.int .i64 (D 1)) ∧ w6.cell? ⟨w2.heap.size, 2, none⟩ = some (.int .i64 (D 2)) ∧ w6.cell? ⟨w2.heap.size, 3, none⟩ = some (.int .i64 (D 3)) ∧ w6.cell? ⟨w2.heap.size, 4, none⟩ = some (.int .i64 (D 4)) ∧ w6.cell? ⟨w2.heap.size, 5, none⟩ = some (.int .i64 (D 5)) ∧ w6.cell? ⟨w2.heap.size, 6, none⟩ = some (.int .i64 (D 6)) ∧ w6.cell? ⟨w2.heap.size, 7, none⟩ = some (.int .i64 (D 7)) ∧ w6.cell? ⟨w5.heap.size, 0, none⟩ = some (.int .i64 (t 0)) ∧ w6.cell? ⟨w5.heap.size, 1, none⟩ = some (.int .i64 (t 1)) ∧ w6.cell? ⟨w5.heap.size, 2, none⟩ = some (.int .i64 (t 2)) ∧ w6.cell? ⟨w5.heap.size, 3, none⟩ = some (.int .i64 (t 3)) ∧ w6.cell? ⟨w5.heap.size, 4, none⟩ = some (.int .i64 (t 4)) ∧ w6.cell? ⟨w5.heap.size, 5, none⟩ = some (.int .i64 (t 5)) ∧ w6.cell? ⟨w5.heap.size, 6, none⟩ = some (.int .i64 (t 6)) ∧ w6.cell? ⟨w5.heap.size, 7, none⟩ = some (.int .i64 (t 7)) ∧ w6.cell? ⟨w5.heap.size + 1, 0, none⟩ = some (.int .i64 (N 0)) ∧ w6.cell? ⟨w5.heap.size + 1, 1, none⟩ = some (.int .i64 (N 1)) ∧ w6.cell? ⟨w5.heap.size + 1, 2, none⟩ = some (.int .i64 (N 2)) ∧ w6.cell? ⟨w5.heap.size + 1, 3, none⟩ = some (.int .i64 (N 3)) ∧ w6.cell? ⟨w5.heap.size + 1, 4, none⟩ = some (.int .i64 (N 4)) ∧ w6.cell? ⟨w5.heap.size + 1, 5, none⟩ = some (.int .i64 (N 5)) ∧ w6.cell? ⟨w5.heap.size + 1, 6, none⟩ = some (.int .i64 (N 6)) ∧ w6.cell? ⟨w5.heap.size + 1, 7, none⟩ = some (.int .i64 (N 7)) ∧ w6.cell? ⟨w5.heap.size + 1 + 1, 0, none⟩ = some (.int .i64 (Y 0)) ∧ w6.cell? ⟨w5.heap.size + 1 + 1, 1, none⟩ = some (.int .i64 (Y 1)) ∧ w6.cell? ⟨w5.heap.size + 1 + 1, 2, none⟩ = some (.int .i64 (Y 2)) ∧ w6.cell? ⟨w5.heap.size + 1 + 1, 3, none⟩ = some (.int .i64 (Y 3)) ∧ w6.cell? ⟨w5.heap.size + 1 + 1, 4, none⟩ = some (.int .i64 (Y 4)) ∧ w6.cell? ⟨w5.heap.size + 1 + 1, 5, none⟩ = some (.int .i64 (Y 5)) ∧ w6.cell? ⟨w5.heap.size + 1 + 1, 6, none⟩ = some (.int .i64 (Y 6)) ∧ w6.cell? ⟨w5.heap.size + 1 + 1, 7, none⟩ = some (.int .i64 (Y 7))) ∧ KeptFrom w w6 := by
          obtain ⟨g1, g2, g3, gB⟩ := G.out
          refine ⟨⟨cell_later hb6 (cell_in_alloc (cell_in_alloc (cell_in_alloc (hS2.1.1)))), cell_later hb6 (cell_in_alloc (cell_in_alloc (cell_in_alloc (hS2.1.2.1)))), cell_later hb6 (cell_in_alloc (cell_in_alloc (cell_in_alloc (hS2.1.2.2.1)))), cell_later hb6 (cell_in_alloc (cell_in_alloc (cell_in_alloc (hS2.1.2.2.2.1)))), cell_later hb6 (cell_in_alloc (cell_in_alloc (cell_in_alloc (hS2.1.2.2.2.2.1)))), cell_later hb6 (cell_in_alloc (cell_in_alloc (cell_in_alloc (hS2.1.2.2.2.2.2.1)))), cell_later hb6 (cell_in_alloc (cell_in_alloc (cell_in_alloc (hS2.1.2.2.2.2.2.2.1)))), cell_later hb6 (cell_in_alloc (cell_in_alloc (cell_in_alloc (hS2.1.2.2.2.2.2.2.2.1)))), cell_later hb6 (cell_in_alloc (cell_in_alloc (cell_in_alloc (hS2.1.2.2.2.2.2.2.2.2.1)))), cell_later hb6 (cell_in_alloc (cell_in_alloc (cell_in_alloc (hS2.1.2.2.2.2.2.2.2.2.2.1)))), cell_later hb6 (cell_in_alloc (cell_in_alloc (cell_in_alloc (hS2.1.2.2.2.2.2.2.2.2.2.2.1)))), cell_later hb6 (cell_in_alloc (cell_in_alloc (cell_in_alloc (hS2.1.2.2.2.2.2.2.2.2.2.2.2.1)))), cell_later hb6 (cell_in_alloc (cell_in_alloc (cell_in_alloc (hS2.1.2.2.2.2.2.2.2.2.2.2.2.2.1)))), cell_later hb6 (cell_in_alloc (cell_in_alloc (cell_in_alloc (hS2.1.2.2.2.2.2.2.2.2.2.2.2.2.2.1)))), cell_later hb6 (cell_in_alloc (cell_in_alloc (cell_in_alloc (hS2.1.2.2.2.2.2.2.2.2.2.2.2.2.2.2.1)))), cell_later hb6 (cell_in_alloc (cell_in_alloc (cell_in_alloc (hS2.1.2.2.2.2.2.2.2.2.2.2.2.2.2.2.2)))), cell_later hb6 (cell_arr g1 (show 0 < 8 by omega)), cell_later hb6 (cell_arr g1 (show 1 < 8 by omega)), cell_later hb6 (cell_arr g1 (show 2 < 8 by omega)), cell_later hb6 (cell_arr g1 (show 3 < 8 by omega)), cell_later hb6 (cell_arr g1 (show 4 < 8 by omega)), cell_later hb6 (cell_arr g1 (show 5 < 8 by omega)), cell_later hb6 (cell_arr g1 (show 6 < 8 by omega)), cell_later hb6 (cell_arr g1 (show 7 < 8 by omega)), by rw [HN.out]; exact cell_later hb6 (cell_arr g2 (show 0 < 8 by omega)), by rw [HN.out]; exact cell_later hb6 (cell_arr g2 (show 1 < 8 by omega)), by rw [HN.out]; exact cell_later hb6 (cell_arr g2 (show 2 < 8 by omega)), by rw [HN.out]; exact cell_later hb6 (cell_arr g2 (show 3 < 8 by omega)), by rw [HN.out]; exact cell_later hb6 (cell_arr g2 (show 4 < 8 by omega)), by rw [HN.out]; exact cell_later hb6 (cell_arr g2 (show 5 < 8 by omega)), by rw [HN.out]; exact cell_later hb6 (cell_arr g2 (show 6 < 8 by omega)), by rw [HN.out]; exact cell_later hb6 (cell_arr g2 (show 7 < 8 by omega)), by rw [HY.out]; exact cell_later hb6 (cell_arr g3 (show 0 < 8 by omega)), by rw [HY.out]; exact cell_later hb6 (cell_arr g3 (show 1 < 8 by omega)), by rw [HY.out]; exact cell_later hb6 (cell_arr g3 (show 2 < 8 by omega)), by rw [HY.out]; exact cell_later hb6 (cell_arr g3 (show 3 < 8 by omega)), by rw [HY.out]; exact cell_later hb6 (cell_arr g3 (show 4 < 8 by omega)), by rw [HY.out]; exact cell_later hb6 (cell_arr g3 (show 5 < 8 by omega)), by rw [HY.out]; exact cell_later hb6 (cell_arr g3 (show 6 < 8 by omega)), by rw [HY.out]; exact cell_later hb6 (cell_arr g3 (show 7 < 8 by omega))⟩, below_step gB hb6⟩
        clear hb6 hS2 z1 z2 z1a z1b z2a z2b G
        go_wp2_with fail
        refine (R2.out _).mono ?_
        rintro e w7 ⟨rfl, hb7⟩
        have hS7 := kept_call40 hb7 hS6
        clear hb7 hS6
        go_wp2_with fail
        refine (R3.out _).mono ?_
        rintro e w8 ⟨rfl, hb8⟩
        have hS8 := kept_call40 hb8 hS7
        clear hb8 hS7
        go_wp2_with fail
        refine (R4.out _).mono ?_
        rintro e w9 ⟨rfl, hb9⟩
        have hS9 := kept_call40 hb9 hS8
        clear hb9 hS8
        go_wp2_with fail
        refine (R5.out _).mono ?_
        rintro e w10 ⟨rfl, hb10⟩
        have hS10 := kept_call40 hb10 hS9
        clear hb10 hS9
        go_wp2_with fail
        go_ret
        exact ⟨rfl, kept_below hS10.2⟩
      · go_wp2_with fail
        refine (HT.out _).mono ?_
        rintro e w5 ⟨rfl, hb5⟩
        have hS2 := kept_call16 hb5 hS1
        clear hb5 hS1
        have z1 : w.heap.size < w5.heap.size := World.block_lt_of_cell? _ _ hS2.1.1
        have z2 : w2.heap.size < w5.heap.size := World.block_lt_of_cell? _ _ hS2.1.2.2.2.2.2.2.2.2.1
        have z1a : w.heap.size < w5.heap.size + 1 := by omega
        have z1b : w.heap.size < w5.heap.size + 1 + 1 := by omega
        have z2a : w2.heap.size < w5.heap.size + 1 := by omega
        have z2b : w2.heap.size < w5.heap.size + 1 + 1 := by omega
        obtain ⟨g1, g2, g3⟩ := heap3 w5 (.cells (arr t) 24) (.cells (arr (put D 5 seq)) 22) (.cells (arr (put D 6 (v 6 + 1))) 22)
        have gB : Below w.heap.size w (((w5.alloc (.cells (arr t) 24)).alloc (.cells (arr (put D 5 seq)) 22)).alloc (.cells (arr (put D 6 (v 6 + 1))) 22)) := (((kept_below hS2.2).alloc (by omega) _).alloc (by simp; omega) _).alloc (by simp; omega) _
        have G := Lib.hid (And.intro g1 (And.intro g2 (And.intro g3 gB)))
        clear g1 g2 g3 gB
        go_wp2_with fail
        refine (R1.out _).mono ?_
        rintro e w6 ⟨rfl, hb6⟩
        have hS6 : (w6.cell? ⟨w.heap.size, 0, none⟩ = some (.int .i64 (v 0)) ∧ w6.cell? ⟨w.heap.size, 1, none⟩ = some (.int .i64 (v 1)) ∧ w6.cell? ⟨w.heap.size, 2, none⟩ = some (.int .i64 (v 2)) ∧ w6.cell? ⟨w.heap.size, 3, none⟩ = some (.int .i64 (v 3)) ∧ w6.cell? ⟨w.heap.size, 4, none⟩ = some (.int .i64 (v 4)) ∧ w6.cell? ⟨w.heap.size, 5, none⟩ = some (.int .i64 (v 5)) ∧ w6.cell? ⟨w.heap.size, 6, none⟩ = some (.int .i64 (v 6)) ∧ w6.cell? ⟨w.heap.size, 7, none⟩ = some (.int .i64 (v 7)) ∧ w6.cell? ⟨w2.heap.size, 0, none⟩ = some (.int .i64 (D 0)) ∧ w6.cell? ⟨w2.heap.size, 1, none⟩ = some (.int .i64 (D 1)) ∧ w6.cell? ⟨w2.heap.size, 2, none⟩ = some (.int .i64 (D 2)) ∧ w6.cell? ⟨w2.heap.size, 3, none⟩ = some (.int .i64 (D 3)) ∧ w6.cell? ⟨w2.heap.size, 4, none⟩ = some (.int .i64 (D 4)) ∧ w6.cell? ⟨w2.heap.size, 5, none⟩ = some (.int .i64 (D 5)) ∧ w6.cell? ⟨w2.heap.size, 6, none⟩ = some (.int .i64 (D 6)) ∧ w6.cell? ⟨w2.heap.size, 7, none⟩ = some (.int .i64 (D 7)) ∧ w6.cell? ⟨w5.heap.size, 0, none⟩ = some (.int .i64 (t 0)) ∧ w6.cell? ⟨w5.heap.size, 1, none⟩ = some (.int .i64 (t 1)) ∧ w6.cell? ⟨w5.heap.size, 2, none⟩ = some (.int .i64 (t 2)) ∧ w6.cell? ⟨w5.heap.size, 3, none⟩ = some (.int .i64 (t 3)) ∧ w6.cell? ⟨w5.heap.size, 4, none⟩ = some (.int .i64 (t 4)) ∧ w6.cell? ⟨w5.heap.size, 5, none⟩ = some (.int .i64 (t 5)) ∧ w6.cell? ⟨w5.heap.size, 6, none⟩ = some (.int .i64 (t 6)) ∧ w6.cell? ⟨w5.heap.size, 7, none⟩ = some (.int .i64 (t 7)) ∧ w6.cell? ⟨w5.heap.size + 1, 0, none⟩ = some (.int .i64 (N 0)) ∧ w6.cell? ⟨w5.heap.size + 1, 1, none⟩ = some (.int .i64 (N 1)) ∧ w6.cell? ⟨w5.heap.size + 1, 2, none⟩ = some (.int .i64 (N 2)) ∧ w6.cell? ⟨w5.heap.size + 1, 3, none⟩ = some (.int .i64 (N 3)) ∧ w6.cell? ⟨w5.heap.size + 1, 4, none⟩ = some (.int .i64 (N 4)) ∧ w6.cell? ⟨w5.heap.size + 1, 5, none⟩ = some (.int .i64 (N 5)) ∧ w6.cell? ⟨w5.heap.size + 1, 6, none⟩ = some (.int .i64 (N 6)) ∧ w6.cell? ⟨w5.heap.size + 1, 7, none⟩ = some (.int .i64 (N 7)) ∧ w6.cell? ⟨w5.heap.size + 1 + 1, 0, none⟩ = some (.int .i64 (Y 0)) ∧ w6.cell? ⟨w5.heap.size + 1 + 1, 1, none⟩ = some (.int .i64 (Y 1)) ∧ w6.cell? ⟨w5.heap.size + 1 + 1, 2, none⟩ = some (.int .i64 (Y 2)) ∧ w6.cell? ⟨w5.heap.size + 1 + 1, 3, none⟩ = some (.int .i64 (Y 3)) ∧ w6.cell? ⟨w5.heap.size + 1 + 1, 4, none⟩ = some (.int .i64 (Y 4)) ∧ w6.cell? ⟨w5.heap.size + 1 + 1, 5, none⟩ = some (.int .i64 (Y 5)) ∧ w6.cell? ⟨w5.heap.size + 1 + 1, 6, none⟩ = some (.int .i64 (Y 6)) ∧ w6.cell? ⟨w5.heap.size + 1 + 1, 7, none⟩ = some (.int .i64 (Y 7))) ∧ KeptFrom w w6 := by
          obtain ⟨g1, g2, g3, gB⟩ := G.out
          refine ⟨⟨cell_later hb6 (cell_in_alloc (cell_in_alloc (cell_in_alloc (hS2.1.1)))), cell_later hb6 (cell_in_alloc (cell_in_alloc (cell_in_alloc (hS2.1.2.1)))), cell_later hb6 (cell_in_alloc (cell_in_alloc (cell_in_alloc (hS2.1.2.2.1)))), cell_later hb6 (cell_in_alloc (cell_in_alloc (cell_in_alloc (hS2.1.2.2.2.1)))), cell_later hb6 (cell_in_alloc (cell_in_alloc (cell_in_alloc (hS2.1.2.2.2.2.1)))), cell_later hb6 (cell_in_alloc (cell_in_alloc (cell_in_alloc (hS2.1.2.2.2.2.2.1)))), cell_later hb6 (cell_in_alloc (cell_in_alloc (cell_in_alloc (hS2.1.2.2.2.2.2.2.1)))), cell_later hb6 (cell_in_alloc (cell_in_alloc (cell_in_alloc (hS2.1.2.2.2.2.2.2.2.1)))), cell_later hb6 (cell_in_alloc (cell_in_alloc (cell_in_alloc (hS2.1.2.2.2.2.2.2.2.2.1)))), cell_later hb6 (cell_in_alloc (cell_in_alloc (cell_in_alloc (hS2.1.2.2.2.2.2.2.2.2.2.1)))), cell_later hb6 (cell_in_alloc (cell_in_alloc (cell_in_alloc (hS2.1.2.2.2.2.2.2.2.2.2.2.1)))), cell_later hb6 (cell_in_alloc (cell_in_alloc (cell_in_alloc (hS2.1.2.2.2.2.2.2.2.2.2.2.2.1)))), cell_later hb6 (cell_in_alloc (cell_in_alloc (cell_in_alloc (hS2.1.2.2.2.2.2.2.2.2.2.2.2.2.1)))), cell_later hb6 (cell_in_alloc (cell_in_alloc (cell_in_alloc (hS2.1.2.2.2.2.2.2.2.2.2.2.2.2.2.1)))), cell_later hb6 (cell_in_alloc (cell_in_alloc (cell_in_alloc (hS2.1.2.2.2.2.2.2.2.2.2.2.2.2.2.2.1)))), cell_later hb6 (cell_in_alloc (cell_in_alloc (cell_in_alloc (hS2.1.2.2.2.2.2.2.2.2.2.2.2.2.2.2.2)))), cell_later hb6 (cell_arr g1 (show 0 < 8 by omega)), cell_later hb6 (cell_arr g1 (show 1 < 8 by omega)), cell_later hb6 (cell_arr g1 (show 2 < 8 by omega)), cell_later hb6 (cell_arr g1 (show 3 < 8 by omega)), cell_later hb6 (cell_arr g1 (show 4 < 8 by omega)), cell_later hb6 (cell_arr g1 (show 5 < 8 by omega)), cell_later hb6 (cell_arr g1 (show 6 < 8 by omega)), cell_later hb6 (cell_arr g1 (show 7 < 8 by omega)), by rw [HN.out]; exact cell_later hb6 (cell_arr g2 (show 0 < 8 by omega)), by rw [HN.out]; exact cell_later hb6 (cell_arr g2 (show 1 < 8 by omega)), by rw [HN.out]; exact cell_later hb6 (cell_arr g2 (show 2 < 8 by omega)), by rw [HN.out]; exact cell_later hb6 (cell_arr g2 (show 3 < 8 by omega)), by rw [HN.out]; exact cell_later hb6 (cell_arr g2 (show 4 < 8 by omega)), by rw [HN.out]; exact cell_later hb6 (cell_arr g2 (show 5 < 8 by omega)), by rw [HN.out]; exact cell_later hb6 (cell_arr g2 (show 6 < 8 by omega)), by rw [HN.out]; exact cell_later hb6 (cell_arr g2 (show 7 < 8 by omega)), by rw [HY.out]; exact cell_later hb6 (cell_arr g3 (show 0 < 8 by omega)), by rw [HY.out]; exact cell_later hb6 (cell_arr g3 (show 1 < 8 by omega)), by rw [HY.out]; exact cell_later hb6 (cell_arr g3 (show 2 < 8 by omega)), by rw [HY.out]; exact cell_later hb6 (cell_arr g3 (show 3 < 8 by omega)), by rw [HY.out]; exact cell_later hb6 (cell_arr g3 (show 4 < 8 by omega)), by rw [HY.out]; exact cell_later hb6 (cell_arr g3 (show 5 < 8 by omega)), by rw [HY.out]; exact cell_later hb6 (cell_arr g3 (show 6 < 8 by omega)), by rw [HY.out]; exact cell_later hb6 (cell_arr g3 (show 7 < 8 by omega))⟩, below_step gB hb6⟩
        clear hb6 hS2 z1 z2 z1a z1b z2a z2b G
        go_wp2_with fail
        refine (R2.out _).mono ?_
        rintro e w7 ⟨rfl, hb7⟩
        have hS7 := kept_call40 hb7 hS6
        clear hb7 hS6
        go_wp2_with fail
        refine (R3.out _).mono ?_
        rintro e w8 ⟨rfl, hb8⟩
        have hS8 := kept_call40 hb8 hS7
        clear hb8 hS7
        go_wp2_with fail
        refine (R4.out _).mono ?_
        rintro e w9 ⟨rfl, hb9⟩
        have hS9 := kept_call40 hb9 hS8
        clear hb9 hS8
        go_wp2_with fail
        refine (R5.out _).mono ?_
        rintro e w10 ⟨rfl, hb10⟩
        have hS10 := kept_call40 hb10 hS9
        clear hb10 hS9
        go_wp2_with fail
        go_ret
        exact ⟨rfl, kept_below hS10.2⟩
      · go_wp2_with fail
        refine (HT.out _).mono ?_
        rintro e w5 ⟨rfl, hb5⟩
        have hS2 := kept_call16 hb5 hS1
        clear hb5 hS1
        have z1 : w.heap.size < w5.heap.size := World.block_lt_of_cell? _ _ hS2.1.1
        have z2 : w2.heap.size < w5.heap.size := World.block_lt_of_cell? _ _ hS2.1.2.2.2.2.2.2.2.2.1
        have z1a : w.heap.size < w5.heap.size + 1 := by omega
        have z1b : w.heap.size < w5.heap.size + 1 + 1 := by omega
        have z2a : w2.heap.size < w5.heap.size + 1 := by omega
        have z2b : w2.heap.size < w5.heap.size + 1 + 1 := by omega
        obtain ⟨g1, g2, g3⟩ := heap3 w5 (.cells (arr t) 24) (.cells (arr (put D 6 seq)) 22) (.cells (arr (put D 7 (v 7 + 1))) 22)
        have gB : Below w.heap.size w (((w5.alloc (.cells (arr t) 24)).alloc (.cells (arr (put D 6 seq)) 22)).alloc (.cells (arr (put D 7 (v 7 + 1))) 22)) := (((kept_below hS2.2).alloc (by omega) _).alloc (by simp; omega) _).alloc (by simp; omega) _
        have G := Lib.hid (And.intro g1 (And.intro g2 (And.intro g3 gB)))
        clear g1 g2 g3 gB
        go_wp2_with fail
        refine (R1.out _).mono ?_
        rintro e w6 ⟨rfl, hb6⟩
        have hS6 : (w6.cell? ⟨w.heap.size, 0, none⟩ = some (.int .i64 (v 0)) ∧ w6.cell? ⟨w.heap.size, 1, none⟩ = some (.int .i64 (v 1)) ∧ w6.cell? ⟨w.heap.size, 2, none⟩ = some (.int .i64 (v 2)) ∧ w6.cell? ⟨w.heap.size, 3, none⟩ = some (.int .i64 (v 3)) ∧ w6.cell? ⟨w.heap.size, 4, none⟩ = some (.int .i64 (v 4)) ∧ w6.cell? ⟨w.heap.size, 5, none⟩ = some (.int .i64 (v 5)) ∧ w6.cell? ⟨w.heap.size, 6, none⟩ = some (.int .i64 (v 6)) ∧ w6.cell? ⟨w.heap.size, 7, none⟩ = some (.int .i64 (v 7)) ∧ w6.cell? ⟨w2.heap.size, 0, none⟩ = some (.int .i64 (D 0)) ∧ w6.cell? ⟨w2.heap.size, 1, none⟩ = some (.int .i64 (D 1)) ∧ w6.cell? ⟨w2.heap.size, 2, none⟩ = some (.int .i64 (D 2)) ∧ w6.cell? ⟨w2.heap.size, 3, none⟩ = some (.int .i64 (D 3)) ∧ w6.cell? ⟨w2.heap.size, 4, none⟩ = some (.int .i64 (D 4)) ∧ w6.cell? ⟨w2.heap.size, 5, none⟩ = some (.int .i64 (D 5)) ∧ w6.cell? ⟨w2.heap.size, 6, none⟩ = some (.int .i64 (D 6)) ∧ w6.cell? ⟨w2.heap.size, 7, none⟩ = some (.int .i64 (D 7)) ∧ w6.cell? ⟨w5.heap.size, 0, none⟩ = some (.int .i64 (t 0)) ∧ w6.cell? ⟨w5.heap.size, 1, none⟩ = some (.int .i64 (t 1)) ∧ w6.cell? ⟨w5.heap.size, 2, none⟩ = some (.int .i64 (t 2)) ∧ w6.cell? ⟨w5.heap.size, 3, none⟩ = some (.int .i64 (t 3)) ∧ w6.cell? ⟨w5.heap.size, 4, none⟩ = some (.int .i64 (t 4)) ∧ w6.cell? ⟨w5.heap.size, 5, none⟩ = some (.int .i64 (t 5)) ∧ w6.cell? ⟨w5.heap.size, 6, none⟩ = some (.int .i64 (t 6)) ∧ w6.cell? ⟨w5.heap.size, 7, none⟩ = some (.int .i64 (t 7)) ∧ w6.cell? ⟨w5.heap.size + 1, 0, none⟩ = some (.int .i64 (N 0)) ∧ w6.cell? ⟨w5.heap.size + 1, 1, none⟩ = some (.int .i64 (N 1)) ∧ w6.cell? ⟨w5.heap.size + 1, 2, none⟩ = some (.int .i64 (N 2)) ∧ w6.cell? ⟨w5.heap.size + 1, 3, none⟩ = some (.int .i64 (N 3)) ∧ w6.cell? ⟨w5.heap.size + 1, 4, none⟩ = some (.int .i64 (N 4)) ∧ w6.cell? ⟨w5.heap.size + 1, 5, none⟩ = some (.int .i64 (N 5)) ∧ w6.cell? ⟨w5.heap.size + 1, 6, none⟩ = some (.int .i64 (N 6)) ∧ w6.cell? ⟨w5.heap.size + 1, 7, none⟩ = some (.int .i64 (N 7)) ∧ w6.cell? ⟨w5.heap.size + 1 + 1, 0, none⟩ = some (.int .i64 (Y 0)) ∧ w6.cell? ⟨w5.heap.size + 1 + 1, 1, none⟩ = some (.int .i64 (Y 1)) ∧ w6.cell? ⟨w5.heap.size + 1 + 1, 2, none⟩ = some (.int .i64 (Y 2)) ∧ w6.cell? ⟨w5.heap.size + 1 + 1, 3, none⟩ = some (.int .i64 (Y 3)) ∧ w6.cell? ⟨w5.heap.size + 1 + 1, 4, none⟩ = some (.int .i64 (Y 4)) ∧ w6.cell? ⟨w5.heap.size + 1 + 1, 5, none⟩ = some (.int .i64 (Y 5)) ∧ w6.cell? ⟨w5.heap.size + 1 + 1, 6, none⟩ = some (.int .i64 (Y 6)) ∧ w6.cell? ⟨w5.heap.size + 1 + 1, 7, none⟩ = some (.int .i64 (Y 7))) ∧ KeptFrom w w6 := by
          obtain ⟨g1, g2, g3, gB⟩ := G.out
          refine ⟨⟨cell_later hb6 (cell_in_alloc (cell_in_alloc (cell_in_alloc (hS2.1.1)))), cell_later hb6 (cell_in_alloc (cell_in_alloc (cell_in_alloc (hS2.1.2.1)))), cell_later hb6 (cell_in_alloc (cell_in_alloc (cell_in_alloc (hS2.1.2.2.1)))), cell_later hb6 (cell_in_alloc (cell_in_alloc (cell_in_alloc (hS2.1.2.2.2.1)))), cell_later hb6 (cell_in_alloc (cell_in_alloc (cell_in_alloc (hS2.1.2.2.2.2.1)))), cell_later hb6 (cell_in_alloc (cell_in_alloc (cell_in_alloc (hS2.1.2.2.2.2.2.1)))), cell_later hb6 (cell_in_alloc (cell_in_alloc (cell_in_alloc (hS2.1.2.2.2.2.2.2.1)))), cell_later hb6 (cell_in_alloc (cell_in_alloc (cell_in_alloc (hS2.1.2.2.2.2.2.2.2.1)))), cell_later hb6 (cell_in_alloc (cell_in_alloc (cell_in_alloc (hS2.1.2.2.2.2.2.2.2.2.1)))), cell_later hb6 (cell_in_alloc (cell_in_alloc (cell_in_alloc (hS2.1.2.2.2.2.2.2.2.2.2.1)))), cell_later hb6 (cell_in_alloc (cell_in_alloc (cell_in_alloc (hS2.1.2.2.2.2.2.2.2.2.2.2.1)))), cell_later hb6 (cell_in_alloc (cell_in_alloc (cell_in_alloc (hS2.1.2.2.2.2.2.2.2.2.2.2.2.1)))), cell_later hb6 (cell_in_alloc (cell_in_alloc (cell_in_alloc (hS2.1.2.2.2.2.2.2.2.2.2.2.2.2.1)))), cell_later hb6 (cell_in_alloc (cell_in_alloc (cell_in_alloc (hS2.1.2.2.2.2.2.2.2.2.2.2.2.2.2.1)))), cell_later hb6 (cell_in_alloc (cell_in_alloc (cell_in_alloc (hS2.1.2.2.2.2.2.2.2.2.2.2.2.2.2.2.1)))), cell_later hb6 (cell_in_alloc (cell_in_alloc (cell_in_alloc (hS2.1.2.2.2.2.2.2.2.2.2.2.2.2.2.2.2)))), cell_later hb6 (cell_arr g1 (show 0 < 8 by omega)), cell_later hb6 (cell_arr g1 (show 1 < 8 by omega)), cell_later hb6 (cell_arr g1 (show 2 < 8 by omega)), cell_later hb6 (cell_arr g1 (show 3 < 8 by omega)), cell_later hb6 (cell_arr g1 (show 4 < 8 by omega)), cell_later hb6 (cell_arr g1 (show 5 < 8 by omega)), cell_later hb6 (cell_arr g1 (show 6 < 8 by omega)), cell_later hb6 (cell_arr g1 (show 7 < 8 by omega)), by rw [HN.out]; exact cell_later hb6 (cell_arr g2 (show 0 < 8 by omega)), by rw [HN.out]; exact cell_later hb6 (cell_arr g2 (show 1 < 8 by omega)), by rw [HN.out]; exact cell_later hb6 (cell_arr g2 (show 2 < 8 by omega)), by rw [HN.out]; exact cell_later hb6 (cell_arr g2 (show 3 < 8 by omega)), by rw [HN.out]; exact cell_later hb6 (cell_arr g2 (show 4 < 8 by omega)), by rw [HN.out]; exact cell_later hb6 (cell_arr g2 (show 5 < 8 by omega)), by rw [HN.out]; exact cell_later hb6 (cell_arr g2 (show 6 < 8 by omega)), by rw [HN.out]; exact cell_later hb6 (cell_arr g2 (show 7 < 8 by omega)), by rw [HY.out]; exact cell_later hb6 (cell_arr g3 (show 0 < 8 by omega)), by rw [HY.out]; exact cell_later hb6 (cell_arr g3 (show 1 < 8 by omega)), by rw [HY.out]; exact cell_later hb6 (cell_arr g3 (show 2 < 8 by omega)), by rw [HY.out]; exact cell_later hb6 (cell_arr g3 (show 3 < 8 by omega)), by rw [HY.out]; exact cell_later hb6 (cell_arr g3 (show 4 < 8 by omega)), by rw [HY.out]; exact cell_later hb6 (cell_arr g3 (show 5 < 8 by omega)), by rw [HY.out]; exact cell_later hb6 (cell_arr g3 (show 6 < 8 by omega)), by rw [HY.out]; exact cell_later hb6 (cell_arr g3 (show 7 < 8 by omega))⟩, below_step gB hb6⟩
        clear hb6 hS2 z1 z2 z1a z1b z2a z2b G
        go_wp2_with fail
        refine (R2.out _).mono ?_
        rintro e w7 ⟨rfl, hb7⟩
        have hS7 := kept_call40 hb7 hS6
        clear hb7 hS6
        go_wp2_with fail
        refine (R3.out _).mono ?_
        rintro e w8 ⟨rfl, hb8⟩
        have hS8 := kept_call40 hb8 hS7
        clear hb8 hS7
        go_wp2_with fail
        refine (R4.out _).mono ?_
        rintro e w9 ⟨rfl, hb9⟩
        have hS9 := kept_call40 hb9 hS8
        clear hb9 hS8
        go_wp2_with fail
        refine (R5.out _).mono ?_
        rintro e w10 ⟨rfl, hb10⟩
        have hS10 := kept_call40 hb10 hS9
        clear hb10 hS9
        go_wp2_with fail
        go_ret
        exact ⟨rfl, kept_below hS10.2⟩
      · go_wp2_with fail
        refine (HT.out _).mono ?_
        rintro e w5 ⟨rfl, hb5⟩
        have hS2 := kept_call16 hb5 hS1
        clear hb5 hS1
        have z1 : w.heap.size < w5.heap.size := World.block_lt_of_cell? _ _ hS2.1.1
        have z2 : w2.heap.size < w5.heap.size := World.block_lt_of_cell? _ _ hS2.1.2.2.2.2.2.2.2.2.1
        have z1a : w.heap.size < w5.heap.size + 1 := by omega
        have z1b : w.heap.size < w5.heap.size + 1 + 1 := by omega
        have z2a : w2.heap.size < w5.heap.size + 1 := by omega
        have z2b : w2.heap.size < w5.heap.size + 1 + 1 := by omega
        obtain ⟨g1, g2, g3⟩ := heap3 w5 (.cells (arr t) 24) (.cells (arr (put D 7 seq)) 22) (.cells (arr (put D 0 (v 0 + 1))) 22)
        have gB : Below w.heap.size w (((w5.alloc (.cells (arr t) 24)).alloc (.cells (arr (put D 7 seq)) 22)).alloc (.cells (arr (put D 0 (v 0 + 1))) 22)) := (((kept_below hS2.2).alloc (by omega) _).alloc (by simp; omega) _).alloc (by simp; omega) _
        have G := Lib.hid (And.intro g1 (And.intro g2 (And.intro g3 gB)))
        clear g1 g2 g3 gB
        go_wp2_with fail
        refine (R1.out _).mono ?_
        rintro e w6 ⟨rfl, hb6⟩
        have hS6 : (w6.cell? ⟨w.heap.size, 0, none⟩ = some (.int .i64 (v 0)) ∧ w6.cell? ⟨w.heap.size, 1, none⟩ = some (.int .i64 (v 1)) ∧ w6.cell? ⟨w.heap.size, 2, none⟩ = some (.int .i64 (v 2)) ∧ w6.cell? ⟨w.heap.size, 3, none⟩ = some (.int .i64 (v 3)) ∧ w6.cell? ⟨w.heap.size, 4, none⟩ = some (.int .i64 (v 4)) ∧ w6.cell? ⟨w.heap.size, 5, none⟩ = some (.int .i64 (v 5)) ∧ w6.cell? ⟨w.heap.size, 6, none⟩ = some (.int .i64 (v 6)) ∧ w6.cell? ⟨w.heap.size, 7, none⟩ = some (.int .i64 (v 7)) ∧ w6.cell? ⟨w2.heap.size, 0, none⟩ = some (.int .i64 (D 0)) ∧ w6.cell? ⟨w2.heap.size, 1, none⟩ = some (.int .i64 (D 1)) ∧ w6.cell? ⟨w2.heap.size, 2, none⟩ = some (.int .i64 (D 2)) ∧ w6.cell? ⟨w2.heap.size, 3, none⟩ = some (.int .i64 (D 3)) ∧ w6.cell? ⟨w2.heap.size, 4, none⟩ = some (.int .i64 (D 4)) ∧ w6.cell? ⟨w2.heap.size, 5, none⟩ = some (.int .i64 (D 5)) ∧ w6.cell? ⟨w2.heap.size, 6, none⟩ = some (.int .i64 (D 6)) ∧ w6.cell? ⟨w2.heap.size, 7, none⟩ = some (.int .i64 (D 7)) ∧ w6.cell? ⟨w5.heap.size, 0, none⟩ = some (.int .i64 (t 0)) ∧ w6.cell? ⟨w5.heap.size, 1, none⟩ = some (.int .i64 (t 1)) ∧ w6.cell? ⟨w5.heap.size, 2, none⟩ = some (.int .i64 (t 2)) ∧ w6.cell? ⟨w5.heap.size, 3, none⟩ = some (.int .i64 (t 3)) ∧ w6.cell? ⟨w5.heap.size, 4, none⟩ = some (.int .i64 (t 4)) ∧ w6.cell? ⟨w5.heap.size, 5, none⟩ = some (.int .i64 (t 5)) ∧ w6.cell? ⟨w5.heap.size, 6, none⟩ = some (.int .i64 (t 6)) ∧ w6.cell? ⟨w5.heap.size, 7, none⟩ = some (.int .i64 (t 7)) ∧ w6.cell? ⟨w5.heap.size + 1, 0, none⟩ = some (.int .i64 (N 0)) ∧ w6.cell? ⟨w5.heap.size + 1, 1, none⟩ = some (.int .i64 (N 1)) ∧ w6.cell? ⟨w5.heap.size + 1, 2, none⟩ = some (.int .i64 (N 2)) ∧ w6.cell? ⟨w5.heap.size + 1, 3, none⟩ = some (.int .i64 (N 3)) ∧ w6.cell? ⟨w5.heap.size + 1, 4, none⟩ = some (.int .i64 (N 4)) ∧ w6.cell? ⟨w5.heap.size + 1, 5, none⟩ = some (.int .i64 (N 5)) ∧ w6.cell? ⟨w5.heap.size + 1, 6, none⟩ = some (.int .i64 (N 6)) ∧ w6.cell? ⟨w5.heap.size + 1, 7, none⟩ = some (.int .i64 (N 7)) ∧ w6.cell? ⟨w5.heap.size + 1 + 1, 0, none⟩ = some (.int .i64 (Y 0)) ∧ w6.cell? ⟨w5.heap.size + 1 + 1, 1, none⟩ = some (.int .i64 (Y 1)) ∧ w6.cell? ⟨w5.heap.size + 1 + 1, 2, none⟩ = some (.int .i64 (Y 2)) ∧ w6.cell? ⟨w5.heap.size + 1 + 1, 3, none⟩ = some (.int .i64 (Y 3)) ∧ w6.cell? ⟨w5.heap.size + 1 + 1, 4, none⟩ = some (.int .i64 (Y 4)) ∧ w6.cell? ⟨w5.heap.size + 1 + 1, 5, none⟩ = some (.int .i64 (Y 5)) ∧ w6.cell? ⟨w5.heap.size + 1 + 1, 6, none⟩ = some (.int .i64 (Y 6)) ∧ w6.cell? ⟨w5.heap.size + 1 + 1, 7, none⟩ = some (.int .i64 (Y 7))) ∧ KeptFrom w w6 := by
          obtain ⟨g1, g2, g3, gB⟩ := G.out
          refine ⟨⟨cell_later hb6 (cell_in_alloc (cell_in_alloc (cell_in_alloc (hS2.1.1)))), cell_later hb6 (cell_in_alloc (cell_in_alloc (cell_in_alloc (hS2.1.2.1)))), cell_later hb6 (cell_in_alloc (cell_in_alloc (cell_in_alloc (hS2.1.2.2.1)))), cell_later hb6 (cell_in_alloc (cell_in_alloc (cell_in_alloc (hS2.1.2.2.2.1)))), cell_later hb6 (cell_in_alloc (cell_in_alloc (cell_in_alloc (hS2.1.2.2.2.2.1)))), cell_later hb6 (cell_in_alloc (cell_in_alloc (cell_in_alloc (hS2.1.2.2.2.2.2.1)))), cell_later hb6 (cell_in_alloc (cell_in_alloc (cell_in_alloc (hS2.1.2.2.2.2.2.2.1)))), cell_later hb6 (cell_in_alloc (cell_in_alloc (cell_in_alloc (hS2.1.2.2.2.2.2.2.2.1)))), cell_later hb6 (cell_in_alloc (cell_in_alloc (cell_in_alloc (hS2.1.2.2.2.2.2.2.2.2.1)))), cell_later hb6 (cell_in_alloc (cell_in_alloc (cell_in_alloc (hS2.1.2.2.2.2.2.2.2.2.2.1)))), cell_later hb6 (cell_in_alloc (cell_in_alloc (cell_in_alloc (hS2.1.2.2.2.2.2.2.2.2.2.2.1)))), cell_later hb6 (cell_in_alloc (cell_in_alloc (cell_in_alloc (hS2.1.2.2.2.2.2.2.2.2.2.2.2.1)))), cell_later hb6 (cell_in_alloc (cell_in_alloc (cell_in_alloc (hS2.1.2.2.2.2.2.2.2.2.2.2.2.2.1)))), cell_later hb6 (cell_in_alloc (cell_in_alloc (cell_in_alloc (hS2.1.2.2.2.2.2.2.2.2.2.2.2.2.2.1)))), cell_later hb6 (cell_in_alloc (cell_in_alloc (cell_in_alloc (hS2.1.2.2.2.2.2.2.2.2.2.2.2.2.2.2.1)))), cell_later hb6 (cell_in_alloc (cell_in_alloc (cell_in_alloc (hS2.1.2.2.2.2.2.2.2.2.2.2.2.2.2.2.2)))), cell_later hb6 (cell_arr g1 (show 0 < 8 by omega)), cell_later hb6 (cell_arr g1 (show 1 < 8 by omega)), cell_later hb6 (cell_arr g1 (show 2 < 8 by omega)), cell_later hb6 (cell_arr g1 (show 3 < 8 by omega)), cell_later hb6 (cell_arr g1 (show 4 < 8 by omega)), cell_later hb6 (cell_arr g1 (show 5 < 8 by omega)), cell_later hb6 (cell_arr g1 (show 6 < 8 by omega)), cell_later hb6 (cell_arr g1 (show 7 < 8 by omega)), by rw [HN.out]; exact cell_later hb6 (cell_arr g2 (show 0 < 8 by omega)), by rw [HN.out]; exact cell_later hb6 (cell_arr g2 (show 1 < 8 by omega)), by rw [HN.out]; exact cell_later hb6 (cell_arr g2 (show 2 < 8 by omega)), by rw [HN.out]; exact cell_later hb6 (cell_arr g2 (show 3 < 8 by omega)), by rw [HN.out]; exact cell_later hb6 (cell_arr g2 (show 4 < 8 by omega)), by rw [HN.out]; exact cell_later hb6 (cell_arr g2 (show 5 < 8 by omega)), by rw [HN.out]; exact cell_later hb6 (cell_arr g2 (show 6 < 8 by omega)), by rw [HN.out]; exact cell_later hb6 (cell_arr g2 (show 7 < 8 by omega)), by rw [HY.out]; exact cell_later hb6 (cell_arr g3 (show 0 < 8 by omega)), by rw [HY.out]; exact cell_later hb6 (cell_arr g3 (show 1 < 8 by omega)), by rw [HY.out]; exact cell_later hb6 (cell_arr g3 (show 2 < 8 by omega)), by rw [HY.out]; exact cell_later hb6 (cell_arr g3 (show 3 < 8 by omega)), by rw [HY.out]; exact cell_later hb6 (cell_arr g3 (show 4 < 8 by omega)), by rw [HY.out]; exact cell_later hb6 (cell_arr g3 (show 5 < 8 by omega)), by rw [HY.out]; exact cell_later hb6 (cell_arr g3 (show 6 < 8 by omega)), by rw [HY.out]; exact cell_later hb6 (cell_arr g3 (show 7 < 8 by omega))⟩, below_step gB hb6⟩
        clear hb6 hS2 z1 z2 z1a z1b z2a z2b G
        go_wp2_with fail
        refine (R2.out _).mono ?_
        rintro e w7 ⟨rfl, hb7⟩
        have hS7 := kept_call40 hb7 hS6
        clear hb7 hS6
        go_wp2_with fail
        refine (R3.out _).mono ?_
        rintro e w8 ⟨rfl, hb8⟩
        have hS8 := kept_call40 hb8 hS7
        clear hb8 hS7
        go_wp2_with fail
        refine (R4.out _).mono ?_
        rintro e w9 ⟨rfl, hb9⟩
        have hS9 := kept_call40 hb9 hS8
        clear hb9 hS8
        go_wp2_with fail
        refine (R5.out _).mono ?_
        rintro e w10 ⟨rfl, hb10⟩
        have hS10 := kept_call40 hb10 hS9
        clear hb10 hS9
        go_wp2_with fail
        go_ret
        exact ⟨rfl, kept_below hS10.2⟩

theorem walk0 (H : VecHave) (a0 : Nat → Int) (a1 : Int) (a2 : Nat → Int) (w0 : ∀ i, IsI64 (a0 i)) (w1 : (Lit.int .u8 a1).wf = true) (w2 : ∀ i, 0 ≤ a2 i ∧ a2 i ≤ 255) (w : World) :
    Calls Try.prog 5 #[.agg (arr a0), .int .u8 a1, .agg (arrB a2)] w fun e w' => e = .returned (.bool true) ∧ Below w.heap.size w w' := by
  cases hm : mayV a0 with
  | false => exact may_not H a0 a2 a1 hm w
  | true =>
    have hv := mayV_iff.1 hm
    obtain ⟨r, rfl, hr⟩ := nat_of_int (bounds_u8 w1)
    obtain ⟨k, hk⟩ : ∃ k, k = r % 8 := ⟨_, rfl⟩
    have hk8 : k < 8 := by omega
    obtain ⟨n, hn⟩ : ∃ n, n = (k + 1) % 8 := ⟨_, rfl⟩
    have hn8 : n < 8 := by omega
    have hnk : n ≠ k := by omega
    obtain ⟨D, hD⟩ : ∃ D : Nat → Int, D = fun i => if i = k then a0 k else if i < 8 then a0 i - a2 i else 0 := ⟨_, rfl⟩
    have hDk : D k = a0 k := by rw [hD]; exact if_pos rfl
    have hDi : ∀ i, i < 8 → i ≠ k → D i = a0 i - a2 i := fun i h8 h => by rw [hD]; show (if i = k then _ else if i < 8 then _ else _) = _; rw [if_neg h, if_pos h8]
    have bk := hv k hk8
    have bn := hv n hn8
    have iD : ∀ i, IsI64 (D i) := fun i => by
      by_cases h : i = k
      · rw [h, hDk]; exact w0 k
      · by_cases h8 : i < 8
        · have := hv i h8; have := w2 i
          rw [hDi i h8 h]; unfold IsI64; omega
        · rw [hD]; show IsI64 (if i = k then _ else if i < 8 then _ else _)
          rw [if_neg h, if_neg h8]; unfold IsI64; omega
    have iP : ∀ (u : Nat → Int) (j : Nat) (x : Int), (∀ i, IsI64 (u i)) → IsI64 x → ∀ i, IsI64 (put u j x i) := fun u j x hu hx i => by
      unfold put
      split
      · exact hx
      · exact hu i
    have is1 : IsI64 (a0 k + 1) := by unfold IsI64; omega
    have is2 : IsI64 (a0 k + 1 + 1) := by unfold IsI64; omega
    have in1 : IsI64 (a0 n + 1) := by unfold IsI64; omega
    have ik : IsI64 (k : Int) := by unfold IsI64; omega
    have pk : ∀ (u : Nat → Int) (x : Int), put u k x k = x := fun u x => if_pos rfl
    have po : ∀ (u : Nat → Int) (j i : Nat) (x : Int), i ≠ j → put u j x i = u i := fun u j i x h => if_neg h
    have yes : ∀ (u : Nat → Int) (s : Int) (d : Nat → Int) (b : Bool), (∀ i, IsI64 (u i)) → (∀ i, IsI64 (d i)) → IsI64 s → readyV u k s d = b → ∀ W : World, Calls Try.prog 23 #[.agg (arr u), .int .i64 (k : Int), .int .i64 s, .agg (arr d)] W fun e w' => e = .returned (.bool b) ∧ Below W.heap.size W w' := fun u s d b hu hd hs h W => by
      have q := H.ready u k s d W hu hd ik hs
      rw [h] at q
      exact q
    have hT : ∀ W : World, Calls Try.prog 9 #[.agg (arr a0), .int .i64 (k : Int)] W fun e w' => e = .returned (.tuple #[.agg (arr (put a0 k (a0 k + 1))), .int .i64 (a0 k + 1)]) ∧ Below W.heap.size W w' := fun W => by
      have q := H.tickIn a0 k W hk8
      rw [show wrap64 (a0 k + 1) = a0 k + 1 from IntWalk.wrap64_in _ ⟨by omega, by omega⟩] at q
      exact q
    have hM : ∀ W : World, Calls Try.prog 13 #[.agg (arr a0)] W fun e w' => e = .returned (.bool true) ∧ Below W.heap.size W w' := fun W => by
      have q := H.may a0 W
      rw [hm] at q
      exact q
    have no : ∀ (u : Nat → Int) (s : Int) (d : Nat → Int), ¬ (u k = s - 1) → readyV u k s d = false := fun u s d h => by
      rw [← Bool.not_eq_true, readyV_iff]
      intro e
      exact h (by have := e.1.2.2.2.1; simpa using this)
    refine core H a0 a2 D (put a0 k (a0 k + 1)) (put D k (a0 k + 1)) (put D n (a0 n + 1)) r k (a0 k + 1) hk8 (by omega) hr hv w2 hDk hDi ⟨by omega, by omega⟩ rfl (by rw [hn]) w hM hT
      (yes _ _ _ _ w0 iD is1 ?_) (yes _ _ _ _ (iP _ _ _ w0 is1) iD is1 ?_) (yes _ _ _ _ (iP _ _ _ w0 is1) (iP _ _ _ iD is1) is2 ?_) (yes _ _ _ _ w0 (iP _ _ _ iD in1) is1 ?_) (yes _ _ _ _ w0 (iP _ _ _ iD is1) is2 ?_)
    · rw [readyV_iff]
      refine ⟨⟨by omega, by omega, by omega, ?_, ?_⟩, fun i hi hne => ?_⟩
      · rw [Int.toNat_natCast]; omega
      · rw [Int.toNat_natCast, hDk]; omega
      · rw [Int.toNat_natCast] at hne
        have := w2 i
        rw [hDi i hi hne]; omega
    · exact no _ _ _ (by rw [pk]; omega)
    · rw [readyV_iff]
      refine ⟨⟨by omega, by omega, by omega, ?_, ?_⟩, fun i hi hne => ?_⟩
      · rw [Int.toNat_natCast, pk]; omega
      · rw [Int.toNat_natCast, pk]; omega
      · rw [Int.toNat_natCast] at hne
        have := w2 i
        rw [po _ _ _ _ hne, po _ _ _ _ hne, hDi i hi hne]; omega
    · rw [← Bool.not_eq_true, readyV_iff]
      intro e
      have h := e.2 n hn8 (by rw [Int.toNat_natCast]; exact hnk)
      rw [show put D n (a0 n + 1) n = a0 n + 1 from if_pos rfl] at h
      omega
    · exact no _ _ _ (by omega)

end Go.Proofs.Ytonpafakhbinmaa.lawVectorNext
