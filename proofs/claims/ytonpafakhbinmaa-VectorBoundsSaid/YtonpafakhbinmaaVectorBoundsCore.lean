/-
  What is joined covers both, and is covered by whatever covers both; what is met is covered by both, and covers whatever both cover; two that cover each other are the same: for all vectors.
-/
import Derived.Test.YtonpafakhbinmaaVecHave
import Derived.Test.YtonpafakhbinmaaVecEq
import Derived.Test.YtonpafakhbinmaaVecKept
import Derived.ProofKit
import Derived.OpenShut
import Derived.Test.YtonpafakhbinmaaLater
import Derived.Deep.DeepCutAuto
namespace Go.Proofs.Ytonpafakhbinmaa.lawVectorBounds
open Go.RowKit VecMath PackMath

theorem kept_drew {w W : World} (h : KeptFrom w W) : KeptFrom w W.drew := (kept_below h).drew

set_option maxRecDepth 100000 in
set_option maxHeartbeats 6400000 in
theorem core (H : VecHave) (a b c j m : Nat → Int) (ca cb ac bc d k u v : Bool) (hd : d = (ca && cb)) (hk : k = (ac && bc)) (hq : eqV a b = (u && v)) (w : World)
    (HJ : Hid (∀ W : World, Calls Try.prog 19 #[.agg #[.int .i64 (a 0), .int .i64 (a 1), .int .i64 (a 2), .int .i64 (a 3), .int .i64 (a 4), .int .i64 (a 5), .int .i64 (a 6), .int .i64 (a 7)], .agg #[.int .i64 (b 0), .int .i64 (b 1), .int .i64 (b 2), .int .i64 (b 3), .int .i64 (b 4), .int .i64 (b 5), .int .i64 (b 6), .int .i64 (b 7)]] W fun e w' => e = .returned (.agg #[.int .i64 (j 0), .int .i64 (j 1), .int .i64 (j 2), .int .i64 (j 3), .int .i64 (j 4), .int .i64 (j 5), .int .i64 (j 6), .int .i64 (j 7)]) ∧ Below W.heap.size W w'))
    (HK : Hid (∀ W : World, Calls Try.prog 21 #[.agg #[.int .i64 (a 0), .int .i64 (a 1), .int .i64 (a 2), .int .i64 (a 3), .int .i64 (a 4), .int .i64 (a 5), .int .i64 (a 6), .int .i64 (a 7)], .agg #[.int .i64 (b 0), .int .i64 (b 1), .int .i64 (b 2), .int .i64 (b 3), .int .i64 (b 4), .int .i64 (b 5), .int .i64 (b 6), .int .i64 (b 7)]] W fun e w' => e = .returned (.agg #[.int .i64 (m 0), .int .i64 (m 1), .int .i64 (m 2), .int .i64 (m 3), .int .i64 (m 4), .int .i64 (m 5), .int .i64 (m 6), .int .i64 (m 7)]) ∧ Below W.heap.size W w'))
    (Cca : Hid (∀ W : World, Calls Try.prog 15 #[.agg #[.int .i64 (c 0), .int .i64 (c 1), .int .i64 (c 2), .int .i64 (c 3), .int .i64 (c 4), .int .i64 (c 5), .int .i64 (c 6), .int .i64 (c 7)], .agg #[.int .i64 (a 0), .int .i64 (a 1), .int .i64 (a 2), .int .i64 (a 3), .int .i64 (a 4), .int .i64 (a 5), .int .i64 (a 6), .int .i64 (a 7)]] W fun e w' => e = .returned (.bool ca) ∧ Below W.heap.size W w'))
    (Ccb : Hid (∀ W : World, Calls Try.prog 15 #[.agg #[.int .i64 (c 0), .int .i64 (c 1), .int .i64 (c 2), .int .i64 (c 3), .int .i64 (c 4), .int .i64 (c 5), .int .i64 (c 6), .int .i64 (c 7)], .agg #[.int .i64 (b 0), .int .i64 (b 1), .int .i64 (b 2), .int .i64 (b 3), .int .i64 (b 4), .int .i64 (b 5), .int .i64 (b 6), .int .i64 (b 7)]] W fun e w' => e = .returned (.bool cb) ∧ Below W.heap.size W w'))
    (Cac : Hid (∀ W : World, Calls Try.prog 15 #[.agg #[.int .i64 (a 0), .int .i64 (a 1), .int .i64 (a 2), .int .i64 (a 3), .int .i64 (a 4), .int .i64 (a 5), .int .i64 (a 6), .int .i64 (a 7)], .agg #[.int .i64 (c 0), .int .i64 (c 1), .int .i64 (c 2), .int .i64 (c 3), .int .i64 (c 4), .int .i64 (c 5), .int .i64 (c 6), .int .i64 (c 7)]] W fun e w' => e = .returned (.bool ac) ∧ Below W.heap.size W w'))
    (Cbc : Hid (∀ W : World, Calls Try.prog 15 #[.agg #[.int .i64 (b 0), .int .i64 (b 1), .int .i64 (b 2), .int .i64 (b 3), .int .i64 (b 4), .int .i64 (b 5), .int .i64 (b 6), .int .i64 (b 7)], .agg #[.int .i64 (c 0), .int .i64 (c 1), .int .i64 (c 2), .int .i64 (c 3), .int .i64 (c 4), .int .i64 (c 5), .int .i64 (c 6), .int .i64 (c 7)]] W fun e w' => e = .returned (.bool bc) ∧ Below W.heap.size W w'))
    (Cja : Hid (∀ W : World, Calls Try.prog 15 #[.agg #[.int .i64 (j 0), .int .i64 (j 1), .int .i64 (j 2), .int .i64 (j 3), .int .i64 (j 4), .int .i64 (j 5), .int .i64 (j 6), .int .i64 (j 7)], .agg #[.int .i64 (a 0), .int .i64 (a 1), .int .i64 (a 2), .int .i64 (a 3), .int .i64 (a 4), .int .i64 (a 5), .int .i64 (a 6), .int .i64 (a 7)]] W fun e w' => e = .returned (.bool true) ∧ Below W.heap.size W w'))
    (Cjb : Hid (∀ W : World, Calls Try.prog 15 #[.agg #[.int .i64 (j 0), .int .i64 (j 1), .int .i64 (j 2), .int .i64 (j 3), .int .i64 (j 4), .int .i64 (j 5), .int .i64 (j 6), .int .i64 (j 7)], .agg #[.int .i64 (b 0), .int .i64 (b 1), .int .i64 (b 2), .int .i64 (b 3), .int .i64 (b 4), .int .i64 (b 5), .int .i64 (b 6), .int .i64 (b 7)]] W fun e w' => e = .returned (.bool true) ∧ Below W.heap.size W w'))
    (Ccj : Hid (∀ W : World, Calls Try.prog 15 #[.agg #[.int .i64 (c 0), .int .i64 (c 1), .int .i64 (c 2), .int .i64 (c 3), .int .i64 (c 4), .int .i64 (c 5), .int .i64 (c 6), .int .i64 (c 7)], .agg #[.int .i64 (j 0), .int .i64 (j 1), .int .i64 (j 2), .int .i64 (j 3), .int .i64 (j 4), .int .i64 (j 5), .int .i64 (j 6), .int .i64 (j 7)]] W fun e w' => e = .returned (.bool d) ∧ Below W.heap.size W w'))
    (Cam : Hid (∀ W : World, Calls Try.prog 15 #[.agg #[.int .i64 (a 0), .int .i64 (a 1), .int .i64 (a 2), .int .i64 (a 3), .int .i64 (a 4), .int .i64 (a 5), .int .i64 (a 6), .int .i64 (a 7)], .agg #[.int .i64 (m 0), .int .i64 (m 1), .int .i64 (m 2), .int .i64 (m 3), .int .i64 (m 4), .int .i64 (m 5), .int .i64 (m 6), .int .i64 (m 7)]] W fun e w' => e = .returned (.bool true) ∧ Below W.heap.size W w'))
    (Cbm : Hid (∀ W : World, Calls Try.prog 15 #[.agg #[.int .i64 (b 0), .int .i64 (b 1), .int .i64 (b 2), .int .i64 (b 3), .int .i64 (b 4), .int .i64 (b 5), .int .i64 (b 6), .int .i64 (b 7)], .agg #[.int .i64 (m 0), .int .i64 (m 1), .int .i64 (m 2), .int .i64 (m 3), .int .i64 (m 4), .int .i64 (m 5), .int .i64 (m 6), .int .i64 (m 7)]] W fun e w' => e = .returned (.bool true) ∧ Below W.heap.size W w'))
    (Cmc : Hid (∀ W : World, Calls Try.prog 15 #[.agg #[.int .i64 (m 0), .int .i64 (m 1), .int .i64 (m 2), .int .i64 (m 3), .int .i64 (m 4), .int .i64 (m 5), .int .i64 (m 6), .int .i64 (m 7)], .agg #[.int .i64 (c 0), .int .i64 (c 1), .int .i64 (c 2), .int .i64 (c 3), .int .i64 (c 4), .int .i64 (c 5), .int .i64 (c 6), .int .i64 (c 7)]] W fun e w' => e = .returned (.bool k) ∧ Below W.heap.size W w'))
    (Cab : Hid (∀ W : World, Calls Try.prog 15 #[.agg #[.int .i64 (a 0), .int .i64 (a 1), .int .i64 (a 2), .int .i64 (a 3), .int .i64 (a 4), .int .i64 (a 5), .int .i64 (a 6), .int .i64 (a 7)], .agg #[.int .i64 (b 0), .int .i64 (b 1), .int .i64 (b 2), .int .i64 (b 3), .int .i64 (b 4), .int .i64 (b 5), .int .i64 (b 6), .int .i64 (b 7)]] W fun e w' => e = .returned (.bool u) ∧ Below W.heap.size W w'))
    (Cba : Hid (∀ W : World, Calls Try.prog 15 #[.agg #[.int .i64 (b 0), .int .i64 (b 1), .int .i64 (b 2), .int .i64 (b 3), .int .i64 (b 4), .int .i64 (b 5), .int .i64 (b 6), .int .i64 (b 7)], .agg #[.int .i64 (a 0), .int .i64 (a 1), .int .i64 (a 2), .int .i64 (a 3), .int .i64 (a 4), .int .i64 (a 5), .int .i64 (a 6), .int .i64 (a 7)]] W fun e w' => e = .returned (.bool v) ∧ Below W.heap.size W w')) :
    Calls Try.prog 4 #[.agg #[.int .i64 (a 0), .int .i64 (a 1), .int .i64 (a 2), .int .i64 (a 3), .int .i64 (a 4), .int .i64 (a 5), .int .i64 (a 6), .int .i64 (a 7)], .agg #[.int .i64 (b 0), .int .i64 (b 1), .int .i64 (b 2), .int .i64 (b 3), .int .i64 (b 4), .int .i64 (b 5), .int .i64 (b 6), .int .i64 (b 7)], .agg #[.int .i64 (c 0), .int .i64 (c 1), .int .i64 (c 2), .int .i64 (c 3), .int .i64 (c 4), .int .i64 (c 5), .int .i64 (c 6), .int .i64 (c 7)]] w fun e w' => e = .returned (.bool true) ∧ Below w.heap.size w w' := by
  have EE : Hid (∀ W : World, (Op.equalIn 10000 22 (.agg #[.int .i64 (a 0), .int .i64 (a 1), .int .i64 (a 2), .int .i64 (a 3), .int .i64 (a 4), .int .i64 (a 5), .int .i64 (a 6), .int .i64 (a 7)]) (.agg #[.int .i64 (b 0), .int .i64 (b 1), .int .i64 (b 2), .int .i64 (b 3), .int .i64 (b 4), .int .i64 (b 5), .int .i64 (b 6), .int .i64 (b 7)])).run Try.prog W = .ok (u && v) W) := fun W => by rw [← hq]; exact run_eqA a b W
  have HD := Lib.hid hd
  have HKK := Lib.hid hk
  clear hd hk hq
  go_enter Try.func4, Try.ntmps4
  go_wp2_with fail
  refine (H.shown _).mono ?_
  rintro e w1 ⟨rfl, hb1⟩
  have hS1 : (w1.cell? ⟨w.heap.size, 0, none⟩ = some (.int .i64 (a 0)) ∧ w1.cell? ⟨w.heap.size, 1, none⟩ = some (.int .i64 (a 1)) ∧ w1.cell? ⟨w.heap.size, 2, none⟩ = some (.int .i64 (a 2)) ∧ w1.cell? ⟨w.heap.size, 3, none⟩ = some (.int .i64 (a 3)) ∧ w1.cell? ⟨w.heap.size, 4, none⟩ = some (.int .i64 (a 4)) ∧ w1.cell? ⟨w.heap.size, 5, none⟩ = some (.int .i64 (a 5)) ∧ w1.cell? ⟨w.heap.size, 6, none⟩ = some (.int .i64 (a 6)) ∧ w1.cell? ⟨w.heap.size, 7, none⟩ = some (.int .i64 (a 7)) ∧ w1.cell? ⟨w.heap.size + 1, 0, none⟩ = some (.int .i64 (b 0)) ∧ w1.cell? ⟨w.heap.size + 1, 1, none⟩ = some (.int .i64 (b 1)) ∧ w1.cell? ⟨w.heap.size + 1, 2, none⟩ = some (.int .i64 (b 2)) ∧ w1.cell? ⟨w.heap.size + 1, 3, none⟩ = some (.int .i64 (b 3)) ∧ w1.cell? ⟨w.heap.size + 1, 4, none⟩ = some (.int .i64 (b 4)) ∧ w1.cell? ⟨w.heap.size + 1, 5, none⟩ = some (.int .i64 (b 5)) ∧ w1.cell? ⟨w.heap.size + 1, 6, none⟩ = some (.int .i64 (b 6)) ∧ w1.cell? ⟨w.heap.size + 1, 7, none⟩ = some (.int .i64 (b 7)) ∧ w1.cell? ⟨w.heap.size + 1 + 1, 0, none⟩ = some (.int .i64 (c 0)) ∧ w1.cell? ⟨w.heap.size + 1 + 1, 1, none⟩ = some (.int .i64 (c 1)) ∧ w1.cell? ⟨w.heap.size + 1 + 1, 2, none⟩ = some (.int .i64 (c 2)) ∧ w1.cell? ⟨w.heap.size + 1 + 1, 3, none⟩ = some (.int .i64 (c 3)) ∧ w1.cell? ⟨w.heap.size + 1 + 1, 4, none⟩ = some (.int .i64 (c 4)) ∧ w1.cell? ⟨w.heap.size + 1 + 1, 5, none⟩ = some (.int .i64 (c 5)) ∧ w1.cell? ⟨w.heap.size + 1 + 1, 6, none⟩ = some (.int .i64 (c 6)) ∧ w1.cell? ⟨w.heap.size + 1 + 1, 7, none⟩ = some (.int .i64 (c 7))) ∧ KeptFrom w w1 := by
    obtain ⟨q1, q2, q3⟩ := heap3 w (.cells (arr a) 22) (.cells (arr b) 22) (.cells (arr c) 22)
    have A1 : Below w.heap.size w w1 := below_step ((((Below.refl _ _).alloc (Nat.le_refl _) _).alloc (by simp) _).alloc (by simp; omega) _) hb1
    exact ⟨⟨cell_later hb1 (cell_arr q1 (show 0 < 8 by omega)), cell_later hb1 (cell_arr q1 (show 1 < 8 by omega)), cell_later hb1 (cell_arr q1 (show 2 < 8 by omega)), cell_later hb1 (cell_arr q1 (show 3 < 8 by omega)), cell_later hb1 (cell_arr q1 (show 4 < 8 by omega)), cell_later hb1 (cell_arr q1 (show 5 < 8 by omega)), cell_later hb1 (cell_arr q1 (show 6 < 8 by omega)), cell_later hb1 (cell_arr q1 (show 7 < 8 by omega)), cell_later hb1 (cell_arr q2 (show 0 < 8 by omega)), cell_later hb1 (cell_arr q2 (show 1 < 8 by omega)), cell_later hb1 (cell_arr q2 (show 2 < 8 by omega)), cell_later hb1 (cell_arr q2 (show 3 < 8 by omega)), cell_later hb1 (cell_arr q2 (show 4 < 8 by omega)), cell_later hb1 (cell_arr q2 (show 5 < 8 by omega)), cell_later hb1 (cell_arr q2 (show 6 < 8 by omega)), cell_later hb1 (cell_arr q2 (show 7 < 8 by omega)), cell_later hb1 (cell_arr q3 (show 0 < 8 by omega)), cell_later hb1 (cell_arr q3 (show 1 < 8 by omega)), cell_later hb1 (cell_arr q3 (show 2 < 8 by omega)), cell_later hb1 (cell_arr q3 (show 3 < 8 by omega)), cell_later hb1 (cell_arr q3 (show 4 < 8 by omega)), cell_later hb1 (cell_arr q3 (show 5 < 8 by omega)), cell_later hb1 (cell_arr q3 (show 6 < 8 by omega)), cell_later hb1 (cell_arr q3 (show 7 < 8 by omega))⟩, A1⟩
  clear hb1
  have hz1 : w.heap.size + 1 + 1 < w1.heap.size := World.block_lt_of_cell? _ _ hS1.1.2.2.2.2.2.2.2.2.2.2.2.2.2.2.2.2.1
  have hy1 : w.heap.size + 1 < w1.heap.size := by omega
  have hx1 : w.heap.size < w1.heap.size := by omega
  go_wp2_with fail
  refine (HJ.out _).mono ?_
  rintro e w2 ⟨rfl, hb2⟩
  have hS2 := kept_call24 hb2 hS1
  clear hb2 hS1 hz1 hy1 hx1
  have hz2 : w.heap.size + 1 + 1 < w2.heap.size := World.block_lt_of_cell? _ _ hS2.1.2.2.2.2.2.2.2.2.2.2.2.2.2.2.2.2.1
  have hy2 : w.heap.size + 1 < w2.heap.size := by omega
  have hx2 : w.heap.size < w2.heap.size := by omega
  go_wp2_with fail
  refine (HK.out _).mono ?_
  rintro e w3 ⟨rfl, hb3⟩
  have hS3 : (w3.cell? ⟨w.heap.size, 0, none⟩ = some (.int .i64 (a 0)) ∧ w3.cell? ⟨w.heap.size, 1, none⟩ = some (.int .i64 (a 1)) ∧ w3.cell? ⟨w.heap.size, 2, none⟩ = some (.int .i64 (a 2)) ∧ w3.cell? ⟨w.heap.size, 3, none⟩ = some (.int .i64 (a 3)) ∧ w3.cell? ⟨w.heap.size, 4, none⟩ = some (.int .i64 (a 4)) ∧ w3.cell? ⟨w.heap.size, 5, none⟩ = some (.int .i64 (a 5)) ∧ w3.cell? ⟨w.heap.size, 6, none⟩ = some (.int .i64 (a 6)) ∧ w3.cell? ⟨w.heap.size, 7, none⟩ = some (.int .i64 (a 7)) ∧ w3.cell? ⟨w.heap.size + 1, 0, none⟩ = some (.int .i64 (b 0)) ∧ w3.cell? ⟨w.heap.size + 1, 1, none⟩ = some (.int .i64 (b 1)) ∧ w3.cell? ⟨w.heap.size + 1, 2, none⟩ = some (.int .i64 (b 2)) ∧ w3.cell? ⟨w.heap.size + 1, 3, none⟩ = some (.int .i64 (b 3)) ∧ w3.cell? ⟨w.heap.size + 1, 4, none⟩ = some (.int .i64 (b 4)) ∧ w3.cell? ⟨w.heap.size + 1, 5, none⟩ = some (.int .i64 (b 5)) ∧ w3.cell? ⟨w.heap.size + 1, 6, none⟩ = some (.int .i64 (b 6)) ∧ w3.cell? ⟨w.heap.size + 1, 7, none⟩ = some (.int .i64 (b 7)) ∧ w3.cell? ⟨w.heap.size + 1 + 1, 0, none⟩ = some (.int .i64 (c 0)) ∧ w3.cell? ⟨w.heap.size + 1 + 1, 1, none⟩ = some (.int .i64 (c 1)) ∧ w3.cell? ⟨w.heap.size + 1 + 1, 2, none⟩ = some (.int .i64 (c 2)) ∧ w3.cell? ⟨w.heap.size + 1 + 1, 3, none⟩ = some (.int .i64 (c 3)) ∧ w3.cell? ⟨w.heap.size + 1 + 1, 4, none⟩ = some (.int .i64 (c 4)) ∧ w3.cell? ⟨w.heap.size + 1 + 1, 5, none⟩ = some (.int .i64 (c 5)) ∧ w3.cell? ⟨w.heap.size + 1 + 1, 6, none⟩ = some (.int .i64 (c 6)) ∧ w3.cell? ⟨w.heap.size + 1 + 1, 7, none⟩ = some (.int .i64 (c 7)) ∧ w3.cell? ⟨w2.heap.size, 0, none⟩ = some (.int .i64 (j 0)) ∧ w3.cell? ⟨w2.heap.size, 1, none⟩ = some (.int .i64 (j 1)) ∧ w3.cell? ⟨w2.heap.size, 2, none⟩ = some (.int .i64 (j 2)) ∧ w3.cell? ⟨w2.heap.size, 3, none⟩ = some (.int .i64 (j 3)) ∧ w3.cell? ⟨w2.heap.size, 4, none⟩ = some (.int .i64 (j 4)) ∧ w3.cell? ⟨w2.heap.size, 5, none⟩ = some (.int .i64 (j 5)) ∧ w3.cell? ⟨w2.heap.size, 6, none⟩ = some (.int .i64 (j 6)) ∧ w3.cell? ⟨w2.heap.size, 7, none⟩ = some (.int .i64 (j 7))) ∧ KeptFrom w w3 := by
    have h := kept_alloc24 (.cells (arr j) 24) hS2
    exact ⟨⟨cell_later hb3 h.1.1, cell_later hb3 h.1.2.1, cell_later hb3 h.1.2.2.1, cell_later hb3 h.1.2.2.2.1, cell_later hb3 h.1.2.2.2.2.1, cell_later hb3 h.1.2.2.2.2.2.1, cell_later hb3 h.1.2.2.2.2.2.2.1, cell_later hb3 h.1.2.2.2.2.2.2.2.1, cell_later hb3 h.1.2.2.2.2.2.2.2.2.1, cell_later hb3 h.1.2.2.2.2.2.2.2.2.2.1, cell_later hb3 h.1.2.2.2.2.2.2.2.2.2.2.1, cell_later hb3 h.1.2.2.2.2.2.2.2.2.2.2.2.1, cell_later hb3 h.1.2.2.2.2.2.2.2.2.2.2.2.2.1, cell_later hb3 h.1.2.2.2.2.2.2.2.2.2.2.2.2.2.1, cell_later hb3 h.1.2.2.2.2.2.2.2.2.2.2.2.2.2.2.1, cell_later hb3 h.1.2.2.2.2.2.2.2.2.2.2.2.2.2.2.2.1, cell_later hb3 h.1.2.2.2.2.2.2.2.2.2.2.2.2.2.2.2.2.1, cell_later hb3 h.1.2.2.2.2.2.2.2.2.2.2.2.2.2.2.2.2.2.1, cell_later hb3 h.1.2.2.2.2.2.2.2.2.2.2.2.2.2.2.2.2.2.2.1, cell_later hb3 h.1.2.2.2.2.2.2.2.2.2.2.2.2.2.2.2.2.2.2.2.1, cell_later hb3 h.1.2.2.2.2.2.2.2.2.2.2.2.2.2.2.2.2.2.2.2.2.1, cell_later hb3 h.1.2.2.2.2.2.2.2.2.2.2.2.2.2.2.2.2.2.2.2.2.2.1, cell_later hb3 h.1.2.2.2.2.2.2.2.2.2.2.2.2.2.2.2.2.2.2.2.2.2.2.1, cell_later hb3 h.1.2.2.2.2.2.2.2.2.2.2.2.2.2.2.2.2.2.2.2.2.2.2.2, cell_later hb3 (cell_arr (heap_alloc_new w2 (.cells (arr j) 24)) (show 0 < 8 by omega)), cell_later hb3 (cell_arr (heap_alloc_new w2 (.cells (arr j) 24)) (show 1 < 8 by omega)), cell_later hb3 (cell_arr (heap_alloc_new w2 (.cells (arr j) 24)) (show 2 < 8 by omega)), cell_later hb3 (cell_arr (heap_alloc_new w2 (.cells (arr j) 24)) (show 3 < 8 by omega)), cell_later hb3 (cell_arr (heap_alloc_new w2 (.cells (arr j) 24)) (show 4 < 8 by omega)), cell_later hb3 (cell_arr (heap_alloc_new w2 (.cells (arr j) 24)) (show 5 < 8 by omega)), cell_later hb3 (cell_arr (heap_alloc_new w2 (.cells (arr j) 24)) (show 6 < 8 by omega)), cell_later hb3 (cell_arr (heap_alloc_new w2 (.cells (arr j) 24)) (show 7 < 8 by omega))⟩, below_step h.2 hb3⟩
  have hv3 : w2.heap.size < w3.heap.size := World.block_lt_of_cell? _ _ hS3.1.2.2.2.2.2.2.2.2.2.2.2.2.2.2.2.2.2.2.2.2.2.2.2.2.1
  clear hb3 hS2 hz2 hy2 hx2
  have hz3 : w.heap.size + 1 + 1 < w3.heap.size := World.block_lt_of_cell? _ _ hS3.1.2.2.2.2.2.2.2.2.2.2.2.2.2.2.2.2.1
  have hy3 : w.heap.size + 1 < w3.heap.size := by omega
  have hx3 : w.heap.size < w3.heap.size := by omega
  go_upto_region 4 with fail
  have hS4 : ((w3.alloc (.cells #[.int .i64 (m 0), .int .i64 (m 1), .int .i64 (m 2), .int .i64 (m 3), .int .i64 (m 4), .int .i64 (m 5), .int .i64 (m 6), .int .i64 (m 7)] 24)).cell? ⟨w.heap.size, 0, none⟩ = some (.int .i64 (a 0)) ∧ (w3.alloc (.cells #[.int .i64 (m 0), .int .i64 (m 1), .int .i64 (m 2), .int .i64 (m 3), .int .i64 (m 4), .int .i64 (m 5), .int .i64 (m 6), .int .i64 (m 7)] 24)).cell? ⟨w.heap.size, 1, none⟩ = some (.int .i64 (a 1)) ∧ (w3.alloc (.cells #[.int .i64 (m 0), .int .i64 (m 1), .int .i64 (m 2), .int .i64 (m 3), .int .i64 (m 4), .int .i64 (m 5), .int .i64 (m 6), .int .i64 (m 7)] 24)).cell? ⟨w.heap.size, 2, none⟩ = some (.int .i64 (a 2)) ∧ (w3.alloc (.cells #[.int .i64 (m 0), .int .i64 (m 1), .int .i64 (m 2), .int .i64 (m 3), .int .i64 (m 4), .int .i64 (m 5), .int .i64 (m 6), .int .i64 (m 7)] 24)).cell? ⟨w.heap.size, 3, none⟩ = some (.int .i64 (a 3)) ∧ (w3.alloc (.cells #[.int .i64 (m 0), .int .i64 (m 1), .int .i64 (m 2), .int .i64 (m 3), .int .i64 (m 4), .int .i64 (m 5), .int .i64 (m 6), .int .i64 (m 7)] 24)).cell? ⟨w.heap.size, 4, none⟩ = some (.int .i64 (a 4)) ∧ (w3.alloc (.cells #[.int .i64 (m 0), .int .i64 (m 1), .int .i64 (m 2), .int .i64 (m 3), .int .i64 (m 4), .int .i64 (m 5), .int .i64 (m 6), .int .i64 (m 7)] 24)).cell? ⟨w.heap.size, 5, none⟩ = some (.int .i64 (a 5)) ∧ (w3.alloc (.cells #[.int .i64 (m 0), .int .i64 (m 1), .int .i64 (m 2), .int .i64 (m 3), .int .i64 (m 4), .int .i64 (m 5), .int .i64 (m 6), .int .i64 (m 7)] 24)).cell? ⟨w.heap.size, 6, none⟩ = some (.int .i64 (a 6)) ∧ (w3.alloc (.cells #[.int .i64 (m 0), .int .i64 (m 1), .int .i64 (m 2), .int .i64 (m 3), .int .i64 (m 4), .int .i64 (m 5), .int .i64 (m 6), .int .i64 (m 7)] 24)).cell? ⟨w.heap.size, 7, none⟩ = some (.int .i64 (a 7)) ∧ (w3.alloc (.cells #[.int .i64 (m 0), .int .i64 (m 1), .int .i64 (m 2), .int .i64 (m 3), .int .i64 (m 4), .int .i64 (m 5), .int .i64 (m 6), .int .i64 (m 7)] 24)).cell? ⟨w.heap.size + 1, 0, none⟩ = some (.int .i64 (b 0)) ∧ (w3.alloc (.cells #[.int .i64 (m 0), .int .i64 (m 1), .int .i64 (m 2), .int .i64 (m 3), .int .i64 (m 4), .int .i64 (m 5), .int .i64 (m 6), .int .i64 (m 7)] 24)).cell? ⟨w.heap.size + 1, 1, none⟩ = some (.int .i64 (b 1)) ∧ (w3.alloc (.cells #[.int .i64 (m 0), .int .i64 (m 1), .int .i64 (m 2), .int .i64 (m 3), .int .i64 (m 4), .int .i64 (m 5), .int .i64 (m 6), .int .i64 (m 7)] 24)).cell? ⟨w.heap.size + 1, 2, none⟩ = some (.int .i64 (b 2)) ∧ (w3.alloc (.cells #[.int .i64 (m 0), .int .i64 (m 1), .int .i64 (m 2), .int .i64 (m 3), .int .i64 (m 4), .int .i64 (m 5), .int .i64 (m 6), .int .i64 (m 7)] 24)).cell? ⟨w.heap.size + 1, 3, none⟩ = some (.int .i64 (b 3)) ∧ (w3.alloc (.cells #[.int .i64 (m 0), .int .i64 (m 1), .int .i64 (m 2), .int .i64 (m 3), .int .i64 (m 4), .int .i64 (m 5), .int .i64 (m 6), .int .i64 (m 7)] 24)).cell? ⟨w.heap.size + 1, 4, none⟩ = some (.int .i64 (b 4)) ∧ (w3.alloc (.cells #[.int .i64 (m 0), .int .i64 (m 1), .int .i64 (m 2), .int .i64 (m 3), .int .i64 (m 4), .int .i64 (m 5), .int .i64 (m 6), .int .i64 (m 7)] 24)).cell? ⟨w.heap.size + 1, 5, none⟩ = some (.int .i64 (b 5)) ∧ (w3.alloc (.cells #[.int .i64 (m 0), .int .i64 (m 1), .int .i64 (m 2), .int .i64 (m 3), .int .i64 (m 4), .int .i64 (m 5), .int .i64 (m 6), .int .i64 (m 7)] 24)).cell? ⟨w.heap.size + 1, 6, none⟩ = some (.int .i64 (b 6)) ∧ (w3.alloc (.cells #[.int .i64 (m 0), .int .i64 (m 1), .int .i64 (m 2), .int .i64 (m 3), .int .i64 (m 4), .int .i64 (m 5), .int .i64 (m 6), .int .i64 (m 7)] 24)).cell? ⟨w.heap.size + 1, 7, none⟩ = some (.int .i64 (b 7)) ∧ (w3.alloc (.cells #[.int .i64 (m 0), .int .i64 (m 1), .int .i64 (m 2), .int .i64 (m 3), .int .i64 (m 4), .int .i64 (m 5), .int .i64 (m 6), .int .i64 (m 7)] 24)).cell? ⟨w.heap.size + 1 + 1, 0, none⟩ = some (.int .i64 (c 0)) ∧ (w3.alloc (.cells #[.int .i64 (m 0), .int .i64 (m 1), .int .i64 (m 2), .int .i64 (m 3), .int .i64 (m 4), .int .i64 (m 5), .int .i64 (m 6), .int .i64 (m 7)] 24)).cell? ⟨w.heap.size + 1 + 1, 1, none⟩ = some (.int .i64 (c 1)) ∧ (w3.alloc (.cells #[.int .i64 (m 0), .int .i64 (m 1), .int .i64 (m 2), .int .i64 (m 3), .int .i64 (m 4), .int .i64 (m 5), .int .i64 (m 6), .int .i64 (m 7)] 24)).cell? ⟨w.heap.size + 1 + 1, 2, none⟩ = some (.int .i64 (c 2)) ∧ (w3.alloc (.cells #[.int .i64 (m 0), .int .i64 (m 1), .int .i64 (m 2), .int .i64 (m 3), .int .i64 (m 4), .int .i64 (m 5), .int .i64 (m 6), .int .i64 (m 7)] 24)).cell? ⟨w.heap.size + 1 + 1, 3, none⟩ = some (.int .i64 (c 3)) ∧ (w3.alloc (.cells #[.int .i64 (m 0), .int .i64 (m 1), .int .i64 (m 2), .int .i64 (m 3), .int .i64 (m 4), .int .i64 (m 5), .int .i64 (m 6), .int .i64 (m 7)] 24)).cell? ⟨w.heap.size + 1 + 1, 4, none⟩ = some (.int .i64 (c 4)) ∧ (w3.alloc (.cells #[.int .i64 (m 0), .int .i64 (m 1), .int .i64 (m 2), .int .i64 (m 3), .int .i64 (m 4), .int .i64 (m 5), .int .i64 (m 6), .int .i64 (m 7)] 24)).cell? ⟨w.heap.size + 1 + 1, 5, none⟩ = some (.int .i64 (c 5)) ∧ (w3.alloc (.cells #[.int .i64 (m 0), .int .i64 (m 1), .int .i64 (m 2), .int .i64 (m 3), .int .i64 (m 4), .int .i64 (m 5), .int .i64 (m 6), .int .i64 (m 7)] 24)).cell? ⟨w.heap.size + 1 + 1, 6, none⟩ = some (.int .i64 (c 6)) ∧ (w3.alloc (.cells #[.int .i64 (m 0), .int .i64 (m 1), .int .i64 (m 2), .int .i64 (m 3), .int .i64 (m 4), .int .i64 (m 5), .int .i64 (m 6), .int .i64 (m 7)] 24)).cell? ⟨w.heap.size + 1 + 1, 7, none⟩ = some (.int .i64 (c 7)) ∧ (w3.alloc (.cells #[.int .i64 (m 0), .int .i64 (m 1), .int .i64 (m 2), .int .i64 (m 3), .int .i64 (m 4), .int .i64 (m 5), .int .i64 (m 6), .int .i64 (m 7)] 24)).cell? ⟨w2.heap.size, 0, none⟩ = some (.int .i64 (j 0)) ∧ (w3.alloc (.cells #[.int .i64 (m 0), .int .i64 (m 1), .int .i64 (m 2), .int .i64 (m 3), .int .i64 (m 4), .int .i64 (m 5), .int .i64 (m 6), .int .i64 (m 7)] 24)).cell? ⟨w2.heap.size, 1, none⟩ = some (.int .i64 (j 1)) ∧ (w3.alloc (.cells #[.int .i64 (m 0), .int .i64 (m 1), .int .i64 (m 2), .int .i64 (m 3), .int .i64 (m 4), .int .i64 (m 5), .int .i64 (m 6), .int .i64 (m 7)] 24)).cell? ⟨w2.heap.size, 2, none⟩ = some (.int .i64 (j 2)) ∧ (w3.alloc (.cells #[.int .i64 (m 0), .int .i64 (m 1), .int .i64 (m 2), .int .i64 (m 3), .int .i64 (m 4), .int .i64 (m 5), .int .i64 (m 6), .int .i64 (m 7)] 24)).cell? ⟨w2.heap.size, 3, none⟩ = some (.int .i64 (j 3)) ∧ (w3.alloc (.cells #[.int .i64 (m 0), .int .i64 (m 1), .int .i64 (m 2), .int .i64 (m 3), .int .i64 (m 4), .int .i64 (m 5), .int .i64 (m 6), .int .i64 (m 7)] 24)).cell? ⟨w2.heap.size, 4, none⟩ = some (.int .i64 (j 4)) ∧ (w3.alloc (.cells #[.int .i64 (m 0), .int .i64 (m 1), .int .i64 (m 2), .int .i64 (m 3), .int .i64 (m 4), .int .i64 (m 5), .int .i64 (m 6), .int .i64 (m 7)] 24)).cell? ⟨w2.heap.size, 5, none⟩ = some (.int .i64 (j 5)) ∧ (w3.alloc (.cells #[.int .i64 (m 0), .int .i64 (m 1), .int .i64 (m 2), .int .i64 (m 3), .int .i64 (m 4), .int .i64 (m 5), .int .i64 (m 6), .int .i64 (m 7)] 24)).cell? ⟨w2.heap.size, 6, none⟩ = some (.int .i64 (j 6)) ∧ (w3.alloc (.cells #[.int .i64 (m 0), .int .i64 (m 1), .int .i64 (m 2), .int .i64 (m 3), .int .i64 (m 4), .int .i64 (m 5), .int .i64 (m 6), .int .i64 (m 7)] 24)).cell? ⟨w2.heap.size, 7, none⟩ = some (.int .i64 (j 7)) ∧ (w3.alloc (.cells #[.int .i64 (m 0), .int .i64 (m 1), .int .i64 (m 2), .int .i64 (m 3), .int .i64 (m 4), .int .i64 (m 5), .int .i64 (m 6), .int .i64 (m 7)] 24)).cell? ⟨w3.heap.size, 0, none⟩ = some (.int .i64 (m 0)) ∧ (w3.alloc (.cells #[.int .i64 (m 0), .int .i64 (m 1), .int .i64 (m 2), .int .i64 (m 3), .int .i64 (m 4), .int .i64 (m 5), .int .i64 (m 6), .int .i64 (m 7)] 24)).cell? ⟨w3.heap.size, 1, none⟩ = some (.int .i64 (m 1)) ∧ (w3.alloc (.cells #[.int .i64 (m 0), .int .i64 (m 1), .int .i64 (m 2), .int .i64 (m 3), .int .i64 (m 4), .int .i64 (m 5), .int .i64 (m 6), .int .i64 (m 7)] 24)).cell? ⟨w3.heap.size, 2, none⟩ = some (.int .i64 (m 2)) ∧ (w3.alloc (.cells #[.int .i64 (m 0), .int .i64 (m 1), .int .i64 (m 2), .int .i64 (m 3), .int .i64 (m 4), .int .i64 (m 5), .int .i64 (m 6), .int .i64 (m 7)] 24)).cell? ⟨w3.heap.size, 3, none⟩ = some (.int .i64 (m 3)) ∧ (w3.alloc (.cells #[.int .i64 (m 0), .int .i64 (m 1), .int .i64 (m 2), .int .i64 (m 3), .int .i64 (m 4), .int .i64 (m 5), .int .i64 (m 6), .int .i64 (m 7)] 24)).cell? ⟨w3.heap.size, 4, none⟩ = some (.int .i64 (m 4)) ∧ (w3.alloc (.cells #[.int .i64 (m 0), .int .i64 (m 1), .int .i64 (m 2), .int .i64 (m 3), .int .i64 (m 4), .int .i64 (m 5), .int .i64 (m 6), .int .i64 (m 7)] 24)).cell? ⟨w3.heap.size, 5, none⟩ = some (.int .i64 (m 5)) ∧ (w3.alloc (.cells #[.int .i64 (m 0), .int .i64 (m 1), .int .i64 (m 2), .int .i64 (m 3), .int .i64 (m 4), .int .i64 (m 5), .int .i64 (m 6), .int .i64 (m 7)] 24)).cell? ⟨w3.heap.size, 6, none⟩ = some (.int .i64 (m 6)) ∧ (w3.alloc (.cells #[.int .i64 (m 0), .int .i64 (m 1), .int .i64 (m 2), .int .i64 (m 3), .int .i64 (m 4), .int .i64 (m 5), .int .i64 (m 6), .int .i64 (m 7)] 24)).cell? ⟨w3.heap.size, 7, none⟩ = some (.int .i64 (m 7))) ∧ KeptFrom w (w3.alloc (.cells #[.int .i64 (m 0), .int .i64 (m 1), .int .i64 (m 2), .int .i64 (m 3), .int .i64 (m 4), .int .i64 (m 5), .int .i64 (m 6), .int .i64 (m 7)] 24)) := by
    have h := kept_alloc32 (.cells (arr m) 24) hS3
    exact ⟨⟨h.1.1, h.1.2.1, h.1.2.2.1, h.1.2.2.2.1, h.1.2.2.2.2.1, h.1.2.2.2.2.2.1, h.1.2.2.2.2.2.2.1, h.1.2.2.2.2.2.2.2.1, h.1.2.2.2.2.2.2.2.2.1, h.1.2.2.2.2.2.2.2.2.2.1, h.1.2.2.2.2.2.2.2.2.2.2.1, h.1.2.2.2.2.2.2.2.2.2.2.2.1, h.1.2.2.2.2.2.2.2.2.2.2.2.2.1, h.1.2.2.2.2.2.2.2.2.2.2.2.2.2.1, h.1.2.2.2.2.2.2.2.2.2.2.2.2.2.2.1, h.1.2.2.2.2.2.2.2.2.2.2.2.2.2.2.2.1, h.1.2.2.2.2.2.2.2.2.2.2.2.2.2.2.2.2.1, h.1.2.2.2.2.2.2.2.2.2.2.2.2.2.2.2.2.2.1, h.1.2.2.2.2.2.2.2.2.2.2.2.2.2.2.2.2.2.2.1, h.1.2.2.2.2.2.2.2.2.2.2.2.2.2.2.2.2.2.2.2.1, h.1.2.2.2.2.2.2.2.2.2.2.2.2.2.2.2.2.2.2.2.2.1, h.1.2.2.2.2.2.2.2.2.2.2.2.2.2.2.2.2.2.2.2.2.2.1, h.1.2.2.2.2.2.2.2.2.2.2.2.2.2.2.2.2.2.2.2.2.2.2.1, h.1.2.2.2.2.2.2.2.2.2.2.2.2.2.2.2.2.2.2.2.2.2.2.2.1, h.1.2.2.2.2.2.2.2.2.2.2.2.2.2.2.2.2.2.2.2.2.2.2.2.2.1, h.1.2.2.2.2.2.2.2.2.2.2.2.2.2.2.2.2.2.2.2.2.2.2.2.2.2.1, h.1.2.2.2.2.2.2.2.2.2.2.2.2.2.2.2.2.2.2.2.2.2.2.2.2.2.2.1, h.1.2.2.2.2.2.2.2.2.2.2.2.2.2.2.2.2.2.2.2.2.2.2.2.2.2.2.2.1, h.1.2.2.2.2.2.2.2.2.2.2.2.2.2.2.2.2.2.2.2.2.2.2.2.2.2.2.2.2.1, h.1.2.2.2.2.2.2.2.2.2.2.2.2.2.2.2.2.2.2.2.2.2.2.2.2.2.2.2.2.2.1, h.1.2.2.2.2.2.2.2.2.2.2.2.2.2.2.2.2.2.2.2.2.2.2.2.2.2.2.2.2.2.2.1, h.1.2.2.2.2.2.2.2.2.2.2.2.2.2.2.2.2.2.2.2.2.2.2.2.2.2.2.2.2.2.2.2, cell_arr (heap_alloc_new w3 (.cells (arr m) 24)) (show 0 < 8 by omega), cell_arr (heap_alloc_new w3 (.cells (arr m) 24)) (show 1 < 8 by omega), cell_arr (heap_alloc_new w3 (.cells (arr m) 24)) (show 2 < 8 by omega), cell_arr (heap_alloc_new w3 (.cells (arr m) 24)) (show 3 < 8 by omega), cell_arr (heap_alloc_new w3 (.cells (arr m) 24)) (show 4 < 8 by omega), cell_arr (heap_alloc_new w3 (.cells (arr m) 24)) (show 5 < 8 by omega), cell_arr (heap_alloc_new w3 (.cells (arr m) 24)) (show 6 < 8 by omega), cell_arr (heap_alloc_new w3 (.cells (arr m) 24)) (show 7 < 8 by omega)⟩, h.2⟩
  clear hS3
  go_cut [10] (fun x wx => x = .bool d ∧ (wx.cell? ⟨w.heap.size, 0, none⟩ = some (.int .i64 (a 0)) ∧ wx.cell? ⟨w.heap.size, 1, none⟩ = some (.int .i64 (a 1)) ∧ wx.cell? ⟨w.heap.size, 2, none⟩ = some (.int .i64 (a 2)) ∧ wx.cell? ⟨w.heap.size, 3, none⟩ = some (.int .i64 (a 3)) ∧ wx.cell? ⟨w.heap.size, 4, none⟩ = some (.int .i64 (a 4)) ∧ wx.cell? ⟨w.heap.size, 5, none⟩ = some (.int .i64 (a 5)) ∧ wx.cell? ⟨w.heap.size, 6, none⟩ = some (.int .i64 (a 6)) ∧ wx.cell? ⟨w.heap.size, 7, none⟩ = some (.int .i64 (a 7)) ∧ wx.cell? ⟨w.heap.size + 1, 0, none⟩ = some (.int .i64 (b 0)) ∧ wx.cell? ⟨w.heap.size + 1, 1, none⟩ = some (.int .i64 (b 1)) ∧ wx.cell? ⟨w.heap.size + 1, 2, none⟩ = some (.int .i64 (b 2)) ∧ wx.cell? ⟨w.heap.size + 1, 3, none⟩ = some (.int .i64 (b 3)) ∧ wx.cell? ⟨w.heap.size + 1, 4, none⟩ = some (.int .i64 (b 4)) ∧ wx.cell? ⟨w.heap.size + 1, 5, none⟩ = some (.int .i64 (b 5)) ∧ wx.cell? ⟨w.heap.size + 1, 6, none⟩ = some (.int .i64 (b 6)) ∧ wx.cell? ⟨w.heap.size + 1, 7, none⟩ = some (.int .i64 (b 7)) ∧ wx.cell? ⟨w.heap.size + 1 + 1, 0, none⟩ = some (.int .i64 (c 0)) ∧ wx.cell? ⟨w.heap.size + 1 + 1, 1, none⟩ = some (.int .i64 (c 1)) ∧ wx.cell? ⟨w.heap.size + 1 + 1, 2, none⟩ = some (.int .i64 (c 2)) ∧ wx.cell? ⟨w.heap.size + 1 + 1, 3, none⟩ = some (.int .i64 (c 3)) ∧ wx.cell? ⟨w.heap.size + 1 + 1, 4, none⟩ = some (.int .i64 (c 4)) ∧ wx.cell? ⟨w.heap.size + 1 + 1, 5, none⟩ = some (.int .i64 (c 5)) ∧ wx.cell? ⟨w.heap.size + 1 + 1, 6, none⟩ = some (.int .i64 (c 6)) ∧ wx.cell? ⟨w.heap.size + 1 + 1, 7, none⟩ = some (.int .i64 (c 7)) ∧ wx.cell? ⟨w2.heap.size, 0, none⟩ = some (.int .i64 (j 0)) ∧ wx.cell? ⟨w2.heap.size, 1, none⟩ = some (.int .i64 (j 1)) ∧ wx.cell? ⟨w2.heap.size, 2, none⟩ = some (.int .i64 (j 2)) ∧ wx.cell? ⟨w2.heap.size, 3, none⟩ = some (.int .i64 (j 3)) ∧ wx.cell? ⟨w2.heap.size, 4, none⟩ = some (.int .i64 (j 4)) ∧ wx.cell? ⟨w2.heap.size, 5, none⟩ = some (.int .i64 (j 5)) ∧ wx.cell? ⟨w2.heap.size, 6, none⟩ = some (.int .i64 (j 6)) ∧ wx.cell? ⟨w2.heap.size, 7, none⟩ = some (.int .i64 (j 7)) ∧ wx.cell? ⟨w3.heap.size, 0, none⟩ = some (.int .i64 (m 0)) ∧ wx.cell? ⟨w3.heap.size, 1, none⟩ = some (.int .i64 (m 1)) ∧ wx.cell? ⟨w3.heap.size, 2, none⟩ = some (.int .i64 (m 2)) ∧ wx.cell? ⟨w3.heap.size, 3, none⟩ = some (.int .i64 (m 3)) ∧ wx.cell? ⟨w3.heap.size, 4, none⟩ = some (.int .i64 (m 4)) ∧ wx.cell? ⟨w3.heap.size, 5, none⟩ = some (.int .i64 (m 5)) ∧ wx.cell? ⟨w3.heap.size, 6, none⟩ = some (.int .i64 (m 6)) ∧ wx.cell? ⟨w3.heap.size, 7, none⟩ = some (.int .i64 (m 7))) ∧ KeptFrom w wx)
  case first =>
    cases ca
    · go_wp2_with fail
      refine (Cca.out _).mono ?_
      rintro e w5 ⟨rfl, hb5⟩
      have hS5 := kept_call40 hb5 hS4
      clear hb5 hS4
      go_wp2_with fail
      go_meet
      case rel => exact ⟨by rw [HD.out]; rfl, hS5⟩
    · go_wp2_with fail
      refine (Cca.out _).mono ?_
      rintro e w5 ⟨rfl, hb5⟩
      have hS5 := kept_call40 hb5 hS4
      clear hb5 hS4
      go_wp2_with fail
      refine (Ccb.out _).mono ?_
      rintro e w6 ⟨rfl, hb6⟩
      have hS6 := kept_call40 hb6 hS5
      clear hb6 hS5
      go_wp2_with fail
      go_meet
      case rel => exact ⟨by rw [HD.out]; rfl, hS6⟩
  case rest =>
  obtain ⟨rfl, hS7⟩ := hcut
  generalize wc = w7 at hS7 ⊢
  go_upto_region 5 with fail
  go_cut [11] (fun x wx => x = .bool k ∧ (wx.cell? ⟨w.heap.size, 0, none⟩ = some (.int .i64 (a 0)) ∧ wx.cell? ⟨w.heap.size, 1, none⟩ = some (.int .i64 (a 1)) ∧ wx.cell? ⟨w.heap.size, 2, none⟩ = some (.int .i64 (a 2)) ∧ wx.cell? ⟨w.heap.size, 3, none⟩ = some (.int .i64 (a 3)) ∧ wx.cell? ⟨w.heap.size, 4, none⟩ = some (.int .i64 (a 4)) ∧ wx.cell? ⟨w.heap.size, 5, none⟩ = some (.int .i64 (a 5)) ∧ wx.cell? ⟨w.heap.size, 6, none⟩ = some (.int .i64 (a 6)) ∧ wx.cell? ⟨w.heap.size, 7, none⟩ = some (.int .i64 (a 7)) ∧ wx.cell? ⟨w.heap.size + 1, 0, none⟩ = some (.int .i64 (b 0)) ∧ wx.cell? ⟨w.heap.size + 1, 1, none⟩ = some (.int .i64 (b 1)) ∧ wx.cell? ⟨w.heap.size + 1, 2, none⟩ = some (.int .i64 (b 2)) ∧ wx.cell? ⟨w.heap.size + 1, 3, none⟩ = some (.int .i64 (b 3)) ∧ wx.cell? ⟨w.heap.size + 1, 4, none⟩ = some (.int .i64 (b 4)) ∧ wx.cell? ⟨w.heap.size + 1, 5, none⟩ = some (.int .i64 (b 5)) ∧ wx.cell? ⟨w.heap.size + 1, 6, none⟩ = some (.int .i64 (b 6)) ∧ wx.cell? ⟨w.heap.size + 1, 7, none⟩ = some (.int .i64 (b 7)) ∧ wx.cell? ⟨w.heap.size + 1 + 1, 0, none⟩ = some (.int .i64 (c 0)) ∧ wx.cell? ⟨w.heap.size + 1 + 1, 1, none⟩ = some (.int .i64 (c 1)) ∧ wx.cell? ⟨w.heap.size + 1 + 1, 2, none⟩ = some (.int .i64 (c 2)) ∧ wx.cell? ⟨w.heap.size + 1 + 1, 3, none⟩ = some (.int .i64 (c 3)) ∧ wx.cell? ⟨w.heap.size + 1 + 1, 4, none⟩ = some (.int .i64 (c 4)) ∧ wx.cell? ⟨w.heap.size + 1 + 1, 5, none⟩ = some (.int .i64 (c 5)) ∧ wx.cell? ⟨w.heap.size + 1 + 1, 6, none⟩ = some (.int .i64 (c 6)) ∧ wx.cell? ⟨w.heap.size + 1 + 1, 7, none⟩ = some (.int .i64 (c 7)) ∧ wx.cell? ⟨w2.heap.size, 0, none⟩ = some (.int .i64 (j 0)) ∧ wx.cell? ⟨w2.heap.size, 1, none⟩ = some (.int .i64 (j 1)) ∧ wx.cell? ⟨w2.heap.size, 2, none⟩ = some (.int .i64 (j 2)) ∧ wx.cell? ⟨w2.heap.size, 3, none⟩ = some (.int .i64 (j 3)) ∧ wx.cell? ⟨w2.heap.size, 4, none⟩ = some (.int .i64 (j 4)) ∧ wx.cell? ⟨w2.heap.size, 5, none⟩ = some (.int .i64 (j 5)) ∧ wx.cell? ⟨w2.heap.size, 6, none⟩ = some (.int .i64 (j 6)) ∧ wx.cell? ⟨w2.heap.size, 7, none⟩ = some (.int .i64 (j 7)) ∧ wx.cell? ⟨w3.heap.size, 0, none⟩ = some (.int .i64 (m 0)) ∧ wx.cell? ⟨w3.heap.size, 1, none⟩ = some (.int .i64 (m 1)) ∧ wx.cell? ⟨w3.heap.size, 2, none⟩ = some (.int .i64 (m 2)) ∧ wx.cell? ⟨w3.heap.size, 3, none⟩ = some (.int .i64 (m 3)) ∧ wx.cell? ⟨w3.heap.size, 4, none⟩ = some (.int .i64 (m 4)) ∧ wx.cell? ⟨w3.heap.size, 5, none⟩ = some (.int .i64 (m 5)) ∧ wx.cell? ⟨w3.heap.size, 6, none⟩ = some (.int .i64 (m 6)) ∧ wx.cell? ⟨w3.heap.size, 7, none⟩ = some (.int .i64 (m 7))) ∧ KeptFrom w wx)
  case first =>
    cases ac
    · go_wp2_with fail
      refine (Cac.out _).mono ?_
      rintro e w8 ⟨rfl, hb5⟩
      have hS5 := kept_call40 hb5 hS7
      clear hb5 hS7
      go_wp2_with fail
      go_meet
      case rel => exact ⟨by rw [HKK.out]; rfl, hS5⟩
    · go_wp2_with fail
      refine (Cac.out _).mono ?_
      rintro e w8 ⟨rfl, hb5⟩
      have hS5 := kept_call40 hb5 hS7
      clear hb5 hS7
      go_wp2_with fail
      refine (Cbc.out _).mono ?_
      rintro e w9 ⟨rfl, hb6⟩
      have hS6 := kept_call40 hb6 hS5
      clear hb6 hS5
      go_wp2_with fail
      go_meet
      case rel => exact ⟨by rw [HKK.out]; rfl, hS6⟩
  case rest =>
  obtain ⟨rfl, hS10⟩ := hcut
  go_upto_region 6 with fail
  generalize wc = w10 at hS10 ⊢
  obtain ⟨⟨l0, l1, l2, l3, l4, l5, l6, l7, l8, l9, l10, l11, l12, l13, l14, l15, l16, l17, l18, l19, l20, l21, l22, l23, l24, l25, l26, l27, l28, l29, l30, l31, l32, l33, l34, l35, l36, l37, l38, l39⟩, hK10⟩ := hS10
  have q0 := later_cell l0
  have q1 := later_cell l1
  have q2 := later_cell l2
  have q3 := later_cell l3
  have q4 := later_cell l4
  have q5 := later_cell l5
  have q6 := later_cell l6
  have q7 := later_cell l7
  have q8 := later_cell l8
  have q9 := later_cell l9
  have q10 := later_cell l10
  have q11 := later_cell l11
  have q12 := later_cell l12
  have q13 := later_cell l13
  have q14 := later_cell l14
  have q15 := later_cell l15
  have q16 := later_cell l16
  have q17 := later_cell l17
  have q18 := later_cell l18
  have q19 := later_cell l19
  have q20 := later_cell l20
  have q21 := later_cell l21
  have q22 := later_cell l22
  have q23 := later_cell l23
  have q24 := later_cell l24
  have q25 := later_cell l25
  have q26 := later_cell l26
  have q27 := later_cell l27
  have q28 := later_cell l28
  have q29 := later_cell l29
  have q30 := later_cell l30
  have q31 := later_cell l31
  have q32 := later_cell l32
  have q33 := later_cell l33
  have q34 := later_cell l34
  have q35 := later_cell l35
  have q36 := later_cell l36
  have q37 := later_cell l37
  have q38 := later_cell l38
  have q39 := later_cell l39
  clear l0 l1 l2 l3 l4 l5 l6 l7 l8 l9 l10 l11 l12 l13 l14 l15 l16 l17 l18 l19 l20 l21 l22 l23 l24 l25 l26 l27 l28 l29 l30 l31 l32 l33 l34 l35 l36 l37 l38 l39
  have HK10 := Lib.hid hK10
  clear hK10
  cases u
  · have E : ∀ W : World, (Op.equalIn 10000 22 (.agg #[.int .i64 (a 0), .int .i64 (a 1), .int .i64 (a 2), .int .i64 (a 3), .int .i64 (a 4), .int .i64 (a 5), .int .i64 (a 6), .int .i64 (a 7)]) (.agg #[.int .i64 (b 0), .int .i64 (b 1), .int .i64 (b 2), .int .i64 (b 3), .int .i64 (b 4), .int .i64 (b 5), .int .i64 (b 6), .int .i64 (b 7)])).run Try.prog W = .ok false W := EE.out
    refine wp_region_later (by kernel_rfl) (by kernel_rfl) ?_
    repeat (go_big_quiet_step (first | (with_reducible exact later_call (Cja.out _)) | (with_reducible exact later_call (Cjb.out _)) | (with_reducible exact later_call (Ccj.out _)) | (with_reducible exact later_call (Cam.out _)) | (with_reducible exact later_call (Cbm.out _)) | (with_reducible exact later_call (Cmc.out _)) | (with_reducible exact later_call (Cab.out _))))
    refine wpQuiet_nil ?_
    intro _ hw'
    obtain ⟨y, rfl⟩ := hw'
    go_wp2_with fail
    go_ret
    exact ⟨rfl, below_step (kept_below HK10.out) (later_below _ _)⟩
  · have E : ∀ W : World, (Op.equalIn 10000 22 (.agg #[.int .i64 (a 0), .int .i64 (a 1), .int .i64 (a 2), .int .i64 (a 3), .int .i64 (a 4), .int .i64 (a 5), .int .i64 (a 6), .int .i64 (a 7)]) (.agg #[.int .i64 (b 0), .int .i64 (b 1), .int .i64 (b 2), .int .i64 (b 3), .int .i64 (b 4), .int .i64 (b 5), .int .i64 (b 6), .int .i64 (b 7)])).run Try.prog W = .ok v W := EE.out
    refine wp_region_later (by kernel_rfl) (by kernel_rfl) ?_
    repeat (go_big_quiet_step (first | (with_reducible exact later_call (Cja.out _)) | (with_reducible exact later_call (Cjb.out _)) | (with_reducible exact later_call (Ccj.out _)) | (with_reducible exact later_call (Cam.out _)) | (with_reducible exact later_call (Cbm.out _)) | (with_reducible exact later_call (Cmc.out _)) | (with_reducible exact later_call (Cab.out _)) | (with_reducible exact later_call (Cba.out _))))
    refine wpQuiet_nil ?_
    intro _ hw'
    obtain ⟨y, rfl⟩ := hw'
    go_wp2_with fail
    go_ret
    exact ⟨rfl, below_step (kept_below HK10.out) (later_below _ _)⟩

theorem walk0 (H : VecHave) (a0 a1 a2 : Nat → Int) (_w0 : ∀ i, IsI64 (a0 i)) (_w1 : ∀ i, IsI64 (a1 i)) (_w2 : ∀ i, IsI64 (a2 i)) (w : World) :
    Calls Try.prog 4 #[.agg (arr a0), .agg (arr a1), .agg (arr a2)] w fun e w' => e = .returned (.bool true) ∧ Below w.heap.size w w' := by
  have yes : ∀ (p q : Nat → Int), covV p q = true → ∀ W : World, Calls Try.prog 15 #[.agg (arr p), .agg (arr q)] W fun e w' => e = .returned (.bool true) ∧ Below W.heap.size W w' := fun p q h W => by
    have k := H.covers p q W
    rw [h] at k
    exact k
  exact core H a0 a1 a2 (joinV a0 a1) (meetV a0 a1) (covV a2 a0) (covV a2 a1) (covV a0 a2) (covV a1 a2) (covV a2 (joinV a0 a1)) (covV (meetV a0 a1) a2) (covV a0 a1) (covV a1 a0)
    (cov_join a0 a1 a2).symm (cov_meet a0 a1 a2).symm (cov_both a0 a1).symm w (H.join a0 a1) (H.meet a0 a1) (H.covers a2 a0) (H.covers a2 a1) (H.covers a0 a2) (H.covers a1 a2)
    (yes _ _ (cov_left a0 a1)) (yes _ _ (cov_right a0 a1)) (H.covers a2 _) (yes _ _ (cov_under a0 a1)) (yes _ _ (cov_under2 a0 a1)) (H.covers _ a2) (H.covers a0 a1) (H.covers a1 a0)

end Go.Proofs.Ytonpafakhbinmaa.lawVectorBounds
