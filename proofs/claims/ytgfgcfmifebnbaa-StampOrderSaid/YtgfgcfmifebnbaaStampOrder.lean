/-
  Of two stamps just one is first, if they are unlike; of three that go on the first is ahead of the last: for all stamps whatever.
-/
import Derived.Test.YtgfgcfmifebnbaaStampCode2
import Derived.ProofKit
import Derived.OpenShut
import Derived.Lib.SmallJoins
namespace Go.Proofs.Ytgfgcfmifebnbaa.lawStampOrder
open Go.RowKit StampMath

set_option maxRecDepth 100000 in
set_option maxHeartbeats 800000 in
theorem gt_a (H : StampHave) (t r t' r' t'' r'' y : Int) (w : World)
    (HX : Hid (∀ W : World, Calls Try.prog 16 #[.agg #[.int .i64 t, .int .i64 r], .agg #[.int .i64 t', .int .i64 r']] W fun e w' => e = .returned (.int .i64 1) ∧ Below W.heap.size W w'))
    (HN : Hid (∀ W : World, Calls Try.prog 16 #[.agg #[.int .i64 t', .int .i64 r'], .agg #[.int .i64 t, .int .i64 r]] W fun e w' => e = .returned (.int .i64 (-1)) ∧ Below W.heap.size W w'))
    (HY : Hid (∀ W : World, Calls Try.prog 16 #[.agg #[.int .i64 t', .int .i64 r'], .agg #[.int .i64 t'', .int .i64 r'']] W fun e w' => e = .returned (.int .i64 y) ∧ Below W.heap.size W w'))
    (_hne : (t == t') = false) :
    Calls Try.prog 4 #[.agg #[.int .i64 t, .int .i64 r], .agg #[.int .i64 t', .int .i64 r'], .agg #[.int .i64 t'', .int .i64 r'']] w fun e w' => e = .returned (.bool true) ∧ Below w.heap.size w w' := by
  go_enter Try.func4, Try.ntmps4
  go_wp2_with fail
  refine (H.shown _).mono ?_
  rintro e w1 ⟨rfl, hb1⟩
  obtain ⟨hc1, hf1⟩ := bcell_below hb1
  have k1 : w.heap.size < w1.heap.size ∧ w.heap.size + 1 < w1.heap.size ∧ w.heap.size + 1 + 1 < w1.heap.size := by have := hb1.size; simp at this; omega
  obtain ⟨k10, k11, k12⟩ := k1
  go_wp2_with fail
  refine (HX.out _).mono ?_
  rintro e w2 ⟨rfl, hb2⟩
  obtain ⟨hc2, hf2⟩ := bcell_below hb2
  have k2 : w.heap.size < w2.heap.size ∧ w.heap.size + 1 < w2.heap.size ∧ w.heap.size + 1 + 1 < w2.heap.size := by have := hb2.size; omega
  obtain ⟨k20, k21, k22⟩ := k2
  go_wp2_with fail
  refine (HY.out _).mono ?_
  rintro e w3 ⟨rfl, hb3⟩
  obtain ⟨hc3, hf3⟩ := bcell_below hb3
  have k3 : w.heap.size < w3.heap.size ∧ w.heap.size + 1 < w3.heap.size ∧ w.heap.size + 1 + 1 < w3.heap.size := by have := hb3.size; omega
  obtain ⟨k30, k31, k32⟩ := k3
  go_wp2_with fail
  refine (HN.out _).mono ?_
  rintro e w4 ⟨rfl, hb4⟩
  obtain ⟨hc4, hf4⟩ := bcell_below hb4
  have k4 : w.heap.size < w4.heap.size ∧ w.heap.size + 1 < w4.heap.size ∧ w.heap.size + 1 + 1 < w4.heap.size := by have := hb4.size; omega
  obtain ⟨k40, k41, k42⟩ := k4
  go_wp2_with fail
  go_ret
  exact ⟨rfl, below_step (below_step (below_step (below_step ((((Below.refl _ _).alloc (Nat.le_refl _) _).alloc (by simp) _).alloc (by simp; omega) _) hb1) hb2) hb3) hb4⟩

set_option maxRecDepth 100000 in
set_option maxHeartbeats 800000 in
theorem lt_gt_a (H : StampHave) (t r t' r' t'' r'' : Int) (w : World)
    (HX : Hid (∀ W : World, Calls Try.prog 16 #[.agg #[.int .i64 t, .int .i64 r], .agg #[.int .i64 t', .int .i64 r']] W fun e w' => e = .returned (.int .i64 (-1)) ∧ Below W.heap.size W w'))
    (HN : Hid (∀ W : World, Calls Try.prog 16 #[.agg #[.int .i64 t', .int .i64 r'], .agg #[.int .i64 t, .int .i64 r]] W fun e w' => e = .returned (.int .i64 1) ∧ Below W.heap.size W w'))
    (HY : Hid (∀ W : World, Calls Try.prog 16 #[.agg #[.int .i64 t', .int .i64 r'], .agg #[.int .i64 t'', .int .i64 r'']] W fun e w' => e = .returned (.int .i64 1) ∧ Below W.heap.size W w'))
    (_hne : (t == t') = false) :
    Calls Try.prog 4 #[.agg #[.int .i64 t, .int .i64 r], .agg #[.int .i64 t', .int .i64 r'], .agg #[.int .i64 t'', .int .i64 r'']] w fun e w' => e = .returned (.bool true) ∧ Below w.heap.size w w' := by
  go_enter Try.func4, Try.ntmps4
  go_wp2_with fail
  refine (H.shown _).mono ?_
  rintro e w1 ⟨rfl, hb1⟩
  obtain ⟨hc1, hf1⟩ := bcell_below hb1
  have k1 : w.heap.size < w1.heap.size ∧ w.heap.size + 1 < w1.heap.size ∧ w.heap.size + 1 + 1 < w1.heap.size := by have := hb1.size; simp at this; omega
  obtain ⟨k10, k11, k12⟩ := k1
  go_wp2_with fail
  refine (HX.out _).mono ?_
  rintro e w2 ⟨rfl, hb2⟩
  obtain ⟨hc2, hf2⟩ := bcell_below hb2
  have k2 : w.heap.size < w2.heap.size ∧ w.heap.size + 1 < w2.heap.size ∧ w.heap.size + 1 + 1 < w2.heap.size := by have := hb2.size; omega
  obtain ⟨k20, k21, k22⟩ := k2
  go_wp2_with fail
  refine (HY.out _).mono ?_
  rintro e w3 ⟨rfl, hb3⟩
  obtain ⟨hc3, hf3⟩ := bcell_below hb3
  have k3 : w.heap.size < w3.heap.size ∧ w.heap.size + 1 < w3.heap.size ∧ w.heap.size + 1 + 1 < w3.heap.size := by have := hb3.size; omega
  obtain ⟨k30, k31, k32⟩ := k3
  go_wp2_with fail
  refine (HN.out _).mono ?_
  rintro e w4 ⟨rfl, hb4⟩
  obtain ⟨hc4, hf4⟩ := bcell_below hb4
  have k4 : w.heap.size < w4.heap.size ∧ w.heap.size + 1 < w4.heap.size ∧ w.heap.size + 1 + 1 < w4.heap.size := by have := hb4.size; omega
  obtain ⟨k40, k41, k42⟩ := k4
  go_wp2_with fail
  go_ret
  exact ⟨rfl, below_step (below_step (below_step (below_step ((((Below.refl _ _).alloc (Nat.le_refl _) _).alloc (by simp) _).alloc (by simp; omega) _) hb1) hb2) hb3) hb4⟩

set_option maxRecDepth 100000 in
set_option maxHeartbeats 800000 in
theorem lt_eq_a (H : StampHave) (t r t' r' t'' r'' z : Int) (w : World)
    (HX : Hid (∀ W : World, Calls Try.prog 16 #[.agg #[.int .i64 t, .int .i64 r], .agg #[.int .i64 t', .int .i64 r']] W fun e w' => e = .returned (.int .i64 (-1)) ∧ Below W.heap.size W w'))
    (HN : Hid (∀ W : World, Calls Try.prog 16 #[.agg #[.int .i64 t', .int .i64 r'], .agg #[.int .i64 t, .int .i64 r]] W fun e w' => e = .returned (.int .i64 1) ∧ Below W.heap.size W w'))
    (HY : Hid (∀ W : World, Calls Try.prog 16 #[.agg #[.int .i64 t', .int .i64 r'], .agg #[.int .i64 t'', .int .i64 r'']] W fun e w' => e = .returned (.int .i64 0) ∧ Below W.heap.size W w'))
    (HZ : Hid (∀ W : World, Calls Try.prog 16 #[.agg #[.int .i64 t, .int .i64 r], .agg #[.int .i64 t'', .int .i64 r'']] W fun e w' => e = .returned (.int .i64 z) ∧ Below W.heap.size W w'))
    (_hne : (t == t') = false) (_hz : z ≤ 0) :
    Calls Try.prog 4 #[.agg #[.int .i64 t, .int .i64 r], .agg #[.int .i64 t', .int .i64 r'], .agg #[.int .i64 t'', .int .i64 r'']] w fun e w' => e = .returned (.bool true) ∧ Below w.heap.size w w' := by
  go_enter Try.func4, Try.ntmps4
  go_wp2_with fail
  refine (H.shown _).mono ?_
  rintro e w1 ⟨rfl, hb1⟩
  obtain ⟨hc1, hf1⟩ := bcell_below hb1
  have k1 : w.heap.size < w1.heap.size ∧ w.heap.size + 1 < w1.heap.size ∧ w.heap.size + 1 + 1 < w1.heap.size := by have := hb1.size; simp at this; omega
  obtain ⟨k10, k11, k12⟩ := k1
  go_wp2_with fail
  refine (HX.out _).mono ?_
  rintro e w2 ⟨rfl, hb2⟩
  obtain ⟨hc2, hf2⟩ := bcell_below hb2
  have k2 : w.heap.size < w2.heap.size ∧ w.heap.size + 1 < w2.heap.size ∧ w.heap.size + 1 + 1 < w2.heap.size := by have := hb2.size; omega
  obtain ⟨k20, k21, k22⟩ := k2
  go_wp2_with fail
  refine (HY.out _).mono ?_
  rintro e w3 ⟨rfl, hb3⟩
  obtain ⟨hc3, hf3⟩ := bcell_below hb3
  have k3 : w.heap.size < w3.heap.size ∧ w.heap.size + 1 < w3.heap.size ∧ w.heap.size + 1 + 1 < w3.heap.size := by have := hb3.size; omega
  obtain ⟨k30, k31, k32⟩ := k3
  go_wp2_with fail
  refine (HN.out _).mono ?_
  rintro e w4 ⟨rfl, hb4⟩
  obtain ⟨hc4, hf4⟩ := bcell_below hb4
  have k4 : w.heap.size < w4.heap.size ∧ w.heap.size + 1 < w4.heap.size ∧ w.heap.size + 1 + 1 < w4.heap.size := by have := hb4.size; omega
  obtain ⟨k40, k41, k42⟩ := k4
  go_wp2_with fail
  refine (HZ.out _).mono ?_
  rintro e w5 ⟨rfl, hb5⟩
  obtain ⟨hc5, hf5⟩ := bcell_below hb5
  have k5 : w.heap.size < w5.heap.size ∧ w.heap.size + 1 < w5.heap.size ∧ w.heap.size + 1 + 1 < w5.heap.size := by have := hb5.size; omega
  obtain ⟨k50, k51, k52⟩ := k5
  go_wp2_with fail
  go_ret
  exact ⟨rfl, below_step (below_step (below_step (below_step (below_step ((((Below.refl _ _).alloc (Nat.le_refl _) _).alloc (by simp) _).alloc (by simp; omega) _) hb1) hb2) hb3) hb4) hb5⟩

set_option maxRecDepth 100000 in
set_option maxHeartbeats 800000 in
theorem lt_lt_a (H : StampHave) (t r t' r' t'' r'' z : Int) (w : World)
    (HX : Hid (∀ W : World, Calls Try.prog 16 #[.agg #[.int .i64 t, .int .i64 r], .agg #[.int .i64 t', .int .i64 r']] W fun e w' => e = .returned (.int .i64 (-1)) ∧ Below W.heap.size W w'))
    (HN : Hid (∀ W : World, Calls Try.prog 16 #[.agg #[.int .i64 t', .int .i64 r'], .agg #[.int .i64 t, .int .i64 r]] W fun e w' => e = .returned (.int .i64 1) ∧ Below W.heap.size W w'))
    (HY : Hid (∀ W : World, Calls Try.prog 16 #[.agg #[.int .i64 t', .int .i64 r'], .agg #[.int .i64 t'', .int .i64 r'']] W fun e w' => e = .returned (.int .i64 (-1)) ∧ Below W.heap.size W w'))
    (HZ : Hid (∀ W : World, Calls Try.prog 16 #[.agg #[.int .i64 t, .int .i64 r], .agg #[.int .i64 t'', .int .i64 r'']] W fun e w' => e = .returned (.int .i64 z) ∧ Below W.heap.size W w'))
    (_hne : (t == t') = false) (_hz : z < 0) :
    Calls Try.prog 4 #[.agg #[.int .i64 t, .int .i64 r], .agg #[.int .i64 t', .int .i64 r'], .agg #[.int .i64 t'', .int .i64 r'']] w fun e w' => e = .returned (.bool true) ∧ Below w.heap.size w w' := by
  go_enter Try.func4, Try.ntmps4
  go_wp2_with fail
  refine (H.shown _).mono ?_
  rintro e w1 ⟨rfl, hb1⟩
  obtain ⟨hc1, hf1⟩ := bcell_below hb1
  have k1 : w.heap.size < w1.heap.size ∧ w.heap.size + 1 < w1.heap.size ∧ w.heap.size + 1 + 1 < w1.heap.size := by have := hb1.size; simp at this; omega
  obtain ⟨k10, k11, k12⟩ := k1
  go_wp2_with fail
  refine (HX.out _).mono ?_
  rintro e w2 ⟨rfl, hb2⟩
  obtain ⟨hc2, hf2⟩ := bcell_below hb2
  have k2 : w.heap.size < w2.heap.size ∧ w.heap.size + 1 < w2.heap.size ∧ w.heap.size + 1 + 1 < w2.heap.size := by have := hb2.size; omega
  obtain ⟨k20, k21, k22⟩ := k2
  go_wp2_with fail
  refine (HY.out _).mono ?_
  rintro e w3 ⟨rfl, hb3⟩
  obtain ⟨hc3, hf3⟩ := bcell_below hb3
  have k3 : w.heap.size < w3.heap.size ∧ w.heap.size + 1 < w3.heap.size ∧ w.heap.size + 1 + 1 < w3.heap.size := by have := hb3.size; omega
  obtain ⟨k30, k31, k32⟩ := k3
  go_wp2_with fail
  refine (HN.out _).mono ?_
  rintro e w4 ⟨rfl, hb4⟩
  obtain ⟨hc4, hf4⟩ := bcell_below hb4
  have k4 : w.heap.size < w4.heap.size ∧ w.heap.size + 1 < w4.heap.size ∧ w.heap.size + 1 + 1 < w4.heap.size := by have := hb4.size; omega
  obtain ⟨k40, k41, k42⟩ := k4
  go_wp2_with fail
  refine (HZ.out _).mono ?_
  rintro e w5 ⟨rfl, hb5⟩
  obtain ⟨hc5, hf5⟩ := bcell_below hb5
  have k5 : w.heap.size < w5.heap.size ∧ w.heap.size + 1 < w5.heap.size ∧ w.heap.size + 1 + 1 < w5.heap.size := by have := hb5.size; omega
  obtain ⟨k50, k51, k52⟩ := k5
  go_wp2_with fail
  refine (HZ.out _).mono ?_
  rintro e w6 ⟨rfl, hb6⟩
  obtain ⟨hc6, hf6⟩ := bcell_below hb6
  have k6 : w.heap.size < w6.heap.size ∧ w.heap.size + 1 < w6.heap.size ∧ w.heap.size + 1 + 1 < w6.heap.size := by have := hb6.size; omega
  obtain ⟨k60, k61, k62⟩ := k6
  go_wp2_with fail
  go_ret
  exact ⟨rfl, below_step (below_step (below_step (below_step (below_step (below_step ((((Below.refl _ _).alloc (Nat.le_refl _) _).alloc (by simp) _).alloc (by simp; omega) _) hb1) hb2) hb3) hb4) hb5) hb6⟩

set_option maxRecDepth 100000 in
set_option maxHeartbeats 800000 in
theorem gt_b (H : StampHave) (t r r' t'' r'' y : Int) (w : World)
    (HX : Hid (∀ W : World, Calls Try.prog 16 #[.agg #[.int .i64 t, .int .i64 r], .agg #[.int .i64 t, .int .i64 r']] W fun e w' => e = .returned (.int .i64 1) ∧ Below W.heap.size W w'))
    (HN : Hid (∀ W : World, Calls Try.prog 16 #[.agg #[.int .i64 t, .int .i64 r'], .agg #[.int .i64 t, .int .i64 r]] W fun e w' => e = .returned (.int .i64 (-1)) ∧ Below W.heap.size W w'))
    (HY : Hid (∀ W : World, Calls Try.prog 16 #[.agg #[.int .i64 t, .int .i64 r'], .agg #[.int .i64 t'', .int .i64 r'']] W fun e w' => e = .returned (.int .i64 y) ∧ Below W.heap.size W w'))
    (_hne : (r == r') = false) :
    Calls Try.prog 4 #[.agg #[.int .i64 t, .int .i64 r], .agg #[.int .i64 t, .int .i64 r'], .agg #[.int .i64 t'', .int .i64 r'']] w fun e w' => e = .returned (.bool true) ∧ Below w.heap.size w w' := by
  go_enter Try.func4, Try.ntmps4
  go_wp2_with fail
  refine (H.shown _).mono ?_
  rintro e w1 ⟨rfl, hb1⟩
  obtain ⟨hc1, hf1⟩ := bcell_below hb1
  have k1 : w.heap.size < w1.heap.size ∧ w.heap.size + 1 < w1.heap.size ∧ w.heap.size + 1 + 1 < w1.heap.size := by have := hb1.size; simp at this; omega
  obtain ⟨k10, k11, k12⟩ := k1
  go_wp2_with fail
  refine (HX.out _).mono ?_
  rintro e w2 ⟨rfl, hb2⟩
  obtain ⟨hc2, hf2⟩ := bcell_below hb2
  have k2 : w.heap.size < w2.heap.size ∧ w.heap.size + 1 < w2.heap.size ∧ w.heap.size + 1 + 1 < w2.heap.size := by have := hb2.size; omega
  obtain ⟨k20, k21, k22⟩ := k2
  go_wp2_with fail
  refine (HY.out _).mono ?_
  rintro e w3 ⟨rfl, hb3⟩
  obtain ⟨hc3, hf3⟩ := bcell_below hb3
  have k3 : w.heap.size < w3.heap.size ∧ w.heap.size + 1 < w3.heap.size ∧ w.heap.size + 1 + 1 < w3.heap.size := by have := hb3.size; omega
  obtain ⟨k30, k31, k32⟩ := k3
  go_wp2_with fail
  refine (HN.out _).mono ?_
  rintro e w4 ⟨rfl, hb4⟩
  obtain ⟨hc4, hf4⟩ := bcell_below hb4
  have k4 : w.heap.size < w4.heap.size ∧ w.heap.size + 1 < w4.heap.size ∧ w.heap.size + 1 + 1 < w4.heap.size := by have := hb4.size; omega
  obtain ⟨k40, k41, k42⟩ := k4
  go_wp2_with fail
  go_ret
  exact ⟨rfl, below_step (below_step (below_step (below_step ((((Below.refl _ _).alloc (Nat.le_refl _) _).alloc (by simp) _).alloc (by simp; omega) _) hb1) hb2) hb3) hb4⟩

set_option maxRecDepth 100000 in
set_option maxHeartbeats 800000 in
theorem lt_gt_b (H : StampHave) (t r r' t'' r'' : Int) (w : World)
    (HX : Hid (∀ W : World, Calls Try.prog 16 #[.agg #[.int .i64 t, .int .i64 r], .agg #[.int .i64 t, .int .i64 r']] W fun e w' => e = .returned (.int .i64 (-1)) ∧ Below W.heap.size W w'))
    (HN : Hid (∀ W : World, Calls Try.prog 16 #[.agg #[.int .i64 t, .int .i64 r'], .agg #[.int .i64 t, .int .i64 r]] W fun e w' => e = .returned (.int .i64 1) ∧ Below W.heap.size W w'))
    (HY : Hid (∀ W : World, Calls Try.prog 16 #[.agg #[.int .i64 t, .int .i64 r'], .agg #[.int .i64 t'', .int .i64 r'']] W fun e w' => e = .returned (.int .i64 1) ∧ Below W.heap.size W w'))
    (_hne : (r == r') = false) :
    Calls Try.prog 4 #[.agg #[.int .i64 t, .int .i64 r], .agg #[.int .i64 t, .int .i64 r'], .agg #[.int .i64 t'', .int .i64 r'']] w fun e w' => e = .returned (.bool true) ∧ Below w.heap.size w w' := by
  go_enter Try.func4, Try.ntmps4
  go_wp2_with fail
  refine (H.shown _).mono ?_
  rintro e w1 ⟨rfl, hb1⟩
  obtain ⟨hc1, hf1⟩ := bcell_below hb1
  have k1 : w.heap.size < w1.heap.size ∧ w.heap.size + 1 < w1.heap.size ∧ w.heap.size + 1 + 1 < w1.heap.size := by have := hb1.size; simp at this; omega
  obtain ⟨k10, k11, k12⟩ := k1
  go_wp2_with fail
  refine (HX.out _).mono ?_
  rintro e w2 ⟨rfl, hb2⟩
  obtain ⟨hc2, hf2⟩ := bcell_below hb2
  have k2 : w.heap.size < w2.heap.size ∧ w.heap.size + 1 < w2.heap.size ∧ w.heap.size + 1 + 1 < w2.heap.size := by have := hb2.size; omega
  obtain ⟨k20, k21, k22⟩ := k2
  go_wp2_with fail
  refine (HY.out _).mono ?_
  rintro e w3 ⟨rfl, hb3⟩
  obtain ⟨hc3, hf3⟩ := bcell_below hb3
  have k3 : w.heap.size < w3.heap.size ∧ w.heap.size + 1 < w3.heap.size ∧ w.heap.size + 1 + 1 < w3.heap.size := by have := hb3.size; omega
  obtain ⟨k30, k31, k32⟩ := k3
  go_wp2_with fail
  refine (HN.out _).mono ?_
  rintro e w4 ⟨rfl, hb4⟩
  obtain ⟨hc4, hf4⟩ := bcell_below hb4
  have k4 : w.heap.size < w4.heap.size ∧ w.heap.size + 1 < w4.heap.size ∧ w.heap.size + 1 + 1 < w4.heap.size := by have := hb4.size; omega
  obtain ⟨k40, k41, k42⟩ := k4
  go_wp2_with fail
  go_ret
  exact ⟨rfl, below_step (below_step (below_step (below_step ((((Below.refl _ _).alloc (Nat.le_refl _) _).alloc (by simp) _).alloc (by simp; omega) _) hb1) hb2) hb3) hb4⟩

set_option maxRecDepth 100000 in
set_option maxHeartbeats 800000 in
theorem lt_eq_b (H : StampHave) (t r r' t'' r'' z : Int) (w : World)
    (HX : Hid (∀ W : World, Calls Try.prog 16 #[.agg #[.int .i64 t, .int .i64 r], .agg #[.int .i64 t, .int .i64 r']] W fun e w' => e = .returned (.int .i64 (-1)) ∧ Below W.heap.size W w'))
    (HN : Hid (∀ W : World, Calls Try.prog 16 #[.agg #[.int .i64 t, .int .i64 r'], .agg #[.int .i64 t, .int .i64 r]] W fun e w' => e = .returned (.int .i64 1) ∧ Below W.heap.size W w'))
    (HY : Hid (∀ W : World, Calls Try.prog 16 #[.agg #[.int .i64 t, .int .i64 r'], .agg #[.int .i64 t'', .int .i64 r'']] W fun e w' => e = .returned (.int .i64 0) ∧ Below W.heap.size W w'))
    (HZ : Hid (∀ W : World, Calls Try.prog 16 #[.agg #[.int .i64 t, .int .i64 r], .agg #[.int .i64 t'', .int .i64 r'']] W fun e w' => e = .returned (.int .i64 z) ∧ Below W.heap.size W w'))
    (_hne : (r == r') = false) (_hz : z ≤ 0) :
    Calls Try.prog 4 #[.agg #[.int .i64 t, .int .i64 r], .agg #[.int .i64 t, .int .i64 r'], .agg #[.int .i64 t'', .int .i64 r'']] w fun e w' => e = .returned (.bool true) ∧ Below w.heap.size w w' := by
  go_enter Try.func4, Try.ntmps4
  go_wp2_with fail
  refine (H.shown _).mono ?_
  rintro e w1 ⟨rfl, hb1⟩
  obtain ⟨hc1, hf1⟩ := bcell_below hb1
  have k1 : w.heap.size < w1.heap.size ∧ w.heap.size + 1 < w1.heap.size ∧ w.heap.size + 1 + 1 < w1.heap.size := by have := hb1.size; simp at this; omega
  obtain ⟨k10, k11, k12⟩ := k1
  go_wp2_with fail
  refine (HX.out _).mono ?_
  rintro e w2 ⟨rfl, hb2⟩
  obtain ⟨hc2, hf2⟩ := bcell_below hb2
  have k2 : w.heap.size < w2.heap.size ∧ w.heap.size + 1 < w2.heap.size ∧ w.heap.size + 1 + 1 < w2.heap.size := by have := hb2.size; omega
  obtain ⟨k20, k21, k22⟩ := k2
  go_wp2_with fail
  refine (HY.out _).mono ?_
  rintro e w3 ⟨rfl, hb3⟩
  obtain ⟨hc3, hf3⟩ := bcell_below hb3
  have k3 : w.heap.size < w3.heap.size ∧ w.heap.size + 1 < w3.heap.size ∧ w.heap.size + 1 + 1 < w3.heap.size := by have := hb3.size; omega
  obtain ⟨k30, k31, k32⟩ := k3
  go_wp2_with fail
  refine (HN.out _).mono ?_
  rintro e w4 ⟨rfl, hb4⟩
  obtain ⟨hc4, hf4⟩ := bcell_below hb4
  have k4 : w.heap.size < w4.heap.size ∧ w.heap.size + 1 < w4.heap.size ∧ w.heap.size + 1 + 1 < w4.heap.size := by have := hb4.size; omega
  obtain ⟨k40, k41, k42⟩ := k4
  go_wp2_with fail
  refine (HZ.out _).mono ?_
  rintro e w5 ⟨rfl, hb5⟩
  obtain ⟨hc5, hf5⟩ := bcell_below hb5
  have k5 : w.heap.size < w5.heap.size ∧ w.heap.size + 1 < w5.heap.size ∧ w.heap.size + 1 + 1 < w5.heap.size := by have := hb5.size; omega
  obtain ⟨k50, k51, k52⟩ := k5
  go_wp2_with fail
  go_ret
  exact ⟨rfl, below_step (below_step (below_step (below_step (below_step ((((Below.refl _ _).alloc (Nat.le_refl _) _).alloc (by simp) _).alloc (by simp; omega) _) hb1) hb2) hb3) hb4) hb5⟩

set_option maxRecDepth 100000 in
set_option maxHeartbeats 800000 in
theorem lt_lt_b (H : StampHave) (t r r' t'' r'' z : Int) (w : World)
    (HX : Hid (∀ W : World, Calls Try.prog 16 #[.agg #[.int .i64 t, .int .i64 r], .agg #[.int .i64 t, .int .i64 r']] W fun e w' => e = .returned (.int .i64 (-1)) ∧ Below W.heap.size W w'))
    (HN : Hid (∀ W : World, Calls Try.prog 16 #[.agg #[.int .i64 t, .int .i64 r'], .agg #[.int .i64 t, .int .i64 r]] W fun e w' => e = .returned (.int .i64 1) ∧ Below W.heap.size W w'))
    (HY : Hid (∀ W : World, Calls Try.prog 16 #[.agg #[.int .i64 t, .int .i64 r'], .agg #[.int .i64 t'', .int .i64 r'']] W fun e w' => e = .returned (.int .i64 (-1)) ∧ Below W.heap.size W w'))
    (HZ : Hid (∀ W : World, Calls Try.prog 16 #[.agg #[.int .i64 t, .int .i64 r], .agg #[.int .i64 t'', .int .i64 r'']] W fun e w' => e = .returned (.int .i64 z) ∧ Below W.heap.size W w'))
    (_hne : (r == r') = false) (_hz : z < 0) :
    Calls Try.prog 4 #[.agg #[.int .i64 t, .int .i64 r], .agg #[.int .i64 t, .int .i64 r'], .agg #[.int .i64 t'', .int .i64 r'']] w fun e w' => e = .returned (.bool true) ∧ Below w.heap.size w w' := by
  go_enter Try.func4, Try.ntmps4
  go_wp2_with fail
  refine (H.shown _).mono ?_
  rintro e w1 ⟨rfl, hb1⟩
  obtain ⟨hc1, hf1⟩ := bcell_below hb1
  have k1 : w.heap.size < w1.heap.size ∧ w.heap.size + 1 < w1.heap.size ∧ w.heap.size + 1 + 1 < w1.heap.size := by have := hb1.size; simp at this; omega
  obtain ⟨k10, k11, k12⟩ := k1
  go_wp2_with fail
  refine (HX.out _).mono ?_
  rintro e w2 ⟨rfl, hb2⟩
  obtain ⟨hc2, hf2⟩ := bcell_below hb2
  have k2 : w.heap.size < w2.heap.size ∧ w.heap.size + 1 < w2.heap.size ∧ w.heap.size + 1 + 1 < w2.heap.size := by have := hb2.size; omega
  obtain ⟨k20, k21, k22⟩ := k2
  go_wp2_with fail
  refine (HY.out _).mono ?_
  rintro e w3 ⟨rfl, hb3⟩
  obtain ⟨hc3, hf3⟩ := bcell_below hb3
  have k3 : w.heap.size < w3.heap.size ∧ w.heap.size + 1 < w3.heap.size ∧ w.heap.size + 1 + 1 < w3.heap.size := by have := hb3.size; omega
  obtain ⟨k30, k31, k32⟩ := k3
  go_wp2_with fail
  refine (HN.out _).mono ?_
  rintro e w4 ⟨rfl, hb4⟩
  obtain ⟨hc4, hf4⟩ := bcell_below hb4
  have k4 : w.heap.size < w4.heap.size ∧ w.heap.size + 1 < w4.heap.size ∧ w.heap.size + 1 + 1 < w4.heap.size := by have := hb4.size; omega
  obtain ⟨k40, k41, k42⟩ := k4
  go_wp2_with fail
  refine (HZ.out _).mono ?_
  rintro e w5 ⟨rfl, hb5⟩
  obtain ⟨hc5, hf5⟩ := bcell_below hb5
  have k5 : w.heap.size < w5.heap.size ∧ w.heap.size + 1 < w5.heap.size ∧ w.heap.size + 1 + 1 < w5.heap.size := by have := hb5.size; omega
  obtain ⟨k50, k51, k52⟩ := k5
  go_wp2_with fail
  refine (HZ.out _).mono ?_
  rintro e w6 ⟨rfl, hb6⟩
  obtain ⟨hc6, hf6⟩ := bcell_below hb6
  have k6 : w.heap.size < w6.heap.size ∧ w.heap.size + 1 < w6.heap.size ∧ w.heap.size + 1 + 1 < w6.heap.size := by have := hb6.size; omega
  obtain ⟨k60, k61, k62⟩ := k6
  go_wp2_with fail
  go_ret
  exact ⟨rfl, below_step (below_step (below_step (below_step (below_step (below_step ((((Below.refl _ _).alloc (Nat.le_refl _) _).alloc (by simp) _).alloc (by simp; omega) _) hb1) hb2) hb3) hb4) hb5) hb6⟩

set_option maxRecDepth 100000 in
set_option maxHeartbeats 800000 in
theorem eq_gt (H : StampHave) (t r t'' r'' y : Int) (w : World)
    (HX : Hid (∀ W : World, Calls Try.prog 16 #[.agg #[.int .i64 t, .int .i64 r], .agg #[.int .i64 t, .int .i64 r]] W fun e w' => e = .returned (.int .i64 0) ∧ Below W.heap.size W w'))
    (HN : Hid (∀ W : World, Calls Try.prog 16 #[.agg #[.int .i64 t, .int .i64 r], .agg #[.int .i64 t, .int .i64 r]] W fun e w' => e = .returned (.int .i64 0) ∧ Below W.heap.size W w'))
    (HY : Hid (∀ W : World, Calls Try.prog 16 #[.agg #[.int .i64 t, .int .i64 r], .agg #[.int .i64 t'', .int .i64 r'']] W fun e w' => e = .returned (.int .i64 y) ∧ Below W.heap.size W w'))
    (_hy : 0 < y) :
    Calls Try.prog 4 #[.agg #[.int .i64 t, .int .i64 r], .agg #[.int .i64 t, .int .i64 r], .agg #[.int .i64 t'', .int .i64 r'']] w fun e w' => e = .returned (.bool true) ∧ Below w.heap.size w w' := by
  go_enter Try.func4, Try.ntmps4
  go_wp2_with fail
  refine (H.shown _).mono ?_
  rintro e w1 ⟨rfl, hb1⟩
  obtain ⟨hc1, hf1⟩ := bcell_below hb1
  have k1 : w.heap.size < w1.heap.size ∧ w.heap.size + 1 < w1.heap.size ∧ w.heap.size + 1 + 1 < w1.heap.size := by have := hb1.size; simp at this; omega
  obtain ⟨k10, k11, k12⟩ := k1
  go_wp2_with fail
  refine (HX.out _).mono ?_
  rintro e w2 ⟨rfl, hb2⟩
  obtain ⟨hc2, hf2⟩ := bcell_below hb2
  have k2 : w.heap.size < w2.heap.size ∧ w.heap.size + 1 < w2.heap.size ∧ w.heap.size + 1 + 1 < w2.heap.size := by have := hb2.size; omega
  obtain ⟨k20, k21, k22⟩ := k2
  go_wp2_with fail
  refine (HY.out _).mono ?_
  rintro e w3 ⟨rfl, hb3⟩
  obtain ⟨hc3, hf3⟩ := bcell_below hb3
  have k3 : w.heap.size < w3.heap.size ∧ w.heap.size + 1 < w3.heap.size ∧ w.heap.size + 1 + 1 < w3.heap.size := by have := hb3.size; omega
  obtain ⟨k30, k31, k32⟩ := k3
  go_wp2_with fail
  refine (HN.out _).mono ?_
  rintro e w4 ⟨rfl, hb4⟩
  obtain ⟨hc4, hf4⟩ := bcell_below hb4
  have k4 : w.heap.size < w4.heap.size ∧ w.heap.size + 1 < w4.heap.size ∧ w.heap.size + 1 + 1 < w4.heap.size := by have := hb4.size; omega
  obtain ⟨k40, k41, k42⟩ := k4
  go_wp2_with fail
  go_ret
  exact ⟨rfl, below_step (below_step (below_step (below_step ((((Below.refl _ _).alloc (Nat.le_refl _) _).alloc (by simp) _).alloc (by simp; omega) _) hb1) hb2) hb3) hb4⟩

set_option maxRecDepth 100000 in
set_option maxHeartbeats 800000 in
theorem eq_le (H : StampHave) (t r t'' r'' y z : Int) (w : World)
    (HX : Hid (∀ W : World, Calls Try.prog 16 #[.agg #[.int .i64 t, .int .i64 r], .agg #[.int .i64 t, .int .i64 r]] W fun e w' => e = .returned (.int .i64 0) ∧ Below W.heap.size W w'))
    (HN : Hid (∀ W : World, Calls Try.prog 16 #[.agg #[.int .i64 t, .int .i64 r], .agg #[.int .i64 t, .int .i64 r]] W fun e w' => e = .returned (.int .i64 0) ∧ Below W.heap.size W w'))
    (HY : Hid (∀ W : World, Calls Try.prog 16 #[.agg #[.int .i64 t, .int .i64 r], .agg #[.int .i64 t'', .int .i64 r'']] W fun e w' => e = .returned (.int .i64 y) ∧ Below W.heap.size W w'))
    (HZ : Hid (∀ W : World, Calls Try.prog 16 #[.agg #[.int .i64 t, .int .i64 r], .agg #[.int .i64 t'', .int .i64 r'']] W fun e w' => e = .returned (.int .i64 z) ∧ Below W.heap.size W w'))
    (_hy : ¬ 0 < y) (_hz : z ≤ 0) :
    Calls Try.prog 4 #[.agg #[.int .i64 t, .int .i64 r], .agg #[.int .i64 t, .int .i64 r], .agg #[.int .i64 t'', .int .i64 r'']] w fun e w' => e = .returned (.bool true) ∧ Below w.heap.size w w' := by
  go_enter Try.func4, Try.ntmps4
  go_wp2_with fail
  refine (H.shown _).mono ?_
  rintro e w1 ⟨rfl, hb1⟩
  obtain ⟨hc1, hf1⟩ := bcell_below hb1
  have k1 : w.heap.size < w1.heap.size ∧ w.heap.size + 1 < w1.heap.size ∧ w.heap.size + 1 + 1 < w1.heap.size := by have := hb1.size; simp at this; omega
  obtain ⟨k10, k11, k12⟩ := k1
  go_wp2_with fail
  refine (HX.out _).mono ?_
  rintro e w2 ⟨rfl, hb2⟩
  obtain ⟨hc2, hf2⟩ := bcell_below hb2
  have k2 : w.heap.size < w2.heap.size ∧ w.heap.size + 1 < w2.heap.size ∧ w.heap.size + 1 + 1 < w2.heap.size := by have := hb2.size; omega
  obtain ⟨k20, k21, k22⟩ := k2
  go_wp2_with fail
  refine (HY.out _).mono ?_
  rintro e w3 ⟨rfl, hb3⟩
  obtain ⟨hc3, hf3⟩ := bcell_below hb3
  have k3 : w.heap.size < w3.heap.size ∧ w.heap.size + 1 < w3.heap.size ∧ w.heap.size + 1 + 1 < w3.heap.size := by have := hb3.size; omega
  obtain ⟨k30, k31, k32⟩ := k3
  go_wp2_with fail
  refine (HN.out _).mono ?_
  rintro e w4 ⟨rfl, hb4⟩
  obtain ⟨hc4, hf4⟩ := bcell_below hb4
  have k4 : w.heap.size < w4.heap.size ∧ w.heap.size + 1 < w4.heap.size ∧ w.heap.size + 1 + 1 < w4.heap.size := by have := hb4.size; omega
  obtain ⟨k40, k41, k42⟩ := k4
  go_wp2_with fail
  refine (HZ.out _).mono ?_
  rintro e w5 ⟨rfl, hb5⟩
  obtain ⟨hc5, hf5⟩ := bcell_below hb5
  have k5 : w.heap.size < w5.heap.size ∧ w.heap.size + 1 < w5.heap.size ∧ w.heap.size + 1 + 1 < w5.heap.size := by have := hb5.size; omega
  obtain ⟨k50, k51, k52⟩ := k5
  go_wp2_with fail
  go_ret
  exact ⟨rfl, below_step (below_step (below_step (below_step (below_step ((((Below.refl _ _).alloc (Nat.le_refl _) _).alloc (by simp) _).alloc (by simp; omega) _) hb1) hb2) hb3) hb4) hb5⟩

theorem walk0 (H : StampHave) (t r t' r' t'' r'' : Int) (w : World) :
    Calls Try.prog 4 #[.agg #[.int .i64 t, .int .i64 r], .agg #[.int .i64 t', .int .i64 r'], .agg #[.int .i64 t'', .int .i64 r'']] w fun e w' => e = .returned (.bool true) ∧ Below w.heap.size w w' := by
  have hX := H.compare t r t' r'
  have hN := H.compare t' r' t r
  have hY := H.compare t' r' t'' r''
  have hZ := H.compare t r t'' r''
  have cX := cmp_cases t r t' r'
  have cY := cmp_range t' r' t'' r''
  obtain ⟨c1, c2⟩ := cmp_trans t r t' r' t'' r''
  rw [cmp_turn t r t' r'] at hN
  generalize cmp t r t' r' = x at *
  generalize cmp t' r' t'' r'' = y at *
  generalize cmp t r t'' r'' = z at *
  by_cases h1 : t = t'
  · subst h1
    by_cases h2 : r = r'
    · subst h2
      have hx : x = 0 := by omega
      subst hx
      by_cases h3 : 0 < y
      · exact eq_gt H t r t'' r'' y w hX hN hY h3
      · exact eq_le H t r t'' r'' y z w hX hN hY hZ h3 (by omega)
    · have hne : (r == r') = false := by simpa using h2
      have hx : x = 1 ∨ x = -1 := by omega
      rcases hx with rfl | rfl
      · exact gt_b H t r r' t'' r'' y w hX hN hY hne
      · rcases cY with rfl | rfl | rfl
        · exact lt_lt_b H t r r' t'' r'' z w hX hN hY hZ hne (by omega)
        · exact lt_eq_b H t r r' t'' r'' z w hX hN hY hZ hne (by omega)
        · exact lt_gt_b H t r r' t'' r'' w hX hN hY hne
  · have hne : (t == t') = false := by simpa using h1
    have hx : x = 1 ∨ x = -1 := by omega
    rcases hx with rfl | rfl
    · exact gt_a H t r t' r' t'' r'' y w hX hN hY hne
    · rcases cY with rfl | rfl | rfl
      · exact lt_lt_a H t r t' r' t'' r'' z w hX hN hY hZ hne (by omega)
      · exact lt_eq_a H t r t' r' t'' r'' z w hX hN hY hZ hne (by omega)
      · exact lt_gt_a H t r t' r' t'' r'' w hX hN hY hne

theorem walk (a0t a0r a1t a1r a2t a2r : Int) (_w0t : (Lit.int .i64 a0t).wf = true) (_w0r : (Lit.int .i64 a0r).wf = true) (_w1t : (Lit.int .i64 a1t).wf = true) (_w1r : (Lit.int .i64 a1r).wf = true) (_w2t : (Lit.int .i64 a2t).wf = true) (_w2r : (Lit.int .i64 a2r).wf = true) (w : World) :
    Calls Try.prog 4 #[.agg #[.int .i64 a0t, .int .i64 a0r], .agg #[.int .i64 a1t, .int .i64 a1r], .agg #[.int .i64 a2t, .int .i64 a2r]] w fun e w' => e = .returned (.bool true) ∧ Below w.heap.size w w' :=
  walk0 stampHave a0t a0r a1t a1r a2t a2r w
end Go.Proofs.Ytgfgcfmifebnbaa.lawStampOrder

namespace Go.Proofs.Ytgfgcfmifebnbaa.lawStampOrder
open Go.ChangeShapes Go.WideShapes Go.ChangeAt Go.RowKit
open Go.ChangeMaps (open_string shut_string)

theorem own : ownKnob Try.prog.godebug = none := by kernel_rfl
theorem laidOut : laidOutB Try.prog = true := by kernel_rfl

set_option maxRecDepth 100000 in
theorem lifted (os : Os) (started : os.Started) (H : Type) (enc : TypeId × Value → H) :
    ReturnsInHanded {} Try.checked os 4 .any (Rows.stampOrderSpec.pre6 enc Try.prog Try.f4 Rows.stampOrderRow.domain false) (Rows.stampOrderSpec.post enc Try.prog Try.f4 false true false false) := by
  refine returnsInHanded_of_change (C := Try.checked) own started (by kernel_rfl) Try.func4
    (ChangeSpec.witness6 (enc := enc) (C := Try.checked) false ⟨#[], #[.agg #[.int .i64 0, .int .i64 0], .agg #[.int .i64 0, .int .i64 0], .agg #[.int .i64 0, .int .i64 0]], []⟩ 8 (by kernel_rfl) (by kernel_rfl) (by kernel_rfl) (by kernel_rfl)) ?_
  intro W base args ds gs before hval0 hW hcnd _
  have hval : ∀ (j : Nat) t v, Try.f4.params[j]? = some t → args[j]? = some v → Value.okWide Try.prog W .any base t v := hval0
  have hW' := hW
  obtain ⟨p, q, hA0, hV, rfl, hfz, hnd⟩ := hW
  have hA : DataW.TrodAll enc Try.prog W 0 (fun _ => true) true Try.f4.params.toList args.toList ds p := hA0
  rw [Try.params4] at hA hval
  obtain ⟨v0, vs0, d0, ds0, p0, q0, hargs, rfl, rfl, h0, r0⟩ := trodAll_cons hA
  obtain ⟨v1, vs1, d1, ds1, p1, q1, rfl, rfl, rfl, h1, r1⟩ := trodAll_cons r0
  obtain ⟨v2, vs2, d2, ds2, p2, q2, rfl, rfl, rfl, h2, r2⟩ := trodAll_cons r1
  obtain ⟨rfl, rfl, rfl⟩ := trodAll_nil r2
  obtain rfl : args = #[v0, v1, v2] := by cases args; simp_all
  obtain ⟨rfl, rfl⟩ := trodVars_none hV
  have k0 := h0
  have lt0 : ∀ x ∈ p0, x.block < W.heap.size := by obtain ⟨m, hm⟩ := k0; exact DataW.trod_lt m _ _ _ hm
  obtain ⟨c0, e0, y0, z0, m0, rfl, hd0, hp0, hy0, hz0⟩ := Joins.open_agg2 Try.underlying23 (by kernel_rfl) (by kernel_rfl) (hval 0 23 v0 rfl rfl) h0
  obtain ⟨a0t, ea0, rfl, w0t⟩ := DataW.trod_int Try.underlying2 hy0
  obtain ⟨a0r, eb0, rfl, w0r⟩ := DataW.trod_int Try.underlying3 hz0
  simp at ea0 eb0
  subst ea0 eb0
  have k1 := h1
  have lt1 : ∀ x ∈ p1, x.block < W.heap.size := by obtain ⟨m, hm⟩ := k1; exact DataW.trod_lt m _ _ _ hm
  obtain ⟨c1, e1, y1, z1, m1, rfl, hd1, hp1, hy1, hz1⟩ := Joins.open_agg2 Try.underlying23 (by kernel_rfl) (by kernel_rfl) (hval 1 23 v1 rfl rfl) h1
  obtain ⟨a1t, ea1, rfl, w1t⟩ := DataW.trod_int Try.underlying2 hy1
  obtain ⟨a1r, eb1, rfl, w1r⟩ := DataW.trod_int Try.underlying3 hz1
  simp at ea1 eb1
  subst ea1 eb1
  have k2 := h2
  have lt2 : ∀ x ∈ p2, x.block < W.heap.size := by obtain ⟨m, hm⟩ := k2; exact DataW.trod_lt m _ _ _ hm
  obtain ⟨c2, e2, y2, z2, m2, rfl, hd2, hp2, hy2, hz2⟩ := Joins.open_agg2 Try.underlying23 (by kernel_rfl) (by kernel_rfl) (hval 2 23 v2 rfl rfl) h2
  obtain ⟨a2t, ea2, rfl, w2t⟩ := DataW.trod_int Try.underlying2 hy2
  obtain ⟨a2r, eb2, rfl, w2r⟩ := DataW.trod_int Try.underlying3 hz2
  simp at ea2 eb2
  subst ea2 eb2
  clear hA0 hval0
  simp only [List.append_nil] at hW'
  refine (walk a0t a0r a1t a1r a2t a2r w0t w0r w1t w1r w2t w2r W).mono fun e W' ⟨he, hb⟩ => ?_
  subst he
  exact ⟨_, rfl, _, _, _, [], _, [], hW', trodAll_mk1 (shut_bool Try.underlying4 _), (trodAll_cons_mk (Below.trod laidOut (by kernel_rfl) (of_decide_eq_true (by kernel_rfl)) k0 hb lt0) (trodAll_cons_mk (Below.trod laidOut (by kernel_rfl) (of_decide_eq_true (by kernel_rfl)) k1 hb lt1) (trodAll_cons_mk (Below.trod laidOut (by kernel_rfl) (of_decide_eq_true (by kernel_rfl)) k2 hb lt2) trodAll_mk0))), rfl, hb.frame _, fun h => by cases h⟩

theorem proved : Rows.StampOrderSaid :=
  OpenClaim.holds_of_wide 4 Try.f4 rfl rfl rfl rfl rfl rfl rfl ⟨rfl, rfl, rfl, rfl, rfl⟩ rfl rfl rfl rfl rfl (by kernel_rfl) Try.func4 (by kernel_rfl)
    (of_decide_eq_true (by kernel_rfl)) (by unfold Func.isWrapper; first | (rw [if_pos (by decide +kernel)]; kernel_rfl) | (rw [if_neg (by decide +kernel)]; exact ⟨rfl, rfl⟩))
    (fun os started H enc _ => lifted os started H enc)
#print axioms proved
end Go.Proofs.Ytgfgcfmifebnbaa.lawStampOrder
