/-
  The walk of the document's own Why: why an operation can't be done.
-/
import Derived.Test.YtlhdbccemgofjaaGreatDoorApplyRefRZ
import Derived.Test.YtlhdbccemgofjaaGreatDoorOpRefMayZ
namespace Go.Proofs.YtlhdbccemgofjaaGreatDoor
open Go.RowKit StampMath GraphMath OpMath

/-- Why can't an operation be done: of what was looked up. -/
def wB (may : Bool) (k mk rn : Int) (hs : Bool) (ki ln : Int) : Int :=
  if may = false then 1 else if k ≤ 4 then mk else if k = 7 then rn else if (k ≤ 6 ∧ hs = false) ∨ ki = 0 then 3 else if (k = 5 ∨ k = 8 ∨ k = 9) ∧ ki = 1 then 5 else if k = 6 ∧ ki ≠ 1 then 6 else if k = 6 ∧ 0 < ln then 7 else if (k = 8 ∨ k = 9) ∧ ki = 3 then 8 else 0

theorem whyA_eq (g : Gr) (o : Opn) : whyA g o = wB (mayO o) o.k (makesW g o) (renamesW g o) (decide (lookE g.E (oAt o) o.name = some (oIno o))) (kindG g (oIno o)) ((listE g.E (oIno o)).length : Int) := by
  unfold whyA wB
  have e0 : ∀ n : Nat, (0 < n) = ((0 : Int) < (n : Int)) := fun n => propext (by omega)
  simp only [e0, ne_eq, decide_eq_false_iff_not]

set_option maxRecDepth 100000 in
set_option maxHeartbeats 3200000 in
theorem GrV.why {w : World} {A : Option Addr} {n c : Nat} {A' : Option Addr} {m d : Nat} {g : Gr} (h : GrV w A n c A' m d g) (o : Opn) (z1 : o.name.size ≤ 9223372036854775807) (z2 : o.new.size ≤ 9223372036854775807) (z3 : o.data.size ≤ 9223372036854775807) :
    Calls Tryz.prog 38 #[.agg #[.slice A n c, .slice A' m d], .agg (opA o)] w fun e w' => e = .returned (.int .i64 (whyA g o)) ∧ Below w.heap.size w w' := by
  have hM := whyA_eq g o
  have MY : Hid (∀ W : World, Calls Tryz.prog 75 #[.agg (opA o)] W fun e w' => e = .returned (.bool (mayO o)) ∧ Below W.heap.size W w') := fun W => refOpMay o z1 z2 z3 W
  have KI : Hid (∀ W : World, Below w.heap.size w W → Calls Tryz.prog 76 #[.agg #[.slice A n c, .slice A' m d], .agg #[.int .i64 o.it, .int .i64 o.ir]] W fun e w' => e = .returned (.int .i64 (kindG g (oIno o))) ∧ Below W.heap.size W w') := fun W hW => (h.step hW).kind (oIno o)
  have MK : Hid (∀ W : World, Below w.heap.size w W → Calls Tryz.prog 77 #[.agg #[.slice A n c, .slice A' m d], .agg (opA o)] W fun e w' => e = .returned (.int .i64 (makesW g o)) ∧ Below W.heap.size W w') := fun W hW => (h.step hW).makes o
  have RN : Hid (∀ W : World, Below w.heap.size w W → Calls Tryz.prog 78 #[.agg #[.slice A n c, .slice A' m d], .agg (opA o)] W fun e w' => e = .returned (.int .i64 (renamesW g o)) ∧ Below W.heap.size W w') := fun W hW => (h.step hW).renames o
  have HS : Hid (∀ W : World, Below w.heap.size w W → Calls Tryz.prog 79 #[.agg #[.slice A n c, .slice A' m d], .agg #[.int .i64 o.pt, .int .i64 o.pr], .string o.name, .agg #[.int .i64 o.it, .int .i64 o.ir]] W fun e w' => e = .returned (.bool (decide (lookE g.E (oAt o) o.name = some (oIno o)))) ∧ Below W.heap.size W w') := fun W hW => (h.step hW).has (oAt o) o.name (oIno o)
  have LI : Hid (∀ W : World, Below w.heap.size w W → Calls Tryz.prog 80 #[.agg #[.slice A n c, .slice A' m d], .agg #[.int .i64 o.it, .int .i64 o.ir]] W fun e w' => ∃ B k, e = .returned (.slice B (listE g.E (oIno o)).length k) ∧ Below W.heap.size W w') := fun W hW => ((h.step hW).list (oIno o)).mono fun _ _ ⟨B, k, he, _, _, _, _, hb⟩ => ⟨B, k, he, hb⟩
  generalize decide (lookE g.E (oAt o) o.name = some (oIno o)) = hs at HS hM
  generalize kindG g (oIno o) = ki at KI hM
  generalize (listE g.E (oIno o)).length = ln at LI hM
  generalize makesW g o = mk at MK hM
  generalize renamesW g o = rn at RN hM
  generalize mayO o = may at MY hM
  generalize whyA g o = r at hM ⊢
  have HM := Lib.hid hM
  have hb0 : Held w [(w.heap.size + 1, .cells (opA o) 37), (w.heap.size, .cells #[.slice A n c, .slice A' m d] 30)]
    ((w.alloc (.cells #[.slice A n c, .slice A' m d] 30)).alloc (.cells (opA o) 37)) :=
    ((Held.refl w).alloc (.cells #[.slice A n c, .slice A' m d] 30) rfl).alloc (.cells (opA o) 37) (by simp)
  clear h hM z1 z2 z3
  unfold opA at MY MK RN ⊢
  go_enter Tryz.func38, Tryz.ntmps38
  go_upto_region 1 with fail
  change Code.wp _ _ _ _ ((w.alloc (.cells #[.slice A n c, .slice A' m d] 30)).alloc (.cells (opA o) 37))
  generalize (w.alloc (.cells #[.slice A n c, .slice A' m d] 30)).alloc (.cells (opA o) 37) = w2 at hb0 ⊢
  have d1 := fun y => later_cell (two_cells (g := w.heap.size) (hb0.at 1 rfl)).1 y
  have d2 := fun y => later_cell (two_cells (g := w.heap.size) (hb0.at 1 rfl)).2 y
  have O := Lib.hid (op_later (hb0.at 0 rfl))
  have f0 := fun y => (O.out y).1
  have f1 := fun y => (O.out y).2.1
  have f2 := fun y => (O.out y).2.2.1
  have f3 := fun y => (O.out y).2.2.2.1
  have f4 := fun y => (O.out y).2.2.2.2.1
  have f5 := fun y => (O.out y).2.2.2.2.2.1
  have f6 := fun y => (O.out y).2.2.2.2.2.2.1
  have f7 := fun y => (O.out y).2.2.2.2.2.2.2.1
  have f8 := fun y => (O.out y).2.2.2.2.2.2.2.2.1
  have f9 := fun y => (O.out y).2.2.2.2.2.2.2.2.2.1
  have f10 := fun y => (O.out y).2.2.2.2.2.2.2.2.2.2.1
  have f11 := fun y => (O.out y).2.2.2.2.2.2.2.2.2.2.2.1
  have f12 := fun y => (O.out y).2.2.2.2.2.2.2.2.2.2.2.2
  have HB := Lib.hid hb0.below
  have MY' : Hid (∀ y, Calls Tryz.prog 75 #[.agg #[.int .i64 o.st, .int .i64 o.sr, .int .i64 o.k, .int .i64 o.pt, .int .i64 o.pr, .int .i64 o.it, .int .i64 o.ir, .int .i64 o.tt, .int .i64 o.tr, .string o.name, .string o.new, .int .i64 o.off, .string o.data]] (later w2 y) fun e w'' => e = .returned (.bool may) ∧ ∃ z, w'' = later w2 z) := fun y => later_call (MY.out _)
  have KI' : Hid (∀ y, Calls Tryz.prog 76 #[.agg #[.slice A n c, .slice A' m d], .agg #[.int .i64 o.it, .int .i64 o.ir]] (later w2 y) fun e w'' => e = .returned (.int .i64 ki) ∧ ∃ z, w'' = later w2 z) := fun y => later_call (KI.out _ (below_step HB.out (later_below w2 y)))
  have MK' : Hid (∀ y, Calls Tryz.prog 77 #[.agg #[.slice A n c, .slice A' m d], .agg #[.int .i64 o.st, .int .i64 o.sr, .int .i64 o.k, .int .i64 o.pt, .int .i64 o.pr, .int .i64 o.it, .int .i64 o.ir, .int .i64 o.tt, .int .i64 o.tr, .string o.name, .string o.new, .int .i64 o.off, .string o.data]] (later w2 y) fun e w'' => e = .returned (.int .i64 mk) ∧ ∃ z, w'' = later w2 z) := fun y => later_call (MK.out _ (below_step HB.out (later_below w2 y)))
  have RN' : Hid (∀ y, Calls Tryz.prog 78 #[.agg #[.slice A n c, .slice A' m d], .agg #[.int .i64 o.st, .int .i64 o.sr, .int .i64 o.k, .int .i64 o.pt, .int .i64 o.pr, .int .i64 o.it, .int .i64 o.ir, .int .i64 o.tt, .int .i64 o.tr, .string o.name, .string o.new, .int .i64 o.off, .string o.data]] (later w2 y) fun e w'' => e = .returned (.int .i64 rn) ∧ ∃ z, w'' = later w2 z) := fun y => later_call (RN.out _ (below_step HB.out (later_below w2 y)))
  have HS' : Hid (∀ y, Calls Tryz.prog 79 #[.agg #[.slice A n c, .slice A' m d], .agg #[.int .i64 o.pt, .int .i64 o.pr], .string o.name, .agg #[.int .i64 o.it, .int .i64 o.ir]] (later w2 y) fun e w'' => e = .returned (.bool hs) ∧ ∃ z, w'' = later w2 z) := fun y => later_call (HS.out _ (below_step HB.out (later_below w2 y)))
  have LI' : Hid (∀ y, Calls Tryz.prog 80 #[.agg #[.slice A n c, .slice A' m d], .agg #[.int .i64 o.it, .int .i64 o.ir]] (later w2 y) fun e w'' => ∃ B k, e = .returned (.slice B ln k) ∧ ∃ z, w'' = later w2 z) := fun y => (LI.out _ (below_step HB.out (later_below w2 y))).mono fun _ w' ⟨B, k, he, hb⟩ => ⟨B, k, he, w', (later_of (below_step (later_below w2 y) hb)).symm⟩
  rw [show w2 = later w2 w2 from (later_of (Below.refl _ _)).symm]
  clear hb0 MY KI MK RN HS LI O
  go_wp2_with fail
  iterate 8
    all_goals first
      | ((fail_if_success (go_at_call 75)); (fail_if_success (go_at_call 76)); (fail_if_success (go_at_call 77)); (fail_if_success (go_at_call 78)); (fail_if_success (go_at_call 79)); (fail_if_success (go_at_call 80)); go_ret; exact ⟨by rw [HM.out]; clear d1 d2 f0 f1 f2 f3 f4 f5 f6 f7 f8 f9 f10 f11 f12 MY' KI' MK' RN' HS' LI' HM HB; first | (simp_all [wB]; done) | (simp_all [wB]; omega) | (unfold wB; split <;> simp_all <;> omega), below_step HB.out (later_below w2 _)⟩)
      | (go_at_call 75; (with_reducible refine (MY'.out _).mono ?_); rintro z w5 ⟨rfl, y5, rfl⟩; go_wp2_with fail)
      | (go_at_call 76; (with_reducible refine (KI'.out _).mono ?_); rintro z w5 ⟨rfl, y5, rfl⟩; go_wp2_with fail)
      | (go_at_call 77; (with_reducible refine (MK'.out _).mono ?_); rintro z w5 ⟨rfl, y5, rfl⟩; go_wp2_with fail)
      | (go_at_call 78; (with_reducible refine (RN'.out _).mono ?_); rintro z w5 ⟨rfl, y5, rfl⟩; go_wp2_with fail)
      | (go_at_call 79; (with_reducible refine (HS'.out _).mono ?_); rintro z w5 ⟨rfl, y5, rfl⟩; go_wp2_with fail)
      | (go_at_call 80; (with_reducible refine (LI'.out _).mono ?_); rintro z w5 ⟨B, k, rfl, y5, rfl⟩; go_wp2_with fail)

end Go.Proofs.YtlhdbccemgofjaaGreatDoor
