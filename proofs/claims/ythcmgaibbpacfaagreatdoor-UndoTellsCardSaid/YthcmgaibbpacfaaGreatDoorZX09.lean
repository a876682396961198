/-
  The walk of the document's own renames: why an entry can't be another one.
-/
import Derived.Test.YthcmgaibbpacfaaGreatDoorZX08
namespace Go.Proofs.YthcmgaibbpacfaaGreatDoor
open Go.RowKit StampMath GraphMath OpMath

/-- Why can't an entry be another one: of what was looked up. -/
def rB (hs : Bool) (kt : Int) (is r1 r2 : Bool) (ki : Int) (un : Bool) (kd : Int) (ln : Int) : Int :=
  if hs = false ∨ kt = 0 then 3 else if kt ≠ 1 then 6 else if is = true ∧ r1 = true ∧ r2 = true then 0 else if ki = 1 ∧ un = true then 8 else if (is = true ∧ kd = 1) ∧ ki ≠ 1 then 5 else if is = true ∧ ki = 1 ∧ ¬ (is = true ∧ kd = 1) then 6 else if (is = true ∧ kd = 1) ∧ 0 < ln then 7 else 0

theorem renamesW_eq (g : Gr) (o : Opn) : renamesW g o = rB (decide (lookE g.E (oAt o) o.name = some (oIno o))) (kindG g (oTo o)) (lookE g.E (oTo o) o.new).isSome (((lookE g.E (oTo o) o.new).getD (0, 0)).1 == o.it) (((lookE g.E (oTo o) o.new).getD (0, 0)).2 == o.ir)
    (kindG g (oIno o)) (underG g (oTo o) (oIno o)) (kindG g ((lookE g.E (oTo o) o.new).getD (0, 0))) ((listE g.E ((lookE g.E (oTo o) o.new).getD (0, 0))).length : Int) := by
  unfold renamesW rB targetG
  have e0 : ∀ n : Nat, (0 < n) = ((0 : Int) < (n : Int)) := fun n => propext (by omega)
  have e1 : (lookE g.E (oTo o) o.new = some (oIno o)) = ((lookE g.E (oTo o) o.new).isSome = true ∧ (((lookE g.E (oTo o) o.new).getD (0, 0)).1 == o.it) = true ∧ (((lookE g.E (oTo o) o.new).getD (0, 0)).2 == o.ir) = true) := by
    cases lookE g.E (oTo o) o.new with
    | none => simp
    | some t => simp [oIno, Prod.ext_iff]
  simp only [e0, e1, ne_eq, decide_eq_false_iff_not]

set_option maxRecDepth 100000 in
set_option maxHeartbeats 3200000 in
theorem GrV.renames {w : World} {A : Option Addr} {n c : Nat} {A' : Option Addr} {m d : Nat} {g : Gr} (h : GrV w A n c A' m d g) (o : Opn) :
    Calls Tryz.prog 69 #[.agg #[.slice A n c, .slice A' m d], .agg (opA o)] w fun e w' => e = .returned (.int .i64 (renamesW g o)) ∧ Below w.heap.size w w' := by
  have hM := renamesW_eq g o
  have LK : Hid (∀ W : World, Below w.heap.size w W → Calls Tryz.prog 44 #[.agg #[.slice A n c, .slice A' m d], .agg #[.int .i64 o.tt, .int .i64 o.tr], .string o.new] W fun e w' => e = .returned (.tuple #[.agg #[.int .i64 ((lookE g.E (oTo o) o.new).getD (0, 0)).1, .int .i64 ((lookE g.E (oTo o) o.new).getD (0, 0)).2], .bool (lookE g.E (oTo o) o.new).isSome]) ∧ Below W.heap.size W w') := fun W hW => (h.step hW).look (oTo o) o.new
  generalize (lookE g.E (oTo o) o.new).getD (0, 0) = t at LK hM
  generalize (lookE g.E (oTo o) o.new).isSome = is at LK hM
  have KI : Hid (∀ W : World, Below w.heap.size w W → Calls Tryz.prog 67 #[.agg #[.slice A n c, .slice A' m d], .agg #[.int .i64 o.it, .int .i64 o.ir]] W fun e w' => e = .returned (.int .i64 (kindG g (oIno o))) ∧ Below W.heap.size W w') := fun W hW => (h.step hW).kind (oIno o)
  have KT : Hid (∀ W : World, Below w.heap.size w W → Calls Tryz.prog 67 #[.agg #[.slice A n c, .slice A' m d], .agg #[.int .i64 o.tt, .int .i64 o.tr]] W fun e w' => e = .returned (.int .i64 (kindG g (oTo o))) ∧ Below W.heap.size W w') := fun W hW => (h.step hW).kind (oTo o)
  have KD : Hid (∀ W : World, Below w.heap.size w W → Calls Tryz.prog 67 #[.agg #[.slice A n c, .slice A' m d], .agg #[.int .i64 t.1, .int .i64 t.2]] W fun e w' => e = .returned (.int .i64 (kindG g t)) ∧ Below W.heap.size W w') := fun W hW => (h.step hW).kind t
  have HS : Hid (∀ W : World, Below w.heap.size w W → Calls Tryz.prog 70 #[.agg #[.slice A n c, .slice A' m d], .agg #[.int .i64 o.pt, .int .i64 o.pr], .string o.name, .agg #[.int .i64 o.it, .int .i64 o.ir]] W fun e w' => e = .returned (.bool (decide (lookE g.E (oAt o) o.name = some (oIno o)))) ∧ Below W.heap.size W w') := fun W hW => (h.step hW).has (oAt o) o.name (oIno o)
  have UN : Hid (∀ W : World, Below w.heap.size w W → Calls Tryz.prog 102 #[.agg #[.slice A n c, .slice A' m d], .agg #[.int .i64 o.tt, .int .i64 o.tr], .agg #[.int .i64 o.it, .int .i64 o.ir]] W fun e w' => e = .returned (.bool (underG g (oTo o) (oIno o))) ∧ Below W.heap.size W w') := fun W hW => (h.step hW).under (oTo o) (oIno o)
  have LI : Hid (∀ W : World, Below w.heap.size w W → Calls Tryz.prog 71 #[.agg #[.slice A n c, .slice A' m d], .agg #[.int .i64 t.1, .int .i64 t.2]] W fun e w' => ∃ B k, e = .returned (.slice B (listE g.E t).length k) ∧ Below W.heap.size W w') := fun W hW => ((h.step hW).list t).mono fun _ _ ⟨B, k, he, _, _, _, _, hb⟩ => ⟨B, k, he, hb⟩
  generalize decide (lookE g.E (oAt o) o.name = some (oIno o)) = hs at HS hM
  generalize kindG g (oIno o) = ki at KI hM
  generalize kindG g (oTo o) = kt at KT hM
  generalize kindG g t = kd at KD hM
  generalize underG g (oTo o) (oIno o) = un at UN hM
  generalize (listE g.E t).length = ln at LI hM
  generalize renamesW g o = r at hM ⊢
  obtain ⟨r1, hr1⟩ : ∃ r1, (t.1 == o.it) = r1 := ⟨_, rfl⟩
  obtain ⟨r2, hr2⟩ : ∃ r2, (t.2 == o.ir) = r2 := ⟨_, rfl⟩
  rw [hr1, hr2] at hM
  have HM := Lib.hid hM
  have hb0 : Held w [(w.heap.size + 1, .cells (opA o) 26), (w.heap.size, .cells #[.slice A n c, .slice A' m d] 39)]
    ((w.alloc (.cells #[.slice A n c, .slice A' m d] 39)).alloc (.cells (opA o) 26)) :=
    ((Held.refl w).alloc (.cells #[.slice A n c, .slice A' m d] 39) rfl).alloc (.cells (opA o) 26) (by simp)
  clear h hM
  unfold opA
  go_enter Tryz.func69, Tryz.ntmps69
  go_upto_region 1 with fail
  change Code.wp _ _ _ _ ((w.alloc (.cells #[.slice A n c, .slice A' m d] 39)).alloc (.cells (opA o) 26))
  generalize (w.alloc (.cells #[.slice A n c, .slice A' m d] 39)).alloc (.cells (opA o) 26) = w0 at hb0 ⊢
  obtain ⟨c1, c2⟩ := two_cells (g := w.heap.size) (hb0.at 1 rfl)
  obtain ⟨e0, e1, e2, e3, e4, e5, e6, e7, e8, e9, e10, e11, e12⟩ := op_cells (g := w.heap.size + 1) (hb0.at 0 rfl)
  go_wp2_with fail
  refine (LK.out _ hb0.below).mono ?_
  rintro z w1 ⟨rfl, hb1⟩
  have hH1 := hb0.step hb1
  clear hb0 hb1 c1 c2 e0 e1 e2 e3 e4 e5 e6 e7 e8 e9 e10 e11 e12
  go_upto_region 2 with fail
  obtain ⟨ua, hua⟩ : ∃ u, u = w1.heap.size := ⟨_, rfl⟩
  have hla : w.heap.size + 1 < ua := by rw [hua]; exact heap_lt (hH1.at 0 rfl)
  have hH2 := hH1.alloc (.cells #[.int .i64 t.1, .int .i64 t.2] 24) hua.symm
  change Code.wp _ _ _ _ (w1.alloc (.cells #[.int .i64 t.1, .int .i64 t.2] 24))
  rw [← hua]
  generalize w1.alloc (.cells #[.int .i64 t.1, .int .i64 t.2] 24) = w2 at hH2 ⊢
  clear hH1 hua
  have d1 := fun y => later_cell (two_cells (g := w.heap.size) (hH2.at 2 rfl)).1 y
  have d2 := fun y => later_cell (two_cells (g := w.heap.size) (hH2.at 2 rfl)).2 y
  have O := Lib.hid (op_later (hH2.at 1 rfl))
  have f3 := fun y => (O.out y).2.2.2.1
  have f4 := fun y => (O.out y).2.2.2.2.1
  have f5 := fun y => (O.out y).2.2.2.2.2.1
  have f6 := fun y => (O.out y).2.2.2.2.2.2.1
  have f7 := fun y => (O.out y).2.2.2.2.2.2.2.1
  have f8 := fun y => (O.out y).2.2.2.2.2.2.2.2.1
  have f9 := fun y => (O.out y).2.2.2.2.2.2.2.2.2.1
  have kx := fun y => later_cell (two_cells (g := ua) (hH2.at 0 rfl)).1 y
  have lx := fun y => later_cell (two_cells (g := ua) (hH2.at 0 rfl)).2 y
  have HB := Lib.hid hH2.below
  have KI' : Hid (∀ y, Calls Tryz.prog 67 #[.agg #[.slice A n c, .slice A' m d], .agg #[.int .i64 o.it, .int .i64 o.ir]] (later w2 y) fun e w'' => e = .returned (.int .i64 ki) ∧ ∃ z, w'' = later w2 z) := fun y => later_call (KI.out _ (below_step HB.out (later_below w2 y)))
  have KT' : Hid (∀ y, Calls Tryz.prog 67 #[.agg #[.slice A n c, .slice A' m d], .agg #[.int .i64 o.tt, .int .i64 o.tr]] (later w2 y) fun e w'' => e = .returned (.int .i64 kt) ∧ ∃ z, w'' = later w2 z) := fun y => later_call (KT.out _ (below_step HB.out (later_below w2 y)))
  have KD' : Hid (∀ y, Calls Tryz.prog 67 #[.agg #[.slice A n c, .slice A' m d], .agg #[.int .i64 t.1, .int .i64 t.2]] (later w2 y) fun e w'' => e = .returned (.int .i64 kd) ∧ ∃ z, w'' = later w2 z) := fun y => later_call (KD.out _ (below_step HB.out (later_below w2 y)))
  have HS' : Hid (∀ y, Calls Tryz.prog 70 #[.agg #[.slice A n c, .slice A' m d], .agg #[.int .i64 o.pt, .int .i64 o.pr], .string o.name, .agg #[.int .i64 o.it, .int .i64 o.ir]] (later w2 y) fun e w'' => e = .returned (.bool hs) ∧ ∃ z, w'' = later w2 z) := fun y => later_call (HS.out _ (below_step HB.out (later_below w2 y)))
  have UN' : Hid (∀ y, Calls Tryz.prog 102 #[.agg #[.slice A n c, .slice A' m d], .agg #[.int .i64 o.tt, .int .i64 o.tr], .agg #[.int .i64 o.it, .int .i64 o.ir]] (later w2 y) fun e w'' => e = .returned (.bool un) ∧ ∃ z, w'' = later w2 z) := fun y => later_call (UN.out _ (below_step HB.out (later_below w2 y)))
  have LI' : Hid (∀ y, Calls Tryz.prog 71 #[.agg #[.slice A n c, .slice A' m d], .agg #[.int .i64 t.1, .int .i64 t.2]] (later w2 y) fun e w'' => ∃ B k, e = .returned (.slice B ln k) ∧ ∃ z, w'' = later w2 z) := fun y => (LI.out _ (below_step HB.out (later_below w2 y))).mono fun _ w' ⟨B, k, he, hb⟩ => ⟨B, k, he, w', (later_of (below_step (later_below w2 y) hb)).symm⟩
  rw [show w2 = later w2 w2 from (later_of (Below.refl _ _)).symm]
  clear hH2 KI KT KD HS UN LI LK O
  go_wp2_with fail
  iterate 12
    all_goals first
      | ((fail_if_success (go_at_call 67)); (fail_if_success (go_at_call 70)); (fail_if_success (go_at_call 102)); (fail_if_success (go_at_call 71)); go_ret; exact ⟨by rw [HM.out]; clear d1 d2 f3 f4 f5 f6 f7 f8 f9 kx lx KI' KT' KD' HS' UN' LI' HM HB hr1 hr2; simp_all [rB], below_step HB.out (later_below w2 _)⟩)
      | (go_at_call 67; (with_reducible refine (KI'.out _).mono ?_); rintro z w5 ⟨rfl, y5, rfl⟩; go_wp2_with fail)
      | (go_at_call 67; (with_reducible refine (KT'.out _).mono ?_); rintro z w5 ⟨rfl, y5, rfl⟩; go_wp2_with fail)
      | (go_at_call 67; (with_reducible refine (KD'.out _).mono ?_); rintro z w5 ⟨rfl, y5, rfl⟩; go_wp2_with fail)
      | (go_at_call 70; (with_reducible refine (HS'.out _).mono ?_); rintro z w5 ⟨rfl, y5, rfl⟩; go_wp2_with fail)
      | (go_at_call 102; (with_reducible refine (UN'.out _).mono ?_); rintro z w5 ⟨rfl, y5, rfl⟩; go_wp2_with fail)
      | (go_at_call 71; (with_reducible refine (LI'.out _).mono ?_); rintro z w5 ⟨B, k, rfl, y5, rfl⟩; go_wp2_with fail)
      | skip

end Go.Proofs.YthcmgaibbpacfaaGreatDoor
