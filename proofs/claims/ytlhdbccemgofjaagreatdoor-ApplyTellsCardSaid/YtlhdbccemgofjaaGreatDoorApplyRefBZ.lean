/-
  The walks of the document's own makes, renames and Why: why an operation can't be done.
-/
import Derived.Test.YtlhdbccemgofjaaGreatDoorApplyRefAZ
import Derived.Test.YtlhdbccemgofjaaGreatDoorGraphRefListZ
import Derived.Test.YtlhdbccemgofjaaGreatDoorZ00
namespace Go.Proofs.YtlhdbccemgofjaaGreatDoor
open Go.RowKit StampMath GraphMath OpMath

/-- Why can't an inode be made, or have one entry more: of what was looked up. -/
def mB (l : Bool) (ka kx : Int) (lk : Bool) (ks n xl : Int) : Int :=
  if ka = 0 ∨ (l = true ∧ kx = 0) then 3 else if ka ≠ 1 then 6 else if l = true ∧ kx = 1 then 5 else if lk = true ∨ (l = false ∧ ks ≠ 0) then 4 else if l = false ∧ 40 ≤ n then 13 else if l = true ∧ 6 ≤ xl then 12 else 0

theorem makesW_eq (g : Gr) (o : Opn) : makesW g o = mB (o.k == 4) (kindG g (oAt o)) ((getG g (oIno o)).getD noIno).kind (lookE g.E (oAt o) o.name).isSome (kindG g (oSt o)) (g.I.length : Int) ((getG g (oIno o)).getD noIno).links := by
  unfold makesW mB linksG
  rw [show kindG g (oIno o) = ((getG g (oIno o)).getD noIno).kind from rfl]
  by_cases h : o.k = 4
  · simp [h]
  · have h' : (o.k == 4) = false := beq_eq_false_iff_ne.2 h
    have e40 : (40 ≤ g.I.length) = ((40 : Int) ≤ (g.I.length : Int)) := propext (by omega)
    simp only [h', e40]
    simp [h]

/-- A box, and all cells of an operation. -/
theorem op_later {w : World} {g : Nat} {o : Opn} {T : TypeId} (h : w.heap[g]? = some (.cells (opA o) T (0, 0))) (x : World) :
    (later w x).cell? ⟨g, 0, none⟩ = some (.int .i64 o.st) ∧ (later w x).cell? ⟨g, 1, none⟩ = some (.int .i64 o.sr) ∧ (later w x).cell? ⟨g, 2, none⟩ = some (.int .i64 o.k) ∧ (later w x).cell? ⟨g, 3, none⟩ = some (.int .i64 o.pt) ∧ (later w x).cell? ⟨g, 4, none⟩ = some (.int .i64 o.pr) ∧
    (later w x).cell? ⟨g, 5, none⟩ = some (.int .i64 o.it) ∧ (later w x).cell? ⟨g, 6, none⟩ = some (.int .i64 o.ir) ∧ (later w x).cell? ⟨g, 7, none⟩ = some (.int .i64 o.tt) ∧ (later w x).cell? ⟨g, 8, none⟩ = some (.int .i64 o.tr) ∧
    (later w x).cell? ⟨g, 9, none⟩ = some (.string o.name) ∧ (later w x).cell? ⟨g, 10, none⟩ = some (.string o.new) ∧ (later w x).cell? ⟨g, 11, none⟩ = some (.int .i64 o.off) ∧ (later w x).cell? ⟨g, 12, none⟩ = some (.string o.data) :=
  op_cells (((later_below w x).block _ (heap_lt h)).trans h)

set_option maxRecDepth 100000 in
set_option maxHeartbeats 3200000 in
theorem GrV.makes {w : World} {A : Option Addr} {n c : Nat} {A' : Option Addr} {m d : Nat} {g : Gr} (h : GrV w A n c A' m d g) (o : Opn) :
    Calls Tryz.prog 77 #[.agg #[.slice A n c, .slice A' m d], .agg (opA o)] w fun e w' => e = .returned (.int .i64 (makesW g o)) ∧ Below w.heap.size w w' := by
  have hl : (g.I.length : Int) = (n : Int) := by rw [h.I.len]
  have hM := makesW_eq g o
  rw [hl] at hM
  have KA : Hid (∀ W : World, Below w.heap.size w W → Calls Tryz.prog 76 #[.agg #[.slice A n c, .slice A' m d], .agg #[.int .i64 o.pt, .int .i64 o.pr]] W fun e w' => e = .returned (.int .i64 (kindG g (oAt o))) ∧ Below W.heap.size W w') := fun W hW => (h.step hW).kind (oAt o)
  have KS : Hid (∀ W : World, Below w.heap.size w W → Calls Tryz.prog 76 #[.agg #[.slice A n c, .slice A' m d], .agg #[.int .i64 o.st, .int .i64 o.sr]] W fun e w' => e = .returned (.int .i64 (kindG g (oSt o))) ∧ Below W.heap.size W w') := fun W hW => (h.step hW).kind (oSt o)
  have GI : Hid (∀ W : World, Below w.heap.size w W → Calls Tryz.prog 39 #[.agg #[.slice A n c, .slice A' m d], .agg #[.int .i64 o.it, .int .i64 o.ir]] W fun e w' => e = .returned (.tuple #[.agg (inoA ((getG g (oIno o)).getD noIno)), .bool (getG g (oIno o)).isSome]) ∧ Below W.heap.size W w') := fun W hW => (h.step hW).get (oIno o)
  have LK : Hid (∀ W : World, Below w.heap.size w W → Calls Tryz.prog 44 #[.agg #[.slice A n c, .slice A' m d], .agg #[.int .i64 o.pt, .int .i64 o.pr], .string o.name] W fun e w' => e = .returned (.tuple #[.agg #[.int .i64 ((lookE g.E (oAt o) o.name).getD (0, 0)).1, .int .i64 ((lookE g.E (oAt o) o.name).getD (0, 0)).2], .bool (lookE g.E (oAt o) o.name).isSome]) ∧ Below W.heap.size W w') := fun W hW => (h.step hW).look (oAt o) o.name
  generalize makesW g o = r at hM ⊢
  generalize (lookE g.E (oAt o) o.name).getD (0, 0) = p at LK
  generalize (lookE g.E (oAt o) o.name).isSome = lk at LK hM
  generalize (getG g (oIno o)).getD noIno = x at GI hM
  generalize (getG g (oIno o)).isSome = xi at GI
  unfold inoA at GI
  generalize kindG g (oAt o) = ka at KA hM
  generalize kindG g (oSt o) = ks at KS hM
  obtain ⟨l, hl4⟩ : ∃ l, (o.k == 4) = l := ⟨_, rfl⟩
  rw [hl4] at hM
  have HM := Lib.hid hM
  have hb0 : Held w [(w.heap.size + 1, .cells (opA o) 37), (w.heap.size, .cells #[.slice A n c, .slice A' m d] 30)]
    ((w.alloc (.cells #[.slice A n c, .slice A' m d] 30)).alloc (.cells (opA o) 37)) :=
    ((Held.refl w).alloc (.cells #[.slice A n c, .slice A' m d] 30) rfl).alloc (.cells (opA o) 37) (by simp)
  clear h hl hM
  unfold opA
  go_enter Tryz.func77, Tryz.ntmps77
  go_upto_region 1 with fail
  change Code.wp _ _ _ _ ((w.alloc (.cells #[.slice A n c, .slice A' m d] 30)).alloc (.cells (opA o) 37))
  generalize (w.alloc (.cells #[.slice A n c, .slice A' m d] 30)).alloc (.cells (opA o) 37) = w0 at hb0 ⊢
  obtain ⟨c1, c2⟩ := two_cells (g := w.heap.size) (hb0.at 1 rfl)
  obtain ⟨e0, e1, e2, e3, e4, e5, e6, e7, e8, e9, e10, e11, e12⟩ := op_cells (g := w.heap.size + 1) (hb0.at 0 rfl)
  go_wp2_with fail
  refine (GI.out _ hb0.below).mono ?_
  rintro z w1 ⟨rfl, hb1⟩
  have hH1 := hb0.step hb1
  clear hb0 hb1 c1 c2 e0 e1 e2 e3 e4 e5 e6 e7 e8 e9 e10 e11 e12
  go_upto_region 2 with fail
  obtain ⟨ua, hua⟩ : ∃ u, u = w1.heap.size := ⟨_, rfl⟩
  have hla : w.heap.size + 1 < ua := by rw [hua]; exact heap_lt (hH1.at 0 rfl)
  have hH2 := hH1.alloc (.cells (inoA x) 54) hua.symm
  change Code.wp _ _ _ _ (w1.alloc (.cells (inoA x) 54))
  rw [← hua]
  generalize w1.alloc (.cells (inoA x) 54) = w2 at hH2 ⊢
  clear hH1 hua
  have d1 := fun y => later_cell (two_cells (g := w.heap.size) (hH2.at 2 rfl)).1 y
  have d2 := fun y => later_cell (two_cells (g := w.heap.size) (hH2.at 2 rfl)).2 y
  have O := Lib.hid (op_later (hH2.at 1 rfl))
  have f0 := fun y => (O.out y).1
  have f1 := fun y => (O.out y).2.1
  have f2 := fun y => (O.out y).2.2.1
  have f3 := fun y => (O.out y).2.2.2.1
  have f4 := fun y => (O.out y).2.2.2.2.1
  have f9 := fun y => (O.out y).2.2.2.2.2.2.2.2.2.1
  have kx := fun y => later_cell (ino_cells (g := ua) (hH2.at 0 rfl)).2.2.1 y
  have lx := fun y => later_cell (ino_cells (g := ua) (hH2.at 0 rfl)).2.2.2.1 y
  have HB := Lib.hid hH2.below
  have KA' : Hid (∀ y, Calls Tryz.prog 76 #[.agg #[.slice A n c, .slice A' m d], .agg #[.int .i64 o.pt, .int .i64 o.pr]] (later w2 y) fun e w'' => e = .returned (.int .i64 ka) ∧ ∃ z, w'' = later w2 z) := fun y => later_call (KA.out _ (below_step HB.out (later_below w2 y)))
  have KS' : Hid (∀ y, Calls Tryz.prog 76 #[.agg #[.slice A n c, .slice A' m d], .agg #[.int .i64 o.st, .int .i64 o.sr]] (later w2 y) fun e w'' => e = .returned (.int .i64 ks) ∧ ∃ z, w'' = later w2 z) := fun y => later_call (KS.out _ (below_step HB.out (later_below w2 y)))
  have LK' : Hid (∀ y, Calls Tryz.prog 44 #[.agg #[.slice A n c, .slice A' m d], .agg #[.int .i64 o.pt, .int .i64 o.pr], .string o.name] (later w2 y) fun e w'' => e = .returned (.tuple #[.agg #[.int .i64 p.1, .int .i64 p.2], .bool lk]) ∧ ∃ z, w'' = later w2 z) := fun y => later_call (LK.out _ (below_step HB.out (later_below w2 y)))
  rw [show w2 = later w2 w2 from (later_of (Below.refl _ _)).symm]
  clear hH2 KA KS LK GI O
  go_wp2_with fail
  refine (LK'.out _).mono ?_
  rintro z w3 ⟨rfl, y, rfl⟩
  go_upto_region 3 with fail
  change Code.wp _ _ _ _ ((later w2 y).alloc (.cells #[.int .i64 p.1, .int .i64 p.2] 35))
  rw [show (later w2 y).alloc (.cells #[.int .i64 p.1, .int .i64 p.2] 35) = later w2 ((later w2 y).alloc (.cells #[.int .i64 p.1, .int .i64 p.2] 35)) from (later_of ((later_below w2 y).alloc (later_below w2 y).size _)).symm]
  generalize (later w2 y).alloc (.cells #[.int .i64 p.1, .int .i64 p.2] 35) = y2
  go_wp2_with fail
  refine (KA'.out _).mono ?_
  rintro z w4 ⟨rfl, y4, rfl⟩
  go_wp2_with fail
  all_goals try (go_ret; exact ⟨by rw [HM.out]; clear d1 d2 f0 f1 f2 f3 f4 f9 kx lx KA' KS' LK' HM HB; simp_all [mB], below_step HB.out (later_below w2 _)⟩)
  all_goals
    refine (KA'.out _).mono ?_
    rintro z w5 ⟨rfl, y5, rfl⟩
    go_wp2_with fail
  all_goals try (go_ret; exact ⟨by rw [HM.out]; clear d1 d2 f0 f1 f2 f3 f4 f9 kx lx KA' KS' LK' HM HB; simp_all [mB], below_step HB.out (later_below w2 _)⟩)
  all_goals
    refine (KS'.out _).mono ?_
    rintro z w6 ⟨rfl, y6, rfl⟩
    go_wp2_with fail
  all_goals try (go_ret; exact ⟨by rw [HM.out]; clear d1 d2 f0 f1 f2 f3 f4 f9 kx lx KA' KS' LK' HM HB; simp_all [mB], below_step HB.out (later_below w2 _)⟩)

end Go.Proofs.YtlhdbccemgofjaaGreatDoor
