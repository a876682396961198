/-
  The walk of the document's own Do: an operation is done to a graph, if it can be.
-/
import Derived.Test.YtlhdbccemgofjaaGreatDoorApplyRefGZ
import Derived.Test.YtlhdbccemgofjaaGreatDoorApplyRefYZ
import Derived.Test.YtlhdbccemgofjaaGreatDoorGraphRefMakeZ
import Derived.Test.YtlhdbccemgofjaaGreatDoorExtentRefWZ
import Derived.Test.YtlhdbccemgofjaaGreatDoorZ01
namespace Go.Proofs.YtlhdbccemgofjaaGreatDoor
open Go.RowKit StampMath GraphMath OpMath PackMath ExtentMath

/-- A graph's own blocks, and what is made from block b on. -/
def Clear (N : Nat → Prop) (w : World) (b : Nat) : Nat → Prop := fun i => (N i ∧ i < w.heap.size) ∨ b ≤ i

theorem GrAt.clear {N : Nat → Prop} {w W w' : World} {b : Nat} {v : Value} {g : Gr} (hb : b ≤ W.heap.size) (h : GrAt (MoreN (Clear N w b) W) w' v g) : GrAt (Clear N w b) w' v g :=
  h.keep (fun _ _ => rfl) (Nat.le_refl _) fun _ hi => hi.elim id fun q => .inr (Nat.le_trans hb q)

theorem GrAt.clear_step {N : Nat → Prop} {w W w' : World} {b : Nat} {v : Value} {g : Gr} (h : GrAt (Clear N w b) W v g) (hb : Below W.heap.size W w') : GrAt (Clear N w b) w' v g := h.step hb

/-- The answer is laid into its box. -/
theorem clear_end {N : Nat → Prop} {w W : World} {b res : Nat} {v : Value} {g : Gr} (h : GrAt (Clear N w b) W v g) (hB : Below w.heap.size w W) (h1 : w.heap.size ≤ res) (h2 : res < b) (x y : Value) :
    GrAt (MoreN N w) ((W.setCell ⟨res, 0, none⟩ x).setCell ⟨res, 1, none⟩ y) v g ∧ Below w.heap.size w ((W.setCell ⟨res, 0, none⟩ x).setCell ⟨res, 1, none⟩ y) := by
  refine ⟨h.keep (fun i hi => ?_) (by simp) (fun i hi => ?_), (hB.setCell (p := ⟨res, 0, none⟩) h1 _).setCell (p := ⟨res, 1, none⟩) h1 _⟩
  · have hne : i ≠ res := by
      rcases hi with hi | hi
      · have := hi.2; omega
      · omega
    rw [heap_setCell_other _ _ _ _ hne, heap_setCell_other _ _ _ _ hne]
  · rcases hi with hi | hi
    · exact .inl hi.1
    · exact .inr (by omega)

set_option maxRecDepth 100000 in
set_option maxHeartbeats 1600000 in
theorem refDoBad (N : Nat → Prop) (v : Value) (g : Gr) (o : Opn) (hg : g.ok) (hw : whyA g o ≠ 0) (z1 : o.name.size ≤ 9223372036854775807) (z2 : o.new.size ≤ 9223372036854775807) (z3 : o.data.size ≤ 9223372036854775807) (w : World) (hv : GrAt N w v g) :
    Calls Tryz.prog 17 #[v, .agg (opA o)] w (GrPost N (doA g o) w) := by
  have hdo : doA g o = (g, whyA g o) := by unfold doA; rw [if_neg hw]
  rw [hdo]
  obtain ⟨A, n, c, A', m, d, rfl, hV⟩ := hv.few hg.lenI hg.lenE
  have hH0 : Held w [(w.heap.size + 1 + 1, .cells #[.slice none 0 0, .slice none 0 0] 30), (w.heap.size + 1, .cells (opA o) 37), (w.heap.size, .cells #[.slice A n c, .slice A' m d] 30)]
    (((w.alloc (.cells #[.slice A n c, .slice A' m d] 30)).alloc (.cells (opA o) 37)).alloc (.cells #[.slice none 0 0, .slice none 0 0] 30)) :=
    (((Held.refl w).alloc (.cells #[.slice A n c, .slice A' m d] 30) rfl).alloc (.cells (opA o) 37) (by simp)).alloc (.cells #[.slice none 0 0, .slice none 0 0] 30) (by simp)
  have hv0 := hv.live.step (N' := Clear N w (w.heap.size + 1 + 1 + 1)) hH0.below fun i hi => .inl hi
  have HW : Hid (∀ W : World, Below w.heap.size w W → Calls Tryz.prog 38 #[.agg #[.slice A n c, .slice A' m d], .agg (opA o)] W fun e w' => e = .returned (.int .i64 (whyA g o)) ∧ Below W.heap.size W w') := fun W hW => (hV.step hW).why o z1 z2 z3
  have hz : (whyA g o == 0) = false := beq_eq_false_iff_ne.2 hw
  generalize whyA g o = bad at HW hz hw ⊢
  have H0 := Lib.hid hH0
  have V0 := Lib.hid hv0
  clear hH0 hv0 hv hw hdo hV
  unfold opA at HW H0 V0 ⊢
  unfold GrPost
  go_enter Tryz.func17, Tryz.ntmps17
  go_wp2_with fail
  refine (HW.out _ H0.out.below).mono ?_
  rintro e w1 ⟨rfl, hb1⟩
  have hH1 := H0.out.step hb1
  have hv1 := V0.out.clear_step hb1
  have q2 := clear_end hv1 hH1.below (res := w.heap.size + 1 + 1) (by omega) (by omega) (.slice A n c) (.slice A' m d)
  obtain ⟨r0, r1⟩ := two_cells (g := w.heap.size + 1 + 1) (hH1.at 0 rfl)
  obtain ⟨s0, s1⟩ := two_free (g := w.heap.size + 1 + 1) (hH1.at 0 rfl)
  obtain ⟨g0, g1⟩ := two_cells (g := w.heap.size) (hH1.at 2 rfl)
  have Q2 := Lib.hid q2
  clear hH1 hv1 hb1 H0 V0 HW q2
  go_wp2_with fail
  exact bodyPost_ret (v := .tuple #[.agg #[.slice A n c, .slice A' m d], .int .i64 bad]) (by simp [results, Tryz.results17, go_sem, r0, r1]) rfl ⟨_, rfl, Q2.out⟩

end Go.Proofs.YtlhdbccemgofjaaGreatDoor
