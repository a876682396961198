/-
  A graph that is answered through a box: what lies where behind the stores.
-/
import Derived.Test.YtlhdbccemgofjaaGreatDoorGraphValsZ
namespace Go.Proofs.YtlhdbccemgofjaaGreatDoor
open Go.RowKit StampMath GraphMath

/-- The answer is laid into its box. -/
theorem want_put {N : Nat → Prop} {w W w1 : World} {v : Value} {g : Gr} {b : Nat} (hb : w.heap.size ≤ b) (hW : W.heap.size = b + 1) (hB : Below w.heap.size w W) (h : GrAt (MoreN (fun i => N i ∧ i < w.heap.size) W) w1 v g ∧ Below W.heap.size W w1) (x y : Value) :
    GrAt (MoreN N w) ((w1.setCell ⟨b, 0, none⟩ x).setCell ⟨b, 1, none⟩ y) v g ∧ Below w.heap.size w ((w1.setCell ⟨b, 0, none⟩ x).setCell ⟨b, 1, none⟩ y) := by
  refine ⟨h.1.keep (fun i hi => ?_) (by simp) (fun i hi => hi.elim (fun q => .inl q.1) fun q => .inr (Nat.le_trans (by omega) q)), ((hB.trans (h.2.mono (by omega))).setCell hb _).setCell hb _⟩
  have hne : i ≠ b := by
    rcases hi with hi | hi
    · have := hi.2; omega
    · omega
  rw [heap_setCell_other _ _ _ _ hne, heap_setCell_other _ _ _ _ hne]

theorem want_alloc {N : Nat → Prop} {W w' : World} {v : Value} {g : Gr} (h : GrAt N w' v g ∧ Below W.heap.size W w') (o : Obj) : GrAt N (w'.alloc o) v g ∧ Below W.heap.size W (w'.alloc o) :=
  ⟨h.1.step ((Below.refl _ _).alloc (Nat.le_refl _) o), h.2.alloc h.2.size o⟩

/-- What the box holds then, behind one block more. -/
theorem put_cells {w1 : World} {b : Nat} {x y x' y' : Value} {T : TypeId} (h : w1.heap[b]? = some (.cells #[x, y] T (0, 0))) (o : Obj) :
    (((w1.setCell ⟨b, 0, none⟩ x').setCell ⟨b, 1, none⟩ y').alloc o).cell? ⟨b, 0, none⟩ = some x' ∧ (((w1.setCell ⟨b, 0, none⟩ x').setCell ⟨b, 1, none⟩ y').alloc o).cell? ⟨b, 1, none⟩ = some y' := by
  have h2 : ((w1.setCell ⟨b, 0, none⟩ x').setCell ⟨b, 1, none⟩ y').heap[b]? = some (.cells #[x', y'] T (0, 0)) := by
    rw [heap_setCell_same _ _ _ _ _ _ (heap_setCell_same _ _ _ _ _ _ h)]
    rfl
  exact two_cells ((heap_alloc_old _ _ (heap_lt h2)).trans h2)

end Go.Proofs.YtlhdbccemgofjaaGreatDoor
