/-
  Blocks that lie in memory while calls go by: a list of them, and that nothing older has turned. It needs no program.
-/
import Derived.Test.YtoobmkkmomiigaaBase
namespace Go.Proofs.Ytoobmkkmomiigaa
open Go.RowKit

/-- These blocks lie there, and below w's end all is as it was in w. -/
def Held (w : World) (L : List (Nat × Obj)) (W : World) : Prop := (∀ p ∈ L, W.heap[p.1]? = some p.2) ∧ Below w.heap.size w W

theorem Held.refl (w : World) : Held w [] w := ⟨fun _ h => (by cases h), Below.refl _ _⟩

theorem Held.below {w W : World} {L : List (Nat × Obj)} (h : Held w L W) : Below w.heap.size w W := h.2

theorem Held.step {w W W' : World} {L : List (Nat × Obj)} (h : Held w L W) (hb : Below W.heap.size W W') : Held w L W' :=
  ⟨fun p hp => (hb.block _ (heap_lt (h.1 p hp))).trans (h.1 p hp), below_step h.2 hb⟩

theorem Held.alloc {w W : World} {L : List (Nat × Obj)} (h : Held w L W) (o : Obj) {g : Nat} (hg : W.heap.size = g) : Held w ((g, o) :: L) (W.alloc o) := by
  refine ⟨fun p hp => ?_, h.2.alloc h.2.size o⟩
  rcases List.mem_cons.1 hp with rfl | hp
  · subst hg; exact heap_alloc_new W o
  · rw [heap_alloc_old _ _ (heap_lt (h.1 p hp))]; exact h.1 p hp

theorem Held.drewN {w W : World} {L : List (Nat × Obj)} (h : Held w L W) (n : Nat) : Held w L (W.drewN n) := ⟨h.1, below_drewN' h.2 n⟩

theorem Held.drew {w W : World} {L : List (Nat × Obj)} (h : Held w L W) : Held w L W.drew := ⟨h.1, h.2.drew⟩

theorem Held.head {w W : World} {L : List (Nat × Obj)} {p : Nat × Obj} (h : Held w (p :: L) W) : W.heap[p.1]? = some p.2 := h.1 p (List.mem_cons_self ..)

theorem Held.tail {w W : World} {L : List (Nat × Obj)} {p : Nat × Obj} (h : Held w (p :: L) W) : Held w L W := ⟨fun q hq => h.1 q (List.mem_cons_of_mem _ hq), h.2⟩

theorem Held.at {w W : World} {L : List (Nat × Obj)} (h : Held w L W) (i : Nat) {p : Nat × Obj} (hp : L[i]? = some p) : W.heap[p.1]? = some p.2 := h.1 p (List.mem_of_getElem? hp)

/-- Behind a store into another block, which was made since. -/
theorem Held.set {w W : World} {L : List (Nat × Obj)} (h : Held w L W) {b : Nat} (hL : ∀ p ∈ L, p.1 < b) (hw : w.heap.size ≤ b) (i : Nat) (v : Value) : Held w L (W.setCell ⟨b, i, none⟩ v) :=
  ⟨fun p hp => (heap_setCell_other _ _ _ _ (by have := hL p hp; dsimp only; omega)).trans (h.1 p hp), h.2.setCell hw v⟩

/-- Behind a step that turns one block at most, which lies at or beyond B, where all that is held lies below. -/
theorem Held.grown {w W W' : World} {L : List (Nat × Obj)} {row : Option Nat} {B : Nat} (h : Held w L W) (hg : W.grownBy W' row) (hB : ∀ q, row = some q → B ≤ q) (hL : ∀ p ∈ L, p.1 < B) (hw : w.heap.size ≤ B := by simp) : Held w L W' :=
  ⟨fun p hp => (hg.block p.1 (heap_lt (h.1 p hp)) fun e => by have h1 := hB _ e.symm; have h2 := hL p hp; omega).trans (h.1 p hp), h.2.grown hg h.2.size fun q hq => Nat.le_trans hw (hB q hq)⟩

end Go.Proofs.Ytoobmkkmomiigaa
