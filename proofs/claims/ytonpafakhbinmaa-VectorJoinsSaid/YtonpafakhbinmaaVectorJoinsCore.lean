/-
  Join and meet of two vectors are the same the other way round, of one and itself it, of three in any order the same; each takes the other one in: for all vectors.
-/
import Derived.Test.YtonpafakhbinmaaVecHave
import Derived.Test.YtonpafakhbinmaaVecEq
import Derived.Test.YtonpafakhbinmaaVecKept
import Derived.Test.YtonpafakhbinmaaLater
import Derived.ProofKit
import Derived.OpenShut
import Derived.Deep.RegionHeld3
import Derived.Deep.DeepCutAuto
namespace Go.Proofs.Ytonpafakhbinmaa.lawVectorJoins
open Go.RowKit VecMath PackMath

theorem box_later {W W' : World} {o : Obj} (hb : Below (W.alloc o).heap.size (W.alloc o) W') : W'.heap[W.heap.size]? = some o :=
  (hb.block _ (heap_lt (heap_alloc_new W o))).trans (heap_alloc_new W o)

theorem box_later' {W W' : World} {o : Obj} (hb : Below (W.alloc o).drew.heap.size (W.alloc o).drew W') : W'.heap[W.heap.size]? = some o :=
  (hb.block _ (heap_lt (heap_alloc_new W o))).trans (heap_alloc_new W o)

theorem box_keep {W W' : World} {g : Nat} {z : Array Value} {T : TypeId} (hb : Below W.heap.size W W') (h : W.heap[g]? = some (.cells z T (0, 0))) : W'.heap[g]? = some (.cells z T (0, 0)) :=
  (hb.block _ (heap_lt h)).trans h

theorem box_cells {W : World} {g : Nat} {z0 z1 z2 z3 z4 z5 z6 z7 : Value} {T : TypeId} (h : W.heap[g]? = some (.cells #[z0, z1, z2, z3, z4, z5, z6, z7] T (0, 0))) :
    W.cell? ⟨g, 0, none⟩ = some z0 ∧ W.cell? ⟨g, 1, none⟩ = some z1 ∧ W.cell? ⟨g, 2, none⟩ = some z2 ∧ W.cell? ⟨g, 3, none⟩ = some z3 ∧ W.cell? ⟨g, 4, none⟩ = some z4 ∧ W.cell? ⟨g, 5, none⟩ = some z5 ∧ W.cell? ⟨g, 6, none⟩ = some z6 ∧ W.cell? ⟨g, 7, none⟩ = some z7 ∧ W.frozen? ⟨g, 0, none⟩ = false ∧ W.frozen? ⟨g, 1, none⟩ = false ∧ W.frozen? ⟨g, 2, none⟩ = false ∧ W.frozen? ⟨g, 3, none⟩ = false ∧ W.frozen? ⟨g, 4, none⟩ = false ∧ W.frozen? ⟨g, 5, none⟩ = false ∧ W.frozen? ⟨g, 6, none⟩ = false ∧ W.frozen? ⟨g, 7, none⟩ = false :=
  ⟨cell_of_row _ _ 0 _ _ (0, 0) h, cell_of_row _ _ 1 _ _ (0, 0) h, cell_of_row _ _ 2 _ _ (0, 0) h, cell_of_row _ _ 3 _ _ (0, 0) h, cell_of_row _ _ 4 _ _ (0, 0) h, cell_of_row _ _ 5 _ _ (0, 0) h, cell_of_row _ _ 6 _ _ (0, 0) h, cell_of_row _ _ 7 _ _ (0, 0) h, frozen_of_row _ _ 0 _ _ h, frozen_of_row _ _ 1 _ _ h, frozen_of_row _ _ 2 _ _ h, frozen_of_row _ _ 3 _ _ h, frozen_of_row _ _ 4 _ _ h, frozen_of_row _ _ 5 _ _ h, frozen_of_row _ _ 6 _ _ h, frozen_of_row _ _ 7 _ _ h⟩

theorem kept_set24 {w v0 W : World} {a b c : Nat → Int} {g : Nat} {x0 x1 x2 x3 x4 x5 x6 x7 : Value} (hg : v0.heap.size ≤ g) (hw : w.heap.size + 1 + 1 < v0.heap.size) (h : (W.cell? ⟨w.heap.size, 0, none⟩ = some (.int .i64 (a 0)) ∧ W.cell? ⟨w.heap.size, 1, none⟩ = some (.int .i64 (a 1)) ∧ W.cell? ⟨w.heap.size, 2, none⟩ = some (.int .i64 (a 2)) ∧ W.cell? ⟨w.heap.size, 3, none⟩ = some (.int .i64 (a 3)) ∧ W.cell? ⟨w.heap.size, 4, none⟩ = some (.int .i64 (a 4)) ∧ W.cell? ⟨w.heap.size, 5, none⟩ = some (.int .i64 (a 5)) ∧ W.cell? ⟨w.heap.size, 6, none⟩ = some (.int .i64 (a 6)) ∧ W.cell? ⟨w.heap.size, 7, none⟩ = some (.int .i64 (a 7)) ∧ W.cell? ⟨w.heap.size + 1, 0, none⟩ = some (.int .i64 (b 0)) ∧ W.cell? ⟨w.heap.size + 1, 1, none⟩ = some (.int .i64 (b 1)) ∧ W.cell? ⟨w.heap.size + 1, 2, none⟩ = some (.int .i64 (b 2)) ∧ W.cell? ⟨w.heap.size + 1, 3, none⟩ = some (.int .i64 (b 3)) ∧ W.cell? ⟨w.heap.size + 1, 4, none⟩ = some (.int .i64 (b 4)) ∧ W.cell? ⟨w.heap.size + 1, 5, none⟩ = some (.int .i64 (b 5)) ∧ W.cell? ⟨w.heap.size + 1, 6, none⟩ = some (.int .i64 (b 6)) ∧ W.cell? ⟨w.heap.size + 1, 7, none⟩ = some (.int .i64 (b 7)) ∧ W.cell? ⟨w.heap.size + 1 + 1, 0, none⟩ = some (.int .i64 (c 0)) ∧ W.cell? ⟨w.heap.size + 1 + 1, 1, none⟩ = some (.int .i64 (c 1)) ∧ W.cell? ⟨w.heap.size + 1 + 1, 2, none⟩ = some (.int .i64 (c 2)) ∧ W.cell? ⟨w.heap.size + 1 + 1, 3, none⟩ = some (.int .i64 (c 3)) ∧ W.cell? ⟨w.heap.size + 1 + 1, 4, none⟩ = some (.int .i64 (c 4)) ∧ W.cell? ⟨w.heap.size + 1 + 1, 5, none⟩ = some (.int .i64 (c 5)) ∧ W.cell? ⟨w.heap.size + 1 + 1, 6, none⟩ = some (.int .i64 (c 6)) ∧ W.cell? ⟨w.heap.size + 1 + 1, 7, none⟩ = some (.int .i64 (c 7))) ∧ KeptFrom v0 W) : (((((((((W.setCell ⟨g, 0, none⟩ x0).setCell ⟨g, 1, none⟩ x1).setCell ⟨g, 2, none⟩ x2).setCell ⟨g, 3, none⟩ x3).setCell ⟨g, 4, none⟩ x4).setCell ⟨g, 5, none⟩ x5).setCell ⟨g, 6, none⟩ x6).setCell ⟨g, 7, none⟩ x7).cell? ⟨w.heap.size, 0, none⟩ = some (.int .i64 (a 0)) ∧ ((((((((W.setCell ⟨g, 0, none⟩ x0).setCell ⟨g, 1, none⟩ x1).setCell ⟨g, 2, none⟩ x2).setCell ⟨g, 3, none⟩ x3).setCell ⟨g, 4, none⟩ x4).setCell ⟨g, 5, none⟩ x5).setCell ⟨g, 6, none⟩ x6).setCell ⟨g, 7, none⟩ x7).cell? ⟨w.heap.size, 1, none⟩ = some (.int .i64 (a 1)) ∧ ((((((((W.setCell ⟨g, 0, none⟩ x0).setCell ⟨g, 1, none⟩ x1).setCell ⟨g, 2, none⟩ x2).setCell ⟨g, 3, none⟩ x3).setCell ⟨g, 4, none⟩ x4).setCell ⟨g, 5, none⟩ x5).setCell ⟨g, 6, none⟩ x6).setCell ⟨g, 7, none⟩ x7).cell? ⟨w.heap.size, 2, none⟩ = some (.int .i64 (a 2)) ∧ ((((((((W.setCell ⟨g, 0, none⟩ x0).setCell ⟨g, 1, none⟩ x1).setCell ⟨g, 2, none⟩ x2).setCell ⟨g, 3, none⟩ x3).setCell ⟨g, 4, none⟩ x4).setCell ⟨g, 5, none⟩ x5).setCell ⟨g, 6, none⟩ x6).setCell ⟨g, 7, none⟩ x7).cell? ⟨w.heap.size, 3, none⟩ = some (.int .i64 (a 3)) ∧ ((((((((W.setCell ⟨g, 0, none⟩ x0).setCell ⟨g, 1, none⟩ x1).setCell ⟨g, 2, none⟩ x2).setCell ⟨g, 3, none⟩ x3).setCell ⟨g, 4, none⟩ x4).setCell ⟨g, 5, none⟩ x5).setCell ⟨g, 6, none⟩ x6).setCell ⟨g, 7, none⟩ x7).cell? ⟨w.heap.size, 4, none⟩ = some (.int .i64 (a 4)) ∧ ((((((((W.setCell ⟨g, 0, none⟩ x0).setCell ⟨g, 1, none⟩ x1).setCell ⟨g, 2, none⟩ x2).setCell ⟨g, 3, none⟩ x3).setCell ⟨g, 4, none⟩ x4).setCell ⟨g, 5, none⟩ x5).setCell ⟨g, 6, none⟩ x6).setCell ⟨g, 7, none⟩ x7).cell? ⟨w.heap.size, 5, none⟩ = some (.int .i64 (a 5)) ∧ ((((((((W.setCell ⟨g, 0, none⟩ x0).setCell ⟨g, 1, none⟩ x1).setCell ⟨g, 2, none⟩ x2).setCell ⟨g, 3, none⟩ x3).setCell ⟨g, 4, none⟩ x4).setCell ⟨g, 5, none⟩ x5).setCell ⟨g, 6, none⟩ x6).setCell ⟨g, 7, none⟩ x7).cell? ⟨w.heap.size, 6, none⟩ = some (.int .i64 (a 6)) ∧ ((((((((W.setCell ⟨g, 0, none⟩ x0).setCell ⟨g, 1, none⟩ x1).setCell ⟨g, 2, none⟩ x2).setCell ⟨g, 3, none⟩ x3).setCell ⟨g, 4, none⟩ x4).setCell ⟨g, 5, none⟩ x5).setCell ⟨g, 6, none⟩ x6).setCell ⟨g, 7, none⟩ x7).cell? ⟨w.heap.size, 7, none⟩ = some (.int .i64 (a 7)) ∧ ((((((((W.setCell ⟨g, 0, none⟩ x0).setCell ⟨g, 1, none⟩ x1).setCell ⟨g, 2, none⟩ x2).setCell ⟨g, 3, none⟩ x3).setCell ⟨g, 4, none⟩ x4).setCell ⟨g, 5, none⟩ x5).setCell ⟨g, 6, none⟩ x6).setCell ⟨g, 7, none⟩ x7).cell? ⟨w.heap.size + 1, 0, none⟩ = some (.int .i64 (b 0)) ∧ ((((((((W.setCell ⟨g, 0, none⟩ x0).setCell ⟨g, 1, none⟩ x1).setCell ⟨g, 2, none⟩ x2).setCell ⟨g, 3, none⟩ x3).setCell ⟨g, 4, none⟩ x4).setCell ⟨g, 5, none⟩ x5).setCell ⟨g, 6, none⟩ x6).setCell ⟨g, 7, none⟩ x7).cell? ⟨w.heap.size + 1, 1, none⟩ = some (.int .i64 (b 1)) ∧ ((((((((W.setCell ⟨g, 0, none⟩ x0).setCell ⟨g, 1, none⟩ x1).setCell ⟨g, 2, none⟩ x2).setCell ⟨g, 3, none⟩ x3).setCell ⟨g, 4, none⟩ x4).setCell ⟨g, 5, none⟩ x5).setCell ⟨g, 6, none⟩ x6).setCell ⟨g, 7, none⟩ x7).cell? ⟨w.heap.size + 1, 2, none⟩ = some (.int .i64 (b 2)) ∧ ((((((((W.setCell ⟨g, 0, none⟩ x0).setCell ⟨g, 1, none⟩ x1).setCell ⟨g, 2, none⟩ x2).setCell ⟨g, 3, none⟩ x3).setCell ⟨g, 4, none⟩ x4).setCell ⟨g, 5, none⟩ x5).setCell ⟨g, 6, none⟩ x6).setCell ⟨g, 7, none⟩ x7).cell? ⟨w.heap.size + 1, 3, none⟩ = some (.int .i64 (b 3)) ∧ ((((((((W.setCell ⟨g, 0, none⟩ x0).setCell ⟨g, 1, none⟩ x1).setCell ⟨g, 2, none⟩ x2).setCell ⟨g, 3, none⟩ x3).setCell ⟨g, 4, none⟩ x4).setCell ⟨g, 5, none⟩ x5).setCell ⟨g, 6, none⟩ x6).setCell ⟨g, 7, none⟩ x7).cell? ⟨w.heap.size + 1, 4, none⟩ = some (.int .i64 (b 4)) ∧ ((((((((W.setCell ⟨g, 0, none⟩ x0).setCell ⟨g, 1, none⟩ x1).setCell ⟨g, 2, none⟩ x2).setCell ⟨g, 3, none⟩ x3).setCell ⟨g, 4, none⟩ x4).setCell ⟨g, 5, none⟩ x5).setCell ⟨g, 6, none⟩ x6).setCell ⟨g, 7, none⟩ x7).cell? ⟨w.heap.size + 1, 5, none⟩ = some (.int .i64 (b 5)) ∧ ((((((((W.setCell ⟨g, 0, none⟩ x0).setCell ⟨g, 1, none⟩ x1).setCell ⟨g, 2, none⟩ x2).setCell ⟨g, 3, none⟩ x3).setCell ⟨g, 4, none⟩ x4).setCell ⟨g, 5, none⟩ x5).setCell ⟨g, 6, none⟩ x6).setCell ⟨g, 7, none⟩ x7).cell? ⟨w.heap.size + 1, 6, none⟩ = some (.int .i64 (b 6)) ∧ ((((((((W.setCell ⟨g, 0, none⟩ x0).setCell ⟨g, 1, none⟩ x1).setCell ⟨g, 2, none⟩ x2).setCell ⟨g, 3, none⟩ x3).setCell ⟨g, 4, none⟩ x4).setCell ⟨g, 5, none⟩ x5).setCell ⟨g, 6, none⟩ x6).setCell ⟨g, 7, none⟩ x7).cell? ⟨w.heap.size + 1, 7, none⟩ = some (.int .i64 (b 7)) ∧ ((((((((W.setCell ⟨g, 0, none⟩ x0).setCell ⟨g, 1, none⟩ x1).setCell ⟨g, 2, none⟩ x2).setCell ⟨g, 3, none⟩ x3).setCell ⟨g, 4, none⟩ x4).setCell ⟨g, 5, none⟩ x5).setCell ⟨g, 6, none⟩ x6).setCell ⟨g, 7, none⟩ x7).cell? ⟨w.heap.size + 1 + 1, 0, none⟩ = some (.int .i64 (c 0)) ∧ ((((((((W.setCell ⟨g, 0, none⟩ x0).setCell ⟨g, 1, none⟩ x1).setCell ⟨g, 2, none⟩ x2).setCell ⟨g, 3, none⟩ x3).setCell ⟨g, 4, none⟩ x4).setCell ⟨g, 5, none⟩ x5).setCell ⟨g, 6, none⟩ x6).setCell ⟨g, 7, none⟩ x7).cell? ⟨w.heap.size + 1 + 1, 1, none⟩ = some (.int .i64 (c 1)) ∧ ((((((((W.setCell ⟨g, 0, none⟩ x0).setCell ⟨g, 1, none⟩ x1).setCell ⟨g, 2, none⟩ x2).setCell ⟨g, 3, none⟩ x3).setCell ⟨g, 4, none⟩ x4).setCell ⟨g, 5, none⟩ x5).setCell ⟨g, 6, none⟩ x6).setCell ⟨g, 7, none⟩ x7).cell? ⟨w.heap.size + 1 + 1, 2, none⟩ = some (.int .i64 (c 2)) ∧ ((((((((W.setCell ⟨g, 0, none⟩ x0).setCell ⟨g, 1, none⟩ x1).setCell ⟨g, 2, none⟩ x2).setCell ⟨g, 3, none⟩ x3).setCell ⟨g, 4, none⟩ x4).setCell ⟨g, 5, none⟩ x5).setCell ⟨g, 6, none⟩ x6).setCell ⟨g, 7, none⟩ x7).cell? ⟨w.heap.size + 1 + 1, 3, none⟩ = some (.int .i64 (c 3)) ∧ ((((((((W.setCell ⟨g, 0, none⟩ x0).setCell ⟨g, 1, none⟩ x1).setCell ⟨g, 2, none⟩ x2).setCell ⟨g, 3, none⟩ x3).setCell ⟨g, 4, none⟩ x4).setCell ⟨g, 5, none⟩ x5).setCell ⟨g, 6, none⟩ x6).setCell ⟨g, 7, none⟩ x7).cell? ⟨w.heap.size + 1 + 1, 4, none⟩ = some (.int .i64 (c 4)) ∧ ((((((((W.setCell ⟨g, 0, none⟩ x0).setCell ⟨g, 1, none⟩ x1).setCell ⟨g, 2, none⟩ x2).setCell ⟨g, 3, none⟩ x3).setCell ⟨g, 4, none⟩ x4).setCell ⟨g, 5, none⟩ x5).setCell ⟨g, 6, none⟩ x6).setCell ⟨g, 7, none⟩ x7).cell? ⟨w.heap.size + 1 + 1, 5, none⟩ = some (.int .i64 (c 5)) ∧ ((((((((W.setCell ⟨g, 0, none⟩ x0).setCell ⟨g, 1, none⟩ x1).setCell ⟨g, 2, none⟩ x2).setCell ⟨g, 3, none⟩ x3).setCell ⟨g, 4, none⟩ x4).setCell ⟨g, 5, none⟩ x5).setCell ⟨g, 6, none⟩ x6).setCell ⟨g, 7, none⟩ x7).cell? ⟨w.heap.size + 1 + 1, 6, none⟩ = some (.int .i64 (c 6)) ∧ ((((((((W.setCell ⟨g, 0, none⟩ x0).setCell ⟨g, 1, none⟩ x1).setCell ⟨g, 2, none⟩ x2).setCell ⟨g, 3, none⟩ x3).setCell ⟨g, 4, none⟩ x4).setCell ⟨g, 5, none⟩ x5).setCell ⟨g, 6, none⟩ x6).setCell ⟨g, 7, none⟩ x7).cell? ⟨w.heap.size + 1 + 1, 7, none⟩ = some (.int .i64 (c 7))) ∧ KeptFrom v0 ((((((((W.setCell ⟨g, 0, none⟩ x0).setCell ⟨g, 1, none⟩ x1).setCell ⟨g, 2, none⟩ x2).setCell ⟨g, 3, none⟩ x3).setCell ⟨g, 4, none⟩ x4).setCell ⟨g, 5, none⟩ x5).setCell ⟨g, 6, none⟩ x6).setCell ⟨g, 7, none⟩ x7) := by
  have hne : ∀ k o i, k < g → ∀ (U : World) (x : Value), (U.setCell ⟨g, i, none⟩ x).cell? ⟨k, o, none⟩ = U.cell? ⟨k, o, none⟩ := fun k o i hk U x =>
    World.cell?_setCell_other _ _ _ _ (fun e => by have := congrArg Addr.block e; simp at this; omega)
  refine ⟨⟨?_, ?_, ?_, ?_, ?_, ?_, ?_, ?_, ?_, ?_, ?_, ?_, ?_, ?_, ?_, ?_, ?_, ?_, ?_, ?_, ?_, ?_, ?_, ?_⟩, ?_⟩
  rotate_left 24
  · exact (((((((((kept_below h.2).setCell hg _).setCell hg _).setCell hg _).setCell hg _).setCell hg _).setCell hg _).setCell hg _).setCell hg _)
  · rw [hne _ _ _ (by omega), hne _ _ _ (by omega), hne _ _ _ (by omega), hne _ _ _ (by omega), hne _ _ _ (by omega), hne _ _ _ (by omega), hne _ _ _ (by omega), hne _ _ _ (by omega)]; exact h.1.1
  · rw [hne _ _ _ (by omega), hne _ _ _ (by omega), hne _ _ _ (by omega), hne _ _ _ (by omega), hne _ _ _ (by omega), hne _ _ _ (by omega), hne _ _ _ (by omega), hne _ _ _ (by omega)]; exact h.1.2.1
  · rw [hne _ _ _ (by omega), hne _ _ _ (by omega), hne _ _ _ (by omega), hne _ _ _ (by omega), hne _ _ _ (by omega), hne _ _ _ (by omega), hne _ _ _ (by omega), hne _ _ _ (by omega)]; exact h.1.2.2.1
  · rw [hne _ _ _ (by omega), hne _ _ _ (by omega), hne _ _ _ (by omega), hne _ _ _ (by omega), hne _ _ _ (by omega), hne _ _ _ (by omega), hne _ _ _ (by omega), hne _ _ _ (by omega)]; exact h.1.2.2.2.1
  · rw [hne _ _ _ (by omega), hne _ _ _ (by omega), hne _ _ _ (by omega), hne _ _ _ (by omega), hne _ _ _ (by omega), hne _ _ _ (by omega), hne _ _ _ (by omega), hne _ _ _ (by omega)]; exact h.1.2.2.2.2.1
  · rw [hne _ _ _ (by omega), hne _ _ _ (by omega), hne _ _ _ (by omega), hne _ _ _ (by omega), hne _ _ _ (by omega), hne _ _ _ (by omega), hne _ _ _ (by omega), hne _ _ _ (by omega)]; exact h.1.2.2.2.2.2.1
  · rw [hne _ _ _ (by omega), hne _ _ _ (by omega), hne _ _ _ (by omega), hne _ _ _ (by omega), hne _ _ _ (by omega), hne _ _ _ (by omega), hne _ _ _ (by omega), hne _ _ _ (by omega)]; exact h.1.2.2.2.2.2.2.1
  · rw [hne _ _ _ (by omega), hne _ _ _ (by omega), hne _ _ _ (by omega), hne _ _ _ (by omega), hne _ _ _ (by omega), hne _ _ _ (by omega), hne _ _ _ (by omega), hne _ _ _ (by omega)]; exact h.1.2.2.2.2.2.2.2.1
  · rw [hne _ _ _ (by omega), hne _ _ _ (by omega), hne _ _ _ (by omega), hne _ _ _ (by omega), hne _ _ _ (by omega), hne _ _ _ (by omega), hne _ _ _ (by omega), hne _ _ _ (by omega)]; exact h.1.2.2.2.2.2.2.2.2.1
  · rw [hne _ _ _ (by omega), hne _ _ _ (by omega), hne _ _ _ (by omega), hne _ _ _ (by omega), hne _ _ _ (by omega), hne _ _ _ (by omega), hne _ _ _ (by omega), hne _ _ _ (by omega)]; exact h.1.2.2.2.2.2.2.2.2.2.1
  · rw [hne _ _ _ (by omega), hne _ _ _ (by omega), hne _ _ _ (by omega), hne _ _ _ (by omega), hne _ _ _ (by omega), hne _ _ _ (by omega), hne _ _ _ (by omega), hne _ _ _ (by omega)]; exact h.1.2.2.2.2.2.2.2.2.2.2.1
  · rw [hne _ _ _ (by omega), hne _ _ _ (by omega), hne _ _ _ (by omega), hne _ _ _ (by omega), hne _ _ _ (by omega), hne _ _ _ (by omega), hne _ _ _ (by omega), hne _ _ _ (by omega)]; exact h.1.2.2.2.2.2.2.2.2.2.2.2.1
  · rw [hne _ _ _ (by omega), hne _ _ _ (by omega), hne _ _ _ (by omega), hne _ _ _ (by omega), hne _ _ _ (by omega), hne _ _ _ (by omega), hne _ _ _ (by omega), hne _ _ _ (by omega)]; exact h.1.2.2.2.2.2.2.2.2.2.2.2.2.1
  · rw [hne _ _ _ (by omega), hne _ _ _ (by omega), hne _ _ _ (by omega), hne _ _ _ (by omega), hne _ _ _ (by omega), hne _ _ _ (by omega), hne _ _ _ (by omega), hne _ _ _ (by omega)]; exact h.1.2.2.2.2.2.2.2.2.2.2.2.2.2.1
  · rw [hne _ _ _ (by omega), hne _ _ _ (by omega), hne _ _ _ (by omega), hne _ _ _ (by omega), hne _ _ _ (by omega), hne _ _ _ (by omega), hne _ _ _ (by omega), hne _ _ _ (by omega)]; exact h.1.2.2.2.2.2.2.2.2.2.2.2.2.2.2.1
  · rw [hne _ _ _ (by omega), hne _ _ _ (by omega), hne _ _ _ (by omega), hne _ _ _ (by omega), hne _ _ _ (by omega), hne _ _ _ (by omega), hne _ _ _ (by omega), hne _ _ _ (by omega)]; exact h.1.2.2.2.2.2.2.2.2.2.2.2.2.2.2.2.1
  · rw [hne _ _ _ (by omega), hne _ _ _ (by omega), hne _ _ _ (by omega), hne _ _ _ (by omega), hne _ _ _ (by omega), hne _ _ _ (by omega), hne _ _ _ (by omega), hne _ _ _ (by omega)]; exact h.1.2.2.2.2.2.2.2.2.2.2.2.2.2.2.2.2.1
  · rw [hne _ _ _ (by omega), hne _ _ _ (by omega), hne _ _ _ (by omega), hne _ _ _ (by omega), hne _ _ _ (by omega), hne _ _ _ (by omega), hne _ _ _ (by omega), hne _ _ _ (by omega)]; exact h.1.2.2.2.2.2.2.2.2.2.2.2.2.2.2.2.2.2.1
  · rw [hne _ _ _ (by omega), hne _ _ _ (by omega), hne _ _ _ (by omega), hne _ _ _ (by omega), hne _ _ _ (by omega), hne _ _ _ (by omega), hne _ _ _ (by omega), hne _ _ _ (by omega)]; exact h.1.2.2.2.2.2.2.2.2.2.2.2.2.2.2.2.2.2.2.1
  · rw [hne _ _ _ (by omega), hne _ _ _ (by omega), hne _ _ _ (by omega), hne _ _ _ (by omega), hne _ _ _ (by omega), hne _ _ _ (by omega), hne _ _ _ (by omega), hne _ _ _ (by omega)]; exact h.1.2.2.2.2.2.2.2.2.2.2.2.2.2.2.2.2.2.2.2.1
  · rw [hne _ _ _ (by omega), hne _ _ _ (by omega), hne _ _ _ (by omega), hne _ _ _ (by omega), hne _ _ _ (by omega), hne _ _ _ (by omega), hne _ _ _ (by omega), hne _ _ _ (by omega)]; exact h.1.2.2.2.2.2.2.2.2.2.2.2.2.2.2.2.2.2.2.2.2.1
  · rw [hne _ _ _ (by omega), hne _ _ _ (by omega), hne _ _ _ (by omega), hne _ _ _ (by omega), hne _ _ _ (by omega), hne _ _ _ (by omega), hne _ _ _ (by omega), hne _ _ _ (by omega)]; exact h.1.2.2.2.2.2.2.2.2.2.2.2.2.2.2.2.2.2.2.2.2.2.1
  · rw [hne _ _ _ (by omega), hne _ _ _ (by omega), hne _ _ _ (by omega), hne _ _ _ (by omega), hne _ _ _ (by omega), hne _ _ _ (by omega), hne _ _ _ (by omega), hne _ _ _ (by omega)]; exact h.1.2.2.2.2.2.2.2.2.2.2.2.2.2.2.2.2.2.2.2.2.2.2.1
  · rw [hne _ _ _ (by omega), hne _ _ _ (by omega), hne _ _ _ (by omega), hne _ _ _ (by omega), hne _ _ _ (by omega), hne _ _ _ (by omega), hne _ _ _ (by omega), hne _ _ _ (by omega)]; exact h.1.2.2.2.2.2.2.2.2.2.2.2.2.2.2.2.2.2.2.2.2.2.2.2

theorem kept_alloc24d {w v0 W : World} {a b c : Nat → Int} {o : Obj} (h : (W.drew.cell? ⟨w.heap.size, 0, none⟩ = some (.int .i64 (a 0)) ∧ W.drew.cell? ⟨w.heap.size, 1, none⟩ = some (.int .i64 (a 1)) ∧ W.drew.cell? ⟨w.heap.size, 2, none⟩ = some (.int .i64 (a 2)) ∧ W.drew.cell? ⟨w.heap.size, 3, none⟩ = some (.int .i64 (a 3)) ∧ W.drew.cell? ⟨w.heap.size, 4, none⟩ = some (.int .i64 (a 4)) ∧ W.drew.cell? ⟨w.heap.size, 5, none⟩ = some (.int .i64 (a 5)) ∧ W.drew.cell? ⟨w.heap.size, 6, none⟩ = some (.int .i64 (a 6)) ∧ W.drew.cell? ⟨w.heap.size, 7, none⟩ = some (.int .i64 (a 7)) ∧ W.drew.cell? ⟨w.heap.size + 1, 0, none⟩ = some (.int .i64 (b 0)) ∧ W.drew.cell? ⟨w.heap.size + 1, 1, none⟩ = some (.int .i64 (b 1)) ∧ W.drew.cell? ⟨w.heap.size + 1, 2, none⟩ = some (.int .i64 (b 2)) ∧ W.drew.cell? ⟨w.heap.size + 1, 3, none⟩ = some (.int .i64 (b 3)) ∧ W.drew.cell? ⟨w.heap.size + 1, 4, none⟩ = some (.int .i64 (b 4)) ∧ W.drew.cell? ⟨w.heap.size + 1, 5, none⟩ = some (.int .i64 (b 5)) ∧ W.drew.cell? ⟨w.heap.size + 1, 6, none⟩ = some (.int .i64 (b 6)) ∧ W.drew.cell? ⟨w.heap.size + 1, 7, none⟩ = some (.int .i64 (b 7)) ∧ W.drew.cell? ⟨w.heap.size + 1 + 1, 0, none⟩ = some (.int .i64 (c 0)) ∧ W.drew.cell? ⟨w.heap.size + 1 + 1, 1, none⟩ = some (.int .i64 (c 1)) ∧ W.drew.cell? ⟨w.heap.size + 1 + 1, 2, none⟩ = some (.int .i64 (c 2)) ∧ W.drew.cell? ⟨w.heap.size + 1 + 1, 3, none⟩ = some (.int .i64 (c 3)) ∧ W.drew.cell? ⟨w.heap.size + 1 + 1, 4, none⟩ = some (.int .i64 (c 4)) ∧ W.drew.cell? ⟨w.heap.size + 1 + 1, 5, none⟩ = some (.int .i64 (c 5)) ∧ W.drew.cell? ⟨w.heap.size + 1 + 1, 6, none⟩ = some (.int .i64 (c 6)) ∧ W.drew.cell? ⟨w.heap.size + 1 + 1, 7, none⟩ = some (.int .i64 (c 7))) ∧ KeptFrom v0 W.drew) : ((W.alloc o).drew.cell? ⟨w.heap.size, 0, none⟩ = some (.int .i64 (a 0)) ∧ (W.alloc o).drew.cell? ⟨w.heap.size, 1, none⟩ = some (.int .i64 (a 1)) ∧ (W.alloc o).drew.cell? ⟨w.heap.size, 2, none⟩ = some (.int .i64 (a 2)) ∧ (W.alloc o).drew.cell? ⟨w.heap.size, 3, none⟩ = some (.int .i64 (a 3)) ∧ (W.alloc o).drew.cell? ⟨w.heap.size, 4, none⟩ = some (.int .i64 (a 4)) ∧ (W.alloc o).drew.cell? ⟨w.heap.size, 5, none⟩ = some (.int .i64 (a 5)) ∧ (W.alloc o).drew.cell? ⟨w.heap.size, 6, none⟩ = some (.int .i64 (a 6)) ∧ (W.alloc o).drew.cell? ⟨w.heap.size, 7, none⟩ = some (.int .i64 (a 7)) ∧ (W.alloc o).drew.cell? ⟨w.heap.size + 1, 0, none⟩ = some (.int .i64 (b 0)) ∧ (W.alloc o).drew.cell? ⟨w.heap.size + 1, 1, none⟩ = some (.int .i64 (b 1)) ∧ (W.alloc o).drew.cell? ⟨w.heap.size + 1, 2, none⟩ = some (.int .i64 (b 2)) ∧ (W.alloc o).drew.cell? ⟨w.heap.size + 1, 3, none⟩ = some (.int .i64 (b 3)) ∧ (W.alloc o).drew.cell? ⟨w.heap.size + 1, 4, none⟩ = some (.int .i64 (b 4)) ∧ (W.alloc o).drew.cell? ⟨w.heap.size + 1, 5, none⟩ = some (.int .i64 (b 5)) ∧ (W.alloc o).drew.cell? ⟨w.heap.size + 1, 6, none⟩ = some (.int .i64 (b 6)) ∧ (W.alloc o).drew.cell? ⟨w.heap.size + 1, 7, none⟩ = some (.int .i64 (b 7)) ∧ (W.alloc o).drew.cell? ⟨w.heap.size + 1 + 1, 0, none⟩ = some (.int .i64 (c 0)) ∧ (W.alloc o).drew.cell? ⟨w.heap.size + 1 + 1, 1, none⟩ = some (.int .i64 (c 1)) ∧ (W.alloc o).drew.cell? ⟨w.heap.size + 1 + 1, 2, none⟩ = some (.int .i64 (c 2)) ∧ (W.alloc o).drew.cell? ⟨w.heap.size + 1 + 1, 3, none⟩ = some (.int .i64 (c 3)) ∧ (W.alloc o).drew.cell? ⟨w.heap.size + 1 + 1, 4, none⟩ = some (.int .i64 (c 4)) ∧ (W.alloc o).drew.cell? ⟨w.heap.size + 1 + 1, 5, none⟩ = some (.int .i64 (c 5)) ∧ (W.alloc o).drew.cell? ⟨w.heap.size + 1 + 1, 6, none⟩ = some (.int .i64 (c 6)) ∧ (W.alloc o).drew.cell? ⟨w.heap.size + 1 + 1, 7, none⟩ = some (.int .i64 (c 7))) ∧ KeptFrom v0 (W.alloc o).drew :=
  kept_alloc24 (W := W.drew) o h

/-- The new vector lies in a block of its own; the three that came lie where they lay. -/
def Boxed (w v0 : World) (a b c x : Nat → Int) (T : TypeId) (v : Value) (W : World) : Prop :=
  ∃ g, v = .pointer (some ⟨g, 0, none⟩) ∧ v0.heap.size ≤ g ∧ W.heap[g]? = some (.cells (arr x) T (0, 0)) ∧ (W.cell? ⟨w.heap.size, 0, none⟩ = some (.int .i64 (a 0)) ∧ W.cell? ⟨w.heap.size, 1, none⟩ = some (.int .i64 (a 1)) ∧ W.cell? ⟨w.heap.size, 2, none⟩ = some (.int .i64 (a 2)) ∧ W.cell? ⟨w.heap.size, 3, none⟩ = some (.int .i64 (a 3)) ∧ W.cell? ⟨w.heap.size, 4, none⟩ = some (.int .i64 (a 4)) ∧ W.cell? ⟨w.heap.size, 5, none⟩ = some (.int .i64 (a 5)) ∧ W.cell? ⟨w.heap.size, 6, none⟩ = some (.int .i64 (a 6)) ∧ W.cell? ⟨w.heap.size, 7, none⟩ = some (.int .i64 (a 7)) ∧ W.cell? ⟨w.heap.size + 1, 0, none⟩ = some (.int .i64 (b 0)) ∧ W.cell? ⟨w.heap.size + 1, 1, none⟩ = some (.int .i64 (b 1)) ∧ W.cell? ⟨w.heap.size + 1, 2, none⟩ = some (.int .i64 (b 2)) ∧ W.cell? ⟨w.heap.size + 1, 3, none⟩ = some (.int .i64 (b 3)) ∧ W.cell? ⟨w.heap.size + 1, 4, none⟩ = some (.int .i64 (b 4)) ∧ W.cell? ⟨w.heap.size + 1, 5, none⟩ = some (.int .i64 (b 5)) ∧ W.cell? ⟨w.heap.size + 1, 6, none⟩ = some (.int .i64 (b 6)) ∧ W.cell? ⟨w.heap.size + 1, 7, none⟩ = some (.int .i64 (b 7)) ∧ W.cell? ⟨w.heap.size + 1 + 1, 0, none⟩ = some (.int .i64 (c 0)) ∧ W.cell? ⟨w.heap.size + 1 + 1, 1, none⟩ = some (.int .i64 (c 1)) ∧ W.cell? ⟨w.heap.size + 1 + 1, 2, none⟩ = some (.int .i64 (c 2)) ∧ W.cell? ⟨w.heap.size + 1 + 1, 3, none⟩ = some (.int .i64 (c 3)) ∧ W.cell? ⟨w.heap.size + 1 + 1, 4, none⟩ = some (.int .i64 (c 4)) ∧ W.cell? ⟨w.heap.size + 1 + 1, 5, none⟩ = some (.int .i64 (c 5)) ∧ W.cell? ⟨w.heap.size + 1 + 1, 6, none⟩ = some (.int .i64 (c 6)) ∧ W.cell? ⟨w.heap.size + 1 + 1, 7, none⟩ = some (.int .i64 (c 7))) ∧ KeptFrom v0 W

set_option maxRecDepth 100000 in
set_option maxHeartbeats 6400000 in
theorem core (H : VecHave) (a b c j m x y p q : Nat → Int) (w : World)
    (Hab : Hid (∀ W : World, Calls Try.prog 19 #[.agg #[.int .i64 (a 0), .int .i64 (a 1), .int .i64 (a 2), .int .i64 (a 3), .int .i64 (a 4), .int .i64 (a 5), .int .i64 (a 6), .int .i64 (a 7)], .agg #[.int .i64 (b 0), .int .i64 (b 1), .int .i64 (b 2), .int .i64 (b 3), .int .i64 (b 4), .int .i64 (b 5), .int .i64 (b 6), .int .i64 (b 7)]] W fun e w' => e = .returned (.agg #[.int .i64 (j 0), .int .i64 (j 1), .int .i64 (j 2), .int .i64 (j 3), .int .i64 (j 4), .int .i64 (j 5), .int .i64 (j 6), .int .i64 (j 7)]) ∧ Below W.heap.size W w'))
    (Hba : Hid (∀ W : World, Calls Try.prog 19 #[.agg #[.int .i64 (b 0), .int .i64 (b 1), .int .i64 (b 2), .int .i64 (b 3), .int .i64 (b 4), .int .i64 (b 5), .int .i64 (b 6), .int .i64 (b 7)], .agg #[.int .i64 (a 0), .int .i64 (a 1), .int .i64 (a 2), .int .i64 (a 3), .int .i64 (a 4), .int .i64 (a 5), .int .i64 (a 6), .int .i64 (a 7)]] W fun e w' => e = .returned (.agg #[.int .i64 (j 0), .int .i64 (j 1), .int .i64 (j 2), .int .i64 (j 3), .int .i64 (j 4), .int .i64 (j 5), .int .i64 (j 6), .int .i64 (j 7)]) ∧ Below W.heap.size W w'))
    (Hjc : Hid (∀ W : World, Calls Try.prog 19 #[.agg #[.int .i64 (j 0), .int .i64 (j 1), .int .i64 (j 2), .int .i64 (j 3), .int .i64 (j 4), .int .i64 (j 5), .int .i64 (j 6), .int .i64 (j 7)], .agg #[.int .i64 (c 0), .int .i64 (c 1), .int .i64 (c 2), .int .i64 (c 3), .int .i64 (c 4), .int .i64 (c 5), .int .i64 (c 6), .int .i64 (c 7)]] W fun e w' => e = .returned (.agg #[.int .i64 (x 0), .int .i64 (x 1), .int .i64 (x 2), .int .i64 (x 3), .int .i64 (x 4), .int .i64 (x 5), .int .i64 (x 6), .int .i64 (x 7)]) ∧ Below W.heap.size W w'))
    (Hbc : Hid (∀ W : World, Calls Try.prog 19 #[.agg #[.int .i64 (b 0), .int .i64 (b 1), .int .i64 (b 2), .int .i64 (b 3), .int .i64 (b 4), .int .i64 (b 5), .int .i64 (b 6), .int .i64 (b 7)], .agg #[.int .i64 (c 0), .int .i64 (c 1), .int .i64 (c 2), .int .i64 (c 3), .int .i64 (c 4), .int .i64 (c 5), .int .i64 (c 6), .int .i64 (c 7)]] W fun e w' => e = .returned (.agg #[.int .i64 (p 0), .int .i64 (p 1), .int .i64 (p 2), .int .i64 (p 3), .int .i64 (p 4), .int .i64 (p 5), .int .i64 (p 6), .int .i64 (p 7)]) ∧ Below W.heap.size W w'))
    (Hap : Hid (∀ W : World, Calls Try.prog 19 #[.agg #[.int .i64 (a 0), .int .i64 (a 1), .int .i64 (a 2), .int .i64 (a 3), .int .i64 (a 4), .int .i64 (a 5), .int .i64 (a 6), .int .i64 (a 7)], .agg #[.int .i64 (p 0), .int .i64 (p 1), .int .i64 (p 2), .int .i64 (p 3), .int .i64 (p 4), .int .i64 (p 5), .int .i64 (p 6), .int .i64 (p 7)]] W fun e w' => e = .returned (.agg #[.int .i64 (x 0), .int .i64 (x 1), .int .i64 (x 2), .int .i64 (x 3), .int .i64 (x 4), .int .i64 (x 5), .int .i64 (x 6), .int .i64 (x 7)]) ∧ Below W.heap.size W w'))
    (Haa : Hid (∀ W : World, Calls Try.prog 19 #[.agg #[.int .i64 (a 0), .int .i64 (a 1), .int .i64 (a 2), .int .i64 (a 3), .int .i64 (a 4), .int .i64 (a 5), .int .i64 (a 6), .int .i64 (a 7)], .agg #[.int .i64 (a 0), .int .i64 (a 1), .int .i64 (a 2), .int .i64 (a 3), .int .i64 (a 4), .int .i64 (a 5), .int .i64 (a 6), .int .i64 (a 7)]] W fun e w' => e = .returned (.agg #[.int .i64 (a 0), .int .i64 (a 1), .int .i64 (a 2), .int .i64 (a 3), .int .i64 (a 4), .int .i64 (a 5), .int .i64 (a 6), .int .i64 (a 7)]) ∧ Below W.heap.size W w'))
    (Ham : Hid (∀ W : World, Calls Try.prog 19 #[.agg #[.int .i64 (a 0), .int .i64 (a 1), .int .i64 (a 2), .int .i64 (a 3), .int .i64 (a 4), .int .i64 (a 5), .int .i64 (a 6), .int .i64 (a 7)], .agg #[.int .i64 (m 0), .int .i64 (m 1), .int .i64 (m 2), .int .i64 (m 3), .int .i64 (m 4), .int .i64 (m 5), .int .i64 (m 6), .int .i64 (m 7)]] W fun e w' => e = .returned (.agg #[.int .i64 (a 0), .int .i64 (a 1), .int .i64 (a 2), .int .i64 (a 3), .int .i64 (a 4), .int .i64 (a 5), .int .i64 (a 6), .int .i64 (a 7)]) ∧ Below W.heap.size W w'))
    (Mab : Hid (∀ W : World, Calls Try.prog 21 #[.agg #[.int .i64 (a 0), .int .i64 (a 1), .int .i64 (a 2), .int .i64 (a 3), .int .i64 (a 4), .int .i64 (a 5), .int .i64 (a 6), .int .i64 (a 7)], .agg #[.int .i64 (b 0), .int .i64 (b 1), .int .i64 (b 2), .int .i64 (b 3), .int .i64 (b 4), .int .i64 (b 5), .int .i64 (b 6), .int .i64 (b 7)]] W fun e w' => e = .returned (.agg #[.int .i64 (m 0), .int .i64 (m 1), .int .i64 (m 2), .int .i64 (m 3), .int .i64 (m 4), .int .i64 (m 5), .int .i64 (m 6), .int .i64 (m 7)]) ∧ Below W.heap.size W w'))
    (Mba : Hid (∀ W : World, Calls Try.prog 21 #[.agg #[.int .i64 (b 0), .int .i64 (b 1), .int .i64 (b 2), .int .i64 (b 3), .int .i64 (b 4), .int .i64 (b 5), .int .i64 (b 6), .int .i64 (b 7)], .agg #[.int .i64 (a 0), .int .i64 (a 1), .int .i64 (a 2), .int .i64 (a 3), .int .i64 (a 4), .int .i64 (a 5), .int .i64 (a 6), .int .i64 (a 7)]] W fun e w' => e = .returned (.agg #[.int .i64 (m 0), .int .i64 (m 1), .int .i64 (m 2), .int .i64 (m 3), .int .i64 (m 4), .int .i64 (m 5), .int .i64 (m 6), .int .i64 (m 7)]) ∧ Below W.heap.size W w'))
    (Mmc : Hid (∀ W : World, Calls Try.prog 21 #[.agg #[.int .i64 (m 0), .int .i64 (m 1), .int .i64 (m 2), .int .i64 (m 3), .int .i64 (m 4), .int .i64 (m 5), .int .i64 (m 6), .int .i64 (m 7)], .agg #[.int .i64 (c 0), .int .i64 (c 1), .int .i64 (c 2), .int .i64 (c 3), .int .i64 (c 4), .int .i64 (c 5), .int .i64 (c 6), .int .i64 (c 7)]] W fun e w' => e = .returned (.agg #[.int .i64 (y 0), .int .i64 (y 1), .int .i64 (y 2), .int .i64 (y 3), .int .i64 (y 4), .int .i64 (y 5), .int .i64 (y 6), .int .i64 (y 7)]) ∧ Below W.heap.size W w'))
    (Mbc : Hid (∀ W : World, Calls Try.prog 21 #[.agg #[.int .i64 (b 0), .int .i64 (b 1), .int .i64 (b 2), .int .i64 (b 3), .int .i64 (b 4), .int .i64 (b 5), .int .i64 (b 6), .int .i64 (b 7)], .agg #[.int .i64 (c 0), .int .i64 (c 1), .int .i64 (c 2), .int .i64 (c 3), .int .i64 (c 4), .int .i64 (c 5), .int .i64 (c 6), .int .i64 (c 7)]] W fun e w' => e = .returned (.agg #[.int .i64 (q 0), .int .i64 (q 1), .int .i64 (q 2), .int .i64 (q 3), .int .i64 (q 4), .int .i64 (q 5), .int .i64 (q 6), .int .i64 (q 7)]) ∧ Below W.heap.size W w'))
    (Maq : Hid (∀ W : World, Calls Try.prog 21 #[.agg #[.int .i64 (a 0), .int .i64 (a 1), .int .i64 (a 2), .int .i64 (a 3), .int .i64 (a 4), .int .i64 (a 5), .int .i64 (a 6), .int .i64 (a 7)], .agg #[.int .i64 (q 0), .int .i64 (q 1), .int .i64 (q 2), .int .i64 (q 3), .int .i64 (q 4), .int .i64 (q 5), .int .i64 (q 6), .int .i64 (q 7)]] W fun e w' => e = .returned (.agg #[.int .i64 (y 0), .int .i64 (y 1), .int .i64 (y 2), .int .i64 (y 3), .int .i64 (y 4), .int .i64 (y 5), .int .i64 (y 6), .int .i64 (y 7)]) ∧ Below W.heap.size W w'))
    (Maa : Hid (∀ W : World, Calls Try.prog 21 #[.agg #[.int .i64 (a 0), .int .i64 (a 1), .int .i64 (a 2), .int .i64 (a 3), .int .i64 (a 4), .int .i64 (a 5), .int .i64 (a 6), .int .i64 (a 7)], .agg #[.int .i64 (a 0), .int .i64 (a 1), .int .i64 (a 2), .int .i64 (a 3), .int .i64 (a 4), .int .i64 (a 5), .int .i64 (a 6), .int .i64 (a 7)]] W fun e w' => e = .returned (.agg #[.int .i64 (a 0), .int .i64 (a 1), .int .i64 (a 2), .int .i64 (a 3), .int .i64 (a 4), .int .i64 (a 5), .int .i64 (a 6), .int .i64 (a 7)]) ∧ Below W.heap.size W w'))
    (Maj : Hid (∀ W : World, Calls Try.prog 21 #[.agg #[.int .i64 (a 0), .int .i64 (a 1), .int .i64 (a 2), .int .i64 (a 3), .int .i64 (a 4), .int .i64 (a 5), .int .i64 (a 6), .int .i64 (a 7)], .agg #[.int .i64 (j 0), .int .i64 (j 1), .int .i64 (j 2), .int .i64 (j 3), .int .i64 (j 4), .int .i64 (j 5), .int .i64 (j 6), .int .i64 (j 7)]] W fun e w' => e = .returned (.agg #[.int .i64 (a 0), .int .i64 (a 1), .int .i64 (a 2), .int .i64 (a 3), .int .i64 (a 4), .int .i64 (a 5), .int .i64 (a 6), .int .i64 (a 7)]) ∧ Below W.heap.size W w')) :
    Calls Try.prog 7 #[.agg #[.int .i64 (a 0), .int .i64 (a 1), .int .i64 (a 2), .int .i64 (a 3), .int .i64 (a 4), .int .i64 (a 5), .int .i64 (a 6), .int .i64 (a 7)], .agg #[.int .i64 (b 0), .int .i64 (b 1), .int .i64 (b 2), .int .i64 (b 3), .int .i64 (b 4), .int .i64 (b 5), .int .i64 (b 6), .int .i64 (b 7)], .agg #[.int .i64 (c 0), .int .i64 (c 1), .int .i64 (c 2), .int .i64 (c 3), .int .i64 (c 4), .int .i64 (c 5), .int .i64 (c 6), .int .i64 (c 7)]] w fun e w' => e = .returned (.bool true) ∧ Below w.heap.size w w' := by
  go_enter Try.func7, Try.ntmps7
  go_wp2_with fail
  refine (H.shown _).mono ?_
  rintro e v0 ⟨rfl, hb1⟩
  have hS0 : (v0.cell? ⟨w.heap.size, 0, none⟩ = some (.int .i64 (a 0)) ∧ v0.cell? ⟨w.heap.size, 1, none⟩ = some (.int .i64 (a 1)) ∧ v0.cell? ⟨w.heap.size, 2, none⟩ = some (.int .i64 (a 2)) ∧ v0.cell? ⟨w.heap.size, 3, none⟩ = some (.int .i64 (a 3)) ∧ v0.cell? ⟨w.heap.size, 4, none⟩ = some (.int .i64 (a 4)) ∧ v0.cell? ⟨w.heap.size, 5, none⟩ = some (.int .i64 (a 5)) ∧ v0.cell? ⟨w.heap.size, 6, none⟩ = some (.int .i64 (a 6)) ∧ v0.cell? ⟨w.heap.size, 7, none⟩ = some (.int .i64 (a 7)) ∧ v0.cell? ⟨w.heap.size + 1, 0, none⟩ = some (.int .i64 (b 0)) ∧ v0.cell? ⟨w.heap.size + 1, 1, none⟩ = some (.int .i64 (b 1)) ∧ v0.cell? ⟨w.heap.size + 1, 2, none⟩ = some (.int .i64 (b 2)) ∧ v0.cell? ⟨w.heap.size + 1, 3, none⟩ = some (.int .i64 (b 3)) ∧ v0.cell? ⟨w.heap.size + 1, 4, none⟩ = some (.int .i64 (b 4)) ∧ v0.cell? ⟨w.heap.size + 1, 5, none⟩ = some (.int .i64 (b 5)) ∧ v0.cell? ⟨w.heap.size + 1, 6, none⟩ = some (.int .i64 (b 6)) ∧ v0.cell? ⟨w.heap.size + 1, 7, none⟩ = some (.int .i64 (b 7)) ∧ v0.cell? ⟨w.heap.size + 1 + 1, 0, none⟩ = some (.int .i64 (c 0)) ∧ v0.cell? ⟨w.heap.size + 1 + 1, 1, none⟩ = some (.int .i64 (c 1)) ∧ v0.cell? ⟨w.heap.size + 1 + 1, 2, none⟩ = some (.int .i64 (c 2)) ∧ v0.cell? ⟨w.heap.size + 1 + 1, 3, none⟩ = some (.int .i64 (c 3)) ∧ v0.cell? ⟨w.heap.size + 1 + 1, 4, none⟩ = some (.int .i64 (c 4)) ∧ v0.cell? ⟨w.heap.size + 1 + 1, 5, none⟩ = some (.int .i64 (c 5)) ∧ v0.cell? ⟨w.heap.size + 1 + 1, 6, none⟩ = some (.int .i64 (c 6)) ∧ v0.cell? ⟨w.heap.size + 1 + 1, 7, none⟩ = some (.int .i64 (c 7))) ∧ KeptFrom w v0 := by
    obtain ⟨q1, q2, q3⟩ := heap3 w (.cells (arr a) 22) (.cells (arr b) 22) (.cells (arr c) 22)
    have A1 : Below w.heap.size w v0 := below_step ((((Below.refl _ _).alloc (Nat.le_refl _) _).alloc (by simp) _).alloc (by simp; omega) _) hb1
    exact ⟨⟨cell_later hb1 (cell_arr q1 (show 0 < 8 by omega)), cell_later hb1 (cell_arr q1 (show 1 < 8 by omega)), cell_later hb1 (cell_arr q1 (show 2 < 8 by omega)), cell_later hb1 (cell_arr q1 (show 3 < 8 by omega)), cell_later hb1 (cell_arr q1 (show 4 < 8 by omega)), cell_later hb1 (cell_arr q1 (show 5 < 8 by omega)), cell_later hb1 (cell_arr q1 (show 6 < 8 by omega)), cell_later hb1 (cell_arr q1 (show 7 < 8 by omega)), cell_later hb1 (cell_arr q2 (show 0 < 8 by omega)), cell_later hb1 (cell_arr q2 (show 1 < 8 by omega)), cell_later hb1 (cell_arr q2 (show 2 < 8 by omega)), cell_later hb1 (cell_arr q2 (show 3 < 8 by omega)), cell_later hb1 (cell_arr q2 (show 4 < 8 by omega)), cell_later hb1 (cell_arr q2 (show 5 < 8 by omega)), cell_later hb1 (cell_arr q2 (show 6 < 8 by omega)), cell_later hb1 (cell_arr q2 (show 7 < 8 by omega)), cell_later hb1 (cell_arr q3 (show 0 < 8 by omega)), cell_later hb1 (cell_arr q3 (show 1 < 8 by omega)), cell_later hb1 (cell_arr q3 (show 2 < 8 by omega)), cell_later hb1 (cell_arr q3 (show 3 < 8 by omega)), cell_later hb1 (cell_arr q3 (show 4 < 8 by omega)), cell_later hb1 (cell_arr q3 (show 5 < 8 by omega)), cell_later hb1 (cell_arr q3 (show 6 < 8 by omega)), cell_later hb1 (cell_arr q3 (show 7 < 8 by omega))⟩, A1⟩
  clear hb1
  have hw0 : w.heap.size + 1 + 1 < v0.heap.size := World.block_lt_of_cell? _ _ hS0.1.2.2.2.2.2.2.2.2.2.2.2.2.2.2.2.2.1
  have hA0 := Lib.hid (kept_below hS0.2)
  go_upto_region 2 with fail
  go_cut [8] (fun v wx => Boxed w v0 a b c x 24 v wx)
  case first =>
    have hS1 : (v0.drew.cell? ⟨w.heap.size, 0, none⟩ = some (.int .i64 (a 0)) ∧ v0.drew.cell? ⟨w.heap.size, 1, none⟩ = some (.int .i64 (a 1)) ∧ v0.drew.cell? ⟨w.heap.size, 2, none⟩ = some (.int .i64 (a 2)) ∧ v0.drew.cell? ⟨w.heap.size, 3, none⟩ = some (.int .i64 (a 3)) ∧ v0.drew.cell? ⟨w.heap.size, 4, none⟩ = some (.int .i64 (a 4)) ∧ v0.drew.cell? ⟨w.heap.size, 5, none⟩ = some (.int .i64 (a 5)) ∧ v0.drew.cell? ⟨w.heap.size, 6, none⟩ = some (.int .i64 (a 6)) ∧ v0.drew.cell? ⟨w.heap.size, 7, none⟩ = some (.int .i64 (a 7)) ∧ v0.drew.cell? ⟨w.heap.size + 1, 0, none⟩ = some (.int .i64 (b 0)) ∧ v0.drew.cell? ⟨w.heap.size + 1, 1, none⟩ = some (.int .i64 (b 1)) ∧ v0.drew.cell? ⟨w.heap.size + 1, 2, none⟩ = some (.int .i64 (b 2)) ∧ v0.drew.cell? ⟨w.heap.size + 1, 3, none⟩ = some (.int .i64 (b 3)) ∧ v0.drew.cell? ⟨w.heap.size + 1, 4, none⟩ = some (.int .i64 (b 4)) ∧ v0.drew.cell? ⟨w.heap.size + 1, 5, none⟩ = some (.int .i64 (b 5)) ∧ v0.drew.cell? ⟨w.heap.size + 1, 6, none⟩ = some (.int .i64 (b 6)) ∧ v0.drew.cell? ⟨w.heap.size + 1, 7, none⟩ = some (.int .i64 (b 7)) ∧ v0.drew.cell? ⟨w.heap.size + 1 + 1, 0, none⟩ = some (.int .i64 (c 0)) ∧ v0.drew.cell? ⟨w.heap.size + 1 + 1, 1, none⟩ = some (.int .i64 (c 1)) ∧ v0.drew.cell? ⟨w.heap.size + 1 + 1, 2, none⟩ = some (.int .i64 (c 2)) ∧ v0.drew.cell? ⟨w.heap.size + 1 + 1, 3, none⟩ = some (.int .i64 (c 3)) ∧ v0.drew.cell? ⟨w.heap.size + 1 + 1, 4, none⟩ = some (.int .i64 (c 4)) ∧ v0.drew.cell? ⟨w.heap.size + 1 + 1, 5, none⟩ = some (.int .i64 (c 5)) ∧ v0.drew.cell? ⟨w.heap.size + 1 + 1, 6, none⟩ = some (.int .i64 (c 6)) ∧ v0.drew.cell? ⟨w.heap.size + 1 + 1, 7, none⟩ = some (.int .i64 (c 7))) ∧ KeptFrom v0 v0.drew := ⟨hS0.1, (Below.refl _ _).drew⟩
    clear hS0
    go_region_held3 (fun W => (W.cell? ⟨w.heap.size, 0, none⟩ = some (.int .i64 (a 0)) ∧ W.cell? ⟨w.heap.size, 1, none⟩ = some (.int .i64 (a 1)) ∧ W.cell? ⟨w.heap.size, 2, none⟩ = some (.int .i64 (a 2)) ∧ W.cell? ⟨w.heap.size, 3, none⟩ = some (.int .i64 (a 3)) ∧ W.cell? ⟨w.heap.size, 4, none⟩ = some (.int .i64 (a 4)) ∧ W.cell? ⟨w.heap.size, 5, none⟩ = some (.int .i64 (a 5)) ∧ W.cell? ⟨w.heap.size, 6, none⟩ = some (.int .i64 (a 6)) ∧ W.cell? ⟨w.heap.size, 7, none⟩ = some (.int .i64 (a 7)) ∧ W.cell? ⟨w.heap.size + 1, 0, none⟩ = some (.int .i64 (b 0)) ∧ W.cell? ⟨w.heap.size + 1, 1, none⟩ = some (.int .i64 (b 1)) ∧ W.cell? ⟨w.heap.size + 1, 2, none⟩ = some (.int .i64 (b 2)) ∧ W.cell? ⟨w.heap.size + 1, 3, none⟩ = some (.int .i64 (b 3)) ∧ W.cell? ⟨w.heap.size + 1, 4, none⟩ = some (.int .i64 (b 4)) ∧ W.cell? ⟨w.heap.size + 1, 5, none⟩ = some (.int .i64 (b 5)) ∧ W.cell? ⟨w.heap.size + 1, 6, none⟩ = some (.int .i64 (b 6)) ∧ W.cell? ⟨w.heap.size + 1, 7, none⟩ = some (.int .i64 (b 7)) ∧ W.cell? ⟨w.heap.size + 1 + 1, 0, none⟩ = some (.int .i64 (c 0)) ∧ W.cell? ⟨w.heap.size + 1 + 1, 1, none⟩ = some (.int .i64 (c 1)) ∧ W.cell? ⟨w.heap.size + 1 + 1, 2, none⟩ = some (.int .i64 (c 2)) ∧ W.cell? ⟨w.heap.size + 1 + 1, 3, none⟩ = some (.int .i64 (c 3)) ∧ W.cell? ⟨w.heap.size + 1 + 1, 4, none⟩ = some (.int .i64 (c 4)) ∧ W.cell? ⟨w.heap.size + 1 + 1, 5, none⟩ = some (.int .i64 (c 5)) ∧ W.cell? ⟨w.heap.size + 1 + 1, 6, none⟩ = some (.int .i64 (c 6)) ∧ W.cell? ⟨w.heap.size + 1 + 1, 7, none⟩ = some (.int .i64 (c 7))) ∧ KeptFrom v0 W) (first | with_reducible assumption | ((with_reducible refine kept_alloc24 _ ?_); with_reducible assumption) | ((with_reducible refine kept_alloc24d ?_); with_reducible assumption) | ((with_reducible refine kept_set24 ?_ ?_ ?_); (omega); (omega); with_reducible assumption))
      (first
      | (go_at_call 19; (with_reducible refine (Hab.out _).mono ?_); rintro e w21 ⟨rfl, hb21⟩; have hS21 := kept_call24 hb21 (by assumption); have hz21 := (kept_below hS21.2).size; (first | (with_reducible have hx21 := box_later hb21; have hc21 := box_cells hx21) | (with_reducible have hx21 := box_later' hb21; have hc21 := box_cells hx21) | (have hx21 := box_keep hb21 (by assumption); have hc21 := box_cells hx21) | skip))
      | (go_at_call 19; (with_reducible refine (Hjc.out _).mono ?_); rintro e w22 ⟨rfl, hb22⟩; have hS22 := kept_call24 hb22 (by assumption); have hz22 := (kept_below hS22.2).size; (first | (with_reducible have hx22 := box_later hb22; have hc22 := box_cells hx22) | (with_reducible have hx22 := box_later' hb22; have hc22 := box_cells hx22) | (have hx22 := box_keep hb22 (by assumption); have hc22 := box_cells hx22) | skip)))
    all_goals
      go_wp2_with fail
      go_meet
      case rel =>
        first
          | exact ⟨_, rfl, hz22, heap_alloc_new _ _, by assumption⟩
          | exact ⟨_, rfl, by omega, heap_set8 (v := fun _ => 0) hx22 x, by assumption⟩
  case rest =>
  obtain ⟨gx, rfl, hgx, hxx, hS2⟩ := hcut
  generalize wc = v1 at hxx hS2 ⊢
  have hw1 : w.heap.size + 1 + 1 < v1.heap.size := World.block_lt_of_cell? _ _ hS2.1.2.2.2.2.2.2.2.2.2.2.2.2.2.2.2.2.1
  have hA1 := Lib.hid (below_step hA0.out (kept_below hS2.2))
  have hX1 := Lib.hid hxx
  clear hA0 hw0 hgx hxx
  go_upto_region 3 with fail
  go_cut [9] (fun v wx => Boxed w v1 a b c y 24 v wx)
  case first =>
    have hS1 : (v1.drew.cell? ⟨w.heap.size, 0, none⟩ = some (.int .i64 (a 0)) ∧ v1.drew.cell? ⟨w.heap.size, 1, none⟩ = some (.int .i64 (a 1)) ∧ v1.drew.cell? ⟨w.heap.size, 2, none⟩ = some (.int .i64 (a 2)) ∧ v1.drew.cell? ⟨w.heap.size, 3, none⟩ = some (.int .i64 (a 3)) ∧ v1.drew.cell? ⟨w.heap.size, 4, none⟩ = some (.int .i64 (a 4)) ∧ v1.drew.cell? ⟨w.heap.size, 5, none⟩ = some (.int .i64 (a 5)) ∧ v1.drew.cell? ⟨w.heap.size, 6, none⟩ = some (.int .i64 (a 6)) ∧ v1.drew.cell? ⟨w.heap.size, 7, none⟩ = some (.int .i64 (a 7)) ∧ v1.drew.cell? ⟨w.heap.size + 1, 0, none⟩ = some (.int .i64 (b 0)) ∧ v1.drew.cell? ⟨w.heap.size + 1, 1, none⟩ = some (.int .i64 (b 1)) ∧ v1.drew.cell? ⟨w.heap.size + 1, 2, none⟩ = some (.int .i64 (b 2)) ∧ v1.drew.cell? ⟨w.heap.size + 1, 3, none⟩ = some (.int .i64 (b 3)) ∧ v1.drew.cell? ⟨w.heap.size + 1, 4, none⟩ = some (.int .i64 (b 4)) ∧ v1.drew.cell? ⟨w.heap.size + 1, 5, none⟩ = some (.int .i64 (b 5)) ∧ v1.drew.cell? ⟨w.heap.size + 1, 6, none⟩ = some (.int .i64 (b 6)) ∧ v1.drew.cell? ⟨w.heap.size + 1, 7, none⟩ = some (.int .i64 (b 7)) ∧ v1.drew.cell? ⟨w.heap.size + 1 + 1, 0, none⟩ = some (.int .i64 (c 0)) ∧ v1.drew.cell? ⟨w.heap.size + 1 + 1, 1, none⟩ = some (.int .i64 (c 1)) ∧ v1.drew.cell? ⟨w.heap.size + 1 + 1, 2, none⟩ = some (.int .i64 (c 2)) ∧ v1.drew.cell? ⟨w.heap.size + 1 + 1, 3, none⟩ = some (.int .i64 (c 3)) ∧ v1.drew.cell? ⟨w.heap.size + 1 + 1, 4, none⟩ = some (.int .i64 (c 4)) ∧ v1.drew.cell? ⟨w.heap.size + 1 + 1, 5, none⟩ = some (.int .i64 (c 5)) ∧ v1.drew.cell? ⟨w.heap.size + 1 + 1, 6, none⟩ = some (.int .i64 (c 6)) ∧ v1.drew.cell? ⟨w.heap.size + 1 + 1, 7, none⟩ = some (.int .i64 (c 7))) ∧ KeptFrom v1 v1.drew := ⟨hS2.1, (Below.refl _ _).drew⟩
    clear hS2
    go_region_held3 (fun W => (W.cell? ⟨w.heap.size, 0, none⟩ = some (.int .i64 (a 0)) ∧ W.cell? ⟨w.heap.size, 1, none⟩ = some (.int .i64 (a 1)) ∧ W.cell? ⟨w.heap.size, 2, none⟩ = some (.int .i64 (a 2)) ∧ W.cell? ⟨w.heap.size, 3, none⟩ = some (.int .i64 (a 3)) ∧ W.cell? ⟨w.heap.size, 4, none⟩ = some (.int .i64 (a 4)) ∧ W.cell? ⟨w.heap.size, 5, none⟩ = some (.int .i64 (a 5)) ∧ W.cell? ⟨w.heap.size, 6, none⟩ = some (.int .i64 (a 6)) ∧ W.cell? ⟨w.heap.size, 7, none⟩ = some (.int .i64 (a 7)) ∧ W.cell? ⟨w.heap.size + 1, 0, none⟩ = some (.int .i64 (b 0)) ∧ W.cell? ⟨w.heap.size + 1, 1, none⟩ = some (.int .i64 (b 1)) ∧ W.cell? ⟨w.heap.size + 1, 2, none⟩ = some (.int .i64 (b 2)) ∧ W.cell? ⟨w.heap.size + 1, 3, none⟩ = some (.int .i64 (b 3)) ∧ W.cell? ⟨w.heap.size + 1, 4, none⟩ = some (.int .i64 (b 4)) ∧ W.cell? ⟨w.heap.size + 1, 5, none⟩ = some (.int .i64 (b 5)) ∧ W.cell? ⟨w.heap.size + 1, 6, none⟩ = some (.int .i64 (b 6)) ∧ W.cell? ⟨w.heap.size + 1, 7, none⟩ = some (.int .i64 (b 7)) ∧ W.cell? ⟨w.heap.size + 1 + 1, 0, none⟩ = some (.int .i64 (c 0)) ∧ W.cell? ⟨w.heap.size + 1 + 1, 1, none⟩ = some (.int .i64 (c 1)) ∧ W.cell? ⟨w.heap.size + 1 + 1, 2, none⟩ = some (.int .i64 (c 2)) ∧ W.cell? ⟨w.heap.size + 1 + 1, 3, none⟩ = some (.int .i64 (c 3)) ∧ W.cell? ⟨w.heap.size + 1 + 1, 4, none⟩ = some (.int .i64 (c 4)) ∧ W.cell? ⟨w.heap.size + 1 + 1, 5, none⟩ = some (.int .i64 (c 5)) ∧ W.cell? ⟨w.heap.size + 1 + 1, 6, none⟩ = some (.int .i64 (c 6)) ∧ W.cell? ⟨w.heap.size + 1 + 1, 7, none⟩ = some (.int .i64 (c 7))) ∧ KeptFrom v1 W) (first | with_reducible assumption | ((with_reducible refine kept_alloc24 _ ?_); with_reducible assumption) | ((with_reducible refine kept_alloc24d ?_); with_reducible assumption) | ((with_reducible refine kept_set24 ?_ ?_ ?_); (omega); (omega); with_reducible assumption))
      (first
      | (go_at_call 21; (with_reducible refine (Mab.out _).mono ?_); rintro e w31 ⟨rfl, hb31⟩; have hS31 := kept_call24 hb31 (by assumption); have hz31 := (kept_below hS31.2).size; (first | (with_reducible have hx31 := box_later hb31; have hc31 := box_cells hx31) | (with_reducible have hx31 := box_later' hb31; have hc31 := box_cells hx31) | (have hx31 := box_keep hb31 (by assumption); have hc31 := box_cells hx31) | skip))
      | (go_at_call 21; (with_reducible refine (Mmc.out _).mono ?_); rintro e w32 ⟨rfl, hb32⟩; have hS32 := kept_call24 hb32 (by assumption); have hz32 := (kept_below hS32.2).size; (first | (with_reducible have hx32 := box_later hb32; have hc32 := box_cells hx32) | (with_reducible have hx32 := box_later' hb32; have hc32 := box_cells hx32) | (have hx32 := box_keep hb32 (by assumption); have hc32 := box_cells hx32) | skip)))
    all_goals
      go_wp2_with fail
      go_meet
      case rel =>
        first
          | exact ⟨_, rfl, hz32, heap_alloc_new _ _, by assumption⟩
          | exact ⟨_, rfl, by omega, heap_set8 (v := fun _ => 0) hx32 y, by assumption⟩
  case rest =>
  obtain ⟨gy, rfl, hgy, hyy, hS3⟩ := hcut
  generalize wc = v2 at hyy hS3 ⊢
  have hA2 := Lib.hid (below_step hA1.out (kept_below hS3.2))
  have hxx : v2.heap[gx]? = some (.cells (arr x) 24 (0, 0)) := ((kept_below hS3.2).block gx (heap_lt hX1.out)).trans hX1.out
  have hc : v2.cell? ⟨w.heap.size, 0, none⟩ = some (.int .i64 (a 0)) ∧ v2.cell? ⟨w.heap.size, 1, none⟩ = some (.int .i64 (a 1)) ∧ v2.cell? ⟨w.heap.size, 2, none⟩ = some (.int .i64 (a 2)) ∧ v2.cell? ⟨w.heap.size, 3, none⟩ = some (.int .i64 (a 3)) ∧ v2.cell? ⟨w.heap.size, 4, none⟩ = some (.int .i64 (a 4)) ∧ v2.cell? ⟨w.heap.size, 5, none⟩ = some (.int .i64 (a 5)) ∧ v2.cell? ⟨w.heap.size, 6, none⟩ = some (.int .i64 (a 6)) ∧ v2.cell? ⟨w.heap.size, 7, none⟩ = some (.int .i64 (a 7)) ∧ v2.cell? ⟨w.heap.size + 1, 0, none⟩ = some (.int .i64 (b 0)) ∧ v2.cell? ⟨w.heap.size + 1, 1, none⟩ = some (.int .i64 (b 1)) ∧ v2.cell? ⟨w.heap.size + 1, 2, none⟩ = some (.int .i64 (b 2)) ∧ v2.cell? ⟨w.heap.size + 1, 3, none⟩ = some (.int .i64 (b 3)) ∧ v2.cell? ⟨w.heap.size + 1, 4, none⟩ = some (.int .i64 (b 4)) ∧ v2.cell? ⟨w.heap.size + 1, 5, none⟩ = some (.int .i64 (b 5)) ∧ v2.cell? ⟨w.heap.size + 1, 6, none⟩ = some (.int .i64 (b 6)) ∧ v2.cell? ⟨w.heap.size + 1, 7, none⟩ = some (.int .i64 (b 7)) ∧ v2.cell? ⟨w.heap.size + 1 + 1, 0, none⟩ = some (.int .i64 (c 0)) ∧ v2.cell? ⟨w.heap.size + 1 + 1, 1, none⟩ = some (.int .i64 (c 1)) ∧ v2.cell? ⟨w.heap.size + 1 + 1, 2, none⟩ = some (.int .i64 (c 2)) ∧ v2.cell? ⟨w.heap.size + 1 + 1, 3, none⟩ = some (.int .i64 (c 3)) ∧ v2.cell? ⟨w.heap.size + 1 + 1, 4, none⟩ = some (.int .i64 (c 4)) ∧ v2.cell? ⟨w.heap.size + 1 + 1, 5, none⟩ = some (.int .i64 (c 5)) ∧ v2.cell? ⟨w.heap.size + 1 + 1, 6, none⟩ = some (.int .i64 (c 6)) ∧ v2.cell? ⟨w.heap.size + 1 + 1, 7, none⟩ = some (.int .i64 (c 7)) ∧ v2.cell? ⟨gx, 0, none⟩ = some (.int .i64 (x 0)) ∧ v2.cell? ⟨gx, 1, none⟩ = some (.int .i64 (x 1)) ∧ v2.cell? ⟨gx, 2, none⟩ = some (.int .i64 (x 2)) ∧ v2.cell? ⟨gx, 3, none⟩ = some (.int .i64 (x 3)) ∧ v2.cell? ⟨gx, 4, none⟩ = some (.int .i64 (x 4)) ∧ v2.cell? ⟨gx, 5, none⟩ = some (.int .i64 (x 5)) ∧ v2.cell? ⟨gx, 6, none⟩ = some (.int .i64 (x 6)) ∧ v2.cell? ⟨gx, 7, none⟩ = some (.int .i64 (x 7)) ∧ v2.cell? ⟨gy, 0, none⟩ = some (.int .i64 (y 0)) ∧ v2.cell? ⟨gy, 1, none⟩ = some (.int .i64 (y 1)) ∧ v2.cell? ⟨gy, 2, none⟩ = some (.int .i64 (y 2)) ∧ v2.cell? ⟨gy, 3, none⟩ = some (.int .i64 (y 3)) ∧ v2.cell? ⟨gy, 4, none⟩ = some (.int .i64 (y 4)) ∧ v2.cell? ⟨gy, 5, none⟩ = some (.int .i64 (y 5)) ∧ v2.cell? ⟨gy, 6, none⟩ = some (.int .i64 (y 6)) ∧ v2.cell? ⟨gy, 7, none⟩ = some (.int .i64 (y 7)) := ⟨hS3.1.1, hS3.1.2.1, hS3.1.2.2.1, hS3.1.2.2.2.1, hS3.1.2.2.2.2.1, hS3.1.2.2.2.2.2.1, hS3.1.2.2.2.2.2.2.1, hS3.1.2.2.2.2.2.2.2.1, hS3.1.2.2.2.2.2.2.2.2.1, hS3.1.2.2.2.2.2.2.2.2.2.1, hS3.1.2.2.2.2.2.2.2.2.2.2.1, hS3.1.2.2.2.2.2.2.2.2.2.2.2.1, hS3.1.2.2.2.2.2.2.2.2.2.2.2.2.1, hS3.1.2.2.2.2.2.2.2.2.2.2.2.2.2.1, hS3.1.2.2.2.2.2.2.2.2.2.2.2.2.2.2.1, hS3.1.2.2.2.2.2.2.2.2.2.2.2.2.2.2.2.1, hS3.1.2.2.2.2.2.2.2.2.2.2.2.2.2.2.2.2.1, hS3.1.2.2.2.2.2.2.2.2.2.2.2.2.2.2.2.2.2.1, hS3.1.2.2.2.2.2.2.2.2.2.2.2.2.2.2.2.2.2.2.1, hS3.1.2.2.2.2.2.2.2.2.2.2.2.2.2.2.2.2.2.2.2.1, hS3.1.2.2.2.2.2.2.2.2.2.2.2.2.2.2.2.2.2.2.2.2.1, hS3.1.2.2.2.2.2.2.2.2.2.2.2.2.2.2.2.2.2.2.2.2.2.1, hS3.1.2.2.2.2.2.2.2.2.2.2.2.2.2.2.2.2.2.2.2.2.2.2.1, hS3.1.2.2.2.2.2.2.2.2.2.2.2.2.2.2.2.2.2.2.2.2.2.2.2, cell_arr hxx (show 0 < 8 by omega), cell_arr hxx (show 1 < 8 by omega), cell_arr hxx (show 2 < 8 by omega), cell_arr hxx (show 3 < 8 by omega), cell_arr hxx (show 4 < 8 by omega), cell_arr hxx (show 5 < 8 by omega), cell_arr hxx (show 6 < 8 by omega), cell_arr hxx (show 7 < 8 by omega), cell_arr hyy (show 0 < 8 by omega), cell_arr hyy (show 1 < 8 by omega), cell_arr hyy (show 2 < 8 by omega), cell_arr hyy (show 3 < 8 by omega), cell_arr hyy (show 4 < 8 by omega), cell_arr hyy (show 5 < 8 by omega), cell_arr hyy (show 6 < 8 by omega), cell_arr hyy (show 7 < 8 by omega)⟩
  clear hS2 hS3 hxx hyy hgy hw1 hX1 hA1
  go_upto_region 4 with fail
  obtain ⟨l0, l1, l2, l3, l4, l5, l6, l7, l8, l9, l10, l11, l12, l13, l14, l15, l16, l17, l18, l19, l20, l21, l22, l23, l24, l25, l26, l27, l28, l29, l30, l31, l32, l33, l34, l35, l36, l37, l38, l39⟩ := hc
  have q0 := later_cell l0
  have q1 := later_cell l1
  have q2 := later_cell l2
  have q3 := later_cell l3
  have q4 := later_cell l4
  have q5 := later_cell l5
  have q6 := later_cell l6
  have q7 := later_cell l7
  have q8 := later_cell l8
  have q9 := later_cell l9
  have q10 := later_cell l10
  have q11 := later_cell l11
  have q12 := later_cell l12
  have q13 := later_cell l13
  have q14 := later_cell l14
  have q15 := later_cell l15
  have q16 := later_cell l16
  have q17 := later_cell l17
  have q18 := later_cell l18
  have q19 := later_cell l19
  have q20 := later_cell l20
  have q21 := later_cell l21
  have q22 := later_cell l22
  have q23 := later_cell l23
  have q24 := later_cell l24
  have q25 := later_cell l25
  have q26 := later_cell l26
  have q27 := later_cell l27
  have q28 := later_cell l28
  have q29 := later_cell l29
  have q30 := later_cell l30
  have q31 := later_cell l31
  have q32 := later_cell l32
  have q33 := later_cell l33
  have q34 := later_cell l34
  have q35 := later_cell l35
  have q36 := later_cell l36
  have q37 := later_cell l37
  have q38 := later_cell l38
  have q39 := later_cell l39
  clear l0 l1 l2 l3 l4 l5 l6 l7 l8 l9 l10 l11 l12 l13 l14 l15 l16 l17 l18 l19 l20 l21 l22 l23 l24 l25 l26 l27 l28 l29 l30 l31 l32 l33 l34 l35 l36 l37 l38 l39
  have Ej : ∀ W : World, (Op.equalIn 10000 24 (.agg #[.int .i64 (j 0), .int .i64 (j 1), .int .i64 (j 2), .int .i64 (j 3), .int .i64 (j 4), .int .i64 (j 5), .int .i64 (j 6), .int .i64 (j 7)]) (.agg #[.int .i64 (j 0), .int .i64 (j 1), .int .i64 (j 2), .int .i64 (j 3), .int .i64 (j 4), .int .i64 (j 5), .int .i64 (j 6), .int .i64 (j 7)])).run Try.prog W = .ok true W := fun W => run_eqV_same j W
  have Em : ∀ W : World, (Op.equalIn 10000 24 (.agg #[.int .i64 (m 0), .int .i64 (m 1), .int .i64 (m 2), .int .i64 (m 3), .int .i64 (m 4), .int .i64 (m 5), .int .i64 (m 6), .int .i64 (m 7)]) (.agg #[.int .i64 (m 0), .int .i64 (m 1), .int .i64 (m 2), .int .i64 (m 3), .int .i64 (m 4), .int .i64 (m 5), .int .i64 (m 6), .int .i64 (m 7)])).run Try.prog W = .ok true W := fun W => run_eqV_same m W
  have Ea : ∀ W : World, (Op.equalIn 10000 24 (.agg #[.int .i64 (a 0), .int .i64 (a 1), .int .i64 (a 2), .int .i64 (a 3), .int .i64 (a 4), .int .i64 (a 5), .int .i64 (a 6), .int .i64 (a 7)]) (.agg #[.int .i64 (a 0), .int .i64 (a 1), .int .i64 (a 2), .int .i64 (a 3), .int .i64 (a 4), .int .i64 (a 5), .int .i64 (a 6), .int .i64 (a 7)])).run Try.prog W = .ok true W := fun W => run_eqV_same a W
  have Ex : ∀ W : World, (Op.equalIn 10000 24 (.agg #[.int .i64 (x 0), .int .i64 (x 1), .int .i64 (x 2), .int .i64 (x 3), .int .i64 (x 4), .int .i64 (x 5), .int .i64 (x 6), .int .i64 (x 7)]) (.agg #[.int .i64 (x 0), .int .i64 (x 1), .int .i64 (x 2), .int .i64 (x 3), .int .i64 (x 4), .int .i64 (x 5), .int .i64 (x 6), .int .i64 (x 7)])).run Try.prog W = .ok true W := fun W => run_eqV_same x W
  have Ey : ∀ W : World, (Op.equalIn 10000 24 (.agg #[.int .i64 (y 0), .int .i64 (y 1), .int .i64 (y 2), .int .i64 (y 3), .int .i64 (y 4), .int .i64 (y 5), .int .i64 (y 6), .int .i64 (y 7)]) (.agg #[.int .i64 (y 0), .int .i64 (y 1), .int .i64 (y 2), .int .i64 (y 3), .int .i64 (y 4), .int .i64 (y 5), .int .i64 (y 6), .int .i64 (y 7)])).run Try.prog W = .ok true W := fun W => run_eqV_same y W
  refine wp_region_later (by kernel_rfl) (by kernel_rfl) ?_
  repeat (go_big_quiet_step (first | (with_reducible exact later_call (Hab.out _)) | (with_reducible exact later_call (Hba.out _)) | (with_reducible exact later_call (Mab.out _)) | (with_reducible exact later_call (Mba.out _)) | (with_reducible exact later_call (Haa.out _)) | (with_reducible exact later_call (Maa.out _))))
  refine wpQuiet_nil ?_
  intro _ hw'
  obtain ⟨u1, rfl⟩ := hw'
  have r0 := q0 u1
  have r1 := q1 u1
  have r2 := q2 u1
  have r3 := q3 u1
  have r4 := q4 u1
  have r5 := q5 u1
  have r6 := q6 u1
  have r7 := q7 u1
  have r8 := q8 u1
  have r9 := q9 u1
  have r10 := q10 u1
  have r11 := q11 u1
  have r12 := q12 u1
  have r13 := q13 u1
  have r14 := q14 u1
  have r15 := q15 u1
  have r16 := q16 u1
  have r17 := q17 u1
  have r18 := q18 u1
  have r19 := q19 u1
  have r20 := q20 u1
  have r21 := q21 u1
  have r22 := q22 u1
  have r23 := q23 u1
  have r24 := q24 u1
  have r25 := q25 u1
  have r26 := q26 u1
  have r27 := q27 u1
  have r28 := q28 u1
  have r29 := q29 u1
  have r30 := q30 u1
  have r31 := q31 u1
  have r32 := q32 u1
  have r33 := q33 u1
  have r34 := q34 u1
  have r35 := q35 u1
  have r36 := q36 u1
  have r37 := q37 u1
  have r38 := q38 u1
  have r39 := q39 u1
  clear q0 q1 q2 q3 q4 q5 q6 q7 q8 q9 q10 q11 q12 q13 q14 q15 q16 q17 q18 q19 q20 q21 q22 q23 q24 q25 q26 q27 q28 q29 q30 q31 q32 q33 q34 q35 q36 q37 q38 q39
  have hA3 := Lib.hid (below_step hA2.out (later_below v2 u1))
  clear hA2
  generalize later v2 u1 = v3 at *
  go_upto_region 5 with fail
  have q0 := later_cell r0
  have q1 := later_cell r1
  have q2 := later_cell r2
  have q3 := later_cell r3
  have q4 := later_cell r4
  have q5 := later_cell r5
  have q6 := later_cell r6
  have q7 := later_cell r7
  have q8 := later_cell r8
  have q9 := later_cell r9
  have q10 := later_cell r10
  have q11 := later_cell r11
  have q12 := later_cell r12
  have q13 := later_cell r13
  have q14 := later_cell r14
  have q15 := later_cell r15
  have q16 := later_cell r16
  have q17 := later_cell r17
  have q18 := later_cell r18
  have q19 := later_cell r19
  have q20 := later_cell r20
  have q21 := later_cell r21
  have q22 := later_cell r22
  have q23 := later_cell r23
  have q24 := later_cell r24
  have q25 := later_cell r25
  have q26 := later_cell r26
  have q27 := later_cell r27
  have q28 := later_cell r28
  have q29 := later_cell r29
  have q30 := later_cell r30
  have q31 := later_cell r31
  have q32 := later_cell r32
  have q33 := later_cell r33
  have q34 := later_cell r34
  have q35 := later_cell r35
  have q36 := later_cell r36
  have q37 := later_cell r37
  have q38 := later_cell r38
  have q39 := later_cell r39
  clear r0 r1 r2 r3 r4 r5 r6 r7 r8 r9 r10 r11 r12 r13 r14 r15 r16 r17 r18 r19 r20 r21 r22 r23 r24 r25 r26 r27 r28 r29 r30 r31 r32 r33 r34 r35 r36 r37 r38 r39
  refine wp_region_later (by kernel_rfl) (by kernel_rfl) ?_
  repeat (go_big_quiet_step (first | (with_reducible exact later_call (Hbc.out _)) | (with_reducible exact later_call (Hap.out _)) | (with_reducible exact later_call (Mbc.out _)) | (with_reducible exact later_call (Maq.out _)) | (with_reducible exact later_call (Mab.out _)) | (with_reducible exact later_call (Ham.out _)) | (with_reducible exact later_call (Hab.out _)) | (with_reducible exact later_call (Maj.out _))))
  refine wpQuiet_nil ?_
  intro _ hw'
  obtain ⟨u2, rfl⟩ := hw'
  go_wp2_with fail
  go_ret
  exact ⟨rfl, below_step hA3.out (later_below _ _)⟩

theorem walk0 (H : VecHave) (a0 a1 a2 : Nat → Int) (_w0 : ∀ i, IsI64 (a0 i)) (_w1 : ∀ i, IsI64 (a1 i)) (_w2 : ∀ i, IsI64 (a2 i)) (w : World) :
    Calls Try.prog 7 #[.agg (arr a0), .agg (arr a1), .agg (arr a2)] w fun e w' => e = .returned (.bool true) ∧ Below w.heap.size w w' := by
  have hj : ∀ (p q r : Nat → Int), joinV p q = r → ∀ W : World, Calls Try.prog 19 #[.agg (arr p), .agg (arr q)] W fun e w' => e = .returned (.agg (arr r)) ∧ Below W.heap.size W w' := fun p q r h W => by rw [← h]; exact H.join p q W
  have hm : ∀ (p q r : Nat → Int), meetV p q = r → ∀ W : World, Calls Try.prog 21 #[.agg (arr p), .agg (arr q)] W fun e w' => e = .returned (.agg (arr r)) ∧ Below W.heap.size W w' := fun p q r h W => by rw [← h]; exact H.meet p q W
  exact core H a0 a1 a2 (joinV a0 a1) (meetV a0 a1) (joinV (joinV a0 a1) a2) (meetV (meetV a0 a1) a2) (joinV a1 a2) (meetV a1 a2) w
    (hj _ _ _ rfl) (hj _ _ _ (joinV_comm a1 a0)) (hj _ _ _ rfl) (hj _ _ _ rfl) (hj _ _ _ (joinV_assoc a0 a1 a2)) (hj _ _ _ (joinV_same a0)) (hj _ _ _ (joinV_takes a0 a1))
    (hm _ _ _ rfl) (hm _ _ _ (meetV_comm a1 a0)) (hm _ _ _ rfl) (hm _ _ _ rfl) (hm _ _ _ (meetV_assoc a0 a1 a2)) (hm _ _ _ (meetV_same a0)) (hm _ _ _ (meetV_takes a0 a1))

end Go.Proofs.Ytonpafakhbinmaa.lawVectorJoins
