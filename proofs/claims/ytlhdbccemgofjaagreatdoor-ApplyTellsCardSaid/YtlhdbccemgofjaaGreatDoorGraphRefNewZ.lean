/-
  The walk of the document's own New (graphs).
-/
import Derived.Test.YtlhdbccemgofjaaGreatDoorGraphValsZ
namespace Go.Proofs.YtlhdbccemgofjaaGreatDoor
open Go.RowKit StampMath GraphMath

set_option maxRecDepth 100000 in
set_option maxHeartbeats 800000 in
theorem refGraphNew (w : World) :
    Calls Tryz.prog 14 #[] w fun e w' => ∃ v, e = .returned v ∧ GrAt (fun i => w.heap.size ≤ i) w' v newG ∧ Below w.heap.size w w' := by
  go_enter Tryz.func14, Tryz.ntmps14
  go_wp2_with fail
  have hx := heap_alloc_new (w.alloc (.cells #[.slice (some ⟨w.heap.size + 1, 0, none⟩) 1 1, .slice none 0 0] 30)) (.cells (inoA ⟨(0, 0), 1, 0, 0, ⟨#[]⟩⟩) 54)
  rw [World.size_alloc] at hx
  have hI : InosIn ((w.alloc (.cells #[.slice (some ⟨w.heap.size + 1, 0, none⟩) 1 1, .slice none 0 0] 30)).alloc (.cells (inoA ⟨(0, 0), 1, 0, 0, ⟨#[]⟩⟩) 54)) ((w.alloc (.cells #[.slice (some ⟨w.heap.size + 1, 0, none⟩) 1 1, .slice none 0 0] 30)).alloc (.cells (inoA ⟨(0, 0), 1, 0, 0, ⟨#[]⟩⟩) 54)).heap.size (some ⟨w.heap.size + 1, 0, none⟩) 1 newG.I :=
    ⟨rfl, fun _ => ⟨w.heap.size + 1, 0, rfl, by simp, fun j hj i v hv => by
      have hj0 : j = 0 := by have : j < 1 := hj; omega
      subst hj0
      rw [show (0 : Nat) + 0 * 6 + i = i by omega, cell_of_row _ _ i _ _ (0, 0) hx]
      exact hv⟩⟩
  exact bodyPost_ret (v := .agg #[.slice (some ⟨w.heap.size + 1, 0, none⟩) 1 1, .slice none 0 0]) (by simp [results, Tryz.results14, go_sem]) rfl
    ⟨_, rfl, ⟨some ⟨w.heap.size + 1, 0, none⟩, 1, 1, none, 0, 0, rfl, hI, ⟨Nat.le_refl _, by decide, (fun h => by cases h), (fun _ p hp => by cases hp; exact Nat.le_succ _)⟩, TabIn.nil 5 _ _ _, ⟨Nat.le_refl _, by decide, fun _ => rfl, (fun _ p hp => by cases hp)⟩⟩, ((Below.refl _ w).alloc (Nat.le_refl _) _).alloc (by simp) _⟩

end Go.Proofs.YtlhdbccemgofjaaGreatDoor
