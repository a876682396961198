/-
  The walk of layer 13's same: two graphs that tell the same.
-/
import Derived.Test.YtdobeghbkonimaaGreatDoorZ01
import Derived.Test.YtdobeghbkonimaaGreatDoorZ01
import Derived.Deep.RegionHeld3
import Derived.Deep.RegionWith
namespace Go.Proofs.YtdobeghbkonimaaGreatDoor
open Go.RowKit StampMath GraphMath OpMath

set_option maxRecDepth 100000 in
set_option maxHeartbeats 1600000 in
theorem sameF_two (H : GraphHave) (a b : Addr) (S T : Nat → Prop) (g : Gr) (w : World) (h1 : H.rep w S a g) (h2 : H.rep w T b g) (hg : g.ok) :
    Calls Tryz.prog 29 #[.pointer (some a), .pointer (some b)] w fun e w' => e = .returned (.bool true) ∧ Below w.heap.size w w' := by
  have hin : (inodesG g).length ≤ 1000 := by unfold inodesG; rw [List.length_map]; exact Nat.le_trans hg.few (by decide)
  have hm : g.E.length ≤ 1000 := Nat.le_trans hg.entsFew (by decide)
  have I1 : Hid (∀ W, Below w.heap.size w W → Calls Tryz.prog 24 #[.pointer (some a)] W (InosPost (inodesG g) W)) := fun W hW => told_inos H h1 hg hW
  have I2 : Hid (∀ W, Below w.heap.size w W → Calls Tryz.prog 24 #[.pointer (some b)] W (InosPost (inodesG g) W)) := fun W hW => told_inos H h2 hg hW
  have E1 : Hid (∀ W, Below w.heap.size w W → Calls Tryz.prog 27 #[.pointer (some a)] W (EntsPost g.E W)) := fun W hW => told_ents H h1 hg hW
  have E2 : Hid (∀ W, Below w.heap.size w W → Calls Tryz.prog 27 #[.pointer (some b)] W (EntsPost g.E W)) := fun W hW => told_ents H h2 hg hW
  have C9 : Hid (∀ (B B' : Option Addr) (k k' : Nat) (W : World), InosIn W W.heap.size B (inodesG g).length (inodesG g) → InosIn W W.heap.size B' (inodesG g).length (inodesG g) → Calls Tryz.prog 23 #[.slice B (inodesG g).length k, .slice B' (inodesG g).length k'] W fun e w' => e = .returned (.bool true) ∧ Below W.heap.size W w') := fun B B' k k' W q1 q2 => by
    have := refNodes B B' _ k _ k' _ _ (by omega) (by omega) W q1 q2
    simpa using this
  have C15 : Hid (∀ (B B' : Option Addr) (k k' : Nat) (W : World), EntsIn W W.heap.size B g.E.length g.E → EntsIn W W.heap.size B' g.E.length g.E → Calls Tryz.prog 26 #[.slice B g.E.length k, .slice B' g.E.length k'] W fun e w' => e = .returned (.bool true) ∧ Below W.heap.size W w') := fun B B' k k' W q1 q2 => by
    have := refEnts B B' _ k _ k' _ _ (by omega) (by omega) W q1 q2
    simpa using this
  generalize inodesG g = X at I1 I2 C9
  generalize g.E = E at E1 E2 C15
  clear h1 h2 hg hin hm
  go_enter Tryz.func29, Tryz.ntmps29
  go_wp2_with fail
  refine (I1.out _ (by repeat (first | exact Below.refl _ _ | assumption | apply Below.drew | refine below_step ?_ (by assumption)))).mono ?_
  rintro z w1 ⟨B1, k1, rfl, q1, _, _, _, hb⟩
  go_wp2_with fail
  refine (I2.out _ (by repeat (first | exact Below.refl _ _ | assumption | apply Below.drew | refine below_step ?_ (by assumption)))).mono ?_
  rintro z w1 ⟨B1, k1, rfl, q1, _, _, _, hb⟩
  go_wp2_with fail
  refine (C9.out _ _ _ _ _ (inos_later (by assumption) (by repeat (first | exact Below.refl _ _ | assumption | apply Below.drew | refine below_step ?_ (by assumption)))) (by assumption)).mono ?_
  rintro z w1 ⟨rfl, hb⟩
  go_wp2_with fail
  refine (E1.out _ (by repeat (first | exact Below.refl _ _ | assumption | apply Below.drew | refine below_step ?_ (by assumption)))).mono ?_
  rintro z w1 ⟨B1, k1, rfl, q1, _, _, _, hb⟩
  go_wp2_with fail
  refine (E2.out _ (by repeat (first | exact Below.refl _ _ | assumption | apply Below.drew | refine below_step ?_ (by assumption)))).mono ?_
  rintro z w1 ⟨B1, k1, rfl, q1, _, _, _, hb⟩
  go_wp2_with fail
  refine (C15.out _ _ _ _ _ (ents_later (by assumption) (by repeat (first | exact Below.refl _ _ | assumption | apply Below.drew | refine below_step ?_ (by assumption)))) (by assumption)).mono ?_
  rintro z w1 ⟨rfl, hb⟩
  go_wp2_with fail
  go_ret
  exact ⟨rfl, by repeat (first | exact Below.refl _ _ | assumption | apply Below.drew | refine below_step ?_ (by assumption))⟩

end Go.Proofs.YtdobeghbkonimaaGreatDoor
