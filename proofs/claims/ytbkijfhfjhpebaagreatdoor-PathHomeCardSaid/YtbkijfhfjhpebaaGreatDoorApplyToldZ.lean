/-
  What a graph tells, in later worlds.
-/
import Derived.Test.YtbkijfhfjhpebaaGreatDoorZ01
import Derived.Test.YtbkijfhfjhpebaaGreatDoorZ03
namespace Go.Proofs.YtbkijfhfjhpebaaGreatDoor
open Go.RowKit StampMath GraphMath OpMath

theorem inos_later {W W' : World} {A : Option Addr} {n : Nat} {I : List Ino} (h : InosIn W W.heap.size A n I) (hb : Below W.heap.size W W') : InosIn W' W'.heap.size A n I := (h.below hb).more hb.size
theorem ents_later {W W' : World} {A : Option Addr} {n : Nat} {E : List Ent} (h : EntsIn W W.heap.size A n E) (hb : Below W.heap.size W W') : EntsIn W' W'.heap.size A n E := (h.below hb).more hb.size

/-- What a graph tells, in later worlds. -/
theorem told_inos (H : GraphHave) {w : World} {S : Nat → Prop} {a : Addr} {g : Gr} (h : H.rep w S a g) (hg : g.ok) {W : World} (hW : Below w.heap.size w W) : Calls Tryz.prog 11 #[.pointer (some a)] W (InosPost (inodesG g) W) := by
  refine (H.inodes a S g W (H.keep h fun i hi => hW.block i (H.lt h i hi)) hg).mono ?_
  rintro e w' ⟨v, rfl, hown, hb⟩
  obtain ⟨B, c, rfl, q1, q2, q3⟩ := inos_own rfl hown
  exact ⟨B, c, rfl, q1, q2, q3.1, q3.2, hb⟩

theorem told_ents (H : GraphHave) {w : World} {S : Nat → Prop} {a : Addr} {g : Gr} (h : H.rep w S a g) (hg : g.ok) {W : World} (hW : Below w.heap.size w W) : Calls Tryz.prog 46 #[.pointer (some a)] W (EntsPost g.E W) := by
  refine (H.entries a S g W (H.keep h fun i hi => hW.block i (H.lt h i hi)) hg).mono ?_
  rintro e w' ⟨v, rfl, hown, hb⟩
  obtain ⟨B, c, rfl, q1, q2, q3⟩ := ents_own rfl hown
  exact ⟨B, c, rfl, q1, q2, q3.1, q3.2, hb⟩

end Go.Proofs.YtbkijfhfjhpebaaGreatDoor
