/-
  What a call that writes to some blocks leaves: outside these all that was there is as it was. It needs no program.
-/
import Derived.Test.YtoobmkkmomiigaaBase
namespace Go.Proofs.Ytoobmkkmomiigaa
open Go.RowKit

/-- Outside the blocks S all that was there is as it was. -/
structure But (S : Nat → Prop) (w w' : World) : Prop where
  os : w'.os = w.os
  tape : w'.tape = w.tape
  output : w'.output = w.output
  size : w.heap.size ≤ w'.heap.size
  block : ∀ k, k < w.heap.size → ¬ S k → w'.heap[k]? = w.heap[k]?

theorem But.refl (S : Nat → Prop) (w : World) : But S w w := ⟨rfl, rfl, rfl, Nat.le_refl _, fun _ _ _ => rfl⟩

theorem But.of_below {S : Nat → Prop} {w w' : World} (h : Below w.heap.size w w') : But S w w' := ⟨h.os, h.tape, h.output, h.size, fun k hk _ => h.block k hk⟩

theorem But.trans {S T : Nat → Prop} {a b c : World} (h : But S a b) (k : But T b c) (hT : ∀ i, T i → i < a.heap.size → S i) : But S a c :=
  ⟨k.os.trans h.os, k.tape.trans h.tape, k.output.trans h.output, Nat.le_trans h.size k.size, fun i hi hn =>
    (k.block i (Nat.lt_of_lt_of_le hi h.size) fun ht => hn (hT i ht hi)).trans (h.block i hi hn)⟩

theorem But.mono {S T : Nat → Prop} {a b : World} (h : But S a b) (hT : ∀ i, S i → T i) : But T a b :=
  ⟨h.os, h.tape, h.output, h.size, fun i hi hn => h.block i hi fun hs => hn (hT i hs)⟩

theorem But.below {S : Nat → Prop} {a b : World} {B : Nat} (h : But S a b) (hS : ∀ i, S i → B ≤ i) (hB : B ≤ a.heap.size) : Below B a b :=
  ⟨h.os, h.tape, h.output, h.size, fun i hi => h.block i (by omega) fun hs => by have := hS i hs; omega⟩

theorem But.then_below {S : Nat → Prop} {a b c : World} (h : But S a b) (k : Below b.heap.size b c) : But S a c := h.trans (T := fun _ => False) (.of_below k) fun _ h => h.elim

theorem But.alloc {S : Nat → Prop} {a b : World} (h : But S a b) (o : Obj) : But S a (b.alloc o) := h.then_below ((Below.refl _ _).alloc (Nat.le_refl _) o)

theorem But.drewN {S : Nat → Prop} {a b : World} (h : But S a b) (n : Nat) : But S a (b.drewN n) := ⟨h.os, h.tape, h.output, h.size, h.block⟩

theorem But.setCell {S : Nat → Prop} {a b : World} (h : But S a b) {p : Addr} (hp : S p.block ∨ a.heap.size ≤ p.block) (v : Value) : But S a (b.setCell p v) := by
  refine ⟨?_, ?_, ?_, ?_, fun k hk hn => ?_⟩
  · rw [← h.os]; rfl
  · rw [← h.tape]; rfl
  · rw [← h.output]; rfl
  · rw [World.size_setCell]; exact h.size
  · rw [← h.block k hk hn]
    refine heap_setCell_other _ _ _ _ fun e => ?_
    subst e
    rcases hp with hp | hp
    · exact hn hp
    · omega

/-- What stood in a block that isn't one of them stands there. -/
theorem But.heap {S : Nat → Prop} {a b : World} (h : But S a b) {g : Nat} {o : Obj} (hg : a.heap[g]? = some o) (hn : ¬ S g) : b.heap[g]? = some o := (h.block g (heap_lt hg) hn).trans hg

theorem But.cell {S : Nat → Prop} {a b : World} (h : But S a b) {p : Addr} {v : Value} (hp : a.cell? p = some v) (hn : ¬ S p.block) : b.cell? p = some v :=
  (World.cell?_of_block (h.block p.block (World.block_lt_of_cell? _ _ hp) hn)).trans hp

end Go.Proofs.Ytoobmkkmomiigaa
