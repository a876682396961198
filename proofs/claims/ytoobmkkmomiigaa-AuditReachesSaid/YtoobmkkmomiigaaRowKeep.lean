/-
  Rows of a call's own, kept through calls and through a write to another block. It needs no program.
-/
import Derived.Test.YtoobmkkmomiigaaSep
namespace Go.Proofs.Ytoobmkkmomiigaa
open Go.RowKit

/-- Has the call made the block r, and the blocks from base on alone? -/
theorem own_iter {w w' : World} {base r : Nat} {e : TypeId} {k : Nat} {v : Value} {n : Nat} {xs : List Value} (h : w.ownsRow base e k v n xs) (hb : But (fun i => i = r) w w') (hr : r < base) : w'.ownsRow base e k v n xs :=
  h.kept (row := some r) ⟨hb.os, hb.tape, hb.output, hb.size, fun i hi hn => hb.block i hi fun q => hn (by rw [q])⟩ (by
    cases hv : v.ownBlock with
    | none => exact .inl rfl
    | some j => exact .inr (fun q => by have := (h.lt j hv).1; injection q with q; omega))

/-- A call that leaves all that was there leaves the row. -/
theorem own_call {w w' : World} {base : Nat} {e : TypeId} {k : Nat} {v : Value} {n : Nat} {xs : List Value} (h : w.ownsRow base e k v n xs) (hb : Below w.heap.size w w') : w'.ownsRow base e k v n xs :=
  h.kept (row := none) ⟨hb.os, hb.tape, hb.output, hb.size, fun i hi _ => hb.block i hi⟩ (by
    cases hv : v.ownBlock with
    | none => exact .inl rfl
    | some j => exact .inr (fun q => by cases q))

theorem own_lower {w : World} {b b' : Nat} {e : TypeId} {k : Nat} {v : Value} {n : Nat} {xs : List Value} (h : w.ownsRow b e k v n xs) (hb : b' ≤ b) : w.ownsRow b' e k v n xs := by
  obtain ⟨h0, h1 | ⟨g, cap, cur, h1, h2, h3⟩⟩ := h
  · exact ⟨h0, Or.inl h1⟩
  · exact ⟨h0, Or.inr ⟨g, cap, cur, h1, Nat.le_trans hb h2, h3⟩⟩

end Go.Proofs.Ytoobmkkmomiigaa
