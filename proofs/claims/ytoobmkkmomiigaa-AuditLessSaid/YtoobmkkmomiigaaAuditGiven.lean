/-
  Inodes and entries that a call of audit is given.
-/
import Derived.Test.YtoobmkkmomiigaaAuditMath
import Derived.Test.YtoobmkkmomiigaaGraphRows
namespace Go.Proofs.Ytoobmkkmomiigaa
open Go.RowKit StampMath GraphMath OpMath

/-- Inodes and entries that are given. -/
structure Given (w : World) (A : Option Addr) (n : Nat) (N : List Ino) (A' : Option Addr) (m : Nat) (E : List Ent) : Prop where
  inos : InosIn w w.heap.size A n N
  ents : EntsIn w w.heap.size A' m E
  fewI : n ≤ 1000
  fewE : m ≤ 1000
  datas : ∀ x ∈ N, x.data.size ≤ maxLen
  names : ∀ e ∈ E, e.name.size ≤ maxLen

theorem Given.below {w W : World} {A : Option Addr} {n : Nat} {N : List Ino} {A' : Option Addr} {m : Nat} {E : List Ent} (h : Given w A n N A' m E) (hb : Below w.heap.size w W) : Given W A n N A' m E :=
  ⟨(h.inos.below hb).more hb.size, (h.ents.below hb).more hb.size, h.fewI, h.fewE, h.datas, h.names⟩

end Go.Proofs.Ytoobmkkmomiigaa
