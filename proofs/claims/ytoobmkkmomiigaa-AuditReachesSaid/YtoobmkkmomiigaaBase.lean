/-
  Small facts that every layer's walks use. No function of the program is named here.
-/
import Derived.WalkKit
import Derived.WalkSpells
import Derived.WalkLawsBesides
import Derived.Lib.Hide
import Derived.Lib.Strings
import Derived.Deep.Draws
import Derived.Deep.AppendLies
namespace Go.Proofs.Ytoobmkkmomiigaa
open Go.RowKit

/-- One call behind another. -/
theorem below_step {a b c : World} (h : Below a.heap.size a b) (k : Below b.heap.size b c) : Below a.heap.size a c := h.trans (k.mono h.size)

theorem below_drewN' {B : Nat} {a w : World} (h : Below B a w) (n : Nat) : Below B a (w.drewN n) := ⟨h.os, h.tape, h.output, h.size, h.block⟩

theorem below_alloc_call {w w1 : World} {o : Obj} (hb : Below ((w.alloc o).drew).heap.size (w.alloc o).drew w1) : Below w.heap.size w w1 :=
  (((Below.refl _ w).alloc (Nat.le_refl _) o).drew).trans (hb.mono (by show w.heap.size ≤ (w.alloc o).heap.size; simp))

theorem below_call_alloc {w w1 : World} (hb : Below w.drew.heap.size w.drew w1) (o : Obj) : Below w.heap.size w (w1.alloc o) :=
  (((Below.refl _ w).drew).trans hb).alloc hb.size o

/-- Nothing below the call's first block has turned (a plain word, which the walk does not open). -/
def KeptFrom (w W : World) : Prop := Below w.heap.size w W

theorem kept_call {w W W' : World} {a : Addr} {v : Value} (hb : Below W.heap.size W W') (h : W.cell? a = some v ∧ KeptFrom w W) : W'.cell? a = some v ∧ KeptFrom w W' :=
  ⟨cell_later hb h.1, below_step h.2 hb⟩

theorem kept_call2 {w W W' : World} {a b : Addr} {u v : Value} (hb : Below W.heap.size W W') (h : (W.cell? a = some u ∧ W.cell? b = some v) ∧ KeptFrom w W) : (W'.cell? a = some u ∧ W'.cell? b = some v) ∧ KeptFrom w W' :=
  ⟨⟨cell_later hb h.1.1, cell_later hb h.1.2⟩, below_step h.2 hb⟩

theorem kept_call4 {w W W' : World} {a b c d : Addr} {u v x y : Value} (hb : Below W.heap.size W W') (h : (W.cell? a = some u ∧ W.cell? b = some v ∧ W.cell? c = some x ∧ W.cell? d = some y) ∧ KeptFrom w W) :
    (W'.cell? a = some u ∧ W'.cell? b = some v ∧ W'.cell? c = some x ∧ W'.cell? d = some y) ∧ KeptFrom w W' :=
  ⟨⟨cell_later hb h.1.1, cell_later hb h.1.2.1, cell_later hb h.1.2.2.1, cell_later hb h.1.2.2.2⟩, below_step h.2 hb⟩

theorem kept_below {w W : World} (h : KeptFrom w W) : Below w.heap.size w W := h

theorem heap_lt {w : World} {g : Nat} {o : Obj} (h : w.heap[g]? = some o) : g < w.heap.size := (Array.getElem?_eq_some_iff.1 h).1

/-- Behind a call all that was there reads as before. -/
theorem bcell_below {W w1 : World} (hb : Below W.heap.size W w1) : (∀ b o, b < W.heap.size → w1.cell? ⟨b, o, none⟩ = W.cell? ⟨b, o, none⟩) ∧ (∀ b o, b < W.heap.size → w1.frozen? ⟨b, o, none⟩ = W.frozen? ⟨b, o, none⟩) :=
  ⟨fun b o h => hb.cell (p := ⟨b, o, none⟩) h, fun b o h => hb.frozen (p := ⟨b, o, none⟩) h⟩

/-- Bytes as cells. -/
def bcell (b : UInt8) : Value := .int .u8 (b.toNat : Int)

theorem one_cell (k : IntKind) (n : Int) : ∀ u ∈ [Value.int k n], u.oneCell' = true := by
  intro u hu
  simp at hu
  subst hu
  rfl

theorem new_cell (w : World) (x : Value) (t : TypeId) : ((w.alloc (.cells #[x] t)).drew).cell? ⟨w.heap.size, 0, none⟩ = some x := cell_one_new w x t 0 x rfl

theorem mk_append_data (l : List UInt8) (s : ByteArray) : (⟨l.toArray⟩ : ByteArray) ++ s = ⟨(l ++ s.data.toList).toArray⟩ := by
  apply ByteArray.ext
  simp [ByteArray.data_append]

theorem extract_rest (s : ByteArray) (k : Nat) : s.extract k s.size = ⟨(s.data.toList.drop k).toArray⟩ := by
  rw [Lib.extract_eq, List.take_of_length_le (by rw [List.length_drop, Lib.size_eq]; exact Nat.le_refl _)]

theorem extract_take (s : ByteArray) (k : Nat) : s.extract 0 k = ⟨(s.data.toList.take k).toArray⟩ := by
  rw [Lib.extract_eq]; simp

theorem data_get {s : ByteArray} {k : Nat} (h : k < s.size) : s.data.toList[k]'(by simpa using h) = s[k] := by simp; rfl

theorem take_next (s : ByteArray) (k : Nat) (h : k < s.size) : s.data.toList.take (k + 1) = s.data.toList.take k ++ [s[k]] := by
  rw [List.take_succ_eq_append_getElem (by simpa using h)]; rfl

theorem byte_of_int {n : Int} (h : 0 ≤ n ∧ n ≤ 255) : ∃ y : UInt8, n = (y.toNat : Int) :=
  ⟨UInt8.ofNat n.toNat, by rw [UInt8.toNat_ofNat_of_lt' (show n.toNat < 256 by omega)]; omega⟩

theorem nat_of_int {n m : Int} (h : 0 ≤ n ∧ n ≤ m) : ∃ k : Nat, n = (k : Int) ∧ (k : Int) ≤ m := ⟨n.toNat, by omega, by omega⟩

end Go.Proofs.Ytoobmkkmomiigaa
