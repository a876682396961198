/-
  Plain mathematics of layer 5: operations, kind by kind. It needs no program.
-/
import Derived.Test.YtoobmkkmomiigaaStampVals
import Derived.Test.YtoobmkkmomiigaaBase
namespace Go.Proofs.Ytoobmkkmomiigaa.OpMath
open Go.RowKit StampMath PackMath

/-- An operation: its stamp, its kind, three stamps, two names, a number, bytes. -/
structure Opn where
  st : Int
  sr : Int
  k : Int
  pt : Int
  pr : Int
  it : Int
  ir : Int
  tt : Int
  tr : Int
  name : ByteArray
  new : ByteArray
  off : Int
  data : ByteArray
deriving DecidableEq

/-- An operation as cells. -/
def opA (o : Opn) : Array Value := #[.int .i64 o.st, .int .i64 o.sr, .int .i64 o.k, .int .i64 o.pt, .int .i64 o.pr, .int .i64 o.it, .int .i64 o.ir, .int .i64 o.tt, .int .i64 o.tr, .string o.name, .string o.new, .int .i64 o.off, .string o.data]

theorem opA_size (o : Opn) : (opA o).size = 13 := rfl

theorem op_cells {w : World} {g : Nat} {o : Opn} {T : TypeId} (h : w.heap[g]? = some (.cells (opA o) T (0, 0))) :
    w.cell? ⟨g, 0, none⟩ = some (.int .i64 o.st) ∧ w.cell? ⟨g, 1, none⟩ = some (.int .i64 o.sr) ∧ w.cell? ⟨g, 2, none⟩ = some (.int .i64 o.k) ∧ w.cell? ⟨g, 3, none⟩ = some (.int .i64 o.pt) ∧ w.cell? ⟨g, 4, none⟩ = some (.int .i64 o.pr) ∧
    w.cell? ⟨g, 5, none⟩ = some (.int .i64 o.it) ∧ w.cell? ⟨g, 6, none⟩ = some (.int .i64 o.ir) ∧ w.cell? ⟨g, 7, none⟩ = some (.int .i64 o.tt) ∧ w.cell? ⟨g, 8, none⟩ = some (.int .i64 o.tr) ∧
    w.cell? ⟨g, 9, none⟩ = some (.string o.name) ∧ w.cell? ⟨g, 10, none⟩ = some (.string o.new) ∧ w.cell? ⟨g, 11, none⟩ = some (.int .i64 o.off) ∧ w.cell? ⟨g, 12, none⟩ = some (.string o.data) :=
  ⟨cell_of_row _ _ 0 _ _ (0, 0) h, cell_of_row _ _ 1 _ _ (0, 0) h, cell_of_row _ _ 2 _ _ (0, 0) h, cell_of_row _ _ 3 _ _ (0, 0) h, cell_of_row _ _ 4 _ _ (0, 0) h, cell_of_row _ _ 5 _ _ (0, 0) h, cell_of_row _ _ 6 _ _ (0, 0) h,
    cell_of_row _ _ 7 _ _ (0, 0) h, cell_of_row _ _ 8 _ _ (0, 0) h, cell_of_row _ _ 9 _ _ (0, 0) h, cell_of_row _ _ 10 _ _ (0, 0) h, cell_of_row _ _ 11 _ _ (0, 0) h, cell_of_row _ _ 12 _ _ (0, 0) h⟩

/-- An operation with the fields that its kind has, alone. -/
def bareO (o : Opn) : Opn where
  st := o.st
  sr := o.sr
  k := o.k
  pt := if o.k ≤ 7 then o.pt else 0
  pr := if o.k ≤ 7 then o.pr else 0
  it := if 4 ≤ o.k then o.it else 0
  ir := if 4 ≤ o.k then o.ir else 0
  tt := if o.k = 7 then o.tt else 0
  tr := if o.k = 7 then o.tr else 0
  name := if o.k ≤ 7 then o.name else ⟨#[]⟩
  new := if o.k = 7 then o.new else ⟨#[]⟩
  off := if 8 ≤ o.k then o.off else 0
  data := if o.k = 3 ∨ o.k = 8 then o.data else ⟨#[]⟩

/-- The kind of inode that it makes. -/
def makesO (o : Opn) : Int := if 1 ≤ o.k ∧ o.k ≤ 3 then o.k else 0

/-- The inodes that it names. -/
def usesO (o : Opn) : List (Int × Int) := (if 1 ≤ o.k ∧ o.k ≤ 7 then [(o.pt, o.pr)] else []) ++ (if 4 ≤ o.k ∧ o.k ≤ 10 then [(o.it, o.ir)] else []) ++ (if o.k = 7 then [(o.tt, o.tr)] else [])

/-- Has a text a byte? -/
def hasB (s : ByteArray) (c : UInt8) : Bool := s.data.toList.any (· == c)

/-- Is it a name? -/
def nameB (s : ByteArray) : Bool := decide (1 ≤ s.size) && decide (s.size ≤ 8) && !(s.toList == [46]) && !(s.toList == [46, 46]) && !hasB s 47 && !hasB s 0

theorem any_next (s : ByteArray) (c : UInt8) (k : Nat) (h : k < s.size) : (s.data.toList.take (k + 1)).any (· == c) = ((s.data.toList.take k).any (· == c) || s[k] == c) := by
  rw [take_next s k h, List.any_append]
  simp

theorem any_all (s : ByteArray) (c : UInt8) (k : Nat) (h : s.size ≤ k) : (s.data.toList.take k).any (· == c) = hasB s c := by
  rw [List.take_of_length_le (by simpa using h)]; rfl

theorem any_some (s : ByteArray) (c : UInt8) (k : Nat) (h : k < s.size) (hc : s[k] = c) : hasB s c = true := by
  unfold hasB
  rw [List.any_eq_true]
  exact ⟨s[k], by rw [← data_get h]; exact List.getElem_mem _, by rw [hc]; exact beq_self_eq_true c⟩

/-- A text as bytes. -/
def textB (s : ByteArray) : List UInt8 := numL s.size ++ s.data.toList

theorem textB_len (s : ByteArray) : (textB s).length ≤ s.size + 10 := by
  have h := (numL_length s.size).2
  unfold textB
  rw [List.length_append]
  have e : s.data.toList.length = s.size := by simp
  omega

/-- An operation as bytes. -/
def putO (o : Opn) : List UInt8 :=
  numL (zig o.k) ++ putL o.st o.sr ++ putL o.pt o.pr ++ putL o.it o.ir ++ putL o.tt o.tr ++ textB o.name ++ textB o.new ++ numL (zig o.off) ++ textB o.data

/-- All numbers are integers of 64 bits. -/
structure Ok64 (o : Opn) : Prop where
  st : IsI64 o.st
  sr : IsI64 o.sr
  k : IsI64 o.k
  pt : IsI64 o.pt
  pr : IsI64 o.pr
  it : IsI64 o.it
  ir : IsI64 o.ir
  tt : IsI64 o.tt
  tr : IsI64 o.tr
  off : IsI64 o.off

theorem str_add (P : Program) (a b : List UInt8) (h : a.length + b.length ≤ 100000) (W : World) : (Op.stringOp .add ⟨a.toArray⟩ ⟨b.toArray⟩).run P W = .ok (.string ⟨(a ++ b).toArray⟩) W := by
  rw [run_string_add_sum W _ _ (by show a.length + b.length ≤ _; omega), mk_append_data]

/-- What is asked of its bytes and its number, by its kind. -/
def dataB (o : Opn) : Bool :=
  if o.k = 3 then decide (1 ≤ o.data.size) && decide (o.data.size ≤ 32) && !hasB o.data 0
  else if o.k = 8 then decide (0 ≤ o.off) && decide (1 ≤ o.data.size) && decide (o.data.size ≤ 64) && decide (o.off ≤ 64 - (o.data.size : Int))
  else if o.k = 9 then decide (0 ≤ o.off) && decide (o.off ≤ 64)
  else if o.k = 10 then decide (0 ≤ o.off) && decide (o.off ≤ 4095)
  else true

/-- May it be? -/
def mayO (o : Opn) : Bool :=
  decide (1 ≤ o.k) && decide (o.k ≤ 10) && decide (bareO o = o) && !(o.st == 0) && mayB o.st o.sr && (mayB o.pt o.pr && mayB o.it o.ir && mayB o.tt o.tr && (decide (7 < o.k) || nameB o.name) && (!(o.k == 7) || nameB o.new)) && dataB o

end Go.Proofs.Ytoobmkkmomiigaa.OpMath
