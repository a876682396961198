/-
  Rows of inodes and of entries in memory; two stamps, two inodes, two entries held against each other, as the walk meets it.
-/
import Derived.Test.YtoobmkkmomiigaaGraphMath
import Derived.Test.YtoobmkkmomiigaaTabs
import Derived.Test.YtoobmkkmomiigaaRows
import Derived.ProofKit
import Derived.Laws.StructEq
namespace Go.Proofs.Ytoobmkkmomiigaa
open Go.RowKit StampMath GraphMath

/-- The slice reads as entries. -/
def EntsIn (W : World) (B : Nat) (A : Option Addr) (n : Nat) (E : List Ent) : Prop := TabIn 5 W B A n (E.map entA)
/-- The slice reads as inodes. -/
def InosIn (W : World) (B : Nat) (A : Option Addr) (n : Nat) (I : List Ino) : Prop := TabIn 6 W B A n (I.map inoA)

theorem EntsIn.len {W : World} {B : Nat} {A : Option Addr} {n : Nat} {E : List Ent} (h : EntsIn W B A n E) : E.length = n := by have := h.1; rwa [List.length_map] at this
theorem InosIn.len {W : World} {B : Nat} {A : Option Addr} {n : Nat} {I : List Ino} (h : InosIn W B A n I) : I.length = n := by have := h.1; rwa [List.length_map] at this

/-- An entry's cells at ⟨g, p⟩. -/
def EntAt (W : World) (g p : Nat) (e : Ent) : Prop :=
  W.cell? ⟨g, p, none⟩ = some (.int .i64 e.dir.1) ∧ W.cell? ⟨g, p + 1, none⟩ = some (.int .i64 e.dir.2) ∧ W.cell? ⟨g, p + 2, none⟩ = some (.string e.name) ∧ W.cell? ⟨g, p + 3, none⟩ = some (.int .i64 e.ino.1) ∧ W.cell? ⟨g, p + 4, none⟩ = some (.int .i64 e.ino.2)

/-- An inode's cells at ⟨g, p⟩. -/
def InoAt (W : World) (g p : Nat) (x : Ino) : Prop :=
  W.cell? ⟨g, p, none⟩ = some (.int .i64 x.id.1) ∧ W.cell? ⟨g, p + 1, none⟩ = some (.int .i64 x.id.2) ∧ W.cell? ⟨g, p + 2, none⟩ = some (.int .i64 x.kind) ∧ W.cell? ⟨g, p + 3, none⟩ = some (.int .i64 x.links) ∧ W.cell? ⟨g, p + 4, none⟩ = some (.int .i64 x.mode) ∧ W.cell? ⟨g, p + 5, none⟩ = some (.string x.data)

theorem EntsIn.row {W : World} {B : Nat} {A : Option Addr} {n : Nat} {E : List Ent} (h : EntsIn W B A n E) (hn : 0 < n) : ∃ g o, A = some ⟨g, o, none⟩ ∧ g < B ∧ ∀ k (hk : k < E.length), EntAt W g (o + k * 5) E[k] := by
  obtain ⟨g, o, e, hg, hc⟩ := h.2 hn
  refine ⟨g, o, e, hg, fun k hk => ?_⟩
  have hk' : k < (E.map entA).length := by simpa using hk
  have he : (E.map entA)[k] = entA E[k] := by simp
  exact ⟨hc k hk' 0 _ (by rw [he]; rfl), hc k hk' 1 _ (by rw [he]; rfl), hc k hk' 2 _ (by rw [he]; rfl), hc k hk' 3 _ (by rw [he]; rfl), hc k hk' 4 _ (by rw [he]; rfl)⟩

theorem InosIn.row {W : World} {B : Nat} {A : Option Addr} {n : Nat} {I : List Ino} (h : InosIn W B A n I) (hn : 0 < n) : ∃ g o, A = some ⟨g, o, none⟩ ∧ g < B ∧ ∀ k (hk : k < I.length), InoAt W g (o + k * 6) I[k] := by
  obtain ⟨g, o, e, hg, hc⟩ := h.2 hn
  refine ⟨g, o, e, hg, fun k hk => ?_⟩
  have hk' : k < (I.map inoA).length := by simpa using hk
  have he : (I.map inoA)[k] = inoA I[k] := by simp
  exact ⟨hc k hk' 0 _ (by rw [he]; rfl), hc k hk' 1 _ (by rw [he]; rfl), hc k hk' 2 _ (by rw [he]; rfl), hc k hk' 3 _ (by rw [he]; rfl), hc k hk' 4 _ (by rw [he]; rfl), hc k hk' 5 _ (by rw [he]; rfl)⟩

theorem EntAt.below {W W' : World} {B g p : Nat} {e : Ent} (h : EntAt W g p e) (hb : Below B W W') (hg : g < B) : EntAt W' g p e :=
  ⟨(hb.cell (p := ⟨g, p, none⟩) hg).trans h.1, (hb.cell (p := ⟨g, p + 1, none⟩) hg).trans h.2.1, (hb.cell (p := ⟨g, p + 2, none⟩) hg).trans h.2.2.1, (hb.cell (p := ⟨g, p + 3, none⟩) hg).trans h.2.2.2.1, (hb.cell (p := ⟨g, p + 4, none⟩) hg).trans h.2.2.2.2⟩

theorem InoAt.below {W W' : World} {B g p : Nat} {x : Ino} (h : InoAt W g p x) (hb : Below B W W') (hg : g < B) : InoAt W' g p x :=
  ⟨(hb.cell (p := ⟨g, p, none⟩) hg).trans h.1, (hb.cell (p := ⟨g, p + 1, none⟩) hg).trans h.2.1, (hb.cell (p := ⟨g, p + 2, none⟩) hg).trans h.2.2.1, (hb.cell (p := ⟨g, p + 3, none⟩) hg).trans h.2.2.2.1, (hb.cell (p := ⟨g, p + 4, none⟩) hg).trans h.2.2.2.2.1, (hb.cell (p := ⟨g, p + 5, none⟩) hg).trans h.2.2.2.2.2⟩

theorem bytes_same {a b : ByteArray} (h : a.toList = b.toList) : a = b := by
  rw [ByteArray.toList_eq, ByteArray.toList_eq] at h
  apply ByteArray.ext
  exact Array.toList_inj.1 h

theorem run_eqSt (a b c d : Int) (W : World) : (Op.equalIn 10000 29 (.agg #[.int .i64 a, .int .i64 b]) (.agg #[.int .i64 c, .int .i64 d])).run Try.prog W = .ok (decide ((a, b) = (c, d))) W := by
  go_simp
  by_cases h1 : a = c
  · by_cases h2 : b = d
    · simp [h1, h2]
    · simp [h1, h2]
  · simp [h1]

theorem eqSt_yes {a c : St} (h : a = c) (W : World) : (Op.equalIn 10000 29 (.agg #[.int .i64 a.1, .int .i64 a.2]) (.agg #[.int .i64 c.1, .int .i64 c.2])).run Try.prog W = .ok true W := by
  rw [run_eqSt, decide_eq_true (by rw [h])]

theorem eqSt_no {a c : St} (h : ¬ a = c) (W : World) : (Op.equalIn 10000 29 (.agg #[.int .i64 a.1, .int .i64 a.2]) (.agg #[.int .i64 c.1, .int .i64 c.2])).run Try.prog W = .ok false W := by
  rw [run_eqSt, decide_eq_false (fun e => h (Prod.ext (congrArg Prod.fst e) (congrArg Prod.snd e)))]

/-- An inode's six cells. -/
theorem ino_cells {w : World} {g : Nat} {x : Ino} {T : TypeId} (h : w.heap[g]? = some (.cells (inoA x) T (0, 0))) : InoAt w g 0 x :=
  ⟨cell_of_row _ _ 0 _ _ (0, 0) h, cell_of_row _ _ 1 _ _ (0, 0) h, cell_of_row _ _ 2 _ _ (0, 0) h, cell_of_row _ _ 3 _ _ (0, 0) h, cell_of_row _ _ 4 _ _ (0, 0) h, cell_of_row _ _ 5 _ _ (0, 0) h⟩

theorem ino_free {w : World} {g : Nat} {x : Ino} {T : TypeId} (h : w.heap[g]? = some (.cells (inoA x) T (0, 0))) :
    w.frozen? ⟨g, 0, none⟩ = false ∧ w.frozen? ⟨g, 1, none⟩ = false ∧ w.frozen? ⟨g, 2, none⟩ = false ∧ w.frozen? ⟨g, 3, none⟩ = false ∧ w.frozen? ⟨g, 4, none⟩ = false ∧ w.frozen? ⟨g, 5, none⟩ = false :=
  ⟨frozen_of_row _ _ 0 _ _ h, frozen_of_row _ _ 1 _ _ h, frozen_of_row _ _ 2 _ _ h, frozen_of_row _ _ 3 _ _ h, frozen_of_row _ _ 4 _ _ h, frozen_of_row _ _ 5 _ _ h⟩

theorem two_cells {w : World} {g : Nat} {a b : Value} {T : TypeId} (h : w.heap[g]? = some (.cells #[a, b] T (0, 0))) : w.cell? ⟨g, 0, none⟩ = some a ∧ w.cell? ⟨g, 1, none⟩ = some b :=
  ⟨cell_of_row _ _ 0 _ _ (0, 0) h, cell_of_row _ _ 1 _ _ (0, 0) h⟩

theorem two_free {w : World} {g : Nat} {a b : Value} {T : TypeId} (h : w.heap[g]? = some (.cells #[a, b] T (0, 0))) : w.frozen? ⟨g, 0, none⟩ = false ∧ w.frozen? ⟨g, 1, none⟩ = false :=
  ⟨frozen_of_row _ _ 0 _ _ h, frozen_of_row _ _ 1 _ _ h⟩

theorem below_six {B : Nat} {w W : World} (h : Below B w W) {g : Nat} (hg : B ≤ g) (a b c d e f : Value) :
    Below B w ((((((W.setCell ⟨g, 0, none⟩ a).setCell ⟨g, 1, none⟩ b).setCell ⟨g, 2, none⟩ c).setCell ⟨g, 3, none⟩ d).setCell ⟨g, 4, none⟩ e).setCell ⟨g, 5, none⟩ f) :=
  (((((h.setCell hg _).setCell hg _).setCell hg _).setCell hg _).setCell hg _).setCell hg _

theorem ino_put {W : World} {g : Nat} {z : Ino} {T : TypeId} (h : W.heap[g]? = some (.cells (inoA z) T (0, 0))) (y : Ino) :
    ((((((W.setCell ⟨g, 0, none⟩ (.int .i64 y.id.1)).setCell ⟨g, 1, none⟩ (.int .i64 y.id.2)).setCell ⟨g, 2, none⟩ (.int .i64 y.kind)).setCell ⟨g, 3, none⟩ (.int .i64 y.links)).setCell ⟨g, 4, none⟩ (.int .i64 y.mode)).setCell ⟨g, 5, none⟩ (.string y.data)).heap[g]? = some (.cells (inoA y) T (0, 0)) := by
  rw [heap_setCell_same _ _ _ _ _ _ (heap_setCell_same _ _ _ _ _ _ (heap_setCell_same _ _ _ _ _ _ (heap_setCell_same _ _ _ _ _ _ (heap_setCell_same _ _ _ _ _ _ (heap_setCell_same _ _ _ _ _ _ h)))))]
  rfl

theorem new_behind {W W' : World} {o : Obj} (hb : Below (W.alloc o).drew.heap.size (W.alloc o).drew W') : W'.heap[W.heap.size]? = some o ∧ Below W.heap.size W W' :=
  ⟨(hb.block _ (heap_lt (heap_alloc_new W o))).trans (heap_alloc_new W o), below_step (((Below.refl _ W).alloc (Nat.le_refl _) o).drew) hb⟩

/-- An entry's five cells. -/
theorem ent_cells {w : World} {g : Nat} {x : Ent} {T : TypeId} (h : w.heap[g]? = some (.cells (entA x) T (0, 0))) : EntAt w g 0 x :=
  ⟨cell_of_row _ _ 0 _ _ (0, 0) h, cell_of_row _ _ 1 _ _ (0, 0) h, cell_of_row _ _ 2 _ _ (0, 0) h, cell_of_row _ _ 3 _ _ (0, 0) h, cell_of_row _ _ 4 _ _ (0, 0) h⟩

end Go.Proofs.Ytoobmkkmomiigaa
