/-
  The walk of op's Take.
-/
import Derived.Test.YteknegfocnopgaaDoorOpCodeB
import Derived.Test.YteknegfocnopgaaDoorOpCodeOwn
import Derived.Test.YteknegfocnopgaaDoorOpCodeMayAll
import Derived.Test.YteknegfocnopgaaDoorOpHave
namespace Go.Proofs.YteknegfocnopgaaDoor
open Go.RowKit OpMath StampMath PackMath

/-- The three blocks of a Take that is under way: the result's, what is left, the operation so far. -/
structure Taking (w W : World) (r : ByteArray) (e : Int) (o : Opn) : Prop where
  res : W.heap[w.heap.size]? = some (.cells (opA zO) 25 (0, 0))
  tak : W.heap[w.heap.size + 1]? = some (.cells (takeA r e) 45 (0, 0))
  op : W.heap[w.heap.size + 1 + 1]? = some (.cells (opA o) 25 (0, 0))
  below : Below w.heap.size w W

theorem Taking.call {w W w' : World} {r r' : ByteArray} {e e' : Int} {o : Opn} (h : Taking w W r e o) (ht : w'.heap[w.heap.size + 1]? = some (.cells (takeA r' e') 45 (0, 0))) (hb : But (fun i => i = w.heap.size + 1) W w') : Taking w w' r' e' o :=
  ⟨hb.heap h.res (by omega), ht, hb.heap h.op (by omega), h.below.trans (hb.below (fun i hi => by omega) h.below.size)⟩

theorem Taking.set {w W : World} {r : ByteArray} {e : Int} {o o' : Opn} (h : Taking w W r e o) (k : Nat) (v : Value) (ho : (opA o).setIfInBounds k v = opA o') : Taking w (W.setCell ⟨w.heap.size + 1 + 1, k, none⟩ v) r e o' :=
  ⟨(heap_setCell_other _ _ _ _ (by show w.heap.size ≠ w.heap.size + 1 + 1; omega)).trans h.res, (heap_setCell_other _ _ _ _ (by show w.heap.size + 1 ≠ w.heap.size + 1 + 1; omega)).trans h.tak,
    by rw [heap_setCell_same _ _ _ _ _ _ h.op, ho], h.below.setCell (by show w.heap.size ≤ w.heap.size + 1 + 1; omega) _⟩

theorem Taking.frozen {w W : World} {r : ByteArray} {e : Int} {o : Opn} (h : Taking w W r e o) (k : Nat) : W.frozen? ⟨w.heap.size + 1 + 1, k, none⟩ = false := frozen_of_row _ _ k _ _ h.op

theorem take_stores (g : Nat) (W : World) (a b c d e f h i j : Int) (n m : ByteArray) (x : Int) (y : ByteArray) (t0 t1 t3 t4 t5 t6 t7 t8 t9 t10 t11 t12 t13 t14 t15 t16 t17 t18 t19 t20 t21 t22 t23 t24 t25 t26 t27 t28 t29 t30 t31 t32 t33 t34 t35 t37 t38 : Value) (ds : List Deferred) (K : Act → World → Prop) (Q : Exit → Act → World → Prop) (ty : TypeId) (pos : String) (af : Array Edge)
    (ht : W.there g 0 13) :
    Oper.wp Tryd.prog { dst := none, op := Op.store 25 (Operand.tmp 2) (Operand.tmp 36), type := ty, pos := pos, after := af, guard := none } ⟨#[t0, t1, .pointer (some ⟨g, 0, none⟩), t3, t4, t5, t6, t7, t8, t9, t10, t11, t12, t13, t14, t15, t16, t17, t18, t19, t20, t21, t22, t23, t24, t25, t26, t27, t28, t29, t30, t31, t32, t33, t34, t35, .agg #[.int .i64 a, .int .i64 b, .int .i64 c, .int .i64 d, .int .i64 e, .int .i64 f, .int .i64 h, .int .i64 i, .int .i64 j, .string n, .string m, .int .i64 x, .string y], t37, t38], ds⟩ W K Q ↔
      K ⟨#[t0, t1, .pointer (some ⟨g, 0, none⟩), t3, t4, t5, t6, t7, t8, t9, t10, t11, t12, t13, t14, t15, t16, t17, t18, t19, t20, t21, t22, t23, t24, t25, t26, t27, t28, t29, t30, t31, t32, t33, t34, t35, .agg #[.int .i64 a, .int .i64 b, .int .i64 c, .int .i64 d, .int .i64 e, .int .i64 f, .int .i64 h, .int .i64 i, .int .i64 j, .string n, .string m, .int .i64 x, .string y], t37, t38], ds⟩ (W.setCells g 0 (opA ⟨a, b, c, d, e, f, h, i, j, n, m, x, y⟩).toList) :=
  store_iff 25 (.tmp 2) (.tmp 36) rfl g 0 (opA ⟨a, b, c, d, e, f, h, i, j, n, m, x, y⟩) rfl rfl ht op_info (op_one _)

theorem take_keeps {w W : World} {o : Opn} {r : ByteArray} (h1 : W.heap[w.heap.size + 1 + 1]? = some (.cells (opA o) 25 (0, 0))) (h2 : W.heap[w.heap.size + 1]? = some (.cells (takeA r 0) 45 (0, 0))) (hk : KeptFrom w W) (ht : W.there w.heap.size 0 13) : (W.heap[w.heap.size + 1 + 1]? = some (.cells (opA o) 25 (0, 0)) ∧ W.heap[w.heap.size + 1]? = some (.cells (takeA r 0) 45 (0, 0)) ∧ KeptFrom w W) ∧ W.there w.heap.size 0 13 ∧ W.cell? ⟨w.heap.size + 1, 0, none⟩ = some (.string r) ∧ W.cell? ⟨w.heap.size + 1 + 1, 0, none⟩ = some (.int .i64 o.st) ∧ W.cell? ⟨w.heap.size + 1 + 1, 1, none⟩ = some (.int .i64 o.sr) ∧ W.cell? ⟨w.heap.size + 1 + 1, 2, none⟩ = some (.int .i64 o.k) ∧ W.cell? ⟨w.heap.size + 1 + 1, 3, none⟩ = some (.int .i64 o.pt) ∧ W.cell? ⟨w.heap.size + 1 + 1, 4, none⟩ = some (.int .i64 o.pr) ∧ W.cell? ⟨w.heap.size + 1 + 1, 5, none⟩ = some (.int .i64 o.it) ∧ W.cell? ⟨w.heap.size + 1 + 1, 6, none⟩ = some (.int .i64 o.ir) ∧ W.cell? ⟨w.heap.size + 1 + 1, 7, none⟩ = some (.int .i64 o.tt) ∧ W.cell? ⟨w.heap.size + 1 + 1, 8, none⟩ = some (.int .i64 o.tr) ∧ W.cell? ⟨w.heap.size + 1 + 1, 9, none⟩ = some (.string o.name) ∧ W.cell? ⟨w.heap.size + 1 + 1, 10, none⟩ = some (.string o.new) ∧ W.cell? ⟨w.heap.size + 1 + 1, 11, none⟩ = some (.int .i64 o.off) ∧ W.cell? ⟨w.heap.size + 1 + 1, 12, none⟩ = some (.string o.data) :=
  ⟨⟨h1, h2, hk⟩, ht, cell_of_row _ _ 0 _ _ (0, 0) h2, op_cells h1⟩

theorem take_store {w W : World} {o : Opn} {r : ByteArray} (vs : List Value) (h : (W.heap[w.heap.size + 1 + 1]? = some (.cells (opA o) 25 (0, 0)) ∧ W.heap[w.heap.size + 1]? = some (.cells (takeA r 0) 45 (0, 0)) ∧ KeptFrom w W) ∧ W.there w.heap.size 0 13 ∧ W.cell? ⟨w.heap.size + 1, 0, none⟩ = some (.string r) ∧ W.cell? ⟨w.heap.size + 1 + 1, 0, none⟩ = some (.int .i64 o.st) ∧ W.cell? ⟨w.heap.size + 1 + 1, 1, none⟩ = some (.int .i64 o.sr) ∧ W.cell? ⟨w.heap.size + 1 + 1, 2, none⟩ = some (.int .i64 o.k) ∧ W.cell? ⟨w.heap.size + 1 + 1, 3, none⟩ = some (.int .i64 o.pt) ∧ W.cell? ⟨w.heap.size + 1 + 1, 4, none⟩ = some (.int .i64 o.pr) ∧ W.cell? ⟨w.heap.size + 1 + 1, 5, none⟩ = some (.int .i64 o.it) ∧ W.cell? ⟨w.heap.size + 1 + 1, 6, none⟩ = some (.int .i64 o.ir) ∧ W.cell? ⟨w.heap.size + 1 + 1, 7, none⟩ = some (.int .i64 o.tt) ∧ W.cell? ⟨w.heap.size + 1 + 1, 8, none⟩ = some (.int .i64 o.tr) ∧ W.cell? ⟨w.heap.size + 1 + 1, 9, none⟩ = some (.string o.name) ∧ W.cell? ⟨w.heap.size + 1 + 1, 10, none⟩ = some (.string o.new) ∧ W.cell? ⟨w.heap.size + 1 + 1, 11, none⟩ = some (.int .i64 o.off) ∧ W.cell? ⟨w.heap.size + 1 + 1, 12, none⟩ = some (.string o.data)) : ((W.setCells w.heap.size 0 vs).heap[w.heap.size + 1 + 1]? = some (.cells (opA o) 25 (0, 0)) ∧ (W.setCells w.heap.size 0 vs).heap[w.heap.size + 1]? = some (.cells (takeA r 0) 45 (0, 0)) ∧ KeptFrom w (W.setCells w.heap.size 0 vs)) ∧ (W.setCells w.heap.size 0 vs).there w.heap.size 0 13 ∧ (W.setCells w.heap.size 0 vs).cell? ⟨w.heap.size + 1, 0, none⟩ = some (.string r) ∧ (W.setCells w.heap.size 0 vs).cell? ⟨w.heap.size + 1 + 1, 0, none⟩ = some (.int .i64 o.st) ∧ (W.setCells w.heap.size 0 vs).cell? ⟨w.heap.size + 1 + 1, 1, none⟩ = some (.int .i64 o.sr) ∧ (W.setCells w.heap.size 0 vs).cell? ⟨w.heap.size + 1 + 1, 2, none⟩ = some (.int .i64 o.k) ∧ (W.setCells w.heap.size 0 vs).cell? ⟨w.heap.size + 1 + 1, 3, none⟩ = some (.int .i64 o.pt) ∧ (W.setCells w.heap.size 0 vs).cell? ⟨w.heap.size + 1 + 1, 4, none⟩ = some (.int .i64 o.pr) ∧ (W.setCells w.heap.size 0 vs).cell? ⟨w.heap.size + 1 + 1, 5, none⟩ = some (.int .i64 o.it) ∧ (W.setCells w.heap.size 0 vs).cell? ⟨w.heap.size + 1 + 1, 6, none⟩ = some (.int .i64 o.ir) ∧ (W.setCells w.heap.size 0 vs).cell? ⟨w.heap.size + 1 + 1, 7, none⟩ = some (.int .i64 o.tt) ∧ (W.setCells w.heap.size 0 vs).cell? ⟨w.heap.size + 1 + 1, 8, none⟩ = some (.int .i64 o.tr) ∧ (W.setCells w.heap.size 0 vs).cell? ⟨w.heap.size + 1 + 1, 9, none⟩ = some (.string o.name) ∧ (W.setCells w.heap.size 0 vs).cell? ⟨w.heap.size + 1 + 1, 10, none⟩ = some (.string o.new) ∧ (W.setCells w.heap.size 0 vs).cell? ⟨w.heap.size + 1 + 1, 11, none⟩ = some (.int .i64 o.off) ∧ (W.setCells w.heap.size 0 vs).cell? ⟨w.heap.size + 1 + 1, 12, none⟩ = some (.string o.data) :=
  take_keeps ((heap_setCells_old vs 0 (by omega)).trans h.1.1) ((heap_setCells_old vs 0 (by omega)).trans h.1.2.1) (below_setCells (Nat.le_refl _) vs 0 _ (kept_below h.1.2.2)) (World.there_setCells h.2.1 _ _ _)

attribute [local go_sem ↓] take_stores in
set_option maxRecDepth 100000 in
set_option maxHeartbeats 3200000 in
theorem takeCode (s r1 r2 r3 r4 r5 r6 r7 r8 r9 : ByteArray) (e1 e2 e3 e4 e5 e6 e7 e8 e9 : Int) (o : Opn) (m : Bool) (w : World) [Tab w]
    (N1 : Hid (∀ (W : World) (g : Nat) (e : Int), W.heap[g]? = some (.cells (takeA s e) 45 (0, 0)) → Calls Tryd.prog 23 #[.pointer (some ⟨g, 0, none⟩)] W fun ex w' => ex = .returned (.int .i64 o.k) ∧ w'.heap[g]? = some (.cells (takeA r1 (or2 e e1)) 45 (0, 0)) ∧ But (fun i => i = g) W w'))
    (N2 : Hid (∀ (W : World) (g : Nat) (e : Int), W.heap[g]? = some (.cells (takeA r1 e) 45 (0, 0)) → Calls Tryd.prog 24 #[.pointer (some ⟨g, 0, none⟩)] W fun ex w' => ex = .returned (.agg #[.int .i64 o.st, .int .i64 o.sr]) ∧ w'.heap[g]? = some (.cells (takeA r2 (or2 e e2)) 45 (0, 0)) ∧ But (fun i => i = g) W w'))
    (N3 : Hid (∀ (W : World) (g : Nat) (e : Int), W.heap[g]? = some (.cells (takeA r2 e) 45 (0, 0)) → Calls Tryd.prog 24 #[.pointer (some ⟨g, 0, none⟩)] W fun ex w' => ex = .returned (.agg #[.int .i64 o.pt, .int .i64 o.pr]) ∧ w'.heap[g]? = some (.cells (takeA r3 (or2 e e3)) 45 (0, 0)) ∧ But (fun i => i = g) W w'))
    (N4 : Hid (∀ (W : World) (g : Nat) (e : Int), W.heap[g]? = some (.cells (takeA r3 e) 45 (0, 0)) → Calls Tryd.prog 24 #[.pointer (some ⟨g, 0, none⟩)] W fun ex w' => ex = .returned (.agg #[.int .i64 o.it, .int .i64 o.ir]) ∧ w'.heap[g]? = some (.cells (takeA r4 (or2 e e4)) 45 (0, 0)) ∧ But (fun i => i = g) W w'))
    (N5 : Hid (∀ (W : World) (g : Nat) (e : Int), W.heap[g]? = some (.cells (takeA r4 e) 45 (0, 0)) → Calls Tryd.prog 24 #[.pointer (some ⟨g, 0, none⟩)] W fun ex w' => ex = .returned (.agg #[.int .i64 o.tt, .int .i64 o.tr]) ∧ w'.heap[g]? = some (.cells (takeA r5 (or2 e e5)) 45 (0, 0)) ∧ But (fun i => i = g) W w'))
    (N6 : Hid (∀ (W : World) (g : Nat) (e : Int), W.heap[g]? = some (.cells (takeA r5 e) 45 (0, 0)) → Calls Tryd.prog 25 #[.pointer (some ⟨g, 0, none⟩), .int .i64 8] W fun ex w' => ex = .returned (.string o.name) ∧ w'.heap[g]? = some (.cells (takeA r6 (or2 e e6)) 45 (0, 0)) ∧ But (fun i => i = g) W w'))
    (N7 : Hid (∀ (W : World) (g : Nat) (e : Int), W.heap[g]? = some (.cells (takeA r6 e) 45 (0, 0)) → Calls Tryd.prog 25 #[.pointer (some ⟨g, 0, none⟩), .int .i64 8] W fun ex w' => ex = .returned (.string o.new) ∧ w'.heap[g]? = some (.cells (takeA r7 (or2 e e7)) 45 (0, 0)) ∧ But (fun i => i = g) W w'))
    (N8 : Hid (∀ (W : World) (g : Nat) (e : Int), W.heap[g]? = some (.cells (takeA r7 e) 45 (0, 0)) → Calls Tryd.prog 23 #[.pointer (some ⟨g, 0, none⟩)] W fun ex w' => ex = .returned (.int .i64 o.off) ∧ w'.heap[g]? = some (.cells (takeA r8 (or2 e e8)) 45 (0, 0)) ∧ But (fun i => i = g) W w'))
    (N9 : Hid (∀ (W : World) (g : Nat) (e : Int), W.heap[g]? = some (.cells (takeA r8 e) 45 (0, 0)) → Calls Tryd.prog 25 #[.pointer (some ⟨g, 0, none⟩), .int .i64 64] W fun ex w' => ex = .returned (.string o.data) ∧ w'.heap[g]? = some (.cells (takeA r9 (or2 e e9)) 45 (0, 0)) ∧ But (fun i => i = g) W w'))
    (M : Hid (∀ (W : World) [Tab W], Calls Tryd.prog 14 #[.agg #[.int .i64 o.st, .int .i64 o.sr, .int .i64 o.k, .int .i64 o.pt, .int .i64 o.pr, .int .i64 o.it, .int .i64 o.ir, .int .i64 o.tt, .int .i64 o.tr, .string o.name, .string o.new, .int .i64 o.off, .string o.data]] W fun e w' => e = .returned (.bool m) ∧ Below W.heap.size W w'))
    (r : Value) (hr : r = if e1 = 0 ∧ e2 = 0 ∧ e3 = 0 ∧ e4 = 0 ∧ e5 = 0 ∧ e6 = 0 ∧ e7 = 0 ∧ e8 = 0 ∧ e9 = 0 ∧ m = true then .tuple #[.agg (opA o), .string r9, .int .i64 0] else .tuple #[.agg (opA zO), .string ⟨#[]⟩, .int .i64 2]) :
    Calls Tryd.prog 10 #[.string s] w fun e w' => e = .returned r ∧ Below w.heap.size w w' := by
  have HR := Lib.hid hr
  clear hr
  go_enter Tryd.func10, Tryd.ntmps10
  go_wp2_with fail
  have T0 : Taking w (((w.alloc (.cells (opA zO) 25)).alloc (.cells (takeA s 0) 45)).alloc (.cells (opA zO) 25)) s 0 zO := by
    have h1 : Held w [(w.heap.size, (.cells (opA zO) 25 (0, 0)))] (w.alloc (.cells (opA zO) 25)) := (Held.refl w).alloc (.cells (opA zO) 25) rfl
    have h2 := h1.alloc (.cells (takeA s 0) 45 (0, 0)) (g := w.heap.size + 1) (World.size_alloc _ _)
    have h3 := h2.alloc (.cells (opA zO) 25 (0, 0)) (g := w.heap.size + 1 + 1) (by rw [World.size_alloc, World.size_alloc])
    exact ⟨h3.at 2 rfl, h3.at 1 rfl, h3.at 0 rfl, h3.below⟩
  change Calls _ _ _ (((w.alloc (.cells (opA zO) 25)).alloc (.cells (takeA s 0) 45)).alloc (.cells (opA zO) 25)) _
  generalize (((w.alloc (.cells (opA zO) 25)).alloc (.cells (takeA s 0) 45)).alloc (.cells (opA zO) 25)) = W0 at T0 ⊢
  refine (N1.out _ _ _ T0.tak).mono ?_
  rintro ex v1 ⟨rfl, ht, hb⟩
  have S1 := T0.call ht hb
  clear ht hb T0
  have a0 : v1.cell? ⟨w.heap.size + 1 + 1, 2, none⟩ = some (.int .i64 0) := cell_of_row _ _ 2 _ _ (0, 0) S1.op
  have f0 := S1.frozen 2
  go_wp2_with fail
  have T1 := Taking.set (o' := ⟨0, 0, o.k, 0, 0, 0, 0, 0, 0, ⟨#[]⟩, ⟨#[]⟩, 0, ⟨#[]⟩⟩) S1 2 (.int .i64 o.k) rfl
  generalize (v1.setCell ⟨w.heap.size + 1 + 1, 2, none⟩ (.int .i64 o.k)) = W1 at T1 ⊢
  clear S1 a0 f0
  refine (N2.out _ _ _ T1.tak).mono ?_
  rintro ex v2 ⟨rfl, ht, hb⟩
  have S2 := T1.call ht hb
  clear ht hb T1
  have a0 : v2.cell? ⟨w.heap.size + 1 + 1, 0, none⟩ = some (.int .i64 0) := cell_of_row _ _ 0 _ _ (0, 0) S2.op
  have f0 := S2.frozen 0
  have a1 : v2.cell? ⟨w.heap.size + 1 + 1, 1, none⟩ = some (.int .i64 0) := cell_of_row _ _ 1 _ _ (0, 0) S2.op
  have f1 := S2.frozen 1
  go_wp2_with fail
  have Q2 := Taking.set (o' := ⟨o.st, 0, o.k, 0, 0, 0, 0, 0, 0, ⟨#[]⟩, ⟨#[]⟩, 0, ⟨#[]⟩⟩) S2 0 (.int .i64 o.st) rfl
  have T2 := Taking.set (o' := ⟨o.st, o.sr, o.k, 0, 0, 0, 0, 0, 0, ⟨#[]⟩, ⟨#[]⟩, 0, ⟨#[]⟩⟩) Q2 1 (.int .i64 o.sr) rfl
  generalize ((v2.setCell ⟨w.heap.size + 1 + 1, 0, none⟩ (.int .i64 o.st)).setCell ⟨w.heap.size + 1 + 1, 1, none⟩ (.int .i64 o.sr)) = W2 at T2 ⊢
  clear S2 a0 f0 a1 f1 Q2
  refine (N3.out _ _ _ T2.tak).mono ?_
  rintro ex v3 ⟨rfl, ht, hb⟩
  have S3 := T2.call ht hb
  clear ht hb T2
  have a0 : v3.cell? ⟨w.heap.size + 1 + 1, 3, none⟩ = some (.int .i64 0) := cell_of_row _ _ 3 _ _ (0, 0) S3.op
  have f0 := S3.frozen 3
  have a1 : v3.cell? ⟨w.heap.size + 1 + 1, 4, none⟩ = some (.int .i64 0) := cell_of_row _ _ 4 _ _ (0, 0) S3.op
  have f1 := S3.frozen 4
  go_wp2_with fail
  have Q3 := Taking.set (o' := ⟨o.st, o.sr, o.k, o.pt, 0, 0, 0, 0, 0, ⟨#[]⟩, ⟨#[]⟩, 0, ⟨#[]⟩⟩) S3 3 (.int .i64 o.pt) rfl
  have T3 := Taking.set (o' := ⟨o.st, o.sr, o.k, o.pt, o.pr, 0, 0, 0, 0, ⟨#[]⟩, ⟨#[]⟩, 0, ⟨#[]⟩⟩) Q3 4 (.int .i64 o.pr) rfl
  generalize ((v3.setCell ⟨w.heap.size + 1 + 1, 3, none⟩ (.int .i64 o.pt)).setCell ⟨w.heap.size + 1 + 1, 4, none⟩ (.int .i64 o.pr)) = W3 at T3 ⊢
  clear S3 a0 f0 a1 f1 Q3
  refine (N4.out _ _ _ T3.tak).mono ?_
  rintro ex v4 ⟨rfl, ht, hb⟩
  have S4 := T3.call ht hb
  clear ht hb T3
  have a0 : v4.cell? ⟨w.heap.size + 1 + 1, 5, none⟩ = some (.int .i64 0) := cell_of_row _ _ 5 _ _ (0, 0) S4.op
  have f0 := S4.frozen 5
  have a1 : v4.cell? ⟨w.heap.size + 1 + 1, 6, none⟩ = some (.int .i64 0) := cell_of_row _ _ 6 _ _ (0, 0) S4.op
  have f1 := S4.frozen 6
  go_wp2_with fail
  have Q4 := Taking.set (o' := ⟨o.st, o.sr, o.k, o.pt, o.pr, o.it, 0, 0, 0, ⟨#[]⟩, ⟨#[]⟩, 0, ⟨#[]⟩⟩) S4 5 (.int .i64 o.it) rfl
  have T4 := Taking.set (o' := ⟨o.st, o.sr, o.k, o.pt, o.pr, o.it, o.ir, 0, 0, ⟨#[]⟩, ⟨#[]⟩, 0, ⟨#[]⟩⟩) Q4 6 (.int .i64 o.ir) rfl
  generalize ((v4.setCell ⟨w.heap.size + 1 + 1, 5, none⟩ (.int .i64 o.it)).setCell ⟨w.heap.size + 1 + 1, 6, none⟩ (.int .i64 o.ir)) = W4 at T4 ⊢
  clear S4 a0 f0 a1 f1 Q4
  refine (N5.out _ _ _ T4.tak).mono ?_
  rintro ex v5 ⟨rfl, ht, hb⟩
  have S5 := T4.call ht hb
  clear ht hb T4
  have a0 : v5.cell? ⟨w.heap.size + 1 + 1, 7, none⟩ = some (.int .i64 0) := cell_of_row _ _ 7 _ _ (0, 0) S5.op
  have f0 := S5.frozen 7
  have a1 : v5.cell? ⟨w.heap.size + 1 + 1, 8, none⟩ = some (.int .i64 0) := cell_of_row _ _ 8 _ _ (0, 0) S5.op
  have f1 := S5.frozen 8
  go_wp2_with fail
  have Q5 := Taking.set (o' := ⟨o.st, o.sr, o.k, o.pt, o.pr, o.it, o.ir, o.tt, 0, ⟨#[]⟩, ⟨#[]⟩, 0, ⟨#[]⟩⟩) S5 7 (.int .i64 o.tt) rfl
  have T5 := Taking.set (o' := ⟨o.st, o.sr, o.k, o.pt, o.pr, o.it, o.ir, o.tt, o.tr, ⟨#[]⟩, ⟨#[]⟩, 0, ⟨#[]⟩⟩) Q5 8 (.int .i64 o.tr) rfl
  generalize ((v5.setCell ⟨w.heap.size + 1 + 1, 7, none⟩ (.int .i64 o.tt)).setCell ⟨w.heap.size + 1 + 1, 8, none⟩ (.int .i64 o.tr)) = W5 at T5 ⊢
  clear S5 a0 f0 a1 f1 Q5
  refine (N6.out _ _ _ T5.tak).mono ?_
  rintro ex v6 ⟨rfl, ht, hb⟩
  have S6 := T5.call ht hb
  clear ht hb T5
  have a0 : v6.cell? ⟨w.heap.size + 1 + 1, 9, none⟩ = some (.string ⟨#[]⟩) := cell_of_row _ _ 9 _ _ (0, 0) S6.op
  have f0 := S6.frozen 9
  go_wp2_with fail
  have T6 := Taking.set (o' := ⟨o.st, o.sr, o.k, o.pt, o.pr, o.it, o.ir, o.tt, o.tr, o.name, ⟨#[]⟩, 0, ⟨#[]⟩⟩) S6 9 (.string o.name) rfl
  generalize (v6.setCell ⟨w.heap.size + 1 + 1, 9, none⟩ (.string o.name)) = W6 at T6 ⊢
  clear S6 a0 f0
  refine (N7.out _ _ _ T6.tak).mono ?_
  rintro ex v7 ⟨rfl, ht, hb⟩
  have S7 := T6.call ht hb
  clear ht hb T6
  have a0 : v7.cell? ⟨w.heap.size + 1 + 1, 10, none⟩ = some (.string ⟨#[]⟩) := cell_of_row _ _ 10 _ _ (0, 0) S7.op
  have f0 := S7.frozen 10
  go_wp2_with fail
  have T7 := Taking.set (o' := ⟨o.st, o.sr, o.k, o.pt, o.pr, o.it, o.ir, o.tt, o.tr, o.name, o.new, 0, ⟨#[]⟩⟩) S7 10 (.string o.new) rfl
  generalize (v7.setCell ⟨w.heap.size + 1 + 1, 10, none⟩ (.string o.new)) = W7 at T7 ⊢
  clear S7 a0 f0
  refine (N8.out _ _ _ T7.tak).mono ?_
  rintro ex v8 ⟨rfl, ht, hb⟩
  have S8 := T7.call ht hb
  clear ht hb T7
  have a0 : v8.cell? ⟨w.heap.size + 1 + 1, 11, none⟩ = some (.int .i64 0) := cell_of_row _ _ 11 _ _ (0, 0) S8.op
  have f0 := S8.frozen 11
  go_wp2_with fail
  have T8 := Taking.set (o' := ⟨o.st, o.sr, o.k, o.pt, o.pr, o.it, o.ir, o.tt, o.tr, o.name, o.new, o.off, ⟨#[]⟩⟩) S8 11 (.int .i64 o.off) rfl
  generalize (v8.setCell ⟨w.heap.size + 1 + 1, 11, none⟩ (.int .i64 o.off)) = W8 at T8 ⊢
  clear S8 a0 f0
  refine (N9.out _ _ _ T8.tak).mono ?_
  rintro ex v9 ⟨rfl, ht, hb⟩
  have S9 := T8.call ht hb
  clear ht hb T8
  have a0 : v9.cell? ⟨w.heap.size + 1 + 1, 12, none⟩ = some (.string ⟨#[]⟩) := cell_of_row _ _ 12 _ _ (0, 0) S9.op
  have f0 := S9.frozen 12
  go_upto_region 12 with fail
  have T9 := Taking.set (o' := ⟨o.st, o.sr, o.k, o.pt, o.pr, o.it, o.ir, o.tt, o.tr, o.name, o.new, o.off, o.data⟩) S9 12 (.string o.data) rfl
  generalize (v9.setCell ⟨w.heap.size + 1 + 1, 12, none⟩ (.string o.data)) = W9 at T9 ⊢
  clear S9 a0 f0
  obtain ⟨E, hE⟩ : ∃ E, E = or2 (or2 (or2 (or2 (or2 (or2 (or2 (or2 (or2 0 e1) e2) e3) e4) e5) e6) e7) e8) e9 := ⟨_, rfl⟩
  rw [← hE] at T9
  have hE0 : E = 0 ↔ e1 = 0 ∧ e2 = 0 ∧ e3 = 0 ∧ e4 = 0 ∧ e5 = 0 ∧ e6 = 0 ∧ e7 = 0 ∧ e8 = 0 ∧ e9 = 0 := by
    rw [hE, or2_zero, or2_zero, or2_zero, or2_zero, or2_zero, or2_zero, or2_zero, or2_zero, or2_zero]
    constructor
    · rintro ⟨⟨⟨⟨⟨⟨⟨⟨⟨_, h1⟩, h2⟩, h3⟩, h4⟩, h5⟩, h6⟩, h7⟩, h8⟩, h9⟩; exact ⟨h1, h2, h3, h4, h5, h6, h7, h8, h9⟩
    · rintro ⟨h1, h2, h3, h4, h5, h6, h7, h8, h9⟩; exact ⟨⟨⟨⟨⟨⟨⟨⟨⟨rfl, h1⟩, h2⟩, h3⟩, h4⟩, h5⟩, h6⟩, h7⟩, h8⟩, h9⟩
  have hR : r = if E = 0 ∧ m = true then .tuple #[.agg (opA o), .string r9, .int .i64 0] else .tuple #[.agg (opA zO), .string ⟨#[]⟩, .int .i64 2] := by
    rw [HR.out]
    by_cases h : E = 0
    · obtain ⟨h1, h2, h3, h4, h5, h6, h7, h8, h9⟩ := hE0.1 h
      cases m <;> simp [h, h1, h2, h3, h4, h5, h6, h7, h8, h9]
    · rw [if_neg fun g => h (hE0.2 ⟨g.1, g.2.1, g.2.2.1, g.2.2.2.1, g.2.2.2.2.1, g.2.2.2.2.2.1, g.2.2.2.2.2.2.1, g.2.2.2.2.2.2.2.1, g.2.2.2.2.2.2.2.2.1⟩), if_neg fun g => h g.1]
  clear hE hE0 HR N1 N2 N3 N4 N5 N6 N7 N8 N9
  have T9 : Taking w W9 r9 E o := T9
  have iw9 : Tab W9 := tab_step T9.below
  have hk : W9.cell? ⟨w.heap.size + 1, 1, none⟩ = some (.int .i64 E) := cell_of_row _ _ 1 _ _ (0, 0) T9.tak
  obtain ⟨l0, l1, l2, l3, l4, l5, l6, l7, l8, l9, l10, l11, l12⟩ := op_cells T9.op
  have hi : (Tryd.prog.info? 25).map (·.size) = some (opA zO).size := op_info
  have HI := Lib.hid hi
  clear hi
  by_cases hz : E = 0
  · subst hz
    go_wp2_with fail
    refine (M.out _).mono ?_
    rintro e w1 ⟨rfl, hb⟩
    clear l0 l1 l2 l3 l4 l5 l6 l7 l8 l9 l10 l11 l12 hk
    have T10 : Taking w w1 r9 0 o := ⟨(hb.block _ (heap_lt T9.res)).trans T9.res, (hb.block _ (heap_lt T9.tak)).trans T9.tak, (hb.block _ (heap_lt T9.op)).trans T9.op, below_step T9.below hb⟩
    cases m
    · have ht := op_there T10.res
      have hr := World.rangeAt_setCells_same w1 w.heap.size 0 (opA zO).toList ht
      have hB8 := below_setCells (Nat.le_refl _) (opA zO).toList 0 _ T10.below
      go_wp2_with (refine wpList_store_mid rfl 25 _ _ rfl w.heap.size 0 (opA zO) rfl rfl ht HI.out (op_one zO) ?_)
      clear ht HI
      refine bodyPost_ret (v := r) ?_ rfl ⟨rfl, hB8⟩
      rw [hR, if_neg (fun g => absurd g.2 (by decide))]
      clear hB8
      generalize w1.setCells w.heap.size 0 (opA zO).toList = WE at hr ⊢
      have Z0 : WE.cell? ⟨w.heap.size, 0, none⟩ = some (.int .i64 0) := hr 0 _ rfl
      have Z1 : WE.cell? ⟨w.heap.size, 1, none⟩ = some (.int .i64 0) := hr 1 _ rfl
      have Z2 : WE.cell? ⟨w.heap.size, 2, none⟩ = some (.int .i64 0) := hr 2 _ rfl
      have Z3 : WE.cell? ⟨w.heap.size, 3, none⟩ = some (.int .i64 0) := hr 3 _ rfl
      have Z4 : WE.cell? ⟨w.heap.size, 4, none⟩ = some (.int .i64 0) := hr 4 _ rfl
      have Z5 : WE.cell? ⟨w.heap.size, 5, none⟩ = some (.int .i64 0) := hr 5 _ rfl
      have Z6 : WE.cell? ⟨w.heap.size, 6, none⟩ = some (.int .i64 0) := hr 6 _ rfl
      have Z7 : WE.cell? ⟨w.heap.size, 7, none⟩ = some (.int .i64 0) := hr 7 _ rfl
      have Z8 : WE.cell? ⟨w.heap.size, 8, none⟩ = some (.int .i64 0) := hr 8 _ rfl
      have Z9 : WE.cell? ⟨w.heap.size, 9, none⟩ = some (.string ⟨#[]⟩) := hr 9 _ rfl
      have Z10 : WE.cell? ⟨w.heap.size, 10, none⟩ = some (.string ⟨#[]⟩) := hr 10 _ rfl
      have Z11 : WE.cell? ⟨w.heap.size, 11, none⟩ = some (.int .i64 0) := hr 11 _ rfl
      have Z12 : WE.cell? ⟨w.heap.size, 12, none⟩ = some (.string ⟨#[]⟩) := hr 12 _ rfl
      simp [results, Tryd.results10, go_sem, Z0, Z1, Z2, Z3, Z4, Z5, Z6, Z7, Z8, Z9, Z10, Z11, Z12]
      rfl
    · have hS0 := take_keeps (w := w) (o := o) (r := r9) T10.op T10.tak T10.below (op_there T10.res)
      have hS0' := take_keeps (w := w) (W := w1.drew) (o := o) (r := r9) T10.op T10.tak T10.below.drew ((World.there_drew w1 _ _ _).2 (op_there T10.res))
      clear T9 T10
      go_upto_region 14 with fail
      go_region_held3 (fun W => (W.heap[w.heap.size + 1 + 1]? = some (.cells (opA o) 25 (0, 0)) ∧ W.heap[w.heap.size + 1]? = some (.cells (takeA r9 0) 45 (0, 0)) ∧ KeptFrom w W) ∧ W.there w.heap.size 0 13 ∧ W.cell? ⟨w.heap.size + 1, 0, none⟩ = some (.string r9) ∧ W.cell? ⟨w.heap.size + 1 + 1, 0, none⟩ = some (.int .i64 o.st) ∧ W.cell? ⟨w.heap.size + 1 + 1, 1, none⟩ = some (.int .i64 o.sr) ∧ W.cell? ⟨w.heap.size + 1 + 1, 2, none⟩ = some (.int .i64 o.k) ∧ W.cell? ⟨w.heap.size + 1 + 1, 3, none⟩ = some (.int .i64 o.pt) ∧ W.cell? ⟨w.heap.size + 1 + 1, 4, none⟩ = some (.int .i64 o.pr) ∧ W.cell? ⟨w.heap.size + 1 + 1, 5, none⟩ = some (.int .i64 o.it) ∧ W.cell? ⟨w.heap.size + 1 + 1, 6, none⟩ = some (.int .i64 o.ir) ∧ W.cell? ⟨w.heap.size + 1 + 1, 7, none⟩ = some (.int .i64 o.tt) ∧ W.cell? ⟨w.heap.size + 1 + 1, 8, none⟩ = some (.int .i64 o.tr) ∧ W.cell? ⟨w.heap.size + 1 + 1, 9, none⟩ = some (.string o.name) ∧ W.cell? ⟨w.heap.size + 1 + 1, 10, none⟩ = some (.string o.new) ∧ W.cell? ⟨w.heap.size + 1 + 1, 11, none⟩ = some (.int .i64 o.off) ∧ W.cell? ⟨w.heap.size + 1 + 1, 12, none⟩ = some (.string o.data)) (first | (with_reducible assumption) | exact take_store _ (by with_reducible assumption)) (fail)
      have ht := hS0'.2.1
      have hr := World.rangeAt_setCells_same w1.drew w.heap.size 0 (opA o).toList ht
      have hB8 := below_setCells (Nat.le_refl _) (opA o).toList 0 _ (kept_below hS0'.1.2.2)
      change Exit.then _ _ _ _ (w1.drew.setCells w.heap.size 0 (opA o).toList)
      generalize w1.drew.setCells w.heap.size 0 (opA o).toList = WE at hr hB8 ⊢
      have Z0 : WE.cell? ⟨w.heap.size, 0, none⟩ = some (.int .i64 o.st) := hr 0 _ rfl
      have Z1 : WE.cell? ⟨w.heap.size, 1, none⟩ = some (.int .i64 o.sr) := hr 1 _ rfl
      have Z2 : WE.cell? ⟨w.heap.size, 2, none⟩ = some (.int .i64 o.k) := hr 2 _ rfl
      have Z3 : WE.cell? ⟨w.heap.size, 3, none⟩ = some (.int .i64 o.pt) := hr 3 _ rfl
      have Z4 : WE.cell? ⟨w.heap.size, 4, none⟩ = some (.int .i64 o.pr) := hr 4 _ rfl
      have Z5 : WE.cell? ⟨w.heap.size, 5, none⟩ = some (.int .i64 o.it) := hr 5 _ rfl
      have Z6 : WE.cell? ⟨w.heap.size, 6, none⟩ = some (.int .i64 o.ir) := hr 6 _ rfl
      have Z7 : WE.cell? ⟨w.heap.size, 7, none⟩ = some (.int .i64 o.tt) := hr 7 _ rfl
      have Z8 : WE.cell? ⟨w.heap.size, 8, none⟩ = some (.int .i64 o.tr) := hr 8 _ rfl
      have Z9 : WE.cell? ⟨w.heap.size, 9, none⟩ = some (.string o.name) := hr 9 _ rfl
      have Z10 : WE.cell? ⟨w.heap.size, 10, none⟩ = some (.string o.new) := hr 10 _ rfl
      have Z11 : WE.cell? ⟨w.heap.size, 11, none⟩ = some (.int .i64 o.off) := hr 11 _ rfl
      have Z12 : WE.cell? ⟨w.heap.size, 12, none⟩ = some (.string o.data) := hr 12 _ rfl
      clear hr ht hS0 hS0' HI
      have HB8 := Lib.hid hB8
      have HRR := Lib.hid hR
      clear hB8 hR
      go_wp2_with fail
      refine bodyPost_ret (v := r) ?_ rfl ⟨rfl, HB8.out⟩
      rw [HRR.out, if_pos (by simp)]
      simp [results, Tryd.results10, go_sem, Z0, Z1, Z2, Z3, Z4, Z5, Z6, Z7, Z8, Z9, Z10, Z11, Z12]
      rfl
  · have hz' : (E == 0) = false := by simp [hz]
    clear l0 l1 l2 l3 l4 l5 l6 l7 l8 l9 l10 l11 l12
    have ht := op_there T9.res
    have hr := World.rangeAt_setCells_same W9 w.heap.size 0 (opA zO).toList ht
    have hB8 := below_setCells (Nat.le_refl _) (opA zO).toList 0 _ T9.below
    go_wp2_with (refine wpList_store_mid rfl 25 _ _ rfl w.heap.size 0 (opA zO) rfl rfl ht HI.out (op_one zO) ?_)
    clear ht HI
    refine bodyPost_ret (v := r) ?_ rfl ⟨rfl, hB8⟩
    rw [hR, if_neg (fun g => hz g.1)]
    clear hB8
    generalize W9.setCells w.heap.size 0 (opA zO).toList = WE at hr ⊢
    have Z0 : WE.cell? ⟨w.heap.size, 0, none⟩ = some (.int .i64 0) := hr 0 _ rfl
    have Z1 : WE.cell? ⟨w.heap.size, 1, none⟩ = some (.int .i64 0) := hr 1 _ rfl
    have Z2 : WE.cell? ⟨w.heap.size, 2, none⟩ = some (.int .i64 0) := hr 2 _ rfl
    have Z3 : WE.cell? ⟨w.heap.size, 3, none⟩ = some (.int .i64 0) := hr 3 _ rfl
    have Z4 : WE.cell? ⟨w.heap.size, 4, none⟩ = some (.int .i64 0) := hr 4 _ rfl
    have Z5 : WE.cell? ⟨w.heap.size, 5, none⟩ = some (.int .i64 0) := hr 5 _ rfl
    have Z6 : WE.cell? ⟨w.heap.size, 6, none⟩ = some (.int .i64 0) := hr 6 _ rfl
    have Z7 : WE.cell? ⟨w.heap.size, 7, none⟩ = some (.int .i64 0) := hr 7 _ rfl
    have Z8 : WE.cell? ⟨w.heap.size, 8, none⟩ = some (.int .i64 0) := hr 8 _ rfl
    have Z9 : WE.cell? ⟨w.heap.size, 9, none⟩ = some (.string ⟨#[]⟩) := hr 9 _ rfl
    have Z10 : WE.cell? ⟨w.heap.size, 10, none⟩ = some (.string ⟨#[]⟩) := hr 10 _ rfl
    have Z11 : WE.cell? ⟨w.heap.size, 11, none⟩ = some (.int .i64 0) := hr 11 _ rfl
    have Z12 : WE.cell? ⟨w.heap.size, 12, none⟩ = some (.string ⟨#[]⟩) := hr 12 _ rfl
    simp [results, Tryd.results10, go_sem, Z0, Z1, Z2, Z3, Z4, Z5, Z6, Z7, Z8, Z9, Z10, Z11, Z12]
    rfl

end Go.Proofs.YteknegfocnopgaaDoor

/-
  The contracts of op's functions.
-/
namespace Go.Proofs.YteknegfocnopgaaDoor
open Go.RowKit OpMath StampMath PackMath

theorem intP_cases {l l1 : List UInt8} {k e : Int} (h : intP l = (k, l1, e)) : (takeL l = none ∧ e = 2) ∨ ∃ m, takeL l = some (m, l1) ∧ k = unzig m ∧ e = 0 := by
  unfold intP at h
  cases ht : takeL l with
  | none => rw [ht] at h; simp only [Prod.mk.injEq] at h; exact Or.inl ⟨rfl, h.2.2.symm⟩
  | some p => obtain ⟨m, t⟩ := p; rw [ht] at h; simp only [Prod.mk.injEq] at h; obtain ⟨rfl, rfl, rfl⟩ := h; exact Or.inr ⟨m, rfl, rfl, rfl⟩

theorem stampP_cases {l l1 : List UInt8} {t r e : Int} (h : stampP l = (t, r, l1, e)) : (stampL l = none ∧ e = 2) ∨ (stampL l = some (t, r, l1) ∧ e = 0) := by
  unfold stampP at h
  cases ht : stampL l with
  | none => rw [ht] at h; simp only [Prod.mk.injEq] at h; exact Or.inl ⟨rfl, h.2.2.2.symm⟩
  | some p => obtain ⟨a, b, u⟩ := p; rw [ht] at h; simp only [Prod.mk.injEq] at h; obtain ⟨rfl, rfl, rfl, rfl⟩ := h; exact Or.inr ⟨rfl, rfl⟩

theorem textM_cases {l a l1 : List UInt8} {most e : Int} (h : textM most l = (a, l1, e)) : (textL l most = none ∧ e = 2) ∨ (textL l most = some (a, l1) ∧ e = 0) := by
  unfold textM at h
  cases ht : textL l most with
  | none => rw [ht] at h; simp only [Prod.mk.injEq] at h; exact Or.inl ⟨rfl, h.2.2.symm⟩
  | some p => obtain ⟨x, y⟩ := p; rw [ht] at h; simp only [Prod.mk.injEq] at h; obtain ⟨rfl, rfl, rfl⟩ := h; exact Or.inr ⟨rfl, rfl⟩

/-- A short text is a text. -/
theorem text_more {l a l1 : List UInt8} (h : textL l 8 = some (a, l1)) : textL l 64 = some (a, l1) := by
  obtain ⟨h1, h2, _⟩ := text_textL h
  rw [← h1]
  exact textL_most _ _ _ (by omega) (by omega)

theorem text_less {l a l1 : List UInt8} (h : textL l 64 = some (a, l1)) (ha : a.length ≤ 8) : textL l 8 = some (a, l1) := by
  obtain ⟨h1, _, _⟩ := text_textL h
  rw [← h1]
  exact textL_most _ _ _ (by omega) (by omega)

theorem takeO_code {l l1 l2 l3 l4 l5 l6 l7 l8 l9 a b d : List UInt8} {k st sr pt pr it ir tt tr f e1 e2 e3 e4 e5 e6 e7 e8 e9 : Int}
    (h1 : intP l = (k, l1, e1)) (h2 : stampP l1 = (st, sr, l2, e2)) (h3 : stampP l2 = (pt, pr, l3, e3)) (h4 : stampP l3 = (it, ir, l4, e4)) (h5 : stampP l4 = (tt, tr, l5, e5))
    (h6 : textM 8 l5 = (a, l6, e6)) (h7 : textM 8 l6 = (b, l7, e7)) (h8 : intP l7 = (f, l8, e8)) (h9 : textM 64 l8 = (d, l9, e9)) :
    opRes (takeO l) = if e1 = 0 ∧ e2 = 0 ∧ e3 = 0 ∧ e4 = 0 ∧ e5 = 0 ∧ e6 = 0 ∧ e7 = 0 ∧ e8 = 0 ∧ e9 = 0 ∧ mayO ⟨st, sr, k, pt, pr, it, ir, tt, tr, ⟨a.toArray⟩, ⟨b.toArray⟩, f, ⟨d.toArray⟩⟩ = true
      then .tuple #[.agg (opA ⟨st, sr, k, pt, pr, it, ir, tt, tr, ⟨a.toArray⟩, ⟨b.toArray⟩, f, ⟨d.toArray⟩⟩), .string ⟨l9.toArray⟩, .int .i64 0] else .tuple #[.agg (opA zO), .string ⟨#[]⟩, .int .i64 2] := by
  have no : takeO l = none → opRes (takeO l) = .tuple #[.agg (opA zO), .string ⟨#[]⟩, .int .i64 2] := fun h => by rw [h]; rfl
  rcases intP_cases h1 with ⟨g1, rfl⟩ | ⟨m, g1, rfl, rfl⟩
  · rw [if_neg fun h => absurd h.1 (by decide)]
    exact no (by simp [takeO, g1])
  rcases stampP_cases h2 with ⟨g2, rfl⟩ | ⟨g2, rfl⟩
  · rw [if_neg fun h => absurd h.2.1 (by decide)]
    exact no (by simp [takeO, g1, stampsN_none g2])
  rcases stampP_cases h3 with ⟨g3, rfl⟩ | ⟨g3, rfl⟩
  · rw [if_neg fun h => absurd h.2.2.1 (by decide)]
    exact no (by simp [takeO, g1, stampsN_some g2, stampsN_none g3])
  rcases stampP_cases h4 with ⟨g4, rfl⟩ | ⟨g4, rfl⟩
  · rw [if_neg fun h => absurd h.2.2.2.1 (by decide)]
    exact no (by simp [takeO, g1, stampsN_some g2, stampsN_some g3, stampsN_none g4])
  rcases stampP_cases h5 with ⟨g5, rfl⟩ | ⟨g5, rfl⟩
  · rw [if_neg fun h => absurd h.2.2.2.2.1 (by decide)]
    exact no (by simp [takeO, g1, stampsN_some g2, stampsN_some g3, stampsN_some g4, stampsN_none g5])
  have gs : stampsN 4 l1 = some ([(st, sr), (pt, pr), (it, ir), (tt, tr)], l5) := by
    rw [stampsN_some g2, stampsN_some g3, stampsN_some g4, stampsN_some g5]
    rfl
  have good : ∀ o u, takeO l = some (o, u) → mayO o = true := fun o u h => (takeO_very h).2.1
  have x6 : ∀ a6 l6', textL l5 64 = some (a6, l6') → takeO l ≠ none → a6.length ≤ 8 := by
    intro a6 l6' hx hn
    cases ht : takeO l with
    | none => exact absurd ht hn
    | some p =>
      obtain ⟨o, u⟩ := p
      have hm := (may_sizes (good o u ht)).1
      unfold takeO at ht
      rw [g1] at ht
      simp only at ht
      rw [gs] at ht
      simp only at ht
      rw [hx] at ht
      simp only at ht
      cases y4 : textL l6' 64 with
      | none => rw [y4] at ht; cases ht
      | some p4 =>
        obtain ⟨b4, m4⟩ := p4
        rw [y4] at ht
        simp only at ht
        cases y5 : takeL m4 with
        | none => rw [y5] at ht; cases ht
        | some p5 =>
          obtain ⟨f5, m5⟩ := p5
          rw [y5] at ht
          simp only at ht
          cases y6 : textL m5 64 with
          | none => rw [y6] at ht; cases ht
          | some p6 =>
            obtain ⟨d6, m6⟩ := p6
            rw [y6] at ht
            simp only at ht
            split at ht
            · simp only [Option.some.injEq, Prod.mk.injEq] at ht
              obtain ⟨rfl, rfl⟩ := ht
              exact hm
            · cases ht
  rcases textM_cases h6 with ⟨g6, rfl⟩ | ⟨g6, rfl⟩
  · rw [if_neg fun h => absurd h.2.2.2.2.2.1 (by decide)]
    refine no ?_
    cases y : textL l5 64 with
    | none => simp [takeO, g1, gs, y]
    | some p =>
      obtain ⟨a6, l6'⟩ := p
      refine Classical.byContradiction fun hn => ?_
      rw [text_less y (x6 a6 l6' y hn)] at g6
      cases g6
  have G6 := text_more g6
  have x7 : ∀ b7 l7', textL l6 64 = some (b7, l7') → takeO l ≠ none → b7.length ≤ 8 := by
    intro b7 l7' hx hn
    cases ht : takeO l with
    | none => exact absurd ht hn
    | some p =>
      obtain ⟨o, u⟩ := p
      have hm := (may_sizes (good o u ht)).2.1
      unfold takeO at ht
      rw [g1] at ht
      simp only at ht
      rw [gs] at ht
      simp only at ht
      rw [G6] at ht
      simp only at ht
      rw [hx] at ht
      simp only at ht
      cases y5 : takeL l7' with
      | none => rw [y5] at ht; cases ht
      | some p5 =>
        obtain ⟨f5, m5⟩ := p5
        rw [y5] at ht
        simp only at ht
        cases y6 : textL m5 64 with
        | none => rw [y6] at ht; cases ht
        | some p6 =>
          obtain ⟨d6, m6⟩ := p6
          rw [y6] at ht
          simp only at ht
          split at ht
          · simp only [Option.some.injEq, Prod.mk.injEq] at ht
            obtain ⟨rfl, rfl⟩ := ht
            exact hm
          · cases ht
  rcases textM_cases h7 with ⟨g7, rfl⟩ | ⟨g7, rfl⟩
  · rw [if_neg fun h => absurd h.2.2.2.2.2.2.1 (by decide)]
    refine no ?_
    cases y : textL l6 64 with
    | none => simp [takeO, g1, gs, G6, y]
    | some p =>
      obtain ⟨b7, l7'⟩ := p
      refine Classical.byContradiction fun hn => ?_
      rw [text_less y (x7 b7 l7' y hn)] at g7
      cases g7
  have G7 := text_more g7
  rcases intP_cases h8 with ⟨g8, rfl⟩ | ⟨n, g8, rfl, rfl⟩
  · rw [if_neg fun h => absurd h.2.2.2.2.2.2.2.1 (by decide)]
    exact no (by simp [takeO, g1, gs, G6, G7, g8])
  rcases textM_cases h9 with ⟨g9, rfl⟩ | ⟨g9, rfl⟩
  · rw [if_neg fun h => absurd h.2.2.2.2.2.2.2.2.1 (by decide)]
    exact no (by simp [takeO, g1, gs, G6, G7, g8, g9])
  by_cases hm : mayO ⟨st, sr, unzig m, pt, pr, it, ir, tt, tr, ⟨a.toArray⟩, ⟨b.toArray⟩, unzig n, ⟨d.toArray⟩⟩ = true
  · rw [if_pos ⟨rfl, rfl, rfl, rfl, rfl, rfl, rfl, rfl, rfl, hm⟩]
    simp [takeO, g1, gs, G6, G7, g8, g9, hm, opRes]
  · rw [if_neg fun h => hm h.2.2.2.2.2.2.2.2.2]
    exact no (by simp [takeO, g1, gs, G6, G7, g8, g9, hm])

theorem intP_i64 {l l1 : List UInt8} {k e : Int} (h : intP l = (k, l1, e)) : IsI64 k := by
  unfold intP at h
  cases ht : takeL l with
  | none => rw [ht] at h; simp only [Prod.mk.injEq] at h; rw [← h.1]; unfold IsI64; omega
  | some p => obtain ⟨m, t⟩ := p; rw [ht] at h; simp only [Prod.mk.injEq] at h; rw [← h.1]; exact unzig_i64 (takeL_u64 ht)

theorem stampP_i64 {l l1 : List UInt8} {t r e : Int} (h : stampP l = (t, r, l1, e)) : IsI64 t ∧ IsI64 r := by
  unfold stampP at h
  cases ht : stampL l with
  | none => rw [ht] at h; simp only [Prod.mk.injEq] at h; rw [← h.1, ← h.2.1]; exact ⟨by unfold IsI64; omega, by unfold IsI64; omega⟩
  | some p => obtain ⟨a, b, u⟩ := p; rw [ht] at h; simp only [Prod.mk.injEq] at h; rw [← h.1, ← h.2.1]; exact ⟨(stampL_very ht).2.2.1, (stampL_very ht).2.2.2.1⟩

theorem textM_small {l a l1 : List UInt8} {most e : Int} (h : textM most l = (a, l1, e)) (hm : 0 ≤ most) : (a.length : Int) ≤ most := by
  rcases textM_cases h with ⟨_, rfl⟩ | ⟨g, _⟩
  · unfold textM at h
    cases ht : textL l most with
    | none => rw [ht] at h; simp only [Prod.mk.injEq] at h; rw [← h.1]; simpa using hm
    | some p => rw [ht] at h; simp only [Prod.mk.injEq] at h; exact absurd h.2.2 (by decide)
  · exact (text_textL g).2.1

theorem opTake_any (s : ByteArray) (w : World) [Tab w] (hs : s.size ≤ 20000) :
    Calls Tryd.prog 10 #[.string s] w fun e w' => e = .returned (opRes (takeO s.data.toList)) ∧ Below w.heap.size w w' := by
  have hl0 : s.data.toList.length = s.size := by simp
  obtain ⟨l, hl⟩ : ∃ l, l = s.data.toList := ⟨_, rfl⟩
  rw [← hl] at hl0 ⊢
  have n1 := intP_len l
  obtain ⟨⟨k, l1, e1⟩, h1⟩ : ∃ p, intP l = p := ⟨_, rfl⟩
  have n2 := stampP_len l1
  obtain ⟨⟨st, sr, l2, e2⟩, h2⟩ : ∃ p, stampP l1 = p := ⟨_, rfl⟩
  have n3 := stampP_len l2
  obtain ⟨⟨pt, pr, l3, e3⟩, h3⟩ : ∃ p, stampP l2 = p := ⟨_, rfl⟩
  have n4 := stampP_len l3
  obtain ⟨⟨it, ir, l4, e4⟩, h4⟩ : ∃ p, stampP l3 = p := ⟨_, rfl⟩
  have n5 := stampP_len l4
  obtain ⟨⟨tt, tr, l5, e5⟩, h5⟩ : ∃ p, stampP l4 = p := ⟨_, rfl⟩
  have n6 := textM_len 8 l5
  obtain ⟨⟨a, l6, e6⟩, h6⟩ : ∃ p, textM 8 l5 = p := ⟨_, rfl⟩
  have n7 := textM_len 8 l6
  obtain ⟨⟨b, l7, e7⟩, h7⟩ : ∃ p, textM 8 l6 = p := ⟨_, rfl⟩
  have n8 := intP_len l7
  obtain ⟨⟨f, l8, e8⟩, h8⟩ : ∃ p, intP l7 = p := ⟨_, rfl⟩
  obtain ⟨⟨d, l9, e9⟩, h9⟩ : ∃ p, textM 64 l8 = p := ⟨_, rfl⟩
  rw [h1] at n1
  rw [h2] at n2
  rw [h3] at n3
  rw [h4] at n4
  rw [h5] at n5
  rw [h6] at n6
  rw [h7] at n7
  rw [h8] at n8
  simp only at n1 n2 n3 n4 n5 n6 n7 n8
  have z6 := textM_small h6 (by omega)
  have z7 := textM_small h7 (by omega)
  have z9 := textM_small h9 (by omega)
  have ok : Ok64 (⟨st, sr, k, pt, pr, it, ir, tt, tr, ⟨a.toArray⟩, ⟨b.toArray⟩, f, ⟨d.toArray⟩⟩ : Opn) :=
    ⟨(stampP_i64 h2).1, (stampP_i64 h2).2, intP_i64 h1, (stampP_i64 h3).1, (stampP_i64 h3).2, (stampP_i64 h4).1, (stampP_i64 h4).2, (stampP_i64 h5).1, (stampP_i64 h5).2, intP_i64 h8⟩
  exact takeCode s ⟨l1.toArray⟩ ⟨l2.toArray⟩ ⟨l3.toArray⟩ ⟨l4.toArray⟩ ⟨l5.toArray⟩ ⟨l6.toArray⟩ ⟨l7.toArray⟩ ⟨l8.toArray⟩ ⟨l9.toArray⟩ e1 e2 e3 e4 e5 e6 e7 e8 e9
    ⟨st, sr, k, pt, pr, it, ir, tt, tr, ⟨a.toArray⟩, ⟨b.toArray⟩, f, ⟨d.toArray⟩⟩ (mayO ⟨st, sr, k, pt, pr, it, ir, tt, tr, ⟨a.toArray⟩, ⟨b.toArray⟩, f, ⟨d.toArray⟩⟩) w
    (fun W g e hg => number_core g s ⟨l1.toArray⟩ e e1 k W hg (fun W => by have H := code_int s (by omega) W; rw [← hl, h1] at H; exact H))
    (fun W g e hg => stamp_core g ⟨l1.toArray⟩ ⟨l2.toArray⟩ e e2 st sr W hg (fun W => by have H := code_stamp ⟨l1.toArray⟩ (by show l1.length ≤ 30000; omega) W; rw [show stampP (⟨l1.toArray⟩ : ByteArray).data.toList = _ from h2] at H; exact H))
    (fun W g e hg => stamp_core g ⟨l2.toArray⟩ ⟨l3.toArray⟩ e e3 pt pr W hg (fun W => by have H := code_stamp ⟨l2.toArray⟩ (by show l2.length ≤ 30000; omega) W; rw [show stampP (⟨l2.toArray⟩ : ByteArray).data.toList = _ from h3] at H; exact H))
    (fun W g e hg => stamp_core g ⟨l3.toArray⟩ ⟨l4.toArray⟩ e e4 it ir W hg (fun W => by have H := code_stamp ⟨l3.toArray⟩ (by show l3.length ≤ 30000; omega) W; rw [show stampP (⟨l3.toArray⟩ : ByteArray).data.toList = _ from h4] at H; exact H))
    (fun W g e hg => stamp_core g ⟨l4.toArray⟩ ⟨l5.toArray⟩ e e5 tt tr W hg (fun W => by have H := code_stamp ⟨l4.toArray⟩ (by show l4.length ≤ 30000; omega) W; rw [show stampP (⟨l4.toArray⟩ : ByteArray).data.toList = _ from h5] at H; exact H))
    (fun W g e hg => text_core g ⟨l5.toArray⟩ ⟨l6.toArray⟩ ⟨a.toArray⟩ e e6 8 W hg (fun W => by have H := code_text ⟨l5.toArray⟩ (by show l5.length ≤ 30000; omega) 8 (by unfold IsI64; omega) W; rw [show textM 8 (⟨l5.toArray⟩ : ByteArray).data.toList = _ from h6] at H; exact H))
    (fun W g e hg => text_core g ⟨l6.toArray⟩ ⟨l7.toArray⟩ ⟨b.toArray⟩ e e7 8 W hg (fun W => by have H := code_text ⟨l6.toArray⟩ (by show l6.length ≤ 30000; omega) 8 (by unfold IsI64; omega) W; rw [show textM 8 (⟨l6.toArray⟩ : ByteArray).data.toList = _ from h7] at H; exact H))
    (fun W g e hg => number_core g ⟨l7.toArray⟩ ⟨l8.toArray⟩ e e8 f W hg (fun W => by have H := code_int ⟨l7.toArray⟩ (by show l7.length ≤ 30000; omega) W; rw [show intP (⟨l7.toArray⟩ : ByteArray).data.toList = _ from h8] at H; exact H))
    (fun W g e hg => text_core g ⟨l8.toArray⟩ ⟨l9.toArray⟩ ⟨d.toArray⟩ e e9 64 W hg (fun W => by have H := code_text ⟨l8.toArray⟩ (by show l8.length ≤ 30000; omega) 64 (by unfold IsI64; omega) W; rw [show textM 64 (⟨l8.toArray⟩ : ByteArray).data.toList = _ from h9] at H; exact H))
    (fun W _ => opMay_any _ W ok (by show a.length ≤ maxLen; unfold maxLen; omega) (by show b.length ≤ maxLen; unfold maxLen; omega) (by show d.length ≤ maxLen; unfold maxLen; omega))
    _ (takeO_code h1 h2 h3 h4 h5 h6 h7 h8 h9)

theorem opHave : OpHave where
  name := fun s w _ hs => (name_any s hs w).mono fun _ _ ⟨he, hw⟩ => ⟨he, hw ▸ Below.refl _ _⟩
  may := fun o w _ ok hn hm hd => opMay_any o w ok hn hm hd
  makes := fun o w _ _ => makes_any o w
  uses := fun o w _ _ => uses_any o w
  put := fun o w _ ok hn hm hd => opPut_any o w ok hn hm hd
  take := fun s w _ hs => opTake_any s w hs

end Go.Proofs.YteknegfocnopgaaDoor
