/-
  The walk of op's own.
-/
import Derived.Test.YtbkijfhfjhpebaaGreatDoorZ08
import Derived.Test.YtbkijfhfjhpebaaGreatDoorZ08
import Derived.Deep.RegionHeld3
import Derived.Test.YtbkijfhfjhpebaaGreatDoorZ00
import Derived.Test.YtbkijfhfjhpebaaGreatDoorRows
import Derived.ProofKit
import Derived.Laws.StructEq
import Derived.Deep.DeepCutAuto
namespace Go.Proofs.YtbkijfhfjhpebaaGreatDoor
open Go.RowKit OpMath

/-- An operation with its kind's fields alone, as the code says it. -/
def ownO (o : Opn) : Opn where
  st := o.st
  sr := o.sr
  k := o.k
  pt := if hasF o.k 1 then o.pt else 0
  pr := if hasF o.k 1 then o.pr else 0
  it := if hasF o.k 2 then o.it else 0
  ir := if hasF o.k 2 then o.ir else 0
  tt := if hasF o.k 4 then o.tt else 0
  tr := if hasF o.k 4 then o.tr else 0
  name := if hasF o.k 8 then o.name else ⟨#[]⟩
  new := if hasF o.k 16 then o.new else ⟨#[]⟩
  off := if hasF o.k 32 then o.off else 0
  data := if hasF o.k 64 then o.data else ⟨#[]⟩

theorem own_bare (o : Opn) (h1 : 1 ≤ o.k) (h2 : o.k ≤ 10) : ownO o = bareO o := by
  have e1 : hasF o.k 1 = decide (o.k ≤ 7) := by unfold hasF; rw [if_pos rfl, decide_eq_decide]; omega
  have e2 : hasF o.k 2 = decide (4 ≤ o.k) := by unfold hasF; rw [if_neg (by decide), if_pos rfl, decide_eq_decide]; omega
  have e4 : hasF o.k 4 = decide (o.k = 7) := by unfold hasF; rw [if_neg (by decide), if_neg (by decide), if_pos rfl]
  have e8 : hasF o.k 8 = decide (o.k ≤ 7) := by unfold hasF; rw [if_neg (by decide), if_neg (by decide), if_neg (by decide), if_pos rfl, decide_eq_decide]; omega
  have e16 : hasF o.k 16 = decide (o.k = 7) := by unfold hasF; rw [if_neg (by decide), if_neg (by decide), if_neg (by decide), if_neg (by decide), if_pos rfl]
  have e32 : hasF o.k 32 = decide (8 ≤ o.k) := by unfold hasF; rw [if_neg (by decide), if_neg (by decide), if_neg (by decide), if_neg (by decide), if_neg (by decide), if_pos rfl, decide_eq_decide]; omega
  have e64 : hasF o.k 64 = decide (o.k = 3 ∨ o.k = 8) := by unfold hasF; rw [if_neg (by decide), if_neg (by decide), if_neg (by decide), if_neg (by decide), if_neg (by decide), if_neg (by decide)]
  unfold ownO bareO
  rw [e1, e2, e4, e8, e16, e32, e64]
  simp only [decide_eq_true_eq]

theorem there_below {W W' : World} {b o n : Nat} (hb : Below W.heap.size W W') (h : W.there b o n) : W'.there b o n := fun j hj => by
  obtain ⟨h1, h2⟩ := h j hj
  obtain ⟨v, hv⟩ := Option.isSome_iff_exists.1 h1
  have hl := World.block_lt_of_cell? _ _ hv
  exact ⟨by rw [hb.cell (p := ⟨b, o + j, none⟩) hl, hv]; rfl, (hb.frozen (p := ⟨b, o + j, none⟩) hl).trans h2⟩

theorem opOwn_call {w W W' : World} {o : Opn} {T : TypeId} (hb : Below W.heap.size W W') (h : Held w [(w.heap.size, (.cells (opA o) T (0, 0)))] W ∧ W.there (w.heap.size + 1) 0 13 ∧ W.cell? ⟨w.heap.size, 0, none⟩ = some (.int .i64 o.st) ∧ W.cell? ⟨w.heap.size, 1, none⟩ = some (.int .i64 o.sr) ∧ W.cell? ⟨w.heap.size, 2, none⟩ = some (.int .i64 o.k) ∧ W.cell? ⟨w.heap.size, 3, none⟩ = some (.int .i64 o.pt) ∧ W.cell? ⟨w.heap.size, 4, none⟩ = some (.int .i64 o.pr) ∧ W.cell? ⟨w.heap.size, 5, none⟩ = some (.int .i64 o.it) ∧ W.cell? ⟨w.heap.size, 6, none⟩ = some (.int .i64 o.ir) ∧ W.cell? ⟨w.heap.size, 7, none⟩ = some (.int .i64 o.tt) ∧ W.cell? ⟨w.heap.size, 8, none⟩ = some (.int .i64 o.tr) ∧ W.cell? ⟨w.heap.size, 9, none⟩ = some (.string o.name) ∧ W.cell? ⟨w.heap.size, 10, none⟩ = some (.string o.new) ∧ W.cell? ⟨w.heap.size, 11, none⟩ = some (.int .i64 o.off) ∧ W.cell? ⟨w.heap.size, 12, none⟩ = some (.string o.data)) : Held w [(w.heap.size, (.cells (opA o) T (0, 0)))] W' ∧ W'.there (w.heap.size + 1) 0 13 ∧ W'.cell? ⟨w.heap.size, 0, none⟩ = some (.int .i64 o.st) ∧ W'.cell? ⟨w.heap.size, 1, none⟩ = some (.int .i64 o.sr) ∧ W'.cell? ⟨w.heap.size, 2, none⟩ = some (.int .i64 o.k) ∧ W'.cell? ⟨w.heap.size, 3, none⟩ = some (.int .i64 o.pt) ∧ W'.cell? ⟨w.heap.size, 4, none⟩ = some (.int .i64 o.pr) ∧ W'.cell? ⟨w.heap.size, 5, none⟩ = some (.int .i64 o.it) ∧ W'.cell? ⟨w.heap.size, 6, none⟩ = some (.int .i64 o.ir) ∧ W'.cell? ⟨w.heap.size, 7, none⟩ = some (.int .i64 o.tt) ∧ W'.cell? ⟨w.heap.size, 8, none⟩ = some (.int .i64 o.tr) ∧ W'.cell? ⟨w.heap.size, 9, none⟩ = some (.string o.name) ∧ W'.cell? ⟨w.heap.size, 10, none⟩ = some (.string o.new) ∧ W'.cell? ⟨w.heap.size, 11, none⟩ = some (.int .i64 o.off) ∧ W'.cell? ⟨w.heap.size, 12, none⟩ = some (.string o.data) :=
  ⟨h.1.step hb, there_below hb h.2.1, op_cells ((h.1.step hb).at 0 rfl)⟩

theorem own_drew {w W : World} {o : Opn} {T : TypeId} (h : Held w [(w.heap.size, (.cells (opA o) T (0, 0)))] W ∧ W.there (w.heap.size + 1) 0 13 ∧ W.cell? ⟨w.heap.size, 0, none⟩ = some (.int .i64 o.st) ∧ W.cell? ⟨w.heap.size, 1, none⟩ = some (.int .i64 o.sr) ∧ W.cell? ⟨w.heap.size, 2, none⟩ = some (.int .i64 o.k) ∧ W.cell? ⟨w.heap.size, 3, none⟩ = some (.int .i64 o.pt) ∧ W.cell? ⟨w.heap.size, 4, none⟩ = some (.int .i64 o.pr) ∧ W.cell? ⟨w.heap.size, 5, none⟩ = some (.int .i64 o.it) ∧ W.cell? ⟨w.heap.size, 6, none⟩ = some (.int .i64 o.ir) ∧ W.cell? ⟨w.heap.size, 7, none⟩ = some (.int .i64 o.tt) ∧ W.cell? ⟨w.heap.size, 8, none⟩ = some (.int .i64 o.tr) ∧ W.cell? ⟨w.heap.size, 9, none⟩ = some (.string o.name) ∧ W.cell? ⟨w.heap.size, 10, none⟩ = some (.string o.new) ∧ W.cell? ⟨w.heap.size, 11, none⟩ = some (.int .i64 o.off) ∧ W.cell? ⟨w.heap.size, 12, none⟩ = some (.string o.data)) : Held w [(w.heap.size, (.cells (opA o) T (0, 0)))] W.drew ∧ W.drew.there (w.heap.size + 1) 0 13 ∧ W.drew.cell? ⟨w.heap.size, 0, none⟩ = some (.int .i64 o.st) ∧ W.drew.cell? ⟨w.heap.size, 1, none⟩ = some (.int .i64 o.sr) ∧ W.drew.cell? ⟨w.heap.size, 2, none⟩ = some (.int .i64 o.k) ∧ W.drew.cell? ⟨w.heap.size, 3, none⟩ = some (.int .i64 o.pt) ∧ W.drew.cell? ⟨w.heap.size, 4, none⟩ = some (.int .i64 o.pr) ∧ W.drew.cell? ⟨w.heap.size, 5, none⟩ = some (.int .i64 o.it) ∧ W.drew.cell? ⟨w.heap.size, 6, none⟩ = some (.int .i64 o.ir) ∧ W.drew.cell? ⟨w.heap.size, 7, none⟩ = some (.int .i64 o.tt) ∧ W.drew.cell? ⟨w.heap.size, 8, none⟩ = some (.int .i64 o.tr) ∧ W.drew.cell? ⟨w.heap.size, 9, none⟩ = some (.string o.name) ∧ W.drew.cell? ⟨w.heap.size, 10, none⟩ = some (.string o.new) ∧ W.drew.cell? ⟨w.heap.size, 11, none⟩ = some (.int .i64 o.off) ∧ W.drew.cell? ⟨w.heap.size, 12, none⟩ = some (.string o.data) :=
  ⟨h.1.drew, (World.there_drew W _ _ _).2 h.2.1, op_cells (h.1.drew.at 0 rfl)⟩

theorem heap_setCells_old {g k : Nat} : ∀ {W : World} (vs : List Value) (o : Nat), k ≠ g → (W.setCells g o vs).heap[k]? = W.heap[k]?
  | _, [], _, _ => rfl
  | W, v :: vs, o, h => by
    rw [World.setCells, heap_setCells_old vs (o + 1) h]
    exact heap_setCell_other _ _ _ _ h

theorem held_setCells {w W : World} {g : Nat} {ob : Obj} (h : Held w [(w.heap.size, ob)] W) (hg : w.heap.size < g) (vs : List Value) : Held w [(w.heap.size, ob)] (W.setCells g 0 vs) :=
  ⟨fun p hp => by
    have e := List.mem_singleton.1 hp
    subst e
    exact (heap_setCells_old vs 0 (by show w.heap.size ≠ g; omega)).trans (h.at 0 rfl), below_setCells (Nat.le_of_lt hg) vs 0 W h.2⟩

theorem own_store {w W : World} {o : Opn} {T : TypeId} (vs : List Value) (h : Held w [(w.heap.size, (.cells (opA o) T (0, 0)))] W ∧ W.there (w.heap.size + 1) 0 13 ∧ W.cell? ⟨w.heap.size, 0, none⟩ = some (.int .i64 o.st) ∧ W.cell? ⟨w.heap.size, 1, none⟩ = some (.int .i64 o.sr) ∧ W.cell? ⟨w.heap.size, 2, none⟩ = some (.int .i64 o.k) ∧ W.cell? ⟨w.heap.size, 3, none⟩ = some (.int .i64 o.pt) ∧ W.cell? ⟨w.heap.size, 4, none⟩ = some (.int .i64 o.pr) ∧ W.cell? ⟨w.heap.size, 5, none⟩ = some (.int .i64 o.it) ∧ W.cell? ⟨w.heap.size, 6, none⟩ = some (.int .i64 o.ir) ∧ W.cell? ⟨w.heap.size, 7, none⟩ = some (.int .i64 o.tt) ∧ W.cell? ⟨w.heap.size, 8, none⟩ = some (.int .i64 o.tr) ∧ W.cell? ⟨w.heap.size, 9, none⟩ = some (.string o.name) ∧ W.cell? ⟨w.heap.size, 10, none⟩ = some (.string o.new) ∧ W.cell? ⟨w.heap.size, 11, none⟩ = some (.int .i64 o.off) ∧ W.cell? ⟨w.heap.size, 12, none⟩ = some (.string o.data)) : Held w [(w.heap.size, (.cells (opA o) T (0, 0)))] (W.setCells (w.heap.size + 1) 0 vs) ∧ (W.setCells (w.heap.size + 1) 0 vs).there (w.heap.size + 1) 0 13 ∧ (W.setCells (w.heap.size + 1) 0 vs).cell? ⟨w.heap.size, 0, none⟩ = some (.int .i64 o.st) ∧ (W.setCells (w.heap.size + 1) 0 vs).cell? ⟨w.heap.size, 1, none⟩ = some (.int .i64 o.sr) ∧ (W.setCells (w.heap.size + 1) 0 vs).cell? ⟨w.heap.size, 2, none⟩ = some (.int .i64 o.k) ∧ (W.setCells (w.heap.size + 1) 0 vs).cell? ⟨w.heap.size, 3, none⟩ = some (.int .i64 o.pt) ∧ (W.setCells (w.heap.size + 1) 0 vs).cell? ⟨w.heap.size, 4, none⟩ = some (.int .i64 o.pr) ∧ (W.setCells (w.heap.size + 1) 0 vs).cell? ⟨w.heap.size, 5, none⟩ = some (.int .i64 o.it) ∧ (W.setCells (w.heap.size + 1) 0 vs).cell? ⟨w.heap.size, 6, none⟩ = some (.int .i64 o.ir) ∧ (W.setCells (w.heap.size + 1) 0 vs).cell? ⟨w.heap.size, 7, none⟩ = some (.int .i64 o.tt) ∧ (W.setCells (w.heap.size + 1) 0 vs).cell? ⟨w.heap.size, 8, none⟩ = some (.int .i64 o.tr) ∧ (W.setCells (w.heap.size + 1) 0 vs).cell? ⟨w.heap.size, 9, none⟩ = some (.string o.name) ∧ (W.setCells (w.heap.size + 1) 0 vs).cell? ⟨w.heap.size, 10, none⟩ = some (.string o.new) ∧ (W.setCells (w.heap.size + 1) 0 vs).cell? ⟨w.heap.size, 11, none⟩ = some (.int .i64 o.off) ∧ (W.setCells (w.heap.size + 1) 0 vs).cell? ⟨w.heap.size, 12, none⟩ = some (.string o.data) :=
  ⟨held_setCells h.1 (by omega) vs, World.there_setCells h.2.1 _ _ _, op_cells ((held_setCells h.1 (by omega) vs).at 0 rfl)⟩

/-- A store of a whole row, as an equivalence. -/
theorem store_iff {P : Program} {op : Oper} {a : Act} {w : World} {K : Act → World → Prop} {Q : Exit → Act → World → Prop} (ty : TypeId) (x y : Operand) (ho : op.op = .store ty x y)
    (b o : Nat) (cells : Array Value) (hx : a.eval x = .pointer (some ⟨b, o, none⟩)) (hy : a.eval y = .agg cells)
    (ht : w.there b o cells.size) (hi : (P.info? ty).map (·.size) = some cells.size) (h1 : cells.all (·.oneCell') = true) :
    op.wp P a w K Q ↔ K (a.put op.dst undef) (w.setCells b o cells.toList) := by
  unfold Oper.wp execOp
  simp only [ho, hx, hy, Instr.storeAt, Instr.sureAddr, Sem.run_bind, Sem.run_pure, Result.andThen_ok, run_storeVar_mid w b o ty cells ht hi h1]
  exact Iff.rfl

theorem own_stores (g : Nat) (W : World) (a b c d e f h i j : Int) (n m : ByteArray) (x : Int) (y : ByteArray) (t0 t1 t3 t4 t5 t6 t7 t8 t9 t10 t11 t12 t13 t14 t15 t16 t17 t18 t19 t20 t21 t22 t23 t24 t25 t26 t27 t28 t29 t30 t31 t32 t33 t34 t35 t36 t37 t38 t39 t40 t41 : Value) (ds : List Deferred) (K : Act → World → Prop) (Q : Exit → Act → World → Prop) (ty : TypeId) (pos : String) (af : Array Edge)
    (ht : W.there g 0 13) :
    Oper.wp Tryz.prog { dst := none, op := Op.store 56 (Operand.tmp 2) (Operand.tmp 42), type := ty, pos := pos, after := af, guard := none } ⟨#[t0, t1, .pointer (some ⟨g, 0, none⟩), t3, t4, t5, t6, t7, t8, t9, t10, t11, t12, t13, t14, t15, t16, t17, t18, t19, t20, t21, t22, t23, t24, t25, t26, t27, t28, t29, t30, t31, t32, t33, t34, t35, t36, t37, t38, t39, t40, t41, .agg #[.int .i64 a, .int .i64 b, .int .i64 c, .int .i64 d, .int .i64 e, .int .i64 f, .int .i64 h, .int .i64 i, .int .i64 j, .string n, .string m, .int .i64 x, .string y]], ds⟩ W K Q ↔
      K ⟨#[t0, t1, .pointer (some ⟨g, 0, none⟩), t3, t4, t5, t6, t7, t8, t9, t10, t11, t12, t13, t14, t15, t16, t17, t18, t19, t20, t21, t22, t23, t24, t25, t26, t27, t28, t29, t30, t31, t32, t33, t34, t35, t36, t37, t38, t39, t40, t41, .agg #[.int .i64 a, .int .i64 b, .int .i64 c, .int .i64 d, .int .i64 e, .int .i64 f, .int .i64 h, .int .i64 i, .int .i64 j, .string n, .string m, .int .i64 x, .string y]], ds⟩ (W.setCells g 0 (opA ⟨a, b, c, d, e, f, h, i, j, n, m, x, y⟩).toList) :=
  store_iff 56 (.tmp 2) (.tmp 42) rfl g 0 (opA ⟨a, b, c, d, e, f, h, i, j, n, m, x, y⟩) rfl rfl ht op_info (op_one _)

attribute [local go_sem ↓] own_stores in
set_option maxRecDepth 100000 in
set_option maxHeartbeats 6400000 in
theorem own_core (o p : Opn) (e1 : p.st = o.st) (e2 : p.sr = o.sr) (e3 : p.k = o.k) (w : World) [Tab w]
    (K1 : Hid (∀ (W : World) [Tab W], Calls Tryz.prog 108 #[.int .i64 o.k, .int .i64 1, .agg #[.int .i64 o.pt, .int .i64 o.pr]] W fun e w' => e = .returned (.agg #[.int .i64 p.pt, .int .i64 p.pr]) ∧ Below W.heap.size W w'))
    (K2 : Hid (∀ (W : World) [Tab W], Calls Tryz.prog 108 #[.int .i64 o.k, .int .i64 2, .agg #[.int .i64 o.it, .int .i64 o.ir]] W fun e w' => e = .returned (.agg #[.int .i64 p.it, .int .i64 p.ir]) ∧ Below W.heap.size W w'))
    (K4 : Hid (∀ (W : World) [Tab W], Calls Tryz.prog 108 #[.int .i64 o.k, .int .i64 4, .agg #[.int .i64 o.tt, .int .i64 o.tr]] W fun e w' => e = .returned (.agg #[.int .i64 p.tt, .int .i64 p.tr]) ∧ Below W.heap.size W w'))
    (K8 : Hid (∀ (W : World) [Tab W], Calls Tryz.prog 109 #[.int .i64 o.k, .int .i64 8, .string o.name] W fun e w' => e = .returned (.string p.name) ∧ Below W.heap.size W w'))
    (K16 : Hid (∀ (W : World) [Tab W], Calls Tryz.prog 109 #[.int .i64 o.k, .int .i64 16, .string o.new] W fun e w' => e = .returned (.string p.new) ∧ Below W.heap.size W w'))
    (K32 : Hid (∀ (W : World) [Tab W], Calls Tryz.prog 110 #[.int .i64 o.k, .int .i64 32, .int .i64 o.off] W fun e w' => e = .returned (.int .i64 p.off) ∧ Below W.heap.size W w'))
    (K64 : Hid (∀ (W : World) [Tab W], Calls Tryz.prog 109 #[.int .i64 o.k, .int .i64 64, .string o.data] W fun e w' => e = .returned (.string p.data) ∧ Below W.heap.size W w')) :
    Calls Tryz.prog 80 #[.agg #[.int .i64 o.st, .int .i64 o.sr, .int .i64 o.k, .int .i64 o.pt, .int .i64 o.pr, .int .i64 o.it, .int .i64 o.ir, .int .i64 o.tt, .int .i64 o.tr, .string o.name, .string o.new, .int .i64 o.off, .string o.data]] w fun e w' => e = .returned (.agg (opA p)) ∧ Below w.heap.size w w' := by
  go_enter Tryz.func80, Tryz.ntmps80
  go_wp2_with fail
  have hS0 : Held w [(w.heap.size, (.cells (opA o) 56 (0, 0)))] ((w.alloc (.cells (opA o) 56)).alloc (.cells (opA zO) 56)) ∧ ((w.alloc (.cells (opA o) 56)).alloc (.cells (opA zO) 56)).there (w.heap.size + 1) 0 13 ∧ (((w.alloc (.cells (opA o) 56)).alloc (.cells (opA zO) 56)).cell? ⟨w.heap.size, 0, none⟩ = some (.int .i64 o.st) ∧ ((w.alloc (.cells (opA o) 56)).alloc (.cells (opA zO) 56)).cell? ⟨w.heap.size, 1, none⟩ = some (.int .i64 o.sr) ∧ ((w.alloc (.cells (opA o) 56)).alloc (.cells (opA zO) 56)).cell? ⟨w.heap.size, 2, none⟩ = some (.int .i64 o.k) ∧ ((w.alloc (.cells (opA o) 56)).alloc (.cells (opA zO) 56)).cell? ⟨w.heap.size, 3, none⟩ = some (.int .i64 o.pt) ∧ ((w.alloc (.cells (opA o) 56)).alloc (.cells (opA zO) 56)).cell? ⟨w.heap.size, 4, none⟩ = some (.int .i64 o.pr) ∧ ((w.alloc (.cells (opA o) 56)).alloc (.cells (opA zO) 56)).cell? ⟨w.heap.size, 5, none⟩ = some (.int .i64 o.it) ∧ ((w.alloc (.cells (opA o) 56)).alloc (.cells (opA zO) 56)).cell? ⟨w.heap.size, 6, none⟩ = some (.int .i64 o.ir) ∧ ((w.alloc (.cells (opA o) 56)).alloc (.cells (opA zO) 56)).cell? ⟨w.heap.size, 7, none⟩ = some (.int .i64 o.tt) ∧ ((w.alloc (.cells (opA o) 56)).alloc (.cells (opA zO) 56)).cell? ⟨w.heap.size, 8, none⟩ = some (.int .i64 o.tr) ∧ ((w.alloc (.cells (opA o) 56)).alloc (.cells (opA zO) 56)).cell? ⟨w.heap.size, 9, none⟩ = some (.string o.name) ∧ ((w.alloc (.cells (opA o) 56)).alloc (.cells (opA zO) 56)).cell? ⟨w.heap.size, 10, none⟩ = some (.string o.new) ∧ ((w.alloc (.cells (opA o) 56)).alloc (.cells (opA zO) 56)).cell? ⟨w.heap.size, 11, none⟩ = some (.int .i64 o.off) ∧ ((w.alloc (.cells (opA o) 56)).alloc (.cells (opA zO) 56)).cell? ⟨w.heap.size, 12, none⟩ = some (.string o.data)) := by
    have h1 : Held w [(w.heap.size, (.cells (opA o) 56 (0, 0)))] (w.alloc (.cells (opA o) 56)) := (Held.refl w).alloc (.cells (opA o) 56) rfl
    have h2 := h1.alloc (.cells (opA zO) 56 (0, 0)) (World.size_alloc _ _)
    exact ⟨h2.tail, op_there h2.head, op_cells (h2.at 1 rfl)⟩
  have iw0 : Tab ((w.alloc (.cells (opA o) 56)).alloc (.cells (opA zO) 56)) := inferInstance
  change Code.wp _ _ _ _ ((w.alloc (.cells (opA o) 56)).alloc (.cells (opA zO) 56))
  generalize ((w.alloc (.cells (opA o) 56)).alloc (.cells (opA zO) 56)) = w0 at hS0 iw0 ⊢
  have hS0' := own_drew hS0
  go_region_held3 (fun W => Held w [(w.heap.size, (.cells (opA o) 56 (0, 0)))] W ∧ W.there (w.heap.size + 1) 0 13 ∧ W.cell? ⟨w.heap.size, 0, none⟩ = some (.int .i64 o.st) ∧ W.cell? ⟨w.heap.size, 1, none⟩ = some (.int .i64 o.sr) ∧ W.cell? ⟨w.heap.size, 2, none⟩ = some (.int .i64 o.k) ∧ W.cell? ⟨w.heap.size, 3, none⟩ = some (.int .i64 o.pt) ∧ W.cell? ⟨w.heap.size, 4, none⟩ = some (.int .i64 o.pr) ∧ W.cell? ⟨w.heap.size, 5, none⟩ = some (.int .i64 o.it) ∧ W.cell? ⟨w.heap.size, 6, none⟩ = some (.int .i64 o.ir) ∧ W.cell? ⟨w.heap.size, 7, none⟩ = some (.int .i64 o.tt) ∧ W.cell? ⟨w.heap.size, 8, none⟩ = some (.int .i64 o.tr) ∧ W.cell? ⟨w.heap.size, 9, none⟩ = some (.string o.name) ∧ W.cell? ⟨w.heap.size, 10, none⟩ = some (.string o.new) ∧ W.cell? ⟨w.heap.size, 11, none⟩ = some (.int .i64 o.off) ∧ W.cell? ⟨w.heap.size, 12, none⟩ = some (.string o.data)) (first | (with_reducible assumption) | exact own_store _ (by with_reducible assumption))
    (first
      | (go_at_call 108; (with_reducible refine (K1.out _).mono ?_); rintro e wK1 ⟨rfl, hbK1⟩; have iK1 : Tab wK1 := tab_step hbK1; have hSK1 := opOwn_call hbK1 (by assumption))
      | (go_at_call 108; (with_reducible refine (K2.out _).mono ?_); rintro e wK2 ⟨rfl, hbK2⟩; have iK2 : Tab wK2 := tab_step hbK2; have hSK2 := opOwn_call hbK2 (by assumption))
      | (go_at_call 108; (with_reducible refine (K4.out _).mono ?_); rintro e wK4 ⟨rfl, hbK4⟩; have iK4 : Tab wK4 := tab_step hbK4; have hSK4 := opOwn_call hbK4 (by assumption))
      | (go_at_call 109; (with_reducible refine (K8.out _).mono ?_); rintro e wK8 ⟨rfl, hbK8⟩; have iK8 : Tab wK8 := tab_step hbK8; have hSK8 := opOwn_call hbK8 (by assumption))
      | (go_at_call 109; (with_reducible refine (K16.out _).mono ?_); rintro e wK16 ⟨rfl, hbK16⟩; have iK16 : Tab wK16 := tab_step hbK16; have hSK16 := opOwn_call hbK16 (by assumption))
      | (go_at_call 110; (with_reducible refine (K32.out _).mono ?_); rintro e wK32 ⟨rfl, hbK32⟩; have iK32 : Tab wK32 := tab_step hbK32; have hSK32 := opOwn_call hbK32 (by assumption))
      | (go_at_call 109; (with_reducible refine (K64.out _).mono ?_); rintro e wK64 ⟨rfl, hbK64⟩; have iK64 : Tab wK64 := tab_step hbK64; have hSK64 := opOwn_call hbK64 (by assumption)))
  have ht := hSK64.2.1
  have hB := hSK64.1.below
  have hr := World.rangeAt_setCells_same wK64 (w.heap.size + 1) 0 (opA ({ st := o.st, sr := o.sr, k := o.k, pt := p.pt, pr := p.pr, it := p.it, ir := p.ir, tt := p.tt, tr := p.tr, name := p.name, new := p.new, off := p.off, data := p.data } : Opn)).toList ht
  have hB8 := below_setCells (show w.heap.size ≤ w.heap.size + 1 by omega) (opA ({ st := o.st, sr := o.sr, k := o.k, pt := p.pt, pr := p.pr, it := p.it, ir := p.ir, tt := p.tt, tr := p.tr, name := p.name, new := p.new, off := p.off, data := p.data } : Opn)).toList 0 _ hB
  generalize wK64.setCells (w.heap.size + 1) 0 (opA ({ st := o.st, sr := o.sr, k := o.k, pt := p.pt, pr := p.pr, it := p.it, ir := p.ir, tt := p.tt, tr := p.tr, name := p.name, new := p.new, off := p.off, data := p.data } : Opn)).toList = W9 at hr hB8 ⊢
  have Z0 : W9.cell? ⟨w.heap.size + 1, 0, none⟩ = some (.int .i64 o.st) := hr 0 _ rfl
  have Z1 : W9.cell? ⟨w.heap.size + 1, 1, none⟩ = some (.int .i64 o.sr) := hr 1 _ rfl
  have Z2 : W9.cell? ⟨w.heap.size + 1, 2, none⟩ = some (.int .i64 o.k) := hr 2 _ rfl
  have Z3 : W9.cell? ⟨w.heap.size + 1, 3, none⟩ = some (.int .i64 p.pt) := hr 3 _ rfl
  have Z4 : W9.cell? ⟨w.heap.size + 1, 4, none⟩ = some (.int .i64 p.pr) := hr 4 _ rfl
  have Z5 : W9.cell? ⟨w.heap.size + 1, 5, none⟩ = some (.int .i64 p.it) := hr 5 _ rfl
  have Z6 : W9.cell? ⟨w.heap.size + 1, 6, none⟩ = some (.int .i64 p.ir) := hr 6 _ rfl
  have Z7 : W9.cell? ⟨w.heap.size + 1, 7, none⟩ = some (.int .i64 p.tt) := hr 7 _ rfl
  have Z8 : W9.cell? ⟨w.heap.size + 1, 8, none⟩ = some (.int .i64 p.tr) := hr 8 _ rfl
  have Z9 : W9.cell? ⟨w.heap.size + 1, 9, none⟩ = some (.string p.name) := hr 9 _ rfl
  have Z10 : W9.cell? ⟨w.heap.size + 1, 10, none⟩ = some (.string p.new) := hr 10 _ rfl
  have Z11 : W9.cell? ⟨w.heap.size + 1, 11, none⟩ = some (.int .i64 p.off) := hr 11 _ rfl
  have Z12 : W9.cell? ⟨w.heap.size + 1, 12, none⟩ = some (.string p.data) := hr 12 _ rfl
  clear hr ht hB
  have HB8 := Lib.hid hB8
  clear hB8
  go_wp2_with fail
  refine bodyPost_ret (v := .agg (opA p)) ?_ rfl ⟨rfl, HB8.out⟩
  simp [results, Tryz.results80, go_sem, Z0, Z1, Z2, Z3, Z4, Z5, Z6, Z7, Z8, Z9, Z10, Z11, Z12]
  unfold opA
  rw [e1, e2, e3]

theorem own_any (o : Opn) (w : World) [Tab w] :
    Calls Tryz.prog 80 #[.agg #[.int .i64 o.st, .int .i64 o.sr, .int .i64 o.k, .int .i64 o.pt, .int .i64 o.pr, .int .i64 o.it, .int .i64 o.ir, .int .i64 o.tt, .int .i64 o.tr, .string o.name, .string o.new, .int .i64 o.off, .string o.data]] w fun e w' => e = .returned (.agg (opA (ownO o))) ∧ Below w.heap.size w w' :=
  own_core o (ownO o) rfl rfl rfl w
    (fun W _ => keptStamp _ _ _ _ (hasF o.k 1) (fun W _ => has_any o.k 1 (by omega) W) W)
    (fun W _ => keptStamp _ _ _ _ (hasF o.k 2) (fun W _ => has_any o.k 2 (by omega) W) W)
    (fun W _ => keptStamp _ _ _ _ (hasF o.k 4) (fun W _ => has_any o.k 4 (by omega) W) W)
    (fun W _ => keptText _ _ _ (hasF o.k 8) (fun W _ => has_any o.k 8 (by omega) W) W)
    (fun W _ => keptText _ _ _ (hasF o.k 16) (fun W _ => has_any o.k 16 (by omega) W) W)
    (fun W _ => keptInt _ _ _ (hasF o.k 32) (fun W _ => has_any o.k 32 (by omega) W) W)
    (fun W _ => keptText _ _ _ (hasF o.k 64) (fun W _ => has_any o.k 64 (by omega) W) W)

end Go.Proofs.YtbkijfhfjhpebaaGreatDoor

/-
  Two operations held against each other, as the walk meets it.
-/
namespace Go.Proofs.YtbkijfhfjhpebaaGreatDoor
open Go.RowKit OpMath

theorem bytes_ext {a b : ByteArray} (h : a.toList = b.toList) : a = b := by
  rw [ByteArray.toList_eq, ByteArray.toList_eq] at h
  apply ByteArray.ext
  exact Array.toList_inj.1 h

theorem opn_ext {a b : Opn} (h1 : a.st = b.st) (h2 : a.sr = b.sr) (h3 : a.k = b.k) (h4 : a.pt = b.pt) (h5 : a.pr = b.pr) (h6 : a.it = b.it) (h7 : a.ir = b.ir) (h8 : a.tt = b.tt) (h9 : a.tr = b.tr)
    (h10 : a.name.toList = b.name.toList) (h11 : a.new.toList = b.new.toList) (h12 : a.off = b.off) (h13 : a.data.toList = b.data.toList) : a = b := by
  have e1 := bytes_ext h10
  have e2 := bytes_ext h11
  have e3 := bytes_ext h13
  cases a
  cases b
  simp_all

theorem run_eqO (a b : Opn) (W : World) : (Op.equalIn 10000 56 (.agg (opA a)) (.agg (opA b))).run Tryz.prog W = .ok (decide (a = b)) W := by
  unfold opA
  go_simp
  by_cases e : a = b
  · subst e
    simp
  · rw [decide_eq_false e]
    by_cases h1 : a.st = b.st
    · rw [if_pos h1]
      by_cases h2 : a.sr = b.sr
      · rw [if_pos h2]
        by_cases h3 : a.k = b.k
        · rw [if_pos h3]
          by_cases h4 : a.pt = b.pt
          · rw [if_pos h4]
            by_cases h5 : a.pr = b.pr
            · rw [if_pos h5]
              by_cases h6 : a.it = b.it
              · rw [if_pos h6]
                by_cases h7 : a.ir = b.ir
                · rw [if_pos h7]
                  by_cases h8 : a.tt = b.tt
                  · rw [if_pos h8]
                    by_cases h9 : a.tr = b.tr
                    · rw [if_pos h9]
                      by_cases h10 : a.name.toList = b.name.toList
                      · rw [if_pos h10]
                        by_cases h11 : a.new.toList = b.new.toList
                        · rw [if_pos h11]
                          by_cases h12 : a.off = b.off
                          · rw [if_pos h12]
                            rw [if_neg fun h13 => e (opn_ext h1 h2 h3 h4 h5 h6 h7 h8 h9 h10 h11 h12 h13)]
                          · rw [if_neg h12]
                        · rw [if_neg h11]
                      · rw [if_neg h10]
                    · rw [if_neg h9]
                  · rw [if_neg h8]
                · rw [if_neg h7]
              · rw [if_neg h6]
            · rw [if_neg h5]
          · rw [if_neg h4]
        · rw [if_neg h3]
      · rw [if_neg h2]
    · rw [if_neg h1]

end Go.Proofs.YtbkijfhfjhpebaaGreatDoor

/-
  The walk of op's May.
-/
namespace Go.Proofs.YtbkijfhfjhpebaaGreatDoor
open Go.RowKit OpMath StampMath PackMath

set_option maxRecDepth 100000 in
set_option maxHeartbeats 3200000 in
theorem mayCode (o p : Opn) (same ms mn mr r : Bool) (hr : r = (decide (1 ≤ o.k) && decide (o.k ≤ 10) && same && ms && mn && mr))
    (EQ : Hid (∀ W : World, (Op.equalIn 10000 56 (.agg #[.int .i64 o.st, .int .i64 o.sr, .int .i64 o.k, .int .i64 o.pt, .int .i64 o.pr, .int .i64 o.it, .int .i64 o.ir, .int .i64 o.tt, .int .i64 o.tr, .string o.name, .string o.new, .int .i64 o.off, .string o.data]) (.agg #[.int .i64 p.st, .int .i64 p.sr, .int .i64 p.k, .int .i64 p.pt, .int .i64 p.pr, .int .i64 p.it, .int .i64 p.ir, .int .i64 p.tt, .int .i64 p.tr, .string p.name, .string p.new, .int .i64 p.off, .string p.data])).run Tryz.prog W = .ok same W))
    (OW : Hid (∀ (W : World) [Tab W], Calls Tryz.prog 80 #[.agg #[.int .i64 o.st, .int .i64 o.sr, .int .i64 o.k, .int .i64 o.pt, .int .i64 o.pr, .int .i64 o.it, .int .i64 o.ir, .int .i64 o.tt, .int .i64 o.tr, .string o.name, .string o.new, .int .i64 o.off, .string o.data]] W fun e w' => e = .returned (.agg #[.int .i64 p.st, .int .i64 p.sr, .int .i64 p.k, .int .i64 p.pt, .int .i64 p.pr, .int .i64 p.it, .int .i64 p.ir, .int .i64 p.tt, .int .i64 p.tr, .string p.name, .string p.new, .int .i64 p.off, .string p.data]) ∧ Below W.heap.size W w'))
    (MS : Hid (∀ (W : World) [Tab W], Calls Tryz.prog 81 #[.agg #[.int .i64 o.st, .int .i64 o.sr, .int .i64 o.k, .int .i64 o.pt, .int .i64 o.pr, .int .i64 o.it, .int .i64 o.ir, .int .i64 o.tt, .int .i64 o.tr, .string o.name, .string o.new, .int .i64 o.off, .string o.data]] W fun e w' => e = .returned (.bool ms) ∧ Below W.heap.size W w'))
    (MN : Hid (∀ (W : World) [Tab W], Calls Tryz.prog 82 #[.agg #[.int .i64 o.st, .int .i64 o.sr, .int .i64 o.k, .int .i64 o.pt, .int .i64 o.pr, .int .i64 o.it, .int .i64 o.ir, .int .i64 o.tt, .int .i64 o.tr, .string o.name, .string o.new, .int .i64 o.off, .string o.data]] W fun e w' => e = .returned (.bool mn) ∧ Below W.heap.size W w'))
    (MR : Hid (∀ (W : World) [Tab W], Calls Tryz.prog 83 #[.agg #[.int .i64 o.st, .int .i64 o.sr, .int .i64 o.k, .int .i64 o.pt, .int .i64 o.pr, .int .i64 o.it, .int .i64 o.ir, .int .i64 o.tt, .int .i64 o.tr, .string o.name, .string o.new, .int .i64 o.off, .string o.data]] W fun e w' => e = .returned (.bool mr) ∧ Below W.heap.size W w')) (w : World) [Tab w] :
    Calls Tryz.prog 58 #[.agg #[.int .i64 o.st, .int .i64 o.sr, .int .i64 o.k, .int .i64 o.pt, .int .i64 o.pr, .int .i64 o.it, .int .i64 o.ir, .int .i64 o.tt, .int .i64 o.tr, .string o.name, .string o.new, .int .i64 o.off, .string o.data]] w fun e w' => e = .returned (.bool r) ∧ Below w.heap.size w w' := by
  have HR := Lib.hid hr
  clear hr
  have E := EQ.out
  by_cases k1 : 1 ≤ o.k
  · have K1 := Lib.hid (show decide (1 ≤ o.k) = true by simpa using k1)
    by_cases k2 : o.k ≤ 10
    · have K2 := Lib.hid (show decide (o.k ≤ 10) = true by simpa using k2)
      go_enter Tryz.func58, Tryz.ntmps58
      have hh0 : (w.alloc (.cells (opA o) 56)).heap[w.heap.size]? = some (.cells (opA o) 56 (0, 0)) := heap_alloc_new w _
      have hB0 : Below w.heap.size w (w.alloc (.cells (opA o) 56)) := (Below.refl _ _).alloc (Nat.le_refl _) _
      go_upto_region 2 with fail
      have iw0 : Tab (w.alloc (.cells (opA o) 56)) := inferInstance
      change Code.wp _ _ _ _ (w.alloc (.cells (opA o) 56))
      generalize w.alloc (.cells (opA o) 56) = w0 at hh0 hB0 iw0 ⊢
      obtain ⟨l0, l1, l2, l3, l4, l5, l6, l7, l8, l9, l10, l11, l12⟩ := op_cells hh0
      have q0 := later_cell l0
      have q1 := later_cell l1
      have q2 := later_cell l2
      have q3 := later_cell l3
      have q4 := later_cell l4
      have q5 := later_cell l5
      have q6 := later_cell l6
      have q7 := later_cell l7
      have q8 := later_cell l8
      have q9 := later_cell l9
      have q10 := later_cell l10
      have q11 := later_cell l11
      have q12 := later_cell l12
      clear l0 l1 l2 l3 l4 l5 l6 l7 l8 l9 l10 l11 l12 k1 k2
      cases same
      · refine wp_region_later (by kernel_rfl) (by kernel_rfl) ?_
        repeat (go_big_quiet_step (first | (with_reducible exact later_call (OW.out _)) | (with_reducible exact later_call (MS.out _)) | (with_reducible exact later_call (MN.out _)) | (with_reducible exact later_call (MR.out _))))
        refine wpQuiet_nil ?_
        intro _ hw'
        obtain ⟨y1, rfl⟩ := hw'
        go_wp2_with fail
        go_ret
        exact ⟨by rw [HR.out]; simp, below_step hB0 (later_below w0 y1)⟩
      cases ms
      · refine wp_region_later (by kernel_rfl) (by kernel_rfl) ?_
        repeat (go_big_quiet_step (first | (with_reducible exact later_call (OW.out _)) | (with_reducible exact later_call (MS.out _)) | (with_reducible exact later_call (MN.out _)) | (with_reducible exact later_call (MR.out _))))
        refine wpQuiet_nil ?_
        intro _ hw'
        obtain ⟨y1, rfl⟩ := hw'
        go_wp2_with fail
        go_ret
        exact ⟨by rw [HR.out]; simp, below_step hB0 (later_below w0 y1)⟩
      cases mn
      · refine wp_region_later (by kernel_rfl) (by kernel_rfl) ?_
        repeat (go_big_quiet_step (first | (with_reducible exact later_call (OW.out _)) | (with_reducible exact later_call (MS.out _)) | (with_reducible exact later_call (MN.out _)) | (with_reducible exact later_call (MR.out _))))
        refine wpQuiet_nil ?_
        intro _ hw'
        obtain ⟨y1, rfl⟩ := hw'
        go_wp2_with fail
        go_ret
        exact ⟨by rw [HR.out]; simp, below_step hB0 (later_below w0 y1)⟩
      · refine wp_region_later (by kernel_rfl) (by kernel_rfl) ?_
        repeat (go_big_quiet_step (first | (with_reducible exact later_call (OW.out _)) | (with_reducible exact later_call (MS.out _)) | (with_reducible exact later_call (MN.out _)) | (with_reducible exact later_call (MR.out _))))
        refine wpQuiet_nil ?_
        intro _ hw'
        obtain ⟨y1, rfl⟩ := hw'
        go_wp2_with fail
        go_ret
        exact ⟨by rw [HR.out, K1.out, K2.out]; rfl, below_step hB0 (later_below w0 y1)⟩
    · have K2 := Lib.hid (show decide (o.k ≤ 10) = false by simpa using k2)
      have d2 : decide (o.k ≤ 10) = false := by simpa using k2
      clear k2
      go_enter Tryz.func58, Tryz.ntmps58
      have hB0 : Below w.heap.size w (w.alloc (.cells (opA o) 56)) := (Below.refl _ _).alloc (Nat.le_refl _) _
      go_upto_region 2 with fail
      change Code.wp _ _ _ _ (w.alloc (.cells (opA o) 56))
      generalize w.alloc (.cells (opA o) 56) = w0 at hB0 ⊢
      refine wp_region_later (by kernel_rfl) (by kernel_rfl) ?_
      repeat (go_big_quiet_step (first | (with_reducible exact later_call (OW.out _)) | (with_reducible exact later_call (MS.out _)) | (with_reducible exact later_call (MN.out _)) | (with_reducible exact later_call (MR.out _))))
      refine wpQuiet_nil ?_
      intro _ hw'
      obtain ⟨y1, rfl⟩ := hw'
      go_wp2_with fail
      go_ret
      exact ⟨by rw [HR.out, K2.out]; simp, below_step hB0 (later_below w0 y1)⟩
  · have K1 := Lib.hid (show decide (1 ≤ o.k) = false by simpa using k1)
    have d1 : decide (1 ≤ o.k) = false := by simpa using k1
    clear k1
    go_enter Tryz.func58, Tryz.ntmps58
    have hB0 : Below w.heap.size w (w.alloc (.cells (opA o) 56)) := (Below.refl _ _).alloc (Nat.le_refl _) _
    go_upto_region 2 with fail
    change Code.wp _ _ _ _ (w.alloc (.cells (opA o) 56))
    generalize w.alloc (.cells (opA o) 56) = w0 at hB0 ⊢
    refine wp_region_later (by kernel_rfl) (by kernel_rfl) ?_
    repeat (go_big_quiet_step (first | (with_reducible exact later_call (OW.out _)) | (with_reducible exact later_call (MS.out _)) | (with_reducible exact later_call (MN.out _)) | (with_reducible exact later_call (MR.out _))))
    refine wpQuiet_nil ?_
    intro _ hw'
    obtain ⟨y1, rfl⟩ := hw'
    go_wp2_with fail
    go_ret
    exact ⟨by rw [HR.out, K1.out]; simp, below_step hB0 (later_below w0 y1)⟩

theorem stamps_zero (o : Opn) (h : o.st = 0) : mayB o.st o.sr = (o.sr == 0) := by
  unfold mayB
  rw [if_pos h]

/-- The code's question is the document's. -/
theorem may_same (o : Opn) : (decide (1 ≤ o.k) && decide (o.k ≤ 10) && decide (o = ownO o) && (!(o.st == 0) && mayB o.st o.sr && mayB o.pt o.pr && mayB o.it o.ir && mayB o.tt o.tr) && namesB o && restB o) = mayO o := by
  by_cases h1 : 1 ≤ o.k
  · by_cases h2 : o.k ≤ 10
    · rw [own_bare o h1 h2]
      by_cases h3 : o = bareO o
      · have e3 : decide (o = bareO o) = true := decide_eq_true h3
        have e3' : decide (bareO o = o) = true := decide_eq_true h3.symm
        have f8 : hasF o.k 8 = decide (o.k ≤ 7) := by unfold hasF; rw [if_neg (by decide), if_neg (by decide), if_neg (by decide), if_pos rfl, decide_eq_decide]; omega
        have f16 : hasF o.k 16 = decide (o.k = 7) := by unfold hasF; rw [if_neg (by decide), if_neg (by decide), if_neg (by decide), if_neg (by decide), if_pos rfl]
        have hz : nameB ⟨#[]⟩ = false := by
          unfold nameB
          rfl
        have hN : (nameB o.name == hasF o.k 8) = (decide (7 < o.k) || nameB o.name) := by
          rw [f8]
          by_cases h7 : o.k ≤ 7
          · rw [decide_eq_true h7, decide_eq_false (by omega)]
            cases nameB o.name <;> rfl
          · have e := congrArg Opn.name h3
            simp only [bareO] at e
            rw [if_neg h7] at e
            rw [decide_eq_false h7, decide_eq_true (by omega), e, hz]
            rfl
        have hM : (nameB o.new == hasF o.k 16) = (!(o.k == 7) || nameB o.new) := by
          rw [f16]
          by_cases h7 : o.k = 7
          · rw [decide_eq_true h7, show (o.k == 7) = true by simpa using h7]
            cases nameB o.new <;> rfl
          · have e := congrArg Opn.new h3
            simp only [bareO] at e
            rw [if_neg h7] at e
            rw [decide_eq_false h7, show (o.k == 7) = false by simpa using h7, e, hz]
            rfl
        have hD : restB o = dataB o := by
          unfold restB dataB
          by_cases g3 : o.k = 3
          · rw [if_pos g3, if_pos g3]
          · rw [if_neg g3, if_neg g3]
            by_cases g8 : o.k = 8
            · rw [if_pos g8, if_pos g8]
              have es : (o.data.toList == []) = decide (o.data.size = 0) := by
                rw [ByteArray.toList_eq]
                have e2 : o.data.data.toList.length = o.data.size := by simp
                cases hl : o.data.data.toList with
                | nil => rw [hl] at e2; rw [decide_eq_true (by simpa using e2.symm)]; rfl
                | cons a l => rw [hl, List.length_cons] at e2; rw [decide_eq_false (by omega)]; rfl
              rw [es]
              by_cases t0 : 0 ≤ o.off
              · by_cases t1 : o.off ≤ 64 - (o.data.size : Int)
                · rw [decide_eq_true t0, decide_eq_true t1, show decide (o.data.size ≤ 64) = true from decide_eq_true (by omega)]
                  by_cases t2 : o.data.size = 0
                  · rw [decide_eq_true t2, decide_eq_false (show ¬ 1 ≤ o.data.size by omega)]; rfl
                  · rw [decide_eq_false t2, decide_eq_true (show 1 ≤ o.data.size by omega)]; rfl
                · rw [decide_eq_false t1]; simp
              · rw [decide_eq_false t0]; simp
            · rw [if_neg g8, if_neg g8]
        unfold namesB mayO
        rw [e3, e3', hN, hM, hD]
        cases decide (1 ≤ o.k) <;> cases decide (o.k ≤ 10) <;> cases o.st == 0 <;> cases mayB o.st o.sr <;> cases mayB o.pt o.pr <;> cases mayB o.it o.ir <;> cases mayB o.tt o.tr <;> cases (decide (7 < o.k) || nameB o.name) <;> cases (!(o.k == 7) || nameB o.new) <;> cases dataB o <;> rfl
      · have e3 : decide (o = bareO o) = false := decide_eq_false h3
        have e3' : decide (bareO o = o) = false := decide_eq_false fun h => h3 h.symm
        unfold mayO
        rw [e3, e3']
        simp
    · unfold mayO
      rw [decide_eq_false h2]
      simp
  · unfold mayO
    rw [decide_eq_false h1]
    simp

theorem opMay_any (o : Opn) (w : World) [Tab w] (ok : Ok64 o) (hn : o.name.size ≤ maxLen) (hm : o.new.size ≤ maxLen) (hd : o.data.size ≤ maxLen) :
    Calls Tryz.prog 58 #[.agg #[.int .i64 o.st, .int .i64 o.sr, .int .i64 o.k, .int .i64 o.pt, .int .i64 o.pr, .int .i64 o.it, .int .i64 o.ir, .int .i64 o.tt, .int .i64 o.tr, .string o.name, .string o.new, .int .i64 o.off, .string o.data]] w fun e w' => e = .returned (.bool (mayO o)) ∧ Below w.heap.size w w' :=
  mayCode o (ownO o) (decide (o = ownO o)) (!(o.st == 0) && mayB o.st o.sr && mayB o.pt o.pr && mayB o.it o.ir && mayB o.tt o.tr) (namesB o) (restB o) (mayO o) (may_same o).symm
    (fun W => run_eqO o (ownO o) W) (fun W _ => own_any o W)
    (fun W _ => mayStamps_core o _ _ _ _ (stamps_zero o) (fun W => may_any _ _ W) (fun W => may_any _ _ W) (fun W => may_any _ _ W) (fun W => may_any _ _ W) W)
    (fun W _ => mayNames_any o hn hm W) (fun W _ => mayRest_any o hd ok.off W) w

end Go.Proofs.YtbkijfhfjhpebaaGreatDoor
