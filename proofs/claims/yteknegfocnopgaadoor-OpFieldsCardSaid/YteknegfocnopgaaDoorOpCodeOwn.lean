/-
  The walk of op's own.
-/
import Derived.Test.YteknegfocnopgaaDoorOpCodeA
import Derived.Test.YteknegfocnopgaaDoorOpRefTake
import Derived.Deep.RegionHeld3
namespace Go.Proofs.YteknegfocnopgaaDoor
open Go.RowKit OpMath

/-- An operation with its kind's fields alone, as the code says it. -/
def ownO (o : Opn) : Opn where
  st := o.st
  sr := o.sr
  k := o.k
  pt := if hasF o.k 1 then o.pt else 0
  pr := if hasF o.k 1 then o.pr else 0
  it := if hasF o.k 2 then o.it else 0
  ir := if hasF o.k 2 then o.ir else 0
  tt := if hasF o.k 4 then o.tt else 0
  tr := if hasF o.k 4 then o.tr else 0
  name := if hasF o.k 8 then o.name else ⟨#[]⟩
  new := if hasF o.k 16 then o.new else ⟨#[]⟩
  off := if hasF o.k 32 then o.off else 0
  data := if hasF o.k 64 then o.data else ⟨#[]⟩

theorem own_bare (o : Opn) (h1 : 1 ≤ o.k) (h2 : o.k ≤ 10) : ownO o = bareO o := by
  have e1 : hasF o.k 1 = decide (o.k ≤ 7) := by unfold hasF; rw [if_pos rfl, decide_eq_decide]; omega
  have e2 : hasF o.k 2 = decide (4 ≤ o.k) := by unfold hasF; rw [if_neg (by decide), if_pos rfl, decide_eq_decide]; omega
  have e4 : hasF o.k 4 = decide (o.k = 7) := by unfold hasF; rw [if_neg (by decide), if_neg (by decide), if_pos rfl]
  have e8 : hasF o.k 8 = decide (o.k ≤ 7) := by unfold hasF; rw [if_neg (by decide), if_neg (by decide), if_neg (by decide), if_pos rfl, decide_eq_decide]; omega
  have e16 : hasF o.k 16 = decide (o.k = 7) := by unfold hasF; rw [if_neg (by decide), if_neg (by decide), if_neg (by decide), if_neg (by decide), if_pos rfl]
  have e32 : hasF o.k 32 = decide (8 ≤ o.k) := by unfold hasF; rw [if_neg (by decide), if_neg (by decide), if_neg (by decide), if_neg (by decide), if_neg (by decide), if_pos rfl, decide_eq_decide]; omega
  have e64 : hasF o.k 64 = decide (o.k = 3 ∨ o.k = 8) := by unfold hasF; rw [if_neg (by decide), if_neg (by decide), if_neg (by decide), if_neg (by decide), if_neg (by decide), if_neg (by decide)]
  unfold ownO bareO
  rw [e1, e2, e4, e8, e16, e32, e64]
  simp only [decide_eq_true_eq]

theorem there_below {W W' : World} {b o n : Nat} (hb : Below W.heap.size W W') (h : W.there b o n) : W'.there b o n := fun j hj => by
  obtain ⟨h1, h2⟩ := h j hj
  obtain ⟨v, hv⟩ := Option.isSome_iff_exists.1 h1
  have hl := World.block_lt_of_cell? _ _ hv
  exact ⟨by rw [hb.cell (p := ⟨b, o + j, none⟩) hl, hv]; rfl, (hb.frozen (p := ⟨b, o + j, none⟩) hl).trans h2⟩

theorem own_call {w W W' : World} {o : Opn} {T : TypeId} (hb : Below W.heap.size W W') (h : Held w [(w.heap.size, (.cells (opA o) T (0, 0)))] W ∧ W.there (w.heap.size + 1) 0 13 ∧ W.cell? ⟨w.heap.size, 0, none⟩ = some (.int .i64 o.st) ∧ W.cell? ⟨w.heap.size, 1, none⟩ = some (.int .i64 o.sr) ∧ W.cell? ⟨w.heap.size, 2, none⟩ = some (.int .i64 o.k) ∧ W.cell? ⟨w.heap.size, 3, none⟩ = some (.int .i64 o.pt) ∧ W.cell? ⟨w.heap.size, 4, none⟩ = some (.int .i64 o.pr) ∧ W.cell? ⟨w.heap.size, 5, none⟩ = some (.int .i64 o.it) ∧ W.cell? ⟨w.heap.size, 6, none⟩ = some (.int .i64 o.ir) ∧ W.cell? ⟨w.heap.size, 7, none⟩ = some (.int .i64 o.tt) ∧ W.cell? ⟨w.heap.size, 8, none⟩ = some (.int .i64 o.tr) ∧ W.cell? ⟨w.heap.size, 9, none⟩ = some (.string o.name) ∧ W.cell? ⟨w.heap.size, 10, none⟩ = some (.string o.new) ∧ W.cell? ⟨w.heap.size, 11, none⟩ = some (.int .i64 o.off) ∧ W.cell? ⟨w.heap.size, 12, none⟩ = some (.string o.data)) : Held w [(w.heap.size, (.cells (opA o) T (0, 0)))] W' ∧ W'.there (w.heap.size + 1) 0 13 ∧ W'.cell? ⟨w.heap.size, 0, none⟩ = some (.int .i64 o.st) ∧ W'.cell? ⟨w.heap.size, 1, none⟩ = some (.int .i64 o.sr) ∧ W'.cell? ⟨w.heap.size, 2, none⟩ = some (.int .i64 o.k) ∧ W'.cell? ⟨w.heap.size, 3, none⟩ = some (.int .i64 o.pt) ∧ W'.cell? ⟨w.heap.size, 4, none⟩ = some (.int .i64 o.pr) ∧ W'.cell? ⟨w.heap.size, 5, none⟩ = some (.int .i64 o.it) ∧ W'.cell? ⟨w.heap.size, 6, none⟩ = some (.int .i64 o.ir) ∧ W'.cell? ⟨w.heap.size, 7, none⟩ = some (.int .i64 o.tt) ∧ W'.cell? ⟨w.heap.size, 8, none⟩ = some (.int .i64 o.tr) ∧ W'.cell? ⟨w.heap.size, 9, none⟩ = some (.string o.name) ∧ W'.cell? ⟨w.heap.size, 10, none⟩ = some (.string o.new) ∧ W'.cell? ⟨w.heap.size, 11, none⟩ = some (.int .i64 o.off) ∧ W'.cell? ⟨w.heap.size, 12, none⟩ = some (.string o.data) :=
  ⟨h.1.step hb, there_below hb h.2.1, op_cells ((h.1.step hb).at 0 rfl)⟩

theorem own_drew {w W : World} {o : Opn} {T : TypeId} (h : Held w [(w.heap.size, (.cells (opA o) T (0, 0)))] W ∧ W.there (w.heap.size + 1) 0 13 ∧ W.cell? ⟨w.heap.size, 0, none⟩ = some (.int .i64 o.st) ∧ W.cell? ⟨w.heap.size, 1, none⟩ = some (.int .i64 o.sr) ∧ W.cell? ⟨w.heap.size, 2, none⟩ = some (.int .i64 o.k) ∧ W.cell? ⟨w.heap.size, 3, none⟩ = some (.int .i64 o.pt) ∧ W.cell? ⟨w.heap.size, 4, none⟩ = some (.int .i64 o.pr) ∧ W.cell? ⟨w.heap.size, 5, none⟩ = some (.int .i64 o.it) ∧ W.cell? ⟨w.heap.size, 6, none⟩ = some (.int .i64 o.ir) ∧ W.cell? ⟨w.heap.size, 7, none⟩ = some (.int .i64 o.tt) ∧ W.cell? ⟨w.heap.size, 8, none⟩ = some (.int .i64 o.tr) ∧ W.cell? ⟨w.heap.size, 9, none⟩ = some (.string o.name) ∧ W.cell? ⟨w.heap.size, 10, none⟩ = some (.string o.new) ∧ W.cell? ⟨w.heap.size, 11, none⟩ = some (.int .i64 o.off) ∧ W.cell? ⟨w.heap.size, 12, none⟩ = some (.string o.data)) : Held w [(w.heap.size, (.cells (opA o) T (0, 0)))] W.drew ∧ W.drew.there (w.heap.size + 1) 0 13 ∧ W.drew.cell? ⟨w.heap.size, 0, none⟩ = some (.int .i64 o.st) ∧ W.drew.cell? ⟨w.heap.size, 1, none⟩ = some (.int .i64 o.sr) ∧ W.drew.cell? ⟨w.heap.size, 2, none⟩ = some (.int .i64 o.k) ∧ W.drew.cell? ⟨w.heap.size, 3, none⟩ = some (.int .i64 o.pt) ∧ W.drew.cell? ⟨w.heap.size, 4, none⟩ = some (.int .i64 o.pr) ∧ W.drew.cell? ⟨w.heap.size, 5, none⟩ = some (.int .i64 o.it) ∧ W.drew.cell? ⟨w.heap.size, 6, none⟩ = some (.int .i64 o.ir) ∧ W.drew.cell? ⟨w.heap.size, 7, none⟩ = some (.int .i64 o.tt) ∧ W.drew.cell? ⟨w.heap.size, 8, none⟩ = some (.int .i64 o.tr) ∧ W.drew.cell? ⟨w.heap.size, 9, none⟩ = some (.string o.name) ∧ W.drew.cell? ⟨w.heap.size, 10, none⟩ = some (.string o.new) ∧ W.drew.cell? ⟨w.heap.size, 11, none⟩ = some (.int .i64 o.off) ∧ W.drew.cell? ⟨w.heap.size, 12, none⟩ = some (.string o.data) :=
  ⟨h.1.drew, (World.there_drew W _ _ _).2 h.2.1, op_cells (h.1.drew.at 0 rfl)⟩

theorem heap_setCells_old {g k : Nat} : ∀ {W : World} (vs : List Value) (o : Nat), k ≠ g → (W.setCells g o vs).heap[k]? = W.heap[k]?
  | _, [], _, _ => rfl
  | W, v :: vs, o, h => by
    rw [World.setCells, heap_setCells_old vs (o + 1) h]
    exact heap_setCell_other _ _ _ _ h

theorem held_setCells {w W : World} {g : Nat} {ob : Obj} (h : Held w [(w.heap.size, ob)] W) (hg : w.heap.size < g) (vs : List Value) : Held w [(w.heap.size, ob)] (W.setCells g 0 vs) :=
  ⟨fun p hp => by
    have e := List.mem_singleton.1 hp
    subst e
    exact (heap_setCells_old vs 0 (by show w.heap.size ≠ g; omega)).trans (h.at 0 rfl), below_setCells (Nat.le_of_lt hg) vs 0 W h.2⟩

theorem own_store {w W : World} {o : Opn} {T : TypeId} (vs : List Value) (h : Held w [(w.heap.size, (.cells (opA o) T (0, 0)))] W ∧ W.there (w.heap.size + 1) 0 13 ∧ W.cell? ⟨w.heap.size, 0, none⟩ = some (.int .i64 o.st) ∧ W.cell? ⟨w.heap.size, 1, none⟩ = some (.int .i64 o.sr) ∧ W.cell? ⟨w.heap.size, 2, none⟩ = some (.int .i64 o.k) ∧ W.cell? ⟨w.heap.size, 3, none⟩ = some (.int .i64 o.pt) ∧ W.cell? ⟨w.heap.size, 4, none⟩ = some (.int .i64 o.pr) ∧ W.cell? ⟨w.heap.size, 5, none⟩ = some (.int .i64 o.it) ∧ W.cell? ⟨w.heap.size, 6, none⟩ = some (.int .i64 o.ir) ∧ W.cell? ⟨w.heap.size, 7, none⟩ = some (.int .i64 o.tt) ∧ W.cell? ⟨w.heap.size, 8, none⟩ = some (.int .i64 o.tr) ∧ W.cell? ⟨w.heap.size, 9, none⟩ = some (.string o.name) ∧ W.cell? ⟨w.heap.size, 10, none⟩ = some (.string o.new) ∧ W.cell? ⟨w.heap.size, 11, none⟩ = some (.int .i64 o.off) ∧ W.cell? ⟨w.heap.size, 12, none⟩ = some (.string o.data)) : Held w [(w.heap.size, (.cells (opA o) T (0, 0)))] (W.setCells (w.heap.size + 1) 0 vs) ∧ (W.setCells (w.heap.size + 1) 0 vs).there (w.heap.size + 1) 0 13 ∧ (W.setCells (w.heap.size + 1) 0 vs).cell? ⟨w.heap.size, 0, none⟩ = some (.int .i64 o.st) ∧ (W.setCells (w.heap.size + 1) 0 vs).cell? ⟨w.heap.size, 1, none⟩ = some (.int .i64 o.sr) ∧ (W.setCells (w.heap.size + 1) 0 vs).cell? ⟨w.heap.size, 2, none⟩ = some (.int .i64 o.k) ∧ (W.setCells (w.heap.size + 1) 0 vs).cell? ⟨w.heap.size, 3, none⟩ = some (.int .i64 o.pt) ∧ (W.setCells (w.heap.size + 1) 0 vs).cell? ⟨w.heap.size, 4, none⟩ = some (.int .i64 o.pr) ∧ (W.setCells (w.heap.size + 1) 0 vs).cell? ⟨w.heap.size, 5, none⟩ = some (.int .i64 o.it) ∧ (W.setCells (w.heap.size + 1) 0 vs).cell? ⟨w.heap.size, 6, none⟩ = some (.int .i64 o.ir) ∧ (W.setCells (w.heap.size + 1) 0 vs).cell? ⟨w.heap.size, 7, none⟩ = some (.int .i64 o.tt) ∧ (W.setCells (w.heap.size + 1) 0 vs).cell? ⟨w.heap.size, 8, none⟩ = some (.int .i64 o.tr) ∧ (W.setCells (w.heap.size + 1) 0 vs).cell? ⟨w.heap.size, 9, none⟩ = some (.string o.name) ∧ (W.setCells (w.heap.size + 1) 0 vs).cell? ⟨w.heap.size, 10, none⟩ = some (.string o.new) ∧ (W.setCells (w.heap.size + 1) 0 vs).cell? ⟨w.heap.size, 11, none⟩ = some (.int .i64 o.off) ∧ (W.setCells (w.heap.size + 1) 0 vs).cell? ⟨w.heap.size, 12, none⟩ = some (.string o.data) :=
  ⟨held_setCells h.1 (by omega) vs, World.there_setCells h.2.1 _ _ _, op_cells ((held_setCells h.1 (by omega) vs).at 0 rfl)⟩

/-- A store of a whole row, as an equivalence. -/
theorem store_iff {P : Program} {op : Oper} {a : Act} {w : World} {K : Act → World → Prop} {Q : Exit → Act → World → Prop} (ty : TypeId) (x y : Operand) (ho : op.op = .store ty x y)
    (b o : Nat) (cells : Array Value) (hx : a.eval x = .pointer (some ⟨b, o, none⟩)) (hy : a.eval y = .agg cells)
    (ht : w.there b o cells.size) (hi : (P.info? ty).map (·.size) = some cells.size) (h1 : cells.all (·.oneCell') = true) :
    op.wp P a w K Q ↔ K (a.put op.dst undef) (w.setCells b o cells.toList) := by
  unfold Oper.wp execOp
  simp only [ho, hx, hy, Instr.storeAt, Instr.sureAddr, Sem.run_bind, Sem.run_pure, Result.andThen_ok, run_storeVar_mid w b o ty cells ht hi h1]
  exact Iff.rfl

theorem own_stores (g : Nat) (W : World) (a b c d e f h i j : Int) (n m : ByteArray) (x : Int) (y : ByteArray) (t0 t1 t3 t4 t5 t6 t7 t8 t9 t10 t11 t12 t13 t14 t15 t16 t17 t18 t19 t20 t21 t22 t23 t24 t25 t26 t27 t28 t29 t30 t31 t32 t33 t34 t35 t36 t37 t38 t39 t40 t41 : Value) (ds : List Deferred) (K : Act → World → Prop) (Q : Exit → Act → World → Prop) (ty : TypeId) (pos : String) (af : Array Edge)
    (ht : W.there g 0 13) :
    Oper.wp Tryd.prog { dst := none, op := Op.store 25 (Operand.tmp 2) (Operand.tmp 42), type := ty, pos := pos, after := af, guard := none } ⟨#[t0, t1, .pointer (some ⟨g, 0, none⟩), t3, t4, t5, t6, t7, t8, t9, t10, t11, t12, t13, t14, t15, t16, t17, t18, t19, t20, t21, t22, t23, t24, t25, t26, t27, t28, t29, t30, t31, t32, t33, t34, t35, t36, t37, t38, t39, t40, t41, .agg #[.int .i64 a, .int .i64 b, .int .i64 c, .int .i64 d, .int .i64 e, .int .i64 f, .int .i64 h, .int .i64 i, .int .i64 j, .string n, .string m, .int .i64 x, .string y]], ds⟩ W K Q ↔
      K ⟨#[t0, t1, .pointer (some ⟨g, 0, none⟩), t3, t4, t5, t6, t7, t8, t9, t10, t11, t12, t13, t14, t15, t16, t17, t18, t19, t20, t21, t22, t23, t24, t25, t26, t27, t28, t29, t30, t31, t32, t33, t34, t35, t36, t37, t38, t39, t40, t41, .agg #[.int .i64 a, .int .i64 b, .int .i64 c, .int .i64 d, .int .i64 e, .int .i64 f, .int .i64 h, .int .i64 i, .int .i64 j, .string n, .string m, .int .i64 x, .string y]], ds⟩ (W.setCells g 0 (opA ⟨a, b, c, d, e, f, h, i, j, n, m, x, y⟩).toList) :=
  store_iff 25 (.tmp 2) (.tmp 42) rfl g 0 (opA ⟨a, b, c, d, e, f, h, i, j, n, m, x, y⟩) rfl rfl ht op_info (op_one _)

attribute [local go_sem ↓] own_stores in
set_option maxRecDepth 100000 in
set_option maxHeartbeats 6400000 in
theorem own_core (o p : Opn) (e1 : p.st = o.st) (e2 : p.sr = o.sr) (e3 : p.k = o.k) (w : World) [Tab w]
    (K1 : Hid (∀ (W : World) [Tab W], Calls Tryd.prog 51 #[.int .i64 o.k, .int .i64 1, .agg #[.int .i64 o.pt, .int .i64 o.pr]] W fun e w' => e = .returned (.agg #[.int .i64 p.pt, .int .i64 p.pr]) ∧ Below W.heap.size W w'))
    (K2 : Hid (∀ (W : World) [Tab W], Calls Tryd.prog 51 #[.int .i64 o.k, .int .i64 2, .agg #[.int .i64 o.it, .int .i64 o.ir]] W fun e w' => e = .returned (.agg #[.int .i64 p.it, .int .i64 p.ir]) ∧ Below W.heap.size W w'))
    (K4 : Hid (∀ (W : World) [Tab W], Calls Tryd.prog 51 #[.int .i64 o.k, .int .i64 4, .agg #[.int .i64 o.tt, .int .i64 o.tr]] W fun e w' => e = .returned (.agg #[.int .i64 p.tt, .int .i64 p.tr]) ∧ Below W.heap.size W w'))
    (K8 : Hid (∀ (W : World) [Tab W], Calls Tryd.prog 52 #[.int .i64 o.k, .int .i64 8, .string o.name] W fun e w' => e = .returned (.string p.name) ∧ Below W.heap.size W w'))
    (K16 : Hid (∀ (W : World) [Tab W], Calls Tryd.prog 52 #[.int .i64 o.k, .int .i64 16, .string o.new] W fun e w' => e = .returned (.string p.new) ∧ Below W.heap.size W w'))
    (K32 : Hid (∀ (W : World) [Tab W], Calls Tryd.prog 53 #[.int .i64 o.k, .int .i64 32, .int .i64 o.off] W fun e w' => e = .returned (.int .i64 p.off) ∧ Below W.heap.size W w'))
    (K64 : Hid (∀ (W : World) [Tab W], Calls Tryd.prog 52 #[.int .i64 o.k, .int .i64 64, .string o.data] W fun e w' => e = .returned (.string p.data) ∧ Below W.heap.size W w')) :
    Calls Tryd.prog 31 #[.agg #[.int .i64 o.st, .int .i64 o.sr, .int .i64 o.k, .int .i64 o.pt, .int .i64 o.pr, .int .i64 o.it, .int .i64 o.ir, .int .i64 o.tt, .int .i64 o.tr, .string o.name, .string o.new, .int .i64 o.off, .string o.data]] w fun e w' => e = .returned (.agg (opA p)) ∧ Below w.heap.size w w' := by
  go_enter Tryd.func31, Tryd.ntmps31
  go_wp2_with fail
  have hS0 : Held w [(w.heap.size, (.cells (opA o) 25 (0, 0)))] ((w.alloc (.cells (opA o) 25)).alloc (.cells (opA zO) 25)) ∧ ((w.alloc (.cells (opA o) 25)).alloc (.cells (opA zO) 25)).there (w.heap.size + 1) 0 13 ∧ (((w.alloc (.cells (opA o) 25)).alloc (.cells (opA zO) 25)).cell? ⟨w.heap.size, 0, none⟩ = some (.int .i64 o.st) ∧ ((w.alloc (.cells (opA o) 25)).alloc (.cells (opA zO) 25)).cell? ⟨w.heap.size, 1, none⟩ = some (.int .i64 o.sr) ∧ ((w.alloc (.cells (opA o) 25)).alloc (.cells (opA zO) 25)).cell? ⟨w.heap.size, 2, none⟩ = some (.int .i64 o.k) ∧ ((w.alloc (.cells (opA o) 25)).alloc (.cells (opA zO) 25)).cell? ⟨w.heap.size, 3, none⟩ = some (.int .i64 o.pt) ∧ ((w.alloc (.cells (opA o) 25)).alloc (.cells (opA zO) 25)).cell? ⟨w.heap.size, 4, none⟩ = some (.int .i64 o.pr) ∧ ((w.alloc (.cells (opA o) 25)).alloc (.cells (opA zO) 25)).cell? ⟨w.heap.size, 5, none⟩ = some (.int .i64 o.it) ∧ ((w.alloc (.cells (opA o) 25)).alloc (.cells (opA zO) 25)).cell? ⟨w.heap.size, 6, none⟩ = some (.int .i64 o.ir) ∧ ((w.alloc (.cells (opA o) 25)).alloc (.cells (opA zO) 25)).cell? ⟨w.heap.size, 7, none⟩ = some (.int .i64 o.tt) ∧ ((w.alloc (.cells (opA o) 25)).alloc (.cells (opA zO) 25)).cell? ⟨w.heap.size, 8, none⟩ = some (.int .i64 o.tr) ∧ ((w.alloc (.cells (opA o) 25)).alloc (.cells (opA zO) 25)).cell? ⟨w.heap.size, 9, none⟩ = some (.string o.name) ∧ ((w.alloc (.cells (opA o) 25)).alloc (.cells (opA zO) 25)).cell? ⟨w.heap.size, 10, none⟩ = some (.string o.new) ∧ ((w.alloc (.cells (opA o) 25)).alloc (.cells (opA zO) 25)).cell? ⟨w.heap.size, 11, none⟩ = some (.int .i64 o.off) ∧ ((w.alloc (.cells (opA o) 25)).alloc (.cells (opA zO) 25)).cell? ⟨w.heap.size, 12, none⟩ = some (.string o.data)) := by
    have h1 : Held w [(w.heap.size, (.cells (opA o) 25 (0, 0)))] (w.alloc (.cells (opA o) 25)) := (Held.refl w).alloc (.cells (opA o) 25) rfl
    have h2 := h1.alloc (.cells (opA zO) 25 (0, 0)) (World.size_alloc _ _)
    exact ⟨h2.tail, op_there h2.head, op_cells (h2.at 1 rfl)⟩
  have iw0 : Tab ((w.alloc (.cells (opA o) 25)).alloc (.cells (opA zO) 25)) := inferInstance
  change Code.wp _ _ _ _ ((w.alloc (.cells (opA o) 25)).alloc (.cells (opA zO) 25))
  generalize ((w.alloc (.cells (opA o) 25)).alloc (.cells (opA zO) 25)) = w0 at hS0 iw0 ⊢
  have hS0' := own_drew hS0
  go_region_held3 (fun W => Held w [(w.heap.size, (.cells (opA o) 25 (0, 0)))] W ∧ W.there (w.heap.size + 1) 0 13 ∧ W.cell? ⟨w.heap.size, 0, none⟩ = some (.int .i64 o.st) ∧ W.cell? ⟨w.heap.size, 1, none⟩ = some (.int .i64 o.sr) ∧ W.cell? ⟨w.heap.size, 2, none⟩ = some (.int .i64 o.k) ∧ W.cell? ⟨w.heap.size, 3, none⟩ = some (.int .i64 o.pt) ∧ W.cell? ⟨w.heap.size, 4, none⟩ = some (.int .i64 o.pr) ∧ W.cell? ⟨w.heap.size, 5, none⟩ = some (.int .i64 o.it) ∧ W.cell? ⟨w.heap.size, 6, none⟩ = some (.int .i64 o.ir) ∧ W.cell? ⟨w.heap.size, 7, none⟩ = some (.int .i64 o.tt) ∧ W.cell? ⟨w.heap.size, 8, none⟩ = some (.int .i64 o.tr) ∧ W.cell? ⟨w.heap.size, 9, none⟩ = some (.string o.name) ∧ W.cell? ⟨w.heap.size, 10, none⟩ = some (.string o.new) ∧ W.cell? ⟨w.heap.size, 11, none⟩ = some (.int .i64 o.off) ∧ W.cell? ⟨w.heap.size, 12, none⟩ = some (.string o.data)) (first | (with_reducible assumption) | exact own_store _ (by with_reducible assumption))
    (first
      | (go_at_call 51; (with_reducible refine (K1.out _).mono ?_); rintro e wK1 ⟨rfl, hbK1⟩; have iK1 : Tab wK1 := tab_step hbK1; have hSK1 := own_call hbK1 (by assumption))
      | (go_at_call 51; (with_reducible refine (K2.out _).mono ?_); rintro e wK2 ⟨rfl, hbK2⟩; have iK2 : Tab wK2 := tab_step hbK2; have hSK2 := own_call hbK2 (by assumption))
      | (go_at_call 51; (with_reducible refine (K4.out _).mono ?_); rintro e wK4 ⟨rfl, hbK4⟩; have iK4 : Tab wK4 := tab_step hbK4; have hSK4 := own_call hbK4 (by assumption))
      | (go_at_call 52; (with_reducible refine (K8.out _).mono ?_); rintro e wK8 ⟨rfl, hbK8⟩; have iK8 : Tab wK8 := tab_step hbK8; have hSK8 := own_call hbK8 (by assumption))
      | (go_at_call 52; (with_reducible refine (K16.out _).mono ?_); rintro e wK16 ⟨rfl, hbK16⟩; have iK16 : Tab wK16 := tab_step hbK16; have hSK16 := own_call hbK16 (by assumption))
      | (go_at_call 53; (with_reducible refine (K32.out _).mono ?_); rintro e wK32 ⟨rfl, hbK32⟩; have iK32 : Tab wK32 := tab_step hbK32; have hSK32 := own_call hbK32 (by assumption))
      | (go_at_call 52; (with_reducible refine (K64.out _).mono ?_); rintro e wK64 ⟨rfl, hbK64⟩; have iK64 : Tab wK64 := tab_step hbK64; have hSK64 := own_call hbK64 (by assumption)))
  have ht := hSK64.2.1
  have hB := hSK64.1.below
  have hr := World.rangeAt_setCells_same wK64 (w.heap.size + 1) 0 (opA ({ st := o.st, sr := o.sr, k := o.k, pt := p.pt, pr := p.pr, it := p.it, ir := p.ir, tt := p.tt, tr := p.tr, name := p.name, new := p.new, off := p.off, data := p.data } : Opn)).toList ht
  have hB8 := below_setCells (show w.heap.size ≤ w.heap.size + 1 by omega) (opA ({ st := o.st, sr := o.sr, k := o.k, pt := p.pt, pr := p.pr, it := p.it, ir := p.ir, tt := p.tt, tr := p.tr, name := p.name, new := p.new, off := p.off, data := p.data } : Opn)).toList 0 _ hB
  generalize wK64.setCells (w.heap.size + 1) 0 (opA ({ st := o.st, sr := o.sr, k := o.k, pt := p.pt, pr := p.pr, it := p.it, ir := p.ir, tt := p.tt, tr := p.tr, name := p.name, new := p.new, off := p.off, data := p.data } : Opn)).toList = W9 at hr hB8 ⊢
  have Z0 : W9.cell? ⟨w.heap.size + 1, 0, none⟩ = some (.int .i64 o.st) := hr 0 _ rfl
  have Z1 : W9.cell? ⟨w.heap.size + 1, 1, none⟩ = some (.int .i64 o.sr) := hr 1 _ rfl
  have Z2 : W9.cell? ⟨w.heap.size + 1, 2, none⟩ = some (.int .i64 o.k) := hr 2 _ rfl
  have Z3 : W9.cell? ⟨w.heap.size + 1, 3, none⟩ = some (.int .i64 p.pt) := hr 3 _ rfl
  have Z4 : W9.cell? ⟨w.heap.size + 1, 4, none⟩ = some (.int .i64 p.pr) := hr 4 _ rfl
  have Z5 : W9.cell? ⟨w.heap.size + 1, 5, none⟩ = some (.int .i64 p.it) := hr 5 _ rfl
  have Z6 : W9.cell? ⟨w.heap.size + 1, 6, none⟩ = some (.int .i64 p.ir) := hr 6 _ rfl
  have Z7 : W9.cell? ⟨w.heap.size + 1, 7, none⟩ = some (.int .i64 p.tt) := hr 7 _ rfl
  have Z8 : W9.cell? ⟨w.heap.size + 1, 8, none⟩ = some (.int .i64 p.tr) := hr 8 _ rfl
  have Z9 : W9.cell? ⟨w.heap.size + 1, 9, none⟩ = some (.string p.name) := hr 9 _ rfl
  have Z10 : W9.cell? ⟨w.heap.size + 1, 10, none⟩ = some (.string p.new) := hr 10 _ rfl
  have Z11 : W9.cell? ⟨w.heap.size + 1, 11, none⟩ = some (.int .i64 p.off) := hr 11 _ rfl
  have Z12 : W9.cell? ⟨w.heap.size + 1, 12, none⟩ = some (.string p.data) := hr 12 _ rfl
  clear hr ht hB
  have HB8 := Lib.hid hB8
  clear hB8
  go_wp2_with fail
  refine bodyPost_ret (v := .agg (opA p)) ?_ rfl ⟨rfl, HB8.out⟩
  simp [results, Tryd.results31, go_sem, Z0, Z1, Z2, Z3, Z4, Z5, Z6, Z7, Z8, Z9, Z10, Z11, Z12]
  unfold opA
  rw [e1, e2, e3]

theorem own_any (o : Opn) (w : World) [Tab w] :
    Calls Tryd.prog 31 #[.agg #[.int .i64 o.st, .int .i64 o.sr, .int .i64 o.k, .int .i64 o.pt, .int .i64 o.pr, .int .i64 o.it, .int .i64 o.ir, .int .i64 o.tt, .int .i64 o.tr, .string o.name, .string o.new, .int .i64 o.off, .string o.data]] w fun e w' => e = .returned (.agg (opA (ownO o))) ∧ Below w.heap.size w w' :=
  own_core o (ownO o) rfl rfl rfl w
    (fun W _ => keptStamp _ _ _ _ (hasF o.k 1) (fun W _ => has_any o.k 1 (by omega) W) W)
    (fun W _ => keptStamp _ _ _ _ (hasF o.k 2) (fun W _ => has_any o.k 2 (by omega) W) W)
    (fun W _ => keptStamp _ _ _ _ (hasF o.k 4) (fun W _ => has_any o.k 4 (by omega) W) W)
    (fun W _ => keptText _ _ _ (hasF o.k 8) (fun W _ => has_any o.k 8 (by omega) W) W)
    (fun W _ => keptText _ _ _ (hasF o.k 16) (fun W _ => has_any o.k 16 (by omega) W) W)
    (fun W _ => keptInt _ _ _ (hasF o.k 32) (fun W _ => has_any o.k 32 (by omega) W) W)
    (fun W _ => keptText _ _ _ (hasF o.k 64) (fun W _ => has_any o.k 64 (by omega) W) W)

end Go.Proofs.YteknegfocnopgaaDoor
