/-
  The landed apply: its map of reasons, and Why.
-/
import Derived.Test.YtbkijfhfjhpebaaGreatDoorZ07
import Derived.Test.YtbkijfhfjhpebaaGreatDoorZ07
import Derived.Test.YtbkijfhfjhpebaaGreatDoorZ08
import Derived.Test.YtbkijfhfjhpebaaGreatDoorZ08
import Derived.Test.YtbkijfhfjhpebaaGreatDoorZ01
import Derived.Test.YtbkijfhfjhpebaaGreatDoorZ09
import Derived.Deep.RegionHeld3
import Derived.Deep.RegionWith
import Derived.Test.YtbkijfhfjhpebaaGreatDoorZ02
import Derived.Test.YtbkijfhfjhpebaaGreatDoorZ00
import Derived.Test.YtbkijfhfjhpebaaGreatDoorZ00
import Derived.Test.YtbkijfhfjhpebaaGreatDoorRows
namespace Go.Proofs.YtbkijfhfjhpebaaGreatDoor
open Go.RowKit StampMath GraphMath OpMath PackMath

/-- What tells of each kind why it can't be done. -/
def whyL : List (Int × FuncId) := [(10, 123), (9, 122), (8, 122), (7, 121), (6, 120), (5, 119), (4, 118), (3, 117), (2, 117), (1, 117)]

theorem inShape : KShape Tryz.prog 3 inV := KShape.of_int Tryz.underlying3

theorem but_step {w W W' : World} {b : Nat} (h : Below w.heap.size w W) (hb : w.heap.size ≤ b) (k : But (fun i => i = b) W W') : Below w.heap.size w W' :=
  h.trans (k.below (fun i hi => by omega) h.size)

set_option maxRecDepth 100000 in
set_option maxHeartbeats 1600000 in
theorem reasons_code (w : World) :
    Calls Tryz.prog 85 #[] w fun e w' => ∃ b, e = .returned (.map (some b)) ∧ KMap inV fnV w' b whyL ∧ Below w.heap.size w w' := by
  have hmk : ∀ W : World, (Instr.makeMap 128 none).run Tryz.prog W = .ok (.map (some W.heap.size)) (W.alloc (.map #[] 0)) := fun _ => rfl
  have HK := Lib.hid (KMap.made (ek := inV) (ev := fnV) w)
  have HB := Lib.hid ((Below.refl w.heap.size w).alloc (Nat.le_refl _) (.map #[] 0))
  go_enter Tryz.func85, Tryz.ntmps85
  go_wp2_with (refine wpList_k_insert_new inShape (by rfl) _ _ _ _ (by rfl) Tryz.underlying128 w.heap.size _ (by rfl) HK.out _ (by rfl) _ (by rfl) (by rfl) ?_; intro w1 HK1 HB1 _; have HB := Lib.hid (but_step HB.out (Nat.le_refl _) HB1.out); have HK := HK1; clear HK1 HB1)
  go_ret
  exact ⟨_, rfl, HK.out, HB.out⟩

/-- What tells why an operation of a kind can't be done does so. -/
theorem ask_code (H : GraphHave) (a : Addr) (S : Nat → Prop) (g : Gr) (o : Opn) (hg : g.ok) (hm : mayO o = true) (hf : OpFit o) :
    ∃ f, (f = 117 ∨ f = 118 ∨ f = 119 ∨ f = 120 ∨ f = 121 ∨ f = 122 ∨ f = 123) ∧ lookL whyL o.k = some f ∧ ∀ W : World, H.rep W S a g → Calls Tryz.prog f #[.agg (deedA a o)] W fun e w' => e = .returned (.int .i64 (whyA g o)) ∧ Below W.heap.size W w' := by
  obtain ⟨p1, p2, _⟩ := mayO_parts hm
  rcases show o.k = 1 ∨ o.k = 2 ∨ o.k = 3 ∨ o.k = 4 ∨ o.k = 5 ∨ o.k = 6 ∨ o.k = 7 ∨ o.k = 8 ∨ o.k = 9 ∨ o.k = 10 by omega with q | q | q | q | q | q | q | q | q | q
  · exact ⟨_, Or.inl rfl, by rw [q]; rfl, fun W h => whyMake_code H a S g o W h hg hm (by omega) hf.name⟩
  · exact ⟨_, Or.inl rfl, by rw [q]; rfl, fun W h => whyMake_code H a S g o W h hg hm (by omega) hf.name⟩
  · exact ⟨_, Or.inl rfl, by rw [q]; rfl, fun W h => whyMake_code H a S g o W h hg hm (by omega) hf.name⟩
  · exact ⟨_, Or.inr (Or.inl rfl), by rw [q]; rfl, fun W h => whyLink_code H a S g o W h hg hm q hf.name⟩
  · exact ⟨_, Or.inr (Or.inr (Or.inl rfl)), by rw [q]; rfl, fun W h => whyUnlink_code H a S g o W h hg hm q hf.name⟩
  · exact ⟨_, Or.inr (Or.inr (Or.inr (Or.inl rfl))), by rw [q]; rfl, fun W h => whyRmdir_code H a S g o W h hg hm q hf.name⟩
  · exact ⟨_, Or.inr (Or.inr (Or.inr (Or.inr (Or.inl rfl)))), by rw [q]; rfl, fun W h => whyRename_code H a S g o W h hg hm q hf.name hf.new⟩
  · exact ⟨_, Or.inr (Or.inr (Or.inr (Or.inr (Or.inr (Or.inl rfl))))), by rw [q]; rfl, fun W h => whyFill_code H a S g o W h hg hm (Or.inl q)⟩
  · exact ⟨_, Or.inr (Or.inr (Or.inr (Or.inr (Or.inr (Or.inl rfl))))), by rw [q]; rfl, fun W h => whyFill_code H a S g o W h hg hm (Or.inr q)⟩
  · exact ⟨_, Or.inr (Or.inr (Or.inr (Or.inr (Or.inr (Or.inr (rfl)))))), by rw [q]; rfl, fun W h => whySet_code H a S g o W h hg hm q⟩

theorem ops_call {w W W' : World} {o : Opn} (hb : Below W.heap.size W W') (h : Held w [(w.heap.size, (.cells (opA o) 56 (0, 0)))] W ∧ W.cell? ⟨w.heap.size, 0, none⟩ = some (.int .i64 o.st) ∧ W.cell? ⟨w.heap.size, 1, none⟩ = some (.int .i64 o.sr) ∧ W.cell? ⟨w.heap.size, 2, none⟩ = some (.int .i64 o.k) ∧ W.cell? ⟨w.heap.size, 3, none⟩ = some (.int .i64 o.pt) ∧ W.cell? ⟨w.heap.size, 4, none⟩ = some (.int .i64 o.pr) ∧ W.cell? ⟨w.heap.size, 5, none⟩ = some (.int .i64 o.it) ∧ W.cell? ⟨w.heap.size, 6, none⟩ = some (.int .i64 o.ir) ∧ W.cell? ⟨w.heap.size, 7, none⟩ = some (.int .i64 o.tt) ∧ W.cell? ⟨w.heap.size, 8, none⟩ = some (.int .i64 o.tr) ∧ W.cell? ⟨w.heap.size, 9, none⟩ = some (.string o.name) ∧ W.cell? ⟨w.heap.size, 10, none⟩ = some (.string o.new) ∧ W.cell? ⟨w.heap.size, 11, none⟩ = some (.int .i64 o.off) ∧ W.cell? ⟨w.heap.size, 12, none⟩ = some (.string o.data)) :
    Held w [(w.heap.size, (.cells (opA o) 56 (0, 0)))] W' ∧ W'.cell? ⟨w.heap.size, 0, none⟩ = some (.int .i64 o.st) ∧ W'.cell? ⟨w.heap.size, 1, none⟩ = some (.int .i64 o.sr) ∧ W'.cell? ⟨w.heap.size, 2, none⟩ = some (.int .i64 o.k) ∧ W'.cell? ⟨w.heap.size, 3, none⟩ = some (.int .i64 o.pt) ∧ W'.cell? ⟨w.heap.size, 4, none⟩ = some (.int .i64 o.pr) ∧ W'.cell? ⟨w.heap.size, 5, none⟩ = some (.int .i64 o.it) ∧ W'.cell? ⟨w.heap.size, 6, none⟩ = some (.int .i64 o.ir) ∧ W'.cell? ⟨w.heap.size, 7, none⟩ = some (.int .i64 o.tt) ∧ W'.cell? ⟨w.heap.size, 8, none⟩ = some (.int .i64 o.tr) ∧ W'.cell? ⟨w.heap.size, 9, none⟩ = some (.string o.name) ∧ W'.cell? ⟨w.heap.size, 10, none⟩ = some (.string o.new) ∧ W'.cell? ⟨w.heap.size, 11, none⟩ = some (.int .i64 o.off) ∧ W'.cell? ⟨w.heap.size, 12, none⟩ = some (.string o.data) :=
  ⟨h.1.step hb, op_cells ((h.1.step hb).at 0 rfl)⟩

theorem nil_fn (W : World) : (zeroValue 127).run Tryz.prog W = .ok .nilFunc W := by kernel_rfl

set_option maxRecDepth 100000 in
set_option maxHeartbeats 1600000 in
theorem whyGood (H : GraphHave) (a : Addr) (S : Nat → Prop) (g : Gr) (o : Opn) (w : World) [Tab w] (h : H.rep w S a g) (hg : g.ok) (hm : mayO o = true) (hf : OpFit o) :
    Calls Tryz.prog 63 #[.pointer (some a), .agg (opA o)] w fun e w' => e = .returned (.int .i64 (whyA g o)) ∧ Below w.heap.size w w' := by
  obtain ⟨f, hf0, hf1, hf2⟩ := ask_code H a S g o hg hm hf
  have HA : Hid (∀ W : World, Below w.heap.size w W → Calls Tryz.prog f #[.agg #[.pointer (some a), .int .i64 o.st, .int .i64 o.sr, .int .i64 o.k, .int .i64 o.pt, .int .i64 o.pr, .int .i64 o.it, .int .i64 o.ir, .int .i64 o.tt, .int .i64 o.tr, .string o.name, .string o.new, .int .i64 o.off, .string o.data]] W fun e w' => e = .returned (.int .i64 (whyA g o)) ∧ Below W.heap.size W w') := Lib.hid fun W hW => hf2 W (rep_below h hW)
  have HM : Hid (∀ (W : World) [Tab W], Calls Tryz.prog 58 #[.agg #[.int .i64 o.st, .int .i64 o.sr, .int .i64 o.k, .int .i64 o.pt, .int .i64 o.pr, .int .i64 o.it, .int .i64 o.ir, .int .i64 o.tt, .int .i64 o.tr, .string o.name, .string o.new, .int .i64 o.off, .string o.data]] W fun e w' => e = .returned (.bool true) ∧ Below W.heap.size W w') := Lib.hid fun W _ => by rw [← hm]; exact opMay_any o W hf.ok hf.name hf.new hf.data
  have HL := Lib.hid hf1
  generalize whyA g o = r at HA ⊢
  have hS0 : Held w [(w.heap.size, .cells (opA o) 56 (0, 0))] (w.alloc (.cells (opA o) 56)) := (Held.refl w).alloc (.cells (opA o) 56) rfl
  have i0 : Tab (w.alloc (.cells (opA o) 56)) := inferInstance
  clear hf1 hf2 h hg hm hf
  unfold opA
  go_enter Tryz.func63, Tryz.ntmps63
  go_upto_region 1 with fail
  change Code.wp _ _ _ _ (w.alloc (.cells (opA o) 56))
  generalize w.alloc (.cells (opA o) 56) = w0 at hS0 i0 ⊢
  obtain ⟨e0, e1, e2, e3, e4, e5, e6, e7, e8, e9, e10, e11, e12⟩ := op_cells (o := o) (g := w.heap.size) (hS0.at 0 rfl)
  go_wp2_with fail
  refine (HM.out _).mono ?_
  rintro e w1 ⟨rfl, hb1⟩
  have hS1 := hS0.step hb1
  clear hS0 hb1 e0 e1 e2 e3 e4 e5 e6 e7 e8 e9 e10 e11 e12 HM i0
  go_upto_region 3 with fail
  have hS2 := And.intro (hS1.drew) (op_cells (hS1.drew.at 0 rfl))
  have hS3 := And.intro hS1 (op_cells (hS1.at 0 rfl))
  rcases hf0 with rfl | rfl | rfl | rfl | rfl | rfl | rfl
  all_goals
    go_region_held3 (fun W => Held w [(w.heap.size, (.cells (opA o) 56 (0, 0)))] W ∧ W.cell? ⟨w.heap.size, 0, none⟩ = some (.int .i64 o.st) ∧ W.cell? ⟨w.heap.size, 1, none⟩ = some (.int .i64 o.sr) ∧ W.cell? ⟨w.heap.size, 2, none⟩ = some (.int .i64 o.k) ∧ W.cell? ⟨w.heap.size, 3, none⟩ = some (.int .i64 o.pt) ∧ W.cell? ⟨w.heap.size, 4, none⟩ = some (.int .i64 o.pr) ∧ W.cell? ⟨w.heap.size, 5, none⟩ = some (.int .i64 o.it) ∧ W.cell? ⟨w.heap.size, 6, none⟩ = some (.int .i64 o.ir) ∧ W.cell? ⟨w.heap.size, 7, none⟩ = some (.int .i64 o.tt) ∧ W.cell? ⟨w.heap.size, 8, none⟩ = some (.int .i64 o.tr) ∧ W.cell? ⟨w.heap.size, 9, none⟩ = some (.string o.name) ∧ W.cell? ⟨w.heap.size, 10, none⟩ = some (.string o.new) ∧ W.cell? ⟨w.heap.size, 11, none⟩ = some (.int .i64 o.off) ∧ W.cell? ⟨w.heap.size, 12, none⟩ = some (.string o.data)) (with_reducible assumption)
      (first
        | (go_at_call 85; (with_reducible refine (reasons_code _).mono ?_); rintro e w2 ⟨b, rfl, hK, hb2⟩; have hS4 := ops_call hb2 (by assumption); have hl := (hK.look inShape Tryz.underlying128 (nil_fn w2) o.k false); rw [HL.out, if_neg (by decide)] at hl; have hl : (Instr.lookup 128 (.map (some b)) (.int .i64 o.k) false).run Tryz.prog w2 = .ok (.func (.func _) #[] #[]) w2 := hl)
        | (go_at_call 117; (with_reducible refine (HA.out _ ?_).mono ?_); exact hS4.1.below; rintro e w3 ⟨rfl, hb3⟩; have hS5 := ops_call hb3 (by assumption))
        | (go_at_call 118; (with_reducible refine (HA.out _ ?_).mono ?_); exact hS4.1.below; rintro e w3 ⟨rfl, hb3⟩; have hS5 := ops_call hb3 (by assumption))
        | (go_at_call 119; (with_reducible refine (HA.out _ ?_).mono ?_); exact hS4.1.below; rintro e w3 ⟨rfl, hb3⟩; have hS5 := ops_call hb3 (by assumption))
        | (go_at_call 120; (with_reducible refine (HA.out _ ?_).mono ?_); exact hS4.1.below; rintro e w3 ⟨rfl, hb3⟩; have hS5 := ops_call hb3 (by assumption))
        | (go_at_call 121; (with_reducible refine (HA.out _ ?_).mono ?_); exact hS4.1.below; rintro e w3 ⟨rfl, hb3⟩; have hS5 := ops_call hb3 (by assumption))
        | (go_at_call 122; (with_reducible refine (HA.out _ ?_).mono ?_); exact hS4.1.below; rintro e w3 ⟨rfl, hb3⟩; have hS5 := ops_call hb3 (by assumption))
        | (go_at_call 123; (with_reducible refine (HA.out _ ?_).mono ?_); exact hS4.1.below; rintro e w3 ⟨rfl, hb3⟩; have hS5 := ops_call hb3 (by assumption)))
    have hB := hS5.1.below
    clear hS1 hS2 hS3 hS4 hl
    go_wp2_with fail
    go_ret
    exact ⟨rfl, hB⟩

end Go.Proofs.YtbkijfhfjhpebaaGreatDoor

/-
  A graph in memory beside blocks that are set apart and boxes of the call's own, which are known.
-/
namespace Go.Proofs.YtbkijfhfjhpebaaGreatDoor
open Go.RowKit StampMath GraphMath OpMath PackMath

/-- .. since W0. -/
structure DX (H : GraphHave) (w W0 W : World) (N : Nat → Prop) (a : Addr) (g : Gr) (L : List (Nat × Obj)) : Prop where
  gx : GX H w W (fun i => N i ∨ ∃ p ∈ L, p.1 = i) a g
  blocks : ∀ p ∈ L, W.heap[p.1]? = some p.2
  new : ∀ p ∈ L, W0.heap.size ≤ p.1
  same : Same N W0 W
  low : ∀ i, N i → i < W0.heap.size
  old : w.heap.size ≤ W0.heap.size

section
variable {H : GraphHave} {w W0 W W' : World} {N : Nat → Prop} {a : Addr} {g g' : Gr} {L : List (Nat × Obj)}

theorem Same.trans {X Y Z : World} (h : Same N X Y) (k : Same N Y Z) : Same N X Z := ⟨Nat.le_trans h.1 k.1, fun i hi => (k.2 i hi).trans (h.2 i hi)⟩

theorem DX.start (h : GX H w W N a g) : DX H w W W N a g [] :=
  ⟨h.less fun _ hi => hi.elim id (fun ⟨_, hp, _⟩ => (nomatch hp)), (fun _ hp => (nomatch hp)), (fun _ hp => (nomatch hp)), ⟨Nat.le_refl _, fun _ _ => rfl⟩, h.lt, h.below.size⟩

theorem DX.at (h : DX H w W0 W N a g L) (i : Nat) {p : Nat × Obj} (hp : L[i]? = some p) : W.heap[p.1]? = some p.2 := h.blocks p (List.mem_of_getElem? hp)

theorem DX.ok (h : DX H w W0 W N a g L) : g.ok := h.gx.ok

theorem DX.step (h : DX H w W0 W N a g L) (hb : Below W.heap.size W W') : DX H w W0 W' N a g L :=
  ⟨h.gx.step hb, fun p hp => (hb.block _ (heap_lt (h.blocks p hp))).trans (h.blocks p hp), h.new, h.same.trans ⟨hb.size, fun i hi => hb.block i (h.gx.lt i (Or.inl hi))⟩, h.low, h.old⟩

theorem DX.alloc (h : DX H w W0 W N a g L) (o : Obj) {u : Nat} (hu : W.heap.size = u) : DX H w W0 (W.alloc o) N a g ((u, o) :: L) := by
  have hb : Below W.heap.size W (W.alloc o) := (Below.refl _ W).alloc (Nat.le_refl _) o
  refine ⟨(h.gx.grow hb).less fun i hi => ?_, fun p hp => ?_, fun p hp => ?_, (h.step hb).same, h.low, h.old⟩
  · rcases hi with hi | ⟨p, hp, rfl⟩
    · exact Or.inl (Or.inl hi)
    · rcases List.mem_cons.1 hp with rfl | hp
      · exact Or.inr ⟨by dsimp only; omega, by dsimp only; simp; omega⟩
      · exact Or.inl (Or.inr ⟨p, hp, rfl⟩)
  · rcases List.mem_cons.1 hp with rfl | hp
    · subst hu; exact heap_alloc_new W o
    · exact (h.step hb).blocks p hp
  · rcases List.mem_cons.1 hp with rfl | hp
    · have := h.same.1; dsimp only; omega
    · exact h.new p hp

/-- A call that changes the graph. -/
theorem DX.call (h : DX H w W0 W N a g L) (k : GX H w W' (fun i => N i ∨ ∃ p ∈ L, p.1 = i) a g' ∧ Same (fun i => N i ∨ ∃ p ∈ L, p.1 = i) W W') : DX H w W0 W' N a g' L :=
  ⟨k.1, fun p hp => (k.2.2 p.1 (Or.inr ⟨p, hp, rfl⟩)).trans (h.blocks p hp), h.new, h.same.trans ⟨k.2.1, fun i hi => k.2.2 i (Or.inl hi)⟩, h.low, h.old⟩

theorem DX.fin (h : DX H w W0 W N a g L) : GX H w W N a g ∧ Same N W0 W := ⟨h.gx.less fun _ hi => Or.inl hi, h.same⟩

theorem DX.tail {p : Nat × Obj} (h : DX H w W0 W N a g (p :: L)) : DX H w W0 W N a g L :=
  ⟨h.gx.less fun _ hi => hi.elim Or.inl fun ⟨q, hq, e⟩ => Or.inr ⟨q, List.mem_cons_of_mem _ hq, e⟩, fun q hq => h.blocks q (List.mem_cons_of_mem _ hq), fun q hq => h.new q (List.mem_cons_of_mem _ hq), h.same, h.low, h.old⟩

/-- A box, the newest one, is written. -/
theorem DX.put {u : Nat} {o o' : Obj} (h : DX H w W0 W N a g ((u, o) :: L)) (hL : ∀ p ∈ L, p.1 ≠ u) (hb : But (fun i => i = u) W W') (ho : W'.heap[u]? = some o') : DX H w W0 W' N a g ((u, o') :: L) := by
  have hu : W0.heap.size ≤ u := h.new _ (List.mem_cons_self ..)
  refine ⟨(h.gx.put hb fun i hi => ⟨Or.inr ⟨_, List.mem_cons_self .., hi.symm⟩, ?_⟩).less fun i hi => ?_, fun p hp => ?_, fun p hp => ?_, h.same.trans ⟨hb.size, fun i hi => hb.block i (h.gx.lt i (Or.inl hi)) fun e => ?_⟩, h.low, h.old⟩
  · have := h.old; omega
  · rcases hi with hi | ⟨p, hp, e⟩
    · exact Or.inl hi
    · rcases List.mem_cons.1 hp with rfl | hp
      · exact Or.inr ⟨(u, o), List.mem_cons_self .., e⟩
      · exact Or.inr ⟨p, List.mem_cons_of_mem _ hp, e⟩
  · rcases List.mem_cons.1 hp with rfl | hp
    · exact ho
    · exact (hb.block _ (heap_lt (h.blocks p (List.mem_cons_of_mem _ hp))) (hL p hp)).trans (h.blocks p (List.mem_cons_of_mem _ hp))
  · rcases List.mem_cons.1 hp with rfl | hp
    · exact hu
    · exact h.new p (List.mem_cons_of_mem _ hp)
  · have := h.low i hi; omega

theorem DX.get (h : DX H w W0 W N a g L) (id : St) :
    Calls Tryz.prog 12 #[.pointer (some a), .agg #[.int .i64 id.1, .int .i64 id.2]] W fun e w' => e = .returned (.tuple #[.agg (inoA ((getG g id).getD noIno)), .bool (getG g id).isSome]) ∧ DX H w W0 w' N a g L :=
  (h.gx.get id).mono fun _ _ ⟨he, _, hb⟩ => ⟨he, h.step hb⟩

theorem DX.make (h : DX H w W0 W N a g L) (id : St) (kind : Int) :
    Calls Tryz.prog 124 #[.pointer (some a), .agg #[.int .i64 id.1, .int .i64 id.2], .int .i64 kind] W fun e w' => e = .returned (.int .i64 (makeG g id kind).2) ∧ DX H w W0 w' N a (makeG g id kind).1 L :=
  (h.gx.make id kind).mono fun _ _ ⟨he, k⟩ => ⟨he, h.call k⟩

theorem DX.set (h : DX H w W0 W N a g L) (id : St) (mode : Int) (data : ByteArray) :
    Calls Tryz.prog 126 #[.pointer (some a), .agg #[.int .i64 id.1, .int .i64 id.2], .int .i64 mode, .string data] W fun e w' => e = .returned (.int .i64 (setG g id mode data).2) ∧ DX H w W0 w' N a (setG g id mode data).1 L := by
  obtain ⟨⟨S, h1, h2, h3⟩, h4, h5, h6⟩ := h.gx
  refine (H.set a S g id mode data W h1 h4).mono ?_
  rintro e w' ⟨S', he, k1, k2, k3⟩
  exact ⟨he, h.call (GX.mut h2 h3 h5 h6 k1 k2 k3 (h4.set id mode data))⟩

theorem DX.tie (h : DX H w W0 W N a g L) (d : St) (nm : ByteArray) (i : St) (hn : nm.size ≤ maxLen) :
    Calls Tryz.prog 87 #[.pointer (some a), .agg #[.int .i64 d.1, .int .i64 d.2, .string nm, .int .i64 i.1, .int .i64 i.2]] W fun e w' => e = .returned (.int .i64 (tieG (nameB nm) g ⟨d, nm, i⟩).2) ∧ DX H w W0 w' N a (tieG (nameB nm) g ⟨d, nm, i⟩).1 L :=
  (h.gx.tie ⟨d, nm, i⟩ hn).mono fun _ _ ⟨he, k⟩ => ⟨he, h.call k⟩

theorem DX.untie (h : DX H w W0 W N a g L) (d : St) (nm : ByteArray) (hn : nm.size ≤ maxLen) :
    Calls Tryz.prog 129 #[.pointer (some a), .agg #[.int .i64 d.1, .int .i64 d.2], .string nm] W fun e w' => e = .returned (.tuple #[.agg #[.int .i64 (untieG g d nm).2.1.1, .int .i64 (untieG g d nm).2.1.2], .int .i64 (untieG g d nm).2.2]) ∧ DX H w W0 w' N a (untieG g d nm).1 L :=
  (h.gx.untie d nm hn).mono fun _ _ ⟨he, k⟩ => ⟨he, h.call k⟩

theorem DX.drop (h : DX H w W0 W N a g L) (id : St) :
    Calls Tryz.prog 130 #[.pointer (some a), .agg #[.int .i64 id.1, .int .i64 id.2]] W fun e w' => e = .returned (.int .i64 (dropG g id).2) ∧ DX H w W0 w' N a (dropG g id).1 L :=
  (h.gx.drop id).mono fun _ _ ⟨he, k⟩ => ⟨he, h.call k⟩

end

/-- What a method that changes the graph leaves. -/
def Did (H : GraphHave) (w W0 : World) (N : Nat → Prop) (a : Addr) (g : Gr) (e : Ending) (w' : World) : Prop := e = .returned (.tuple #[]) ∧ GX H w w' N a g ∧ Same N W0 w'

end Go.Proofs.YtbkijfhfjhpebaaGreatDoor

/-
  The walk of op's Makes.
-/
namespace Go.Proofs.YtbkijfhfjhpebaaGreatDoor
open Go.RowKit OpMath StampMath PackMath

theorem makes_any (o : Opn) (w : World) :
    Calls Tryz.prog 125 #[.agg #[.int .i64 o.st, .int .i64 o.sr, .int .i64 o.k, .int .i64 o.pt, .int .i64 o.pr, .int .i64 o.it, .int .i64 o.ir, .int .i64 o.tt, .int .i64 o.tr, .string o.name, .string o.new, .int .i64 o.off, .string o.data]] w fun e w' => e = .returned (.int .i64 (makesO o)) ∧ Below w.heap.size w w' := by
  have hcase : ((o.k == 1) = true ∧ makesO o = 1) ∨ ((o.k == 1) = false ∧ (o.k == 2) = true ∧ makesO o = 2) ∨ ((o.k == 1) = false ∧ (o.k == 2) = false ∧ (o.k == 3) = true ∧ makesO o = 3) ∨ ((o.k == 1) = false ∧ (o.k == 2) = false ∧ (o.k == 3) = false ∧ makesO o = 0) := by
    unfold makesO
    by_cases h1 : o.k = 1
    · exact Or.inl ⟨by simp [h1], by rw [if_pos (by omega), h1]⟩
    · by_cases h2 : o.k = 2
      · exact Or.inr (Or.inl ⟨by simp [h1], by simp [h2], by rw [if_pos (by omega), h2]⟩)
      · by_cases h3 : o.k = 3
        · exact Or.inr (Or.inr (Or.inl ⟨by simp [h1], by simp [h2], by simp [h3], by rw [if_pos (by omega), h3]⟩))
        · exact Or.inr (Or.inr (Or.inr ⟨by simp [h1], by simp [h2], by simp [h3], by rw [if_neg (by omega)]⟩))
  rcases hcase with ⟨h1, h⟩ | ⟨h1, h2, h⟩ | ⟨h1, h2, h3, h⟩ | ⟨h1, h2, h3, h⟩
  all_goals
    rw [h]
    clear h
    go_enter Tryz.func125, Tryz.ntmps125
    go_wp2_with fail
    go_ret
    exact ⟨rfl, (Below.refl _ _).alloc (Nat.le_refl _) _⟩

end Go.Proofs.YtbkijfhfjhpebaaGreatDoor

/-
  The landed apply: what adds an inode, and what takes an entry away.
-/
namespace Go.Proofs.YtbkijfhfjhpebaaGreatDoor
open Go.RowKit StampMath GraphMath OpMath PackMath

theorem deed_s {W0 W : World} {a : Addr} {o : Opn} (h : W.heap[W0.heap.size]? = some (.cells (deedA a o) 110 (0, 0))) : W.heap[W0.heap.size]? = some (.cells (deedA a o) 110 (0, 0)) ∧ W.cell? ⟨W0.heap.size, 0, none⟩ = some (.pointer (some a)) ∧ W.cell? ⟨W0.heap.size, 1, none⟩ = some (.int .i64 o.st) ∧ W.cell? ⟨W0.heap.size, 2, none⟩ = some (.int .i64 o.sr) ∧ W.cell? ⟨W0.heap.size, 3, none⟩ = some (.int .i64 o.k) ∧ W.cell? ⟨W0.heap.size, 4, none⟩ = some (.int .i64 o.pt) ∧ W.cell? ⟨W0.heap.size, 5, none⟩ = some (.int .i64 o.pr) ∧ W.cell? ⟨W0.heap.size, 6, none⟩ = some (.int .i64 o.it) ∧ W.cell? ⟨W0.heap.size, 7, none⟩ = some (.int .i64 o.ir) ∧ W.cell? ⟨W0.heap.size, 8, none⟩ = some (.int .i64 o.tt) ∧ W.cell? ⟨W0.heap.size, 9, none⟩ = some (.int .i64 o.tr) ∧ W.cell? ⟨W0.heap.size, 10, none⟩ = some (.string o.name) ∧ W.cell? ⟨W0.heap.size, 11, none⟩ = some (.string o.new) ∧ W.cell? ⟨W0.heap.size, 12, none⟩ = some (.int .i64 o.off) ∧ W.cell? ⟨W0.heap.size, 13, none⟩ = some (.string o.data) := ⟨h, deed_cells h⟩

set_option maxRecDepth 100000 in
set_option maxHeartbeats 1600000 in
theorem add_code (H : GraphHave) (w W0 : World) (N : Nat → Prop) (a : Addr) (g : Gr) (o : Opn) (h : GX H w W0 N a g) (hn : o.name.size ≤ maxLen) (hk : 1 ≤ o.k) (hk3 : o.k ≤ 3) :
    Calls Tryz.prog 86 #[.agg (deedA a o)] W0 (Did H w W0 N a (madeA g o)) := by
  have HM : Hid (∀ W : World, Calls Tryz.prog 125 #[.agg #[.int .i64 o.st, .int .i64 o.sr, .int .i64 o.k, .int .i64 o.pt, .int .i64 o.pr, .int .i64 o.it, .int .i64 o.ir, .int .i64 o.tt, .int .i64 o.tr, .string o.name, .string o.new, .int .i64 o.off, .string o.data]] W fun e w' => e = .returned (.int .i64 (makesO o)) ∧ Below W.heap.size W w') := Lib.hid (makes_any o)
  have HE := Lib.hid (add_made (g := g) hk hk3)
  have hD0 := (DX.start h).alloc (.cells (deedA a o) 110) rfl
  generalize madeA g o = gr at HE ⊢
  generalize makesO o = mk at HM HE
  clear h hk hk3
  unfold Did
  go_enter Tryz.func86, Tryz.ntmps86
  go_upto_region 1 with fail
  change Code.wp _ _ _ _ (W0.alloc (.cells (deedA a o) 110))
  generalize W0.alloc (.cells (deedA a o) 110) = w0 at hD0 ⊢
  have hDd := hD0.step ((Below.refl w0.heap.size w0).drew)
  have hS0 := deed_s (hD0.at 0 rfl)
  have hSd := deed_s (hDd.at 0 rfl)
  go_region_held3 (fun W => W.heap[W0.heap.size]? = some (.cells (deedA a o) 110 (0, 0)) ∧ W.cell? ⟨W0.heap.size, 0, none⟩ = some (.pointer (some a)) ∧ W.cell? ⟨W0.heap.size, 1, none⟩ = some (.int .i64 o.st) ∧ W.cell? ⟨W0.heap.size, 2, none⟩ = some (.int .i64 o.sr) ∧ W.cell? ⟨W0.heap.size, 3, none⟩ = some (.int .i64 o.k) ∧ W.cell? ⟨W0.heap.size, 4, none⟩ = some (.int .i64 o.pt) ∧ W.cell? ⟨W0.heap.size, 5, none⟩ = some (.int .i64 o.pr) ∧ W.cell? ⟨W0.heap.size, 6, none⟩ = some (.int .i64 o.it) ∧ W.cell? ⟨W0.heap.size, 7, none⟩ = some (.int .i64 o.ir) ∧ W.cell? ⟨W0.heap.size, 8, none⟩ = some (.int .i64 o.tt) ∧ W.cell? ⟨W0.heap.size, 9, none⟩ = some (.int .i64 o.tr) ∧ W.cell? ⟨W0.heap.size, 10, none⟩ = some (.string o.name) ∧ W.cell? ⟨W0.heap.size, 11, none⟩ = some (.string o.new) ∧ W.cell? ⟨W0.heap.size, 12, none⟩ = some (.int .i64 o.off) ∧ W.cell? ⟨W0.heap.size, 13, none⟩ = some (.string o.data)) (with_reducible assumption)
    (first
      | (go_at_call 125; (with_reducible refine (HM.out _).mono ?_); rintro e w1 ⟨rfl, hb1⟩; have hD1 := hDd.step hb1; have hS1 := deed_s (hD1.at 0 rfl))
      | (go_at_call 124; (with_reducible refine (hD1.make (o.st, o.sr) mk).mono ?_); rintro e w2 ⟨rfl, hD2⟩; have hS2 := deed_s (hD2.at 0 rfl)))
  obtain ⟨d0, d1, d2, d3, d4, d5, d6, d7, d8, d9, d10, d11, d12, d13⟩ := deed_cells (g := W0.heap.size) (hD2.at 0 rfl)
  clear hS0 hSd hS1 hS2 hD0 hDd hD1 hb1
  go_wp2_with fail
  refine (hD2.set (o.st, o.sr) 0 o.data).mono ?_
  rintro e w3 ⟨rfl, hD3⟩
  clear d0 d1 d2 d3 d4 d5 d6 d7 d8 d9 d10 d11 d12 d13 hD2
  obtain ⟨d0, d1, d2, d3, d4, d5, d6, d7, d8, d9, d10, d11, d12, d13⟩ := deed_cells (g := W0.heap.size) (hD3.at 0 rfl)
  go_wp2_with fail
  refine (hD3.tie (o.pt, o.pr) o.name (o.st, o.sr) hn).mono ?_
  rintro e w4 ⟨rfl, hD4⟩
  go_wp2_with fail
  exact bodyPost_end (results_none rfl _ _ _) rfl ⟨rfl, by rw [HE.out]; exact hD4.fin⟩

set_option maxRecDepth 100000 in
set_option maxHeartbeats 1600000 in
theorem remove_code (H : GraphHave) (w W0 : World) (N : Nat → Prop) (a : Addr) (g : Gr) (o : Opn) (d : St) (nm : ByteArray) (h : GX H w W0 N a g) (hn : nm.size ≤ maxLen) :
    Calls Tryz.prog 88 #[.agg (deedA a o), .agg (stA d), .string nm] W0 (Did H w W0 N a (goneG g d nm)) := by
  have HE := Lib.hid (gone_drop h.ok d nm)
  have hD0 := ((DX.start h).alloc (.cells (deedA a o) 110) rfl).alloc (.cells (stA d) 24) (u := W0.heap.size + 1) (by simp)
  generalize goneG g d nm = gr at HE ⊢
  clear h
  unfold Did
  go_enter Tryz.func88, Tryz.ntmps88
  go_upto_region 1 with fail
  change Code.wp _ _ _ _ ((W0.alloc (.cells (deedA a o) 110)).alloc (.cells (stA d) 24))
  generalize (W0.alloc (.cells (deedA a o) 110)).alloc (.cells (stA d) 24) = w0 at hD0 ⊢
  obtain ⟨d0, d1, d2, d3, d4, d5, d6, d7, d8, d9, d10, d11, d12, d13⟩ := deed_cells (g := W0.heap.size) (hD0.at 1 rfl)
  obtain ⟨s0, s1⟩ := two_cells (g := W0.heap.size + 1) (hD0.at 0 rfl)
  go_wp2_with fail
  refine (hD0.untie d nm hn).mono ?_
  rintro e w1 ⟨rfl, hD1⟩
  clear d0 d1 d2 d3 d4 d5 d6 d7 d8 d9 d10 d11 d12 d13 s0 s1 hD0
  generalize (untieG g d nm).2.2 = er
  generalize (untieG g d nm).2.1 = t at HE ⊢
  go_upto_region 2 with fail
  obtain ⟨u, hu⟩ : ∃ u, u = w1.heap.size := ⟨_, rfl⟩
  have hD2 := hD1.alloc (.cells (stA t) 24) hu.symm
  change Code.wp _ _ _ _ (w1.alloc (.cells (stA t) 24))
  rw [← hu]
  generalize w1.alloc (.cells (stA t) 24) = w2 at hD2 ⊢
  clear hD1 hu
  obtain ⟨d0, d1, d2, d3, d4, d5, d6, d7, d8, d9, d10, d11, d12, d13⟩ := deed_cells (g := W0.heap.size) (hD2.at 2 rfl)
  obtain ⟨s0, s1⟩ := two_cells (g := u) (hD2.at 0 rfl)
  go_wp2_with fail
  refine (hD2.drop t).mono ?_
  rintro e w3 ⟨rfl, hD3⟩
  go_wp2_with fail
  exact bodyPost_end (results_none rfl _ _ _) rfl ⟨rfl, by rw [← HE.out]; exact hD3.fin⟩

end Go.Proofs.YtbkijfhfjhpebaaGreatDoor

/-
  What the statements of layer 8 need of the package's own calls; and the statements' head.
-/
namespace Go.Proofs.YtbkijfhfjhpebaaGreatDoor
open Go.RowKit ExtentMath PackMath

structure ExtentHave : Prop where
  write : ∀ (d : ByteArray) (off : Int) (s : ByteArray) (w : World), d.size ≤ 2000 → s.size ≤ 2000 → IsI64 off →
    Calls Tryz.prog 132 #[.string d, .int .i64 off, .string s] w fun e w' => e = .returned (.tuple #[.string (wR d off s).1, .int .i64 (wR d off s).2]) ∧ Below w.heap.size w w'
  trunc : ∀ (d : ByteArray) (n : Int) (w : World), d.size ≤ 2000 → IsI64 n →
    Calls Tryz.prog 133 #[.string d, .int .i64 n] w fun e w' => e = .returned (.tuple #[.string (tR d n).1, .int .i64 (tR d n).2]) ∧ Below w.heap.size w w'

theorem mk_bytes (d : ByteArray) : (⟨d.data.toList.toArray⟩ : ByteArray) = d := by cases d; simp

theorem size_bytes (l : List UInt8) : (⟨l.toArray⟩ : ByteArray).size = l.length := rfl

theorem len_bytes (d : ByteArray) : d.data.toList.length = d.size := by simp

/-- What a write that is done was asked. -/
theorem wR_good {d s : ByteArray} {off : Int} (h : (wR d off s).2 = 0) : ∃ o : Nat, off = (o : Int) ∧ s.size ≠ 0 ∧ o + s.size ≤ 64 ∧ d.size ≤ 64 ∧ wR d off s = (⟨(wL d.data.toList s.data.toList o).toArray⟩, 0) := by
  unfold wR at h ⊢
  by_cases h0 : off < 0 ∨ s.size = 0
  · rw [if_pos h0] at h; exact absurd (show (1 : Int) = 0 from h) (by decide)
  · rw [if_neg h0] at h ⊢
    by_cases h1 : 64 < off ∨ 64 < s.size ∨ 64 < d.size ∨ 64 < off + (s.size : Int)
    · rw [if_pos h1] at h; exact absurd (show (11 : Int) = 0 from h) (by decide)
    · rw [if_neg h1]
      refine ⟨off.toNat, by omega, by omega, by omega, by omega, rfl⟩

theorem wR_bad {d s : ByteArray} {off : Int} (h : (wR d off s).2 ≠ 0) : (wR d off s).1 = d := by
  unfold wR at h ⊢
  by_cases h0 : off < 0 ∨ s.size = 0
  · rw [if_pos h0]
  · rw [if_neg h0] at h ⊢
    by_cases h1 : 64 < off ∨ 64 < s.size ∨ 64 < d.size ∨ 64 < off + (s.size : Int)
    · rw [if_pos h1]
    · rw [if_neg h1] at h; exact absurd rfl h

theorem wR_size (d s : ByteArray) (off : Int) (hd : d.size ≤ 2000) : (wR d off s).1.size ≤ 2000 := by
  by_cases h : (wR d off s).2 = 0
  · obtain ⟨o, _, _, h2, h3, h4⟩ := wR_good h
    rw [h4]
    show (wL d.data.toList s.data.toList o).length ≤ 2000
    rw [wL_len, len_bytes, len_bytes]
    omega
  · rw [wR_bad h]; exact hd

end Go.Proofs.YtbkijfhfjhpebaaGreatDoor

/-
  The landed apply: what renames an entry, and what sets an inode's contents, or its mode.
-/
namespace Go.Proofs.YtbkijfhfjhpebaaGreatDoor
open Go.RowKit StampMath GraphMath OpMath PackMath ExtentMath

section
variable {H : GraphHave} {w W0 W : World} {N : Nat → Prop} {a : Addr} {g : Gr} {L : List (Nat × Obj)}

theorem DX.target (h : DX H w W0 W N a g L) (o : Opn) (hn : o.new.size ≤ maxLen) :
    Calls Tryz.prog 131 #[.agg (deedA a o)] W fun e w' => e = .returned (.tuple #[.agg (inoA ((aimG g o).getD noIno)), .bool (aimG g o).isSome]) ∧ DX H w W0 w' N a g L := by
  obtain ⟨S, h1, _⟩ := h.gx.at'
  exact (target_code H a S g o W h1 h.ok hn).mono fun _ _ ⟨he, hb⟩ => ⟨he, h.step hb⟩

theorem DX.remove (h : DX H w W0 W N a g L) (o : Opn) (d : St) (nm : ByteArray) (hn : nm.size ≤ maxLen) :
    Calls Tryz.prog 88 #[.agg (deedA a o), .agg #[.int .i64 d.1, .int .i64 d.2], .string nm] W fun e w' => e = .returned (.tuple #[]) ∧ DX H w W0 w' N a (goneG g d nm) L :=
  (remove_code H w W _ a g o d nm h.gx hn).mono fun _ _ ⟨he, k⟩ => ⟨he, h.call k⟩

end

set_option maxRecDepth 100000 in
set_option maxHeartbeats 1600000 in
theorem rename_code (H : GraphHave) (w W0 : World) (N : Nat → Prop) (a : Addr) (g : Gr) (o : Opn) (h : GX H w W0 N a g) (hn : o.name.size ≤ maxLen) (hn2 : o.new.size ≤ maxLen) (hk : o.k = 7) :
    Calls Tryz.prog 89 #[.agg (deedA a o)] W0 (Did H w W0 N a (madeA g o)) := by
  have hE := rename_made h.ok hk
  have hD0 := (DX.start h).alloc (.cells (deedA a o) 110) rfl
  obtain ⟨gr, hgr⟩ : ∃ gr, gr = madeA g o := ⟨_, rfl⟩
  rw [← hgr] at hE ⊢
  obtain ⟨x, hx⟩ : ∃ x, x = (aimG g o).getD noIno := ⟨_, rfl⟩
  obtain ⟨b, hb⟩ : ∃ b, b = (aimG g o).isSome := ⟨_, rfl⟩
  have hcase : (b = false ∧ gr = tie1 (untieG g (oAt o) o.name).1 (oTo o) o.new (oIno o)) ∨ (b = true ∧ ((x.id.1 == o.it) = true ∧ (x.id.2 == o.ir) = true) ∧ gr = g) ∨
      (b = true ∧ ((x.id.1 == o.it) = false ∨ (x.id.2 == o.ir) = false) ∧ gr = tie1 (untieG (goneG g (oTo o) o.new) (oAt o) o.name).1 (oTo o) o.new (oIno o)) := by
    cases hq : aimG g o with
    | none =>
      rw [hq] at hE hb
      exact Or.inl ⟨hb, hE⟩
    | some y =>
      rw [hq] at hE hb hx
      have hxy : x = y := hx
      subst hxy
      dsimp only at hE
      by_cases c : x.id = oIno o
      · rw [if_pos c] at hE
        exact Or.inr (Or.inl ⟨hb, ⟨by rw [c]; exact beq_self_eq_true _, by rw [c]; exact beq_self_eq_true _⟩, hE⟩)
      · rw [if_neg c] at hE
        refine Or.inr (Or.inr ⟨hb, ?_, hE⟩)
        rw [beq_eq_false_iff_ne, beq_eq_false_iff_ne]
        by_cases h1 : x.id.1 = o.it
        · exact Or.inr fun h2 => c (Prod.ext h1 h2)
        · exact Or.inl h1
  have HC := Lib.hid hcase
  have HX := Lib.hid hx
  have HBq := Lib.hid hb
  clear hE hgr hcase hx hb h hk
  unfold Did
  go_enter Tryz.func89, Tryz.ntmps89
  go_upto_region 1 with fail
  change Code.wp _ _ _ _ (W0.alloc (.cells (deedA a o) 110))
  generalize W0.alloc (.cells (deedA a o) 110) = w0 at hD0 ⊢
  obtain ⟨d0, d1, d2, d3, d4, d5, d6, d7, d8, d9, d10, d11, d12, d13⟩ := deed_cells (g := W0.heap.size) (hD0.at 0 rfl)
  go_wp2_with fail
  refine (hD0.target o hn2).mono ?_
  rintro e w1 ⟨rfl, hD1⟩
  rw [← HX.out, ← HBq.out]
  unfold inoA
  clear d0 d1 d2 d3 d4 d5 d6 d7 d8 d9 d10 d11 d12 d13 hD0 HX HBq
  go_upto_region 2 with fail
  obtain ⟨u, hu⟩ : ∃ u, u = w1.heap.size := ⟨_, rfl⟩
  have hlu : W0.heap.size < u := by rw [hu]; exact heap_lt (hD1.at 0 rfl)
  have hD2 := hD1.alloc (.cells (inoA x) 32) hu.symm
  change Code.wp _ _ _ _ (w1.alloc (.cells (inoA x) 32))
  rw [← hu]
  generalize w1.alloc (.cells (inoA x) 32) = w2 at hD2 ⊢
  clear hD1 hu
  obtain ⟨d0, d1, d2, d3, d4, d5, d6, d7, d8, d9, d10, d11, d12, d13⟩ := deed_cells (g := W0.heap.size) (hD2.at 1 rfl)
  obtain ⟨i0, i1, i2, i3, i4, i5⟩ := ino_cells (g := u) (hD2.at 0 rfl)
  have HD2 := Lib.hid hD2
  clear hD2
  rcases HC.out with ⟨rfl, hgr⟩ | ⟨rfl, ⟨q1, q2⟩, hgr⟩ | ⟨rfl, hq, hgr⟩
  · have HR := Lib.hid hgr
    clear hgr HC i0 i1 i2 i3 i4 i5
    go_wp2_with fail
    refine (HD2.out.untie (o.pt, o.pr) o.name hn).mono ?_
    rintro e w3 ⟨rfl, hD3⟩
    clear d0 d1 d2 d3 d4 d5 d6 d7 d8 d9 d10 d11 d12 d13 HD2
    obtain ⟨d0, d1, d2, d3, d4, d5, d6, d7, d8, d9, d10, d11, d12, d13⟩ := deed_cells (g := W0.heap.size) (hD3.at 1 rfl)
    go_wp2_with fail
    refine (hD3.tie (o.tt, o.tr) o.new (o.it, o.ir) hn2).mono ?_
    rintro e w4 ⟨rfl, hD4⟩
    go_wp2_with fail
    exact bodyPost_end (results_none rfl _ _ _) rfl ⟨rfl, by rw [HR.out]; exact hD4.fin⟩
  · have HR := Lib.hid hgr
    clear hgr HC
    go_wp2_with fail
    exact bodyPost_ret (results_none rfl _ _ _) rfl ⟨rfl, by rw [HR.out]; exact HD2.out.fin⟩
  · have HR := Lib.hid hgr
    obtain ⟨r1, hr1⟩ : ∃ r1, (x.id.1 == o.it) = r1 := ⟨_, rfl⟩
    obtain ⟨r2, hr2⟩ : ∃ r2, (x.id.2 == o.ir) = r2 := ⟨_, rfl⟩
    rw [hr1, hr2] at hq
    have hr' : (r1 && r2) = false := by rcases hq with q | q <;> rw [q] <;> simp
    clear hgr HC hq
    cases r1 <;> cases r2
    case true.true => cases hr'
    all_goals
      clear hr'
      go_wp2_with fail
      refine (HD2.out.remove o (o.tt, o.tr) o.new hn2).mono ?_
      rintro e w3 ⟨rfl, hD3⟩
      clear d0 d1 d2 d3 d4 d5 d6 d7 d8 d9 d10 d11 d12 d13 i0 i1 i2 i3 i4 i5 HD2 hr1 hr2
      obtain ⟨d0, d1, d2, d3, d4, d5, d6, d7, d8, d9, d10, d11, d12, d13⟩ := deed_cells (g := W0.heap.size) (hD3.at 1 rfl)
      go_wp2_with fail
      refine (hD3.untie (o.pt, o.pr) o.name hn).mono ?_
      rintro e w4 ⟨rfl, hD4⟩
      clear d0 d1 d2 d3 d4 d5 d6 d7 d8 d9 d10 d11 d12 d13 hD3
      obtain ⟨d0, d1, d2, d3, d4, d5, d6, d7, d8, d9, d10, d11, d12, d13⟩ := deed_cells (g := W0.heap.size) (hD4.at 1 rfl)
      go_wp2_with fail
      refine (hD4.tie (o.tt, o.tr) o.new (o.it, o.ir) hn2).mono ?_
      rintro e w5 ⟨rfl, hD5⟩
      go_wp2_with fail
      exact bodyPost_end (results_none rfl _ _ _) rfl ⟨rfl, by rw [HR.out]; exact hD5.fin⟩

end Go.Proofs.YtbkijfhfjhpebaaGreatDoor

/-
  The landed apply: what sets an inode's contents, or its mode.
-/
namespace Go.Proofs.YtbkijfhfjhpebaaGreatDoor
open Go.RowKit StampMath GraphMath OpMath PackMath ExtentMath

theorem ino_store5 {W : World} {u : Nat} {x : Ino} {T : TypeId} (h : W.heap[u]? = some (.cells (inoA x) T (0, 0))) (d : ByteArray) : (W.setCell ⟨u, 5, none⟩ (.string d)).heap[u]? = some (.cells (inoA { x with data := d }) T (0, 0)) := by
  rw [heap_setCell_same _ _ _ _ _ _ h]
  rfl

theorem ino_store4 {W : World} {u : Nat} {x : Ino} {T : TypeId} (h : W.heap[u]? = some (.cells (inoA x) T (0, 0))) (m : Int) : (W.setCell ⟨u, 4, none⟩ (.int .i64 m)).heap[u]? = some (.cells (inoA { x with mode := m }) T (0, 0)) := by
  rw [heap_setCell_same _ _ _ _ _ _ h]
  rfl

theorem but_cell (W : World) (u i : Nat) (v : Value) : But (fun k => k = u) W (W.setCell ⟨u, i, none⟩ v) := (But.refl (fun k => k = u) W).setCell (p := ⟨u, i, none⟩) (Or.inl rfl) v

set_option maxRecDepth 100000 in
set_option maxHeartbeats 1600000 in
theorem set_code' (H : GraphHave) (XH : ExtentHave) (w W0 : World) (N : Nat → Prop) (a : Addr) (g : Gr) (o : Opn) (h : GX H w W0 N a g) (hf : g.fine) (hw : whyA g o = 0) (ho : OpFit o) (hk : 8 ≤ o.k) (hk10 : o.k ≤ 10) :
    Calls Tryz.prog 90 #[.agg (deedA a o)] W0 (Did H w W0 N a (madeA g o)) := by
  have hm := whyA_may hw
  have hid := kept_id h.ok hw hk hk10
  have hD0 := (DX.start h).alloc (.cells (deedA a o) 110) rfl
  have hsz := inoG_small hf (oIno o)
  obtain ⟨x, hx⟩ : ∃ x, x = inoG g (oIno o) := ⟨_, rfl⟩
  have hcase : ((o.k == 8) = true ∧ o.data.size ≤ 2000 ∧ madeA g o = (setG g (oIno o) x.mode (wR x.data o.off o.data).1).1) ∨ ((o.k == 8) = false ∧ (o.k == 9) = true ∧ madeA g o = (setG g (oIno o) x.mode (tR x.data o.off).1).1) ∨
      ((o.k == 8) = false ∧ (o.k == 9) = false ∧ (o.k == 10) = true ∧ madeA g o = (setG g (oIno o) o.off x.data).1) := by
    rw [hx]
    rcases show o.k = 8 ∨ o.k = 9 ∨ o.k = 10 by omega with q | q | q
    · exact Or.inl ⟨by rw [q]; rfl, by have := data_small hm q; omega, write_made hf hm q⟩
    · exact Or.inr (Or.inl ⟨by rw [q]; rfl, by rw [q]; rfl, trunc_made hf hm q⟩)
    · exact Or.inr (Or.inr ⟨by rw [q]; rfl, by rw [q]; rfl, by rw [q]; rfl, mode_made q⟩)
  rw [← hx] at hid hsz
  have hxd : x.data.size ≤ 2000 := by omega
  have HC := Lib.hid hcase
  have HX := Lib.hid hx
  have HF := Lib.hid ho
  have HI := Lib.hid hid
  generalize madeA g o = gr at HC ⊢
  clear hcase hx h hf hw hk hk10 hm hsz ho hid
  unfold Did
  go_enter Tryz.func90, Tryz.ntmps90
  go_upto_region 1 with fail
  change Code.wp _ _ _ _ (W0.alloc (.cells (deedA a o) 110))
  generalize W0.alloc (.cells (deedA a o) 110) = w0 at hD0 ⊢
  obtain ⟨d0, d1, d2, d3, d4, d5, d6, d7, d8, d9, d10, d11, d12, d13⟩ := deed_cells (g := W0.heap.size) (hD0.at 0 rfl)
  go_wp2_with fail
  refine (hD0.get (o.it, o.ir)).mono ?_
  rintro e w1 ⟨rfl, hD1⟩
  rw [show (getG g (o.it, o.ir)).getD noIno = x from HX.out.symm]
  unfold inoA
  generalize (getG g (o.it, o.ir)).isSome = is
  clear d0 d1 d2 d3 d4 d5 d6 d7 d8 d9 d10 d11 d12 d13 hD0 HX
  go_upto_region 2 with fail
  obtain ⟨u, hu⟩ : ∃ u, u = w1.heap.size := ⟨_, rfl⟩
  have hlu : W0.heap.size < u := by rw [hu]; exact heap_lt (hD1.at 0 rfl)
  have hD2 := hD1.alloc (.cells (inoA x) 32) hu.symm
  change Code.wp _ _ _ _ (w1.alloc (.cells (inoA x) 32))
  rw [← hu]
  generalize w1.alloc (.cells (inoA x) 32) = w2 at hD2 ⊢
  clear hD1 hu
  obtain ⟨d0, d1, d2, d3, d4, d5, d6, d7, d8, d9, d10, d11, d12, d13⟩ := deed_cells (g := W0.heap.size) (hD2.at 1 rfl)
  obtain ⟨i0, i1, i2, i3, i4, i5⟩ := ino_cells (g := u) (hD2.at 0 rfl)
  obtain ⟨f0, f1, f2, f3, f4, f5⟩ := ino_free (g := u) (hD2.at 0 rfl)
  have HD2 := Lib.hid hD2
  clear hD2
  rcases HC.out with ⟨k8, hds, hgr⟩ | ⟨k8, k9, hgr⟩ | ⟨k8, k9, k10, hgr⟩
  · have HR := Lib.hid hgr
    clear hgr HC
    go_wp2_with fail
    refine (XH.write x.data o.off o.data _ hxd hds HF.out.ok.off).mono ?_
    rintro e w3 ⟨rfl, hb3⟩
    have hD3 := HD2.out.step hb3
    obtain ⟨dd, hdd⟩ : ∃ dd, dd = (wR x.data o.off o.data).1 := ⟨_, rfl⟩
    generalize (wR x.data o.off o.data).2 = er
    rw [← hdd] at HR ⊢
    clear d0 d1 d2 d3 d4 d5 d6 d7 d8 d9 d10 d11 d12 d13 i0 i1 i2 i3 i4 i5 f0 f1 f2 f3 f4 f5 HD2 hb3 hdd
    obtain ⟨i0, i1, i2, i3, i4, i5⟩ := ino_cells (g := u) (hD3.at 0 rfl)
    obtain ⟨f0, f1, f2, f3, f4, f5⟩ := ino_free (g := u) (hD3.at 0 rfl)
    have hD4 := hD3.put (fun p hp => by simp at hp; rw [hp]; dsimp only; omega) (but_cell w3 u 5 (.string dd)) (ino_store5 (hD3.at 0 rfl) dd)
    have HD4 := Lib.hid hD4
    clear hD3 hD4
    go_upto_region 9 with fail
    change Code.wp _ _ _ _ (w3.setCell ⟨u, 5, none⟩ (.string dd))
    generalize w3.setCell ⟨u, 5, none⟩ (.string dd) = w4 at HD4 ⊢
    clear i0 i1 i2 i3 i4 i5 f0 f1 f2 f3 f4 f5
    obtain ⟨d0, d1, d2, d3, d4, d5, d6, d7, d8, d9, d10, d11, d12, d13⟩ := deed_cells (g := W0.heap.size) (HD4.out.at 1 rfl)
    obtain ⟨i0, i1, i2, i3, i4, i5⟩ := ino_cells (g := u) (HD4.out.at 0 rfl)
    dsimp only at i0 i1 i2 i3 i4 i5
    go_wp2_with fail
    refine (HD4.out.set x.id x.mode dd).mono ?_
    rintro e w5 ⟨rfl, hD5⟩
    rw [HI.out] at hD5
    go_wp2_with fail
    exact bodyPost_end (results_none rfl _ _ _) rfl ⟨rfl, by rw [HR.out]; exact hD5.fin⟩
  · have HR := Lib.hid hgr
    clear hgr HC
    go_wp2_with fail
    refine (XH.trunc x.data o.off _ hxd HF.out.ok.off).mono ?_
    rintro e w3 ⟨rfl, hb3⟩
    have hD3 := HD2.out.step hb3
    obtain ⟨dd, hdd⟩ : ∃ dd, dd = (tR x.data o.off).1 := ⟨_, rfl⟩
    generalize (tR x.data o.off).2 = er
    rw [← hdd] at HR ⊢
    clear d0 d1 d2 d3 d4 d5 d6 d7 d8 d9 d10 d11 d12 d13 i0 i1 i2 i3 i4 i5 f0 f1 f2 f3 f4 f5 HD2 hb3 hdd
    obtain ⟨i0, i1, i2, i3, i4, i5⟩ := ino_cells (g := u) (hD3.at 0 rfl)
    obtain ⟨f0, f1, f2, f3, f4, f5⟩ := ino_free (g := u) (hD3.at 0 rfl)
    have hD4 := hD3.put (fun p hp => by simp at hp; rw [hp]; dsimp only; omega) (but_cell w3 u 5 (.string dd)) (ino_store5 (hD3.at 0 rfl) dd)
    have HD4 := Lib.hid hD4
    clear hD3 hD4
    go_upto_region 9 with fail
    change Code.wp _ _ _ _ (w3.setCell ⟨u, 5, none⟩ (.string dd))
    generalize w3.setCell ⟨u, 5, none⟩ (.string dd) = w4 at HD4 ⊢
    clear i0 i1 i2 i3 i4 i5 f0 f1 f2 f3 f4 f5
    obtain ⟨d0, d1, d2, d3, d4, d5, d6, d7, d8, d9, d10, d11, d12, d13⟩ := deed_cells (g := W0.heap.size) (HD4.out.at 1 rfl)
    obtain ⟨i0, i1, i2, i3, i4, i5⟩ := ino_cells (g := u) (HD4.out.at 0 rfl)
    dsimp only at i0 i1 i2 i3 i4 i5
    go_wp2_with fail
    refine (HD4.out.set x.id x.mode dd).mono ?_
    rintro e w5 ⟨rfl, hD5⟩
    rw [HI.out] at hD5
    go_wp2_with fail
    exact bodyPost_end (results_none rfl _ _ _) rfl ⟨rfl, by rw [HR.out]; exact hD5.fin⟩
  · have HR := Lib.hid hgr
    have hD4 := HD2.out.put (fun p hp => by simp at hp; rw [hp]; dsimp only; omega) (but_cell w2 u 4 (.int .i64 o.off)) (ino_store4 (HD2.out.at 0 rfl) o.off)
    have HD4 := Lib.hid hD4
    clear hgr HC HD2 hD4
    go_upto_region 9 with fail
    change Code.wp _ _ _ _ (w2.setCell ⟨u, 4, none⟩ (.int .i64 o.off))
    generalize w2.setCell ⟨u, 4, none⟩ (.int .i64 o.off) = w4 at HD4 ⊢
    clear d0 d1 d2 d3 d4 d5 d6 d7 d8 d9 d10 d11 d12 d13 i0 i1 i2 i3 i4 i5 f0 f1 f2 f3 f4 f5
    obtain ⟨d0, d1, d2, d3, d4, d5, d6, d7, d8, d9, d10, d11, d12, d13⟩ := deed_cells (g := W0.heap.size) (HD4.out.at 1 rfl)
    obtain ⟨i0, i1, i2, i3, i4, i5⟩ := ino_cells (g := u) (HD4.out.at 0 rfl)
    dsimp only at i0 i1 i2 i3 i4 i5
    go_wp2_with fail
    refine (HD4.out.set x.id o.off x.data).mono ?_
    rintro e w5 ⟨rfl, hD5⟩
    rw [HI.out] at hD5
    go_wp2_with fail
    exact bodyPost_end (results_none rfl _ _ _) rfl ⟨rfl, by rw [HR.out]; exact hD5.fin⟩

end Go.Proofs.YtbkijfhfjhpebaaGreatDoor
