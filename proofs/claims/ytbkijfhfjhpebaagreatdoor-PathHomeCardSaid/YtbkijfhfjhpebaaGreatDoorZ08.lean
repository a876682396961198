/-
  The landed apply: the inode of an operation's target; why an inode can't stand where a target does.
-/
import Derived.Test.YtbkijfhfjhpebaaGreatDoorZ02
import Derived.Test.YtbkijfhfjhpebaaGreatDoorZ07
import Derived.Test.YtbkijfhfjhpebaaGreatDoorZ00
import Derived.Laws.EntriesVeiled
import Derived.Test.YtbkijfhfjhpebaaGreatDoorZ04
import Derived.Test.YtbkijfhfjhpebaaGreatDoorZ01
import Derived.Test.YtbkijfhfjhpebaaGreatDoorRows
import Derived.Lib.Bytealg
import Derived.Test.YtbkijfhfjhpebaaGreatDoorZ04
import Derived.Deep.DeepCutAuto
import Derived.Deep.MidRow
import Derived.BigRegion
namespace Go.Proofs.YtbkijfhfjhpebaaGreatDoor
open Go.RowKit StampMath GraphMath OpMath PackMath

set_option maxRecDepth 100000 in
set_option maxHeartbeats 1600000 in
theorem target_code (H : GraphHave) (a : Addr) (S : Nat → Prop) (g : Gr) (o : Opn) (w : World) (h : H.rep w S a g) (hg : g.ok) (hn : o.new.size ≤ maxLen) :
    Calls Tryz.prog 131 #[.agg (deedA a o)] w fun e w' => e = .returned (.tuple #[.agg (inoA ((aimG g o).getD noIno)), .bool (aimG g o).isSome]) ∧ Below w.heap.size w w' := by
  obtain ⟨t, ht⟩ : ∃ t, t = (lookE g.E (oTo o) o.new).getD (0, 0) := ⟨_, rfl⟩
  obtain ⟨b, hb⟩ : ∃ b, b = (lookE g.E (oTo o) o.new).isSome := ⟨_, rfl⟩
  obtain ⟨x, hx⟩ : ∃ x, x = (getG g t).getD noIno := ⟨_, rfl⟩
  obtain ⟨xi, hxi⟩ : ∃ xi, xi = (getG g t).isSome := ⟨_, rfl⟩
  have LK : Hid (∀ W : World, Below w.heap.size w W → Calls Tryz.prog 15 #[.pointer (some a), .agg #[.int .i64 o.tt, .int .i64 o.tr], .string o.new] W fun e w' => e = .returned (.tuple #[.agg #[.int .i64 t.1, .int .i64 t.2], .bool b]) ∧ Below W.heap.size W w') := Lib.hid fun W hW => by
    rw [ht, hb]
    exact H.look a S g (oTo o) o.new W (rep_below h hW) hg hn
  have GT : Hid (∀ W : World, Below w.heap.size w W → Calls Tryz.prog 12 #[.pointer (some a), .agg #[.int .i64 t.1, .int .i64 t.2]] W fun e w' => e = .returned (.tuple #[.agg #[.int .i64 x.id.1, .int .i64 x.id.2, .int .i64 x.kind, .int .i64 x.links, .int .i64 x.mode, .string x.data], .bool xi]) ∧ Below W.heap.size W w') := Lib.hid fun W hW => by
    rw [hx, hxi]
    exact H.get a S g t W (rep_below h hW) hg
  have hcase : (b = false ∧ aimG g o = none) ∨ (b = true ∧ (aimG g o).getD noIno = x ∧ (aimG g o).isSome = xi) := by
    unfold aimG targetG
    cases hq : lookE g.E (oTo o) o.new with
    | none =>
      rw [hq] at hb
      exact Or.inl ⟨hb, rfl⟩
    | some s =>
      rw [hq] at hb ht
      have ht' : t = s := ht
      exact Or.inr ⟨hb, by rw [hx, ht']; rfl, by rw [hxi, ht']; rfl⟩
  obtain ⟨r, hr0⟩ : ∃ r, r = (aimG g o).getD noIno := ⟨_, rfl⟩
  obtain ⟨ri, hri⟩ : ∃ ri, ri = (aimG g o).isSome := ⟨_, rfl⟩
  rw [← hr0, ← hri]
  have hcase : (b = false ∧ r = noIno ∧ ri = false) ∨ (b = true ∧ r = x ∧ ri = xi) := by
    rcases hcase with ⟨q1, q2⟩ | ⟨q1, q2, q3⟩
    · exact Or.inl ⟨q1, by rw [hr0, q2]; rfl, by rw [hri, q2]; rfl⟩
    · exact Or.inr ⟨q1, by rw [hr0, q2], by rw [hri, q3]⟩
  clear ht hb hx hxi h hg hn hr0 hri
  have hb0 : Held w [(w.heap.size + 1, .cells (inoA noIno) 32), (w.heap.size, .cells (deedA a o) 110)] ((w.alloc (.cells (deedA a o) 110)).alloc (.cells (inoA noIno) 32)) :=
    ((Held.refl w).alloc (.cells (deedA a o) 110) rfl).alloc (.cells (inoA noIno) 32) (by simp)
  have HC := Lib.hid hcase
  clear hcase
  go_enter Tryz.func131, Tryz.ntmps131
  go_upto_region 1 with fail
  change Code.wp _ _ _ _ ((w.alloc (.cells (deedA a o) 110)).alloc (.cells (inoA noIno) 32))
  generalize (w.alloc (.cells (deedA a o) 110)).alloc (.cells (inoA noIno) 32) = w0 at hb0 ⊢
  obtain ⟨d0, d1, d2, d3, d4, d5, d6, d7, d8, d9, d10, d11, d12, d13⟩ := deed_cells (g := w.heap.size) (hb0.at 1 rfl)
  go_wp2_with fail
  refine (LK.out _ hb0.below).mono ?_
  rintro e w1 ⟨rfl, hb1⟩
  have hH1 := hb0.step hb1
  clear hb0 hb1 d0 d1 d2 d3 d4 d5 d6 d7 d8 d9 d10 d11 d12 d13 LK
  go_upto_region 2 with fail
  obtain ⟨u, hu⟩ : ∃ u, u = w1.heap.size := ⟨_, rfl⟩
  have hlu : w.heap.size + 1 < u := by rw [hu]; exact heap_lt (hH1.at 0 rfl)
  have hH2 := hH1.alloc (.cells (stA t) 24) hu.symm
  change Code.wp _ _ _ _ (w1.alloc (.cells (stA t) 24))
  rw [← hu]
  generalize w1.alloc (.cells (stA t) 24) = w2 at hH2 ⊢
  clear hH1 hu
  obtain ⟨d0, d1, d2, d3, d4, d5, d6, d7, d8, d9, d10, d11, d12, d13⟩ := deed_cells (g := w.heap.size) (hH2.at 2 rfl)
  obtain ⟨s0, s1⟩ := two_cells (g := u) (hH2.at 0 rfl)
  obtain ⟨i0, i1, i2, i3, i4, i5⟩ := ino_cells (g := w.heap.size + 1) (hH2.at 1 rfl)
  obtain ⟨f0, f1, f2, f3, f4, f5⟩ := ino_free (g := w.heap.size + 1) (hH2.at 1 rfl)
  have P := Lib.hid (ino_put (g := w.heap.size + 1) (hH2.at 1 rfl))
  have HB := Lib.hid hH2.below
  rcases HC.out with ⟨rfl, hnm, hni⟩ | ⟨rfl, hnm, hni⟩
  · have HN := Lib.hid hnm
    have HI := Lib.hid hni
    clear hH2 HC hnm hni GT
    obtain ⟨z0, z1, z2, z3, z4, z5⟩ := ino_cells (P.out noIno)
    have HBB := Lib.hid (below_six HB.out (g := w.heap.size + 1) (by omega) (.int .i64 noIno.id.1) (.int .i64 noIno.id.2) (.int .i64 noIno.kind) (.int .i64 noIno.links) (.int .i64 noIno.mode) (.string noIno.data))
    simp only [noIno] at i0 i1 i2 i3 i4 i5 z0 z1 z2 z3 z4 z5
    go_wp2_with fail
    exact bodyPost_ret (v := .tuple #[.agg (inoA noIno), .bool false]) (by simp [results, Tryz.results131, go_sem, inoA, noIno, z0, z1, z2, z3, z4, z5]) rfl ⟨by rw [HN.out, HI.out], HBB.out⟩
  · have HN := Lib.hid hnm
    have HI := Lib.hid hni
    clear HC hnm hni P HB i0 i1 i2 i3 i4 i5 f0 f1 f2 f3 f4 f5
    have HH2 := Lib.hid hH2
    clear hH2
    go_wp2_with fail
    refine (GT.out _ HH2.out.below).mono ?_
    rintro e w3 ⟨rfl, hb3⟩
    have hH3 := HH2.out.step hb3
    obtain ⟨i0, i1, i2, i3, i4, i5⟩ := ino_cells (g := w.heap.size + 1) (hH3.at 1 rfl)
    obtain ⟨f0, f1, f2, f3, f4, f5⟩ := ino_free (g := w.heap.size + 1) (hH3.at 1 rfl)
    have P := Lib.hid (ino_put (g := w.heap.size + 1) (hH3.at 1 rfl) x)
    have HBB := Lib.hid (below_six hH3.below (g := w.heap.size + 1) (by omega) (.int .i64 x.id.1) (.int .i64 x.id.2) (.int .i64 x.kind) (.int .i64 x.links) (.int .i64 x.mode) (.string x.data))
    clear HH2 hb3 hH3 GT d0 d1 d2 d3 d4 d5 d6 d7 d8 d9 d10 d11 d12 d13 s0 s1
    obtain ⟨z0, z1, z2, z3, z4, z5⟩ := ino_cells P.out
    go_wp2_with fail
    exact bodyPost_ret (v := .tuple #[.agg (inoA x), .bool xi]) (by simp [results, Tryz.results131, go_sem, inoA, z0, z1, z2, z3, z4, z5]) rfl ⟨by rw [HN.out, HI.out], HBB.out⟩

set_option maxRecDepth 100000 in
set_option maxHeartbeats 1600000 in
theorem replace_code (H : GraphHave) (a : Addr) (S : Nat → Prop) (g : Gr) (o : Opn) (x t : Ino) (w : World) (h : H.rep w S a g) (hg : g.ok) :
    Calls Tryz.prog 151 #[.agg (deedA a o), .agg (inoA x), .agg (inoA t)] w fun e w' => e = .returned (.int .i64 (replaceB x.kind t.kind ((listE g.E t.id).length : Int))) ∧ Below w.heap.size w w' := by
  have FU : Hid (∀ W : World, Below w.heap.size w W → Calls Tryz.prog 149 #[.agg (deedA a o), .agg #[.int .i64 t.id.1, .int .i64 t.id.2]] W fun e w' => e = .returned (.bool (decide (0 < (listE g.E t.id).length))) ∧ Below W.heap.size W w') := Lib.hid fun W hW => fullQ_code H a S g o t.id W (rep_below h hW) hg
  have DX : Hid (∀ W : World, Calls Tryz.prog 147 #[.agg #[.int .i64 x.id.1, .int .i64 x.id.2, .int .i64 x.kind, .int .i64 x.links, .int .i64 x.mode, .string x.data]] W fun e w' => e = .returned (.bool (x.kind == 1)) ∧ Below W.heap.size W w') := Lib.hid (dirQ_code x)
  have DT : Hid (∀ W : World, Calls Tryz.prog 147 #[.agg #[.int .i64 t.id.1, .int .i64 t.id.2, .int .i64 t.kind, .int .i64 t.links, .int .i64 t.mode, .string t.data]] W fun e w' => e = .returned (.bool (t.kind == 1)) ∧ Below W.heap.size W w') := Lib.hid (dirQ_code t)
  obtain ⟨fu, hfu⟩ : ∃ fu, fu = decide (0 < (listE g.E t.id).length) := ⟨_, rfl⟩
  obtain ⟨kx, hkx⟩ : ∃ kx, kx = (x.kind == 1) := ⟨_, rfl⟩
  obtain ⟨kt, hkt⟩ : ∃ kt, kt = (t.kind == 1) := ⟨_, rfl⟩
  rw [← hfu] at FU
  rw [← hkx] at DX
  rw [← hkt] at DT
  have hr : replaceB x.kind t.kind ((listE g.E t.id).length : Int) = if kt = true ∧ kx = false then 5 else if kx = true ∧ kt = false then 6 else if fu = true then 7 else 0 := by
    unfold replaceB
    rw [hfu, hkx, hkt]
    simp
  obtain ⟨r, hr'⟩ : ∃ r, r = replaceB x.kind t.kind ((listE g.E t.id).length : Int) := ⟨_, rfl⟩
  rw [← hr'] at hr ⊢
  have HR := Lib.hid hr
  have hb0 : Held w [(w.heap.size + 2, .cells (inoA t) 32), (w.heap.size + 1, .cells (inoA x) 32), (w.heap.size, .cells (deedA a o) 110)] (((w.alloc (.cells (deedA a o) 110)).alloc (.cells (inoA x) 32)).alloc (.cells (inoA t) 32)) :=
    (((Held.refl w).alloc (.cells (deedA a o) 110) rfl).alloc (.cells (inoA x) 32) (by simp)).alloc (.cells (inoA t) 32) (by simp)
  have HH := Lib.hid hb0
  clear h hg hfu hkx hkt hr hr' hb0
  go_enter Tryz.func151, Tryz.ntmps151
  go_upto_region 1 with fail
  change Code.wp _ _ _ _ (((w.alloc (.cells (deedA a o) 110)).alloc (.cells (inoA x) 32)).alloc (.cells (inoA t) 32))
  generalize ((w.alloc (.cells (deedA a o) 110)).alloc (.cells (inoA x) 32)).alloc (.cells (inoA t) 32) = w0 at HH ⊢
  have O := Lib.hid (fun y => deed_cells (g := w.heap.size) (((later_below w0 y).block _ (heap_lt (HH.out.at 2 rfl))).trans (HH.out.at 2 rfl)))
  have d0 := fun y => (O.out y).1
  have d1 := fun y => (O.out y).2.1
  have d2 := fun y => (O.out y).2.2.1
  have d3 := fun y => (O.out y).2.2.2.1
  have d4 := fun y => (O.out y).2.2.2.2.1
  have d5 := fun y => (O.out y).2.2.2.2.2.1
  have d6 := fun y => (O.out y).2.2.2.2.2.2.1
  have d7 := fun y => (O.out y).2.2.2.2.2.2.2.1
  have d8 := fun y => (O.out y).2.2.2.2.2.2.2.2.1
  have d9 := fun y => (O.out y).2.2.2.2.2.2.2.2.2.1
  have d10 := fun y => (O.out y).2.2.2.2.2.2.2.2.2.2.1
  have d11 := fun y => (O.out y).2.2.2.2.2.2.2.2.2.2.2.1
  have d12 := fun y => (O.out y).2.2.2.2.2.2.2.2.2.2.2.2.1
  have d13 := fun y => (O.out y).2.2.2.2.2.2.2.2.2.2.2.2.2
  have IX := Lib.hid (fun y => ino_cells (g := w.heap.size + 1) (((later_below w0 y).block _ (heap_lt (HH.out.at 1 rfl))).trans (HH.out.at 1 rfl)))
  have IT := Lib.hid (fun y => ino_cells (g := w.heap.size + 2) (((later_below w0 y).block _ (heap_lt (HH.out.at 0 rfl))).trans (HH.out.at 0 rfl)))
  have x0 := fun y => (IX.out y).1
  have x1 := fun y => (IX.out y).2.1
  have x2 := fun y => (IX.out y).2.2.1
  have x3 := fun y => (IX.out y).2.2.2.1
  have x4 := fun y => (IX.out y).2.2.2.2.1
  have x5 := fun y => (IX.out y).2.2.2.2.2
  have t0 := fun y => (IT.out y).1
  have t1 := fun y => (IT.out y).2.1
  have t2 := fun y => (IT.out y).2.2.1
  have t3 := fun y => (IT.out y).2.2.2.1
  have t4 := fun y => (IT.out y).2.2.2.2.1
  have t5 := fun y => (IT.out y).2.2.2.2.2
  have HB := Lib.hid HH.out.below
  have FU' : Hid (∀ y, Calls Tryz.prog 149 #[.agg #[.pointer (some a), .int .i64 o.st, .int .i64 o.sr, .int .i64 o.k, .int .i64 o.pt, .int .i64 o.pr, .int .i64 o.it, .int .i64 o.ir, .int .i64 o.tt, .int .i64 o.tr, .string o.name, .string o.new, .int .i64 o.off, .string o.data], .agg #[.int .i64 t.id.1, .int .i64 t.id.2]] (later w0 y) fun e w'' => e = .returned (.bool fu) ∧ ∃ z, w'' = later w0 z) := Lib.hid fun y => later_call (FU.out _ (below_step HB.out (later_below w0 y)))
  have DX' : Hid (∀ y, Calls Tryz.prog 147 #[.agg #[.int .i64 x.id.1, .int .i64 x.id.2, .int .i64 x.kind, .int .i64 x.links, .int .i64 x.mode, .string x.data]] (later w0 y) fun e w'' => e = .returned (.bool kx) ∧ ∃ z, w'' = later w0 z) := Lib.hid fun y => later_call (DX.out _)
  have DT' : Hid (∀ y, Calls Tryz.prog 147 #[.agg #[.int .i64 t.id.1, .int .i64 t.id.2, .int .i64 t.kind, .int .i64 t.links, .int .i64 t.mode, .string t.data]] (later w0 y) fun e w'' => e = .returned (.bool kt) ∧ ∃ z, w'' = later w0 z) := Lib.hid fun y => later_call (DT.out _)
  rw [show w0 = later w0 w0 from (later_of (Below.refl _ _)).symm]
  clear HH O IX IT FU DX DT
  go_wp2_with fail
  iterate 6
    all_goals first
      | ((fail_if_success (go_at_call 149)); (fail_if_success (go_at_call 147)); go_ret; exact ⟨by rw [HR.out]; simp, below_step HB.out (later_below w0 _)⟩)
      | (go_at_call 149; (with_reducible refine (FU'.out _).mono ?_); rintro z w5 ⟨rfl, y5, rfl⟩; cases fu <;> go_wp2_with fail)
      | (go_at_call 147; (with_reducible refine (DX'.out _).mono ?_); rintro z w5 ⟨rfl, y5, rfl⟩; (first | (cases kx <;> go_wp2_with fail) | go_wp2_with fail))
      | (go_at_call 147; (with_reducible refine (DT'.out _).mono ?_); rintro z w5 ⟨rfl, y5, rfl⟩; (first | (cases kt <;> go_wp2_with fail) | go_wp2_with fail))
      | skip

end Go.Proofs.YtbkijfhfjhpebaaGreatDoor

/-
  The landed apply: why an entry can't be another one.
-/
namespace Go.Proofs.YtbkijfhfjhpebaaGreatDoor
open Go.RowKit StampMath GraphMath OpMath PackMath

set_option maxRecDepth 100000 in
set_option maxHeartbeats 3200000 in
theorem whyRename_code (H : GraphHave) (a : Addr) (S : Nat → Prop) (g : Gr) (o : Opn) (w : World) (h : H.rep w S a g) (hg : g.ok) (hm : mayO o = true) (hk : o.k = 7) (hn : o.name.size ≤ maxLen) (hn2 : o.new.size ≤ maxLen) :
    Calls Tryz.prog 121 #[.agg (deedA a o)] w fun e w' => e = .returned (.int .i64 (whyA g o)) ∧ Below w.heap.size w w' := by
  obtain ⟨r, hr⟩ : ∃ r, r = whyA g o := ⟨_, rfl⟩
  rw [← hr]
  obtain ⟨x, hx⟩ : ∃ x, x = (namedG g o).getD noIno := ⟨_, rfl⟩
  obtain ⟨b, hb⟩ : ∃ b, b = (namedG g o).isSome := ⟨_, rfl⟩
  obtain ⟨tw, htw⟩ : ∃ tw, tw = (getG g (oTo o)).getD noIno := ⟨_, rfl⟩
  obtain ⟨bt, hbt⟩ : ∃ bt, bt = (getG g (oTo o)).isSome := ⟨_, rfl⟩
  obtain ⟨tg, htg⟩ : ∃ tg, tg = (aimG g o).getD noIno := ⟨_, rfl⟩
  obtain ⟨bg, hbg⟩ : ∃ bg, bg = (aimG g o).isSome := ⟨_, rfl⟩
  obtain ⟨kt, hkt⟩ : ∃ kt, kt = (tw.kind == 1) := ⟨_, rfl⟩
  obtain ⟨kd, hkd⟩ : ∃ kd, kd = (x.kind == 1) := ⟨_, rfl⟩
  obtain ⟨un, hun⟩ : ∃ un, un = underG g tw.id x.id := ⟨_, rfl⟩
  obtain ⟨rr, hrr⟩ : ∃ rr, rr = replaceB x.kind tg.kind ((listE g.E tg.id).length : Int) := ⟨_, rfl⟩
  have NA : Hid (∀ W : World, Below w.heap.size w W → Calls Tryz.prog 148 #[.agg #[.pointer (some a), .int .i64 o.st, .int .i64 o.sr, .int .i64 o.k, .int .i64 o.pt, .int .i64 o.pr, .int .i64 o.it, .int .i64 o.ir, .int .i64 o.tt, .int .i64 o.tr, .string o.name, .string o.new, .int .i64 o.off, .string o.data]] W fun e w' => e = .returned (.tuple #[.agg #[.int .i64 x.id.1, .int .i64 x.id.2, .int .i64 x.kind, .int .i64 x.links, .int .i64 x.mode, .string x.data], .bool b]) ∧ Below W.heap.size W w') := Lib.hid fun W hW => by
    rw [hx, hb]
    exact named_code H a S g o W (rep_below h hW) hg hn
  have GT : Hid (∀ W : World, Below w.heap.size w W → Calls Tryz.prog 12 #[.pointer (some a), .agg #[.int .i64 o.tt, .int .i64 o.tr]] W fun e w' => e = .returned (.tuple #[.agg #[.int .i64 tw.id.1, .int .i64 tw.id.2, .int .i64 tw.kind, .int .i64 tw.links, .int .i64 tw.mode, .string tw.data], .bool bt]) ∧ Below W.heap.size W w') := Lib.hid fun W hW => by
    rw [htw, hbt]
    exact H.get a S g (oTo o) W (rep_below h hW) hg
  have TG : Hid (∀ W : World, Below w.heap.size w W → Calls Tryz.prog 131 #[.agg #[.pointer (some a), .int .i64 o.st, .int .i64 o.sr, .int .i64 o.k, .int .i64 o.pt, .int .i64 o.pr, .int .i64 o.it, .int .i64 o.ir, .int .i64 o.tt, .int .i64 o.tr, .string o.name, .string o.new, .int .i64 o.off, .string o.data]] W fun e w' => e = .returned (.tuple #[.agg #[.int .i64 tg.id.1, .int .i64 tg.id.2, .int .i64 tg.kind, .int .i64 tg.links, .int .i64 tg.mode, .string tg.data], .bool bg]) ∧ Below W.heap.size W w') := Lib.hid fun W hW => by
    rw [htg, hbg]
    exact target_code H a S g o W (rep_below h hW) hg hn2
  have DT : Hid (∀ W : World, Below w.heap.size w W → Calls Tryz.prog 147 #[.agg #[.int .i64 tw.id.1, .int .i64 tw.id.2, .int .i64 tw.kind, .int .i64 tw.links, .int .i64 tw.mode, .string tw.data]] W fun e w' => e = .returned (.bool kt) ∧ Below W.heap.size W w') := Lib.hid fun W hW => by
    rw [hkt]
    exact dirQ_code tw W
  have DX : Hid (∀ W : World, Below w.heap.size w W → Calls Tryz.prog 147 #[.agg #[.int .i64 x.id.1, .int .i64 x.id.2, .int .i64 x.kind, .int .i64 x.links, .int .i64 x.mode, .string x.data]] W fun e w' => e = .returned (.bool kd) ∧ Below W.heap.size W w') := Lib.hid fun W hW => by
    rw [hkd]
    exact dirQ_code x W
  have UN : Hid (∀ W : World, Below w.heap.size w W → Calls Tryz.prog 150 #[.pointer (some a), .agg #[.int .i64 tw.id.1, .int .i64 tw.id.2], .agg #[.int .i64 x.id.1, .int .i64 x.id.2]] W fun e w' => e = .returned (.bool un) ∧ Below W.heap.size W w') := Lib.hid fun W hW => by
    rw [hun]
    exact H.under a S g tw.id x.id W (rep_below h hW) hg
  have RP : Hid (∀ W : World, Below w.heap.size w W → Calls Tryz.prog 151 #[.agg #[.pointer (some a), .int .i64 o.st, .int .i64 o.sr, .int .i64 o.k, .int .i64 o.pt, .int .i64 o.pr, .int .i64 o.it, .int .i64 o.ir, .int .i64 o.tt, .int .i64 o.tr, .string o.name, .string o.new, .int .i64 o.off, .string o.data], .agg #[.int .i64 x.id.1, .int .i64 x.id.2, .int .i64 x.kind, .int .i64 x.links, .int .i64 x.mode, .string x.data], .agg #[.int .i64 tg.id.1, .int .i64 tg.id.2, .int .i64 tg.kind, .int .i64 tg.links, .int .i64 tg.mode, .string tg.data]] W fun e w' => e = .returned (.int .i64 rr) ∧ Below W.heap.size W w') := Lib.hid fun W hW => by
    rw [hrr]
    exact replace_code H a S g o x tg W (rep_below h hW) hg
  have hr2 : r = if b = false ∨ bt = false then 3 else if kt = false then 6 else if bg = true ∧ (tg.id.1 == x.id.1) = true ∧ (tg.id.2 == x.id.2) = true then 0 else if kd = true ∧ un = true then 8 else if bg = true then rr else 0 := by
    cases hq : namedG g o with
    | none => rw [hr, rename_none hg hm hk (Or.inl hq), hb, hq]; rfl
    | some y =>
      cases hq2 : getG g (oTo o) with
      | none => rw [hr, rename_none hg hm hk (Or.inr hq2), hbt, hq2]; simp
      | some z =>
        obtain rfl : x = y := by rw [hx, hq]; rfl
        obtain rfl : tw = z := by rw [htw, hq2]; rfl
        have i1 := (named_some hg hq).2.2.1
        have i2 := (kind_is hg hq2).2.1
        rw [hr, rename_why hg hm hk hq hq2, hb, hbt, hq, hq2, hkt, hkd, hun, i1, i2]
        unfold renameB
        cases hq3 : aimG g o with
        | none => rw [hbg, hq3]; simp
        | some v =>
          obtain rfl : tg = v := by rw [htg, hq3]; rfl
          rw [hbg, hq3, hrr]
          have e : (decide (tg.id = oIno o) = true) = ((tg.id.1 == (oIno o).1) = true ∧ (tg.id.2 == (oIno o).2) = true) := by
            rw [decide_eq_true_iff, beq_iff_eq, beq_iff_eq, Prod.ext_iff]
          simp only [e]
          simp
  obtain ⟨r1, hr1⟩ : ∃ r1, (tg.id.1 == x.id.1) = r1 := ⟨_, rfl⟩
  obtain ⟨r3, hr3⟩ : ∃ r3, (tg.id.2 == x.id.2) = r3 := ⟨_, rfl⟩
  rw [hr1, hr3] at hr2
  have HR := Lib.hid hr2
  have hH0 : Held w [(w.heap.size, .cells (deedA a o) 110)] (w.alloc (.cells (deedA a o) 110)) := (Held.refl w).alloc (.cells (deedA a o) 110) rfl
  clear h hr hr2 hx hb htw hbt htg hbg hkt hkd hun hrr hg hm hk hn hn2
  go_enter Tryz.func121, Tryz.ntmps121
  go_upto_region 1 with fail
  change Code.wp _ _ _ _ (w.alloc (.cells (deedA a o) 110))
  generalize w.alloc (.cells (deedA a o) 110) = v0 at hH0 ⊢
  obtain ⟨d0, d1, d2, d3, d4, d5, d6, d7, d8, d9, d10, d11, d12, d13⟩ := deed_cells (g := w.heap.size) (hH0.at 0 rfl)
  go_wp2_with fail
  refine (NA.out _ hH0.below).mono ?_
  rintro e y0 ⟨rfl, hb0⟩
  have hH1 := hH0.step hb0
  clear hH0 hb0 d0 d1 d2 d3 d4 d5 d6 d7 d8 d9 d10 d11 d12 d13 NA
  go_upto_region 2 with fail
  obtain ⟨u0, hu0⟩ : ∃ u, u = y0.heap.size := ⟨_, rfl⟩
  have hl0 : w.heap.size < u0 := by rw [hu0]; exact heap_lt (hH1.at 0 rfl)
  have hH2 := hH1.alloc (.cells (inoA x) 32) hu0.symm
  change Code.wp _ _ _ _ (y0.alloc (.cells (inoA x) 32))
  rw [← hu0]
  generalize y0.alloc (.cells (inoA x) 32) = v1 at hH2 ⊢
  clear hH1 hu0
  obtain ⟨d0, d1, d2, d3, d4, d5, d6, d7, d8, d9, d10, d11, d12, d13⟩ := deed_cells (g := w.heap.size) (hH2.at 1 rfl)
  go_wp2_with fail
  refine (GT.out _ hH2.below).mono ?_
  rintro e y1 ⟨rfl, hb1⟩
  have hH3 := hH2.step hb1
  clear hH2 hb1 d0 d1 d2 d3 d4 d5 d6 d7 d8 d9 d10 d11 d12 d13 GT
  go_upto_region 3 with fail
  obtain ⟨u1, hu1⟩ : ∃ u, u = y1.heap.size := ⟨_, rfl⟩
  have hl1 : w.heap.size < u1 := by rw [hu1]; exact heap_lt (hH3.at 1 rfl)
  have hH4 := hH3.alloc (.cells (inoA tw) 32) hu1.symm
  change Code.wp _ _ _ _ (y1.alloc (.cells (inoA tw) 32))
  rw [← hu1]
  generalize y1.alloc (.cells (inoA tw) 32) = v2 at hH4 ⊢
  clear hH3 hu1
  obtain ⟨d0, d1, d2, d3, d4, d5, d6, d7, d8, d9, d10, d11, d12, d13⟩ := deed_cells (g := w.heap.size) (hH4.at 2 rfl)
  go_wp2_with fail
  refine (TG.out _ hH4.below).mono ?_
  rintro e y2 ⟨rfl, hb2⟩
  have hH5 := hH4.step hb2
  clear hH4 hb2 d0 d1 d2 d3 d4 d5 d6 d7 d8 d9 d10 d11 d12 d13 TG
  go_upto_region 4 with fail
  obtain ⟨u2, hu2⟩ : ∃ u, u = y2.heap.size := ⟨_, rfl⟩
  have hl2 : w.heap.size < u2 := by rw [hu2]; exact heap_lt (hH5.at 2 rfl)
  have hH6 := hH5.alloc (.cells (inoA tg) 32) hu2.symm
  change Code.wp _ _ _ _ (y2.alloc (.cells (inoA tg) 32))
  rw [← hu2]
  generalize y2.alloc (.cells (inoA tg) 32) = v3 at hH6 ⊢
  clear hH5 hu2
  have O := Lib.hid (fun y => deed_cells (g := w.heap.size) (((later_below v3 y).block _ (heap_lt (hH6.at 3 rfl))).trans (hH6.at 3 rfl)))
  have d0 := fun y => (O.out y).1
  have d1 := fun y => (O.out y).2.1
  have d2 := fun y => (O.out y).2.2.1
  have d3 := fun y => (O.out y).2.2.2.1
  have d4 := fun y => (O.out y).2.2.2.2.1
  have d5 := fun y => (O.out y).2.2.2.2.2.1
  have d6 := fun y => (O.out y).2.2.2.2.2.2.1
  have d7 := fun y => (O.out y).2.2.2.2.2.2.2.1
  have d8 := fun y => (O.out y).2.2.2.2.2.2.2.2.1
  have d9 := fun y => (O.out y).2.2.2.2.2.2.2.2.2.1
  have d10 := fun y => (O.out y).2.2.2.2.2.2.2.2.2.2.1
  have d11 := fun y => (O.out y).2.2.2.2.2.2.2.2.2.2.2.1
  have d12 := fun y => (O.out y).2.2.2.2.2.2.2.2.2.2.2.2.1
  have d13 := fun y => (O.out y).2.2.2.2.2.2.2.2.2.2.2.2.2
  have X0 := Lib.hid (fun y => ino_cells (g := u0) (((later_below v3 y).block _ (heap_lt (hH6.at 2 rfl))).trans (hH6.at 2 rfl)))
  have x00 := fun y => (X0.out y).1
  have x01 := fun y => (X0.out y).2.1
  have x02 := fun y => (X0.out y).2.2.1
  have x03 := fun y => (X0.out y).2.2.2.1
  have x04 := fun y => (X0.out y).2.2.2.2.1
  have x05 := fun y => (X0.out y).2.2.2.2.2
  clear X0
  have X1 := Lib.hid (fun y => ino_cells (g := u1) (((later_below v3 y).block _ (heap_lt (hH6.at 1 rfl))).trans (hH6.at 1 rfl)))
  have x10 := fun y => (X1.out y).1
  have x11 := fun y => (X1.out y).2.1
  have x12 := fun y => (X1.out y).2.2.1
  have x13 := fun y => (X1.out y).2.2.2.1
  have x14 := fun y => (X1.out y).2.2.2.2.1
  have x15 := fun y => (X1.out y).2.2.2.2.2
  clear X1
  have X2 := Lib.hid (fun y => ino_cells (g := u2) (((later_below v3 y).block _ (heap_lt (hH6.at 0 rfl))).trans (hH6.at 0 rfl)))
  have x20 := fun y => (X2.out y).1
  have x21 := fun y => (X2.out y).2.1
  have x22 := fun y => (X2.out y).2.2.1
  have x23 := fun y => (X2.out y).2.2.2.1
  have x24 := fun y => (X2.out y).2.2.2.2.1
  have x25 := fun y => (X2.out y).2.2.2.2.2
  clear X2
  have HB := Lib.hid hH6.below
  have DT' : Hid (∀ y, Calls Tryz.prog 147 #[.agg #[.int .i64 tw.id.1, .int .i64 tw.id.2, .int .i64 tw.kind, .int .i64 tw.links, .int .i64 tw.mode, .string tw.data]] (later v3 y) fun e w' => e = .returned (.bool kt) ∧ ∃ z, w' = later v3 z) := Lib.hid fun y => later_call (DT.out _ (below_step HB.out (later_below v3 y)))
  have DX' : Hid (∀ y, Calls Tryz.prog 147 #[.agg #[.int .i64 x.id.1, .int .i64 x.id.2, .int .i64 x.kind, .int .i64 x.links, .int .i64 x.mode, .string x.data]] (later v3 y) fun e w' => e = .returned (.bool kd) ∧ ∃ z, w' = later v3 z) := Lib.hid fun y => later_call (DX.out _ (below_step HB.out (later_below v3 y)))
  have UN' : Hid (∀ y, Calls Tryz.prog 150 #[.pointer (some a), .agg #[.int .i64 tw.id.1, .int .i64 tw.id.2], .agg #[.int .i64 x.id.1, .int .i64 x.id.2]] (later v3 y) fun e w' => e = .returned (.bool un) ∧ ∃ z, w' = later v3 z) := Lib.hid fun y => later_call (UN.out _ (below_step HB.out (later_below v3 y)))
  have RP' : Hid (∀ y, Calls Tryz.prog 151 #[.agg #[.pointer (some a), .int .i64 o.st, .int .i64 o.sr, .int .i64 o.k, .int .i64 o.pt, .int .i64 o.pr, .int .i64 o.it, .int .i64 o.ir, .int .i64 o.tt, .int .i64 o.tr, .string o.name, .string o.new, .int .i64 o.off, .string o.data], .agg #[.int .i64 x.id.1, .int .i64 x.id.2, .int .i64 x.kind, .int .i64 x.links, .int .i64 x.mode, .string x.data], .agg #[.int .i64 tg.id.1, .int .i64 tg.id.2, .int .i64 tg.kind, .int .i64 tg.links, .int .i64 tg.mode, .string tg.data]] (later v3 y) fun e w' => e = .returned (.int .i64 rr) ∧ ∃ z, w' = later v3 z) := Lib.hid fun y => later_call (RP.out _ (below_step HB.out (later_below v3 y)))
  rw [show v3 = later v3 v3 from (later_of (Below.refl _ _)).symm]
  clear hH6 O DT DX UN RP
  go_wp2_with fail
  iterate 8
    all_goals first
      | ((fail_if_success (go_at_call 147)); (fail_if_success (go_at_call 150)); (fail_if_success (go_at_call 151)); go_ret; exact ⟨by rw [HR.out]; clear d0 d1 d2 d3 d4 d5 d6 d7 d8 d9 d10 d11 d12 d13 x00 x01 x02 x03 x04 x05 x10 x11 x12 x13 x14 x15 x20 x21 x22 x23 x24 x25 DT' DX' UN' RP' HB HR hr1 hr3; simp_all, below_step HB.out (later_below v3 _)⟩)
      | (go_at_call 147; (with_reducible refine (DT'.out _).mono ?_); rintro z w5 ⟨rfl, y5, rfl⟩; go_wp2_with fail)
      | (go_at_call 147; (with_reducible refine (DX'.out _).mono ?_); rintro z w5 ⟨rfl, y5, rfl⟩; go_wp2_with fail)
      | (go_at_call 150; (with_reducible refine (UN'.out _).mono ?_); rintro z w5 ⟨rfl, y5, rfl⟩; go_wp2_with fail)
      | (go_at_call 151; (with_reducible refine (RP'.out _).mono ?_); rintro z w5 ⟨rfl, y5, rfl⟩; go_wp2_with fail)
      | skip

end Go.Proofs.YtbkijfhfjhpebaaGreatDoor

/-
  Integers as a map's keys; functions as its elements; what a map is given when it is made.
-/
namespace Go.Proofs.YtbkijfhfjhpebaaGreatDoor
open Go.RowKit

def inV (x : Int) : Value := .int .i64 x
def fnV (f : FuncId) : Value := .func (.func f) #[] #[]

theorem findNow_int (q : IntKind) (x : Int) : ∀ (es : List MapEntry) (i : Nat), (∀ e ∈ es, ∃ y, e.key = inV y) →
    (Instr.findNow (.int q) (inV x) es i = some none ∧ ∀ e ∈ es, e.key ≠ inV x) ∨ ∃ j e, Instr.findNow (.int q) (inV x) es i = some (some (i + j, e.val)) ∧ es[j]? = some e ∧ e.key = inV x
  | [], i, _ => Or.inl ⟨by simp [Instr.findNow], by simp⟩
  | e :: es, i, hall => by
    obtain ⟨y, hy⟩ := hall e (by simp)
    have hs : Instr.sameNow (.int q) (inV x) e.key = some (x == y) := by rw [hy]; simp [Instr.sameNow, inV]
    by_cases hxy : x = y
    · right
      rw [beq_iff_eq.2 hxy] at hs
      exact ⟨0, e, by simp [Instr.findNow, hs], rfl, by rw [hy, hxy]⟩
    · rw [beq_eq_false_iff_ne.2 hxy] at hs
      rcases findNow_int q x es (i + 1) (fun z hz => hall z (by simp [hz])) with ⟨h1, h2⟩ | ⟨j, e', h1, h2, h3⟩
      · left
        refine ⟨by simp [Instr.findNow, hs, h1], fun z hz => ?_⟩
        rcases List.mem_cons.1 hz with rfl | hz
        · rw [hy]
          intro e2
          simp [inV] at e2
          exact hxy e2.symm
        · exact h2 z hz
      · right
        exact ⟨j + 1, e', by simp [Instr.findNow, hs, h1, Nat.add_assoc, Nat.add_comm 1 j], by simpa using h2, h3⟩

theorem KShape.of_int {P : Program} {k : TypeId} {q : IntKind} (hu : P.underlying k = some (.int q)) : KShape P k inV where
  inj := fun x y h => by simp [inV] at h; exact h
  check := fun w em x => checkKey_int hu w em 9999 x
  find := fun w x es hall => by
    rcases findNow_int q x es 0 hall with ⟨h1, h2⟩ | ⟨j, e, h1, h2, h3⟩
    · exact Or.inl ⟨MapKept.run_findKey hu h1, h2⟩
    · exact Or.inr ⟨j, e, by rw [Nat.zero_add] at h1; exact MapKept.run_findKey hu h1, h2, h3⟩
  stays := fun w x => by simp [Instr.keyThatStays, inV, Instr.sameBits]

section
variable {K V : Type} {ek : K → Value} {ev : V → Value} {P : Program} {k e : TypeId}

/-- A key and an element of a map's literal. -/
theorem wpList_k_insert [DecidableEq K] (S : KShape P k ek) {w : World} {ops : Array Oper} {rest : List Oper} {o : Oper} {a : Act} {Q : Exit → Act → World → Prop} (hg : o.guard = none) (m x v : Operand) (t : TypeId)
    (hop : o.op = Op.insert t m x v) (ht : P.underlying t = some (.map k e)) (b : Nat) (L : List (K × V)) (hm : a.eval m = .map (some b)) (h : KMap ek ev w b L) (key : K) (hx : a.eval x = ek key) (val : V) (hv : a.eval v = ev val)
    (hK : ∀ w', Hid (KMap ek ev w' b ((key, val) :: offL L key)) → Hid (But (fun i => i = b) w w') → Hid (w'.heap.size = w.heap.size) → wpList P ops Q rest (a.put o.dst undef) w') : wpList P ops Q (o :: rest) a w := by
  refine wpList_plain hg fun K' hK' => ?_
  obtain ⟨w', hrun, r1, r2, r3⟩ := h.store S ht key val
  unfold Oper.wp
  simp [execOp, hop, hm, hx, hv, hrun, Result.andThen]
  exact hK' _ _ (hK w' r1 r2 r3)

/-- .. and a key that isn't there yet. -/
theorem wpList_k_insert_new [DecidableEq K] (S : KShape P k ek) {w : World} {ops : Array Oper} {rest : List Oper} {o : Oper} {a : Act} {Q : Exit → Act → World → Prop} (hg : o.guard = none) (m x v : Operand) (t : TypeId)
    (hop : o.op = Op.insert t m x v) (ht : P.underlying t = some (.map k e)) (b : Nat) (L : List (K × V)) (hm : a.eval m = .map (some b)) (h : KMap ek ev w b L) (key : K) (hx : a.eval x = ek key) (val : V) (hv : a.eval v = ev val)
    (hn : offL L key = L)
    (hK : ∀ w', Hid (KMap ek ev w' b ((key, val) :: L)) → Hid (But (fun i => i = b) w w') → Hid (w'.heap.size = w.heap.size) → wpList P ops Q rest (a.put o.dst undef) w') : wpList P ops Q (o :: rest) a w :=
  wpList_k_insert S hg m x v t hop ht b L hm h key hx val hv fun w' h1 h2 h3 => hK w' (by rw [hn] at h1; exact h1) h2 h3
end

end Go.Proofs.YtbkijfhfjhpebaaGreatDoor

/-
  The walks of op's small functions: a byte in a text, a name, a kind's fields.
-/
namespace Go.Proofs.YtbkijfhfjhpebaaGreatDoor
open Go.RowKit OpMath

theorem has_bits (i : Nat) (x f : Int) (hf : f = 1 ∨ f = 2 ∨ f = 4 ∨ f = 8 ∨ f = 16 ∨ f = 32 ∨ f = 64) (hx : tabL[i]? = some x) : (bits BinOp.and IntKind.i64 x f != 0) = hasF (i : Int) f := by
  have hi : i < 11 := by
    by_cases h : i < 11
    · exact h
    · rw [List.getElem?_eq_none (by show 11 ≤ i; omega)] at hx
      cases hx
  have hi2 : i = 0 ∨ i = 1 ∨ i = 2 ∨ i = 3 ∨ i = 4 ∨ i = 5 ∨ i = 6 ∨ i = 7 ∨ i = 8 ∨ i = 9 ∨ i = 10 := by omega
  rcases hi2 with rfl | rfl | rfl | rfl | rfl | rfl | rfl | rfl | rfl | rfl | rfl <;> obtain rfl := Option.some.inj hx <;> rcases hf with rfl | rfl | rfl | rfl | rfl | rfl | rfl <;> decide

theorem has_any (k f : Int) (hf : f = 1 ∨ f = 2 ∨ f = 4 ∨ f = 8 ∨ f = 16 ∨ f = 32 ∨ f = 64) (w : World) [T : Tab w] :
    Calls Tryz.prog 113 #[.int .i64 k, .int .i64 f] w fun e w' => e = .returned (.bool (hasF k f)) ∧ w = w' := by
  by_cases h0 : 0 ≤ k
  · by_cases h1 : k < 11
    · obtain ⟨i, rfl⟩ : ∃ i : Nat, k = (i : Int) := ⟨k.toNat, by omega⟩
      obtain ⟨x, hx⟩ : ∃ x, tabL[i]? = some x := ⟨tabL[i]'(by show i < 11; omega), List.getElem?_eq_getElem _⟩
      have hc := T.at i hx
      have HX := Lib.hid hx
      clear hx
      go_enter Tryz.func113, Tryz.ntmps113
      go_wp2_with fail
      go_ret
      exact ⟨congrArg (fun b => Ending.returned (.bool b)) (has_bits i x f hf HX.out), rfl⟩
    · have d1 : decide (k < 11) = false := by simp; omega
      have H1 := Lib.hid h1
      clear h1
      go_enter Tryz.func113, Tryz.ntmps113
      go_wp2_with fail
      go_ret
      exact ⟨by
        have : hasF k f = false := by
          have := H1.out
          unfold hasF
          rcases hf with rfl | rfl | rfl | rfl | rfl | rfl | rfl <;> simp <;> omega
        rw [this]; rfl, rfl⟩
  · have d0 : decide (0 ≤ k) = false := by simp; omega
    have H0 := Lib.hid h0
    clear h0
    go_enter Tryz.func113, Tryz.ntmps113
    go_wp2_with fail
    go_ret
    exact ⟨by
      have : hasF k f = false := by
        have := H0.out
        unfold hasF
        rcases hf with rfl | rfl | rfl | rfl | rfl | rfl | rfl <;> simp <;> omega
      rw [this]; rfl, rfl⟩


theorem keptText (k f : Int) (s : ByteArray) (b : Bool) (H : Hid (∀ (W : World) [Tab W], Calls Tryz.prog 113 #[.int .i64 k, .int .i64 f] W fun e w' => e = .returned (.bool b) ∧ W = w')) (w : World) [Tab w] :
    Calls Tryz.prog 109 #[.int .i64 k, .int .i64 f, .string s] w fun e w' => e = .returned (.string (if b then s else ⟨#[]⟩)) ∧ Below w.heap.size w w' := by
  cases b
  all_goals
    go_enter Tryz.func109, Tryz.ntmps109
    go_wp2_with fail
    refine (H.out _).mono ?_
    rintro e w' ⟨rfl, rfl⟩
    go_wp2_with fail
    go_ret
    exact ⟨rfl, Below.refl _ _⟩

theorem keptInt (k f : Int) (n : Int) (b : Bool) (H : Hid (∀ (W : World) [Tab W], Calls Tryz.prog 113 #[.int .i64 k, .int .i64 f] W fun e w' => e = .returned (.bool b) ∧ W = w')) (w : World) [Tab w] :
    Calls Tryz.prog 110 #[.int .i64 k, .int .i64 f, .int .i64 n] w fun e w' => e = .returned (.int .i64 (if b then n else 0)) ∧ Below w.heap.size w w' := by
  cases b
  all_goals
    go_enter Tryz.func110, Tryz.ntmps110
    go_wp2_with fail
    refine (H.out _).mono ?_
    rintro e w' ⟨rfl, rfl⟩
    go_wp2_with fail
    go_ret
    exact ⟨rfl, Below.refl _ _⟩

theorem keptStamp (k f t r : Int) (b : Bool) (H : Hid (∀ (W : World) [Tab W], Calls Tryz.prog 113 #[.int .i64 k, .int .i64 f] W fun e w' => e = .returned (.bool b) ∧ W = w')) (w : World) [Tab w] :
    Calls Tryz.prog 108 #[.int .i64 k, .int .i64 f, .agg #[.int .i64 t, .int .i64 r]] w fun e w' => e = .returned (.agg #[.int .i64 (if b then t else 0), .int .i64 (if b then r else 0)]) ∧ Below w.heap.size w w' := by
  cases b
  all_goals
    go_enter Tryz.func108, Tryz.ntmps108
    go_wp2_with fail
    refine (H.out _).mono ?_
    rintro e w' ⟨rfl, rfl⟩
    go_wp2_with fail
  · exact bodyPost_ret (v := .agg #[.int .i64 0, .int .i64 0]) (by simp [results, Tryz.results108, go_sem]) rfl ⟨rfl, (((Below.refl _ w).alloc (Nat.le_refl _) _).alloc (by simp) _).alloc (by rw [World.size_alloc, World.size_alloc]; omega) _⟩
  · exact bodyPost_ret (v := .agg #[.int .i64 t, .int .i64 r]) (by simp [results, Tryz.results108, go_sem]) rfl ⟨rfl, ((Below.refl _ w).alloc (Nat.le_refl _) _).alloc (by simp) _⟩

end Go.Proofs.YtbkijfhfjhpebaaGreatDoor

/-
  The walks of op's mayStamps, mayNames, mayRest.
-/
namespace Go.Proofs.YtbkijfhfjhpebaaGreatDoor
open Go.RowKit OpMath StampMath PackMath

set_option maxRecDepth 100000 in
set_option maxHeartbeats 1600000 in
theorem mayStamps_core (o : Opn) (m0 m1 m2 m3 : Bool) (hz : (o.st = 0 → m0 = (o.sr == 0)))
    (M0 : Hid (∀ W : World, Calls Tryz.prog 111 #[.agg #[.int .i64 o.st, .int .i64 o.sr]] W fun e w' => e = .returned (.bool m0) ∧ Below W.heap.size W w'))
    (M1 : Hid (∀ W : World, Calls Tryz.prog 111 #[.agg #[.int .i64 o.pt, .int .i64 o.pr]] W fun e w' => e = .returned (.bool m1) ∧ Below W.heap.size W w'))
    (M2 : Hid (∀ W : World, Calls Tryz.prog 111 #[.agg #[.int .i64 o.it, .int .i64 o.ir]] W fun e w' => e = .returned (.bool m2) ∧ Below W.heap.size W w'))
    (M3 : Hid (∀ W : World, Calls Tryz.prog 111 #[.agg #[.int .i64 o.tt, .int .i64 o.tr]] W fun e w' => e = .returned (.bool m3) ∧ Below W.heap.size W w')) (w : World) :
    Calls Tryz.prog 81 #[.agg #[.int .i64 o.st, .int .i64 o.sr, .int .i64 o.k, .int .i64 o.pt, .int .i64 o.pr, .int .i64 o.it, .int .i64 o.ir, .int .i64 o.tt, .int .i64 o.tr, .string o.name, .string o.new, .int .i64 o.off, .string o.data]] w fun e w' => e = .returned (.bool (!(o.st == 0) && m0 && m1 && m2 && m3)) ∧ Below w.heap.size w w' := by
  have HZ := Lib.hid hz
  clear hz
  have hcase : (o.st = 0 ∧ o.sr = 0) ∨ (o.st = 0 ∧ o.sr ≠ 0) ∨ o.st ≠ 0 := by omega
  rcases hcase with ⟨a, b⟩ | ⟨a, b⟩ | a
  · have d1 : (o.st == 0) = true := by simp [a]
    have d2 : (o.sr == 0) = true := by simp [b]
    have D1 := Lib.hid d1
    clear a b
    go_enter Tryz.func81, Tryz.ntmps81
    go_wp2_with fail
    go_ret
    exact ⟨by rw [D1.out]; rfl, (Below.refl _ _).alloc (Nat.le_refl _) _⟩
  · have d1 : (o.st == 0) = true := by simp [a]
    have d2 : (o.sr == 0) = false := by simp [b]
    have D1 := Lib.hid d1
    have e0 : m0 = false := by rw [HZ.out a, d2]
    clear a b
    subst e0
    go_enter Tryz.func81, Tryz.ntmps81
    go_wp2_with fail
    refine (M0.out _).mono ?_
    rintro e w1 ⟨rfl, hb1⟩
    go_wp2_with fail
    go_ret
    exact ⟨by rw [D1.out]; rfl, below_step ((Below.refl _ _).alloc (Nat.le_refl _) _) hb1⟩
  · have d1 : (o.st == 0) = false := by simp [a]
    have D1 := Lib.hid d1
    clear a
    cases m0
    · go_enter Tryz.func81, Tryz.ntmps81
      go_wp2_with fail
      refine (M0.out _).mono ?_
      rintro e w1 ⟨rfl, hb1⟩
      go_wp2_with fail
      go_ret
      exact ⟨by rw [D1.out]; rfl, below_step ((Below.refl _ _).alloc (Nat.le_refl _) _) hb1⟩
    · go_enter Tryz.func81, Tryz.ntmps81
      have hh0 : Held w [(w.heap.size, (.cells (opA o) 56))] (w.alloc (.cells (opA o) 56)) := (Held.refl w).alloc (.cells (opA o) 56) rfl
      go_wp2_with fail
      refine (M0.out _).mono ?_
      rintro e w1 ⟨rfl, hb1⟩
      have B1 : Below (w.alloc (.cells (opA o) 56)).heap.size (w.alloc (.cells (opA o) 56)) w1 := hb1
      have HH1 := hh0.step B1
      clear hh0 hb1 B1
      have hc1 := op_cells (HH1.at 0 rfl)
      cases m1
      · go_wp2_with fail
        refine (M1.out _).mono ?_
        rintro e w2 ⟨rfl, hb⟩
        have HH2 := HH1.step hb
        go_wp2_with fail
        go_ret
        exact ⟨by rw [D1.out]; rfl, HH2.below⟩
      · go_wp2_with fail
        refine (M1.out _).mono ?_
        rintro e w2 ⟨rfl, hb⟩
        have HH2 := HH1.step hb
        clear hb HH1 hc1
        have hc2 := op_cells (HH2.at 0 rfl)
        cases m2
        · go_wp2_with fail
          refine (M2.out _).mono ?_
          rintro e w3 ⟨rfl, hb⟩
          have HH3 := HH2.step hb
          go_wp2_with fail
          go_ret
          exact ⟨by rw [D1.out]; rfl, HH3.below⟩
        · go_wp2_with fail
          refine (M2.out _).mono ?_
          rintro e w3 ⟨rfl, hb⟩
          have HH3 := HH2.step hb
          clear hb HH2 hc2
          have hc3 := op_cells (HH3.at 0 rfl)
          go_wp2_with fail
          refine (M3.out _).mono ?_
          rintro e w4 ⟨rfl, hb⟩
          have HH4 := HH3.step hb
          go_wp2_with fail
          go_ret
          exact ⟨by rw [D1.out]; cases m3 <;> rfl, HH4.below⟩

end Go.Proofs.YtbkijfhfjhpebaaGreatDoor

/-
  The walks of op's mayNames and mayRest.
-/
namespace Go.Proofs.YtbkijfhfjhpebaaGreatDoor
open Go.RowKit OpMath StampMath PackMath

/-- What the code asks of the offset and the data. -/
def restB (o : Opn) : Bool :=
  if o.k = 3 then decide (1 ≤ o.data.size) && decide (o.data.size ≤ 32) && !hasB o.data 0
  else if o.k = 8 then !(o.data.toList == []) && decide (0 ≤ o.off) && decide (o.off ≤ 64 - (o.data.size : Int))
  else if o.k = 9 then decide (0 ≤ o.off) && decide (o.off ≤ 64)
  else if o.k = 10 then decide (0 ≤ o.off) && decide (o.off ≤ 4095)
  else true

/-- What the code asks of the names. -/
def namesB (o : Opn) : Bool := (nameB o.name == hasF o.k 8) && (nameB o.new == hasF o.k 16)

set_option maxRecDepth 100000 in
set_option maxHeartbeats 1600000 in
theorem mayRest_any (o : Opn) (hd : o.data.size ≤ maxLen) (ho : IsI64 o.off) (w : World) :
    Calls Tryz.prog 83 #[.agg #[.int .i64 o.st, .int .i64 o.sr, .int .i64 o.k, .int .i64 o.pt, .int .i64 o.pr, .int .i64 o.it, .int .i64 o.ir, .int .i64 o.tt, .int .i64 o.tr, .string o.name, .string o.new, .int .i64 o.off, .string o.data]] w fun e w' => e = .returned (.bool (restB o)) ∧ Below w.heap.size w w' := by
  have hd' : o.data.size ≤ 9223372036854775807 := by unfold maxLen at hd; omega
  have ho1 := ho.1
  have ho2 := ho.2
  clear hd ho
  have HB : Hid (∀ W : World, Calls Tryz.prog 114 #[.string o.data, .int .u8 0] W fun e w' => e = .returned (.bool (hasB o.data 0)) ∧ W = w') := fun W => hasByte_any o.data 0 W
  have R : Hid (restB o = if o.k = 3 then decide (1 ≤ o.data.size) && decide (o.data.size ≤ 32) && !hasB o.data 0
    else if o.k = 8 then !(o.data.toList == []) && decide (0 ≤ o.off) && decide (o.off ≤ 64 - (o.data.size : Int))
    else if o.k = 9 then decide (0 ≤ o.off) && decide (o.off ≤ 64)
    else if o.k = 10 then decide (0 ≤ o.off) && decide (o.off ≤ 4095)
    else true) := rfl
  generalize hasB o.data 0 = hz at HB R
  by_cases h3 : o.k = 3
  · have d3 : (o.k == 3) = true := by simp [h3]
    have RB := Lib.hid (R.out.trans (if_pos h3))
    clear R h3
    by_cases h1 : 1 ≤ o.data.size
    · have T1 := Lib.hid (show decide (1 ≤ o.data.size) = true by simpa using h1)
      by_cases h2 : o.data.size ≤ 32
      · have T2 := Lib.hid (show decide (o.data.size ≤ 32) = true by simpa using h2)
        go_enter Tryz.func83, Tryz.ntmps83
        go_wp2_with fail
        refine (HB.out _).mono ?_
        rintro e w' ⟨rfl, rfl⟩
        go_wp2_with fail
        go_ret
        exact ⟨by rw [RB.out, T1.out, T2.out]; cases hz <;> rfl, (Below.refl _ _).alloc (Nat.le_refl _) _⟩
      · have T2 := Lib.hid (show decide (o.data.size ≤ 32) = false by simpa using h2)
        have f2 : decide ((o.data.size : Int) ≤ 32) = false := by simp; omega
        clear h2
        go_enter Tryz.func83, Tryz.ntmps83
        go_wp2_with fail
        go_ret
        exact ⟨by rw [RB.out, T1.out, T2.out]; rfl, (Below.refl _ _).alloc (Nat.le_refl _) _⟩
    · have T1 := Lib.hid (show decide (1 ≤ o.data.size) = false by simpa using h1)
      have f1 : decide (1 ≤ (o.data.size : Int)) = false := by simp; omega
      clear h1
      go_enter Tryz.func83, Tryz.ntmps83
      go_wp2_with fail
      go_ret
      exact ⟨by rw [RB.out, T1.out]; rfl, (Below.refl _ _).alloc (Nat.le_refl _) _⟩
  · have d3 : (o.k == 3) = false := by simp [h3]
    have R3 := Lib.hid (R.out.trans (if_neg h3))
    clear R h3 HB
    by_cases h8 : o.k = 8
    · have d8 : (o.k == 8) = true := by simp [h8]
      have RB := Lib.hid (R3.out.trans (if_pos h8))
      clear R3 h8
      by_cases h1 : (o.data.toList == []) = true
      · have T1 := Lib.hid h1
        go_enter Tryz.func83, Tryz.ntmps83
        go_wp2_with fail
        go_ret
        exact ⟨by rw [RB.out, T1.out]; rfl, (Below.refl _ _).alloc (Nat.le_refl _) _⟩
      · have h1 : (o.data.toList == []) = false := by simpa using h1
        have T1 := Lib.hid h1
        by_cases h2 : 0 ≤ o.off
        · have T2 := Lib.hid (show decide (0 ≤ o.off) = true by simpa using h2)
          by_cases h4 : o.off ≤ 64 - (o.data.size : Int)
          · have T4 := Lib.hid (show decide (o.off ≤ 64 - (o.data.size : Int)) = true by simpa using h4)
            go_enter Tryz.func83, Tryz.ntmps83
            go_wp2_with fail
            go_ret
            exact ⟨by rw [RB.out, T1.out, T2.out, T4.out]; rfl, (Below.refl _ _).alloc (Nat.le_refl _) _⟩
          · have T4 := Lib.hid (show decide (o.off ≤ 64 - (o.data.size : Int)) = false by simpa using h4)
            have f4 : decide (o.off ≤ 64 - (o.data.size : Int)) = false := by simp; omega
            clear h4
            go_enter Tryz.func83, Tryz.ntmps83
            go_wp2_with fail
            go_ret
            exact ⟨by rw [RB.out, T1.out, T2.out, T4.out]; rfl, (Below.refl _ _).alloc (Nat.le_refl _) _⟩
        · have T2 := Lib.hid (show decide (0 ≤ o.off) = false by simpa using h2)
          have f2 : decide (0 ≤ o.off) = false := by simp; omega
          clear h2
          go_enter Tryz.func83, Tryz.ntmps83
          go_wp2_with fail
          go_ret
          exact ⟨by rw [RB.out, T1.out, T2.out]; rfl, (Below.refl _ _).alloc (Nat.le_refl _) _⟩
    · have d8 : (o.k == 8) = false := by simp [h8]
      have R8 := Lib.hid (R3.out.trans (if_neg h8))
      clear R3 h8
      by_cases h9 : o.k = 9
      · have d9 : (o.k == 9) = true := by simp [h9]
        have RB := Lib.hid (R8.out.trans (if_pos h9))
        clear R8 h9
        by_cases h2 : 0 ≤ o.off
        · have T2 := Lib.hid (show decide (0 ≤ o.off) = true by simpa using h2)
          by_cases h4 : o.off ≤ 64
          · have T4 := Lib.hid (show decide (o.off ≤ 64) = true by simpa using h4)
            go_enter Tryz.func83, Tryz.ntmps83
            go_wp2_with fail
            go_ret
            exact ⟨by rw [RB.out, T2.out, T4.out]; rfl, (Below.refl _ _).alloc (Nat.le_refl _) _⟩
          · have T4 := Lib.hid (show decide (o.off ≤ 64) = false by simpa using h4)
            have f4 : decide (o.off ≤ 64) = false := by simp; omega
            clear h4
            go_enter Tryz.func83, Tryz.ntmps83
            go_wp2_with fail
            go_ret
            exact ⟨by rw [RB.out, T2.out, T4.out]; rfl, (Below.refl _ _).alloc (Nat.le_refl _) _⟩
        · have T2 := Lib.hid (show decide (0 ≤ o.off) = false by simpa using h2)
          have f2 : decide (0 ≤ o.off) = false := by simp; omega
          clear h2
          go_enter Tryz.func83, Tryz.ntmps83
          go_wp2_with fail
          go_ret
          exact ⟨by rw [RB.out, T2.out]; rfl, (Below.refl _ _).alloc (Nat.le_refl _) _⟩
      · have d9 : (o.k == 9) = false := by simp [h9]
        have R9 := Lib.hid (R8.out.trans (if_neg h9))
        clear R8 h9
        by_cases h10 : o.k = 10
        · have d10 : (o.k == 10) = true := by simp [h10]
          have RB := Lib.hid (R9.out.trans (if_pos h10))
          clear R9 h10
          by_cases h2 : 0 ≤ o.off
          · have T2 := Lib.hid (show decide (0 ≤ o.off) = true by simpa using h2)
            by_cases h4 : o.off ≤ 4095
            · have T4 := Lib.hid (show decide (o.off ≤ 4095) = true by simpa using h4)
              go_enter Tryz.func83, Tryz.ntmps83
              go_wp2_with fail
              go_ret
              exact ⟨by rw [RB.out, T2.out, T4.out]; rfl, (Below.refl _ _).alloc (Nat.le_refl _) _⟩
            · have T4 := Lib.hid (show decide (o.off ≤ 4095) = false by simpa using h4)
              have f4 : decide (o.off ≤ 4095) = false := by simp; omega
              clear h4
              go_enter Tryz.func83, Tryz.ntmps83
              go_wp2_with fail
              go_ret
              exact ⟨by rw [RB.out, T2.out, T4.out]; rfl, (Below.refl _ _).alloc (Nat.le_refl _) _⟩
          · have T2 := Lib.hid (show decide (0 ≤ o.off) = false by simpa using h2)
            have f2 : decide (0 ≤ o.off) = false := by simp; omega
            clear h2
            go_enter Tryz.func83, Tryz.ntmps83
            go_wp2_with fail
            go_ret
            exact ⟨by rw [RB.out, T2.out]; rfl, (Below.refl _ _).alloc (Nat.le_refl _) _⟩
        · have d10 : (o.k == 10) = false := by simp [h10]
          have RB := Lib.hid (R9.out.trans (if_neg h10))
          clear R9 h10
          go_enter Tryz.func83, Tryz.ntmps83
          go_wp2_with fail
          go_ret
          exact ⟨by rw [RB.out]; rfl, (Below.refl _ _).alloc (Nat.le_refl _) _⟩

set_option maxRecDepth 100000 in
set_option maxHeartbeats 1600000 in
theorem mayNames_core (o : Opn) (b1 b2 f1 f2 : Bool)
    (N1 : Hid (∀ (W : World) [Tab W], Calls Tryz.prog 112 #[.string o.name] W fun e w' => e = .returned (.bool b1) ∧ Below W.heap.size W w'))
    (N2 : Hid (∀ (W : World) [Tab W], Calls Tryz.prog 112 #[.string o.new] W fun e w' => e = .returned (.bool b2) ∧ Below W.heap.size W w'))
    (F1 : Hid (∀ (W : World) [Tab W], Calls Tryz.prog 113 #[.int .i64 o.k, .int .i64 8] W fun e w' => e = .returned (.bool f1) ∧ Below W.heap.size W w'))
    (F2 : Hid (∀ (W : World) [Tab W], Calls Tryz.prog 113 #[.int .i64 o.k, .int .i64 16] W fun e w' => e = .returned (.bool f2) ∧ Below W.heap.size W w')) (w : World) [Tab w] :
    Calls Tryz.prog 82 #[.agg #[.int .i64 o.st, .int .i64 o.sr, .int .i64 o.k, .int .i64 o.pt, .int .i64 o.pr, .int .i64 o.it, .int .i64 o.ir, .int .i64 o.tt, .int .i64 o.tr, .string o.name, .string o.new, .int .i64 o.off, .string o.data]] w fun e w' => e = .returned (.bool ((b1 == f1) && (b2 == f2))) ∧ Below w.heap.size w w' := by
  have hh0 : (w.alloc (.cells (opA o) 56)).heap[w.heap.size]? = some (.cells (opA o) 56 (0, 0)) := heap_alloc_new w _
  have hB0 : Below w.heap.size w (w.alloc (.cells (opA o) 56)) := (Below.refl _ _).alloc (Nat.le_refl _) _
  go_enter Tryz.func82, Tryz.ntmps82
  go_upto_region 1 with fail
  have iw0 : Tab (w.alloc (.cells (opA o) 56)) := inferInstance
  change Code.wp _ _ _ _ (w.alloc (.cells (opA o) 56))
  generalize w.alloc (.cells (opA o) 56) = w0 at hh0 hB0 iw0 ⊢
  obtain ⟨l0, l1, l2, l3, l4, l5, l6, l7, l8, l9, l10, l11, l12⟩ := op_cells hh0
  have q2 := later_cell l2
  have q9 := later_cell l9
  have q10 := later_cell l10
  clear l0 l1 l2 l3 l4 l5 l6 l7 l8 l9 l10 l11 l12
  cases b1 <;> cases f1 <;> cases b2 <;> cases f2
  all_goals
    refine wp_region_later (by kernel_rfl) (by kernel_rfl) ?_
    repeat (go_big_quiet_step (first | (with_reducible exact later_call (N1.out _)) | (with_reducible exact later_call (N2.out _)) | (with_reducible exact later_call (F1.out _)) | (with_reducible exact later_call (F2.out _))))
    refine wpQuiet_nil ?_
    intro _ hw'
    obtain ⟨y1, rfl⟩ := hw'
    go_wp2_with fail
    go_ret
    exact ⟨rfl, below_step hB0 (later_below w0 y1)⟩

theorem mayNames_any (o : Opn) (hn : o.name.size ≤ maxLen) (hm : o.new.size ≤ maxLen) (w : World) [Tab w] :
    Calls Tryz.prog 82 #[.agg #[.int .i64 o.st, .int .i64 o.sr, .int .i64 o.k, .int .i64 o.pt, .int .i64 o.pr, .int .i64 o.it, .int .i64 o.ir, .int .i64 o.tt, .int .i64 o.tr, .string o.name, .string o.new, .int .i64 o.off, .string o.data]] w fun e w' => e = .returned (.bool (namesB o)) ∧ Below w.heap.size w w' :=
  mayNames_core o (nameB o.name) (nameB o.new) (hasF o.k 8) (hasF o.k 16) (fun W _ => (name_any o.name hn W).mono fun _ _ ⟨he, hw⟩ => ⟨he, hw ▸ Below.refl _ _⟩) (fun W _ => (name_any o.new hm W).mono fun _ _ ⟨he, hw⟩ => ⟨he, hw ▸ Below.refl _ _⟩)
    (fun W _ => (has_any o.k 8 (by omega) W).mono fun _ _ ⟨he, hw⟩ => ⟨he, hw ▸ Below.refl _ _⟩) (fun W _ => (has_any o.k 16 (by omega) W).mono fun _ _ ⟨he, hw⟩ => ⟨he, hw ▸ Below.refl _ _⟩) w

end Go.Proofs.YtbkijfhfjhpebaaGreatDoor

/-
  The zero operation, and where an operation lies in memory. It needs no program's function.
-/
namespace Go.Proofs.YtbkijfhfjhpebaaGreatDoor
open Go.RowKit OpMath StampMath PackMath

theorem below_setCells {B b : Nat} {w0 : World} (hb : B ≤ b) : ∀ (vs : List Value) (o : Nat) (w : World), Below B w0 w → Below B w0 (w.setCells b o vs)
  | [], _, _, h => h
  | v :: r, o, w, h => by
    rw [World.setCells]
    exact below_setCells hb r (o + 1) _ (h.setCell hb _)

theorem op_info : (Tryz.prog.info? 56).map (·.size) = some 13 := by kernel_rfl

/-- No operation at all. -/
def zO : Opn := ⟨0, 0, 0, 0, 0, 0, 0, 0, 0, ⟨#[]⟩, ⟨#[]⟩, 0, ⟨#[]⟩⟩

theorem op_one (o : Opn) : (opA o).all (·.oneCell') = true := by
  simp [opA, Value.oneCell']

theorem op_there {w : World} {g : Nat} {o : Opn} {T : TypeId} (h : w.heap[g]? = some (.cells (opA o) T (0, 0))) : w.there g 0 (opA zO).size := fun j hj => by
  have hj13 : j < 13 := hj
  rw [Nat.zero_add]
  refine ⟨?_, frozen_of_row _ _ j _ _ h⟩
  rw [cell_of_row _ _ j _ _ (0, 0) h, Array.getElem?_eq_getElem (by show j < 13; exact hj13)]
  rfl

end Go.Proofs.YtbkijfhfjhpebaaGreatDoor
