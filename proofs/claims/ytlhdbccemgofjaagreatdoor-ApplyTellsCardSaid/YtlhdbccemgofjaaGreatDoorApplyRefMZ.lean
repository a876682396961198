/-
  The walk of the document's own Do: something is made.
-/
import Derived.Test.YtlhdbccemgofjaaGreatDoorApplyRefDZ
import Derived.Deep.RegionHeld3
import Derived.Deep.Cut
import Derived.Deep.DeepCutAuto
namespace Go.Proofs.YtlhdbccemgofjaaGreatDoor
open Go.RowKit StampMath GraphMath OpMath PackMath ExtentMath

/-- What a region that makes reads: the box of the graph that was made, the operation. -/
theorem mk_s {W : World} {ub go : Nat} {x y : Value} {o : Opn} {T T' : TypeId} (h1 : W.heap[ub]? = some (.cells #[x, y] T (0, 0))) (h2 : W.heap[go]? = some (.cells (opA o) T' (0, 0))) :
    (W.heap[ub]? = some (.cells #[x, y] T (0, 0)) ∧ W.heap[go]? = some (.cells (opA o) T' (0, 0))) ∧ (W.cell? ⟨ub, 0, none⟩ = some (x) ∧ W.cell? ⟨ub, 1, none⟩ = some (y)) ∧ W.cell? ⟨go, 0, none⟩ = some (.int .i64 o.st) ∧ W.cell? ⟨go, 1, none⟩ = some (.int .i64 o.sr) ∧ W.cell? ⟨go, 2, none⟩ = some (.int .i64 o.k) ∧ W.cell? ⟨go, 3, none⟩ = some (.int .i64 o.pt) ∧ W.cell? ⟨go, 4, none⟩ = some (.int .i64 o.pr) ∧ W.cell? ⟨go, 5, none⟩ = some (.int .i64 o.it) ∧ W.cell? ⟨go, 6, none⟩ = some (.int .i64 o.ir) ∧ W.cell? ⟨go, 7, none⟩ = some (.int .i64 o.tt) ∧ W.cell? ⟨go, 8, none⟩ = some (.int .i64 o.tr) ∧ W.cell? ⟨go, 9, none⟩ = some (.string o.name) ∧ W.cell? ⟨go, 10, none⟩ = some (.string o.new) ∧ W.cell? ⟨go, 11, none⟩ = some (.int .i64 o.off) ∧ W.cell? ⟨go, 12, none⟩ = some (.string o.data) :=
  And.intro (And.intro h1 h2) (And.intro (two_cells h1) (op_cells h2))

theorem mk_step {W W' : World} {ub go : Nat} {x y : Value} {o : Opn} {T T' : TypeId} {R : Prop} (hb : Below W.heap.size W W') (h : (W.heap[ub]? = some (.cells #[x, y] T (0, 0)) ∧ W.heap[go]? = some (.cells (opA o) T' (0, 0))) ∧ R) :
    (W'.heap[ub]? = some (.cells #[x, y] T (0, 0)) ∧ W'.heap[go]? = some (.cells (opA o) T' (0, 0))) ∧ (W'.cell? ⟨ub, 0, none⟩ = some (x) ∧ W'.cell? ⟨ub, 1, none⟩ = some (y)) ∧ W'.cell? ⟨go, 0, none⟩ = some (.int .i64 o.st) ∧ W'.cell? ⟨go, 1, none⟩ = some (.int .i64 o.sr) ∧ W'.cell? ⟨go, 2, none⟩ = some (.int .i64 o.k) ∧ W'.cell? ⟨go, 3, none⟩ = some (.int .i64 o.pt) ∧ W'.cell? ⟨go, 4, none⟩ = some (.int .i64 o.pr) ∧ W'.cell? ⟨go, 5, none⟩ = some (.int .i64 o.it) ∧ W'.cell? ⟨go, 6, none⟩ = some (.int .i64 o.ir) ∧ W'.cell? ⟨go, 7, none⟩ = some (.int .i64 o.tt) ∧ W'.cell? ⟨go, 8, none⟩ = some (.int .i64 o.tr) ∧ W'.cell? ⟨go, 9, none⟩ = some (.string o.name) ∧ W'.cell? ⟨go, 10, none⟩ = some (.string o.new) ∧ W'.cell? ⟨go, 11, none⟩ = some (.int .i64 o.off) ∧ W'.cell? ⟨go, 12, none⟩ = some (.string o.data) :=
  mk_s ((hb.block _ (heap_lt h.1.1)).trans h.1.1) ((hb.block _ (heap_lt h.1.2)).trans h.1.2)

theorem mk_store {W : World} {ub go g : Nat} {x y : Value} {o : Opn} {T T' : TypeId} {R : Prop} (a b : Value) (hu : ub ≠ g) (ho : go ≠ g) (h : (W.heap[ub]? = some (.cells #[x, y] T (0, 0)) ∧ W.heap[go]? = some (.cells (opA o) T' (0, 0))) ∧ R) :
    (((W.setCell ⟨g, 0, none⟩ a).setCell ⟨g, 1, none⟩ b).heap[ub]? = some (.cells #[x, y] T (0, 0)) ∧ ((W.setCell ⟨g, 0, none⟩ a).setCell ⟨g, 1, none⟩ b).heap[go]? = some (.cells (opA o) T' (0, 0))) ∧ (((W.setCell ⟨g, 0, none⟩ a).setCell ⟨g, 1, none⟩ b).cell? ⟨ub, 0, none⟩ = some (x) ∧ ((W.setCell ⟨g, 0, none⟩ a).setCell ⟨g, 1, none⟩ b).cell? ⟨ub, 1, none⟩ = some (y)) ∧ ((W.setCell ⟨g, 0, none⟩ a).setCell ⟨g, 1, none⟩ b).cell? ⟨go, 0, none⟩ = some (.int .i64 o.st) ∧ ((W.setCell ⟨g, 0, none⟩ a).setCell ⟨g, 1, none⟩ b).cell? ⟨go, 1, none⟩ = some (.int .i64 o.sr) ∧ ((W.setCell ⟨g, 0, none⟩ a).setCell ⟨g, 1, none⟩ b).cell? ⟨go, 2, none⟩ = some (.int .i64 o.k) ∧ ((W.setCell ⟨g, 0, none⟩ a).setCell ⟨g, 1, none⟩ b).cell? ⟨go, 3, none⟩ = some (.int .i64 o.pt) ∧ ((W.setCell ⟨g, 0, none⟩ a).setCell ⟨g, 1, none⟩ b).cell? ⟨go, 4, none⟩ = some (.int .i64 o.pr) ∧ ((W.setCell ⟨g, 0, none⟩ a).setCell ⟨g, 1, none⟩ b).cell? ⟨go, 5, none⟩ = some (.int .i64 o.it) ∧ ((W.setCell ⟨g, 0, none⟩ a).setCell ⟨g, 1, none⟩ b).cell? ⟨go, 6, none⟩ = some (.int .i64 o.ir) ∧ ((W.setCell ⟨g, 0, none⟩ a).setCell ⟨g, 1, none⟩ b).cell? ⟨go, 7, none⟩ = some (.int .i64 o.tt) ∧ ((W.setCell ⟨g, 0, none⟩ a).setCell ⟨g, 1, none⟩ b).cell? ⟨go, 8, none⟩ = some (.int .i64 o.tr) ∧ ((W.setCell ⟨g, 0, none⟩ a).setCell ⟨g, 1, none⟩ b).cell? ⟨go, 9, none⟩ = some (.string o.name) ∧ ((W.setCell ⟨g, 0, none⟩ a).setCell ⟨g, 1, none⟩ b).cell? ⟨go, 10, none⟩ = some (.string o.new) ∧ ((W.setCell ⟨g, 0, none⟩ a).setCell ⟨g, 1, none⟩ b).cell? ⟨go, 11, none⟩ = some (.int .i64 o.off) ∧ ((W.setCell ⟨g, 0, none⟩ a).setCell ⟨g, 1, none⟩ b).cell? ⟨go, 12, none⟩ = some (.string o.data) :=
  mk_s (W := (W.setCell ⟨g, 0, none⟩ a).setCell ⟨g, 1, none⟩ b) ((heap_setCell_other _ _ _ _ hu).trans ((heap_setCell_other _ _ _ _ hu).trans h.1.1)) ((heap_setCell_other _ _ _ _ ho).trans ((heap_setCell_other _ _ _ _ ho).trans h.1.2))

set_option maxRecDepth 100000 in
set_option maxHeartbeats 3200000 in
theorem refDoMake (N : Nat → Prop) (v : Value) (g : Gr) (o : Opn) (hf : g.fine) (hw : whyA g o = 0) (hk : o.k ≤ 3) (z1 : o.name.size ≤ 9223372036854775807) (z2 : o.new.size ≤ 9223372036854775807) (z3 : o.data.size ≤ 9223372036854775807) (ok : Ok64 o) (w : World) (hv : GrAt N w v g) :
    Calls Tryz.prog 17 #[v, .agg (opA o)] w (GrPost N (doA g o) w) := by
  have hg := hf.ok
  have hdo : doA g o = (madeA g o, 0) := by unfold doA; rw [if_pos hw]
  rw [hdo]
  have hm := whyA_may hw
  obtain ⟨p1, p2, _, _, _, _, _, p8⟩ := mayO_parts hm
  obtain ⟨A, n, c, A', m, d, rfl, hV⟩ := hv.few hg.lenI hg.lenE
  have hH0 : Held w [(w.heap.size + 1 + 1, .cells #[.slice none 0 0, .slice none 0 0] 30), (w.heap.size + 1, .cells (opA o) 37), (w.heap.size, .cells #[.slice A n c, .slice A' m d] 30)]
    (((w.alloc (.cells #[.slice A n c, .slice A' m d] 30)).alloc (.cells (opA o) 37)).alloc (.cells #[.slice none 0 0, .slice none 0 0] 30)) :=
    (((Held.refl w).alloc (.cells #[.slice A n c, .slice A' m d] 30) rfl).alloc (.cells (opA o) 37) (by simp)).alloc (.cells #[.slice none 0 0, .slice none 0 0] 30) (by simp)
  have hv0 := hv.live.step (N' := Clear N w (w.heap.size + 1 + 1 + 1)) hH0.below fun i hi => .inl hi
  have HW : Hid (∀ W : World, Below w.heap.size w W → Calls Tryz.prog 38 #[.agg #[.slice A n c, .slice A' m d], .agg (opA o)] W fun e w' => e = .returned (.int .i64 0) ∧ Below W.heap.size W w') := fun W hW => by rw [← hw]; exact (hV.step hW).why o z1 z2 z3
  have HGt : Hid (∀ W : World, Below w.heap.size w W → Calls Tryz.prog 39 #[.agg #[.slice A n c, .slice A' m d], .agg #[.int .i64 o.it, .int .i64 o.ir]] W fun e w' => e = .returned (.tuple #[.agg (inoA (inoG g (oIno o))), .bool (getG g (oIno o)).isSome]) ∧ Below W.heap.size W w') := fun W hW => (hV.step hW).get (oIno o)
  generalize (getG g (oIno o)).isSome = xi at HGt
  obtain ⟨x, hx⟩ : ∃ x, x = inoG g (oIno o) := ⟨_, rfl⟩
  rw [← hx] at HGt
  have H0 := Lib.hid hH0
  have V0 := Lib.hid hv0
  have HX := Lib.hid hx
  clear hH0 hv0 hv hdo hV hx
  have HP := Lib.hid (And.intro hf (And.intro hw (And.intro z1 (And.intro z2 (And.intro z3 (And.intro ok (And.intro hm p8)))))))
  clear hf hw z1 z2 z3 ok hm p8 hg
  unfold opA at HW H0 V0 ⊢
  unfold inoA at HGt
  unfold GrPost
  go_enter Tryz.func17, Tryz.ntmps17
  go_wp2_with fail
  refine (HW.out _ H0.out.below).mono ?_
  rintro e w1 ⟨rfl, hb1⟩
  have hH1 := H0.out.step hb1
  have hv1 := V0.out.clear_step hb1
  obtain ⟨g0, g1⟩ := two_cells (g := w.heap.size) (hH1.at 2 rfl)
  obtain ⟨e0, e1, e2, e3, e4, e5, e6, e7, e8, e9, e10, e11, e12⟩ := op_cells (o := o) (g := w.heap.size + 1) (hH1.at 1 rfl)
  have H1 := Lib.hid hH1
  have V1 := Lib.hid hv1
  clear hH1 hv1 hb1 H0 V0 HW
  go_wp2_with fail
  refine (HGt.out _ H1.out.below).mono ?_
  rintro e w2 ⟨rfl, hb2⟩
  have hH2 := H1.out.step hb2
  have hv2 := V1.out.clear_step hb2
  clear H1 V1 HGt hb2 g0 g1 e0 e1 e2 e3 e4 e5 e6 e7 e8 e9 e10 e11 e12
  go_upto_region 5 with fail
  obtain ⟨ux, hux⟩ : ∃ u, u = w2.heap.size := ⟨_, rfl⟩
  have hlx : w.heap.size + 1 + 1 < ux := by rw [hux]; exact heap_lt (hH2.at 0 rfl)
  have hH3 := hH2.alloc (.cells (inoA x) 54) hux.symm
  have hv3 := hv2.clear_step ((Below.refl w2.heap.size w2).alloc (Nat.le_refl _) (.cells (inoA x) 54))
  have hs3 : ux < (w2.alloc (.cells (inoA x) 54)).heap.size := by rw [hux]; simp
  change Code.wp _ _ _ _ (w2.alloc (.cells (inoA x) 54))
  rw [← hux]
  generalize w2.alloc (.cells (inoA x) 54) = w3 at hH3 hv3 hs3 ⊢
  clear hH2 hv2 hux
  obtain ⟨g0, g1⟩ := two_cells (g := w.heap.size) (hH3.at 3 rfl)
  obtain ⟨e0, e1, e2, e3, e4, e5, e6, e7, e8, e9, e10, e11, e12⟩ := op_cells (o := o) (g := w.heap.size + 1) (hH3.at 2 rfl)
  obtain ⟨r0, r1⟩ := two_cells (g := w.heap.size + 1 + 1) (hH3.at 1 rfl)
  obtain ⟨s0, s1⟩ := two_free (g := w.heap.size + 1 + 1) (hH3.at 1 rfl)
  obtain ⟨x0, x1, x2, x3, x4, x5⟩ := ino_cells (g := ux) (hH3.at 0 rfl)
  have H3 := Lib.hid hH3
  have V3 := Lib.hid hv3
  clear hH3 hv3
  have HE : Hid (madeA g o = tie1 (setG (makeG g (oSt o) o.k).1 (oSt o) 0 o.data).1 (oAt o) o.name (oSt o)) := Lib.hid (by unfold madeA; rw [if_pos hk])
  have hb : ((o.k == 1) = true) ∨ ((o.k == 1) = false ∧ (o.k == 2) = true) ∨ ((o.k == 1) = false ∧ (o.k == 2) = false ∧ (o.k == 3) = true) := by simp; omega
  obtain ⟨hf, hw, z1, z2, z3, ok, hm, p8⟩ := HP.out
  have hM := refMake _ _ g (oSt o) o.k hf.ok.lenI hf.ok.lenE w3 V3.out
  have hok := hf.ok.make (oSt o) o.k
  unfold GrPost at hM
  generalize (makeG g (oSt o) o.k).1 = u at hM hok HE
  generalize (makeG g (oSt o) o.k).2 = er at hM
  have hok2 := hok.set (oSt o) 0 o.data
  have HT1 : Hid (∀ (V : World) (C : Option Addr) (j p : Nat) (C' : Option Addr) (j' p' : Nat), GrAt (Clear N w (w.heap.size + 1 + 1 + 1)) V (.agg #[.slice C j p, .slice C' j' p']) u → w.heap.size + 1 + 1 + 1 ≤ V.heap.size → ∀ W : World, Below V.heap.size V W → Calls Tryz.prog 42 #[.agg #[.slice C j p, .slice C' j' p'], .agg #[.int .i64 o.st, .int .i64 o.sr], .int .i64 0, .string o.data] W fun e w' => ∃ (A : Option Addr) (n c : Nat) (A' : Option Addr) (m d : Nat), e = .returned (.agg #[.slice A n c, .slice A' m d]) ∧ GrAt (Clear N w (w.heap.size + 1 + 1 + 1)) w' (.agg #[.slice A n c, .slice A' m d]) (setG u (oSt o) 0 o.data).1 ∧ Below W.heap.size W w') := fun V C j p C' j' p' h hs W hW =>
    (refSet1 _ _ u (oSt o) 0 o.data hok W (h.clear_step hW)).mono fun e w' ⟨A, n, c, A', m, d, q1, q2, q3⟩ => ⟨A, n, c, A', m, d, q1, q2.clear (Nat.le_trans hs hW.size), q3⟩
  generalize (setG u (oSt o) 0 o.data).1 = t at HE hok2 HT1
  have HT2 : Hid (∀ (W : World) (C : Option Addr) (j p : Nat) (C' : Option Addr) (j' p' : Nat), GrAt (Clear N w (w.heap.size + 1 + 1 + 1)) W (.agg #[.slice C j p, .slice C' j' p']) t → w.heap.size + 1 + 1 + 1 ≤ W.heap.size → Calls Tryz.prog 41 #[.agg #[.slice C j p, .slice C' j' p'], .agg #[.int .i64 o.pt, .int .i64 o.pr], .string o.name, .agg #[.int .i64 o.st, .int .i64 o.sr]] W fun e w' => ∃ (A : Option Addr) (n c : Nat) (A' : Option Addr) (m d : Nat), e = .returned (.agg #[.slice A n c, .slice A' m d]) ∧ GrAt (Clear N w (w.heap.size + 1 + 1 + 1)) w' (.agg #[.slice A n c, .slice A' m d]) (tie1 t (oAt o) o.name (oSt o)) ∧ Below W.heap.size W w') := fun W C j p C' j' p' h hs =>
    (refTie1 _ _ t (oAt o) o.name (oSt o) hok2 z1 W h).mono fun e w' ⟨A, n, c, A', m, d, q1, q2, q3⟩ => ⟨A, n, c, A', m, d, q1, q2.clear hs, q3⟩
  have HMk := Lib.hid hM
  unfold stA oSt at HMk
  clear hf hw z1 z2 z3 ok hm p8 hk p1 p2 hM hok hok2 HP HX
  rcases hb with b1 | ⟨b1, b2⟩ | ⟨b1, b2, b3⟩
  all_goals
    go_wp2_with fail
    refine HMk.out.mono ?_
    rintro e w4 ⟨v4, rfl, q4, hb4⟩
    obtain ⟨C, j, p, C', j', p', rfl⟩ := q4.form
    have hH4 := H3.out.step hb4
    have hs4 := hb4.size
    have v4 := q4.clear (b := w.heap.size + 1 + 1 + 1) (by omega)
    clear q4 hb4 H3 V3 HMk g0 g1 e0 e1 e2 e3 e4 e5 e6 e7 e8 e9 e10 e11 e12 r0 r1 s0 s1 x0 x1 x2 x3 x4 x5
    go_upto_region 10 with fail
    obtain ⟨ub, hub⟩ : ∃ u, u = w4.heap.size := ⟨_, rfl⟩
    have hu1 : w.heap.size + 1 + 1 < ub := by rw [hub]; exact heap_lt (hH4.at 1 rfl)
    have hH5 := hH4.alloc (.cells #[.slice C j p, .slice C' j' p'] 30) hub.symm
    have v5 := v4.clear_step ((Below.refl w4.heap.size w4).alloc (Nat.le_refl _) (.cells #[.slice C j p, .slice C' j' p'] 30))
    change Code.wp _ _ _ _ (w4.alloc (.cells #[.slice C j p, .slice C' j' p'] 30))
    rw [← hub]
    have hs5 : w.heap.size + 1 + 1 + 1 ≤ (w4.alloc (.cells #[.slice C j p, .slice C' j' p'] 30)).heap.size := by simp only [World.size_alloc]; omega
    generalize w4.alloc (.cells #[.slice C j p, .slice C' j' p'] 30) = V at hH5 v5 hs5 ⊢
    clear hH4 v4 hs4 hub
    have hS := mk_s (hH5.at 0 rfl) (hH5.at 3 rfl)
    have hSd := mk_step ((Below.refl V.heap.size V).drew) hS
    have hn1 : ub ≠ w.heap.size + 1 + 1 := by omega
    have hn2 : w.heap.size + 1 ≠ w.heap.size + 1 + 1 := by omega
    have HK := Lib.hid hH5
    have HT1' := Lib.hid fun W hW => HT1.out V C j p C' j' p' v5 hs5 W hW
    clear hH5 v5
    go_region_held3 (fun W => (W.heap[ub]? = some (.cells #[.slice C j p, .slice C' j' p'] 30 (0, 0)) ∧ W.heap[w.heap.size + 1]? = some (.cells (opA o) 37 (0, 0))) ∧ (W.cell? ⟨ub, 0, none⟩ = some (.slice C j p) ∧ W.cell? ⟨ub, 1, none⟩ = some (.slice C' j' p')) ∧ W.cell? ⟨w.heap.size + 1, 0, none⟩ = some (.int .i64 o.st) ∧ W.cell? ⟨w.heap.size + 1, 1, none⟩ = some (.int .i64 o.sr) ∧ W.cell? ⟨w.heap.size + 1, 2, none⟩ = some (.int .i64 o.k) ∧ W.cell? ⟨w.heap.size + 1, 3, none⟩ = some (.int .i64 o.pt) ∧ W.cell? ⟨w.heap.size + 1, 4, none⟩ = some (.int .i64 o.pr) ∧ W.cell? ⟨w.heap.size + 1, 5, none⟩ = some (.int .i64 o.it) ∧ W.cell? ⟨w.heap.size + 1, 6, none⟩ = some (.int .i64 o.ir) ∧ W.cell? ⟨w.heap.size + 1, 7, none⟩ = some (.int .i64 o.tt) ∧ W.cell? ⟨w.heap.size + 1, 8, none⟩ = some (.int .i64 o.tr) ∧ W.cell? ⟨w.heap.size + 1, 9, none⟩ = some (.string o.name) ∧ W.cell? ⟨w.heap.size + 1, 10, none⟩ = some (.string o.new) ∧ W.cell? ⟨w.heap.size + 1, 11, none⟩ = some (.int .i64 o.off) ∧ W.cell? ⟨w.heap.size + 1, 12, none⟩ = some (.string o.data))
      (first | (with_reducible assumption) | exact mk_store _ _ hn1 hn2 (by with_reducible assumption))
      (first
        | (go_at_call 42; (with_reducible refine (HT1'.out _ (by repeat (first | exact Below.refl _ _ | assumption | apply Below.drew))).mono ?_); rintro e w6 ⟨D, j2, p2, D', j2', p2', rfl, q6, hb6⟩; have hS6 := mk_step hb6 (by assumption); have hV6 := below_step (by repeat (first | exact Below.refl V.heap.size _ | apply Below.drew)) hb6)
        | (go_at_call 41; (with_reducible refine (HT2.out _ _ _ _ _ _ _ q6 (Nat.le_trans hs5 hV6.size)).mono ?_); rintro e w7 ⟨C8, j8, p8, C9, j9, p9, rfl, q7, hb7⟩; have hS7 := mk_step hb7 (by assumption); have hV7 := below_step hV6 hb7; have hr7 := two_cells ((HK.out.step hV7).at 2 rfl); obtain ⟨r0, r1⟩ := hr7; have hs7 := two_free ((HK.out.step hV7).at 2 rfl); obtain ⟨s0, s1⟩ := hs7))
    have Q2 := Lib.hid (clear_end (res := w.heap.size + 1 + 1) q7 (HK.out.step hV7).below (by omega) (by omega) (.slice C8 j8 p8) (.slice C9 j9 p9))
    go_wp2_with fail
    exact bodyPost_ret (v := .tuple #[.agg #[.slice C8 j8 p8, .slice C9 j9 p9], .int .i64 0]) (by simp [results, Tryz.results17, go_sem, r0, r1]) rfl ⟨_, rfl, by rw [HE.out]; exact Q2.out⟩

end Go.Proofs.YtlhdbccemgofjaaGreatDoor
