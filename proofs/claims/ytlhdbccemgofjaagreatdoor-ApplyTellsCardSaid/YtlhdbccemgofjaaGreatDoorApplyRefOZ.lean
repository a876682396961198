/-
  The walk of the document's own Do: a link, what is taken away, what is written, cut, set.
-/
import Derived.Test.YtlhdbccemgofjaaGreatDoorApplyRefDZ
namespace Go.Proofs.YtlhdbccemgofjaaGreatDoor
open Go.RowKit StampMath GraphMath OpMath PackMath ExtentMath

set_option maxRecDepth 100000 in
set_option maxHeartbeats 3200000 in
theorem refDoOk (N : Nat → Prop) (v : Value) (g : Gr) (o : Opn) (hf : g.fine) (hw : whyA g o = 0) (hk4 : 4 ≤ o.k) (hk7 : o.k ≠ 7) (z1 : o.name.size ≤ 9223372036854775807) (z2 : o.new.size ≤ 9223372036854775807) (z3 : o.data.size ≤ 9223372036854775807) (ok : Ok64 o) (w : World) (hv : GrAt N w v g) :
    Calls Tryz.prog 17 #[v, .agg (opA o)] w (GrPost N (doA g o) w) := by
  have hg := hf.ok
  have hdo : doA g o = (madeA g o, 0) := by unfold doA; rw [if_pos hw]
  rw [hdo]
  have hm := whyA_may hw
  obtain ⟨p1, p2, _, _, _, _, _, p8⟩ := mayO_parts hm
  obtain ⟨A, n, c, A', m, d, rfl, hV⟩ := hv.few hg.lenI hg.lenE
  have hH0 : Held w [(w.heap.size + 1 + 1, .cells #[.slice none 0 0, .slice none 0 0] 30), (w.heap.size + 1, .cells (opA o) 37), (w.heap.size, .cells #[.slice A n c, .slice A' m d] 30)]
    (((w.alloc (.cells #[.slice A n c, .slice A' m d] 30)).alloc (.cells (opA o) 37)).alloc (.cells #[.slice none 0 0, .slice none 0 0] 30)) :=
    (((Held.refl w).alloc (.cells #[.slice A n c, .slice A' m d] 30) rfl).alloc (.cells (opA o) 37) (by simp)).alloc (.cells #[.slice none 0 0, .slice none 0 0] 30) (by simp)
  have hv0 := hv.live.step (N' := Clear N w (w.heap.size + 1 + 1 + 1)) hH0.below fun i hi => .inl hi
  have HW : Hid (∀ W : World, Below w.heap.size w W → Calls Tryz.prog 38 #[.agg #[.slice A n c, .slice A' m d], .agg (opA o)] W fun e w' => e = .returned (.int .i64 0) ∧ Below W.heap.size W w') := fun W hW => by rw [← hw]; exact (hV.step hW).why o z1 z2 z3
  have HGt : Hid (∀ W : World, Below w.heap.size w W → Calls Tryz.prog 39 #[.agg #[.slice A n c, .slice A' m d], .agg #[.int .i64 o.it, .int .i64 o.ir]] W fun e w' => e = .returned (.tuple #[.agg (inoA (inoG g (oIno o))), .bool (getG g (oIno o)).isSome]) ∧ Below W.heap.size W w') := fun W hW => (hV.step hW).get (oIno o)
  generalize (getG g (oIno o)).isSome = xi at HGt
  obtain ⟨x, hx⟩ : ∃ x, x = inoG g (oIno o) := ⟨_, rfl⟩
  rw [← hx] at HGt
  have H0 := Lib.hid hH0
  have V0 := Lib.hid hv0
  have HX := Lib.hid hx
  clear hH0 hv0 hv hdo hV hx
  have HP := Lib.hid (And.intro hf (And.intro hw (And.intro z1 (And.intro z2 (And.intro z3 (And.intro ok (And.intro hm p8)))))))
  clear hf hw z1 z2 z3 ok hm p8 hg
  unfold opA at HW H0 V0 ⊢
  unfold inoA at HGt
  unfold GrPost
  go_enter Tryz.func17, Tryz.ntmps17
  go_wp2_with fail
  refine (HW.out _ H0.out.below).mono ?_
  rintro e w1 ⟨rfl, hb1⟩
  have hH1 := H0.out.step hb1
  have hv1 := V0.out.clear_step hb1
  obtain ⟨g0, g1⟩ := two_cells (g := w.heap.size) (hH1.at 2 rfl)
  obtain ⟨e0, e1, e2, e3, e4, e5, e6, e7, e8, e9, e10, e11, e12⟩ := op_cells (o := o) (g := w.heap.size + 1) (hH1.at 1 rfl)
  have H1 := Lib.hid hH1
  have V1 := Lib.hid hv1
  clear hH1 hv1 hb1 H0 V0 HW
  go_wp2_with fail
  refine (HGt.out _ H1.out.below).mono ?_
  rintro e w2 ⟨rfl, hb2⟩
  have hH2 := H1.out.step hb2
  have hv2 := V1.out.clear_step hb2
  clear H1 V1 HGt hb2 g0 g1 e0 e1 e2 e3 e4 e5 e6 e7 e8 e9 e10 e11 e12
  go_upto_region 5 with fail
  obtain ⟨ux, hux⟩ : ∃ u, u = w2.heap.size := ⟨_, rfl⟩
  have hlx : w.heap.size + 1 + 1 < ux := by rw [hux]; exact heap_lt (hH2.at 0 rfl)
  have hH3 := hH2.alloc (.cells (inoA x) 54) hux.symm
  have hv3 := hv2.clear_step ((Below.refl w2.heap.size w2).alloc (Nat.le_refl _) (.cells (inoA x) 54))
  have hs3 : ux < (w2.alloc (.cells (inoA x) 54)).heap.size := by rw [hux]; simp
  change Code.wp _ _ _ _ (w2.alloc (.cells (inoA x) 54))
  rw [← hux]
  generalize w2.alloc (.cells (inoA x) 54) = w3 at hH3 hv3 hs3 ⊢
  clear hH2 hv2 hux
  obtain ⟨g0, g1⟩ := two_cells (g := w.heap.size) (hH3.at 3 rfl)
  obtain ⟨e0, e1, e2, e3, e4, e5, e6, e7, e8, e9, e10, e11, e12⟩ := op_cells (o := o) (g := w.heap.size + 1) (hH3.at 2 rfl)
  obtain ⟨r0, r1⟩ := two_cells (g := w.heap.size + 1 + 1) (hH3.at 1 rfl)
  obtain ⟨s0, s1⟩ := two_free (g := w.heap.size + 1 + 1) (hH3.at 1 rfl)
  obtain ⟨x0, x1, x2, x3, x4, x5⟩ := ino_cells (g := ux) (hH3.at 0 rfl)
  have H3 := Lib.hid hH3
  have V3 := Lib.hid hv3
  clear hH3 hv3
  have hk : o.k = 4 ∨ o.k = 5 ∨ o.k = 6 ∨ o.k = 8 ∨ o.k = 9 ∨ o.k = 10 := by omega
  rcases hk with hk | hk | hk | hk | hk | hk
  · have HE : Hid (madeA g o = tie1 g (oAt o) o.name (oIno o)) := Lib.hid (by unfold madeA; rw [if_neg (by omega), if_pos hk])
    have b1 : (o.k == 1) = false := by simp; omega
    have b2 : (o.k == 2) = false := by simp; omega
    have b3 : (o.k == 3) = false := by simp; omega
    have b4 : (o.k == 4) = true := by simp; omega
    obtain ⟨hf, hw, z1, z2, z3, ok, hm, p8⟩ := HP.out
    have HT := Lib.hid (refTie1 _ _ g (oAt o) o.name (oIno o) hf.ok z1 w3 V3.out)
    unfold stA oAt oIno G1Post at HT
    clear hf hw z1 z2 z3 ok hm p8 hk p1 p2
    go_wp2_with fail
    refine HT.out.mono ?_
    rintro e w4 ⟨C, j, p, C', j', p', rfl, q4, hb4⟩
    clear HT g0 g1 e0 e1 e2 e3 e4 e5 e6 e7 e8 e9 e10 e11 e12 r0 r1 s0 s1 x0 x1 x2 x3 x4 x5
    have hH4 := H3.out.step hb4
    obtain ⟨r0, r1⟩ := two_cells (g := w.heap.size + 1 + 1) (hH4.at 1 rfl)
    obtain ⟨s0, s1⟩ := two_free (g := w.heap.size + 1 + 1) (hH4.at 1 rfl)
    have Q2 := Lib.hid (clear_end (res := w.heap.size + 1 + 1) (q4.clear (by omega)) hH4.below (by omega) (by omega) (.slice C j p) (.slice C' j' p'))
    clear hH4 q4 hb4 H3 V3
    go_wp2_with fail
    exact bodyPost_ret (v := .tuple #[.agg #[.slice C j p, .slice C' j' p'], .int .i64 0]) (by simp [results, Tryz.results17, go_sem, r0, r1]) rfl ⟨_, rfl, by rw [HE.out]; exact Q2.out⟩
  · have HE : Hid (madeA g o = goneG g (oAt o) o.name) := Lib.hid (by unfold madeA; rw [if_neg (by omega), if_neg (by omega), if_pos (by omega)])
    have b1 : (o.k == 1) = false := by simp; omega
    have b2 : (o.k == 2) = false := by simp; omega
    have b3 : (o.k == 3) = false := by simp; omega
    have b4 : (o.k == 4) = false := by simp; omega
    have b5 : (o.k == 5) = true := by simp; omega
    obtain ⟨hf, hw, z1, z2, z3, ok, hm, p8⟩ := HP.out
    have HT := Lib.hid (refGone _ _ g (oAt o) o.name hf.ok w3 V3.out)
    unfold stA oAt G1Post at HT
    clear hf hw z1 z2 z3 ok hm p8 hk p1 p2
    go_wp2_with fail
    refine HT.out.mono ?_
    rintro e w4 ⟨C, j, p, C', j', p', rfl, q4, hb4⟩
    clear HT g0 g1 e0 e1 e2 e3 e4 e5 e6 e7 e8 e9 e10 e11 e12 r0 r1 s0 s1 x0 x1 x2 x3 x4 x5
    have hH4 := H3.out.step hb4
    obtain ⟨r0, r1⟩ := two_cells (g := w.heap.size + 1 + 1) (hH4.at 1 rfl)
    obtain ⟨s0, s1⟩ := two_free (g := w.heap.size + 1 + 1) (hH4.at 1 rfl)
    have Q2 := Lib.hid (clear_end (res := w.heap.size + 1 + 1) (q4.clear (by omega)) hH4.below (by omega) (by omega) (.slice C j p) (.slice C' j' p'))
    clear hH4 q4 hb4 H3 V3
    go_wp2_with fail
    exact bodyPost_ret (v := .tuple #[.agg #[.slice C j p, .slice C' j' p'], .int .i64 0]) (by simp [results, Tryz.results17, go_sem, r0, r1]) rfl ⟨_, rfl, by rw [HE.out]; exact Q2.out⟩
  · have HE : Hid (madeA g o = goneG g (oAt o) o.name) := Lib.hid (by unfold madeA; rw [if_neg (by omega), if_neg (by omega), if_pos (by omega)])
    have b1 : (o.k == 1) = false := by simp; omega
    have b2 : (o.k == 2) = false := by simp; omega
    have b3 : (o.k == 3) = false := by simp; omega
    have b4 : (o.k == 4) = false := by simp; omega
    have b5 : (o.k == 5) = false := by simp; omega
    have b6 : (o.k == 6) = true := by simp; omega
    obtain ⟨hf, hw, z1, z2, z3, ok, hm, p8⟩ := HP.out
    have HT := Lib.hid (refGone _ _ g (oAt o) o.name hf.ok w3 V3.out)
    unfold stA oAt G1Post at HT
    clear hf hw z1 z2 z3 ok hm p8 hk p1 p2
    go_wp2_with fail
    refine HT.out.mono ?_
    rintro e w4 ⟨C, j, p, C', j', p', rfl, q4, hb4⟩
    clear HT g0 g1 e0 e1 e2 e3 e4 e5 e6 e7 e8 e9 e10 e11 e12 r0 r1 s0 s1 x0 x1 x2 x3 x4 x5
    have hH4 := H3.out.step hb4
    obtain ⟨r0, r1⟩ := two_cells (g := w.heap.size + 1 + 1) (hH4.at 1 rfl)
    obtain ⟨s0, s1⟩ := two_free (g := w.heap.size + 1 + 1) (hH4.at 1 rfl)
    have Q2 := Lib.hid (clear_end (res := w.heap.size + 1 + 1) (q4.clear (by omega)) hH4.below (by omega) (by omega) (.slice C j p) (.slice C' j' p'))
    clear hH4 q4 hb4 H3 V3
    go_wp2_with fail
    exact bodyPost_ret (v := .tuple #[.agg #[.slice C j p, .slice C' j' p'], .int .i64 0]) (by simp [results, Tryz.results17, go_sem, r0, r1]) rfl ⟨_, rfl, by rw [HE.out]; exact Q2.out⟩
  · have HE : Hid (madeA g o = (setG g (oIno o) x.mode (wR x.data o.off o.data).1).1) := Lib.hid (by obtain ⟨hf, _, _, _, _, _, hm, _⟩ := HP.out; rw [HX.out, wrote_is hf hm hk]; unfold madeA; rw [if_neg (by omega), if_neg (by omega), if_neg (by omega), if_neg (by omega), if_pos hk])
    have b1 : (o.k == 1) = false := by simp; omega
    have b2 : (o.k == 2) = false := by simp; omega
    have b3 : (o.k == 3) = false := by simp; omega
    have b4 : (o.k == 4) = false := by simp; omega
    have b5 : (o.k == 5) = false := by simp; omega
    have b6 : (o.k == 6) = false := by simp; omega
    have b7 : (o.k == 7) = false := by simp; omega
    have b8 : (o.k == 8) = true := by simp; omega
    obtain ⟨hf, hw, z1, z2, z3, ok, hm, p8⟩ := HP.out
    have hxd : x.data.size ≤ 2000 := by have := inoG_small hf (oIno o); rw [HX.out]; omega
    have hsd := data_small hm hk
    have HR := Lib.hid (refWrite x.data o.off o.data hxd (by omega) ok.off w3)
    obtain ⟨dd, hdd⟩ : ∃ dd, dd = (wR x.data o.off o.data).1 := ⟨_, rfl⟩
    rw [← hdd] at HR HE
    generalize (wR x.data o.off o.data).2 = de at HR
    have HT := Lib.hid fun (W : World) (hW : Below w3.heap.size w3 W) => refSet1 _ _ g (oIno o) x.mode dd hf.ok W (V3.out.clear_step hW)
    unfold stA oIno G1Post at HT
    clear hf hw z1 z2 z3 ok hm p8 hk p1 p2 hxd hdd hsd
    go_wp2_with fail
    refine HR.out.mono ?_
    rintro e w4 ⟨rfl, hb4⟩
    have hT4 := HT.out w4 hb4
    have hH4 := H3.out.step hb4
    have hs4 := hb4.size
    clear HT g0 g1 e0 e1 e2 e3 e4 e5 e6 e7 e8 e9 e10 e11 e12 r0 r1 s0 s1 x0 x1 x2 x3 x4 x5 hb4 H3 V3 HR
    obtain ⟨g0, g1⟩ := two_cells (g := w.heap.size) (hH4.at 3 rfl)
    obtain ⟨e0, e1, e2, e3, e4, e5, e6, e7, e8, e9, e10, e11, e12⟩ := op_cells (o := o) (g := w.heap.size + 1) (hH4.at 2 rfl)
    obtain ⟨x0, x1, x2, x3, x4, x5⟩ := ino_cells (g := ux) (hH4.at 0 rfl)
    have HT := Lib.hid hT4
    have H4 := Lib.hid hH4
    clear hT4 hH4
    go_wp2_with fail
    refine HT.out.mono ?_
    rintro e w5 ⟨C, j, p, C', j', p', rfl, q5, hb5⟩
    clear HT g0 g1 e0 e1 e2 e3 e4 e5 e6 e7 e8 e9 e10 e11 e12 x0 x1 x2 x3 x4 x5
    have hH5 := H4.out.step hb5
    obtain ⟨r0, r1⟩ := two_cells (g := w.heap.size + 1 + 1) (hH5.at 1 rfl)
    obtain ⟨s0, s1⟩ := two_free (g := w.heap.size + 1 + 1) (hH5.at 1 rfl)
    have Q2 := Lib.hid (clear_end (res := w.heap.size + 1 + 1) (q5.clear (by omega)) hH5.below (by omega) (by omega) (.slice C j p) (.slice C' j' p'))
    clear hH5 q5 hb5 H4
    go_wp2_with fail
    exact bodyPost_ret (v := .tuple #[.agg #[.slice C j p, .slice C' j' p'], .int .i64 0]) (by simp [results, Tryz.results17, go_sem, r0, r1]) rfl ⟨_, rfl, by rw [HE.out]; exact Q2.out⟩
  · have HE : Hid (madeA g o = (setG g (oIno o) x.mode (tR x.data o.off).1).1) := Lib.hid (by obtain ⟨hf, _, _, _, _, _, hm, _⟩ := HP.out; rw [HX.out, cut_is hf hm hk]; unfold madeA; rw [if_neg (by omega), if_neg (by omega), if_neg (by omega), if_neg (by omega), if_neg (by omega), if_pos hk])
    have b1 : (o.k == 1) = false := by simp; omega
    have b2 : (o.k == 2) = false := by simp; omega
    have b3 : (o.k == 3) = false := by simp; omega
    have b4 : (o.k == 4) = false := by simp; omega
    have b5 : (o.k == 5) = false := by simp; omega
    have b6 : (o.k == 6) = false := by simp; omega
    have b7 : (o.k == 7) = false := by simp; omega
    have b8 : (o.k == 8) = false := by simp; omega
    have b9 : (o.k == 9) = true := by simp; omega
    obtain ⟨hf, hw, z1, z2, z3, ok, hm, p8⟩ := HP.out
    have hxd : x.data.size ≤ 2000 := by have := inoG_small hf (oIno o); rw [HX.out]; omega
    have HR := Lib.hid (refTrunc x.data o.off hxd w3)
    obtain ⟨dd, hdd⟩ : ∃ dd, dd = (tR x.data o.off).1 := ⟨_, rfl⟩
    rw [← hdd] at HR HE
    generalize (tR x.data o.off).2 = de at HR
    have HT := Lib.hid fun (W : World) (hW : Below w3.heap.size w3 W) => refSet1 _ _ g (oIno o) x.mode dd hf.ok W (V3.out.clear_step hW)
    unfold stA oIno G1Post at HT
    clear hf hw z1 z2 z3 ok hm p8 hk p1 p2 hxd hdd
    go_wp2_with fail
    refine HR.out.mono ?_
    rintro e w4 ⟨rfl, hb4⟩
    have hT4 := HT.out w4 hb4
    have hH4 := H3.out.step hb4
    have hs4 := hb4.size
    clear HT g0 g1 e0 e1 e2 e3 e4 e5 e6 e7 e8 e9 e10 e11 e12 r0 r1 s0 s1 x0 x1 x2 x3 x4 x5 hb4 H3 V3 HR
    obtain ⟨g0, g1⟩ := two_cells (g := w.heap.size) (hH4.at 3 rfl)
    obtain ⟨e0, e1, e2, e3, e4, e5, e6, e7, e8, e9, e10, e11, e12⟩ := op_cells (o := o) (g := w.heap.size + 1) (hH4.at 2 rfl)
    obtain ⟨x0, x1, x2, x3, x4, x5⟩ := ino_cells (g := ux) (hH4.at 0 rfl)
    have HT := Lib.hid hT4
    have H4 := Lib.hid hH4
    clear hT4 hH4
    go_wp2_with fail
    refine HT.out.mono ?_
    rintro e w5 ⟨C, j, p, C', j', p', rfl, q5, hb5⟩
    clear HT g0 g1 e0 e1 e2 e3 e4 e5 e6 e7 e8 e9 e10 e11 e12 x0 x1 x2 x3 x4 x5
    have hH5 := H4.out.step hb5
    obtain ⟨r0, r1⟩ := two_cells (g := w.heap.size + 1 + 1) (hH5.at 1 rfl)
    obtain ⟨s0, s1⟩ := two_free (g := w.heap.size + 1 + 1) (hH5.at 1 rfl)
    have Q2 := Lib.hid (clear_end (res := w.heap.size + 1 + 1) (q5.clear (by omega)) hH5.below (by omega) (by omega) (.slice C j p) (.slice C' j' p'))
    clear hH5 q5 hb5 H4
    go_wp2_with fail
    exact bodyPost_ret (v := .tuple #[.agg #[.slice C j p, .slice C' j' p'], .int .i64 0]) (by simp [results, Tryz.results17, go_sem, r0, r1]) rfl ⟨_, rfl, by rw [HE.out]; exact Q2.out⟩
  · have HE : Hid (madeA g o = (setG g (oIno o) o.off x.data).1) := Lib.hid (by rw [HX.out]; unfold madeA; rw [if_neg (by omega), if_neg (by omega), if_neg (by omega), if_neg (by omega), if_neg (by omega), if_neg (by omega)])
    have b1 : (o.k == 1) = false := by simp; omega
    have b2 : (o.k == 2) = false := by simp; omega
    have b3 : (o.k == 3) = false := by simp; omega
    have b4 : (o.k == 4) = false := by simp; omega
    have b5 : (o.k == 5) = false := by simp; omega
    have b6 : (o.k == 6) = false := by simp; omega
    have b7 : (o.k == 7) = false := by simp; omega
    have b8 : (o.k == 8) = false := by simp; omega
    have b9 : (o.k == 9) = false := by simp; omega
    obtain ⟨hf, hw, z1, z2, z3, ok, hm, p8⟩ := HP.out
    have HT := Lib.hid (refSet1 _ _ g (oIno o) o.off x.data hf.ok w3 V3.out)
    unfold stA oIno G1Post at HT
    clear hf hw z1 z2 z3 ok hm p8 hk p1 p2
    go_wp2_with fail
    refine HT.out.mono ?_
    rintro e w4 ⟨C, j, p, C', j', p', rfl, q4, hb4⟩
    clear HT g0 g1 e0 e1 e2 e3 e4 e5 e6 e7 e8 e9 e10 e11 e12 r0 r1 s0 s1 x0 x1 x2 x3 x4 x5
    have hH4 := H3.out.step hb4
    obtain ⟨r0, r1⟩ := two_cells (g := w.heap.size + 1 + 1) (hH4.at 1 rfl)
    obtain ⟨s0, s1⟩ := two_free (g := w.heap.size + 1 + 1) (hH4.at 1 rfl)
    have Q2 := Lib.hid (clear_end (res := w.heap.size + 1 + 1) (q4.clear (by omega)) hH4.below (by omega) (by omega) (.slice C j p) (.slice C' j' p'))
    clear hH4 q4 hb4 H3 V3
    go_wp2_with fail
    exact bodyPost_ret (v := .tuple #[.agg #[.slice C j p, .slice C' j' p'], .int .i64 0]) (by simp [results, Tryz.results17, go_sem, r0, r1]) rfl ⟨_, rfl, by rw [HE.out]; exact Q2.out⟩

end Go.Proofs.YtlhdbccemgofjaaGreatDoor
