/-
  A file, or a symbolic link, whose last name goes is gone, and one with another name isn't; a directory that goes was empty: for all operations, and all lists of them (100 at most).
-/
import Derived.Test.YtlhdbccemgofjaaGreatDoorZ01
import Derived.Test.YtlhdbccemgofjaaGreatDoorZ01
import Derived.OpenShut
import Derived.Deep.Cut
import Derived.Deep.DeepCutAuto
namespace Go.Proofs.YtlhdbccemgofjaaGreatDoor.lawApplyGone
open Go.RowKit StampMath GraphMath OpMath PackMath

theorem links_small {g : Gr} (h : g.ok) (id : St) : 0 ≤ ((getG g id).getD noIno).links ∧ ((getG g id).getD noIno).links ≤ 240 := by
  cases hq : getG g id with
  | none => exact ⟨by decide, by decide⟩
  | some y =>
    obtain ⟨x, _, _, hy⟩ := get_some hq
    have h1 := linksE_le g.E id
    have h2 := h.entsFew
    rw [Option.getD_some, hy]
    dsimp only
    omega

theorem does_err {g : Gr} {o : Opn} : (doA g o).2 = whyA g o := by
  unfold doA
  by_cases q : whyA g o = 0
  · rw [if_pos q, q]
  · rw [if_neg q]

set_option maxRecDepth 100000 in
set_option maxHeartbeats 3200000 in
theorem core {H : GraphHave} (P : ApplyHave H) (A : Option Addr) (n c : Nat) (l : List Opn) (o : Opn) (hfit : ∀ x ∈ l, OpFit x) (ho : OpFit o) (w : World) (T : Tab w) (h : OpsIn w w.heap.size A n l) :
    Calls Tryz.prog 10 #[.slice A n c, .agg (opA o)] w fun e w' => e = .returned (.bool true) ∧ Below w.heap.size w w' := by
  have hH0 : Held w [(w.heap.size, .cells (opA o) 37)] (w.alloc (.cells (opA o) 37)) := (Held.refl w).alloc (.cells (opA o) 37) rfl
  have HX := Lib.hid h
  have HF := Lib.hid hfit
  have HO := Lib.hid ho
  have H0 := Lib.hid hH0
  clear h hfit ho hH0
  unfold opA at H0 ⊢
  go_enter Tryz.func10, Tryz.ntmps10
  go_wp2_with fail
  refine (P.shown _ (tab_held H0.out)).mono ?_
  rintro e w1 ⟨rfl, hb1⟩
  have H1 := Lib.hid (H0.out.step hb1)
  clear hb1 H0
  go_wp2_with fail
  refine (few_any A n c _).mono ?_
  rintro e w2 ⟨rfl, hb2⟩
  have H2 := Lib.hid (H1.out.step hb2)
  clear hb2 H1
  obtain ⟨e0, e1, e2, e3, e4, e5, e6, e7, e8, e9, e10, e11, e12⟩ := op_cells (o := o) (g := w.heap.size) (H2.out.at 0 rfl)
  by_cases hn : n ≤ 100
  · have hd : decide (n ≤ 100) = true := decide_eq_true hn
    by_cases hk : o.k = 5 ∨ o.k = 6
    · have HK := Lib.hid hk
      rcases hk with hk | hk
      all_goals rw [hk] at e2
      all_goals clear hk
      all_goals
        go_wp2_with fail
        refine (made_any P A n c l hn HF.out w2 (tab_held H2.out) ((TabIn.below HX.out H2.out.below).more H2.out.below.size)).mono ?_
        rintro e w3 ⟨a, g, rfl, f3⟩
        have F3 := Lib.hid f3
        have hH3 := H2.out.step f3.below
        have HG := Lib.hid (f3.gx.get (oIno o))
        have hsm := Lib.hid (links_small f3.gx.ok (oIno o))
        unfold stA oIno inoA at HG
        unfold oIno at hsm
        clear f3 hd e0 e1 e2 e3 e4 e5 e6 e7 e8 e9 e10 e11 e12 hn
        obtain ⟨e0, e1, e2, e3, e4, e5, e6, e7, e8, e9, e10, e11, e12⟩ := op_cells (o := o) (g := w.heap.size) (hH3.at 0 rfl)
        clear hH3
        obtain ⟨X, hX⟩ : ∃ X, X = (getG g (o.it, o.ir)).getD noIno := ⟨_, rfl⟩
        rw [← hX] at HG hsm
        have HXX := Lib.hid hX
        clear hX
        generalize (getG g (o.it, o.ir)).isSome = xi at HG
        go_wp2_with fail
        refine HG.out.mono ?_
        rintro e w4 ⟨rfl, g4, hb4⟩
        clear e0 e1 e2 e3 e4 e5 e6 e7 e8 e9 e10 e11 e12 HG
        go_upto_region 6 with fail
        have hA := (Below.refl w4.heap.size w4).alloc (Nat.le_refl _) (.cells #[.int .i64 X.id.1, .int .i64 X.id.2, .int .i64 X.kind, .int .i64 X.links, .int .i64 X.mode, .string X.data] 54)
        have hI := heap_alloc_new w4 (.cells #[.int .i64 X.id.1, .int .i64 X.id.2, .int .i64 X.kind, .int .i64 X.links, .int .i64 X.mode, .string X.data] 54)
        have g5 := (g4.grow hA).less (N' := fun i => i = w4.heap.size) fun i hi => .inr (by subst hi; simp)
        change Code.wp _ _ _ _ (w4.alloc (.cells #[.int .i64 X.id.1, .int .i64 X.id.2, .int .i64 X.kind, .int .i64 X.links, .int .i64 X.mode, .string X.data] 54))
        generalize w4.alloc (.cells #[.int .i64 X.id.1, .int .i64 X.id.2, .int .i64 X.kind, .int .i64 X.links, .int .i64 X.mode, .string X.data] 54) = w5 at hI g5 ⊢
        generalize w4.heap.size = bw at hI g5 ⊢
        have hH5 := H2.out.step g5.below
        have HL : Hid (Calls Tryz.prog 34 #[.pointer (some a), .agg #[.int .i64 o.it, .int .i64 o.ir]] w5 fun e w' => ∃ (A : Option Addr) (c : Nat), e = .returned (.slice A (listE g.E (o.it, o.ir)).length c) ∧ GX H w2 w' (fun i => i = bw) a g ∧ Below w5.heap.size w5 w') := (g5.list (oIno o)).mono fun _ _ ⟨⟨v, q1, q2, q3⟩, q4⟩ => by
          obtain ⟨A, c, rfl, _⟩ := ents_own rfl q2
          exact ⟨A, c, q1, q4, q3⟩
        obtain ⟨ll, hll⟩ : ∃ ll, ll = (listE g.E (o.it, o.ir)).length := ⟨_, rfl⟩
        rw [← hll] at HL
        have HLL := Lib.hid hll
        obtain ⟨e0, e1, e2, e3, e4, e5, e6, e7, e8, e9, e10, e11, e12⟩ := op_cells (o := o) (g := w.heap.size) (hH5.at 0 rfl)
        have I5 := Lib.hid hI
        clear g4 hb4 hA hI g5 hH5 hll
        go_wp2_with fail
        refine HL.out.mono ?_
        rintro e w8 ⟨A8, c8, rfl, g8, hb8⟩
        have F8 : Hid (FX H w2 w8 (fun i => i = bw) a g) := ⟨g8, F3.out.fine⟩
        have I8 := Lib.hid ((hb8.block _ (heap_lt I5.out)).trans I5.out)
        have hH8 := H2.out.step F8.out.below
        clear e0 e1 e2 e3 e4 e5 e6 e7 e8 e9 e10 e11 e12 HL
        obtain ⟨e0, e1, e2, e3, e4, e5, e6, e7, e8, e9, e10, e11, e12⟩ := op_cells (o := o) (g := w.heap.size) (hH8.at 0 rfl)
        have T2 := tab_held H2.out
        have HD := Lib.hid (F8.out.does P T2 o HO.out)
        rw [does_err] at HD
        unfold opA at HD
        clear hb8 hH8 g8 I5
        go_wp2_with fail
        refine HD.out.mono ?_
        rintro e w9 ⟨rfl, f9, s9⟩
        have I9 := Lib.hid ((s9.2 _ rfl).trans I8.out)
        have F9 := Lib.hid f9
        have H9 := Lib.hid (H2.out.step f9.below)
        clear e0 e1 e2 e3 e4 e5 e6 e7 e8 e9 e10 e11 e12 HD f9 s9 I8 F8
        by_cases hw : whyA g o = 0
        · have hwb : (whyA g o == 0) = true := beq_iff_eq.2 hw
          have hmd : (doA g o).1 = madeA g o := by unfold doA; rw [if_pos hw]
          have hall := gone_all F3.out.fine hw HK.out
          rw [hmd] at F9
          generalize whyA g o = y at hwb
          generalize madeA g o = m at F9 hall
          unfold oIno oAt at hall
          rw [← HXX.out] at hall
          have HA := Lib.hid hall
          clear hall hmd hw
          have HGt := Lib.hid (F9.out.gx.get (oIno o))
          unfold stA oIno inoA at HGt
          obtain ⟨Y, hY⟩ : ∃ Y, Y = (getG m (o.it, o.ir)).getD noIno := ⟨_, rfl⟩
          obtain ⟨yi, hyi⟩ : ∃ yi, yi = (getG m (o.it, o.ir)).isSome := ⟨_, rfl⟩
          rw [← hY, ← hyi] at HGt
          have HYY := Lib.hid (And.intro hY hyi)
          clear hY hyi
          obtain ⟨e0, e1, e2, e3, e4, e5, e6, e7, e8, e9, e10, e11, e12⟩ := op_cells (o := o) (g := w.heap.size) (H9.out.at 0 rfl)
          go_wp2_with fail
          refine HGt.out.mono ?_
          rintro e w10 ⟨rfl, g10, hb10⟩
          clear e0 e1 e2 e3 e4 e5 e6 e7 e8 e9 e10 e11 e12 HGt
          go_upto_region 10 with fail
          have hA := (Below.refl w10.heap.size w10).alloc (Nat.le_refl _) (.cells #[.int .i64 Y.id.1, .int .i64 Y.id.2, .int .i64 Y.kind, .int .i64 Y.links, .int .i64 Y.mode, .string Y.data] 54)
          have hK := heap_alloc_new w10 (.cells #[.int .i64 Y.id.1, .int .i64 Y.id.2, .int .i64 Y.kind, .int .i64 Y.links, .int .i64 Y.mode, .string Y.data] 54)
          have g11 := g10.step hA
          have hb11 := below_step hb10 hA
          have hI11 := (hb11.block _ (heap_lt I9.out)).trans I9.out
          have hH11 := H9.out.step hb11
          change Code.wp _ _ _ _ (w10.alloc (.cells #[.int .i64 Y.id.1, .int .i64 Y.id.2, .int .i64 Y.kind, .int .i64 Y.links, .int .i64 Y.mode, .string Y.data] 54))
          generalize w10.alloc (.cells #[.int .i64 Y.id.1, .int .i64 Y.id.2, .int .i64 Y.kind, .int .i64 Y.links, .int .i64 Y.mode, .string Y.data] 54) = w11 at hK g11 hI11 hH11 ⊢
          generalize w10.heap.size = bn at hK ⊢
          have HL := Lib.hid (g11.look (oAt o) o.name HO.out.name)
          unfold stA oAt at HL
          rw [HA.out.2.1] at HL
          simp only [Option.getD_none, Option.isSome_none] at HL
          obtain ⟨e0, e1, e2, e3, e4, e5, e6, e7, e8, e9, e10, e11, e12⟩ := op_cells (o := o) (g := w.heap.size) (hH11.at 0 rfl)
          have I11 := Lib.hid hI11
          have K11 := Lib.hid hK
          have H11 := Lib.hid hH11
          clear g10 hb10 hA hK g11 hb11 hI11 hH11 I9 H9 F9
          go_wp2_with fail
          refine HL.out.mono ?_
          rintro e w12 ⟨rfl, g12, hb12⟩
          clear e0 e1 e2 e3 e4 e5 e6 e7 e8 e9 e10 e11 e12 HL
          go_upto_region 11 with fail
          have hA := (Below.refl w12.heap.size w12).alloc (Nat.le_refl _) (.cells #[.int .i64 0, .int .i64 0] 35)
          have hb13 := below_step hb12 hA
          have hI13 := (hb13.block _ (heap_lt I11.out)).trans I11.out
          have hK13 := (hb13.block _ (heap_lt K11.out)).trans K11.out
          have hH13 := H11.out.step hb13
          generalize w12.alloc (.cells #[.int .i64 0, .int .i64 0] 35) = w13 at hI13 hK13 hH13 ⊢
          obtain ⟨e0, e1, e2, e3, e4, e5, e6, e7, e8, e9, e10, e11, e12⟩ := op_cells (o := o) (g := w.heap.size) (hH13.at 0 rfl)
          obtain ⟨i0, i1, i2, i3, i4, i5⟩ := ino_cells (x := X) (g := bw) hI13
          obtain ⟨k0, k1, k2, k3, k4, k5'⟩ := ino_cells (x := Y) (g := bn) hK13
          have HB13 := Lib.hid hH13.below
          obtain ⟨a1, _, a3, a4, a5⟩ := HA.out
          obtain ⟨hY, hyi⟩ := HYY.out
          have hll : ll = 0 := by rw [HLL.out, a1]; rfl
          subst hll
          obtain ⟨b, hb1, hb2⟩ : ∃ b, (X.kind == 1) = b ∧ (o.k == 6) = b := ⟨_, rfl, by
            rw [Bool.eq_iff_iff, beq_iff_eq, beq_iff_eq]
            exact a5.symm⟩
          rw [← hyi] at a3
          clear g12 hb12 hA hb13 hI13 hK13 hH13 I11 K11 H11 HA a1 a5
          by_cases hl : 1 < X.links
          · have hyt : yi = true := by rw [a3, decide_eq_true hl]
            have hyl : Y.links = X.links - 1 := by
              obtain ⟨y', hy'⟩ := Option.isSome_iff_exists.1 (hyi.symm.trans hyt)
              rw [hY, hy']
              exact a4 y' hy'
            have hwr : wrap64 (X.links - 1) = X.links - 1 := by
              have := hsm.out
              unfold wrap64
              omega
            have hcmp : (Y.links == X.links - 1) = true := beq_iff_eq.2 hyl
            clear hY hyi a3 a4 hyl
            subst hyt
            cases b
            all_goals
              go_wp2_with fail
              go_ret
              exact ⟨by first | rfl | simp, HB13.out⟩
          · have hyt : yi = false := by rw [a3, decide_eq_false hl]
            have hlf : decide (X.links > 1) = false := decide_eq_false hl
            clear hY hyi a3 a4 hl
            subst hyt
            cases b
            all_goals
              go_wp2_with fail
              go_ret
              exact ⟨by first | rfl | simp, HB13.out⟩
        · have hwb : (whyA g o == 0) = false := beq_eq_false_iff_ne.2 hw
          go_wp2_with fail
          go_ret
          exact ⟨rfl, H9.out.below⟩
    · have k5 : ¬ o.k = 5 := fun q => hk (.inl q)
      have k6 : ¬ o.k = 6 := fun q => hk (.inr q)
      clear hk
      go_wp2_with fail
      · go_ret
        exact ⟨rfl, H2.out.below⟩
      · exfalso
        have hq := ‹(o.k != 5) = false ∨ (o.k != 6) = false›
        simp at hq
        omega
  · have hd : decide (n ≤ 100) = false := decide_eq_false hn
    go_wp2_with fail
    go_ret
    exact ⟨rfl, H2.out.below⟩

theorem walk0 {H : GraphHave} (P : ApplyHave H) (a0A : Option Addr) (a0n : Nat) (a0c : Nat) (a0x : List Opn) (a1 : Opn) (w : World) [T : Tab w] (_ : a0n ≤ a0c) (_ : a0c ≤ maxLen) (w0x : ∀ x ∈ a0x, OpFit x) (w0d : OpsIn w w.heap.size a0A a0n a0x) (w1 : Ok64 a1) (w1a : a1.name.size ≤ maxLen) (w1b : a1.new.size ≤ maxLen) (w1c : a1.data.size ≤ maxLen) :
    Calls Tryz.prog 10 #[.slice a0A a0n a0c, .agg (opA a1)] w fun e w' => e = .returned (.bool true) ∧ Below w.heap.size w w' :=
  core P a0A a0n a0c a0x a1 w0x ⟨w1, w1a, w1b, w1c⟩ w T w0d

end Go.Proofs.YtlhdbccemgofjaaGreatDoor.lawApplyGone
