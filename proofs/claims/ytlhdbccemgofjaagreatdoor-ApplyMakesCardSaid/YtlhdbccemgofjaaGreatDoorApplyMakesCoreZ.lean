/-
  What is made is there, under its name, of its kind, with one link; without it all is as it was; made twice it isn't: for all operations, and all lists of them (100 at most).
-/
import Derived.Test.YtlhdbccemgofjaaGreatDoorZ01
import Derived.Test.YtlhdbccemgofjaaGreatDoorZ01
import Derived.Test.YtlhdbccemgofjaaGreatDoorApplySameZ
import Derived.OpenShut
import Derived.Test.YtlhdbccemgofjaaGreatDoorZ01
import Derived.BigQuiet
import Derived.Deep.Cut
import Derived.Deep.DeepCutAuto
namespace Go.Proofs.YtlhdbccemgofjaaGreatDoor.lawApplyMakes
open Go.RowKit StampMath GraphMath OpMath PackMath

theorem does_err {g : Gr} {o : Opn} : (doA g o).2 = whyA g o := by
  unfold doA
  by_cases q : whyA g o = 0
  · rw [if_pos q, q]
  · rw [if_neg q]

set_option maxRecDepth 100000 in
set_option maxHeartbeats 3200000 in
theorem core {H : GraphHave} (P : ApplyHave H) (A : Option Addr) (n c : Nat) (l : List Opn) (o : Opn) (hfit : ∀ x ∈ l, OpFit x) (ho : OpFit o) (w : World) (T : Tab w) (h : OpsIn w w.heap.size A n l) :
    Calls Tryz.prog 6 #[.slice A n c, .agg (opA o)] w fun e w' => e = .returned (.bool true) ∧ Below w.heap.size w w' := by
  have hH0 : Held w [(w.heap.size, .cells (opA o) 37)] (w.alloc (.cells (opA o) 37)) := (Held.refl w).alloc (.cells (opA o) 37) rfl
  have HX := Lib.hid h
  have HF := Lib.hid hfit
  have HO := Lib.hid ho
  have H0 := Lib.hid hH0
  have HM := Lib.hid fun (W : World) (hW : Below w.heap.size w W) => by haveI := tab_below T (Nat.le_refl _) hW; exact P.makes o W ho
  unfold opA at HM
  clear h hfit ho hH0
  unfold opA at H0 ⊢
  go_enter Tryz.func6, Tryz.ntmps6
  go_wp2_with fail
  refine (P.shown _ (tab_held H0.out)).mono ?_
  rintro e w1 ⟨rfl, hb1⟩
  have H1 := Lib.hid (H0.out.step hb1)
  clear hb1 H0
  go_wp2_with fail
  refine (few_any A n c _).mono ?_
  rintro e w2 ⟨rfl, hb2⟩
  have H2 := Lib.hid (H1.out.step hb2)
  clear hb2 H1
  by_cases hn : n ≤ 100
  · have hd : decide (n ≤ 100) = true := decide_eq_true hn
    obtain ⟨e0, e1, e2, e3, e4, e5, e6, e7, e8, e9, e10, e11, e12⟩ := op_cells (o := o) (g := w.heap.size) (H2.out.at 0 rfl)
    go_wp2_with fail
    refine (HM.out _ H2.out.below).mono ?_
    rintro e w3 ⟨rfl, hb3⟩
    have H3 := Lib.hid (H2.out.step hb3)
    clear hb3 H2 hd e0 e1 e2 e3 e4 e5 e6 e7 e8 e9 e10 e11 e12
    by_cases hk : makesO o = 0
    · have hkb : (makesO o == 0) = true := beq_iff_eq.2 hk
      go_wp2_with fail
      go_ret
      exact ⟨rfl, H3.out.below⟩
    · have hkb : (makesO o == 0) = false := beq_eq_false_iff_ne.2 hk
      have hk3 : 1 ≤ o.k ∧ o.k ≤ 3 ∧ makesO o = o.k := by
        unfold makesO at hk ⊢
        by_cases q : 1 ≤ o.k ∧ o.k ≤ 3
        · rw [if_pos q]; exact ⟨q.1, q.2, rfl⟩
        · rw [if_neg q] at hk; exact absurd rfl hk
      rw [hk3.2.2] at HM
      have HK := Lib.hid hk3
      go_wp2_with fail
      refine (made_any P A n c l hn HF.out w3 (tab_held H3.out) ((TabIn.below HX.out H3.out.below).more H3.out.below.size)).mono ?_
      rintro e w4 ⟨a, g, rfl, f4⟩
      have F4 := Lib.hid f4
      have H4 := Lib.hid (H3.out.step f4.below)
      clear f4 hkb hk hk3
      go_wp2_with fail
      refine F4.out.gx.copy.mono ?_
      rintro e w5 ⟨b, S, U, rfl, ⟨g5, r5, _⟩, _, hb5⟩
      have T3 := tab_held H3.out
      have F5 : Hid (FX H w3 w5 (fun i => False ∨ U i) a g) := ⟨g5, F4.out.fine⟩
      have R5 := Lib.hid r5
      have HD := Lib.hid (F5.out.does P T3 o HO.out)
      rw [does_err] at HD
      unfold opA at HD
      have hH5 := H4.out.step hb5
      obtain ⟨e0, e1, e2, e3, e4, e5, e6, e7, e8, e9, e10, e11, e12⟩ := op_cells (o := o) (g := w.heap.size) (hH5.at 0 rfl)
      clear g5 r5 hb5 H4 F4 hH5
      go_wp2_with fail
      refine HD.out.mono ?_
      rintro e w6 ⟨rfl, f6, s6⟩
      have R6 := Lib.hid (H.keep R5.out fun i hi => s6.2 i (.inr hi))
      have F6 := Lib.hid f6
      have H6 := Lib.hid (H3.out.step f6.below)
      clear f6 s6 e0 e1 e2 e3 e4 e5 e6 e7 e8 e9 e10 e11 e12 HD R5
      by_cases hw : whyA g o = 0
      · have hwb : (whyA g o == 0) = true := beq_iff_eq.2 hw
        have hmd : (doA g o).1 = madeA g o := by unfold doA; rw [if_pos hw]
        have hall := makes_all F5.out.fine hw HK.out.2.1
        rw [hmd] at F6
        obtain ⟨a1, a2, a3, a4⟩ := hall
        have HLk := Lib.hid (F6.out.gx.look (oAt o) o.name HO.out.name)
        rw [a1] at HLk
        have HA := Lib.hid (And.intro a1 (And.intro a2 (And.intro a3 a4)))
        generalize madeA g o = m at F6 HLk HA
        generalize whyA g o = y at hwb
        clear hmd a1 a2 a3 a4 hw
        simp only [Option.getD_some, Option.isSome_some] at HLk
        unfold stA oAt oSt at HLk
        obtain ⟨e0, e1, e2, e3, e4, e5, e6, e7, e8, e9, e10, e11, e12⟩ := op_cells (o := o) (g := w.heap.size) (H6.out.at 0 rfl)
        go_wp2_with fail
        refine HLk.out.mono ?_
        rintro e w7 ⟨rfl, g7, hb7⟩
        clear e0 e1 e2 e3 e4 e5 e6 e7 e8 e9 e10 e11 e12 HLk
        go_upto_region 9 with fail
        have hA := (Below.refl w7.heap.size w7).alloc (Nat.le_refl _) (.cells #[.int .i64 o.st, .int .i64 o.sr] 35)
        have hI := heap_alloc_new w7 (.cells #[.int .i64 o.st, .int .i64 o.sr] 35)
        have g8 := (g7.grow hA).less (N' := fun i => U i ∨ i = w7.heap.size) fun i hi => hi.elim (fun q => .inl (.inr q)) fun q => .inr (by subst q; simp)
        have hR8 := H.keep R6.out fun i hi => (below_step hb7 hA).block i (H.lt R6.out i hi)
        have hH8 := H6.out.step (below_step hb7 hA)
        change Code.wp _ _ _ _ (w7.alloc (.cells #[.int .i64 o.st, .int .i64 o.sr] 35))
        generalize w7.alloc (.cells #[.int .i64 o.st, .int .i64 o.sr] 35) = w8 at hI g8 hR8 hH8 ⊢
        generalize w7.heap.size = bi at hI g8 ⊢
        have FM := Lib.hid F6.out.fine
        have HGt := Lib.hid (g8.get (oSt o))
        rw [HA.out.2.1] at HGt
        simp only [Option.getD_some, Option.isSome_some] at HGt
        unfold stA oSt inoA at HGt
        obtain ⟨i0, i1⟩ := two_cells hI
        have G8 := Lib.hid g8
        have R8 := Lib.hid hR8
        have H8 := Lib.hid hH8
        have I8 := Lib.hid hI
        clear g7 hb7 hA hI g8 hR8 hH8 R6 F6 H6
        go_wp2_with fail
        refine HGt.out.mono ?_
        rintro e w9 ⟨rfl, g9, hb9⟩
        clear i0 i1 HGt
        go_upto_region 10 with fail
        have hA := (Below.refl w9.heap.size w9).alloc (Nat.le_refl _) (.cells #[.int .i64 o.st, .int .i64 o.sr, .int .i64 o.k, .int .i64 1, .int .i64 0, .string o.data] 54)
        have hJ := heap_alloc_new w9 (.cells #[.int .i64 o.st, .int .i64 o.sr, .int .i64 o.k, .int .i64 1, .int .i64 0, .string o.data] 54)
        have g10 := (g9.grow hA).less (N' := fun i => (U i ∨ i = bi) ∨ i = w9.heap.size) fun i hi => hi.elim .inl fun q => .inr (by subst q; simp)
        have hb10 := below_step hb9 hA
        have hR10 := H.keep R8.out fun i hi => hb10.block i (H.lt R8.out i hi)
        have hI10 := (hb10.block _ (heap_lt I8.out)).trans I8.out
        have hH10 := H8.out.step hb10
        change Code.wp _ _ _ _ (w9.alloc (.cells #[.int .i64 o.st, .int .i64 o.sr, .int .i64 o.k, .int .i64 1, .int .i64 0, .string o.data] 54))
        generalize w9.alloc (.cells #[.int .i64 o.st, .int .i64 o.sr, .int .i64 o.k, .int .i64 1, .int .i64 0, .string o.data] 54) = w10 at hJ g10 hR10 hI10 hH10 ⊢
        generalize w9.heap.size = bj at hJ g10 ⊢
        have F10 : FX H w3 w10 (fun i => (U i ∨ i = bi) ∨ i = bj) a m := ⟨g10, FM.out⟩
        have HD := Lib.hid (F10.does P T3 o HO.out)
        have hdm : (doA m o).1 = m := by unfold doA; rw [if_neg (by rw [HA.out.2.2.1]; decide)]
        rw [does_err, HA.out.2.2.1, hdm] at HD
        unfold opA at HD
        obtain ⟨e0, e1, e2, e3, e4, e5, e6, e7, e8, e9, e10, e11, e12⟩ := op_cells (o := o) (g := w.heap.size) (hH10.at 0 rfl)
        have R10 := Lib.hid hR10
        have I10 := Lib.hid hI10
        have J10 := Lib.hid hJ
        clear g9 hb9 hA hJ g10 hb10 hR10 hI10 hH10 F10 hdm G8 R8 H8 I8 FM
        go_wp2_with fail
        refine HD.out.mono ?_
        rintro e w11 ⟨rfl, f11, s11⟩
        have R11 := Lib.hid (H.keep R10.out fun i hi => s11.2 i (.inl (.inl hi)))
        have I11 := Lib.hid ((s11.2 _ (.inl (.inr rfl))).trans I10.out)
        have J11 := Lib.hid ((s11.2 _ (.inr rfl)).trans J10.out)
        have H11 := Lib.hid (H3.out.step f11.below)
        have HU := Lib.hid (f11.gx.untie (oAt o) o.name HO.out.name)
        clear e0 e1 e2 e3 e4 e5 e6 e7 e8 e9 e10 e11 e12 HD f11 s11 R10 I10 J10
        obtain ⟨e0, e1, e2, e3, e4, e5, e6, e7, e8, e9, e10, e11, e12⟩ := op_cells (o := o) (g := w.heap.size) (H11.out.at 0 rfl)
        unfold stA oAt at HU
        have hfin := HA.out.2.2.2
        unfold oAt at hfin
        generalize untieG m (o.pt, o.pr) o.name = u at HU hfin
        obtain ⟨u1, u2, u3⟩ := u
        dsimp only at HU hfin
        have HFN := Lib.hid hfin
        clear hfin
        go_wp2_with fail
        refine HU.out.mono ?_
        rintro e w12 ⟨rfl, g12, s12⟩
        have R12 := Lib.hid (H.keep R11.out fun i hi => s12.2 i (.inl (.inl hi)))
        have I12 := Lib.hid ((s12.2 _ (.inl (.inr rfl))).trans I11.out)
        have J12 := Lib.hid ((s12.2 _ (.inr rfl)).trans J11.out)
        have HDr := Lib.hid (g12.drop (oSt o))
        rw [HFN.out] at HDr
        unfold stA oSt at HDr
        clear e0 e1 e2 e3 e4 e5 e6 e7 e8 e9 e10 e11 e12 HU g12 s12 R11 I11 J11 H11
        obtain ⟨i0, i1⟩ := two_cells I12.out
        go_wp2_with fail
        refine HDr.out.mono ?_
        rintro e w13 ⟨rfl, g13, s13⟩
        have r13 := H.keep R12.out fun i hi => s13.2 i (.inl (.inl hi))
        have hI := (s13.2 _ (.inl (.inr rfl))).trans I12.out
        have hJ := (s13.2 _ (.inr rfl)).trans J12.out
        have hH := H3.out.step g13.below
        have HS : Hid (∀ W, Below w13.heap.size w13 W → Calls Tryz.prog 26 #[.pointer (some a), .pointer (some b)] W fun e w' => e = .returned (.bool true) ∧ Below W.heap.size W w') := fun W hW => by
          obtain ⟨S13, q13, _⟩ := (g13.step hW).at'
          exact same_two H a b S13 U g W q13 (H.keep r13 fun i hi => hW.block i (H.lt r13 i hi)) g13.ok
        clear i0 i1 HDr R12 I12 J12 s13 r13
        have I13 := Lib.hid hI
        have J13 := Lib.hid hJ
        have H13 := Lib.hid hH
        obtain ⟨i0, i1⟩ := two_cells hI
        obtain ⟨j0, j1, j2, j3, j4, j5⟩ := ino_cells (x := ⟨(o.st, o.sr), o.k, 1, 0, o.data⟩) (g := bj) hJ
        obtain ⟨e0, e1, e2, e3, e4, e5, e6, e7, e8, e9, e10, e11, e12⟩ := op_cells (o := o) (g := w.heap.size) (hH.at 0 rfl)
        clear hI hJ hH g13 HFN HA F5
        go_wp2_with fail
        have hBW := Lib.hid H13.out.below
        have p0 := fun y => later_cell i0 y
        have p1 := fun y => later_cell i1 y
        have p2 := fun y => later_cell j2 y
        have p3 := fun y => later_cell j3 y
        have p5 := fun y => later_cell j5 y
        have q0 := fun y => later_cell e0 y
        have q1 := fun y => later_cell e1 y
        have q2 := fun y => later_cell e2 y
        have q3 := fun y => later_cell e3 y
        have q4 := fun y => later_cell e4 y
        have q5 := fun y => later_cell e5 y
        have q6 := fun y => later_cell e6 y
        have q7 := fun y => later_cell e7 y
        have q8 := fun y => later_cell e8 y
        have q9 := fun y => later_cell e9 y
        have q10 := fun y => later_cell e10 y
        have q11 := fun y => later_cell e11 y
        have q12 := fun y => later_cell e12 y
        have HM2 := Lib.hid fun (y : World) => later_call (HM.out (later w13 y) (below_step hBW.out (later_below w13 y)))
        have HS2 := Lib.hid fun (y : World) => later_call (HS.out (later w13 y) (later_below w13 y))
        clear i0 i1 j0 j1 j2 j3 j4 j5 e0 e1 e2 e3 e4 e5 e6 e7 e8 e9 e10 e11 e12 HM HS HX HF H3 I13 J13 hwb hn
        refine wp_region_later (by kernel_rfl) (by kernel_rfl) ?_
        repeat (go_big_quiet_step (first | (with_reducible exact HM2.out _) | (with_reducible exact HS2.out _)))
        refine wpQuiet_nil ?_
        intro _ hw'
        obtain ⟨y1, rfl⟩ := hw'
        go_wp2_with fail
        go_ret
        exact ⟨rfl, below_step hBW.out (later_below w13 y1)⟩
      · have hwb : (whyA g o == 0) = false := beq_eq_false_iff_ne.2 hw
        go_wp2_with fail
        go_ret
        exact ⟨rfl, H6.out.below⟩
  · have hd : decide (n ≤ 100) = false := decide_eq_false hn
    go_wp2_with fail
    go_ret
    exact ⟨rfl, H2.out.below⟩

theorem walk0 {H : GraphHave} (P : ApplyHave H) (a0A : Option Addr) (a0n : Nat) (a0c : Nat) (a0x : List Opn) (a1 : Opn) (w : World) [T : Tab w] (_ : a0n ≤ a0c) (_ : a0c ≤ maxLen) (w0x : ∀ x ∈ a0x, OpFit x) (w0d : OpsIn w w.heap.size a0A a0n a0x) (w1 : Ok64 a1) (w1a : a1.name.size ≤ maxLen) (w1b : a1.new.size ≤ maxLen) (w1c : a1.data.size ≤ maxLen) :
    Calls Tryz.prog 6 #[.slice a0A a0n a0c, .agg (opA a1)] w fun e w' => e = .returned (.bool true) ∧ Below w.heap.size w w' :=
  core P a0A a0n a0c a0x a1 w0x ⟨w1, w1a, w1b, w1c⟩ w T w0d

end Go.Proofs.YtlhdbccemgofjaaGreatDoor.lawApplyMakes
