/-
  What is renamed is where it was to be, and not where it was, but if that is a name of it, too; it is the same inode, with as many links: for all operations, and all lists of them (100 at most).
-/
import Derived.Test.YtlhdbccemgofjaaGreatDoorZ01
import Derived.Test.YtlhdbccemgofjaaGreatDoorZ01
import Derived.Test.YtlhdbccemgofjaaGreatDoorGraphEqZ
import Derived.OpenShut
import Derived.Deep.Cut
import Derived.Deep.DeepCutAuto
namespace Go.Proofs.YtlhdbccemgofjaaGreatDoor.lawApplyMoves
open Go.RowKit StampMath GraphMath OpMath PackMath

theorem does_err {g : Gr} {o : Opn} : (doA g o).2 = whyA g o := by
  unfold doA
  by_cases q : whyA g o = 0
  · rw [if_pos q, q]
  · rw [if_neg q]

set_option maxRecDepth 100000 in
set_option maxHeartbeats 3200000 in
theorem core {H : GraphHave} (P : ApplyHave H) (A : Option Addr) (n c : Nat) (l : List Opn) (o : Opn) (hfit : ∀ x ∈ l, OpFit x) (ho : OpFit o) (w : World) (T : Tab w) (h : OpsIn w w.heap.size A n l) :
    Calls Tryz.prog 7 #[.slice A n c, .agg (opA o)] w fun e w' => e = .returned (.bool true) ∧ Below w.heap.size w w' := by
  have hH0 : Held w [(w.heap.size, .cells (opA o) 37)] (w.alloc (.cells (opA o) 37)) := (Held.refl w).alloc (.cells (opA o) 37) rfl
  have HX := Lib.hid h
  have HF := Lib.hid hfit
  have HO := Lib.hid ho
  have H0 := Lib.hid hH0
  clear h hfit ho hH0
  unfold opA at H0 ⊢
  go_enter Tryz.func7, Tryz.ntmps7
  go_wp2_with fail
  refine (P.shown _ (tab_held H0.out)).mono ?_
  rintro e w1 ⟨rfl, hb1⟩
  have H1 := Lib.hid (H0.out.step hb1)
  clear hb1 H0
  go_wp2_with fail
  refine (few_any A n c _).mono ?_
  rintro e w2 ⟨rfl, hb2⟩
  have H2 := Lib.hid (H1.out.step hb2)
  clear hb2 H1
  obtain ⟨e0, e1, e2, e3, e4, e5, e6, e7, e8, e9, e10, e11, e12⟩ := op_cells (o := o) (g := w.heap.size) (H2.out.at 0 rfl)
  by_cases hn : n ≤ 100
  · have hd : decide (n ≤ 100) = true := decide_eq_true hn
    by_cases hk : o.k = 7
    · have hkb : (o.k == 7) = true := beq_iff_eq.2 hk
      go_wp2_with fail
      refine (made_any P A n c l hn HF.out w2 (tab_held H2.out) ((TabIn.below HX.out H2.out.below).more H2.out.below.size)).mono ?_
      rintro e w3 ⟨a, g, rfl, f3⟩
      have F3 := Lib.hid f3
      have HK := Lib.hid hk
      have hH3 := H2.out.step f3.below
      have HG := Lib.hid (f3.gx.get (oIno o))
      unfold stA oIno inoA at HG
      clear f3 hd e0 e1 e2 e3 e4 e5 e6 e7 e8 e9 e10 e11 e12 hn hk hkb
      obtain ⟨e0, e1, e2, e3, e4, e5, e6, e7, e8, e9, e10, e11, e12⟩ := op_cells (o := o) (g := w.heap.size) (hH3.at 0 rfl)
      clear hH3
      obtain ⟨X, hX⟩ : ∃ X, X = (getG g (o.it, o.ir)).getD noIno := ⟨_, rfl⟩
      rw [← hX] at HG
      have HXX := Lib.hid hX
      clear hX
      generalize (getG g (o.it, o.ir)).isSome = xi at HG
      go_wp2_with fail
      refine HG.out.mono ?_
      rintro e w4 ⟨rfl, g4, hb4⟩
      clear e0 e1 e2 e3 e4 e5 e6 e7 e8 e9 e10 e11 e12 HG
      go_upto_region 6 with fail
      have hA := (Below.refl w4.heap.size w4).alloc (Nat.le_refl _) (.cells #[.int .i64 X.id.1, .int .i64 X.id.2, .int .i64 X.kind, .int .i64 X.links, .int .i64 X.mode, .string X.data] 54)
      have hI := heap_alloc_new w4 (.cells #[.int .i64 X.id.1, .int .i64 X.id.2, .int .i64 X.kind, .int .i64 X.links, .int .i64 X.mode, .string X.data] 54)
      have g5 := (g4.grow hA).less (N' := fun i => i = w4.heap.size) fun i hi => .inr (by subst hi; simp)
      change Code.wp _ _ _ _ (w4.alloc (.cells #[.int .i64 X.id.1, .int .i64 X.id.2, .int .i64 X.kind, .int .i64 X.links, .int .i64 X.mode, .string X.data] 54))
      generalize w4.alloc (.cells #[.int .i64 X.id.1, .int .i64 X.id.2, .int .i64 X.kind, .int .i64 X.links, .int .i64 X.mode, .string X.data] 54) = w5 at hI g5 ⊢
      generalize w4.heap.size = bw at hI g5 ⊢
      have hH5 := H2.out.step g5.below
      have HL := Lib.hid (g5.look (oTo o) o.new HO.out.new)
      unfold stA oTo at HL
      obtain ⟨t, ht⟩ : ∃ t, t = (lookE g.E (o.tt, o.tr) o.new).getD (0, 0) := ⟨_, rfl⟩
      obtain ⟨is, his⟩ : ∃ is, is = (lookE g.E (o.tt, o.tr) o.new).isSome := ⟨_, rfl⟩
      rw [← ht, ← his] at HL
      have HT := Lib.hid (And.intro ht his)
      obtain ⟨e0, e1, e2, e3, e4, e5, e6, e7, e8, e9, e10, e11, e12⟩ := op_cells (o := o) (g := w.heap.size) (hH5.at 0 rfl)
      have I5 := Lib.hid hI
      clear g4 hb4 hA hI g5 hH5 ht his
      go_wp2_with fail
      refine HL.out.mono ?_
      rintro e w6 ⟨rfl, g6, hb6⟩
      clear e0 e1 e2 e3 e4 e5 e6 e7 e8 e9 e10 e11 e12 HL
      go_upto_region 7 with fail
      have hA := (Below.refl w6.heap.size w6).alloc (Nat.le_refl _) (.cells #[.int .i64 t.1, .int .i64 t.2] 35)
      have hJ := heap_alloc_new w6 (.cells #[.int .i64 t.1, .int .i64 t.2] 35)
      have g7 := (g6.grow hA).less (N' := fun i => i = bw ∨ i = w6.heap.size) fun i hi => hi.imp id fun q => (by subst q; simp)
      have hI7 := ((below_step hb6 hA).block _ (heap_lt I5.out)).trans I5.out
      change Code.wp _ _ _ _ (w6.alloc (.cells #[.int .i64 t.1, .int .i64 t.2] 35))
      generalize w6.alloc (.cells #[.int .i64 t.1, .int .i64 t.2] 35) = w7 at hJ g7 hI7 ⊢
      generalize w6.heap.size = bt at hJ g7 ⊢
      obtain ⟨S7, q7, _⟩ := g7.at'
      have HE := Lib.hid (told_ents H q7 g7.ok (Below.refl w7.heap.size w7))
      unfold EntsPost at HE
      obtain ⟨ln, hln⟩ : ∃ ln, ln = g.E.length := ⟨_, rfl⟩
      rw [← hln] at HE
      have HLN := Lib.hid hln
      have G7 := Lib.hid g7
      have I7 := Lib.hid hI7
      have J7 := Lib.hid hJ
      clear g6 hb6 hA hJ g7 hI7 q7 I5 hln
      go_wp2_with fail
      refine HE.out.mono ?_
      rintro e w8 ⟨B, k8, rfl, _, _, _, _, hb8⟩
      have F8 : Hid (FX H w2 w8 (fun i => i = bw ∨ i = bt) a g) := ⟨G7.out.step hb8, F3.out.fine⟩
      have I8 := Lib.hid ((hb8.block _ (heap_lt I7.out)).trans I7.out)
      have J8 := Lib.hid ((hb8.block _ (heap_lt J7.out)).trans J7.out)
      have hH8 := H2.out.step F8.out.below
      obtain ⟨e0, e1, e2, e3, e4, e5, e6, e7, e8, e9, e10, e11, e12⟩ := op_cells (o := o) (g := w.heap.size) (hH8.at 0 rfl)
      have T2 := tab_held H2.out
      have HD := Lib.hid (F8.out.does P T2 o HO.out)
      rw [does_err] at HD
      unfold opA at HD
      clear HE hb8 hH8 G7 I7 J7
      go_wp2_with fail
      refine HD.out.mono ?_
      rintro e w9 ⟨rfl, f9, s9⟩
      have I9 := Lib.hid ((s9.2 _ (.inl rfl)).trans I8.out)
      have J9 := Lib.hid ((s9.2 _ (.inr rfl)).trans J8.out)
      have F9 := Lib.hid f9
      have H9 := Lib.hid (H2.out.step f9.below)
      clear e0 e1 e2 e3 e4 e5 e6 e7 e8 e9 e10 e11 e12 HD f9 s9 I8 J8 F8
      by_cases hw : whyA g o = 0
      · have hwb : (whyA g o == 0) = true := beq_iff_eq.2 hw
        have hmd : (doA g o).1 = madeA g o := by unfold doA; rw [if_pos hw]
        have hall := moves_all F3.out.fine hw HK.out
        rw [hmd] at F9
        generalize whyA g o = y at hwb
        generalize madeA g o = m at F9 hall
        have HA := Lib.hid hall
        clear hall hmd hw
        have HGt := Lib.hid (F9.out.gx.get (oIno o))
        rw [HA.out.1, HA.out.2.1] at HGt
        unfold stA oIno inoA at HGt
        rw [← HXX.out] at HGt
        obtain ⟨e0, e1, e2, e3, e4, e5, e6, e7, e8, e9, e10, e11, e12⟩ := op_cells (o := o) (g := w.heap.size) (H9.out.at 0 rfl)
        go_wp2_with fail
        refine HGt.out.mono ?_
        rintro e w10 ⟨rfl, g10, hb10⟩
        clear e0 e1 e2 e3 e4 e5 e6 e7 e8 e9 e10 e11 e12 HGt
        go_upto_region 11 with fail
        have hA := (Below.refl w10.heap.size w10).alloc (Nat.le_refl _) (.cells #[.int .i64 X.id.1, .int .i64 X.id.2, .int .i64 X.kind, .int .i64 X.links, .int .i64 X.mode, .string X.data] 54)
        have hK := heap_alloc_new w10 (.cells #[.int .i64 X.id.1, .int .i64 X.id.2, .int .i64 X.kind, .int .i64 X.links, .int .i64 X.mode, .string X.data] 54)
        have g11 := g10.step hA
        have hb11 := below_step hb10 hA
        have hI11 := (hb11.block _ (heap_lt I9.out)).trans I9.out
        have hJ11 := (hb11.block _ (heap_lt J9.out)).trans J9.out
        have hH11 := H9.out.step hb11
        change Code.wp _ _ _ _ (w10.alloc (.cells #[.int .i64 X.id.1, .int .i64 X.id.2, .int .i64 X.kind, .int .i64 X.links, .int .i64 X.mode, .string X.data] 54))
        generalize w10.alloc (.cells #[.int .i64 X.id.1, .int .i64 X.id.2, .int .i64 X.kind, .int .i64 X.links, .int .i64 X.mode, .string X.data] 54) = w11 at hK g11 hI11 hJ11 hH11 ⊢
        generalize w10.heap.size = bn at hK ⊢
        have HL := Lib.hid (g11.look (oTo o) o.new HO.out.new)
        rw [HA.out.2.2.1] at HL
        simp only [Option.getD_some, Option.isSome_some] at HL
        unfold stA oTo oIno at HL
        obtain ⟨e0, e1, e2, e3, e4, e5, e6, e7, e8, e9, e10, e11, e12⟩ := op_cells (o := o) (g := w.heap.size) (hH11.at 0 rfl)
        have I11 := Lib.hid hI11
        have J11 := Lib.hid hJ11
        have K11 := Lib.hid hK
        have H11 := Lib.hid hH11
        clear g10 hb10 hA hK g11 hb11 hI11 hJ11 hH11 I9 J9 H9 F9
        go_wp2_with fail
        refine HL.out.mono ?_
        rintro e w12 ⟨rfl, g12, hb12⟩
        clear e0 e1 e2 e3 e4 e5 e6 e7 e8 e9 e10 e11 e12 HL
        go_upto_region 12 with fail
        have hA := (Below.refl w12.heap.size w12).alloc (Nat.le_refl _) (.cells #[.int .i64 o.it, .int .i64 o.ir] 35)
        have hM := heap_alloc_new w12 (.cells #[.int .i64 o.it, .int .i64 o.ir] 35)
        have g13 := g12.step hA
        have hb13 := below_step hb12 hA
        have hI13 := (hb13.block _ (heap_lt I11.out)).trans I11.out
        have hJ13 := (hb13.block _ (heap_lt J11.out)).trans J11.out
        have hK13 := (hb13.block _ (heap_lt K11.out)).trans K11.out
        have hH13 := H11.out.step hb13
        change Code.wp _ _ _ _ (w12.alloc (.cells #[.int .i64 o.it, .int .i64 o.ir] 35))
        generalize w12.alloc (.cells #[.int .i64 o.it, .int .i64 o.ir] 35) = w13 at hM g13 hI13 hJ13 hK13 hH13 ⊢
        generalize w12.heap.size = bi at hM ⊢
        have EQ : ∀ W : World, (Op.equalIn 10000 54 (.agg #[.int .i64 X.id.1, .int .i64 X.id.2, .int .i64 X.kind, .int .i64 X.links, .int .i64 X.mode, .string X.data]) (.agg #[.int .i64 X.id.1, .int .i64 X.id.2, .int .i64 X.kind, .int .i64 X.links, .int .i64 X.mode, .string X.data])).run Tryz.prog W = .ok true W := fun W => by
          have := run_eqIno X X W; simpa using this
        have HL := Lib.hid (g13.look (oAt o) o.name HO.out.name)
        unfold stA oAt at HL
        obtain ⟨e0, e1, e2, e3, e4, e5, e6, e7, e8, e9, e10, e11, e12⟩ := op_cells (o := o) (g := w.heap.size) (hH13.at 0 rfl)
        obtain ⟨i0, i1, i2, i3, i4, i5⟩ := ino_cells (x := X) (g := bw) hI13
        obtain ⟨k0, k1, k2, k3, k4, k5⟩ := ino_cells (x := X) (g := bn) hK13
        obtain ⟨m0, m1⟩ := two_cells hM
        have J13 := Lib.hid hJ13
        have H13 := Lib.hid hH13
        clear g12 hb12 hA hM g13 hb13 hI13 hJ13 hK13 hH13 I11 J11 K11 H11
        go_wp2_with fail
        refine HL.out.mono ?_
        rintro e w14 ⟨rfl, g14, hb14⟩
        obtain ⟨_, _, _, hsame, hmove⟩ := HA.out
        have hmE : m.E.length ≤ 240 := g14.ok.entsFew
        clear e0 e1 e2 e3 e4 e5 e6 e7 e8 e9 e10 e11 e12 i0 i1 i2 i3 i4 i5 k0 k1 k2 k3 k4 k5 m0 m1 HL EQ HA
        obtain ⟨p, hp⟩ : ∃ p, p = (lookE m.E (o.pt, o.pr) o.name).getD (0, 0) := ⟨_, rfl⟩
        rw [← hp]
        clear hp
        go_upto_region 15 with fail
        have hA := (Below.refl w14.heap.size w14).alloc (Nat.le_refl _) (.cells #[.int .i64 p.1, .int .i64 p.2] 35)
        have g15 := g14.step hA
        have hb15 := below_step hb14 hA
        have hJ15 := (hb15.block _ (heap_lt J13.out)).trans J13.out
        have hH15 := H13.out.step hb15
        change Code.wp _ _ _ _ (w14.alloc (.cells #[.int .i64 p.1, .int .i64 p.2] 35))
        generalize w14.alloc (.cells #[.int .i64 p.1, .int .i64 p.2] 35) = w15 at g15 hJ15 hH15 ⊢
        obtain ⟨S15, q15, _⟩ := g15.at'
        have HE := Lib.hid (told_ents H q15 g15.ok (Below.refl w15.heap.size w15))
        unfold EntsPost at HE
        obtain ⟨e0, e1, e2, e3, e4, e5, e6, e7, e8, e9, e10, e11, e12⟩ := op_cells (o := o) (g := w.heap.size) (hH15.at 0 rfl)
        obtain ⟨j0, j1⟩ := two_cells hJ15
        have HB15 := Lib.hid hH15.below
        have hT := HT.out
        have hL := HLN.out
        unfold targetG oTo oIno at hsame hmove
        unfold oAt at hsame hmove
        generalize m.E.length = ml at HE hsame hmove hmE
        clear g14 hb14 hA g15 hb15 hJ15 hH15 q15 J13 H13 HT HLN
        cases hq : lookE g.E (o.tt, o.tr) o.new with
        | none =>
          rw [hq] at hT hmove
          obtain ⟨z1, _, z3⟩ := hmove (by simp)
          have z3 := z3 rfl
          obtain ⟨_, rfl⟩ := hT
          subst hL
          have hcmp : (((ml : Nat) : Int) == ((g.E.length : Nat) : Int)) = true := by rw [z3]; exact beq_self_eq_true _
          clear hq hsame hmove z3
          go_wp2_with fail
          refine HE.out.mono ?_
          rintro e w16 ⟨B, k16, rfl, _, _, _, _, hb16⟩
          have HB := Lib.hid (below_step HB15.out hb16)
          go_wp2_with fail
          go_ret
          exact ⟨rfl, HB.out⟩
        | some t' =>
          rw [hq] at hT hsame hmove
          obtain ⟨ht, rfl⟩ := hT
          have ht2 : t = t' := ht
          subst ht2
          by_cases hti : t = (o.it, o.ir)
          · obtain ⟨z1, z2⟩ := hsame (by rw [hti])
            obtain ⟨q', hq'⟩ := Option.isSome_iff_exists.1 z1
            subst hL
            have hcmp : (((ml : Nat) : Int) == ((g.E.length : Nat) : Int)) = true := by rw [z2]; exact beq_self_eq_true _
            have b1 : (t.1 == o.it) = true := by rw [hti]; exact beq_self_eq_true _
            have b2 : (t.2 == o.ir) = true := by rw [hti]; exact beq_self_eq_true _
            clear hq hsame hmove z1 z2 ht hti
            go_wp2_with fail
            refine HE.out.mono ?_
            rintro e w16 ⟨B, k16, rfl, _, _, _, _, hb16⟩
            have HB := Lib.hid (below_step HB15.out hb16)
            go_wp2_with fail
            go_ret
            exact ⟨rfl, HB.out⟩
          · obtain ⟨z1, z2, _⟩ := hmove (fun q => hti (Option.some.inj q))
            have z2 := z2 rfl
            subst hL
            have hcmp : (((ml : Nat) : Int) == ((g.E.length : Nat) : Int) - 1) = true := by rw [beq_iff_eq]; omega
            have hbb : (t.1 == o.it) = false ∨ ((t.1 == o.it) = true ∧ (t.2 == o.ir) = false) := by
              by_cases q : t.1 = o.it
              · exact .inr ⟨beq_iff_eq.2 q, beq_eq_false_iff_ne.2 fun r => hti (Prod.ext q r)⟩
              · exact .inl (beq_eq_false_iff_ne.2 q)
            clear hq hsame hmove ht hti
            rcases hbb with b1 | ⟨b1, b2⟩
            all_goals
              go_wp2_with fail
              refine HE.out.mono ?_
              rintro e w16 ⟨B, k16, rfl, _, _, _, _, hb16⟩
              have HB := Lib.hid (below_step HB15.out hb16)
              go_wp2_with fail
              go_ret
              exact ⟨rfl, HB.out⟩
      · have hwb : (whyA g o == 0) = false := beq_eq_false_iff_ne.2 hw
        go_wp2_with fail
        go_ret
        exact ⟨rfl, H9.out.below⟩
    · have hkb : (o.k == 7) = false := beq_eq_false_iff_ne.2 hk
      go_wp2_with fail
      go_ret
      exact ⟨rfl, H2.out.below⟩
  · have hd : decide (n ≤ 100) = false := decide_eq_false hn
    go_wp2_with fail
    go_ret
    exact ⟨rfl, H2.out.below⟩

theorem walk0 {H : GraphHave} (P : ApplyHave H) (a0A : Option Addr) (a0n : Nat) (a0c : Nat) (a0x : List Opn) (a1 : Opn) (w : World) [T : Tab w] (_ : a0n ≤ a0c) (_ : a0c ≤ maxLen) (w0x : ∀ x ∈ a0x, OpFit x) (w0d : OpsIn w w.heap.size a0A a0n a0x) (w1 : Ok64 a1) (w1a : a1.name.size ≤ maxLen) (w1b : a1.new.size ≤ maxLen) (w1c : a1.data.size ≤ maxLen) :
    Calls Tryz.prog 7 #[.slice a0A a0n a0c, .agg (opA a1)] w fun e w' => e = .returned (.bool true) ∧ Below w.heap.size w w' :=
  core P a0A a0n a0c a0x a1 w0x ⟨w1, w1a, w1b, w1c⟩ w T w0d

end Go.Proofs.YtlhdbccemgofjaaGreatDoor.lawApplyMoves
