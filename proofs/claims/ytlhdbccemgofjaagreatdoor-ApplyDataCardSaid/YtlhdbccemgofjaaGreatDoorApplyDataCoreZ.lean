/-
  What is written is read; a mode is set; who is none of the inodes that an operation names is as it was: for all operations, all stamps, and all lists of operations (100 at most).
-/
import Derived.Test.YtlhdbccemgofjaaGreatDoorZ01
import Derived.Test.YtlhdbccemgofjaaGreatDoorZ01
import Derived.Test.YtlhdbccemgofjaaGreatDoorZ01
import Derived.Test.YtlhdbccemgofjaaGreatDoorGraphEqZ
import Derived.Test.YtlhdbccemgofjaaGreatDoorZ01
import Derived.OpenShut
import Derived.BigQuiet
import Derived.Deep.Cut
import Derived.Deep.DeepCutAuto
namespace Go.Proofs.YtlhdbccemgofjaaGreatDoor.lawApplyData
open Go.RowKit StampMath GraphMath OpMath PackMath ExtentMath

theorem does_err {g : Gr} {o : Opn} : (doA g o).2 = whyA g o := by
  unfold doA
  by_cases q : whyA g o = 0
  · rw [if_pos q, q]
  · rw [if_neg q]

/-- What there is to be known of an operation on data that is done. -/
theorem data_all {g : Gr} (h : g.fine) {o : Opn} (hw : whyA g o = 0) (hk : 8 ≤ o.k) (x : St) :
    (getG g (oIno o)).isSome = true ∧ (getG (madeA g o) (oIno o)).isSome = true ∧ (getG (madeA g o) (oIno o)).getD noIno = { (getG g (oIno o)).getD noIno with mode := setM ((getG g (oIno o)).getD noIno) o, data := setD ((getG g (oIno o)).getD noIno) o } ∧
      (getG (madeA g o) x).isSome = (getG g x).isSome ∧ (x ≠ oIno o → (getG (madeA g o) x).getD noIno = (getG g x).getD noIno) := by
  have hm := whyA_may hw
  obtain ⟨_, hk0, _⟩ := whyA_rest hw (by omega) (by omega)
  obtain ⟨X, hX⟩ := h.ok.there hk0
  rw [sets_get hm hk, sets_get hm hk, hX]
  refine ⟨rfl, rfl, by simp, by cases getG g x <;> rfl, fun hne => ?_⟩
  cases getG g x with
  | none => rfl
  | some y => simp [hne]

set_option maxRecDepth 100000 in
set_option maxHeartbeats 3200000 in
theorem core {H : GraphHave} (P : ApplyHave H) (A : Option Addr) (n c : Nat) (l : List Opn) (o : Opn) (x : St) (hfit : ∀ x ∈ l, OpFit x) (ho : OpFit o) (w : World) (T : Tab w) (h : OpsIn w w.heap.size A n l) :
    Calls Tryz.prog 8 #[.slice A n c, .agg (opA o), .agg (stA x)] w fun e w' => e = .returned (.bool true) ∧ Below w.heap.size w w' := by
  have hH0 : Held w [(w.heap.size + 1, .cells (stA x) 35), (w.heap.size, .cells (opA o) 37)] ((w.alloc (.cells (opA o) 37)).alloc (.cells (stA x) 35)) := ((Held.refl w).alloc (.cells (opA o) 37) rfl).alloc (.cells (stA x) 35) (by simp)
  have HX := Lib.hid h
  have HF := Lib.hid hfit
  have HO := Lib.hid ho
  have H0 := Lib.hid hH0
  clear h hfit ho hH0
  unfold opA stA at H0 ⊢
  go_enter Tryz.func8, Tryz.ntmps8
  go_wp2_with fail
  refine (P.shown _ (tab_held H0.out)).mono ?_
  rintro e w1 ⟨rfl, hb1⟩
  have H1 := Lib.hid (H0.out.step hb1)
  clear hb1 H0
  go_wp2_with fail
  refine (few_any A n c _).mono ?_
  rintro e w2 ⟨rfl, hb2⟩
  have H2 := Lib.hid (H1.out.step hb2)
  clear hb2 H1
  obtain ⟨e0, e1, e2, e3, e4, e5, e6, e7, e8, e9, e10, e11, e12⟩ := op_cells (o := o) (g := w.heap.size) (H2.out.at 1 rfl)
  obtain ⟨y0, y1⟩ := two_cells (g := w.heap.size + 1) (H2.out.at 0 rfl)
  by_cases hn : n ≤ 100
  · have hd : decide (n ≤ 100) = true := decide_eq_true hn
    by_cases hk : 8 ≤ o.k
    · have hkd : decide (o.k < 8) = false := decide_eq_false (by omega)
      have HK := Lib.hid hk
      clear hk
      go_wp2_with fail
      refine (made_any P A n c l hn HF.out w2 (tab_held H2.out) ((TabIn.below HX.out H2.out.below).more H2.out.below.size)).mono ?_
      rintro e w3 ⟨a, g, rfl, f3⟩
      have F3 := Lib.hid f3
      have hH3 := H2.out.step f3.below
      have HG := Lib.hid (f3.gx.get (oIno o))
      unfold stA oIno inoA at HG
      clear f3 hd hkd e0 e1 e2 e3 e4 e5 e6 e7 e8 e9 e10 e11 e12 y0 y1 hn
      obtain ⟨e0, e1, e2, e3, e4, e5, e6, e7, e8, e9, e10, e11, e12⟩ := op_cells (o := o) (g := w.heap.size) (hH3.at 1 rfl)
      clear hH3
      obtain ⟨X, hX⟩ : ∃ X, X = (getG g (o.it, o.ir)).getD noIno := ⟨_, rfl⟩
      obtain ⟨xi, hxi⟩ : ∃ xi, xi = (getG g (o.it, o.ir)).isSome := ⟨_, rfl⟩
      rw [← hX, ← hxi] at HG
      have HXX := Lib.hid (And.intro hX hxi)
      clear hX hxi
      go_wp2_with fail
      refine HG.out.mono ?_
      rintro e w4 ⟨rfl, g4, hb4⟩
      clear e0 e1 e2 e3 e4 e5 e6 e7 e8 e9 e10 e11 e12 HG
      go_upto_region 6 with fail
      have hA := (Below.refl w4.heap.size w4).alloc (Nat.le_refl _) (.cells #[.int .i64 X.id.1, .int .i64 X.id.2, .int .i64 X.kind, .int .i64 X.links, .int .i64 X.mode, .string X.data] 54)
      have hI := heap_alloc_new w4 (.cells #[.int .i64 X.id.1, .int .i64 X.id.2, .int .i64 X.kind, .int .i64 X.links, .int .i64 X.mode, .string X.data] 54)
      have g5 := (g4.grow hA).less (N' := fun i => i = w4.heap.size) fun i hi => .inr (by subst hi; simp)
      change Code.wp _ _ _ _ (w4.alloc (.cells #[.int .i64 X.id.1, .int .i64 X.id.2, .int .i64 X.kind, .int .i64 X.links, .int .i64 X.mode, .string X.data] 54))
      generalize w4.alloc (.cells #[.int .i64 X.id.1, .int .i64 X.id.2, .int .i64 X.kind, .int .i64 X.links, .int .i64 X.mode, .string X.data] 54) = w5 at hI g5 ⊢
      generalize w4.heap.size = bw at hI g5 ⊢
      have hH5 := H2.out.step g5.below
      have HL := Lib.hid (g5.get x)
      unfold stA inoA at HL
      obtain ⟨Z, hZ⟩ : ∃ Z, Z = (getG g x).getD noIno := ⟨_, rfl⟩
      obtain ⟨zi, hzi⟩ : ∃ zi, zi = (getG g x).isSome := ⟨_, rfl⟩
      rw [← hZ, ← hzi] at HL
      have HZZ := Lib.hid (And.intro hZ hzi)
      obtain ⟨y0, y1⟩ := two_cells (g := w.heap.size + 1) (hH5.at 0 rfl)
      have I5 := Lib.hid hI
      clear g4 hb4 hA hI g5 hH5 hZ hzi
      go_wp2_with fail
      refine HL.out.mono ?_
      rintro e w6 ⟨rfl, g6, hb6⟩
      clear y0 y1 HL
      go_upto_region 7 with fail
      have hA := (Below.refl w6.heap.size w6).alloc (Nat.le_refl _) (.cells #[.int .i64 Z.id.1, .int .i64 Z.id.2, .int .i64 Z.kind, .int .i64 Z.links, .int .i64 Z.mode, .string Z.data] 54)
      have hJ := heap_alloc_new w6 (.cells #[.int .i64 Z.id.1, .int .i64 Z.id.2, .int .i64 Z.kind, .int .i64 Z.links, .int .i64 Z.mode, .string Z.data] 54)
      have g7 := (g6.grow hA).less (N' := fun i => i = bw ∨ i = w6.heap.size) fun i hi => hi.imp id fun q => (by subst q; simp)
      have hI7 := ((below_step hb6 hA).block _ (heap_lt I5.out)).trans I5.out
      change Code.wp _ _ _ _ (w6.alloc (.cells #[.int .i64 Z.id.1, .int .i64 Z.id.2, .int .i64 Z.kind, .int .i64 Z.links, .int .i64 Z.mode, .string Z.data] 54))
      generalize w6.alloc (.cells #[.int .i64 Z.id.1, .int .i64 Z.id.2, .int .i64 Z.kind, .int .i64 Z.links, .int .i64 Z.mode, .string Z.data] 54) = w8 at hJ g7 hI7 ⊢
      generalize w6.heap.size = bt at hJ g7 ⊢
      have F8 : Hid (FX H w2 w8 (fun i => i = bw ∨ i = bt) a g) := ⟨g7, F3.out.fine⟩
      have I8 := Lib.hid hI7
      have J8 := Lib.hid hJ
      have hH8 := H2.out.step F8.out.below
      obtain ⟨e0, e1, e2, e3, e4, e5, e6, e7, e8, e9, e10, e11, e12⟩ := op_cells (o := o) (g := w.heap.size) (hH8.at 1 rfl)
      have T2 := tab_held H2.out
      have HD := Lib.hid (F8.out.does P T2 o HO.out)
      rw [does_err] at HD
      unfold opA at HD
      clear g6 hb6 hA hJ g7 hI7 hH8 I5
      go_wp2_with fail
      refine HD.out.mono ?_
      rintro e w9 ⟨rfl, f9, s9⟩
      have I9 := Lib.hid ((s9.2 _ (.inl rfl)).trans I8.out)
      have J9 := Lib.hid ((s9.2 _ (.inr rfl)).trans J8.out)
      have F9 := Lib.hid f9
      have H9 := Lib.hid (H2.out.step f9.below)
      clear e0 e1 e2 e3 e4 e5 e6 e7 e8 e9 e10 e11 e12 HD f9 s9 I8 J8 F8
      by_cases hw : whyA g o = 0
      · have hwb : (whyA g o == 0) = true := beq_iff_eq.2 hw
        have hmd : (doA g o).1 = madeA g o := by unfold doA; rw [if_pos hw]
        have hall := data_all F3.out.fine hw HK.out x
        have hm := whyA_may hw
        rw [hmd] at F9
        have hy := inoG_small F9.out.fine (oIno o)
        unfold inoG at hy
        rw [hall.2.2.1] at hy
        dsimp only at hy
        generalize whyA g o = y at hwb
        generalize madeA g o = m at F9 hall
        unfold oIno at hall hy
        rw [← HXX.out.1, ← HXX.out.2] at hall
        rw [← HXX.out.1] at hy
        obtain ⟨md, hmd2⟩ : ∃ md, md = setM X o := ⟨_, rfl⟩
        obtain ⟨dt, hdt⟩ : ∃ dt, dt = setD X o := ⟨_, rfl⟩
        rw [← hmd2, ← hdt] at hall
        rw [← hdt] at hy
        have HKd : Hid ((o.k = 8 ∧ rR dt o.off (o.data.size : Int) = o.data ∧ md = X.mode) ∨ (o.k = 9 ∧ (dt.size : Int) = o.off ∧ md = X.mode) ∨ (o.k = 10 ∧ dt = X.data ∧ md = o.off)) := by
          have h10 := (mayO_parts hm).2.1
          have h8 := HK.out
          have hk3 : o.k = 8 ∨ o.k = 9 ∨ o.k = 10 := by omega
          rcases hk3 with q | q | q
          · exact .inl ⟨q, by rw [hdt]; exact set_read hm q, by rw [hmd2]; unfold setM; rw [if_neg (by omega)]⟩
          · exact .inr (.inl ⟨q, by rw [hdt]; exact set_size hm q, by rw [hmd2]; unfold setM; rw [if_neg (by omega)]⟩)
          · exact .inr (.inr ⟨q, by rw [hdt]; unfold setD; rw [if_neg (by omega), if_neg (by omega)], by rw [hmd2]; unfold setM; rw [if_pos q]⟩)
        have HDs : Hid (o.k = 8 → o.data.size ≤ 64) := fun q => data_small hm q
        obtain ⟨a1, a2, a3, a4, a5⟩ := hall
        subst a1
        have HY := Lib.hid hy
        have HGt := Lib.hid (F9.out.gx.get (oIno o))
        unfold stA oIno inoA at HGt
        rw [a2, a3] at HGt
        dsimp only at HGt
        have HA4 := Lib.hid a4
        have HA5 := Lib.hid a5
        clear a2 a3 a4 a5 hy hm hmd hmd2 hdt hw
        obtain ⟨e0, e1, e2, e3, e4, e5, e6, e7, e8, e9, e10, e11, e12⟩ := op_cells (o := o) (g := w.heap.size) (H9.out.at 1 rfl)
        go_wp2_with fail
        refine HGt.out.mono ?_
        rintro e w10 ⟨rfl, g10, hb10⟩
        clear e0 e1 e2 e3 e4 e5 e6 e7 e8 e9 e10 e11 e12 HGt
        go_upto_region 10 with fail
        have hA := (Below.refl w10.heap.size w10).alloc (Nat.le_refl _) (.cells (inoA ⟨X.id, X.kind, X.links, md, dt⟩) 54)
        have hK := heap_alloc_new w10 (.cells (inoA ⟨X.id, X.kind, X.links, md, dt⟩) 54)
        have g11 := g10.step hA
        have hb11 := below_step hb10 hA
        have hI11 := (hb11.block _ (heap_lt I9.out)).trans I9.out
        have hJ11 := (hb11.block _ (heap_lt J9.out)).trans J9.out
        have hH11 := H9.out.step hb11
        change Code.wp _ _ _ _ (w10.alloc (.cells (inoA ⟨X.id, X.kind, X.links, md, dt⟩) 54))
        generalize w10.alloc (.cells (inoA ⟨X.id, X.kind, X.links, md, dt⟩) 54) = w11 at hK g11 hI11 hJ11 hH11 ⊢
        generalize w10.heap.size = bn at hK ⊢
        have HL := Lib.hid (g11.get x)
        unfold stA inoA at HL
        obtain ⟨V, hV⟩ : ∃ V, V = (getG m x).getD noIno := ⟨_, rfl⟩
        rw [← hV, HA4.out, ← HZZ.out.2] at HL
        have HVV : Hid (x ≠ (o.it, o.ir) → V = Z) := fun q => by rw [hV, HZZ.out.1]; exact HA5.out q
        obtain ⟨y0, y1⟩ := two_cells (g := w.heap.size + 1) (hH11.at 0 rfl)
        have I11 := Lib.hid hI11
        have J11 := Lib.hid hJ11
        have K11 := Lib.hid hK
        have H11 := Lib.hid hH11
        clear g10 hb10 hA hK g11 hb11 hI11 hJ11 hH11 I9 J9 H9 F9 hV HA4 HA5
        go_wp2_with fail
        refine HL.out.mono ?_
        rintro e w12 ⟨rfl, g12, hb12⟩
        clear y0 y1 HL
        go_upto_region 11 with fail
        have hA := (Below.refl w12.heap.size w12).alloc (Nat.le_refl _) (.cells (inoA V) 54)
        have hM := heap_alloc_new w12 (.cells (inoA V) 54)
        have hb13 := below_step hb12 hA
        have hI13 := (hb13.block _ (heap_lt I11.out)).trans I11.out
        have hJ13 := (hb13.block _ (heap_lt J11.out)).trans J11.out
        have hK13 := (hb13.block _ (heap_lt K11.out)).trans K11.out
        have hH13 := H11.out.step hb13
        change Code.wp _ _ _ _ (w12.alloc (.cells (inoA V) 54))
        generalize w12.alloc (.cells (inoA V) 54) = w13 at hM hI13 hJ13 hK13 hH13 ⊢
        generalize w12.heap.size = bv at hM ⊢
        obtain ⟨e0, e1, e2, e3, e4, e5, e6, e7, e8, e9, e10, e11, e12⟩ := op_cells (o := o) (g := w.heap.size) (hH13.at 1 rfl)
        obtain ⟨y0, y1⟩ := two_cells (g := w.heap.size + 1) (hH13.at 0 rfl)
        obtain ⟨i0, i1, i2, i3, i4, i5⟩ := ino_cells (x := X) (g := bw) hI13
        obtain ⟨j0, j1, j2, j3, j4, j5⟩ := ino_cells (x := Z) (g := bt) hJ13
        obtain ⟨k0, k1, k2, k3, k4, k5⟩ := ino_cells (g := bn) hK13
        obtain ⟨m0, m1, m2, m3, m4, m5⟩ := ino_cells (x := V) (g := bv) hM
        dsimp only at k0 k1 k2 k3 k4 k5
        have HB13 := Lib.hid hH13.below
        have HR : Hid (o.k = 8 → ∀ y : World, Calls Tryz.prog 33 #[.string dt, .int .i64 o.off, .int .i64 (o.data.size : Int)] (later w13 y) fun e w' => e = .returned (.string (rR dt o.off (o.data.size : Int))) ∧ ∃ z, w' = later w13 z) := fun q y => later_call (P.read dt o.off _ _ (by have := HY.out; omega) HO.out.ok.off (by have := HDs.out q; unfold IsI64; omega))
        clear g12 hb12 hA hM hb13 hI13 hJ13 hK13 hH13 I11 J11 K11 H11
        have hkd := HKd.out
        clear HKd
        have hcase : (∀ W : World, (Op.equalIn 10000 35 (.agg #[.int .i64 x.1, .int .i64 x.2]) (.agg #[.int .i64 o.it, .int .i64 o.ir])).run Tryz.prog W = .ok true W) ∨
            ((∀ W : World, (Op.equalIn 10000 35 (.agg #[.int .i64 x.1, .int .i64 x.2]) (.agg #[.int .i64 o.it, .int .i64 o.ir])).run Tryz.prog W = .ok false W) ∧ V = Z) := by
          by_cases q : x = (o.it, o.ir)
          · have hv := eqSt_yes q
            dsimp only at hv
            exact .inl hv
          · have hv := eqSt_no q
            dsimp only at hv
            exact .inr ⟨hv, HVV.out q⟩
        have hEZ := run_eqIno Z Z
        simp only [decide_true] at hEZ
        clear HVV
        rcases hcase with hEQ | ⟨hEQ, rfl⟩
        all_goals
          cases zi
          all_goals
            go_upto_region 13 with fail
            clear hEQ hEZ
            rcases hkd with ⟨q, h1, rfl⟩ | ⟨q, h1, rfl⟩ | ⟨q, rfl, rfl⟩
            · rw [q] at e2
              have HR2 : Hid (∀ y : World, Calls Tryz.prog 33 #[.string dt, .int .i64 o.off, .int .i64 (o.data.size : Int)] (later w13 y) fun e w' => e = .returned (.string o.data) ∧ ∃ z, w' = later w13 z) := fun y => by
                have := HR.out q y
                rwa [h1] at this
              have hds := HDs.out q
              have HDz : Hid (o.data.size ≤ 9223372036854775807) := Lib.hid (by omega)
              clear HR HDs q h1 HY
              go_upto_region 15 with fail
              have l11 := later_cell e11
              have l12 := later_cell e12
              have l3 := later_cell i4
              have l4 := later_cell k4
              have l5 := later_cell k5
              clear e0 e1 e2 e3 e4 e5 e6 e7 e8 e9 e10 e11 e12 y0 y1 i0 i1 i2 i3 i4 i5 j0 j1 j2 j3 j4 j5 k0 k1 k2 k3 k4 k5 m0 m1 m2 m3 m4 m5
              refine wp_region_later (by kernel_rfl) (by kernel_rfl) ?_
              repeat (go_big_quiet_step (first | (with_reducible exact HR2.out _)))
              refine wpQuiet_nil ?_
              intro _ hw'
              obtain ⟨y, rfl⟩ := hw'
              clear l11 l12 l3 l4 l5
              go_wp2_with fail
              go_ret
              exact ⟨by first | rfl | simp, below_step HB13.out (later_below w13 y)⟩
            · rw [q] at e2
              have hsz : ((dt.size : Int) == o.off) = true := beq_iff_eq.2 h1
              clear HR HDs q h1 HY
              go_wp2_with fail
              go_ret
              exact ⟨by first | rfl | simp, HB13.out⟩
            · rw [q] at e2
              clear HR HDs q HY
              go_wp2_with fail
              go_ret
              exact ⟨by first | rfl | simp, HB13.out⟩
      · have hwb : (whyA g o == 0) = false := beq_eq_false_iff_ne.2 hw
        go_wp2_with fail
        go_ret
        exact ⟨rfl, H9.out.below⟩
    · have hkd : o.k < 8 := by omega
      go_wp2_with fail
      go_ret
      exact ⟨rfl, H2.out.below⟩
  · have hd : decide (n ≤ 100) = false := decide_eq_false hn
    go_wp2_with fail
    go_ret
    exact ⟨rfl, H2.out.below⟩

theorem walk0 {H : GraphHave} (P : ApplyHave H) (a0A : Option Addr) (a0n : Nat) (a0c : Nat) (a0x : List Opn) (a1 : Opn) (a2 : St) (w : World) [T : Tab w] (_ : a0n ≤ a0c) (_ : a0c ≤ maxLen) (w0x : ∀ x ∈ a0x, OpFit x) (w0d : OpsIn w w.heap.size a0A a0n a0x) (w1 : Ok64 a1) (w1a : a1.name.size ≤ maxLen) (w1b : a1.new.size ≤ maxLen) (w1c : a1.data.size ≤ maxLen) :
    Calls Tryz.prog 8 #[.slice a0A a0n a0c, .agg (opA a1), .agg (stA a2)] w fun e w' => e = .returned (.bool true) ∧ Below w.heap.size w w' :=
  core P a0A a0n a0c a0x a1 a2 w0x ⟨w1, w1a, w1b, w1c⟩ w T w0d

end Go.Proofs.YtlhdbccemgofjaaGreatDoor.lawApplyData
