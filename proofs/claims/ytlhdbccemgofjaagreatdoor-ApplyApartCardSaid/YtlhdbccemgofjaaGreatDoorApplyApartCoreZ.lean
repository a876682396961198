/-
  Two modes, or data, of unlike inodes make the same in both orders: for all operations, and all lists of them (100 at most).
-/
import Derived.Test.YtlhdbccemgofjaaGreatDoorZ01
import Derived.Test.YtlhdbccemgofjaaGreatDoorZ01
import Derived.Test.YtlhdbccemgofjaaGreatDoorApplySameZ
import Derived.OpenShut
namespace Go.Proofs.YtlhdbccemgofjaaGreatDoor.lawApplyApart
open Go.RowKit StampMath GraphMath OpMath PackMath

/-- The other graph is the one that is worked on. -/
theorem swap {H : GraphHave} {w W : World} {N U : Nat → Prop} {a b : Addr} {g γ : Gr} (h : FX H w W N a g) (hN : ∀ i, U i → N i) (r : H.rep W U b γ) (hU : ∀ i, U i → w.heap.size ≤ i) (hf : γ.fine) :
    ∃ S, (H.rep W S a g ∧ ∀ i, S i → w.heap.size ≤ i) ∧ FX H w W S b γ := by
  obtain ⟨⟨⟨S, h1, h2, h3⟩, h4, h5, h6⟩, _⟩ := h
  exact ⟨S, ⟨h1, h2⟩, ⟨⟨U, r, hU, fun i hi hu => h3 i (hN i hu) hi⟩, hf.ok, fun i hi => H.lt h1 i hi, h6⟩, hf⟩

set_option maxRecDepth 100000 in
set_option maxHeartbeats 3200000 in
theorem core {H : GraphHave} (P : ApplyHave H) (A : Option Addr) (n c : Nat) (l : List Opn) (o x : Opn) (hfit : ∀ x ∈ l, OpFit x) (ho : OpFit o) (hx : OpFit x) (w : World) (T : Tab w) (h : OpsIn w w.heap.size A n l) :
    Calls Tryz.prog 9 #[.slice A n c, .agg (opA o), .agg (opA x)] w fun e w' => e = .returned (.bool true) ∧ Below w.heap.size w w' := by
  have hH0 : Held w [(w.heap.size + 1, .cells (opA x) 37), (w.heap.size, .cells (opA o) 37)] ((w.alloc (.cells (opA o) 37)).alloc (.cells (opA x) 37)) := ((Held.refl w).alloc (.cells (opA o) 37) rfl).alloc (.cells (opA x) 37) (by simp)
  have HX := Lib.hid h
  have HF := Lib.hid hfit
  have HO := Lib.hid ho
  have HY := Lib.hid hx
  have H0 := Lib.hid hH0
  clear h hfit ho hx hH0
  unfold opA at H0 ⊢
  go_enter Tryz.func9, Tryz.ntmps9
  go_wp2_with fail
  refine (P.shown _ (tab_held H0.out)).mono ?_
  rintro e w1 ⟨rfl, hb1⟩
  have H1 := Lib.hid (H0.out.step hb1)
  clear hb1 H0
  go_wp2_with fail
  refine (few_any A n c _).mono ?_
  rintro e w2 ⟨rfl, hb2⟩
  have H2 := Lib.hid (H1.out.step hb2)
  clear hb2 H1
  obtain ⟨e0, e1, e2, e3, e4, e5, e6, e7, e8, e9, e10, e11, e12⟩ := op_cells (o := o) (g := w.heap.size) (H2.out.at 1 rfl)
  obtain ⟨d0, d1, d2, d3, d4, d5, d6, d7, d8, d9, d10, d11, d12⟩ := op_cells (o := x) (g := w.heap.size + 1) (H2.out.at 0 rfl)
  by_cases hn : n ≤ 100
  · have hd : decide (n ≤ 100) = true := decide_eq_true hn
    by_cases ko : o.k < 8
    · go_wp2_with fail
      go_ret
      exact ⟨rfl, H2.out.below⟩
    by_cases kx : x.k < 8
    · go_wp2_with fail
      go_ret
      exact ⟨rfl, H2.out.below⟩
    by_cases hi : o.it = x.it ∧ o.ir = x.ir
    · have b1 : (o.it == x.it) = true := beq_iff_eq.2 hi.1
      have b2 : (o.ir == x.ir) = true := beq_iff_eq.2 hi.2
      go_wp2_with fail
      go_ret
      exact ⟨rfl, H2.out.below⟩
    have HK := Lib.hid (And.intro ko (And.intro kx hi))
    have hb : (o.it == x.it) = false ∨ ((o.it == x.it) = true ∧ (o.ir == x.ir) = false) := by
      by_cases q : o.it = x.it
      · exact .inr ⟨beq_iff_eq.2 q, beq_eq_false_iff_ne.2 fun r => hi ⟨q, r⟩⟩
      · exact .inl (beq_eq_false_iff_ne.2 q)
    clear hi
    rcases hb with b1 | ⟨b1, b2⟩
    all_goals
      go_wp2_with fail
      refine (made_any P A n c l hn HF.out w2 (tab_held H2.out) ((TabIn.below HX.out H2.out.below).more H2.out.below.size)).mono ?_
      rintro e w3 ⟨a, g, rfl, f3⟩
      have F3 := Lib.hid f3
      clear f3 hd e0 e1 e2 e3 e4 e5 e6 e7 e8 e9 e10 e11 e12 d0 d1 d2 d3 d4 d5 d6 d7 d8 d9 d10 d11 d12 ko kx b1 hn
      try clear b2
      have HM := Lib.hid (sets_apart F3.out.fine (o := o) (x := x) (by have := HK.out.1; omega) (by have := HK.out.2.1; omega) fun q => HK.out.2.2 ⟨congrArg Prod.fst q, congrArg Prod.snd q⟩)
      go_wp2_with fail
      refine F3.out.gx.copy.mono ?_
      rintro e w4 ⟨b, S, U, rfl, ⟨g4, r4, hU⟩, _, hb4⟩
      have T2 := tab_held H2.out
      have F4 : Hid (FX H w2 w4 (fun i => False ∨ U i) a g) := ⟨g4, F3.out.fine⟩
      have R4 := Lib.hid r4
      have HU : Hid (∀ i, U i → w2.heap.size ≤ i) := fun i hi => Nat.le_trans F3.out.below.size (hU i hi)
      have HD := Lib.hid (F4.out.does P T2 o HO.out)
      unfold opA at HD
      have hH4 := H2.out.step F4.out.below
      obtain ⟨e0, e1, e2, e3, e4, e5, e6, e7, e8, e9, e10, e11, e12⟩ := op_cells (o := o) (g := w.heap.size) (hH4.at 1 rfl)
      clear g4 r4 hb4 hU hH4
      go_wp2_with fail
      refine HD.out.mono ?_
      rintro e w5 ⟨rfl, f5, s5⟩
      have R5 := Lib.hid (H.keep R4.out fun i hi => s5.2 i (.inr hi))
      have HD := Lib.hid (f5.does P T2 x HY.out)
      unfold opA at HD
      have hH5 := H2.out.step f5.below
      clear e0 e1 e2 e3 e4 e5 e6 e7 e8 e9 e10 e11 e12 f5 s5 F4 R4
      obtain ⟨d0, d1, d2, d3, d4, d5, d6, d7, d8, d9, d10, d11, d12⟩ := op_cells (o := x) (g := w.heap.size + 1) (hH5.at 0 rfl)
      clear hH5
      go_wp2_with fail
      refine HD.out.mono ?_
      rintro e w6 ⟨rfl, f6, s6⟩
      obtain ⟨S6, ⟨ra, hS⟩, fb⟩ := swap f6 (fun i hi => .inr hi) (H.keep R5.out fun i hi => s6.2 i (.inr hi)) HU.out F3.out.fine
      have R6 := Lib.hid ra
      have HD := Lib.hid (fb.does P T2 x HY.out)
      unfold opA at HD
      have hH6 := H2.out.step fb.below
      have HOK := Lib.hid f6.fine.ok
      clear d0 d1 d2 d3 d4 d5 d6 d7 d8 d9 d10 d11 d12 f6 s6 fb ra hS R5
      obtain ⟨d0, d1, d2, d3, d4, d5, d6, d7, d8, d9, d10, d11, d12⟩ := op_cells (o := x) (g := w.heap.size + 1) (hH6.at 0 rfl)
      clear hH6
      go_wp2_with fail
      refine HD.out.mono ?_
      rintro e w7 ⟨rfl, f7, s7⟩
      have R7 := Lib.hid (H.keep R6.out fun i hi => s7.2 i hi)
      have HD := Lib.hid (f7.does P T2 o HO.out)
      unfold opA at HD
      have hH7 := H2.out.step f7.below
      clear d0 d1 d2 d3 d4 d5 d6 d7 d8 d9 d10 d11 d12 f7 s7 R6
      obtain ⟨e0, e1, e2, e3, e4, e5, e6, e7, e8, e9, e10, e11, e12⟩ := op_cells (o := o) (g := w.heap.size) (hH7.at 1 rfl)
      clear hH7
      go_wp2_with fail
      refine HD.out.mono ?_
      rintro e w8 ⟨rfl, f8, s8⟩
      have r8 := H.keep R7.out fun i hi => s8.2 i hi
      obtain ⟨m1, m2, m3⟩ := HM.out
      have HB := Lib.hid (H2.out.step f8.below).below
      have HS : Hid (∀ W, Below w8.heap.size w8 W → Calls Tryz.prog 26 #[.pointer (some a), .pointer (some b)] W fun e w' => e = .returned (.bool true) ∧ Below W.heap.size W w') := fun W hW => by
        obtain ⟨Q, q8, _⟩ := (f8.step hW).gx.at'
        rw [← m3] at q8
        exact same_two H a b S6 Q _ W (H.keep r8 fun i hi => hW.block i (H.lt r8 i hi)) q8 HOK.out
      rw [← m1, m2]
      generalize (doA g o).2 = v1
      generalize (doA g x).2 = v2
      clear e0 e1 e2 e3 e4 e5 e6 e7 e8 e9 e10 e11 e12 m1 m2 m3 HM f8 s8 r8 R7 HD
      go_wp2_with fail
      refine (HS.out _ (Below.refl _ _)).mono ?_
      rintro e w9 ⟨rfl, hb9⟩
      have HB9 := Lib.hid (below_step HB.out hb9)
      clear hb9 HS
      go_wp2_with fail
      go_ret
      exact ⟨rfl, HB9.out⟩
  · have hd : decide (n ≤ 100) = false := decide_eq_false hn
    go_wp2_with fail
    go_ret
    exact ⟨rfl, H2.out.below⟩

theorem walk0 {H : GraphHave} (P : ApplyHave H) (a0A : Option Addr) (a0n : Nat) (a0c : Nat) (a0x : List Opn) (a1 : Opn) (a2 : Opn) (w : World) [T : Tab w] (_ : a0n ≤ a0c) (_ : a0c ≤ maxLen) (w0x : ∀ x ∈ a0x, OpFit x) (w0d : OpsIn w w.heap.size a0A a0n a0x) (w1 : Ok64 a1) (w1a : a1.name.size ≤ maxLen) (w1b : a1.new.size ≤ maxLen) (w1c : a1.data.size ≤ maxLen) (w2 : Ok64 a2) (w2a : a2.name.size ≤ maxLen) (w2b : a2.new.size ≤ maxLen) (w2c : a2.data.size ≤ maxLen) :
    Calls Tryz.prog 9 #[.slice a0A a0n a0c, .agg (opA a1), .agg (opA a2)] w fun e w' => e = .returned (.bool true) ∧ Below w.heap.size w w' :=
  core P a0A a0n a0c a0x a1 a2 w0x ⟨w1, w1a, w1b, w1c⟩ ⟨w2, w2a, w2b, w2c⟩ w T w0d

end Go.Proofs.YtlhdbccemgofjaaGreatDoor.lawApplyApart
