/-
  With an error nothing changes, of a graph that is nil nothing is done, and an operation that may not be is told as an error: for all operations, and all lists of them (100 at most).
-/
import Derived.Test.YtlhdbccemgofjaaGreatDoorZ01
import Derived.Test.YtlhdbccemgofjaaGreatDoorZ01
import Derived.Test.YtlhdbccemgofjaaGreatDoorApplySameZ
import Derived.OpenShut
namespace Go.Proofs.YtlhdbccemgofjaaGreatDoor.lawApplyNothing
open Go.RowKit StampMath GraphMath OpMath PackMath

theorem does_err {g : Gr} {o : Opn} : (doA g o).2 = whyA g o := by
  unfold doA
  by_cases q : whyA g o = 0
  · rw [if_pos q, q]
  · rw [if_neg q]

theorem does_same {g : Gr} {o : Opn} (h : whyA g o ≠ 0) : (doA g o).1 = g := by unfold doA; rw [if_neg h]

theorem may_not {g : Gr} {o : Opn} (h : mayO o = false) : whyA g o = 1 := by unfold whyA; rw [if_pos h]

set_option maxRecDepth 100000 in
set_option maxHeartbeats 3200000 in
theorem core {H : GraphHave} (P : ApplyHave H) (A : Option Addr) (n c : Nat) (l : List Opn) (o : Opn) (hfit : ∀ x ∈ l, OpFit x) (ho : OpFit o) (w : World) (T : Tab w) (h : OpsIn w w.heap.size A n l) :
    Calls Tryz.prog 5 #[.slice A n c, .agg (opA o)] w fun e w' => e = .returned (.bool true) ∧ Below w.heap.size w w' := by
  have hH0 : Held w [(w.heap.size, .cells (opA o) 37)] (w.alloc (.cells (opA o) 37)) := (Held.refl w).alloc (.cells (opA o) 37) rfl
  have HX := Lib.hid h
  have HF := Lib.hid hfit
  have HO := Lib.hid ho
  have H0 := Lib.hid hH0
  clear h hfit ho hH0
  unfold opA at H0 ⊢
  go_enter Tryz.func5, Tryz.ntmps5
  go_wp2_with fail
  refine (P.shown _ (tab_held H0.out)).mono ?_
  rintro e w1 ⟨rfl, hb1⟩
  have H1 := Lib.hid (H0.out.step hb1)
  clear hb1 H0
  go_wp2_with fail
  refine (few_any A n c _).mono ?_
  rintro e w2 ⟨rfl, hb2⟩
  have H2 := Lib.hid (H1.out.step hb2)
  clear hb2 H1
  by_cases hn : n ≤ 100
  · have hd : decide (n ≤ 100) = true := decide_eq_true hn
    go_wp2_with fail
    refine (made_any P A n c l hn HF.out w2 (tab_held H2.out) ((TabIn.below HX.out H2.out.below).more H2.out.below.size)).mono ?_
    rintro e w3 ⟨a, g, rfl, f3⟩
    have F3 := Lib.hid f3
    have H3 := Lib.hid (H2.out.step f3.below)
    clear f3 hd
    go_wp2_with fail
    refine F3.out.gx.copy.mono ?_
    rintro e w4 ⟨b, S, U, rfl, ⟨g4, r4, _⟩, _, hb4⟩
    have T2 := tab_held H2.out
    have F4 : Hid (FX H w2 w4 (fun i => False ∨ U i) a g) := ⟨g4, F3.out.fine⟩
    have R4 := Lib.hid r4
    have HW := Lib.hid (F4.out.why P T2 o HO.out)
    unfold opA at HW
    have hH4 := H3.out.step hb4
    obtain ⟨e0, e1, e2, e3, e4, e5, e6, e7, e8, e9, e10, e11, e12⟩ := op_cells (o := o) (g := w.heap.size) (hH4.at 0 rfl)
    clear g4 r4 hb4 H3 F3 hH4
    go_wp2_with fail
    refine HW.out.mono ?_
    rintro e w5 ⟨rfl, f5, hb5⟩
    have r5 := H.keep R4.out fun i hi => hb5.block i (H.lt R4.out i hi)
    have R5 := Lib.hid r5
    have F5 := Lib.hid f5
    have HS := Lib.hid (by obtain ⟨S5, q, _⟩ := f5.gx.at'; exact same_two H a b S5 U g w5 q r5 f5.fine.ok)
    clear e0 e1 e2 e3 e4 e5 e6 e7 e8 e9 e10 e11 e12 HW F4 R4 r5 f5 hb5
    go_wp2_with fail
    refine HS.out.mono ?_
    rintro e w6 ⟨rfl, hb6⟩
    have R6 := Lib.hid (H.keep R5.out fun i hi => hb6.block i (H.lt R5.out i hi))
    have F6 := Lib.hid (F5.out.step hb6)
    have HD := Lib.hid (F6.out.does P T2 o HO.out)
    unfold opA at HD
    have hH6 := H2.out.step F6.out.below
    obtain ⟨e0, e1, e2, e3, e4, e5, e6, e7, e8, e9, e10, e11, e12⟩ := op_cells (o := o) (g := w.heap.size) (hH6.at 0 rfl)
    clear HS F5 R5 hb6 hH6
    go_wp2_with fail
    refine HD.out.mono ?_
    rintro e w7 ⟨rfl, f7, s7⟩
    rw [does_err]
    have R7 := Lib.hid (H.keep R6.out fun i hi => s7.2 i (.inr hi))
    have F7 := Lib.hid f7
    have hH7 := H2.out.step f7.below
    clear e0 e1 e2 e3 e4 e5 e6 e7 e8 e9 e10 e11 e12
    obtain ⟨e0, e1, e2, e3, e4, e5, e6, e7, e8, e9, e10, e11, e12⟩ := op_cells (o := o) (g := w.heap.size) (hH7.at 0 rfl)
    have H7 := Lib.hid hH7
    clear f7 s7 hH7 HD F6 R6
    have HN := Lib.hid fun (W : World) (hW : Below w.heap.size w W) => by haveI := tab_below T (Nat.le_refl _) hW; exact P.nilDo o W HO.out
    have HM := Lib.hid fun (W : World) (hW : Below w.heap.size w W) => by haveI := tab_below T (Nat.le_refl _) hW; exact P.may o W HO.out
    unfold opA at HN HM
    by_cases q : whyA g o = 0
    · have qb : (whyA g o == 0) = true := beq_iff_eq.2 q
      have hm := whyA_may q
      rw [hm] at HM
      have Hq := Lib.hid q
      clear q hm
      generalize whyA g o = y at qb Hq ⊢
      clear R7 F7
      go_wp2_with fail
      refine (HN.out _ H7.out.below).mono ?_
      rintro e w8 ⟨rfl, hb8⟩
      have H8 := Lib.hid (H7.out.step hb8)
      clear e0 e1 e2 e3 e4 e5 e6 e7 e8 e9 e10 e11 e12 hb8 H7
      obtain ⟨e0, e1, e2, e3, e4, e5, e6, e7, e8, e9, e10, e11, e12⟩ := op_cells (o := o) (g := w.heap.size) (H8.out.at 0 rfl)
      go_wp2_with fail
      refine (HM.out _ H8.out.below).mono ?_
      rintro e w9 ⟨rfl, hb9⟩
      have H9 := Lib.hid (H8.out.step hb9)
      clear e0 e1 e2 e3 e4 e5 e6 e7 e8 e9 e10 e11 e12 hb9 H8
      go_wp2_with fail
      go_ret
      exact ⟨rfl, H9.out.below⟩
    · have qb : (whyA g o == 0) = false := beq_eq_false_iff_ne.2 q
      have hsm := does_same q
      have hno := @may_not g o
      have HS := Lib.hid (by obtain ⟨S7, q7, _⟩ := F7.out.gx.at'; rw [hsm] at q7; exact same_two H a b S7 U g w7 q7 R7.out (by have := F7.out.fine.ok; rwa [hsm] at this))
      generalize mayO o = m at HM hno
      generalize whyA g o = y at qb hno ⊢
      clear R7 F7 q hsm
      go_wp2_with fail
      refine HS.out.mono ?_
      rintro e w8 ⟨rfl, hb8⟩
      have H8 := Lib.hid (H7.out.step hb8)
      clear e0 e1 e2 e3 e4 e5 e6 e7 e8 e9 e10 e11 e12 hb8 H7 HS
      obtain ⟨e0, e1, e2, e3, e4, e5, e6, e7, e8, e9, e10, e11, e12⟩ := op_cells (o := o) (g := w.heap.size) (H8.out.at 0 rfl)
      go_wp2_with fail
      refine (HN.out _ H8.out.below).mono ?_
      rintro e w9 ⟨rfl, hb9⟩
      have H9 := Lib.hid (H8.out.step hb9)
      clear e0 e1 e2 e3 e4 e5 e6 e7 e8 e9 e10 e11 e12 hb9 H8
      obtain ⟨e0, e1, e2, e3, e4, e5, e6, e7, e8, e9, e10, e11, e12⟩ := op_cells (o := o) (g := w.heap.size) (H9.out.at 0 rfl)
      go_wp2_with fail
      refine (HM.out _ H9.out.below).mono ?_
      rintro e w10 ⟨rfl, hb10⟩
      have H10 := Lib.hid (H9.out.step hb10)
      clear e0 e1 e2 e3 e4 e5 e6 e7 e8 e9 e10 e11 e12 hb10 H9
      cases m
      · have y1 := hno rfl
        subst y1
        go_wp2_with fail
        go_ret
        exact ⟨rfl, H10.out.below⟩
      · go_wp2_with fail
        go_ret
        exact ⟨rfl, H10.out.below⟩
  · have hd : decide (n ≤ 100) = false := decide_eq_false hn
    go_wp2_with fail
    go_ret
    exact ⟨rfl, H2.out.below⟩

theorem walk0 {H : GraphHave} (P : ApplyHave H) (a0A : Option Addr) (a0n : Nat) (a0c : Nat) (a0x : List Opn) (a1 : Opn) (w : World) [T : Tab w] (_ : a0n ≤ a0c) (_ : a0c ≤ maxLen) (w0x : ∀ x ∈ a0x, OpFit x) (w0d : OpsIn w w.heap.size a0A a0n a0x) (w1 : Ok64 a1) (w1a : a1.name.size ≤ maxLen) (w1b : a1.new.size ≤ maxLen) (w1c : a1.data.size ≤ maxLen) :
    Calls Tryz.prog 5 #[.slice a0A a0n a0c, .agg (opA a1)] w fun e w' => e = .returned (.bool true) ∧ Below w.heap.size w w' :=
  core P a0A a0n a0c a0x a1 w0x ⟨w1, w1a, w1b, w1c⟩ w T w0d

end Go.Proofs.YtlhdbccemgofjaaGreatDoor.lawApplyNothing
