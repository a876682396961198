/-
  An operation above all others is done last: for all lists of operations (60 at most) and all operations.
-/
import Derived.Test.YtdobeghbkonimaaGreatDoorZ01
import Derived.Test.YtdobeghbkonimaaGreatDoorFoldSameZ
import Derived.Test.YtdobeghbkonimaaGreatDoorZ01
import Derived.Test.YtdobeghbkonimaaGreatDoorZ01
import Derived.Test.YtdobeghbkonimaaGreatDoorZ01
import Derived.Deep.QuietTactic
import Derived.BigQuiet
import Derived.OpenShut
namespace Go.Proofs.YtdobeghbkonimaaGreatDoor.lawFoldNext
open Go.RowKit StampMath GraphMath OpMath PackMath

theorem errs_why {g : Gr} {o : Opn} : (doA g o).2 = whyA g o := by
  unfold doA
  by_cases q : whyA g o = 0
  · rw [if_pos q, q]
  · rw [if_neg q]

set_option maxRecDepth 100000 in
set_option maxHeartbeats 3200000 in
theorem core {H : GraphHave} (P : FoldHave H) (Q : ApplyHave H) (A : Option Addr) (n c : Nat) (l : List Opn) (o : Opn) (hl : ∀ x ∈ l, OpFit x) (ho : OpFit o) (w : World) (T : Tab w) (h : OpsIn w w.heap.size A n l) :
    Calls Tryz.prog 6 #[.slice A n c, .agg (opA o)] w fun e w' => e = .returned (.bool true) ∧ Below w.heap.size w w' := by
  have HX := Lib.hid h
  have HF := Lib.hid hl
  have hH0 : Held w [(w.heap.size, .cells (opA o) 26)] (w.alloc (.cells (opA o) 26)) := (Held.refl w).alloc _ rfl
  clear h hl
  go_enter Tryz.func6, Tryz.ntmps6
  go_upto_region 1 with fail
  generalize w.alloc (.cells (opA o) 26) = w0 at hH0 ⊢
  have T0 := Lib.hid (tab_below T (Nat.le_refl _) hH0.below)
  have H0 := Lib.hid hH0
  clear hH0
  go_wp2_with fail
  refine (FoldHave.shown P _ T0.out).mono ?_
  rintro e w1 ⟨rfl, hb1⟩
  have H1 := Lib.hid (H0.out.step hb1)
  clear hb1 H0 T0
  go_wp2_with fail
  refine (fewF_any A n c _).mono ?_
  rintro e w2 ⟨rfl, hb2⟩
  have H2 := Lib.hid (H1.out.step hb2)
  clear hb2 H1
  by_cases hn : n ≤ 60
  case neg =>
    have hd : decide (n ≤ 60) = false := decide_eq_false hn
    have B2 := Lib.hid H2.out.below
    go_wp2_with fail
    go_ret
    exact ⟨rfl, B2.out⟩
  have hd : decide (n ≤ 60) = true := decide_eq_true hn
  have hll : l.length = n := HX.out.len
  have T2 := tab_below T (Nat.le_refl _) H2.out.below
  have hsl := sort_len l
  have HS1 := Lib.hid (sort_rises l)
  have HS2 := Lib.hid (sort_may l)
  have HS3 : Hid (∀ o ∈ sortO l, OpFit o) := Lib.hid fun o ho => HF.out o (sort_sub o ho)
  obtain ⟨t, ht⟩ : ∃ t, t = sortO l := ⟨_, rfl⟩
  have D := Lib.hid (P.sort A n c l w2 (by omega) HF.out ((HX.out.below H2.out.below).more H2.out.below.size))
  have DO : Hid (∀ W, Tab W → Below w2.heap.size w2 W → Calls Tryz.prog 16 #[.slice A n c] W fun e w' => ∃ a, e = .returned (.pointer (some a)) ∧ FX H W w' (fun _ => False) a (runA t) ∧ Below W.heap.size W w') := Lib.hid fun W TW hW => by
    rw [ht]
    exact FX.of P A n c l W TW (by omega) HF.out ((HX.out.below (below_step H2.out.below hW)).more (below_step H2.out.below hW).size)
  unfold OpsPost at D
  rw [← ht] at D HS1 HS2 HS3 hsl
  have HTW := Lib.hid T2
  clear ht T2
  go_wp2_with fail
  refine D.out.mono ?_
  rintro e w3 ⟨X, cx, rfl, hx, hxc, hcm, hx0, hb3⟩
  have H3 := H2.out.step hb3
  obtain ⟨c0, c1, c2, c3, c4, c5, c6, c7, c8, c9, c10, c11, c12⟩ := op_cells (o := o) (g := w.heap.size) (H3.at 0 rfl)
  have B23 := Lib.hid hb3
  have T3 := tab_below HTW.out (Nat.le_refl _) hb3
  have E3 := Lib.hid (P.put X t.length cx t o w3 (by omega) hxc hcm hx0 HS3.out ho HS1.out hx)
  have HL : Hid ((putO t o).2.1 = t.length → (putO t o).2.2 = true → (putO t o).1 = t ++ [o] ∧ mayO o = true) := Lib.hid put_last
  have HFt : Hid (∀ a ∈ (putO t o).1, OpFit a) := Lib.hid fun a ha => by
    rcases put_mem.1 ha with q | ⟨rfl, _⟩
    · exact HS3.out a q
    · exact ho
  have HSo : Hid (sortO (putO t o).1 = (putO t o).1) := Lib.hid (sort_self (put_rises HS1.out o) (put_may HS2.out o))
  have hpl := put_len t o
  generalize putO t o = R at E3 HL HFt HSo hpl
  obtain ⟨y, p, q⟩ := R
  dsimp only at hpl
  unfold opA at E3
  clear hx hb3 D T3 hd
  go_wp2_with fail
  refine E3.out.mono ?_
  rintro e w4 ⟨B, kb, rfl, hy, _, _, _, hb4⟩
  have H4 := Lib.hid (H3.step hb4)
  have HY4 := Lib.hid hy
  have B24 := Lib.hid (below_step B23.out hb4)
  have BW := Lib.hid (below_step H2.out.below B24.out)
  clear c0 c1 c2 c3 c4 c5 c6 c7 c8 c9 c10 c11 c12 H3 E3 hb4 hy B23
  cases q with
  | false =>
    go_wp2_with fail
    go_ret
    exact ⟨rfl, BW.out⟩
  | true =>
    by_cases hpt : (p : Int) = (t.length : Int)
    case neg =>
      go_wp2_with fail
      go_ret
      exact ⟨rfl, BW.out⟩
    have HL2 := Lib.hid (HL.out (by show p = _; omega) rfl)
    have T4 := Lib.hid (tab_below HTW.out (Nat.le_refl _) B24.out)
    have D4 := Lib.hid (DO.out w4 T4.out B24.out)
    clear HL DO
    go_wp2_with fail
    refine D4.out.mono ?_
    rintro e w5 ⟨a, rfl, x5, hb5⟩
    have H5 := H4.out.step hb5
    obtain ⟨c0, c1, c2, c3, c4, c5, c6, c7, c8, c9, c10, c11, c12⟩ := op_cells (o := o) (g := w.heap.size) (H5.at 0 rfl)
    have D5 := Lib.hid (FX.why Q x5 T4.out o ho)
    unfold opA at D5
    clear hb5 D4 x5 H5
    go_wp2_with fail
    refine D5.out.mono ?_
    rintro e w6 ⟨rfl, x6, _⟩
    have H6 := H4.out.step x6.below
    clear c0 c1 c2 c3 c4 c5 c6 c7 c8 c9 c10 c11 c12
    obtain ⟨c0, c1, c2, c3, c4, c5, c6, c7, c8, c9, c10, c11, c12⟩ := op_cells (o := o) (g := w.heap.size) (H6.at 0 rfl)
    have D6 := Lib.hid (FX.does Q x6 T4.out o ho)
    rw [errs_why] at D6
    unfold opA at D6
    clear D5 x6 H6
    go_wp2_with fail
    refine D6.out.mono ?_
    rintro e w7 ⟨rfl, x7, _⟩
    have X7 := Lib.hid x7
    have T7 := Lib.hid (tab_below T4.out (Nat.le_refl _) x7.below)
    have D7 := Lib.hid (FX.of P B y.length kb y w7 T7.out (by omega) HFt.out ((HY4.out.below x7.below).more x7.below.size))
    have e1 : runA (sortO y) = (doA (runA t) o).1 := by
      have e2 : sortO y = y := HSo.out
      have e3 : y = t ++ [o] := HL2.out.1
      rw [e2, e3]
      unfold runA
      rw [run_append]
      rfl
    rw [e1] at D7
    have hyl : y.length = t.length + 1 := by
      have e3 : y = t ++ [o] := HL2.out.1
      rw [e3]; simp
    have HYL := Lib.hid hyl
    clear hyl
    clear c0 c1 c2 c3 c4 c5 c6 c7 c8 c9 c10 c11 c12 x7 D6 e1
    go_wp2_with fail
    refine D7.out.mono ?_
    rintro e w8 ⟨g8, rfl, x8, hb8⟩
    have y8 := X7.out.step hb8
    obtain ⟨U1, u1, _⟩ := y8.gx.at'
    obtain ⟨U2, u2, _⟩ := x8.gx.at'
    have D8 := Lib.hid (sameF_two H a g8 U1 U2 _ w8 u1 u2 y8.fine.ok)
    have B8 := Lib.hid (below_step BW.out y8.below)
    clear x8 y8 u1 u2 hb8 D7
    go_wp2_with fail
    refine D8.out.mono ?_
    rintro e w9 ⟨rfl, hb9⟩
    have hz : (y.length : Int) = (t.length : Int) + 1 := by have := HYL.out; omega
    go_wp2_with fail
    go_ret
    exact ⟨rfl, below_step B8.out hb9⟩

theorem walk0 {H : GraphHave} (P : FoldHave H) (Q : ApplyHave H) (a0A : Option Addr) (a0n : Nat) (a0c : Nat) (a0x : List Opn) (a1 : Opn) (w : World) [T : Tab w] (_ : a0n ≤ a0c) (_ : a0c ≤ maxLen) (w0x : ∀ x ∈ a0x, OpFit x) (w0d : OpsIn w w.heap.size a0A a0n a0x) (w1 : Ok64 a1) (w1a : a1.name.size ≤ maxLen) (w1b : a1.new.size ≤ maxLen) (w1c : a1.data.size ≤ maxLen) :
    Calls Tryz.prog 6 #[.slice a0A a0n a0c, .agg (opA a1)] w fun e w' => e = .returned (.bool true) ∧ Below w.heap.size w w' :=
  core P Q a0A a0n a0c a0x a1 w0x ⟨w1, w1a, w1b, w1c⟩ w T w0d

end Go.Proofs.YtdobeghbkonimaaGreatDoor.lawFoldNext
