/-
  A part of the operations behind the other part makes the same graph; the base stays: for all lists of operations (60 at most).
-/
import Derived.Test.YtdobeghbkonimaaGreatDoorZ01
import Derived.Test.YtdobeghbkonimaaGreatDoorFoldSameZ
import Derived.Test.YtdobeghbkonimaaGreatDoorZ01
import Derived.Test.YtdobeghbkonimaaGreatDoorZ01
import Derived.Test.YtdobeghbkonimaaGreatDoorZ01
import Derived.Deep.QuietTactic
import Derived.BigQuiet
import Derived.OpenShut
namespace Go.Proofs.YtdobeghbkonimaaGreatDoor.lawFoldSplits
open Go.RowKit StampMath GraphMath OpMath PackMath

set_option maxRecDepth 100000 in
set_option maxHeartbeats 3200000 in
theorem core {H : GraphHave} (P : FoldHave H) (A : Option Addr) (n c : Nat) (l : List Opn) (s : St) (hl : ∀ x ∈ l, OpFit x) (w : World) (T : Tab w) (h : OpsIn w w.heap.size A n l) :
    Calls Tryz.prog 5 #[.slice A n c, .agg (stA s)] w fun e w' => e = .returned (.bool true) ∧ Below w.heap.size w w' := by
  have HX := Lib.hid h
  have HF := Lib.hid hl
  have hH0 : Held w [(w.heap.size, .cells (stA s) 24)] (w.alloc (.cells (stA s) 24)) := (Held.refl w).alloc _ rfl
  have T0 := Lib.hid (tab_below T (Nat.le_refl _) hH0.below)
  have H0 := Lib.hid hH0
  clear h hl hH0
  unfold stA at H0 T0 ⊢
  go_enter Tryz.func5, Tryz.ntmps5
  go_wp2_with fail
  refine (FoldHave.shown P _ T0.out).mono ?_
  rintro e w1 ⟨rfl, hb1⟩
  have H1 := Lib.hid (H0.out.step hb1)
  clear hb1 H0 T0
  go_wp2_with fail
  refine (fewF_any A n c _).mono ?_
  rintro e w2 ⟨rfl, hb2⟩
  have H2 := Lib.hid (H1.out.step hb2)
  clear hb2 H1
  by_cases hn : n ≤ 60
  case neg =>
    have hd : decide (n ≤ 60) = false := decide_eq_false hn
    have B2 := Lib.hid H2.out.below
    go_wp2_with fail
    go_ret
    exact ⟨rfl, B2.out⟩
  have hd : decide (n ≤ 60) = true := decide_eq_true hn
  have hll : l.length = n := HX.out.len
  have T2 := tab_below T (Nat.le_refl _) H2.out.below
  have hsl := sort_len l
  have HS1 := Lib.hid (sort_rises l)
  have HS2 : Hid (∀ y : List Opn, y.Sublist (sortO l) → sortO y = y) := Lib.hid fun y hy => sort_part hy
  have HS3 : Hid (∀ o ∈ sortO l, OpFit o) := Lib.hid fun o ho => HF.out o (sort_sub o ho)
  obtain ⟨t, ht⟩ : ∃ t, t = sortO l := ⟨_, rfl⟩
  have D := Lib.hid (P.sort A n c l w2 (by omega) HF.out ((HX.out.below H2.out.below).more H2.out.below.size))
  have DO : Hid (∀ W, Tab W → Below w2.heap.size w2 W → Calls Tryz.prog 16 #[.slice A n c] W fun e w' => ∃ a, e = .returned (.pointer (some a)) ∧ FX H W w' (fun _ => False) a (runA t) ∧ Below W.heap.size W w') := Lib.hid fun W TW hW => by
    rw [ht]
    exact FX.of P A n c l W TW (by omega) HF.out ((HX.out.below (below_step H2.out.below hW)).more (below_step H2.out.below hW).size)
  unfold OpsPost at D
  rw [← ht] at D HS1 HS2 HS3 hsl
  have HTW := Lib.hid T2
  clear ht T2
  go_wp2_with fail
  refine D.out.mono ?_
  rintro e w3 ⟨X, cx, rfl, hx, hxc, hcm, hx0, hb3⟩
  have H3 := H2.out.step hb3
  obtain ⟨d0, d1⟩ := two_cells (g := w.heap.size) (H3.at 0 rfl)
  have HX3 := Lib.hid hx
  have B23 := Lib.hid hb3
  obtain ⟨k, hk⟩ : ∃ k, k = belowO t s := ⟨_, rfl⟩
  have hkt : k ≤ t.length := by rw [hk]; exact below_le t s
  have E3 := Lib.hid (P.below X t.length cx t s w3 (by omega) HS1.out hx)
  rw [← hk] at E3
  unfold stA at E3
  clear hk hx hb3 D
  go_wp2_with fail
  refine E3.out.mono ?_
  rintro e w4 ⟨rfl, hb4⟩
  have H4 := Lib.hid (H3.step hb4)
  have B24 := Lib.hid (below_step B23.out hb4)
  have HX4 := Lib.hid ((HX3.out.below hb4).more hb4.size)
  clear d0 d1 H3 E3 hb4 HX3 B23 hd
  have hk0 : ¬ (k : Int) < 0 := by omega
  have hk1 : ¬ (t.length : Int) < (k : Int) := by omega
  have hk2 : (k : Int) ≤ (t.length : Int) := by omega
  go_wp2_with fail
  refine (FX.of P X k cx (t.take k) w4 (tab_below HTW.out (Nat.le_refl _) B24.out) (by omega) (fun o ho => HS3.out o (List.mem_of_mem_take ho)) (ops_take HX4.out hkt)).mono ?_
  rintro e w5 ⟨a, rfl, x5, hb5⟩
  rw [HS2.out _ (List.take_sublist k t)] at x5
  have T4 := Lib.hid (tab_below HTW.out (Nat.le_refl _) B24.out)
  have B25 := Lib.hid (below_step B24.out hb5)
  have HX5 := Lib.hid ((HX4.out.below hb5).more hb5.size)
  obtain ⟨S5, r5, _⟩ := x5.gx.at'
  have D5 := Lib.hid (H.copy a S5 _ w5 r5 x5.fine.ok)
  have X5 := Lib.hid x5
  clear hb5 HX4 B24 r5 x5
  go_wp2_with fail
  refine D5.out.mono ?_
  rintro e w6 ⟨b, T6, rfl, r6, _, hb6⟩
  have X6 := Lib.hid (X5.out.step hb6)
  have B26 := Lib.hid (below_step B25.out hb6)
  have HX6 := Lib.hid ((HX5.out.below hb6).more hb6.size)
  have T6' := Lib.hid (tab_below HTW.out (Nat.le_refl _) (below_step B25.out hb6))
  have R6 := Lib.hid r6
  have HG : Hid (∀ (B : Option Addr) (m d : Nat) (z : List Opn), z = t.drop k → OpsIn w6 w6.heap.size B m z → Calls Tryz.prog 18 #[.pointer (some a), .slice B m d] w6 fun e w' => ∃ b, e = .returned (.pointer (some b)) ∧ FX H w6 w' (fun _ => False) b (runA t) ∧ Below w6.heap.size w6 w') := Lib.hid fun B m d z hz hi => by
    subst hz
    have := FX.on P X6.out T4.out B m d (t.drop k) (by have := hi.len; rw [List.length_drop] at this; omega) (fun o ho => HS3.out o (List.mem_of_mem_drop ho)) hi
    rw [HS2.out _ (List.drop_sublist k t)] at this
    have e1 : runG (runA (t.take k)) (t.drop k) = runA t := by
      unfold runA
      rw [← run_append, List.take_append_drop]
    rwa [e1] at this
  clear D5 hb6 r6 HX5 B25 X5
  by_cases hkl : k < t.length
  · obtain ⟨gx, ox, rfl, _⟩ := OpsIn.row HX6.out (by omega)
    have hdk := ops_drop HX6.out hkt
    have hck : k < cx := by omega
    go_wp2_with fail
    refine (HG.out _ _ _ _ rfl hdk).mono ?_
    rintro e w7 ⟨g7, rfl, x7, hb7⟩
    have X7 := Lib.hid x7
    have B27 := Lib.hid (below_step B26.out hb7)
    have D7 := Lib.hid (DO.out w7 (tab_below T6'.out (Nat.le_refl _) hb7) B27.out)
    have X7' := Lib.hid (X6.out.step hb7)
    have R7 := Lib.hid (H.keep R6.out fun i hi => hb7.block i (H.lt R6.out i hi))
    clear x7 hb7 HG DO
    go_wp2_with fail
    refine D7.out.mono ?_
    rintro e w8 ⟨g8, rfl, x8, hb8⟩
    have y8 := X7.out.step hb8
    obtain ⟨U1, u1, _⟩ := y8.gx.at'
    obtain ⟨U2, u2, _⟩ := x8.gx.at'
    have B28 := Lib.hid (below_step B27.out hb8)
    have D8 := Lib.hid (sameF_two H g7 g8 U1 U2 _ w8 u1 u2 y8.fine.ok)
    have X8' := Lib.hid (X7'.out.step hb8)
    have R8 := Lib.hid (H.keep R7.out fun i hi => hb8.block i (H.lt R7.out i hi))
    clear x8 y8 u1 u2 hb8 D7
    go_wp2_with fail
    refine D8.out.mono ?_
    rintro e w9 ⟨rfl, hb9⟩
    have y9 := X8'.out.step hb9
    obtain ⟨U3, u3, _⟩ := y9.gx.at'
    have B29 := Lib.hid (below_step B28.out hb9)
    have D9 := Lib.hid (sameF_two H a b U3 T6 _ w9 u3 (H.keep R8.out fun i hi => hb9.block i (H.lt R8.out i hi)) y9.fine.ok)
    have BW := Lib.hid H2.out.below
    clear y9 u3 hb9 D8
    go_wp2_with fail
    refine D9.out.mono ?_
    rintro e w10 ⟨rfl, hb10⟩
    go_wp2_with fail
    go_ret
    exact ⟨rfl, below_step BW.out (below_step B29.out hb10)⟩
  · have hkk : k = t.length := by omega
    have hdr : t.drop k = [] := List.eq_nil_of_length_eq_zero (by rw [List.length_drop]; omega)
    cases X with
    | none =>
      obtain rfl : cx = 0 := hx0 rfl
      obtain rfl : k = 0 := by omega
      go_wp2_with fail
      refine (HG.out _ _ _ _ rfl (by rw [hdr]; first | exact ops_none _ | (rw [show t.length = 0 by omega]; exact ops_none _) | (rw [show t.length - k = 0 by omega]; exact ops_none _))).mono ?_
      rintro e w7 ⟨g7, rfl, x7, hb7⟩
      have X7 := Lib.hid x7
      have B27 := Lib.hid (below_step B26.out hb7)
      have D7 := Lib.hid (DO.out w7 (tab_below T6'.out (Nat.le_refl _) hb7) B27.out)
      have X7' := Lib.hid (X6.out.step hb7)
      have R7 := Lib.hid (H.keep R6.out fun i hi => hb7.block i (H.lt R6.out i hi))
      clear x7 hb7 HG DO
      go_wp2_with fail
      refine D7.out.mono ?_
      rintro e w8 ⟨g8, rfl, x8, hb8⟩
      have y8 := X7.out.step hb8
      obtain ⟨U1, u1, _⟩ := y8.gx.at'
      obtain ⟨U2, u2, _⟩ := x8.gx.at'
      have B28 := Lib.hid (below_step B27.out hb8)
      have D8 := Lib.hid (sameF_two H g7 g8 U1 U2 _ w8 u1 u2 y8.fine.ok)
      have X8' := Lib.hid (X7'.out.step hb8)
      have R8 := Lib.hid (H.keep R7.out fun i hi => hb8.block i (H.lt R7.out i hi))
      clear x8 y8 u1 u2 hb8 D7
      go_wp2_with fail
      refine D8.out.mono ?_
      rintro e w9 ⟨rfl, hb9⟩
      have y9 := X8'.out.step hb9
      obtain ⟨U3, u3, _⟩ := y9.gx.at'
      have B29 := Lib.hid (below_step B28.out hb9)
      have D9 := Lib.hid (sameF_two H a b U3 T6 _ w9 u3 (H.keep R8.out fun i hi => hb9.block i (H.lt R8.out i hi)) y9.fine.ok)
      have BW := Lib.hid H2.out.below
      clear y9 u3 hb9 D8
      go_wp2_with fail
      refine D9.out.mono ?_
      rintro e w10 ⟨rfl, hb10⟩
      go_wp2_with fail
      go_ret
      exact ⟨rfl, below_step BW.out (below_step B29.out hb10)⟩
    | some ad =>
      by_cases hdk : cx = k
      · subst hdk
        go_wp2_with fail
        refine (HG.out _ _ _ _ rfl (by rw [hdr]; first | exact ops_none _ | (rw [show t.length = 0 by omega]; exact ops_none _) | (rw [show t.length - k = 0 by omega]; exact ops_none _))).mono ?_
        rintro e w7 ⟨g7, rfl, x7, hb7⟩
        have X7 := Lib.hid x7
        have B27 := Lib.hid (below_step B26.out hb7)
        have D7 := Lib.hid (DO.out w7 (tab_below T6'.out (Nat.le_refl _) hb7) B27.out)
        have X7' := Lib.hid (X6.out.step hb7)
        have R7 := Lib.hid (H.keep R6.out fun i hi => hb7.block i (H.lt R6.out i hi))
        clear x7 hb7 HG DO
        go_wp2_with fail
        refine D7.out.mono ?_
        rintro e w8 ⟨g8, rfl, x8, hb8⟩
        have y8 := X7.out.step hb8
        obtain ⟨U1, u1, _⟩ := y8.gx.at'
        obtain ⟨U2, u2, _⟩ := x8.gx.at'
        have B28 := Lib.hid (below_step B27.out hb8)
        have D8 := Lib.hid (sameF_two H g7 g8 U1 U2 _ w8 u1 u2 y8.fine.ok)
        have X8' := Lib.hid (X7'.out.step hb8)
        have R8 := Lib.hid (H.keep R7.out fun i hi => hb8.block i (H.lt R7.out i hi))
        clear x8 y8 u1 u2 hb8 D7
        go_wp2_with fail
        refine D8.out.mono ?_
        rintro e w9 ⟨rfl, hb9⟩
        have y9 := X8'.out.step hb9
        obtain ⟨U3, u3, _⟩ := y9.gx.at'
        have B29 := Lib.hid (below_step B28.out hb9)
        have D9 := Lib.hid (sameF_two H a b U3 T6 _ w9 u3 (H.keep R8.out fun i hi => hb9.block i (H.lt R8.out i hi)) y9.fine.ok)
        have BW := Lib.hid H2.out.below
        clear y9 u3 hb9 D8
        go_wp2_with fail
        refine D9.out.mono ?_
        rintro e w10 ⟨rfl, hb10⟩
        go_wp2_with fail
        go_ret
        exact ⟨rfl, below_step BW.out (below_step B29.out hb10)⟩
      · have hck : k < cx := by omega
        go_wp2_with fail
        refine (HG.out _ _ _ _ rfl (by rw [hdr]; first | exact ops_none _ | (rw [show t.length = 0 by omega]; exact ops_none _) | (rw [show t.length - k = 0 by omega]; exact ops_none _))).mono ?_
        rintro e w7 ⟨g7, rfl, x7, hb7⟩
        have X7 := Lib.hid x7
        have B27 := Lib.hid (below_step B26.out hb7)
        have D7 := Lib.hid (DO.out w7 (tab_below T6'.out (Nat.le_refl _) hb7) B27.out)
        have X7' := Lib.hid (X6.out.step hb7)
        have R7 := Lib.hid (H.keep R6.out fun i hi => hb7.block i (H.lt R6.out i hi))
        clear x7 hb7 HG DO
        go_wp2_with fail
        refine D7.out.mono ?_
        rintro e w8 ⟨g8, rfl, x8, hb8⟩
        have y8 := X7.out.step hb8
        obtain ⟨U1, u1, _⟩ := y8.gx.at'
        obtain ⟨U2, u2, _⟩ := x8.gx.at'
        have B28 := Lib.hid (below_step B27.out hb8)
        have D8 := Lib.hid (sameF_two H g7 g8 U1 U2 _ w8 u1 u2 y8.fine.ok)
        have X8' := Lib.hid (X7'.out.step hb8)
        have R8 := Lib.hid (H.keep R7.out fun i hi => hb8.block i (H.lt R7.out i hi))
        clear x8 y8 u1 u2 hb8 D7
        go_wp2_with fail
        refine D8.out.mono ?_
        rintro e w9 ⟨rfl, hb9⟩
        have y9 := X8'.out.step hb9
        obtain ⟨U3, u3, _⟩ := y9.gx.at'
        have B29 := Lib.hid (below_step B28.out hb9)
        have D9 := Lib.hid (sameF_two H a b U3 T6 _ w9 u3 (H.keep R8.out fun i hi => hb9.block i (H.lt R8.out i hi)) y9.fine.ok)
        have BW := Lib.hid H2.out.below
        clear y9 u3 hb9 D8
        go_wp2_with fail
        refine D9.out.mono ?_
        rintro e w10 ⟨rfl, hb10⟩
        go_wp2_with fail
        go_ret
        exact ⟨rfl, below_step BW.out (below_step B29.out hb10)⟩

theorem walk0 {H : GraphHave} (P : FoldHave H) (_ : ApplyHave H) (a0A : Option Addr) (a0n : Nat) (a0c : Nat) (a0x : List Opn) (a1 : St) (w : World) [T : Tab w] (_ : a0n ≤ a0c) (_ : a0c ≤ maxLen) (w0x : ∀ x ∈ a0x, OpFit x) (w0d : OpsIn w w.heap.size a0A a0n a0x) :
    Calls Tryz.prog 5 #[.slice a0A a0n a0c, .agg (stA a1)] w fun e w' => e = .returned (.bool true) ∧ Below w.heap.size w w' :=
  core P a0A a0n a0c a0x a1 w0x w T w0d

end Go.Proofs.YtdobeghbkonimaaGreatDoor.lawFoldSplits
