/-
  An operation that tells an error where it stands changes nothing: without it the graph is the same: for all lists of operations (60 at most).
-/
import Derived.Test.YtdobeghbkonimaaGreatDoorZ01
import Derived.Test.YtdobeghbkonimaaGreatDoorFoldSameZ
import Derived.Test.YtdobeghbkonimaaGreatDoorZ01
import Derived.Test.YtdobeghbkonimaaGreatDoorZ12
import Derived.Test.YtdobeghbkonimaaGreatDoorZ01
import Derived.Test.YtdobeghbkonimaaGreatDoorZ01
import Derived.Deep.LoopGhost
import Derived.OpenShut
namespace Go.Proofs.YtdobeghbkonimaaGreatDoor.lawFoldIdle
open Go.RowKit StampMath GraphMath OpMath PackMath

set_option maxRecDepth 100000 in
set_option maxHeartbeats 3200000 in
theorem core {H : GraphHave} (P : FoldHave H) (Q : ApplyHave H) (A : Option Addr) (n c : Nat) (l : List Opn) (hl : ∀ x ∈ l, OpFit x) (w : World) (T : Tab w) (h : OpsIn w w.heap.size A n l) :
    Calls Tryz.prog 8 #[.slice A n c] w fun e w' => e = .returned (.bool true) ∧ Below w.heap.size w w' := by
  obtain ⟨i0, hi0, hz0, hz1, hz2⟩ := info_parts op_infos
  have HX := Lib.hid h
  have HF := Lib.hid hl
  clear h hl
  go_enter Tryz.func8, Tryz.ntmps8
  go_wp2_with fail
  refine (FoldHave.shown P _ T).mono ?_
  rintro e w1 ⟨rfl, hb1⟩
  have B1 := Lib.hid hb1
  clear hb1
  go_wp2_with fail
  refine (fewF_any A n c _).mono ?_
  rintro e w2 ⟨rfl, hb2⟩
  have B2 := Lib.hid (below_step B1.out hb2)
  clear hb2 B1
  by_cases hn : n ≤ 60
  case neg =>
    have hd : decide (n ≤ 60) = false := decide_eq_false hn
    go_wp2_with fail
    go_ret
    exact ⟨rfl, B2.out⟩
  have hd : decide (n ≤ 60) = true := decide_eq_true hn
  have hll : l.length = n := HX.out.len
  have T2 := tab_below T (Nat.le_refl _) B2.out
  have hsl := sort_len l
  have HS3 : Hid (∀ o ∈ sortO l, OpFit o) := Lib.hid fun o ho => HF.out o (sort_sub o ho)
  have HSD : Hid (runA (sortO (doneO newG (sortO l))) = runA (sortO l)) := by
    show _ = _
    rw [sort_done]
    exact done_run _ _
  have HDS : Hid (∀ a ∈ doneO newG (sortO l), OpFit a) := Lib.hid fun a ha => HS3.out a ((done_sub _ _).subset ha)
  have hdl : (doneO newG (sortO l)).length ≤ (sortO l).length := (done_sub _ _).length_le
  have D := Lib.hid (P.sort A n c l w2 (by omega) HF.out ((HX.out.below B2.out).more B2.out.size))
  have DO : Hid (∀ W, Tab W → Below w2.heap.size w2 W → Calls Tryz.prog 16 #[.slice A n c] W fun e w' => ∃ a, e = .returned (.pointer (some a)) ∧ FX H W w' (fun _ => False) a (runA (sortO l)) ∧ Below W.heap.size W w') := Lib.hid fun W TW hW =>
    FX.of P A n c l W TW (by omega) HF.out ((HX.out.below (below_step B2.out hW)).more (below_step B2.out hW).size)
  unfold OpsPost at D
  generalize sortO l = t at D DO HS3 HSD HDS hsl hdl
  have HTW := Lib.hid T2
  clear T2
  go_wp2_with fail
  refine D.out.mono ?_
  rintro e w3 ⟨X, cx, rfl, hx, hxc, hcm, hx0, hb3⟩
  have HX3 := Lib.hid hx
  have T3 := Lib.hid (tab_below HTW.out (Nat.le_refl _) hb3)
  have B3 := Lib.hid (below_step B2.out hb3)
  have B23 := Lib.hid hb3
  clear hx hb3 D hd B2
  go_wp2_with fail
  refine (GX.new (H := H) (Below.refl w3.heap.size w3) (fun _ => False) (fun _ h => h.elim)).mono ?_
  rintro e w4 ⟨a, rfl, g4, hb4⟩
  have S4 : Hid (StackO H w3 w4 (fun _ => False) a (runA (t.take 0)) (.slice none 0 0) (doneO newG (t.take 0))) := Lib.hid (StackO.start ⟨g4, new_fine⟩)
  clear g4 hb4
  go_wp2_with fail
  go_loopg [6, 7] (t.length + 1) (fun gk dn i wr => ∃ (k : Nat) (N : Nat → Prop), i = .int .i64 (k : Int) ∧ gk + k = t.length + 1 ∧ k ≤ t.length ∧ Hid (StackO H w3 wr N a (runA (t.take k)) dn (doneO newG (t.take k))))
  case atStart => exact ⟨0, _, by go_num, by omega, by omega, S4⟩
  case round =>
    clear S4
    obtain ⟨k, N, rfl, hgk, hk, hS⟩ := hrel
    have HG := Lib.hid hgk
    clear hgk
    by_cases hlt : k < t.length
    · obtain ⟨gi, o, rfl, hg, hrow⟩ := HX3.out.row (by omega)
      have hca := (hrow k hlt).below hS.out.fx.below hg
      have hnx := runG_next newG (l := t) (k := k) hlt
      have hds := done_snoc newG (t.take k) t[k]
      rw [← List.take_succ_eq_append_getElem hlt] at hds
      have hfit := HS3.out _ (List.getElem_mem hlt)
      have HROW : Hid (∀ W, Below w3.heap.size w3 W → OpAt W gi (o + k * 13) t[k]) := Lib.hid fun W hW => (hrow k hlt).below hW hg
      have hdk : (doneO newG (t.take k)).length ≤ k := Nat.le_trans (done_sub _ _).length_le (List.length_take_le ..)
      generalize t[k] = d at hca hnx hds hfit HROW
      have DD := Lib.hid (FX.does Q hS.out.fx T3.out d hfit)
      change runA (t.take (k + 1)) = (doA (runA (t.take k)) d).1 at hnx
      change doneO newG (t.take (k + 1)) = if (doA (runA (t.take k)) d).2 = 0 then doneO newG (t.take k) ++ [d] else doneO newG (t.take k) at hds
      obtain ⟨er, her⟩ : ∃ er, er = (doA (runA (t.take k)) d).2 := ⟨_, rfl⟩
      rw [← her] at DD hds
      rw [← hnx] at DD
      have HDS2 := Lib.hid hds
      have hi1 : (k : Int) < (t.length : Int) := by omega
      have hi0' : (0 : Int) ≤ (k : Int) := by omega
      obtain ⟨c0, c1, c2, c3, c4, c5, c6, c7, c8, c9, c10, c11, c12⟩ := hca
      clear hrow hnx hds hfit hg her
      unfold opA at DD
      go_wp2_with fail
      refine DD.out.mono ?_
      rintro e w5 ⟨rfl, h5, hs5⟩
      have S5 := Lib.hid (hS.out.same h5 hs5)
      clear h5 hs5 DD hS c0 c1 c2 c3 c4 c5 c6 c7 c8 c9 c10 c11 c12
      by_cases h0 : er = 0
      · have h0' : (er == 0) = true := by rw [h0]; rfl
        have HDS3 : Hid (doneO newG (t.take (k + 1)) = doneO newG (t.take k) ++ [d]) := HDS2.out.trans (if_pos h0)
        have hca := HROW.out _ S5.out.fx.below
        obtain ⟨c0, c1, c2, c3, c4, c5, c6, c7, c8, c9, c10, c11, c12⟩ := hca
        have S6 := Lib.hid (S5.out.step ((Below.refl w5.heap.size w5).alloc (Nat.le_refl _) (.cells (opA d) 26)))
        have OW := Lib.hid S6.out.own
        generalize doneO newG (t.take k) = q at S5 S6 OW HDS3 hdk
        have hm1 : q.length + 1 ≤ maxLen := by unfold maxLen; omega
        have hm3 : w3.heap.size ≤ (w5.alloc (.cells (opA d) 26)).heap.size := S6.out.fx.below.size
        clear h0 HDS2 HROW
        go_wp2_with (at_builtin; refine wpList_append_own_at _ (by rfl) (.tmp 29) (.tmp 34) 22 (by rfl) w3.heap.size 26 i0 _ 13 128 Tryz.underlying22 hi0 hz0 hz1 hz2 (by rfl) (by decide) _ _ _ (by rfl) OW.out ⟨w5.heap.size, 0, none⟩ 1 1 (opA d).toList (by rfl) (by rfl) (row_there w5 _ _) (op_cells1 d) hm1 (by omega) hm3 ?_; intro rv7 w7 hown7 hg7 _ hat7)
        rw [flat_op] at hown7
        have S7 := Lib.hid (S6.out.push hown7 hg7 hat7)
        rw [← HDS3.out] at S7
        clear hown7 hg7 hat7 OW S5 S6 c0 c1 c2 c3 c4 c5 c6 c7 c8 c9 c10 c11 c12 hm3 h0'
        go_roundg (gk - 1)
        case measure => have := HG.out; omega
        case rel => exact ⟨k + 1, _, by go_num, by have := HG.out; omega, by omega, S7⟩
      · have h0' : (er == 0) = false := by rw [beq_eq_false_iff_ne]; exact h0
        have HDS3 : Hid (doneO newG (t.take (k + 1)) = doneO newG (t.take k)) := HDS2.out.trans (if_neg h0)
        rw [← HDS3.out] at S5
        clear h0 HDS2 HROW
        go_wp2_with fail
        go_roundg (gk - 1)
        case measure => have := HG.out; omega
        case rel => exact ⟨k + 1, _, by go_num, by have := HG.out; omega, by omega, S5⟩
    · have hkn : k = t.length := by omega
      have hki : ¬ (k : Int) < (t.length : Int) := by omega
      have hS2 := hS.out
      rw [List.take_of_length_le (by omega)] at hS2
      have S8 := Lib.hid hS2
      obtain ⟨Y, cY, rfl, hy, _⟩ := ops_own rfl hS2.own
      have HY := Lib.hid hy
      obtain ⟨w4, hw4⟩ : ∃ W, W = wr := ⟨_, rfl⟩
      rw [← hw4] at S8 HY ⊢
      clear hw4 hS2 hS hkn HG hy hlt
      have B8 := Lib.hid S8.out.fx.below
      have T8 := Lib.hid (tab_below T3.out (Nat.le_refl _) B8.out)
      have D1 := Lib.hid (FX.of P Y _ cY (doneO newG t) w4 T8.out (by omega) HDS.out HY.out)
      rw [HSD.out] at D1
      generalize doneO newG t = q at D1 HY S8
      go_wp2_with fail
      refine D1.out.mono ?_
      rintro e w5 ⟨g5, rfl, x5, hb5⟩
      have X5 := Lib.hid x5
      have B5 := Lib.hid (below_step B8.out hb5)
      have S9 := Lib.hid (S8.out.fx.step hb5)
      have D2 := Lib.hid (DO.out w5 (tab_below T3.out (Nat.le_refl _) B5.out) (below_step B23.out B5.out))
      clear x5 hb5 D1 S8 HY
      go_wp2_with fail
      refine D2.out.mono ?_
      rintro e w6 ⟨g6, rfl, x6, hb6⟩
      have y6 := X5.out.step hb6
      obtain ⟨U1, u1, _⟩ := y6.gx.at'
      obtain ⟨U2, u2, _⟩ := x6.gx.at'
      have D3 := Lib.hid (sameF_two H g5 g6 U1 U2 _ w6 u1 u2 y6.fine.ok)
      have B6 := Lib.hid (below_step B5.out hb6)
      have S10 := Lib.hid (S9.out.step hb6)
      clear x6 y6 u1 u2 hb6 D2 S9 X5
      go_wp2_with fail
      refine D3.out.mono ?_
      rintro e w7 ⟨rfl, hb7⟩
      have B7 := Lib.hid (below_step B6.out hb7)
      have S11 := Lib.hid (S10.out.step hb7)
      have D4 := Lib.hid (DO.out w7 (tab_below T3.out (Nat.le_refl _) B7.out) (below_step B23.out B7.out))
      clear hb7 D3 S10
      go_wp2_with fail
      refine D4.out.mono ?_
      rintro e w8 ⟨g8, rfl, x8, hb8⟩
      have y8 := S11.out.step hb8
      obtain ⟨U1, u1, _⟩ := y8.gx.at'
      obtain ⟨U2, u2, _⟩ := x8.gx.at'
      have D5 := Lib.hid (sameF_two H a g8 U1 U2 _ w8 u1 u2 y8.fine.ok)
      have B9 := Lib.hid (below_step B7.out hb8)
      clear x8 y8 u1 u2 hb8 D4 S11
      go_wp2_with fail
      refine D5.out.mono ?_
      rintro e w9 ⟨rfl, hb9⟩
      go_wp2_with fail
      go_ret
      exact ⟨rfl, below_step B3.out (below_step B9.out hb9)⟩

theorem walk0 {H : GraphHave} (P : FoldHave H) (Q : ApplyHave H) (a0A : Option Addr) (a0n : Nat) (a0c : Nat) (a0x : List Opn) (w : World) [T : Tab w] (_ : a0n ≤ a0c) (_ : a0c ≤ maxLen) (w0x : ∀ x ∈ a0x, OpFit x) (w0d : OpsIn w w.heap.size a0A a0n a0x) :
    Calls Tryz.prog 8 #[.slice a0A a0n a0c] w fun e w' => e = .returned (.bool true) ∧ Below w.heap.size w w' :=
  core P Q a0A a0n a0c a0x w0x w T w0d

end Go.Proofs.YtdobeghbkonimaaGreatDoor.lawFoldIdle
