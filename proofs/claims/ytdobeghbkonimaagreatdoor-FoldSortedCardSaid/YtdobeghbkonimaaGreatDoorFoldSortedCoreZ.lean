/-
  What is sorted rises; sorted twice it is the same; put one by one it is sorted: for all lists of operations (60 at most).
-/
import Derived.Test.YtdobeghbkonimaaGreatDoorZ01
import Derived.Test.YtdobeghbkonimaaGreatDoorFoldRefAZ
import Derived.Test.YtdobeghbkonimaaGreatDoorZ01
import Derived.Test.YtdobeghbkonimaaGreatDoorZ01
import Derived.Test.YtdobeghbkonimaaGreatDoorZ01
import Derived.Deep.LoopGhost
import Derived.Deep.QuietTactic
import Derived.BigQuiet
import Derived.OpenShut
namespace Go.Proofs.YtdobeghbkonimaaGreatDoor.lawFoldSorted
open Go.RowKit StampMath GraphMath OpMath PackMath

theorem put_is {x : List Opn} {o : Opn} (h : (GraphMath.putO x o).2.2 = true) : (GraphMath.putO x o).1.length = x.length + 1 ∧ ∃ hp : (GraphMath.putO x o).2.1 < (GraphMath.putO x o).1.length, (GraphMath.putO x o).1[(GraphMath.putO x o).2.1] = o := by
  have e : GraphMath.putO x o = (x.take (placeO x (oSt o)) ++ o :: x.drop (placeO x (oSt o)), placeO x (oSt o), true) := by
    unfold GraphMath.putO at h ⊢
    by_cases hm : mayO o = false
    · rw [if_pos hm] at h; cases h
    rw [if_neg hm] at h ⊢
    by_cases hh : hasO x (oSt o) = true
    · rw [if_pos hh] at h; cases h
    rw [if_neg hh, putIn_place]
  have hpl := place_le x (oSt o)
  rw [e]
  generalize placeO x (oSt o) = p at hpl
  have h1 : (x.take p).length = p := by rw [List.length_take]; omega
  refine ⟨by simp only [List.length_append, List.length_cons, List.length_drop, h1]; omega, by simp only [List.length_append, List.length_cons, h1]; omega, ?_⟩
  show (x.take p ++ o :: x.drop p)[p]'_ = o
  rw [List.getElem_append_right (by omega)]
  simp [h1]

theorem put_not {x : List Opn} {o : Opn} (h : (GraphMath.putO x o).2.2 = false) : (GraphMath.putO x o).1 = x := by
  unfold GraphMath.putO at h ⊢
  by_cases hm : mayO o = false
  · rw [if_pos hm]
  rw [if_neg hm] at h ⊢
  by_cases hh : hasO x (oSt o) = true
  · rw [if_pos hh]
  · rw [if_neg hh] at h; cases h

set_option maxRecDepth 100000 in
set_option maxHeartbeats 3200000 in
theorem core {H : GraphHave} (P : FoldHave H) (A : Option Addr) (n c : Nat) (l : List Opn) (hl : ∀ x ∈ l, OpFit x) (w : World) (T : Tab w) (h : OpsIn w w.heap.size A n l) :
    Calls Tryz.prog 7 #[.slice A n c] w fun e w' => e = .returned (.bool true) ∧ Below w.heap.size w w' := by
  have HX := Lib.hid h
  have HF := Lib.hid hl
  clear h hl
  go_enter Tryz.func7, Tryz.ntmps7
  go_wp2_with fail
  refine (FoldHave.shown P _ T).mono ?_
  rintro e w1 ⟨rfl, hb1⟩
  have B1 := Lib.hid hb1
  clear hb1
  go_wp2_with fail
  refine (fewF_any A n c _).mono ?_
  rintro e w2 ⟨rfl, hb2⟩
  have B2 := Lib.hid (below_step B1.out hb2)
  clear hb2 B1
  by_cases hn : n ≤ 60
  case neg =>
    have hd : decide (n ≤ 60) = false := decide_eq_false hn
    go_wp2_with fail
    go_ret
    exact ⟨rfl, B2.out⟩
  have hd : decide (n ≤ 60) = true := decide_eq_true hn
  have hll : l.length = n := HX.out.len
  have T2 := tab_below T (Nat.le_refl _) B2.out
  have hsl := sort_len l
  have HT0 : Hid (putsO [] l = sortO l) := rfl
  have HS1 := Lib.hid (sort_rises l)
  have HS2 := Lib.hid (sort_may l)
  have HS3 : Hid (∀ o ∈ sortO l, OpFit o) := Lib.hid fun o ho => HF.out o (sort_sub o ho)
  have HS4 := Lib.hid (sort_twice l)
  have D := Lib.hid (P.sort A n c l w2 (by omega) HF.out ((HX.out.below B2.out).more B2.out.size))
  unfold OpsPost at D
  generalize sortO l = t at D HS1 HS2 HS3 HS4 HT0 hsl
  have HTW := Lib.hid T2
  clear T2
  go_wp2_with fail
  refine D.out.mono ?_
  rintro e w3 ⟨X, cx, rfl, hx, hxc, hcm, hx0, hb3⟩
  have HX3 := Lib.hid hx
  have T3 := Lib.hid (tab_below HTW.out (Nat.le_refl _) hb3)
  have B3 := Lib.hid (below_step B2.out hb3)
  clear hx hb3 D hd B2 HTW
  go_wp2_with fail
  go_loopg [5, 6] (n + 1) (fun gk y i wr => ∃ (k : Nat) (B : Option Addr) (cB : Nat), i = .int .i64 (k : Int) ∧ gk + k = n + 1 ∧ k ≤ n ∧ y = .slice B (putsO [] (l.take k)).length cB ∧ OpsIn wr wr.heap.size B (putsO [] (l.take k)).length (putsO [] (l.take k)) ∧ (putsO [] (l.take k)).length ≤ cB ∧ cB ≤ maxLen ∧ (B = none → cB = 0) ∧ Hid (Below w3.heap.size w3 wr))
  case atStart => exact ⟨0, none, 0, rfl, by omega, by omega, rfl, ops_none _, Nat.le_refl _, Nat.zero_le _, fun _ => rfl, Below.refl _ _⟩
  case round =>
    obtain ⟨k, B, cB, rfl, hgk, hk, rfl, hy, hyc, hcB, hB0, hB⟩ := hrel
    have HG := Lib.hid hgk
    clear hgk
    have hzl := puts_len (l.take k) []
    rw [List.length_take, List.length_nil] at hzl
    by_cases hlt : k < n
    · obtain ⟨gi, o, rfl, hg, hrow⟩ := HX.out.row (by omega)
      have lk : k < l.length := by omega
      have hca := (hrow k lk).below (below_step B3.out hB.out) hg
      have hnx := puts_snoc [] lk
      have hfit := HF.out _ (List.getElem_mem lk)
      have hfz : ∀ a ∈ putsO [] (l.take k), OpFit a := fun a ha => HF.out a (List.mem_of_mem_take ((puts_sub _ a ha).resolve_left fun q => nomatch q))
      have hrz : Rises (putsO [] (l.take k)) := puts_rises (l.take k) List.Pairwise.nil
      have HROW : Hid (∀ W, Below w.heap.size w W → OpAt W gi (o + k * 13) l[k]) := Lib.hid fun W hW => (hrow k lk).below hW hg
      generalize putsO [] (l.take k) = z at hy hyc hzl hfz hrz hnx ⊢
      generalize l[k] = a at hca hnx hfit HROW
      have T4 := tab_below T3.out (Nat.le_refl _) hB.out
      have E := Lib.hid (P.put B z.length cB z a wr (by omega) hyc hcB hB0 hfz hfit hrz hy)
      have H1 : Hid ((putO z a).2.2 = true → (putO z a).1.length = z.length + 1 ∧ ∃ hp : (putO z a).2.1 < (putO z a).1.length, (putO z a).1[(putO z a).2.1] = a) := Lib.hid put_is
      have H2 : Hid ((putO z a).2.2 = false → (putO z a).1 = z) := Lib.hid put_not
      generalize putO z a = R at E H1 H2 hnx
      obtain ⟨y, p, q⟩ := R
      dsimp only at hnx
      have HNX := Lib.hid hnx
      have hi0 : (0 : Int) ≤ (k : Int) := by omega
      have hi1 : (k : Int) < (n : Int) := by omega
      obtain ⟨c0, c1, c2, c3, c4, c5, c6, c7, c8, c9, c10, c11, c12⟩ := hca
      unfold opA at E
      clear hrow hnx hfit hfz hrz T4 hg
      go_wp2_with fail
      refine E.out.mono ?_
      rintro e w4 ⟨B', k', rfl, hy4, hyc4, hcB4, hB04, hb4⟩
      have HY4 := Lib.hid hy4
      have BW := Lib.hid (below_step hB.out hb4)
      have hca := HROW.out _ (below_step B3.out BW.out)
      clear c0 c1 c2 c3 c4 c5 c6 c7 c8 c9 c10 c11 c12 hy4 hb4 E
      obtain ⟨c0, c1, c2, c3, c4, c5, c6, c7, c8, c9, c10, c11, c12⟩ := hca
      cases q with
      | false =>
        have hyz : y = z := H2.out rfl
        subst hyz
        clear c0 c1 c2 c3 c4 c5 c6 c7 c8 c9 c10 c11 c12
        go_upto_region 10 with fail
        refine wp_region_later (by kernel_rfl) (by kernel_rfl) ?_
        repeat (go_big_quiet_step (fail))
        refine wpQuiet_nil ?_
        intro _ hw'
        obtain ⟨y', rfl⟩ := hw'
        have HBJ := Lib.hid (below_step BW.out (later_below w4 y'))
        have HYJ := Lib.hid ((HY4.out.below (later_below w4 y')).more (later_below w4 y').size)
        go_wp2_with fail
        go_roundg (gk - 1)
        case measure => have := HG.out; omega
        case rel => exact ⟨k + 1, B', k', by go_num, by have := HG.out; omega, by omega, by rw [HNX.out], by rw [HNX.out]; exact HYJ.out, by rw [HNX.out]; exact hyc4, hcB4, hB04, HBJ⟩
      | true =>
        obtain ⟨hyl, hp, hpa⟩ := H1.out rfl
        obtain ⟨gb, ob, rfl, hgb, hrb⟩ := OpsIn.row HY4.out (by omega)
        have hna := hrb p hp
        rw [hpa] at hna
        obtain ⟨d0, d1, d2, d3, d4, d5, d6, d7, d8, d9, d10, d11, d12⟩ := hna
        have l0 := later_cell c0
        have l1 := later_cell c1
        have l2 := later_cell c2
        have l3 := later_cell c3
        have l4 := later_cell c4
        have l5 := later_cell c5
        have l6 := later_cell c6
        have l7 := later_cell c7
        have l8 := later_cell c8
        have l9 := later_cell c9
        have l10 := later_cell c10
        have l11 := later_cell c11
        have l12 := later_cell c12
        have m0 := later_cell d0
        have m1 := later_cell d1
        have m2 := later_cell d2
        have m3 := later_cell d3
        have m4 := later_cell d4
        have m5 := later_cell d5
        have m6 := later_cell d6
        have m7 := later_cell d7
        have m8 := later_cell d8
        have m9 := later_cell d9
        have m10 := later_cell d10
        have m11 := later_cell d11
        have m12 := later_cell d12
        have hr := run_eqO a a
        rw [decide_eq_true rfl] at hr
        unfold opA at hr
        have hz : (y.length : Int) = (z.length : Int) + 1 := by omega
        have hp0 : decide ((p : Int) < 0) = false := decide_eq_false (by omega)
        have hp1 : (0 : Int) ≤ (p : Int) := by omega
        have hp2 : (p : Int) < (z.length : Int) + 1 := by omega
        have hp3 : decide ((z.length : Int) + 1 ≤ (p : Int)) = false := decide_eq_false (by omega)
        have hp5 : decide ((y.length : Int) ≤ (p : Int)) = false := decide_eq_false (by omega)
        have hp4 : (p : Int) < (y.length : Int) := by omega
        clear hyl hp hpa hrb c0 c1 c2 c3 c4 c5 c6 c7 c8 c9 c10 c11 c12 d0 d1 d2 d3 d4 d5 d6 d7 d8 d9 d10 d11 d12 H1 H2 HROW
        go_upto_region 10 with fail
        refine wp_region_later (by kernel_rfl) (by kernel_rfl) ?_
        repeat (go_big_quiet_step (fail))
        refine wpQuiet_nil ?_
        intro _ hw'
        obtain ⟨y', rfl⟩ := hw'
        have HBJ := Lib.hid (below_step BW.out (later_below w4 y'))
        have HYJ := Lib.hid ((HY4.out.below (later_below w4 y')).more (later_below w4 y').size)
        clear l0 l1 l2 l3 l4 l5 l6 l7 l8 l9 l10 l11 l12 m0 m1 m2 m3 m4 m5 m6 m7 m8 m9 m10 m11 m12 hr hz hp0 hp1 hp2 hp3 hp4 hp5
        go_wp2_with fail
        go_roundg (gk - 1)
        case measure => have := HG.out; omega
        case rel => exact ⟨k + 1, some ⟨gb, ob, none⟩, k', by go_num, by have := HG.out; omega, by omega, by rw [HNX.out], by rw [HNX.out]; exact HYJ.out, by rw [HNX.out]; exact hyc4, hcB4, hB04, HBJ⟩
    · have hkn : k = n := by omega
      have hki : ¬ (k : Int) < (n : Int) := by omega
      rw [List.take_of_length_le (by omega), HT0.out] at hy ⊢
      have HY := Lib.hid hy
      have B4 := Lib.hid (below_step B3.out hB.out)
      have T4 := Lib.hid (tab_below T3.out (Nat.le_refl _) hB.out)
      have HX4 := Lib.hid ((HX3.out.below hB.out).more hB.out.size)
      clear hy hkn hyc hzl HG hB HX3 T3 B3 hlt
      obtain ⟨w4, hw4⟩ : ∃ W, W = wr := ⟨_, rfl⟩
      rw [← hw4] at HY B4 T4 HX4 ⊢
      clear hw4
      go_wp2_with fail
      go_loopg [10] (t.length + 1) (fun gk i wq => ∃ j : Nat, i = .int .i64 (j : Int) ∧ gk + j = t.length + 1 ∧ j ≤ t.length ∧ Hid (Below w4.heap.size w4 wq))
      case atStart => exact ⟨0, rfl, by omega, by omega, Below.refl _ _⟩
      case round =>
        obtain ⟨j, rfl, hgj, hj, hBq⟩ := hrel
        have HG := Lib.hid hgj
        clear hgj
        by_cases hjt : j + 1 < t.length
        · have hj1 : (j : Int) + 1 < (t.length : Int) := by omega
          have hj2 : (0 : Int) ≤ (j : Int) := by omega
          have hj3 : (j : Int) < (t.length : Int) := by omega
          obtain ⟨gx, ox, rfl, hgx, hrx⟩ := OpsIn.row HX4.out (by omega)
          have lj : j < t.length := by omega
          obtain ⟨e0, e1, -⟩ := (hrx j lj).below hBq.out hgx
          have E := Lib.hid (P.below _ t.length cx t (oSt t[j]) wr (by omega) HS1.out ((HX4.out.below hBq.out).more hBq.out.size))
          rw [below_own HS1.out lj] at E
          generalize t[j] = a at e0 e1 E
          have hjj : ((j + 1 : Nat) : Int) = (j : Int) + 1 := by omega
          rw [hjj] at E
          change Hid (Calls _ _ #[_, .agg #[.int .i64 a.st, .int .i64 a.sr]] _ _) at E
          clear hrx hjj hjt lj
          go_wp2_with fail
          refine E.out.mono ?_
          rintro e w5 ⟨rfl, hb5⟩
          have HBJ := Lib.hid (below_step hBq.out hb5)
          clear hb5 E e0 e1
          go_wp2_with fail
          go_roundg (gk - 1)
          case measure => have := HG.out; omega
          case rel => exact ⟨j + 1, by go_num, by have := HG.out; omega, by omega, HBJ⟩
        · have hj1 : ¬ (j : Int) + 1 < (t.length : Int) := by omega
          have D1 := Lib.hid (refOps X B t.length cx t.length cB t t (by omega) (by omega) wr ((HX4.out.below hBq.out).more hBq.out.size) ((HY.out.below hBq.out).more hBq.out.size))
          rw [decide_eq_true rfl] at D1
          clear hjt HG
          go_wp2_with fail
          refine D1.out.mono ?_
          rintro e w5 ⟨rfl, hb5⟩
          have B5 := Lib.hid (below_step hBq.out hb5)
          have T5 := tab_below T4.out (Nat.le_refl _) B5.out
          have D2 := Lib.hid (P.sort X t.length cx t w5 (by omega) HS3.out ((HX4.out.below B5.out).more B5.out.size))
          unfold OpsPost at D2
          rw [HS4.out] at D2
          clear hb5 D1
          go_wp2_with fail
          refine D2.out.mono ?_
          rintro e w6 ⟨Z, cz, rfl, hz, _, _, _, hb6⟩
          have B6 := Lib.hid (below_step B5.out hb6)
          have D3 := Lib.hid (refOps Z X t.length cz t.length cx t t (by omega) (by omega) w6 hz ((HX4.out.below B6.out).more B6.out.size))
          rw [decide_eq_true rfl] at D3
          clear hz hb6 D2
          go_wp2_with fail
          refine D3.out.mono ?_
          rintro e w7 ⟨rfl, hb7⟩
          have B7 := Lib.hid (below_step B6.out hb7)
          have D4 := Lib.hid (P.below X t.length cx t (0, 0) w7 (by omega) HS1.out ((HX4.out.below B7.out).more B7.out.size))
          rw [below_zero HS2.out] at D4
          change Hid (Calls _ _ #[_, .agg #[.int .i64 0, .int .i64 0]] _ fun e w' => e = .returned (.int .i64 0) ∧ _) at D4
          clear hb7 D3
          go_wp2_with fail
          refine D4.out.mono ?_
          rintro e w8 ⟨rfl, hb8⟩
          go_wp2_with fail
          go_ret
          exact ⟨rfl, below_step B4.out (below_step B7.out hb8)⟩

theorem walk0 {H : GraphHave} (P : FoldHave H) (_ : ApplyHave H) (a0A : Option Addr) (a0n : Nat) (a0c : Nat) (a0x : List Opn) (w : World) [T : Tab w] (_ : a0n ≤ a0c) (_ : a0c ≤ maxLen) (w0x : ∀ x ∈ a0x, OpFit x) (w0d : OpsIn w w.heap.size a0A a0n a0x) :
    Calls Tryz.prog 7 #[.slice a0A a0n a0c] w fun e w' => e = .returned (.bool true) ∧ Below w.heap.size w w' :=
  core P a0A a0n a0c a0x w0x w T w0d

end Go.Proofs.YtdobeghbkonimaaGreatDoor.lawFoldSorted
