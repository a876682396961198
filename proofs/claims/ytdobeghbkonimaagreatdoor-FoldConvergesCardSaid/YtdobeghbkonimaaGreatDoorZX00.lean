/-
  The walk of layer 13's same: two graphs that tell the same.
-/
import Derived.Test.YtdobeghbkonimaaGreatDoorZ01
import Derived.Test.YtdobeghbkonimaaGreatDoorZ01
import Derived.Deep.RegionHeld3
import Derived.Deep.RegionWith
import Derived.RegionTactic
import Derived.Deep.LoopGhost
import Derived.Deep.Cut
import Derived.Deep.DeepCutAuto
import Derived.Deep.QuietTactic
import Derived.BigQuiet
import Derived.Test.YtdobeghbkonimaaGreatDoorZ00
import Derived.Test.YtdobeghbkonimaaGreatDoorRows
import Derived.Test.YtdobeghbkonimaaGreatDoorZ06
import Derived.Test.YtdobeghbkonimaaGreatDoorZ12
import Derived.Test.YtdobeghbkonimaaGreatDoorZ12
import Derived.Test.YtdobeghbkonimaaGreatDoorZ04
import Derived.Test.YtdobeghbkonimaaGreatDoorZ05
import Derived.Deep.CutBlock
import Derived.Deep.CutRange
import Derived.Deep.MidRow
import Derived.OpenShut
namespace Go.Proofs.YtdobeghbkonimaaGreatDoor
open Go.RowKit StampMath GraphMath OpMath

set_option maxRecDepth 100000 in
set_option maxHeartbeats 1600000 in
theorem sameF_two (H : GraphHave) (a b : Addr) (S T : Nat → Prop) (g : Gr) (w : World) (h1 : H.rep w S a g) (h2 : H.rep w T b g) (hg : g.ok) :
    Calls Tryz.prog 29 #[.pointer (some a), .pointer (some b)] w fun e w' => e = .returned (.bool true) ∧ Below w.heap.size w w' := by
  have hin : (inodesG g).length ≤ 1000 := by unfold inodesG; rw [List.length_map]; exact Nat.le_trans hg.few (by decide)
  have hm : g.E.length ≤ 1000 := Nat.le_trans hg.entsFew (by decide)
  have I1 : Hid (∀ W, Below w.heap.size w W → Calls Tryz.prog 24 #[.pointer (some a)] W (InosPost (inodesG g) W)) := fun W hW => told_inos H h1 hg hW
  have I2 : Hid (∀ W, Below w.heap.size w W → Calls Tryz.prog 24 #[.pointer (some b)] W (InosPost (inodesG g) W)) := fun W hW => told_inos H h2 hg hW
  have E1 : Hid (∀ W, Below w.heap.size w W → Calls Tryz.prog 27 #[.pointer (some a)] W (EntsPost g.E W)) := fun W hW => told_ents H h1 hg hW
  have E2 : Hid (∀ W, Below w.heap.size w W → Calls Tryz.prog 27 #[.pointer (some b)] W (EntsPost g.E W)) := fun W hW => told_ents H h2 hg hW
  have C9 : Hid (∀ (B B' : Option Addr) (k k' : Nat) (W : World), InosIn W W.heap.size B (inodesG g).length (inodesG g) → InosIn W W.heap.size B' (inodesG g).length (inodesG g) → Calls Tryz.prog 23 #[.slice B (inodesG g).length k, .slice B' (inodesG g).length k'] W fun e w' => e = .returned (.bool true) ∧ Below W.heap.size W w') := fun B B' k k' W q1 q2 => by
    have := refNodes B B' _ k _ k' _ _ (by omega) (by omega) W q1 q2
    simpa using this
  have C15 : Hid (∀ (B B' : Option Addr) (k k' : Nat) (W : World), EntsIn W W.heap.size B g.E.length g.E → EntsIn W W.heap.size B' g.E.length g.E → Calls Tryz.prog 26 #[.slice B g.E.length k, .slice B' g.E.length k'] W fun e w' => e = .returned (.bool true) ∧ Below W.heap.size W w') := fun B B' k k' W q1 q2 => by
    have := refEnts B B' _ k _ k' _ _ (by omega) (by omega) W q1 q2
    simpa using this
  generalize inodesG g = X at I1 I2 C9
  generalize g.E = E at E1 E2 C15
  clear h1 h2 hg hin hm
  go_enter Tryz.func29, Tryz.ntmps29
  go_wp2_with fail
  refine (I1.out _ (by repeat (first | exact Below.refl _ _ | assumption | apply Below.drew | refine below_step ?_ (by assumption)))).mono ?_
  rintro z w1 ⟨B1, k1, rfl, q1, _, _, _, hb⟩
  go_wp2_with fail
  refine (I2.out _ (by repeat (first | exact Below.refl _ _ | assumption | apply Below.drew | refine below_step ?_ (by assumption)))).mono ?_
  rintro z w1 ⟨B1, k1, rfl, q1, _, _, _, hb⟩
  go_wp2_with fail
  refine (C9.out _ _ _ _ _ (inos_later (by assumption) (by repeat (first | exact Below.refl _ _ | assumption | apply Below.drew | refine below_step ?_ (by assumption)))) (by assumption)).mono ?_
  rintro z w1 ⟨rfl, hb⟩
  go_wp2_with fail
  refine (E1.out _ (by repeat (first | exact Below.refl _ _ | assumption | apply Below.drew | refine below_step ?_ (by assumption)))).mono ?_
  rintro z w1 ⟨B1, k1, rfl, q1, _, _, _, hb⟩
  go_wp2_with fail
  refine (E2.out _ (by repeat (first | exact Below.refl _ _ | assumption | apply Below.drew | refine below_step ?_ (by assumption)))).mono ?_
  rintro z w1 ⟨B1, k1, rfl, q1, _, _, _, hb⟩
  go_wp2_with fail
  refine (C15.out _ _ _ _ _ (ents_later (by assumption) (by repeat (first | exact Below.refl _ _ | assumption | apply Below.drew | refine below_step ?_ (by assumption)))) (by assumption)).mono ?_
  rintro z w1 ⟨rfl, hb⟩
  go_wp2_with fail
  go_ret
  exact ⟨rfl, by repeat (first | exact Below.refl _ _ | assumption | apply Below.drew | refine below_step ?_ (by assumption))⟩

end Go.Proofs.YtdobeghbkonimaaGreatDoor

/-
  The walk of the statements' own distinct: operations without those whose stamp another one ahead of them has.
-/
namespace Go.Proofs.YtdobeghbkonimaaGreatDoor
open Go.RowKit StampMath GraphMath OpMath PackMath

theorem has_snoc {l : List Opn} {k : Nat} (h : k < l.length) (s : St) : (!hasO (l.take (k + 1)) s) = ((!hasO (l.take k) s) && !decide (oSt l[k] = s)) := by
  rw [List.take_succ_eq_append_getElem h]
  unfold hasO
  rw [List.any_append, Bool.not_or]
  simp

set_option maxRecDepth 100000 in
set_option maxHeartbeats 3200000 in
theorem distinctF (A : Option Addr) (n c : Nat) (l : List Opn) (hn : n ≤ 1000) (w : World) (h : OpsIn w w.heap.size A n l) :
    Calls Tryz.prog 28 #[.slice A n c] w (OpsPost (distO [] l) w) := by
  obtain ⟨i0, hi0, hz0, hz1, hz2⟩ := info_parts op_infos
  have hl := h.len
  have HX := Lib.hid h
  clear h
  go_enter Tryz.func28, Tryz.ntmps28
  go_wp2_with fail
  go_loopg [3, 4] (n + 1) (fun gk out i' wr => ∃ i : Nat, i' = .int .i64 (i : Int) ∧ gk + i = n + 1 ∧ i ≤ n ∧ wr.ownsRow w.heap.size 26 13 out (distO [] (l.take i)).length (flat ((distO [] (l.take i)).map opA)) ∧ Hid (Below w.heap.size w wr))
  case atStart => exact ⟨0, rfl, by omega, by omega, World.ownsRow_nil _ _ _ _, Below.refl _ _⟩
  case round =>
    obtain ⟨i, rfl, hgk, hi, hown, hB⟩ := hrel
    have hdl := dist_len (l.take i) []
    rw [List.length_take] at hdl
    by_cases hlt : i < n
    · have hs := dist_snoc (l.take i) [] (l[i]'(by omega))
      rw [← List.take_succ_eq_append_getElem (by omega), List.nil_append] at hs
      obtain ⟨gi, o, rfl, hg, hrow⟩ := HX.out.row (by omega)
      have li : i < l.length := by omega
      obtain ⟨d, hd⟩ : ∃ d, d = distO [] (l.take i) := ⟨_, rfl⟩
      rw [← hd] at hown hs hdl
      have HOWN := Lib.hid hown
      have HS := Lib.hid hs
      have HROW : Hid (∀ k (hk : k < l.length), ∀ W, Below w.heap.size w W → OpAt W gi (o + k * 13) l[k]) := Lib.hid fun k hk W hW => (hrow k hk).below hW hg
      have hi0' : (0 : Int) ≤ (i : Int) := by omega
      have hi1 : (i : Int) < (n : Int) := by omega
      obtain ⟨W0, hW0⟩ : ∃ x, x = wr := ⟨_, rfl⟩
      subst hW0
      obtain ⟨gp, hgpe⟩ : ∃ x, x = gk := ⟨_, rfl⟩
      subst hgpe
      clear hown hs hd hrow
      go_wp2_with fail
      go_loopg [5, 6] (n + 1) (fun gl is' k' wi => ∃ k : Nat, k' = .int .i64 (k : Int) ∧ gl + k = n + 1 ∧ k ≤ i ∧ is' = .bool (!hasO (l.take k) (oSt l[i])) ∧ Hid (Below W0.heap.size W0 wi))
      case atStart => exact ⟨0, rfl, by omega, by omega, rfl, Below.refl _ _⟩
      case round =>
        obtain ⟨k, rfl, hgl, hk, rfl, hBi⟩ := hrel
        have HG := Lib.hid hgl
        clear hgl
        have HB2 := Lib.hid (below_step hB.out hBi.out)
        obtain ⟨c0, c1, c2, c3, c4, c5, c6, c7, c8, c9, c10, c11, c12⟩ := HROW.out i li _ HB2.out
        by_cases hki : k < i
        · have lk : k < l.length := by omega
          obtain ⟨d0, d1, _⟩ := HROW.out k lk _ HB2.out
          have hsn := has_snoc lk (oSt l[i])
          obtain ⟨is, his⟩ : ∃ b, b = !hasO (l.take k) (oSt l[i]) := ⟨_, rfl⟩
          obtain ⟨a, ha⟩ : ∃ a, a = l[i] := ⟨_, rfl⟩
          obtain ⟨z, hz⟩ : ∃ z, z = l[k] := ⟨_, rfl⟩
          rw [← ha] at his hsn c0 c1 ⊢
          rw [← his] at hsn ⊢
          rw [← hz] at hsn d0 d1
          have HSN := Lib.hid hsn
          have hk0 : (0 : Int) ≤ (k : Int) := by omega
          have hk1 : (k : Int) < (n : Int) := by omega
          have hk2 : (k : Int) < (i : Int) := by omega
          have l0 := later_cell c0
          have l1 := later_cell c1
          have m0 := later_cell d0
          have m1 := later_cell d1
          have HA := Lib.hid ha
          clear ha hz hsn his c2 c3 c4 c5 c6 c7 c8 c9 c10 c11 c12 c0 c1 d0 d1
          obtain ⟨q, hq⟩ : ∃ q, q = decide (oSt z = oSt a) := ⟨_, rfl⟩
          have hv : ∀ W : World, (Op.equalIn 10000 24 (.agg #[.int .i64 z.st, .int .i64 z.sr]) (.agg #[.int .i64 a.st, .int .i64 a.sr])).run Tryz.prog W = .ok q W := fun W => by rw [run_eqSt, hq]; rfl
          have HS2 : Hid ((!hasO (l.take (k + 1)) (oSt a)) = (is && !q)) := Lib.hid (by rw [HSN.out, hq])
          clear hq HSN
          go_upto_region 9 with fail
          refine wp_region_later (by kernel_rfl) (by kernel_rfl) ?_
          cases is
          · repeat (go_big_quiet_step (fail))
            refine wpQuiet_nil ?_
            intro _ hw'
            obtain ⟨y, rfl⟩ := hw'
            have HBJ := Lib.hid (below_step hBi.out (later_below wr y))
            go_wp2_with fail
            go_roundg (gk - 1)
            case measure => have := HG.out; omega
            case rel => exact ⟨k + 1, by go_num, by have := HG.out; omega, by omega, by rw [← HA.out, HS2.out]; rfl, HBJ⟩
          · cases q
            all_goals
              repeat (go_big_quiet_step (fail))
              refine wpQuiet_nil ?_
              intro _ hw'
              obtain ⟨y, rfl⟩ := hw'
              have HBJ := Lib.hid (below_step hBi.out (later_below wr y))
              go_wp2_with fail
              go_roundg (gk - 1)
              case measure => have := HG.out; omega
              case rel => exact ⟨k + 1, by go_num, by have := HG.out; omega, by omega, by rw [← HA.out, HS2.out]; rfl, HBJ⟩
        · have hki' : k = i := by omega
          have hki2 : ¬ (k : Int) < (i : Int) := by omega
          rw [hki']
          have hbt := hBi.out
          have hownc : wr.ownsRow w.heap.size 26 13 _ d.length (flat (d.map opA)) := HOWN.out.kept (row := none) ⟨hbt.os, hbt.tape, hbt.output, hbt.size, fun q hq _ => hbt.block q hq⟩ (Classical.em _)
          cases hh : hasO (l.take i) (oSt l[i]) with
          | true =>
            have hS := HS.out
            rw [if_pos hh] at hS
            have HS2 := Lib.hid hS
            clear hh hki c0 c1 c2 c3 c4 c5 c6 c7 c8 c9 c10 c11 c12 hbt
            go_wp2_with fail
            go_roundg (gp - 1)
            case measure => omega
            case rel => exact ⟨i + 1, by go_num, by omega, by omega, by rw [HS2.out]; exact hownc, HB2⟩
          | false =>
            have hS := HS.out
            rw [if_neg (by rw [hh]; simp)] at hS
            have HS2 := Lib.hid hS
            obtain ⟨a, ha⟩ : ∃ a, a = l[i] := ⟨_, rfl⟩
            rw [← ha] at HS2 c0 c1 c2 c3 c4 c5 c6 c7 c8 c9 c10 c11 c12
            have HA := Lib.hid ha
            clear ha
            have hlow := HB2.out.size
            have hm : d.length + 1 ≤ maxLen := by unfold maxLen; omega
            clear hh hki hbt hS
            go_wp2_with (at_builtin; refine wpList_append_own _ rfl (.tmp 33) (.tmp 38) 22 rfl w.heap.size 26 i0 _ 13 128 Tryz.underlying22 hi0 hz0 hz1 hz2 rfl (by decide) _ _ _ rfl (hownc.alloc _) ⟨wr.heap.size, 0, none⟩ 1 1 (opA a).toList rfl rfl (row_there wr _ _) (op_cells1 a) hm (by omega) (by simp; omega) ?_; intro v2 w3 hown3 hg3 _)
            have hb3 : Below w.heap.size w w3 := (HB2.out.alloc HB2.out.size _).grown hg3 (by simp; omega) (fun q hq => (hownc.lt q hq).1)
            rw [flat_op] at hown3
            go_roundg (gp - 1)
            case measure => omega
            case rel => exact ⟨i + 1, by go_num, by omega, by omega, by rw [HS2.out, List.length_append]; exact hown3, hb3⟩
    · have hin : i = n := by omega
      have hc : ¬ (i : Int) < (n : Int) := by omega
      rw [List.take_of_length_le (by omega)] at hown
      obtain ⟨B, cB, rfl, q1, q2, q3⟩ := ops_own rfl hown
      go_wp2_with fail
      go_ret
      exact ⟨B, cB, rfl, q1, q2, q3.1, q3.2, hB.out⟩

end Go.Proofs.YtdobeghbkonimaaGreatDoor

/-
  The walk of the document's own May (stamps).
-/
namespace Go.Proofs.YtdobeghbkonimaaGreatDoor
open Go.RowKit StampMath

set_option maxHeartbeats 400000 in
theorem refMay (t r : Int) (w : World) :
    Calls Tryz.prog 73 #[.agg #[.int .i64 t, .int .i64 r]] w fun e w' => e = .returned (.bool (mayB t r)) ∧ Below w.heap.size w w' := by
  have hcase : ((t == 0) = true ∧ mayB t r = (r == 0)) ∨ ((t == 0) = false ∧ decide (1 ≤ t) = false ∧ mayB t r = false) ∨ ((t == 0) = false ∧ 1 ≤ t ∧ decide (t ≤ 1073741824) = false ∧ mayB t r = false) ∨
      ((t == 0) = false ∧ 1 ≤ t ∧ t ≤ 1073741824 ∧ decide (0 ≤ r) = false ∧ mayB t r = false) ∨ ((t == 0) = false ∧ 1 ≤ t ∧ t ≤ 1073741824 ∧ 0 ≤ r ∧ mayB t r = decide (r ≤ 7)) := by
    unfold mayB
    by_cases h0 : t = 0
    · exact Or.inl ⟨by simp [h0], by rw [if_pos h0]⟩
    · rw [if_neg h0]
      by_cases h1 : 1 ≤ t
      · by_cases h2 : t ≤ 1073741824
        · by_cases h3 : 0 ≤ r
          · exact Or.inr (Or.inr (Or.inr (Or.inr ⟨by simp [h0], h1, h2, h3, by simp [h1, h2, h3]⟩)))
          · exact Or.inr (Or.inr (Or.inr (Or.inl ⟨by simp [h0], h1, h2, by simp; omega, by simp [h3]⟩)))
        · exact Or.inr (Or.inr (Or.inl ⟨by simp [h0], h1, by simp; omega, by simp [h2]⟩))
      · exact Or.inr (Or.inl ⟨by simp [h0], by simp; omega, by simp [h1]⟩)
  rcases hcase with ⟨h0, h⟩ | ⟨h0, h1, h⟩ | ⟨h0, h1, h2, h⟩ | ⟨h0, h1, h2, h3, h⟩ | ⟨h0, h1, h2, h3, h⟩
  all_goals
    have H := Lib.hid h
    clear h
    go_enter Tryz.func73, Tryz.ntmps73
    go_wp2_with fail
    go_ret
    exact ⟨by rw [H.out]; rfl, (Below.refl _ _).alloc (Nat.le_refl _) _⟩

end Go.Proofs.YtdobeghbkonimaaGreatDoor

/-
  The walk of the document's own Less.
-/
namespace Go.Proofs.YtdobeghbkonimaaGreatDoor
open Go.RowKit StampMath

set_option maxHeartbeats 400000 in
theorem refLess (t r t' r' : Int) (w : World) :
    Calls Tryz.prog 46 #[.agg #[.int .i64 t, .int .i64 r], .agg #[.int .i64 t', .int .i64 r']] w fun e w' => e = .returned (.bool (lessB t r t' r')) ∧ Below w.heap.size w w' := by
  have hcase : (t < t' ∧ lessB t r t' r' = true) ∨ (¬ t < t' ∧ (t == t') = true ∧ lessB t r t' r' = decide (r < r')) ∨ (¬ t < t' ∧ (t == t') = false ∧ lessB t r t' r' = false) := by
    by_cases h1 : t < t'
    · exact Or.inl ⟨h1, by simp [lessB, h1]⟩
    · by_cases h2 : t = t'
      · exact Or.inr (Or.inl ⟨h1, by simp [h2], by simp [lessB, h2]⟩)
      · exact Or.inr (Or.inr ⟨h1, by simp [h2], by simp [lessB, h1, h2]⟩)
  rcases hcase with ⟨h1, h⟩ | ⟨h1, h2, h⟩ | ⟨h1, h2, h⟩
  all_goals
    have H := Lib.hid h
    clear h
    go_enter Tryz.func46, Tryz.ntmps46
    go_wp2_with fail
    go_ret
    exact ⟨by rw [H.out]; rfl, ((Below.refl _ _).alloc (Nat.le_refl _) _).alloc (by simp) _⟩

end Go.Proofs.YtdobeghbkonimaaGreatDoor

/-
  The walks of the document's own Ops and Below: are two lists the same; how many aren't above a stamp?
-/
namespace Go.Proofs.YtdobeghbkonimaaGreatDoor
open Go.RowKit StampMath GraphMath OpMath PackMath

set_option maxRecDepth 100000 in
set_option maxHeartbeats 1600000 in
theorem refOps (A A' : Option Addr) (n c m d : Nat) (X Y : List Opn) (hn : n ≤ 1000) (hm : m ≤ 1000) (w : World) (h : OpsIn w w.heap.size A n X) (h' : OpsIn w w.heap.size A' m Y) :
    Calls Tryz.prog 20 #[.slice A n c, .slice A' m d] w fun e w' => e = .returned (.bool (decide (X = Y))) ∧ Below w.heap.size w w' := by
  have hl := h.len
  have hl' := h'.len
  have HX : Hid (OpsIn w w.heap.size A n X) := h
  have HY : Hid (OpsIn w w.heap.size A' m Y) := h'
  clear h h'
  by_cases hnm : n = m
  · subst hnm
    go_enter Tryz.func20, Tryz.ntmps20
    go_wp2_with fail
    go_loopg [5] (n + 1) (fun gk i wr => ∃ k : Nat, i = .int .i64 (k : Int) ∧ gk + k = n + 1 ∧ k ≤ n ∧ Hid (∀ j (h1 : j < X.length) (h2 : j < Y.length), j < k → X[j] = Y[j]) ∧ Below w.heap.size w wr)
    case atStart => exact ⟨0, rfl, by omega, by omega, fun _ _ _ hj => absurd hj (by omega), Below.refl _ _⟩
    case round =>
      obtain ⟨k, rfl, hgk, hk, hall, hB⟩ := hrel
      by_cases hlt : k < n
      · obtain ⟨gi, o, rfl, hg, hrow⟩ := HX.out.row (by omega)
        obtain ⟨gi', o', rfl, hg', hrow'⟩ := HY.out.row (by omega)
        obtain ⟨e0, e1, e2, e3, e4, e5, e6, e7, e8, e9, e10, e11, e12⟩ := (hrow k (by omega)).below hB hg
        obtain ⟨d0, d1, d2, d3, d4, d5, d6, d7, d8, d9, d10, d11, d12⟩ := (hrow' k (by omega)).below hB hg'
        have hr := run_eqO X[k] Y[k]
        unfold opA at hr
        clear hrow hrow'
        by_cases hq : X[k] = Y[k]
        · rw [decide_eq_true hq] at hr
          have HA : Hid (∀ j (h1 : j < X.length) (h2 : j < Y.length), j < k + 1 → X[j] = Y[j]) := fun j h1 h2 hj => by
            by_cases e : j = k
            · subst e; exact hq
            · exact hall.out j h1 h2 (by omega)
          clear hq hall
          go_wp2_with fail
          go_quiet (fail)
          go_wp2_with fail
          go_roundg (gk - 1)
          case measure => omega
          case rel => exact ⟨k + 1, by go_num, by omega, by omega, HA.out, below_drewN' hB _⟩
        · rw [decide_eq_false hq] at hr
          have HA : Hid (decide (X = Y) = false) := same_no (by omega) (by omega) hq
          clear hq hall
          go_wp2_with fail
          go_quiet (fail)
          go_wp2_with fail
          go_ret
          exact ⟨by rw [HA.out]; rfl, below_drewN' hB _⟩
      · have HA : Hid (decide (X = Y) = true) := same_yes (by omega) fun j h1 h2 => hall.out j h1 h2 (by omega)
        go_wp2_with fail
        go_ret
        exact ⟨by rw [HA.out]; rfl, hB⟩
  · have HA : Hid (decide (X = Y) = false) := same_no_len (by omega)
    have hnm' : ¬ (n : Int) = (m : Int) := by omega
    go_enter Tryz.func20, Tryz.ntmps20
    go_wp2_with fail
    go_ret
    exact ⟨by rw [HA.out]; rfl, Below.refl _ _⟩


theorem less_at (a b : St) (W : World) : Calls Tryz.prog 46 #[.agg #[.int .i64 a.1, .int .i64 a.2], .agg #[.int .i64 b.1, .int .i64 b.2]] W fun e w' => e = .returned (.bool (lessS a b)) ∧ Below W.heap.size W w' := refLess a.1 a.2 b.1 b.2 W

set_option maxRecDepth 100000 in
set_option maxHeartbeats 1600000 in
theorem refBelow (A : Option Addr) (n c : Nat) (x : List Opn) (s : St) (hn : n ≤ 1000) (w : World) (h : OpsIn w w.heap.size A n x) :
    Calls Tryz.prog 22 #[.slice A n c, .agg (stA s)] w fun e w' => e = .returned (.int .i64 (belowO x s : Int)) ∧ Below w.heap.size w w' := by
  have hl := h.len
  have HX := Lib.hid h
  obtain ⟨v, hv⟩ : ∃ v, v = belowO x s := ⟨_, rfl⟩
  have HV := Lib.hid hv
  rw [← hv]
  have hH0 : Held w [(w.heap.size, .cells (stA s) 24)] (w.alloc (.cells (stA s) 24)) := (Held.refl w).alloc _ rfl
  clear h hv
  unfold stA at hH0 ⊢
  go_enter Tryz.func22, Tryz.ntmps22
  go_wp2_with fail
  go_loopg [5] (n + 1) (fun gk i wr => ∃ k : Nat, i = .int .i64 (k : Int) ∧ gk + k = n + 1 ∧ k ≤ n ∧ Hid (∀ j (h1 : j < x.length), j < k → (!lessS s (oSt x[j])) = true) ∧ Hid (Held w [(w.heap.size, .cells #[.int .i64 s.1, .int .i64 s.2] 24)] wr))
  case atStart => exact ⟨0, rfl, by omega, by omega, fun _ _ hj => absurd hj (by omega), hH0⟩
  case round =>
    obtain ⟨k, rfl, hgk, hk, hall, hH⟩ := hrel
    have HG := Lib.hid hgk
    clear hgk hH0
    obtain ⟨c0, c1⟩ := two_cells (g := w.heap.size) (hH.out.at 0 rfl)
    have l0 := later_cell c0
    have l1 := later_cell c1
    by_cases hlt : k < n
    · obtain ⟨gi, o, rfl, hg, hrow⟩ := HX.out.row (by omega)
      have lk : k < x.length := by omega
      obtain ⟨e0, e1, _⟩ := (hrow k lk).below hH.out.below hg
      have k0 := later_cell e0
      have k1 := later_cell e1
      obtain ⟨a, ha⟩ : ∃ a, x[k] = a := ⟨_, rfl⟩
      rw [ha] at k0 k1
      obtain ⟨b, hb⟩ : ∃ b, b = lessS s (oSt a) := ⟨_, rfl⟩
      have HL : Hid (∀ y, Calls Tryz.prog 46 #[.agg #[.int .i64 s.1, .int .i64 s.2], .agg #[.int .i64 a.st, .int .i64 a.sr]] (later wr y) fun e w' => e = .returned (.bool b) ∧ ∃ z, w' = later wr z) := Lib.hid fun y => later_call (by rw [hb]; exact less_at s (oSt a) _)
      have HB := Lib.hid hb
      have HA := Lib.hid ha
      have hi0 : (0 : Int) ≤ (k : Int) := by omega
      have hi1 : (k : Int) < (n : Int) := by omega
      clear hrow e0 e1 c0 c1 hb ha hlt
      cases b with
      | false =>
        have HL2 := HL
        go_upto_region 2 with fail
        refine wp_region_later (by kernel_rfl) (by kernel_rfl) ?_
        repeat (go_big_quiet_step (first | (with_reducible exact HL.out _)))
        refine wpQuiet_nil ?_
        intro _ hw'
        obtain ⟨y, rfl⟩ := hw'
        have H2 := Lib.hid (hH.out.step (later_below wr y))
        clear l0 l1 k0 k1 HL HL2 hH
        go_wp2_with fail
        go_roundg (gk - 1)
        case measure => have := HG.out; omega
        case rel =>
          refine ⟨k + 1, by go_num, by have := HG.out; omega, by omega, fun j h1 hj => ?_, H2⟩
          by_cases q : j = k
          · subst q; rw [HA.out, ← HB.out]; rfl
          · exact hall.out j h1 (by omega)
      | true =>
        have HE : Hid (v = k) := Lib.hid (by
          rw [HV.out]
          refine while_is (by omega) hall.out fun h1 => ?_
          rw [HA.out, ← HB.out]; rfl)
        go_upto_region 2 with fail
        refine wp_region_later (by kernel_rfl) (by kernel_rfl) ?_
        repeat (go_big_quiet_step (first | (with_reducible exact HL.out _)))
        refine wpQuiet_nil ?_
        intro _ hw'
        obtain ⟨y, rfl⟩ := hw'
        have H2 := Lib.hid (hH.out.step (later_below wr y))
        clear l0 l1 k0 k1 HL hH
        go_wp2_with fail
        go_ret
        exact ⟨by rw [HE.out]; rfl, H2.out.below⟩
    · have hkn : k = n := by omega
      have HE : Hid (v = k) := Lib.hid (by
        rw [HV.out]
        exact while_is (by omega) hall.out fun h1 => by omega)
      have hi1 : ¬ (k : Int) < (n : Int) := by omega
      clear c0 c1 hlt hkn
      go_upto_region 2 with fail
      refine wp_region_later (by kernel_rfl) (by kernel_rfl) ?_
      repeat (go_big_quiet_step (fail))
      refine wpQuiet_nil ?_
      intro _ hw'
      obtain ⟨y, rfl⟩ := hw'
      have H2 := Lib.hid (hH.out.step (later_below wr y))
      clear l0 l1 hH
      go_wp2_with fail
      go_ret
      exact ⟨by rw [HE.out]; rfl, H2.out.below⟩

end Go.Proofs.YtdobeghbkonimaaGreatDoor

/-
  Arguments of layer 13's statements, opened: besides those of layer 11, a slice of bytes.
-/
namespace Go.Proofs.YtdobeghbkonimaaGreatDoor
open Go.ChangeShapes Go.WideShapes Go.RowKit StampMath GraphMath OpMath PackMath

variable {H : Type} {enc : TypeId × Value → H}

/-- The slice reads as bytes, and lies below block B. -/
def U8sIn (W : World) (B : Nat) (A : Option Addr) (n : Nat) (l : List Int) : Prop := TabIn 1 W B A n (l.map fun x => #[.int .u8 x])

set_option maxRecDepth 100000 in
theorem open_u8s {w : World} {v : Value} {d : DataW H} {p : List MemPlace} {r : Reach} {b0 : Nat} (hv : Value.okWide Tryz.prog w r b0 49 v) (h : DataW.Trod enc Tryz.prog w 0 (fun _ => true) true 49 v d p) :
    ∃ (A : Option Addr) (n c : Nat) (l : List Int), v = .slice A n c ∧ n ≤ c ∧ c ≤ maxLen ∧ (∀ x ∈ l, (Lit.int .u8 x).wf = true) ∧ U8sIn w w.heap.size A n l := by
  obtain ⟨A, n, c, l, h1, h2, h3, h4, h5, _⟩ := open_tab (fun x : Int => #[.int .u8 x]) (fun x => (Lit.int .u8 x).wf = true) 0 (k := 1) (by omega) (fun _ => rfl) Tryz.underlying49 (by kernel_rfl) (fun {n cs y} hl ht => by
    match cs, hl with
    | [c0], _ =>
      obtain ⟨a, e0, _, q⟩ := DataW.trod_int Tryz.underlying5 ht
      simp at e0
      subst e0
      exact ⟨a, rfl, q⟩) hv h
  exact ⟨A, n, c, l, h1, h2, h3, h4, h5⟩

end Go.Proofs.YtdobeghbkonimaaGreatDoor

/-
  Data and names of a graph that is fine are small.
-/
namespace Go.Proofs.YtdobeghbkonimaaGreatDoor
open Go.RowKit StampMath GraphMath OpMath PackMath

theorem ino_small {g : Gr} (h : g.fine) : ∀ x ∈ inodesG g, x.data.size ≤ maxLen := by
  intro x hx
  rw [h.ok.inodes] at hx
  obtain ⟨y, hy, rfl⟩ := List.mem_map.1 hx
  have hb := h.bound y hy
  have hk := h.ok.kinds y hy
  unfold boundOk1 at hb
  unfold maxLen
  dsimp only
  have h1 := hb.2.2.1
  have h2 := hb.2.2.2.1
  have h3 := hb.2.2.2.2
  rcases show y.kind = 1 ∨ y.kind = 2 ∨ y.kind = 3 by omega with q | q | q
  · have := h1 q; omega
  · have := h2 q; omega
  · have := h3 q; omega

theorem name_small {g : Gr} (h : g.fine) : ∀ e ∈ g.E, e.name.size ≤ maxLen := by
  intro e he
  have := h.names e he
  unfold nameB at this
  simp only [Bool.and_eq_true, decide_eq_true_iff] at this
  unfold maxLen
  omega

end Go.Proofs.YtdobeghbkonimaaGreatDoor

/-
  Whoever has the same operations, in whatever order, and however often, has the same graph, and that is fine: for all lists of operations (60 at most) and all turns.
-/
namespace Go.Proofs.YtdobeghbkonimaaGreatDoor.lawFoldConverges
open Go.RowKit Go.Shelf Go.Sort StampMath GraphMath OpMath PackMath

theorem u8_bounds {x : Int} (h : (Lit.int .u8 x).wf = true) : 0 ≤ x ∧ x ≤ 255 := by
  unfold Lit.wf at h
  rw [Bool.and_eq_true, decide_eq_true_iff, decide_eq_true_iff] at h
  have h1 : IntKind.u8.min = 0 := by decide
  have h2 : IntKind.u8.max = 255 := by decide
  rw [h1, h2] at h
  exact h

theorem row_op {w0 W : World} {gb : Nat} {d0 dk : Array Opn} (S : SWK opE 13 w0 gb 0 dk W) (R : RowK opE 13 w0 gb 0 d0) (hs : dk.size = d0.size) {i : Nat} (hi : i < dk.size) : OpAt W gb (i * 13) dk[i]! := by
  have h := S.holds R.hblk R.hH hs
  have e : ∀ (c : Nat) (hc : c < 13), W.cell? ⟨gb, i * 13 + c, none⟩ = some (opE dk[i]!)[c]! := fun c hc => by
    have := (h.cell hi hc).1
    rwa [Nat.zero_add] at this
  exact ⟨e 0 (by omega), e 1 (by omega), e 2 (by omega), e 3 (by omega), e 4 (by omega), e 5 (by omega), e 6 (by omega), e 7 (by omega), e 8 (by omega), e 9 (by omega), e 10 (by omega), e 11 (by omega), e 12 (by omega)⟩

theorem swk_there {w0 W : World} {gb : Nat} {d0 dk : Array Opn} (S : SWK opE 13 w0 gb 0 dk W) (R : RowK opE 13 w0 gb 0 d0) (hs : dk.size = d0.size) {i : Nat} (hi : i < dk.size) (o : Opn) : W.there gb (i * 13) (opA o).size := by
  intro j hj
  have hj' : j < 13 := hj
  have := (S.holds R.hblk R.hH hs).cell hi hj'
  rw [Nat.zero_add] at this
  exact ⟨by rw [this.1]; rfl, this.2⟩

theorem row_set {w0 W : World} {gb : Nat} {d0 dk : Array Opn} (S : SWK opE 13 w0 gb 0 dk W) (R : RowK opE 13 w0 gb 0 d0) {i : Nat} (hi : i < dk.size) (o : Opn) : SWK opE 13 w0 gb 0 (dk.setIfInBounds i o) (W.setCells gb (i * 13) (opA o).toList) := by
  have := swk_put S R.hblk (i * 13) (opE o) (by
    have := rowK_bnd dk 13 i hi
    rw [opE_len]; exact this) (setMany_one opE opE_len dk i hi o)
  rwa [Nat.zero_add] at this

theorem swp_two (d : Array Opn) (i j : Nat) {p q : Opn} (hp : p = d[i]!) (hq : q = d[j]!) : (d.setIfInBounds i q).setIfInBounds j p = swp d i j := by
  rw [hp, hq]
  unfold swp
  rfl

theorem swp_mem (d : Array Opn) {i j : Nat} (hi : i < d.size) (hj : j < d.size) (a : Opn) : a ∈ (swp d i j).toList ↔ a ∈ d.toList :=
  (perm_of (swp_permIn d 0 d.size i j (Nat.zero_le _) hi (Nat.zero_le _) hj (Nat.le_refl _))).mem_iff

set_option maxRecDepth 100000 in
set_option maxHeartbeats 12800000 in
theorem core {H : GraphHave} (P : FoldHave H) (Q : ApplyHave H) (A : Option Addr) (n c : Nat) (l : List Opn) (At : Option Addr) (nt ct : Nat) (tx : List Int) (hl : ∀ x ∈ l, OpFit x) (htx : ∀ x ∈ tx, (Lit.int .u8 x).wf = true) (w : World) (T : Tab w) (h : OpsIn w w.heap.size A n l) (ht : U8sIn w w.heap.size At nt tx) :
    Calls Tryz.prog 4 #[.slice A n c, .slice At nt ct] w fun e w' => e = .returned (.bool true) ∧ Below w.heap.size w w' := by
  obtain ⟨i0, hi0, hz0, hz1, hz2⟩ := info_parts op_infos
  have HX := Lib.hid h
  have HF := Lib.hid hl
  have HTX := Lib.hid ht
  have HTB := Lib.hid fun x hx => u8_bounds (htx x hx)
  have htl : tx.length = nt := by have := ht.1; rwa [List.length_map] at this
  have HTL := Lib.hid htl
  clear h hl ht htx htl
  go_enter Tryz.func4, Tryz.ntmps4
  go_wp2_with fail
  refine (FoldHave.shown P _ T).mono ?_
  rintro e w1 ⟨rfl, hb1⟩
  have B1 := Lib.hid hb1
  clear hb1
  go_wp2_with fail
  refine (fewF_any A n c _).mono ?_
  rintro e w2 ⟨rfl, hb2⟩
  have B2 := Lib.hid (below_step B1.out hb2)
  clear hb2 B1
  by_cases hn : n ≤ 60
  case neg =>
    have hd : decide (n ≤ 60) = false := decide_eq_false hn
    go_wp2_with fail
    go_ret
    exact ⟨rfl, B2.out⟩
  have hd : decide (n ≤ 60) = true := decide_eq_true hn
  have hll : l.length = n := HX.out.len
  have T2 := Lib.hid (tab_below T (Nat.le_refl _) B2.out)
  have hdl := dist_len l []
  have HD1 : Hid (∀ x ∈ distO [] l, ∀ y ∈ distO [] l, oSt x = oSt y → x = y) := Lib.hid dist_one
  have HDF : Hid (∀ x ∈ distO [] l, OpFit x) := Lib.hid fun x hx => HF.out x (dist_sub l [] x hx)
  have D := Lib.hid (distinctF A n c l (by omega) w2 ((HX.out.below B2.out).more B2.out.size))
  unfold OpsPost at D
  generalize distO [] l = d at D HD1 HDF hdl
  go_wp2_with fail
  refine D.out.mono ?_
  rintro e w3 ⟨X, cx, rfl, hx, hxc, hcm, hx0, hb3⟩
  have HX3 := Lib.hid hx
  have HXC := Lib.hid (And.intro hxc (And.intro hcm hx0))
  have B3 := Lib.hid (below_step B2.out hb3)
  have T3 := Lib.hid (tab_below T2.out (Nat.le_refl _) hb3)
  have hm60 : d.length ≤ 60 := by omega
  clear hxc hcm hb3 D hd B2 T2
  have hT := hx.below ((Below.refl w3.heap.size w3).alloc (Nat.le_refl _) (.cells #[] 26))
  have hk1 : 0 + d.length ≤ maxLen := by unfold maxLen; omega
  clear hx
  go_upto_region 6 with (at_builtin; refine wpList_append_tab rfl (.tmp 21) (.tmp 22) 22 rfl w3.heap.size 26 i0 _ 13 128 Tryz.underlying22 hi0 hz0 hz1 hz2 rfl (by decide) _ 0 [] rfl (own_empty w3 w3.heap.size _ _ (Nat.le_refl _)) X d.length cx w3.heap.size (d.map opA) rfl hT hx0 (op_rows _).1 (op_rows _).2 hk1 (by omega) (by simp) ?_; intro v4 w4 hown4 hg4)
  rw [List.nil_append, Nat.zero_add] at hown4
  have hb4 : Below w3.heap.size w3 w4 := ((Below.refl w3.heap.size w3).alloc (Nat.le_refl _) (.cells #[] 26)).grown hg4 (by simp) (fun q hq => ((own_empty w3 w3.heap.size 26 13 (Nat.le_refl _)).lt q hq).1)
  obtain ⟨B, cB, rfl, -⟩ := ops_own rfl hown4
  have HO4 := Lib.hid hown4
  have HB4 := Lib.hid hb4
  obtain ⟨m, hm⟩ : ∃ m, m = d.length := ⟨_, rfl⟩
  rw [← hm] at hm60 HO4 HX3 HXC ⊢
  have HM := Lib.hid hm
  clear hown4 hg4 hb4 hT hk1 hx0 hm hdl
  go_upto_block 0 with fail
  go_cut [8, 9, 10, 11] from 24 to 68 (fun _ _ _ _ wx => ∃ bl : List Opn, Hid (wx.ownsRow w3.heap.size 26 13 (.slice B m cB) m (flat (bl.map opA))) ∧ Hid (bl.length = m ∧ ∀ x, x ∈ bl ↔ x ∈ d) ∧ Hid (Below w3.heap.size w3 wx))
  case first =>
    go_wp2_with fail
    go_loopg [8] 101 (fun gk i wr => ∃ (k : Nat) (bl : List Opn), i = .int .i64 (k : Int) ∧ gk + k = 101 ∧ k ≤ 100 ∧ k ≤ nt ∧ Hid (wr.ownsRow w3.heap.size 26 13 (.slice B m cB) m (flat (bl.map opA))) ∧ Hid (bl.length = m ∧ ∀ x, x ∈ bl ↔ x ∈ d) ∧ Hid (Below w3.heap.size w3 wr))
    case atStart => exact ⟨0, d, by go_num, by omega, by omega, by omega, HO4, ⟨HM.out.symm, fun _ => Iff.rfl⟩, HB4⟩
    case round =>
      clear HO4 HB4
      obtain ⟨k, bl, rfl, hgk, hk, hknt, HO, HL, HB⟩ := hrel
      have HG := Lib.hid hgk
      clear hgk
      by_cases hlt : (k < nt ∧ k < 100) ∧ 0 < m
      · obtain ⟨⟨g1, g2⟩, g3⟩ := hlt
        have hblk : bl.length = m := HL.out.1
        obtain ⟨hol, hoo⟩ := HO.out
        rcases hoo with ⟨_, h0⟩ | ⟨gb, cap, cur, hBv, hgb, hg, hc1, hc2, hcs, hct⟩
        · omega
        injection hBv with hB1 _ hB2
        subst hB1 hB2
        have R0 := row_of_own (xs := bl) hg (by rw [hblk]; exact hct)
        have HR := Lib.hid R0
        have HCF := Lib.hid (And.intro hgb (And.intro hg (And.intro hc1 (And.intro hc2 hcs))))
        have hds : bl.toArray.size = m := by simpa using hblk
        have S0 := Lib.hid (SWK.start R0.hH)
        obtain ⟨gt, ot, rfl, hgt, hct'⟩ := HTX.out.2 (by omega)
        have lk : k < tx.length := by have := HTL.out; omega
        have ht0 : wr.cell? ⟨gt, ot + k, none⟩ = some (.int .u8 tx[k]) := by
          have := hct' k (by rw [List.length_map]; exact lk) 0 (.int .u8 tx[k]) (by simp)
          rw [Nat.mul_one, Nat.add_zero] at this
          exact ((below_step B3.out HB.out).cell (p := ⟨gt, ot + k, none⟩) hgt).trans this
        obtain ⟨tb1, tb2⟩ := HTB.out _ (List.getElem_mem lk)
        obtain ⟨t, htz⟩ : ∃ t : Nat, tx[k] = (t : Int) := ⟨tx[k].toNat, by omega⟩
        rw [htz] at ht0
        have ht255 : t ≤ 255 := by omega
        obtain ⟨x, hx⟩ : ∃ x : Nat, x = t % m := ⟨_, rfl⟩
        have hxm : x < m := by rw [hx]; exact Nat.mod_lt _ g3
        have hxz : (t : Int) % (m : Int) = (x : Int) := by rw [hx]; exact (Int.natCast_emod t m).symm
        obtain ⟨y, hy⟩ : ∃ y : Nat, y = (x + k + 1) % m := ⟨_, rfl⟩
        have hym : y < m := by rw [hy]; exact Nat.mod_lt _ g3
        have hyz : ((x : Int) + (k : Int) + 1) % (m : Int) = (y : Int) := by
          rw [hy, Int.natCast_emod]; rfl
        have k1 : (k : Int) < (nt : Int) := by omega
        have k2 : (k : Int) < 100 := by omega
        have k3 : (0 : Int) < (m : Int) := by omega
        have k4 : (0 : Int) ≤ (k : Int) := by omega
        have k5 : ¬ (m : Int) = 0 := by omega
        have k6 : (x : Int) < (m : Int) := by omega
        have k7 : (0 : Int) ≤ (x : Int) := by omega
        have k8 : (y : Int) < (m : Int) := by omega
        have k9 : (0 : Int) ≤ (y : Int) := by omega
        have X1 := row_op S0.out HR.out rfl (i := x) (by omega)
        obtain ⟨p, hp⟩ : ∃ p, p = bl.toArray[x]! := ⟨_, rfl⟩
        obtain ⟨q, hq⟩ : ∃ q, q = bl.toArray[y]! := ⟨_, rfl⟩
        rw [← hp] at X1
        have HPQ := Lib.hid (And.intro hp hq)
        have HDS := Lib.hid hds
        have HK := Lib.hid (And.intro g1 g2)
        obtain ⟨a0, a1, a2, a3, a4, a5, a6, a7, a8, a9, a10, a11, a12⟩ := X1
        clear hp hq hx hy hds hblk hol hgb hg hc1 hc2 hcs hct hct' htz tb1 tb2 hgt lk g1 g2
        obtain ⟨u, hu⟩ : ∃ u, u = wr.heap.size := ⟨_, rfl⟩
        have hHA : Held wr [(u, .cells (opA p) 26)] (wr.alloc (.cells (opA p) 26)) := (Held.refl wr).alloc _ hu.symm
        have SA : Hid (SWK opE 13 wr gb 0 bl.toArray (wr.alloc (.cells (opA p) 26))) := S0.out.alloc _
        go_upto_region 12 with fail
        simp only [hxz, hyz]
        rw [← hu]
        change Code.wp _ _ _ _ (wr.alloc (.cells (opA p) 26))
        generalize wr.alloc (.cells (opA p) 26) = wA at hHA SA ⊢
        have HA := Lib.hid hHA
        have hug : ¬ u = gb := by have := heap_lt HCF.out.2.1; omega
        have hds := HDS.out
        clear hHA a0 a1 a2 a3 a4 a5 a6 a7 a8 a9 a10 a11 a12 S0 ht0 k1 k2 hxz hyz
        have Y1 := row_op SA.out HR.out rfl (i := y) (by omega)
        rw [← HPQ.out.2] at Y1
        obtain ⟨a0, a1, a2, a3, a4, a5, a6, a7, a8, a9, a10, a11, a12⟩ := Y1
        have ht12 := Lib.hid (swk_there SA.out HR.out rfl (i := x) (by omega) q)
        have S12 := Lib.hid (row_set SA.out HR.out (i := x) (by omega) q)
        have HI : Hid ((Tryz.prog.info? 26).map (·.size) = some 13) := op_info
        clear hds
        go_upto_region 13 with (refine wpList_store_mid rfl 26 _ _ rfl gb (x * 13) (opA q) rfl rfl ht12.out HI.out (op_one q) ?_)
        have H12 : Hid ((wA.setCells gb (x * 13) (opA q).toList).heap[u]? = some (.cells (opA p) 26 (0, 0))) := (heap_setCells_old (opA q).toList (x * 13) hug).trans (HA.out.at 0 rfl)
        generalize wA.setCells gb (x * 13) (opA q).toList = wB at S12 H12 ⊢
        clear a0 a1 a2 a3 a4 a5 a6 a7 a8 a9 a10 a11 a12 ht12 SA HA hug hu
        obtain ⟨a0, a1, a2, a3, a4, a5, a6, a7, a8, a9, a10, a11, a12⟩ := op_cells H12.out
        have hds := HDS.out
        have hsz12 : (bl.toArray.setIfInBounds x q).size = bl.toArray.size := by simp
        have ht13 := Lib.hid (swk_there S12.out HR.out hsz12 (i := y) (by omega) p)
        have S13 := Lib.hid (row_set S12.out HR.out (i := y) (by omega) p)
        clear hds hsz12
        go_upto_region 8 with (refine wpList_store_mid rfl 26 _ _ rfl gb (y * 13) (opA p) rfl rfl ht13.out HI.out (op_one p) ?_)
        have hsw := swp_two bl.toArray x y HPQ.out.1 HPQ.out.2
        rw [hsw] at S13
        generalize wB.setCells gb (y * 13) (opA p).toList = wC at S13 ⊢
        have hds := HDS.out
        have hsl : (swp bl.toArray x y).toList.length = m := by rw [Array.length_toList, size_swp, hds]
        obtain ⟨q1, q2⟩ := own_of_row HCF.out.1 HCF.out.2.1 HCF.out.2.2.1 HCF.out.2.2.2.1 HCF.out.2.2.2.2 (by rw [size_swp, hds]; exact HCF.out.2.2.1) S13.out (List.take_of_length_le (Nat.le_of_eq hsl)) hsl
        have HOC := Lib.hid q1
        have HLC : Hid ((swp bl.toArray x y).toList.length = m ∧ ∀ a, a ∈ (swp bl.toArray x y).toList ↔ a ∈ d) := ⟨hsl, fun a => (swp_mem bl.toArray (by omega) (by omega) a).trans (by rw [show bl.toArray.toList = bl by simp]; exact HL.out.2 a)⟩
        have HBC := Lib.hid (HB.out.trans (q2.below (fun i hi => by have := HCF.out.1; omega) HB.out.size))
        clear hds hsl q1 q2 hsw S13 ht13 S12 H12 HI a0 a1 a2 a3 a4 a5 a6 a7 a8 a9 a10 a11 a12 k3 k4 k5 k6 k7 k8 k9
        go_wp2_with fail
        go_roundg (gk - 1)
        case measure => have := HG.out; omega
        case rel => exact ⟨k + 1, (swp bl.toArray x y).toList, by go_num, by have := HG.out; omega, by have := HK.out; omega, by have := HK.out; omega, HOC, HLC, HBC⟩
      · have h3 : ¬ (k : Int) < (nt : Int) ∨ ((k : Int) < (nt : Int) ∧ ¬ (k : Int) < 100) ∨ ((k : Int) < (nt : Int) ∧ (k : Int) < 100 ∧ ¬ (0 : Int) < (m : Int)) := by omega
        clear hlt
        rcases h3 with h3 | ⟨h1, h3⟩ | ⟨h1, h2, h3⟩
        all_goals
          go_wp2_with fail
          go_meet
          case rel => exact ⟨bl, HO, HL, HB⟩
  case rest =>
    obtain ⟨bl, HO, HL, HB⟩ := hcut
    generalize wc = w5 at HO HL HB ⊢
    clear HO4 HB4
    go_upto_region 14 with fail
    have HLM : Hid (m = d.length) := HM
    go_upto_block 2 with fail
    go_cut [7, 12] from 69 to 97 (fun s7 _ wx => ∃ (bl : List Opn) (q : Nat), Hid (wx.ownsRow w3.heap.size 26 13 s7 q (flat (bl.map opA))) ∧ Hid (bl.length = q ∧ q ≤ 80 ∧ ∀ x, x ∈ bl ↔ x ∈ d) ∧ Hid (Below w3.heap.size w3 wx))
    case first =>
      go_wp2_with fail
      go_loopg [7, 12] 21 (fun gk s7 i wr => ∃ (k : Nat) (bl : List Opn) (q : Nat), i = .int .i64 (k : Int) ∧ gk + k = 21 ∧ k ≤ 20 ∧ k ≤ nt ∧ Hid (wr.ownsRow w3.heap.size 26 13 s7 q (flat (bl.map opA))) ∧ Hid (bl.length = q ∧ q ≤ 60 + k ∧ ∀ x, x ∈ bl ↔ x ∈ d) ∧ Hid (Below w3.heap.size w3 wr))
      case atStart => exact ⟨0, bl, m, by go_num, by omega, by omega, by omega, HO, ⟨HL.out.1, by omega, HL.out.2⟩, HB⟩
      case round =>
        clear HO HL HB
        obtain ⟨k, bl, q, rfl, hgk, hk, hknt, HO, HL, HB⟩ := hrel
        have HG := Lib.hid hgk
        clear hgk
        by_cases hlt : (k < nt ∧ k < 20) ∧ 0 < m
        · obtain ⟨⟨g1, g2⟩, g3⟩ := hlt
          obtain ⟨gt, ot, rfl, hgt, hct'⟩ := HTX.out.2 (by omega)
          have lk : k < tx.length := by have := HTL.out; omega
          have ht0 : wr.cell? ⟨gt, ot + k, none⟩ = some (.int .u8 tx[k]) := by
            have := hct' k (by rw [List.length_map]; exact lk) 0 (.int .u8 tx[k]) (by simp)
            rw [Nat.mul_one, Nat.add_zero] at this
            exact ((below_step B3.out HB.out).cell (p := ⟨gt, ot + k, none⟩) hgt).trans this
          obtain ⟨tb1, tb2⟩ := HTB.out _ (List.getElem_mem lk)
          obtain ⟨t, htz⟩ : ∃ t : Nat, tx[k] = (t : Int) := ⟨tx[k].toNat, by omega⟩
          rw [htz] at ht0
          have ht255 : t ≤ 255 := by omega
          obtain ⟨x, hx⟩ : ∃ x : Nat, x = t % m := ⟨_, rfl⟩
          have hxm : x < m := by rw [hx]; exact Nat.mod_lt _ g3
          have hxz : (t : Int) % (m : Int) = (x : Int) := by rw [hx]; exact (Int.natCast_emod t m).symm
          obtain ⟨gi, o, hXv, hg, hrow⟩ := HX3.out.row (by omega)
          have hxd : x < d.length := by have := HM.out; omega
          have X1 := (hrow x hxd).below HB.out hg
          have HMEM : Hid (d[x] ∈ d) := List.getElem_mem hxd
          generalize d[x] = p at X1 HMEM
          subst hXv
          have k1 : (k : Int) < (nt : Int) := by omega
          have k2 : (k : Int) < 20 := by omega
          have k3 : (0 : Int) < (m : Int) := by omega
          have k4 : (0 : Int) ≤ (k : Int) := by omega
          have k5 : ¬ (m : Int) = 0 := by omega
          have k6 : (x : Int) < (m : Int) := by omega
          have k7 : (0 : Int) ≤ (x : Int) := by omega
          have HK := Lib.hid (And.intro g1 g2)
          obtain ⟨a0, a1, a2, a3, a4, a5, a6, a7, a8, a9, a10, a11, a12⟩ := X1
          have hm1 : q + 1 ≤ maxLen := by have := HL.out.2.1; unfold maxLen; omega
          have hm2 : (q + 1) * 128 ≤ 140737488355328 := by have := HL.out.2.1; omega
          have hm3 : w3.heap.size ≤ (wr.alloc (.cells (opA p) 26)).heap.size := (HB.out.alloc HB.out.size _).size
          have OW := Lib.hid (HO.out.alloc (.cells (opA p) 26))
          clear hx htz tb1 tb2 hgt lk g1 g2 hg hrow hxd hct'
          go_wp2_with (at_builtin; refine wpList_append_own _ (by rfl) (.tmp 84) (.tmp 96) 22 (by rfl) w3.heap.size 26 i0 _ 13 128 Tryz.underlying22 hi0 hz0 hz1 hz2 (by rfl) (by decide) _ _ _ (by rfl) OW.out ⟨wr.heap.size, 0, none⟩ 1 1 (opA p).toList (by rfl) (by rfl) (row_there wr _ _) (op_cells1 p) hm1 hm2 hm3 ?_; intro rv7 w7 hown7 hg7 _)
          rw [flat_op] at hown7
          have HOC := Lib.hid hown7
          have HLC : Hid ((bl ++ [p]).length = q + 1 ∧ q + 1 ≤ 60 + (k + 1) ∧ ∀ a, a ∈ bl ++ [p] ↔ a ∈ d) := by
            obtain ⟨l1, l2, l3⟩ := HL.out
            refine ⟨by simp [l1], by omega, fun a => ?_⟩
            rw [List.mem_append, List.mem_singleton, l3 a]
            exact ⟨fun h => h.elim id (fun h => h ▸ HMEM.out), Or.inl⟩
          have HBC := Lib.hid ((HB.out.alloc HB.out.size (.cells (opA p) 26)).grown hg7 hm3 (fun q hq => (OW.out.lt q hq).1))
          clear hown7 hg7 OW HO HL HB a0 a1 a2 a3 a4 a5 a6 a7 a8 a9 a10 a11 a12 hm1 hm2 hm3 k1 k2 k3 k4 k5 k6 k7 hxz ht0
          go_roundg (gk - 1)
          case measure => have := HG.out; omega
          case rel => exact ⟨k + 1, bl ++ [p], q + 1, by go_num, by have := HG.out; omega, by have := HK.out; omega, by have := HK.out; omega, HOC, HLC, HBC⟩
        · have h3 : ¬ (k : Int) < (nt : Int) ∨ ((k : Int) < (nt : Int) ∧ ¬ (k : Int) < 20) ∨ ((k : Int) < (nt : Int) ∧ (k : Int) < 20 ∧ ¬ (0 : Int) < (m : Int)) := by omega
          clear hlt
          rcases h3 with h3 | ⟨h1, h3⟩ | ⟨h1, h2, h3⟩
          all_goals
            go_wp2_with fail
            go_meet
            case rel => exact ⟨bl, q, HO, ⟨HL.out.1, by have := HL.out.2.1; omega, HL.out.2.2⟩, HB⟩
    case rest =>
      clear HO HL HB
      obtain ⟨bl, q, HO, HL, HB⟩ := hcut
      generalize wc = w6 at HO HB ⊢
      obtain ⟨Y, cY, rfl, hy, -⟩ := ops_own HL.out.1 HO.out
      have HY := Lib.hid hy
      have HBF : Hid (∀ x ∈ bl, OpFit x) := Lib.hid fun x hx => HDF.out x ((HL.out.2.2 x).1 hx)
      have HSE : Hid (sortO bl = sortO d) := sort_converges HD1.out HL.out.2.2
      have HQ : Hid (q ≤ 80) := HL.out.2.1
      have T6 := Lib.hid (tab_below T3.out (Nat.le_refl _) HB.out)
      have hmd := HM.out
      have HSL : Hid ((sortO d).length ≤ 1000) := by have := sort_len d; show _ ≤ _; omega
      have HX6 := Lib.hid ((HX3.out.below HB.out).more HB.out.size)
      have DA : Hid (∀ W, Below w6.heap.size w6 W → Calls Tryz.prog 16 #[.slice X m cx] W fun e w' => ∃ a, e = .returned (.pointer (some a)) ∧ FX H W w' (fun _ => False) a (runA (sortO d)) ∧ Below W.heap.size W w') := Lib.hid fun W hW =>
        FX.of P X m cx d W (tab_below T6.out (Nat.le_refl _) hW) (by omega) HDF.out ((HX6.out.below hW).more hW.size)
      have DB : Hid (∀ W, Below w6.heap.size w6 W → Calls Tryz.prog 16 #[.slice Y q cY] W fun e w' => ∃ a, e = .returned (.pointer (some a)) ∧ FX H W w' (fun _ => False) a (runA (sortO d)) ∧ Below W.heap.size W w') := Lib.hid fun W hW => by
        rw [← HSE.out]
        exact FX.of P Y q cY bl W (tab_below T6.out (Nat.le_refl _) hW) (by have := HQ.out; omega) HBF.out ((HY.out.below hW).more hW.size)
      have SA : Hid (∀ W, Below w6.heap.size w6 W → Calls Tryz.prog 12 #[.slice X m cx] W (OpsPost (sortO d) W)) := Lib.hid fun W hW =>
        have := tab_below T6.out (Nat.le_refl _) hW
        P.sort X m cx d W (by omega) HDF.out ((HX6.out.below hW).more hW.size)
      have SB : Hid (∀ W, Below w6.heap.size w6 W → Calls Tryz.prog 12 #[.slice Y q cY] W (OpsPost (sortO d) W)) := Lib.hid fun W hW => by
        rw [← HSE.out]
        have := tab_below T6.out (Nat.le_refl _) hW
        exact P.sort Y q cY bl W (by have := HQ.out; omega) HBF.out ((HY.out.below hW).more hW.size)
      have B6 := Lib.hid (below_step B3.out HB.out)
      unfold OpsPost at SA SB
      generalize sortO d = s at DA DB SA SB HSL
      clear HSE HBF HO HY hy HL HB HX6 HM hmd HX3 HTX HTB HTL HX HF HXC
      obtain ⟨φ, hφ⟩ : ∃ φ, φ = runA s := ⟨_, rfl⟩
      rw [← hφ] at DA DB
      clear hφ
      have D7 := Lib.hid (DA.out _ (Below.refl _ _))
      clear DA
      go_wp2_with fail
      refine D7.out.mono ?_
      rintro e w7 ⟨g, rfl, x7, hb7⟩
      have X7 := Lib.hid x7
      have B7 := Lib.hid hb7
      clear x7 hb7 D7
      go_wp2_with fail
      refine (DB.out _ B7.out).mono ?_
      rintro e w8 ⟨g8, rfl, x8, hb8⟩
      have y8 := X7.out.step hb8
      obtain ⟨U1, u1, _⟩ := y8.gx.at'
      obtain ⟨U2, u2, _⟩ := x8.gx.at'
      have D8 := Lib.hid (sameF_two H g g8 U1 U2 _ w8 u1 u2 y8.fine.ok)
      have B8 := Lib.hid (below_step B7.out hb8)
      have X8 := Lib.hid y8
      clear x8 y8 u1 u2 hb8 DB X7 B7
      go_wp2_with fail
      refine D8.out.mono ?_
      rintro e w9 ⟨rfl, hb9⟩
      have B9 := Lib.hid (below_step B8.out hb9)
      have X9 := X8.out.step hb9
      obtain ⟨S, r9, _⟩ := X9.gx.at'
      have CI := Lib.hid (told_inos H r9 X9.fine.ok (Below.refl _ _))
      have CE : Hid (∀ (W : World), Below w9.heap.size w9 W → Calls Tryz.prog 27 #[.pointer (some g)] W (EntsPost φ.E W)) := Lib.hid fun (W : World) (hW : Below w9.heap.size w9 W) => told_ents H r9 X9.fine.ok hW
      have CF : Hid (∀ (A : Option Addr) (c : Nat) (A' : Option Addr) (d : Nat) (W : World), InosIn W W.heap.size A (inodesG φ).length (inodesG φ) → EntsIn W W.heap.size A' φ.E.length φ.E → Calls Tryz.prog 30 #[.slice A (inodesG φ).length c, .slice A' φ.E.length d] W fun e w' => e = .returned (.bool true) ∧ Below W.heap.size W w') := fun A c A' d W h1 h2 => by
        refine (Q.fine A (inodesG φ).length c (inodesG φ) A' φ.E.length d φ.E W ⟨h1, h2, by unfold inodesG; rw [List.length_map]; exact Nat.le_trans X9.fine.ok.few (by decide), Nat.le_trans X9.fine.ok.entsFew (by decide), ino_small X9.fine, name_small X9.fine⟩).mono ?_
        rintro e w' ⟨b, rfl, hb, hB⟩
        obtain rfl : b = true := hb.2 X9.fine.audit
        exact ⟨rfl, hB⟩
      clear X9 r9 X8 D8 hb9 B8
      generalize inodesG φ = J at CI CF
      unfold InosPost at CI
      unfold EntsPost at CE
      go_wp2_with fail
      refine CI.out.mono ?_
      rintro e w10 ⟨J1, k1, rfl, q1, _, _, _, hb10⟩
      go_wp2_with fail
      refine (CE.out _ hb10).mono ?_
      rintro e w11 ⟨J2, k2, rfl, q2, _, _, _, hb11⟩
      go_wp2_with fail
      refine (CF.out _ _ _ _ _ (inos_later q1 hb11) q2).mono ?_
      rintro e w12 ⟨rfl, hb12⟩
      have B12 := Lib.hid (below_step B9.out (below_step (below_step hb10 hb11) hb12))
      clear CI CE CF q1 q2 hb10 hb11 hb12 B9
      go_wp2_with fail
      refine (SA.out _ B12.out).mono ?_
      rintro e w13 ⟨Z, cz, rfl, hz, _, _, _, hb13⟩
      have B13 := Lib.hid (below_step B12.out hb13)
      have HZ := Lib.hid hz
      clear hz hb13 SA
      go_wp2_with fail
      refine (SB.out _ B13.out).mono ?_
      rintro e w14 ⟨Z2, cz2, rfl, hz2, _, _, _, hb14⟩
      have D14 := Lib.hid (refOps Z Z2 s.length cz s.length cz2 s s HSL.out HSL.out w14 ((HZ.out.below hb14).more hb14.size) hz2)
      rw [decide_eq_true rfl] at D14
      have B14 := Lib.hid (below_step B13.out hb14)
      clear hz2 hb14 SB HZ B13
      go_wp2_with fail
      refine D14.out.mono ?_
      rintro e w15 ⟨rfl, hb15⟩
      go_wp2_with fail
      go_ret
      exact ⟨rfl, below_step B6.out (below_step B14.out hb15)⟩

theorem walk0 {H : GraphHave} (P : FoldHave H) (Q : ApplyHave H) (a0A : Option Addr) (a0n : Nat) (a0c : Nat) (a0x : List Opn) (a1A : Option Addr) (a1n : Nat) (a1c : Nat) (a1x : List Int) (w : World) [T : Tab w] (_ : a0n ≤ a0c) (_ : a0c ≤ maxLen) (w0x : ∀ x ∈ a0x, OpFit x) (w0d : OpsIn w w.heap.size a0A a0n a0x) (_ : a1n ≤ a1c) (_ : a1c ≤ maxLen) (w1x : ∀ x ∈ a1x, (Lit.int .u8 x).wf = true) (w1d : U8sIn w w.heap.size a1A a1n a1x) :
    Calls Tryz.prog 4 #[.slice a0A a0n a0c, .slice a1A a1n a1c] w fun e w' => e = .returned (.bool true) ∧ Below w.heap.size w w' :=
  core P Q a0A a0n a0c a0x a1A a1n a1c a1x w0x w1x w T w0d w1d

end Go.Proofs.YtdobeghbkonimaaGreatDoor.lawFoldConverges
