/-
  The walk of layer 12's within: is each entry of a list in one of two others?
-/
import Derived.Test.YthcmgaibbpacfaaGreatDoorUndoRefInZ
import Derived.Test.YthcmgaibbpacfaaGreatDoorZ01
import Derived.Test.YthcmgaibbpacfaaGreatDoorZ00
import Derived.Deep.Cut
import Derived.Deep.DeepCutAuto
namespace Go.Proofs.YthcmgaibbpacfaaGreatDoor
open Go.RowKit StampMath GraphMath

theorem ent_rows (Y : List Ent) : (∀ r ∈ Y.map entA, r.size = 5) ∧ ∀ r ∈ Y.map entA, ∀ u ∈ r.toList, u.oneCell' = true :=
  ⟨fun r hr => by obtain ⟨e, _, rfl⟩ := List.mem_map.1 hr; rfl, fun r hr => by obtain ⟨e, _, rfl⟩ := List.mem_map.1 hr; exact ent_one e⟩

set_option maxRecDepth 100000 in
set_option maxHeartbeats 3200000 in
theorem within_any (A1 A2 A3 : Option Addr) (n1 c1 n2 c2 n3 c3 : Nat) (X Y Z : List Ent) (h1 : n1 ≤ 1000) (h2 : n2 ≤ 1000) (h3 : n3 ≤ 1000) (hA2 : A2 = none → c2 = 0) (hA3 : A3 = none → c3 = 0) (hall : ∀ e ∈ X, e ∈ Y ∨ e ∈ Z) (w : World) (hX : EntsIn w w.heap.size A1 n1 X) (hY : EntsIn w w.heap.size A2 n2 Y) (hZ : EntsIn w w.heap.size A3 n3 Z) :
    Calls Tryz.prog 24 #[.slice A1 n1 c1, .slice A2 n2 c2, .slice A3 n3 c3] w fun e w' => e = .returned (.bool true) ∧ Below w.heap.size w w' := by
  obtain ⟨i0, hi0, hz0, hz1, hz2⟩ := info_parts ent_infos
  have l1 := hX.len
  have l2 := hY.len
  have l3 := hZ.len
  have hb0 : Below w.heap.size w (w.alloc (.cells #[] 66)) := (Below.refl _ _).alloc (Nat.le_refl _) _
  have HX := Lib.hid hX
  have HY : Hid (TabIn 5 (w.alloc (.cells #[] 66)) w.heap.size A2 n2 (Y.map entA)) := Lib.hid (hY.below hb0)
  have HZ := Lib.hid hZ
  have HO := Lib.hid (own_empty w w.heap.size 66 5 (Nat.le_refl _))
  have HB0 := Lib.hid hb0
  have HAL := Lib.hid hall
  have hm1 : 0 + n2 ≤ maxLen := by unfold maxLen; omega
  have hm2 : 0 + n2 + n3 ≤ maxLen := by unfold maxLen; omega
  clear hX hY hZ hb0 hall
  go_enter Tryz.func24, Tryz.ntmps24
  go_upto_region 1 with fail
  go_wp2_with (at_builtin; first
    | (refine wpList_append_tab (by rfl) (.tmp 11) (.tmp 12) 31 (by rfl) w.heap.size 66 i0 _ 5 48 Tryz.underlying31 hi0 hz0 hz1 hz2 (by rfl) (by decide) _ 0 [] (by rfl) HO.out A2 n2 c2 w.heap.size (Y.map entA) (by rfl) HY.out hA2 (ent_rows Y).1 (ent_rows Y).2 hm1 (by omega) (by simp) ?_; intro v1 w1 hown1 hg1; have HB1 := Lib.hid (HB0.out.grown hg1 HB0.out.size fun q hq => by simp [Value.ownBlock] at hq; omega); have HZ1 : Hid (TabIn 5 w1 w.heap.size A3 n3 (Z.map entA)) := Lib.hid (HZ.out.below HB1.out); have HO1 := Lib.hid hown1; clear hown1 hg1)
    | (refine wpList_append_tab (by rfl) (.tmp 13) (.tmp 14) 31 (by rfl) w.heap.size 66 i0 _ 5 48 Tryz.underlying31 hi0 hz0 hz1 hz2 (by rfl) (by decide) _ (0 + n2) _ (by rfl) HO1.out A3 n3 c3 w.heap.size (Z.map entA) (by rfl) HZ1.out hA3 (ent_rows Z).1 (ent_rows Z).2 hm2 (by omega) HB1.out.size ?_; intro v2 w2 hown2 hg2; have HB2 := Lib.hid (HB1.out.grown hg2 HB1.out.size fun q hq => (HO1.out.lt q hq).1); have HO2 := Lib.hid hown2; clear hown2 hg2))
  have hO : w2.ownsRow w.heap.size 66 5 v2 (0 + n2 + n3) (flat ((Y ++ Z).map entA)) := by
    have := HO2.out
    rwa [List.nil_append, ← List.map_append] at this
  obtain ⟨G, cg, rfl, hG, _⟩ := ents_own (by rw [List.length_append]; omega) hO
  have HALL : Hid (∀ e ∈ X, e ∈ Y ++ Z) := Lib.hid fun e he => List.mem_append.2 (HAL.out e he)
  obtain ⟨K, hK⟩ : ∃ K, K = Y ++ Z := ⟨_, rfl⟩
  obtain ⟨nk, hnk⟩ : ∃ k, k = 0 + n2 + n3 := ⟨_, rfl⟩
  rw [← hK, ← hnk] at hG
  rw [← hK] at HALL
  rw [← hnk]
  have lk := hG.len
  have hk2 : nk ≤ 2000 := by omega
  have HG := Lib.hid hG
  have HX2 : Hid (EntsIn w2 w2.heap.size A1 n1 X) := Lib.hid ((HX.out.below HB2.out).more HB2.out.size)
  clear HX HY HZ HO HB0 HAL HB1 HZ1 HO1 HO2 hO hG hm1 hm2 l2 l3 h2 h3 hA2 hA3 hK hnk hi0 hz0 hz1 hz2
  go_loopg [8] (n1 + 1) (fun gk i wr => ∃ k : Nat, i = .int .i64 (k : Int) ∧ gk + k = n1 + 1 ∧ k ≤ n1 ∧ Hid (Below w2.heap.size w2 wr))
  case atStart => exact ⟨0, rfl, by omega, by omega, Lib.hid (Below.refl _ _)⟩
  case round =>
    obtain ⟨k, rfl, hgk, hk, hB⟩ := hrel
    by_cases hlt : k < n1
    · obtain ⟨gi, o, rfl, hg, hrow⟩ := HX2.out.row (by omega)
      have hrk := fun W hb => (hrow k (by omega)).below (B := w2.heap.size) (W' := W) hb hg
      have hin := HALL.out X[k] (List.getElem_mem (by omega))
      obtain ⟨x, hx⟩ : ∃ x, X[k] = x := ⟨_, rfl⟩
      rw [hx] at hrk hin
      have HR := Lib.hid hrk
      have HIN := Lib.hid hin
      obtain ⟨gj, hgj⟩ : ∃ gj, gj = gk := ⟨_, rfl⟩
      obtain ⟨wj, hwj⟩ : ∃ wj, wj = wr := ⟨_, rfl⟩
      subst hgj
      subst hwj
      have hi0 : (0 : Int) ≤ (k : Int) := Int.natCast_nonneg _
      have hi1 : (k : Int) < (n1 : Int) := by omega
      clear hrow hx hrk hin hg
      have hB0 := hB.out
      clear hB
      go_wp2_with fail
      go_loopg [9, 10] (nk + 1) (fun gk is i wr => ∃ j : Nat, is = .bool (decide (x ∈ K.take j)) ∧ i = .int .i64 (j : Int) ∧ gk + j = nk + 1 ∧ j ≤ nk ∧ Hid (Below w2.heap.size w2 wr))
      case atStart => exact ⟨0, by simp, rfl, by omega, by omega, Lib.hid hB0⟩
      case round =>
        obtain ⟨j, rfl, rfl, hgl, hj, hB⟩ := hrel
        clear hB0
        by_cases hlj : j < nk
        · obtain ⟨g2, o2, rfl, hg2, hrow⟩ := HG.out.row (by omega)
          have hrk2 := fun W hb => (hrow j (by omega)).below (B := w2.heap.size) (W' := W) hb hg2
          have lj : j < K.length := by omega
          obtain ⟨y, hy⟩ : ∃ y, K[j] = y := ⟨_, rfl⟩
          have hsn : (x ∈ K.take (j + 1)) = (x ∈ K.take j ∨ x = y) := by
            rw [List.take_succ_eq_append_getElem lj, List.mem_append, hy, List.mem_singleton]
          rw [hy] at hrk2
          obtain ⟨e0, e1, e2, e3, e4⟩ := hrk2 wr hB.out
          obtain ⟨f0, f1, f2, f3, f4⟩ := HR.out wr hB.out
          have hj0 : (0 : Int) ≤ (j : Int) := Int.natCast_nonneg _
          have hj1 : (j : Int) < (nk : Int) := by omega
          clear hrow hrk2 hy lj hg2
          by_cases hm : x ∈ K.take j
          · have HS : Hid (decide (x ∈ K.take (j + 1)) = true) := Lib.hid (decide_eq_true (by rw [hsn]; exact Or.inl hm))
            rw [decide_eq_true hm]
            clear hsn hm
            go_wp2_with fail
            go_quiet (fail)
            go_wp2_with fail
            go_roundg (gk - 1)
            case measure => omega
            case rel => exact ⟨j + 1, by rw [HS.out], by go_num, by omega, by omega, Lib.hid (below_drewN' hB.out _)⟩
          · have hv := run_eqEnt y x
            obtain ⟨q, hq⟩ : ∃ q, q = decide (y = x) := ⟨_, rfl⟩
            have HS : Hid (decide (x ∈ K.take (j + 1)) = q) := Lib.hid (by rw [hq, decide_eq_decide, hsn]; exact ⟨fun z => z.elim (fun z => absurd z hm) Eq.symm, fun z => Or.inr z.symm⟩)
            rw [← hq] at hv
            rw [decide_eq_false hm]
            clear hsn hm hq
            go_wp2_with fail
            go_quiet (fail)
            go_wp2_with fail
            go_roundg (gk - 1)
            case measure => omega
            case rel => exact ⟨j + 1, by rw [HS.out], by go_num, by omega, by omega, Lib.hid (below_drewN' hB.out _)⟩
        · have hm : x ∈ K.take j := by rw [List.take_of_length_le (by omega)]; exact HIN.out
          rw [decide_eq_true hm]
          clear hm
          go_wp2_with fail
          go_roundg (gj - 1)
          case measure => omega
          case rel => exact ⟨k + 1, by go_num, by omega, by omega, hB⟩
    · go_wp2_with fail
      go_ret
      exact ⟨rfl, below_step HB2.out hB.out⟩

end Go.Proofs.YthcmgaibbpacfaaGreatDoor
