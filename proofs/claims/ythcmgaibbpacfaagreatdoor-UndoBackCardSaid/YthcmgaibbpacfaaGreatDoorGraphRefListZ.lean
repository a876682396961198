/-
  The walks of the document's own List, Entries and Nodes (graphs).
-/
import Derived.Test.YthcmgaibbpacfaaGreatDoorGraphRefLookZ
import Derived.Test.YthcmgaibbpacfaaGreatDoorZ00
namespace Go.Proofs.YthcmgaibbpacfaaGreatDoor
open Go.RowKit StampMath GraphMath

theorem listE_snoc (E : List Ent) (k : Nat) (h : k < E.length) (d : St) : listE (E.take (k + 1)) d = if E[k].dir = d then listE (E.take k) d ++ [E[k]] else listE (E.take k) d := by
  unfold listE
  rw [List.take_succ_eq_append_getElem h, List.filter_append]
  by_cases e : E[k].dir = d
  · rw [if_pos e]; simp [e]
  · rw [if_neg e]; simp [e]

theorem listE_le (E : List Ent) (d : St) : (listE E d).length ≤ E.length := List.length_filter_le _ _

set_option maxRecDepth 100000 in
set_option maxHeartbeats 1600000 in
theorem refList (v : Value) (A : Option Addr) (n c : Nat) (E : List Ent) (id : St) (hn : n ≤ 1000) (w : World) (h : EntsIn w w.heap.size A n E) :
    Calls Tryz.prog 71 #[.agg #[v, .slice A n c], .agg (stA id)] w (EntsPost (listE E id) w) := by
  obtain ⟨i0, hi0, hz0, hz1, hz2⟩ := info_parts ent_infos
  have hl := h.len
  have HI : Hid (EntsIn w w.heap.size A n E) := h
  clear h
  have hb0 : Held w [(w.heap.size + 1, .cells (stA id) 24), (w.heap.size, .cells #[v, .slice A n c] 39)]
    ((w.alloc (.cells #[v, .slice A n c] 39)).alloc (.cells #[.int .i64 id.1, .int .i64 id.2] 24)) :=
    ((Held.refl w).alloc (.cells #[v, .slice A n c] 39) rfl).alloc (.cells (stA id) 24) (by simp)
  unfold stA
  go_enter Tryz.func71, Tryz.ntmps71
  go_wp2_with fail
  go_loopg [5, 6] (n + 1) (fun gk out i wr => ∃ k : Nat, i = .int .i64 (k : Int) ∧ gk + k = n + 1 ∧ k ≤ n ∧ wr.ownsRow (w.heap.size + 2) 66 5 out (listE (E.take k) id).length (flat ((listE (E.take k) id).map entA)) ∧ Held w [(w.heap.size + 1, .cells (stA id) 24), (w.heap.size, .cells #[v, .slice A n c] 39)] wr)
  case atStart => exact ⟨0, rfl, by omega, by omega, World.ownsRow_nil _ _ _ _, hb0⟩
  case round =>
    obtain ⟨k, rfl, hgk, hk, hown, hH⟩ := hrel
    clear hb0
    have hc1 := (two_cells (g := w.heap.size) (hH.at 1 rfl)).2
    obtain ⟨c3, c4⟩ := two_cells (g := w.heap.size + 1) (hH.at 0 rfl)
    by_cases hlt : k < n
    · obtain ⟨gi, o, rfl, hg, hrow⟩ := HI.out.row (by omega)
      have hsn := listE_snoc E k (by omega) id
      have hle : (listE (E.take k) id).length ≤ 1000 := by have := listE_le (E.take k) id; rw [List.length_take] at this; omega
      have hrk := fun W hb => (hrow k (by omega)).below (B := w.heap.size) (W' := W) hb hg
      obtain ⟨x, hx⟩ : ∃ x, E[k] = x := ⟨_, rfl⟩
      rw [hx] at hrk hsn
      clear hrow hx
      obtain ⟨e0, e1, e2, e3, e4⟩ := hrk wr hH.below
      have HR := Lib.hid hrk
      clear hrk
      by_cases hq : x.dir = id
      · have hv := eqSt_yes hq
        rw [if_pos hq] at hsn
        have HS := Lib.hid hsn
        clear hsn
        go_wp2_with fail
        go_quiet (fail)
        have hH2 := hH.drewN nq
        have hown2 : (wr.drewN nq).ownsRow (w.heap.size + 2) 66 5 u5 (listE (E.take k) id).length (flat ((listE (E.take k) id).map entA)) := hown
        generalize wr.drewN nq = w2 at hH2 hown2 ⊢
        clear hc1 c3 c4 e0 e1 e2 e3 e4 hH hown hv hq
        have hc1 := (two_cells (g := w.heap.size) (hH2.at 1 rfl)).2
        obtain ⟨e0, e1, e2, e3, e4⟩ := HR.out w2 hH2.below
        have hlow : w.heap.size + 1 < w2.heap.size := heap_lt (hH2.at 0 rfl)
        have hm : (listE (E.take k) id).length + 1 ≤ maxLen := by unfold maxLen; omega
        go_wp2_with (at_builtin; refine wpList_append_own _ rfl (.tmp 22) (.tmp 28) 31 rfl (w.heap.size + 2) 66 i0 _ 5 48 Tryz.underlying31 hi0 hz0 hz1 hz2 rfl (by decide) _ _ _ rfl (hown2.alloc _) ⟨w2.heap.size, 0, none⟩ 1 1 (entA x).toList rfl rfl (row_there w2 _ _) (ent_one x) hm (by omega) (by simp; omega) ?_; intro v2 w3 hown3 hg3 _)
        have hb3 : Held w [(w.heap.size + 1, .cells (stA id) 24), (w.heap.size, .cells #[v, .slice (some ⟨gi, o, none⟩) n c] 39)] w3 :=
          (hH2.step ((Below.refl _ _).alloc (Nat.le_refl _) _)).grown hg3 (fun q hq => (hown2.lt q hq).1) (by intro p hp; simp at hp; rcases hp with rfl | rfl <;> (dsimp only; omega))
        rw [flat_ent] at hown3
        go_roundg (gk - 1)
        case measure => omega
        case rel => exact ⟨k + 1, by go_num, by omega, by omega, by rw [HS.out, List.length_append]; exact hown3, hb3⟩
      · have hv := eqSt_no hq
        rw [if_neg hq] at hsn
        have HS := Lib.hid hsn
        clear hsn
        go_wp2_with fail
        go_quiet (fail)
        go_wp2_with fail
        go_roundg (gk - 1)
        case measure => omega
        case rel => exact ⟨k + 1, by go_num, by omega, by omega, by rw [HS.out]; exact hown, hH.drewN _⟩
    · obtain ⟨B, cc, rfl, q1, q2, q3⟩ := ents_own rfl hown
      rw [List.take_of_length_le (by omega)] at q1 q2
      go_wp2_with fail
      go_ret
      rw [List.take_of_length_le (show E.length ≤ k by omega)]
      exact ⟨B, cc, rfl, q1, q2, q3.1, q3.2, hH.below⟩

end Go.Proofs.YthcmgaibbpacfaaGreatDoor
