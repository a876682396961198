/-
  The walk of the document's own Look (graphs).
-/
import Derived.Test.YthcmgaibbpacfaaGreatDoorGraphRefZ
namespace Go.Proofs.YthcmgaibbpacfaaGreatDoor
open Go.RowKit StampMath GraphMath

/-- Is it the entry nm of d? -/
def isAt (d : St) (nm : ByteArray) (e : Ent) : Bool := decide (e.dir = d) && decide (e.name = nm)

theorem names_same (a b : ByteArray) : (a.toList == b.toList) = decide (a = b) := by
  by_cases h : a = b
  · subst h; simp
  · rw [decide_eq_false h, beq_eq_false_iff_ne]; exact fun e => h (bytes_same e)

set_option maxRecDepth 100000 in
set_option maxHeartbeats 1600000 in
theorem refLook (v : Value) (A : Option Addr) (n c : Nat) (E : List Ent) (at' : St) (nm : ByteArray) (hn : n ≤ 1000) (w : World) (h : EntsIn w w.heap.size A n E) :
    Calls Tryz.prog 44 #[.agg #[v, .slice A n c], .agg (stA at'), .string nm] w fun e w' => e = .returned (.tuple #[.agg (stA ((lookE E at' nm).getD (0, 0))), .bool (lookE E at' nm).isSome]) ∧ Below w.heap.size w w' := by
  have hl := h.len
  have HI : Hid (EntsIn w w.heap.size A n E) := h
  clear h
  have hb0 : Held w [(w.heap.size + 1 + 1, .cells #[.int .i64 0, .int .i64 0] 24), (w.heap.size + 1, .cells (stA at') 24), (w.heap.size, .cells #[v, .slice A n c] 39)]
    (((w.alloc (.cells #[v, .slice A n c] 39)).alloc (.cells #[.int .i64 at'.1, .int .i64 at'.2] 24)).alloc (.cells #[.int .i64 0, .int .i64 0] 24)) :=
    (((Held.refl w).alloc (.cells #[v, .slice A n c] 39) rfl).alloc (.cells (stA at') 24) (by simp)).alloc (.cells #[.int .i64 0, .int .i64 0] 24) (by simp)
  unfold stA
  go_enter Tryz.func44, Tryz.ntmps44
  go_wp2_with fail
  go_loopg [8] (n + 1) (fun gk i wr => ∃ k : Nat, i = .int .i64 (k : Int) ∧ gk + k = n + 1 ∧ k ≤ n ∧ Hid ((E.take k).find? (isAt at' nm) = none) ∧ Held w [(w.heap.size + 1 + 1, .cells #[.int .i64 0, .int .i64 0] 24), (w.heap.size + 1, .cells (stA at') 24), (w.heap.size, .cells #[v, .slice A n c] 39)] wr)
  case atStart => exact ⟨0, rfl, by omega, by omega, rfl, hb0⟩
  case round =>
    obtain ⟨k, rfl, hgk, hk, hnone, hH⟩ := hrel
    clear hb0
    have hc1 := (two_cells (g := w.heap.size) (hH.at 2 rfl)).2
    obtain ⟨c3, c4⟩ := two_cells (g := w.heap.size + 1) (hH.at 1 rfl)
    obtain ⟨m0, m1⟩ := two_cells (g := w.heap.size + 1 + 1) (hH.at 0 rfl)
    obtain ⟨f0, f1⟩ := two_free (g := w.heap.size + 1 + 1) (hH.at 0 rfl)
    by_cases hlt : k < n
    · obtain ⟨gi, o, rfl, hg, hrow⟩ := HI.out.row (by omega)
      have hp := find_none_take (p := isAt at' nm) (k := k) (by omega) hnone.out
      have hrk := (hrow k (by omega)).below hH.below hg
      obtain ⟨⟨di, en, ei⟩, hx⟩ : ∃ x, E[k] = x := ⟨_, rfl⟩
      rw [hx] at hrk hp
      clear hrow hx hnone
      obtain ⟨e0, e1, e2, e3, e4⟩ := hrk
      have hs := names_same en nm
      by_cases hq : di = at'
      · have hv := eqSt_yes hq
        subst hq
        by_cases hq2 : en = nm
        · subst hq2
          rw [decide_eq_true rfl] at hs
          have HG : Hid (lookE E di en = some ei) := by
            rw [if_pos (by unfold isAt; simp)] at hp
            show (E.find? (isAt di en)).map _ = _
            rw [find_take hp]
            rfl
          clear hp
          go_wp2_with fail
          go_quiet (fail)
          go_wp2_with fail
          exact bodyPost_ret (v := .tuple #[.agg (stA ei), .bool true]) (by simp [results, Tryz.results44, go_sem, stA, m0, m1]) rfl ⟨by rw [HG.out]; rfl, ((below_drewN' hH.below _).setCell (by dsimp only; omega) _).setCell (by dsimp only; omega) _⟩
        · rw [decide_eq_false hq2] at hs
          have HP : Hid ((E.take (k + 1)).find? (isAt di nm) = none) := by
            rw [if_neg (by unfold isAt; simp [hq2])] at hp
            exact hp
          clear hp
          go_wp2_with fail
          go_quiet (fail)
          go_wp2_with fail
          go_roundg (gk - 1)
          case measure => omega
          case rel => exact ⟨k + 1, by go_num, by omega, by omega, HP.out, hH.drewN _⟩
      · have hv := eqSt_no hq
        have HP : Hid ((E.take (k + 1)).find? (isAt at' nm) = none) := by
          rw [if_neg (by unfold isAt; simp [hq])] at hp
          exact hp
        clear hp
        go_wp2_with fail
        go_quiet (fail)
        go_wp2_with fail
        go_roundg (gk - 1)
        case measure => omega
        case rel => exact ⟨k + 1, by go_num, by omega, by omega, HP.out, hH.drewN _⟩
    · have HG : Hid (lookE E at' nm = none) := by
        have h := hnone.out
        rw [List.take_of_length_le (by omega)] at h
        show (E.find? (isAt at' nm)).map _ = _
        rw [h]
        rfl
      go_wp2_with fail
      exact bodyPost_ret (v := .tuple #[.agg (stA (0, 0)), .bool false]) (by simp [results, Tryz.results44, go_sem, stA, m0, m1]) rfl ⟨by rw [HG.out]; rfl, ((hH.below).setCell (by dsimp only; omega) _).setCell (by dsimp only; omega) _⟩

end Go.Proofs.YthcmgaibbpacfaaGreatDoor
