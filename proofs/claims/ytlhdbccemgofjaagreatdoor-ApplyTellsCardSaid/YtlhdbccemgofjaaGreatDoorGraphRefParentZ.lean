/-
  The walk of the document's own Parent (graphs).
-/
import Derived.Test.YtlhdbccemgofjaaGreatDoorGraphRefZ
namespace Go.Proofs.YtlhdbccemgofjaaGreatDoor
open Go.RowKit StampMath GraphMath

theorem parentG_eq (g : Gr) (d : St) : parentG g d = if (getG g d).isSome = true ∧ ((getG g d).getD noIno).kind = 1 then (g.E.find? fun e => decide (e.ino = d)).map fun e => e.dir else none := by
  unfold parentG
  cases h : getG g d with
  | none => rw [if_neg (by simp)]
  | some x =>
    by_cases hk : x.kind = 1
    · rw [if_pos ⟨rfl, hk⟩]; simp [hk]
    · rw [if_neg (fun q => hk q.2)]; simp [hk]

set_option maxRecDepth 100000 in
set_option maxHeartbeats 1600000 in
theorem refParent (A A' : Option Addr) (n c m d : Nat) (g : Gr) (id : St) (hn : n ≤ 1000) (hm : m ≤ 1000) (w : World) (h : InosIn w w.heap.size A n g.I) (h' : EntsIn w w.heap.size A' m g.E) :
    Calls Tryz.prog 158 #[.agg #[.slice A n c, .slice A' m d], .agg (stA id)] w fun e w' => e = .returned (.tuple #[.agg (stA ((parentG g id).getD (0, 0))), .bool (parentG g id).isSome]) ∧ Below w.heap.size w w' := by
  have hl := h'.len
  have HI : Hid (EntsIn w w.heap.size A' m g.E) := h'
  have hpar := parentG_eq g id
  obtain ⟨X, hX⟩ : ∃ X, X = (getG g id).getD noIno := ⟨_, rfl⟩
  obtain ⟨is, his⟩ : ∃ is, is = (getG g id).isSome := ⟨_, rfl⟩
  have HG : Hid (∀ W : World, Below w.heap.size w W → Calls Tryz.prog 39 #[.agg #[.slice A n c, .slice A' m d], .agg #[.int .i64 id.1, .int .i64 id.2]] W fun e w' => e = .returned (.tuple #[.agg #[.int .i64 X.id.1, .int .i64 X.id.2, .int .i64 X.kind, .int .i64 X.links, .int .i64 X.mode, .string X.data], .bool is]) ∧ Below W.heap.size W w') := fun W hW => by
    rw [hX, his]
    exact refGet A A' n c m d g id hn hm W ((h.below hW).more hW.size) ((h'.below hW).more hW.size)
  rw [← hX, ← his] at hpar
  clear h h' hX his
  have HPar := Lib.hid hpar
  clear hpar
  have hb0 : Held w [(w.heap.size + 1 + 1, .cells #[.int .i64 0, .int .i64 0] 35), (w.heap.size + 1, .cells (stA id) 35), (w.heap.size, .cells #[.slice A n c, .slice A' m d] 30)]
    (((w.alloc (.cells #[.slice A n c, .slice A' m d] 30)).alloc (.cells #[.int .i64 id.1, .int .i64 id.2] 35)).alloc (.cells #[.int .i64 0, .int .i64 0] 35)) :=
    (((Held.refl w).alloc (.cells #[.slice A n c, .slice A' m d] 30) rfl).alloc (.cells (stA id) 35) (by simp)).alloc (.cells #[.int .i64 0, .int .i64 0] 35) (by simp)
  unfold stA
  go_enter Tryz.func158, Tryz.ntmps158
  go_wp2_with fail
  refine (HG.out _ hb0.below).mono ?_
  rintro e w1 ⟨rfl, hb1⟩
  have hH1 := hb0.step hb1
  clear hb0 hb1
  go_upto_region 2 with fail
  change Code.wp _ _ _ _ (w1.alloc (.cells (inoA X) 54))
  obtain ⟨u, hu⟩ : ∃ u, u = w1.heap.size := ⟨_, rfl⟩
  have hlow : w.heap.size + 1 + 1 < u := by rw [hu]; exact heap_lt (hH1.at 0 rfl)
  have hH2 := hH1.alloc (.cells (inoA X) 54) hu.symm
  rw [← hu]
  generalize w1.alloc (.cells (inoA X) 54) = w2 at hH2 ⊢
  clear hH1 hu
  go_wp2_with fail
  go_loopg [8] (m + 1) (fun gk i wr => ∃ k : Nat, i = .int .i64 (k : Int) ∧ gk + k = m + 1 ∧ k ≤ m ∧ Hid ((g.E.take k).find? (fun e => decide (e.ino = id)) = none) ∧ Held w [(u, .cells (inoA X) 54), (w.heap.size + 1 + 1, .cells #[.int .i64 0, .int .i64 0] 35), (w.heap.size + 1, .cells (stA id) 35), (w.heap.size, .cells #[.slice A n c, .slice A' m d] 30)] wr)
  case atStart => exact ⟨0, rfl, by omega, by omega, rfl, hH2⟩
  case round =>
    obtain ⟨k, rfl, hgk, hk, hnone, hH⟩ := hrel
    clear hH2
    have hc1 := (two_cells (g := w.heap.size) (hH.at 3 rfl)).2
    obtain ⟨c3, c4⟩ := two_cells (g := w.heap.size + 1) (hH.at 2 rfl)
    obtain ⟨m0, m1⟩ := two_cells (g := w.heap.size + 1 + 1) (hH.at 1 rfl)
    obtain ⟨f0, f1⟩ := two_free (g := w.heap.size + 1 + 1) (hH.at 1 rfl)
    have hx2 := (ino_cells (g := u) (hH.at 0 rfl)).2.2.1
    have hcase : (k < m ∧ is = true ∧ (X.kind == 1) = true) ∨ (parentG g id = none ∧ (¬ (k : Int) < m ∨ ((k : Int) < m ∧ is = false) ∨ ((k : Int) < m ∧ is = true ∧ (X.kind == 1) = false))) := by
      by_cases h1 : k < m
      · cases is with
        | false => exact Or.inr ⟨HPar.out.trans (if_neg (by simp)), Or.inr (Or.inl ⟨by omega, rfl⟩)⟩
        | true =>
          by_cases h2 : X.kind = 1
          · exact Or.inl ⟨h1, rfl, beq_iff_eq.2 h2⟩
          · exact Or.inr ⟨HPar.out.trans (if_neg fun q => h2 q.2), Or.inr (Or.inr ⟨by omega, rfl, beq_eq_false_iff_ne.2 h2⟩)⟩
      · refine Or.inr ⟨?_, Or.inl (by omega)⟩
        have h := hnone.out
        rw [List.take_of_length_le (by omega)] at h
        rw [HPar.out, h]
        simp
    rcases hcase with ⟨hlt, rfl, hkd⟩ | ⟨hpn, hcase⟩
    · obtain ⟨gi, o, rfl, hg, hrow⟩ := HI.out.row (by omega)
      have hp := find_none_take (p := fun e : Ent => decide (e.ino = id)) (k := k) (by omega) hnone.out
      have hrk := (hrow k (by omega)).below hH.below hg
      obtain ⟨⟨di, en, ei⟩, hx⟩ : ∃ x, g.E[k] = x := ⟨_, rfl⟩
      rw [hx] at hrk hp
      clear hrow hx hnone
      obtain ⟨e0, e1, e2, e3, e4⟩ := hrk
      by_cases hq : ei = id
      · have hv := eqSt_yes hq
        have HR : Hid (parentG g id = some di) := by
          rw [if_pos (decide_eq_true hq)] at hp
          show parentG g id = _
          rw [HPar.out, if_pos ⟨rfl, beq_iff_eq.1 hkd⟩, find_take hp]
          rfl
        clear hp
        subst hq
        go_wp2_with fail
        go_quiet (fail)
        go_wp2_with fail
        exact bodyPost_ret (v := .tuple #[.agg (stA di), .bool true]) (by simp [results, Tryz.results158, go_sem, stA, m0, m1]) rfl ⟨by rw [HR.out]; rfl, ((below_drewN' hH.below _).setCell (by dsimp only; omega) _).setCell (by dsimp only; omega) _⟩
      · have hv := eqSt_no hq
        have HP : Hid ((g.E.take (k + 1)).find? (fun e => decide (e.ino = id)) = none) := by
          rw [if_neg (by rw [decide_eq_false hq]; decide)] at hp
          exact hp
        clear hp
        go_wp2_with fail
        go_quiet (fail)
        go_wp2_with fail
        go_roundg (gk - 1)
        case measure => omega
        case rel => exact ⟨k + 1, by go_num, by omega, by omega, HP.out, hH.drewN _⟩
    · have HR := Lib.hid hpn
      clear hpn
      rcases hcase with h1 | ⟨h1, rfl⟩ | ⟨h1, rfl, h2⟩
      all_goals
        go_wp2_with fail
        exact bodyPost_ret (v := .tuple #[.agg (stA (0, 0)), .bool false]) (by simp [results, Tryz.results158, go_sem, stA, m0, m1]) rfl ⟨by rw [HR.out]; rfl, ((hH.below).setCell (by dsimp only; omega) _).setCell (by dsimp only; omega) _⟩

end Go.Proofs.YtlhdbccemgofjaaGreatDoor
