/-
  The walk of the document's own Under (graphs).
-/
import Derived.Test.YtlhdbccemgofjaaGreatDoorGraphRefParentZ
import Derived.Test.YtlhdbccemgofjaaGreatDoorZ01
namespace Go.Proofs.YtlhdbccemgofjaaGreatDoor
open Go.RowKit StampMath GraphMath

theorem underN_succ (g : Gr) (n : Nat) (a b : St) : underN g (n + 1) a b = if a = b then true else match parentG g a with
    | none => false
    | some up => underN g n up b := rfl

/-- The three boxes that the walk of Under holds. -/
structure UBox (w W : World) (x y : Value) (cur dir : St) : Prop where
  a : W.heap[w.heap.size]? = some (.cells #[x, y] 30 (0, 0))
  b : W.heap[w.heap.size + 1]? = some (.cells #[.int .i64 cur.1, .int .i64 cur.2] 35 (0, 0))
  c : W.heap[w.heap.size + 1 + 1]? = some (.cells #[.int .i64 dir.1, .int .i64 dir.2] 35 (0, 0))
  low : Below w.heap.size w W

theorem UBox.step {w W W' : World} {x y : Value} {cur dir : St} (h : UBox w W x y cur dir) (hb : Below W.heap.size W W') : UBox w W' x y cur dir :=
  ⟨(hb.block _ (heap_lt h.a)).trans h.a, (hb.block _ (heap_lt h.b)).trans h.b, (hb.block _ (heap_lt h.c)).trans h.c, below_step h.low hb⟩

theorem UBox.set {w W : World} {x y : Value} {cur dir : St} (h : UBox w W x y cur dir) (up : St) :
    UBox w ((W.setCell ⟨w.heap.size + 1, 0, none⟩ (.int .i64 up.1)).setCell ⟨w.heap.size + 1, 1, none⟩ (.int .i64 up.2)) x y up dir :=
  ⟨(heap_setCell_other _ _ _ _ (by dsimp only; omega)).trans ((heap_setCell_other _ _ _ _ (by dsimp only; omega)).trans h.a), box_set h.b, (heap_setCell_other _ _ _ _ (by dsimp only; omega)).trans ((heap_setCell_other _ _ _ _ (by dsimp only; omega)).trans h.c),
    (h.low.setCell (by dsimp only; omega) _).setCell (by dsimp only; omega) _⟩

set_option maxRecDepth 100000 in
set_option maxHeartbeats 1600000 in
theorem refUnder (A A' : Option Addr) (n c m d : Nat) (g : Gr) (id dir : St) (hn : n ≤ 1000) (hm : m ≤ 1000) (w : World) (h : InosIn w w.heap.size A n g.I) (h' : EntsIn w w.heap.size A' m g.E) :
    Calls Tryz.prog 126 #[.agg #[.slice A n c, .slice A' m d], .agg (stA id), .agg (stA dir)] w fun e w' => e = .returned (.bool (underG g id dir)) ∧ Below w.heap.size w w' := by
  have hl := h.len
  have HP : Hid (∀ (a : St) (W : World), Below w.heap.size w W → Calls Tryz.prog 158 #[.agg #[.slice A n c, .slice A' m d], .agg #[.int .i64 a.1, .int .i64 a.2]] W fun e w' => e = .returned (.tuple #[.agg #[.int .i64 ((parentG g a).getD (0, 0)).1, .int .i64 ((parentG g a).getD (0, 0)).2], .bool (parentG g a).isSome]) ∧ Below W.heap.size W w') := fun a W hW =>
    refParent A A' n c m d g a hn hm W ((h.below hW).more hW.size) ((h'.below hW).more hW.size)
  clear h h'
  have hb0 : UBox w (((w.alloc (.cells #[.slice A n c, .slice A' m d] 30)).alloc (.cells #[.int .i64 id.1, .int .i64 id.2] 35)).alloc (.cells #[.int .i64 dir.1, .int .i64 dir.2] 35)) (.slice A n c) (.slice A' m d) id dir := by
    have hq := (((Held.refl w).alloc (.cells #[.slice A n c, .slice A' m d] 30) rfl).alloc (.cells #[.int .i64 id.1, .int .i64 id.2] 35) (g := w.heap.size + 1) (by simp)).alloc (.cells #[.int .i64 dir.1, .int .i64 dir.2] 35) (g := w.heap.size + 1 + 1) (by simp)
    exact ⟨hq.at 2 rfl, hq.at 1 rfl, hq.at 0 rfl, hq.below⟩
  unfold stA
  go_enter Tryz.func126, Tryz.ntmps126
  go_wp2_with fail
  go_loopg [7] (n + 2) (fun gk i wr => ∃ (k : Nat) (cur : St), i = .int .i64 (k : Int) ∧ gk + k = n + 2 ∧ k ≤ n + 1 ∧ Hid (underN g (n + 1 - k) cur dir = underG g id dir) ∧ UBox w wr (.slice A n c) (.slice A' m d) cur dir)
  case atStart => exact ⟨0, id, rfl, by omega, by omega, (by unfold underG; rw [hl]; rfl), hb0⟩
  case round =>
    obtain ⟨k, cur, rfl, hgk, hk, hun, hH⟩ := hrel
    clear hb0
    obtain ⟨c1, c2⟩ := two_cells hH.a
    obtain ⟨c3, c4⟩ := two_cells hH.b
    obtain ⟨c5, c6⟩ := two_cells hH.c
    obtain ⟨f0, f1⟩ := two_free hH.b
    by_cases hlt : k ≤ n
    · have hun2 := hun.out
      rw [show n + 1 - k = (n - k) + 1 by omega, underN_succ] at hun2
      by_cases hq : cur = dir
      · rw [if_pos hq] at hun2
        have HU := Lib.hid hun2
        clear hun hun2
        have hv := eqSt_yes hq
        subst hq
        go_wp2_with fail
        go_ret
        exact ⟨by rw [← HU.out]; rfl, hH.low⟩
      · rw [if_neg hq] at hun2
        have hv := eqSt_no hq
        have HPc := Lib.hid (HP.out cur)
        cases hpar : parentG g cur with
        | none =>
          rw [hpar] at hun2 HPc
          have HU : Hid (false = underG g id dir) := hun2
          have HQ : Hid (∀ (W : World), Below w.heap.size w W → Calls Tryz.prog 158 #[.agg #[.slice A n c, .slice A' m d], .agg #[.int .i64 cur.1, .int .i64 cur.2]] W fun e w' => e = .returned (.tuple #[.agg #[.int .i64 0, .int .i64 0], .bool false]) ∧ Below W.heap.size W w') := HPc
          clear hun hun2 HPc hpar HP
          go_wp2_with fail
          refine (HQ.out _ hH.low).mono ?_
          rintro e w1 ⟨rfl, hb1⟩
          have hH1 := hH.step hb1
          clear hH hb1 c1 c2 c3 c4 c5 c6 f0 f1
          go_wp2_with fail
          go_ret
          exact ⟨by rw [← HU.out]; rfl, hH1.low.alloc hH1.low.size _⟩
        | some up =>
          rw [hpar] at hun2 HPc
          have HU : Hid (underN g (n - k) up dir = underG g id dir) := hun2
          have HQ : Hid (∀ (W : World), Below w.heap.size w W → Calls Tryz.prog 158 #[.agg #[.slice A n c, .slice A' m d], .agg #[.int .i64 cur.1, .int .i64 cur.2]] W fun e w' => e = .returned (.tuple #[.agg #[.int .i64 up.1, .int .i64 up.2], .bool true]) ∧ Below W.heap.size W w') := HPc
          clear hun hun2 HPc hpar
          go_wp2_with fail
          refine (HQ.out _ hH.low).mono ?_
          rintro e w1 ⟨rfl, hb1⟩
          have hH1 := hH.step hb1
          clear hH hb1 c1 c2 c3 c4 c5 c6 f0 f1
          go_upto_region 9 with fail
          have hb2 : Below w1.heap.size w1 (w1.alloc (.cells #[.int .i64 up.1, .int .i64 up.2] 35)) := (Below.refl _ _).alloc (Nat.le_refl _) _
          have hH2 := hH1.step hb2
          have hu2 := two_cells (heap_alloc_new w1 (.cells #[.int .i64 up.1, .int .i64 up.2] 35))
          obtain ⟨u, hu⟩ : ∃ u, u = w1.heap.size := ⟨_, rfl⟩
          have hlow : w.heap.size + 1 + 1 < u := by rw [hu]; exact heap_lt hH1.c
          rw [← hu] at hu2 ⊢
          generalize w1.alloc (.cells #[.int .i64 up.1, .int .i64 up.2] 35) = w2 at hH2 hu2 ⊢
          clear hb2 hH1 hu
          obtain ⟨u0, u1⟩ := hu2
          obtain ⟨c3, c4⟩ := two_cells hH2.b
          obtain ⟨f0, f1⟩ := two_free hH2.b
          go_wp2_with fail
          go_roundg (gk - 1)
          case measure => omega
          case rel => exact ⟨k + 1, up, by go_num, by omega, by omega, (by rw [show n + 1 - (k + 1) = n - k by omega]; exact HU.out), hH2.set up⟩
    · have HU : Hid (false = underG g id dir) := by
        have h := hun.out
        rw [show n + 1 - k = 0 by omega] at h
        exact h
      go_wp2_with fail
      go_ret
      exact ⟨by rw [← HU.out]; rfl, hH.low⟩

end Go.Proofs.YtlhdbccemgofjaaGreatDoor
