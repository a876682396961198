/-
  The walks of the document's own Less, Compare, May and Next.
-/
import Derived.Test.YtgfgcfmifebnbaaStampMath
import Derived.Test.YtgfgcfmifebnbaaRows
namespace Go.Proofs.Ytgfgcfmifebnbaa
open Go.RowKit StampMath

set_option maxHeartbeats 400000 in
theorem refLess (t r t' r' : Int) (w : World) :
    Calls Try.prog 28 #[.agg #[.int .i64 t, .int .i64 r], .agg #[.int .i64 t', .int .i64 r']] w fun e w' => e = .returned (.bool (lessB t r t' r')) ∧ Below w.heap.size w w' := by
  have hcase : (t < t' ∧ lessB t r t' r' = true) ∨ (¬ t < t' ∧ (t == t') = true ∧ lessB t r t' r' = decide (r < r')) ∨ (¬ t < t' ∧ (t == t') = false ∧ lessB t r t' r' = false) := by
    by_cases h1 : t < t'
    · exact Or.inl ⟨h1, by simp [lessB, h1]⟩
    · by_cases h2 : t = t'
      · exact Or.inr (Or.inl ⟨h1, by simp [h2], by simp [lessB, h2]⟩)
      · exact Or.inr (Or.inr ⟨h1, by simp [h2], by simp [lessB, h1, h2]⟩)
  rcases hcase with ⟨h1, h⟩ | ⟨h1, h2, h⟩ | ⟨h1, h2, h⟩
  all_goals
    have H := Lib.hid h
    clear h
    go_enter Try.func28, Try.ntmps28
    go_wp2_with fail
    go_ret
    exact ⟨by rw [H.out]; rfl, ((Below.refl _ _).alloc (Nat.le_refl _) _).alloc (by simp) _⟩

set_option maxHeartbeats 400000 in
theorem refCompare (t r t' r' : Int) (w : World) :
    Calls Try.prog 17 #[.agg #[.int .i64 t, .int .i64 r], .agg #[.int .i64 t', .int .i64 r']] w fun e w' => e = .returned (.int .i64 (cmp t r t' r')) ∧ Below w.heap.size w w' := by
  obtain ⟨a, ha⟩ : ∃ a, a = lessB t r t' r' := ⟨_, rfl⟩
  obtain ⟨b, hb⟩ : ∃ b, b = lessB t' r' t r := ⟨_, rfl⟩
  have hC : cmp t r t' r' = if a then -1 else if b then 1 else 0 := by rw [ha, hb]; rfl
  have HC := Lib.hid hC
  have H1 : Hid (∀ W : World, Calls Try.prog 28 #[.agg #[.int .i64 t, .int .i64 r], .agg #[.int .i64 t', .int .i64 r']] W fun e w' => e = .returned (.bool a) ∧ Below W.heap.size W w') := fun W => by rw [ha]; exact refLess _ _ _ _ W
  have H2 : Hid (∀ W : World, Calls Try.prog 28 #[.agg #[.int .i64 t', .int .i64 r'], .agg #[.int .i64 t, .int .i64 r]] W fun e w' => e = .returned (.bool b) ∧ Below W.heap.size W w') := fun W => by rw [hb]; exact refLess _ _ _ _ W
  clear ha hb hC
  cases a
  · cases b
    all_goals
      go_enter Try.func17, Try.ntmps17
      go_wp2_with fail
      refine (H1.out _).mono ?_
      rintro e w1 ⟨rfl, hb1⟩
      obtain ⟨hc1, hf1⟩ := bcell_below hb1
      go_wp2_with fail
      refine (H2.out _).mono ?_
      rintro e w2 ⟨rfl, hb2⟩
      clear hc1 hf1
      go_wp2_with fail
      go_ret
      exact ⟨by rw [HC.out]; rfl, below_step (below_step (((Below.refl _ _).alloc (Nat.le_refl _) _).alloc (by simp) _) hb1) hb2⟩
  · go_enter Try.func17, Try.ntmps17
    go_wp2_with fail
    refine (H1.out _).mono ?_
    rintro e w1 ⟨rfl, hb1⟩
    go_wp2_with fail
    go_ret
    exact ⟨by rw [HC.out]; rfl, below_step (((Below.refl _ _).alloc (Nat.le_refl _) _).alloc (by simp) _) hb1⟩

set_option maxHeartbeats 400000 in
theorem refMay (t r : Int) (w : World) :
    Calls Try.prog 15 #[.agg #[.int .i64 t, .int .i64 r]] w fun e w' => e = .returned (.bool (mayB t r)) ∧ Below w.heap.size w w' := by
  have hcase : ((t == 0) = true ∧ mayB t r = (r == 0)) ∨ ((t == 0) = false ∧ decide (1 ≤ t) = false ∧ mayB t r = false) ∨ ((t == 0) = false ∧ 1 ≤ t ∧ decide (t ≤ 1073741824) = false ∧ mayB t r = false) ∨
      ((t == 0) = false ∧ 1 ≤ t ∧ t ≤ 1073741824 ∧ decide (0 ≤ r) = false ∧ mayB t r = false) ∨ ((t == 0) = false ∧ 1 ≤ t ∧ t ≤ 1073741824 ∧ 0 ≤ r ∧ mayB t r = decide (r ≤ 7)) := by
    unfold mayB
    by_cases h0 : t = 0
    · exact Or.inl ⟨by simp [h0], by rw [if_pos h0]⟩
    · rw [if_neg h0]
      by_cases h1 : 1 ≤ t
      · by_cases h2 : t ≤ 1073741824
        · by_cases h3 : 0 ≤ r
          · exact Or.inr (Or.inr (Or.inr (Or.inr ⟨by simp [h0], h1, h2, h3, by simp [h1, h2, h3]⟩)))
          · exact Or.inr (Or.inr (Or.inr (Or.inl ⟨by simp [h0], h1, h2, by simp; omega, by simp [h3]⟩)))
        · exact Or.inr (Or.inr (Or.inl ⟨by simp [h0], h1, by simp; omega, by simp [h2]⟩))
      · exact Or.inr (Or.inl ⟨by simp [h0], by simp; omega, by simp [h1]⟩)
  rcases hcase with ⟨h0, h⟩ | ⟨h0, h1, h⟩ | ⟨h0, h1, h2, h⟩ | ⟨h0, h1, h2, h3, h⟩ | ⟨h0, h1, h2, h3, h⟩
  all_goals
    have H := Lib.hid h
    clear h
    go_enter Try.func15, Try.ntmps15
    go_wp2_with fail
    go_ret
    exact ⟨by rw [H.out]; rfl, (Below.refl _ _).alloc (Nat.le_refl _) _⟩

end Go.Proofs.Ytgfgcfmifebnbaa
