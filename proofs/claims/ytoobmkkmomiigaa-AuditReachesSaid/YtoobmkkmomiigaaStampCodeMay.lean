/-
  The walks of stamp's isRep and May.
-/
import Derived.Test.YtoobmkkmomiigaaStampVals
import Derived.Test.YtoobmkkmomiigaaBase
import Derived.Test.YtoobmkkmomiigaaRows
namespace Go.Proofs.Ytoobmkkmomiigaa
open Go.RowKit StampMath PackMath

theorem isRep_any (r : Int) (w : World) :
    Calls Try.prog 72 #[.int .i64 r] w fun e w' => e = .returned (.bool (decide (0 ≤ r) && decide (r < 8))) ∧ w = w' := by
  have hcase : (decide (0 ≤ r) = false) ∨ 0 ≤ r := by
    by_cases h : 0 ≤ r
    · exact Or.inr h
    · exact Or.inl (by simp; omega)
  rcases hcase with h | h
  all_goals
    go_enter Try.func72, Try.ntmps72
    go_wp2_with fail
    go_ret
    exact ⟨by simp [h], rfl⟩

set_option maxHeartbeats 400000 in
theorem may_any (t r : Int) (w : World) :
    Calls Try.prog 62 #[.agg #[.int .i64 t, .int .i64 r]] w fun e w' => e = .returned (.bool (mayB t r)) ∧ Below w.heap.size w w' := by
  have hcase : ((t == 0) = true ∧ mayB t r = (r == 0)) ∨ ((t == 0) = false ∧ decide (0 < t) = false ∧ mayB t r = false) ∨ ((t == 0) = false ∧ 0 < t ∧ decide (t ≤ 1073741824) = false ∧ mayB t r = false) ∨
      ((t == 0) = false ∧ 0 < t ∧ t ≤ 1073741824 ∧ mayB t r = (decide (0 ≤ r) && decide (r < 8))) := by
    unfold mayB
    by_cases h0 : t = 0
    · exact Or.inl ⟨by simp [h0], by rw [if_pos h0]⟩
    · rw [if_neg h0]
      by_cases h1 : 0 < t
      · by_cases h2 : t ≤ 1073741824
        · refine Or.inr (Or.inr (Or.inr ⟨by simp [h0], h1, h2, ?_⟩))
          have e1 : decide (1 ≤ t) = true := by simp; omega
          have e2 : decide (r ≤ 7) = decide (r < 8) := by rw [decide_eq_decide]; omega
          rw [e1, e2]
          simp [h2]
        · exact Or.inr (Or.inr (Or.inl ⟨by simp [h0], h1, by simp; omega, by simp [h2]⟩))
      · exact Or.inr (Or.inl ⟨by simp [h0], by simp; omega, by simp; omega⟩)
  rcases hcase with ⟨h0, h⟩ | ⟨h0, h1, h⟩ | ⟨h0, h1, h2, h⟩ | ⟨h0, h1, h2, h⟩
  · have H := Lib.hid h
    clear h
    go_enter Try.func62, Try.ntmps62
    go_wp2_with fail
    go_ret
    exact ⟨by rw [H.out]; rfl, (Below.refl _ _).alloc (Nat.le_refl _) _⟩
  · have H := Lib.hid h
    clear h
    go_enter Try.func62, Try.ntmps62
    go_wp2_with fail
    go_ret
    exact ⟨by rw [H.out]; rfl, (Below.refl _ _).alloc (Nat.le_refl _) _⟩
  · have H := Lib.hid h
    clear h
    go_enter Try.func62, Try.ntmps62
    go_wp2_with fail
    go_ret
    exact ⟨by rw [H.out]; rfl, (Below.refl _ _).alloc (Nat.le_refl _) _⟩
  · have H := Lib.hid h
    clear h
    go_enter Try.func62, Try.ntmps62
    go_wp2_with fail
    refine (isRep_any _ _).mono ?_
    rintro e w' ⟨rfl, rfl⟩
    go_wp2_with fail
    go_ret
    exact ⟨by rw [H.out]; rfl, (Below.refl _ _).alloc (Nat.le_refl _) _⟩

end Go.Proofs.Ytoobmkkmomiigaa
