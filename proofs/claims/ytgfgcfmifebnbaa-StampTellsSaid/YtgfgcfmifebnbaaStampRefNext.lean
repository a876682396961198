/-
  The walks of the document's own Next, Put and Take.
-/
import Derived.Test.YtgfgcfmifebnbaaStampRef
import Derived.Test.YtgfgcfmifebnbaaStampVals
import Derived.Test.YtgfgcfmifebnbaaPackRefInt
import Derived.Test.YtgfgcfmifebnbaaPackRefTakeInt
import Derived.Deep.RegionHeld3
namespace Go.Proofs.Ytgfgcfmifebnbaa
open Go.RowKit StampMath PackMath

set_option maxHeartbeats 400000 in
theorem refNext (t r : Int) (w : World) :
    Calls Try.prog 13 #[.int .i64 t, .int .i64 r] w fun e w' => e = .returned (nextV t r) ∧ Below w.heap.size w w' := by
  have hcase : (r < 0 ∧ nextV t r = .tuple #[.agg #[.int .i64 0, .int .i64 0], .int .i64 1]) ∨ (¬ r < 0 ∧ 7 < r ∧ nextV t r = .tuple #[.agg #[.int .i64 0, .int .i64 0], .int .i64 1]) ∨
      (¬ r < 0 ∧ ¬ 7 < r ∧ t < 0 ∧ nextV t r = .tuple #[.agg #[.int .i64 0, .int .i64 0], .int .i64 1]) ∨ (¬ r < 0 ∧ ¬ 7 < r ∧ ¬ t < 0 ∧ 1073741824 ≤ t ∧ nextV t r = .tuple #[.agg #[.int .i64 0, .int .i64 0], .int .i64 14]) ∨
      (¬ r < 0 ∧ ¬ 7 < r ∧ ¬ t < 0 ∧ ¬ 1073741824 ≤ t ∧ nextV t r = .tuple #[.agg #[.int .i64 (t + 1), .int .i64 r], .int .i64 0]) := by
    unfold nextV
    by_cases h1 : r < 0
    · exact Or.inl ⟨h1, by rw [if_pos (Or.inl h1)]⟩
    · by_cases h2 : 7 < r
      · exact Or.inr (Or.inl ⟨h1, h2, by rw [if_pos (Or.inr (Or.inl h2))]⟩)
      · by_cases h3 : t < 0
        · exact Or.inr (Or.inr (Or.inl ⟨h1, h2, h3, by rw [if_pos (Or.inr (Or.inr h3))]⟩))
        · by_cases h4 : 1073741824 ≤ t
          · exact Or.inr (Or.inr (Or.inr (Or.inl ⟨h1, h2, h3, h4, by rw [if_neg (by omega), if_pos h4]⟩)))
          · exact Or.inr (Or.inr (Or.inr (Or.inr ⟨h1, h2, h3, h4, by rw [if_neg (by omega), if_neg h4]⟩)))
  rcases hcase with ⟨h1, h⟩ | ⟨h1, h2, h⟩ | ⟨h1, h2, h3, h⟩ | ⟨h1, h2, h3, h4, h⟩ | ⟨h1, h2, h3, h4, h⟩
  all_goals
    rw [h]
    clear h
    go_enter Try.func13, Try.ntmps13
    go_wp2_with fail
  · exact bodyPost_ret (v := .tuple #[.agg #[.int .i64 0, .int .i64 0], .int .i64 1]) (by simp [results, Try.results13, go_sem]) rfl ⟨rfl, (Below.refl _ _).alloc (Nat.le_refl _) _⟩
  · exact bodyPost_ret (v := .tuple #[.agg #[.int .i64 0, .int .i64 0], .int .i64 1]) (by simp [results, Try.results13, go_sem]) rfl ⟨rfl, (Below.refl _ _).alloc (Nat.le_refl _) _⟩
  · exact bodyPost_ret (v := .tuple #[.agg #[.int .i64 0, .int .i64 0], .int .i64 1]) (by simp [results, Try.results13, go_sem]) rfl ⟨rfl, (Below.refl _ _).alloc (Nat.le_refl _) _⟩
  · exact bodyPost_ret (v := .tuple #[.agg #[.int .i64 0, .int .i64 0], .int .i64 14]) (by simp [results, Try.results13, go_sem]) rfl ⟨rfl, (Below.refl _ _).alloc (Nat.le_refl _) _⟩
  · exact bodyPost_ret (v := .tuple #[.agg #[.int .i64 (t + 1), .int .i64 r], .int .i64 0]) (by simp [results, Try.results13, go_sem]) rfl ⟨rfl, (Below.refl _ _).alloc (Nat.le_refl _) _⟩

set_option maxHeartbeats 400000 in
theorem refPut (t r : Int) (ht : IsI64 t) (hr : IsI64 r) (w : World) :
    Calls Try.prog 19 #[.agg #[.int .i64 t, .int .i64 r]] w fun e w' => e = .returned (.string ⟨(putL t r).toArray⟩) ∧ Below w.heap.size w w' := by
  have HT := Lib.hid ht
  have HR := Lib.hid hr
  have hadd : ∀ W : World, (Op.stringOp .add ⟨(numL (zig t)).toArray⟩ ⟨(numL (zig r)).toArray⟩).run Try.prog W = .ok (.string ⟨(putL t r).toArray⟩) W := fun W => by
    have hl1 := (numL_length (zig t)).2
    have hl2 := (numL_length (zig r)).2
    rw [run_string_add_sum W _ _ (by show (numL (zig t)).length + (numL (zig r)).length ≤ _; omega), putL_str]
  have hS0 : ((w.alloc (.cells #[.int .i64 t, .int .i64 r] 23)).drew.cell? ⟨w.heap.size, 0, none⟩ = some (.int .i64 t) ∧ (w.alloc (.cells #[.int .i64 t, .int .i64 r] 23)).drew.cell? ⟨w.heap.size, 1, none⟩ = some (.int .i64 r)) ∧
      KeptFrom w (w.alloc (.cells #[.int .i64 t, .int .i64 r] 23)).drew :=
    ⟨⟨cell_of_row _ _ 0 _ _ (0, 0) (heap_alloc_new w _), cell_of_row _ _ 1 _ _ (0, 0) (heap_alloc_new w _)⟩, ((Below.refl _ _).alloc (Nat.le_refl _) _).drew⟩
  clear ht hr
  go_enter Try.func19, Try.ntmps19
  go_wp2_with fail
  go_region_held3 (fun W => (W.cell? ⟨w.heap.size, 0, none⟩ = some (.int .i64 t) ∧ W.cell? ⟨w.heap.size, 1, none⟩ = some (.int .i64 r)) ∧ KeptFrom w W) (first | assumption | (refine ⟨⟨?_, ?_⟩, ?_⟩ <;> assumption))
    (first
      | (go_at_call 30; (with_reducible refine (refInt t HT.out _).mono ?_); rintro e w' ⟨rfl, hb⟩; have hS := kept_call2 hb (by assumption))
      | (go_at_call 30; (with_reducible refine (refInt r HR.out _).mono ?_); rintro e w' ⟨rfl, hb⟩; have hS := kept_call2 hb (by assumption)))
  have hE : ∀ {W : World} {a b : Addr} {u v : Value}, (W.cell? a = some u ∧ W.cell? b = some v) ∧ KeptFrom w W → Below w.heap.size w W := fun h => h.2
  go_wp2_with fail
  go_ret
  exact ⟨rfl, hE (by assumption)⟩

end Go.Proofs.Ytgfgcfmifebnbaa
