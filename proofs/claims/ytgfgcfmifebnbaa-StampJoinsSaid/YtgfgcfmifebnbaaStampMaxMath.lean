/-
  Plain mathematics of the greatest of some stamps. It needs no program.
-/
import Derived.Test.YtgfgcfmifebnbaaStampMath
namespace Go.Proofs.Ytgfgcfmifebnbaa.StampMath

/-- One is the other one, or ahead of it. -/
def Le (x y : Int × Int) : Prop := cmp x.1 x.2 y.1 y.2 ≤ 0

theorem le_refl (x : Int × Int) : Le x x := by
  have h := cmp_cases x.1 x.2 x.1 x.2
  unfold Le
  omega

theorem le_trans {x y z : Int × Int} (h : Le x y) (k : Le y z) : Le x z := (cmp_trans x.1 x.2 y.1 y.2 z.1 z.2).1 h k

theorem le_antisymm {x y : Int × Int} (h : Le x y) (k : Le y x) : x = y := by
  have h1 := cmp_cases x.1 x.2 y.1 y.2
  have h2 := cmp_cases y.1 y.2 x.1 x.2
  unfold Le at h k
  exact Prod.ext (by omega) (by omega)

theorem le_of_less {x y : Int × Int} (h : lessB x.1 x.2 y.1 y.2 = true) : Le x y := by
  have h1 := (lessB_iff _ _ _ _).1 h
  have h2 := cmp_cases x.1 x.2 y.1 y.2
  unfold Le
  omega

theorem le_of_not {x y : Int × Int} (h : ¬ lessB x.1 x.2 y.1 y.2 = true) : Le y x := by
  have h1 : ¬ _ := fun e => h ((lessB_iff _ _ _ _).2 e)
  have h2 := cmp_cases y.1 y.2 x.1 x.2
  unfold Le
  omega

theorem fold_max (l : List (Int × Int)) : ∀ x, (l.foldl (fun m y => if lessB m.1 m.2 y.1 y.2 then y else m) x) ∈ x :: l ∧ ∀ y ∈ x :: l, Le y (l.foldl (fun m y => if lessB m.1 m.2 y.1 y.2 then y else m) x) := by
  induction l with
  | nil => intro x; exact ⟨List.mem_cons_self .., fun y hy => by rw [List.mem_singleton.1 hy]; exact le_refl x⟩
  | cons z l ih =>
    intro x
    rw [List.foldl_cons]
    obtain ⟨h1, h2⟩ := ih (if lessB x.1 x.2 z.1 z.2 then z else x)
    refine ⟨?_, fun y hy => ?_⟩
    · rcases List.mem_cons.1 h1 with h | h
      · rw [h]; split <;> simp
      · exact List.mem_cons_of_mem _ (List.mem_cons_of_mem _ h)
    · have hs := h2 _ (List.mem_cons_self ..)
      rcases List.mem_cons.1 hy with rfl | hy
      · refine le_trans ?_ hs
        split
        · next h => exact le_of_less h
        · exact le_refl _
      · rcases List.mem_cons.1 hy with rfl | hy
        · refine le_trans ?_ hs
          split
          · exact le_refl _
          · next h => exact le_of_not h
        · exact h2 y (List.mem_cons_of_mem _ hy)

theorem maxL_mem {xs : List (Int × Int)} (h : xs ≠ []) : maxL xs ∈ xs := by
  cases xs with
  | nil => exact absurd rfl h
  | cons x l => exact (fold_max l x).1

theorem maxL_ge {xs : List (Int × Int)} : ∀ y ∈ xs, Le y (maxL xs) := by
  cases xs with
  | nil => intro y hy; cases hy
  | cons x l => exact (fold_max l x).2

theorem maxL_unique {xs : List (Int × Int)} {m : Int × Int} (h : m ∈ xs) (k : ∀ y ∈ xs, Le y m) : maxL xs = m :=
  le_antisymm (k _ (maxL_mem (List.ne_nil_of_mem h))) (maxL_ge m h)

theorem maxL_reverse {xs : List (Int × Int)} (h : xs ≠ []) : maxL xs.reverse = maxL xs :=
  maxL_unique (List.mem_reverse.2 (maxL_mem h)) (fun y hy => maxL_ge y (List.mem_reverse.1 hy))

theorem maxL_join {xs ys : List (Int × Int)} (h : xs ≠ []) (k : ys ≠ []) : maxL (xs ++ ys) = maxL [maxL xs, maxL ys] := by
  have hm : maxL [maxL xs, maxL ys] ∈ [maxL xs, maxL ys] := maxL_mem (by simp)
  have hg : ∀ y ∈ [maxL xs, maxL ys], Le y (maxL [maxL xs, maxL ys]) := maxL_ge
  refine maxL_unique ?_ (fun y hy => ?_)
  · rcases List.mem_cons.1 hm with h1 | h1
    · rw [h1]; exact List.mem_append_left _ (maxL_mem h)
    · rw [List.mem_singleton.1 h1]; exact List.mem_append_right _ (maxL_mem k)
  · rcases List.mem_append.1 hy with hy | hy
    · exact le_trans (maxL_ge y hy) (hg _ (by simp))
    · exact le_trans (maxL_ge y hy) (hg _ (by simp))

/-- Is it one of the first k? -/
def seenB (xs : List (Int × Int)) (m : Int × Int) (k : Nat) : Bool := (xs.take k).any (fun x => x.1 == m.1 && x.2 == m.2)

theorem seen_step (xs : List (Int × Int)) (m : Int × Int) (k : Nat) (h : k < xs.length) : seenB xs m (k + 1) = (seenB xs m k || (xs[k].1 == m.1 && xs[k].2 == m.2)) := by
  unfold seenB
  rw [List.take_succ_eq_append_getElem h, List.any_append]
  simp

theorem seen_all {xs : List (Int × Int)} (h : xs ≠ []) (k : Nat) (hk : xs.length ≤ k) : seenB xs (maxL xs) k = true := by
  unfold seenB
  rw [List.take_of_length_le hk, List.any_eq_true]
  exact ⟨maxL xs, maxL_mem h, by simp⟩

end Go.Proofs.Ytgfgcfmifebnbaa.StampMath
