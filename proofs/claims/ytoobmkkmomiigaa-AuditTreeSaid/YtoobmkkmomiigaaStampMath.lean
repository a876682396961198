/-
  Plain mathematics of layer 3: stamps in their order. It needs no program.
-/
import Derived.Test.YtoobmkkmomiigaaPackTakeMath
import Derived.Test.YtoobmkkmomiigaaBase
namespace Go.Proofs.Ytoobmkkmomiigaa.StampMath
open PackMath

/-- A stamp as a value. -/
def sv (t r : Int) : Value := .agg #[.int .i64 t, .int .i64 r]

/-- Is one ahead of another one? -/
def lessB (t r t' r' : Int) : Bool := decide (t < t') || (t == t' && decide (r < r'))

/-- -1, 0, 1. -/
def cmp (t r t' r' : Int) : Int := if lessB t r t' r' then -1 else if lessB t' r' t r then 1 else 0

/-- May it be? -/
def mayB (t r : Int) : Bool := if t = 0 then r == 0 else decide (1 ≤ t) && decide (t ≤ 1073741824) && decide (0 ≤ r) && decide (r ≤ 7)

theorem lessB_iff (t r t' r' : Int) : lessB t r t' r' = true ↔ t < t' ∨ t = t' ∧ r < r' := by
  simp [lessB]

theorem cmp_cases (t r t' r' : Int) : (cmp t r t' r' = -1 ∧ (t < t' ∨ t = t' ∧ r < r')) ∨ (cmp t r t' r' = 1 ∧ (t' < t ∨ t' = t ∧ r' < r)) ∨ (cmp t r t' r' = 0 ∧ t = t' ∧ r = r') := by
  unfold cmp
  have h1 := lessB_iff t r t' r'
  have h2 := lessB_iff t' r' t r
  by_cases a : lessB t r t' r' = true
  · rw [if_pos a]; exact Or.inl ⟨rfl, h1.1 a⟩
  · rw [if_neg a]
    by_cases b : lessB t' r' t r = true
    · rw [if_pos b]; exact Or.inr (Or.inl ⟨rfl, h2.1 b⟩)
    · rw [if_neg b]
      refine Or.inr (Or.inr ⟨rfl, ?_⟩)
      have h1' : ¬ (t < t' ∨ t = t' ∧ r < r') := fun h => a (h1.2 h)
      have h2' : ¬ (t' < t ∨ t' = t ∧ r' < r) := fun h => b (h2.2 h)
      omega

theorem mayB_iff (t r : Int) : mayB t r = true ↔ (t = 0 ∧ r = 0) ∨ (1 ≤ t ∧ t ≤ 1073741824 ∧ 0 ≤ r ∧ r ≤ 7) := by
  unfold mayB
  by_cases h : t = 0
  · rw [if_pos h]; simp; omega
  · rw [if_neg h]; simp; omega

theorem cmp_turn (t r t' r' : Int) : cmp t' r' t r = -cmp t r t' r' := by
  have h1 := cmp_cases t r t' r'
  have h2 := cmp_cases t' r' t r
  omega

theorem cmp_range (t r t' r' : Int) : cmp t r t' r' = -1 ∨ cmp t r t' r' = 0 ∨ cmp t r t' r' = 1 := by
  have h1 := cmp_cases t r t' r'
  omega

theorem cmp_zero (t r t' r' : Int) : (cmp t r t' r' == 0) = (t == t' && r == r') := by
  have h1 := cmp_cases t r t' r'
  rw [Bool.eq_iff_iff, Bool.and_eq_true, beq_iff_eq, beq_iff_eq, beq_iff_eq]
  omega

theorem cmp_trans (t r t' r' t'' r'' : Int) : (cmp t r t' r' ≤ 0 → cmp t' r' t'' r'' ≤ 0 → cmp t r t'' r'' ≤ 0) ∧ (cmp t r t' r' < 0 → cmp t' r' t'' r'' < 0 → cmp t r t'' r'' < 0) := by
  have h1 := cmp_cases t r t' r'
  have h2 := cmp_cases t' r' t'' r''
  have h3 := cmp_cases t r t'' r''
  omega

/-- The greatest of some; of none the zero one. -/
def maxL : List (Int × Int) → Int × Int
  | [] => (0, 0)
  | x :: r => r.foldl (fun m y => if lessB m.1 m.2 y.1 y.2 then y else m) x

theorem maxL_step (xs : List (Int × Int)) (k : Nat) (h : k < xs.length) :
    maxL (xs.take (k + 1)) = if k = 0 then xs[k] else if lessB (maxL (xs.take k)).1 (maxL (xs.take k)).2 xs[k].1 xs[k].2 then xs[k] else maxL (xs.take k) := by
  rw [List.take_succ_eq_append_getElem h]
  by_cases h0 : k = 0
  · subst h0
    rw [if_pos rfl]
    rfl
  · rw [if_neg h0]
    cases hx : xs.take k with
    | nil =>
      exfalso
      have := congrArg List.length hx
      rw [List.length_take, List.length_nil] at this
      omega
    | cons y r =>
      show (r ++ [xs[k]]).foldl _ y = _
      rw [List.foldl_append]
      rfl

end Go.Proofs.Ytoobmkkmomiigaa.StampMath
