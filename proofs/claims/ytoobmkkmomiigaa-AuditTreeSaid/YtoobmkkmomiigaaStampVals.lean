/-
  What the calls on stamps answer, as values. It needs no program.
-/
import Derived.Test.YtoobmkkmomiigaaStampMath
namespace Go.Proofs.Ytoobmkkmomiigaa
open Go.RowKit StampMath PackMath

/-- What the next stamp of a time is. -/
def nextV (t r : Int) : Value :=
  if r < 0 ∨ 7 < r ∨ t < 0 then .tuple #[.agg #[.int .i64 0, .int .i64 0], .int .i64 1]
  else if 1073741824 ≤ t then .tuple #[.agg #[.int .i64 0, .int .i64 0], .int .i64 14]
  else .tuple #[.agg #[.int .i64 (t + 1), .int .i64 r], .int .i64 0]

/-- The bytes of a stamp. -/
def putL (t r : Int) : List UInt8 := numL (zig t) ++ numL (zig r)

theorem putL_str (t r : Int) : (⟨(numL (zig t)).toArray⟩ : ByteArray) ++ ⟨(numL (zig r)).toArray⟩ = ⟨(putL t r).toArray⟩ := by
  rw [mk_append_data]; rfl

/-- The stamp that may be with which a list begins. -/
def stampL (l : List UInt8) : Option (Int × Int × List UInt8) :=
  match takeL l with
  | none => none
  | some (m, t) => match takeL t with
    | none => none
    | some (k, u) => if mayB (unzig m) (unzig k) then some (unzig m, unzig k, u) else none

/-- The three results. -/
def stampRes : Option (Int × Int × List UInt8) → Value
  | some (t, r, u) => .tuple #[.agg #[.int .i64 t, .int .i64 r], .string ⟨u.toArray⟩, .int .i64 0]
  | none => .tuple #[.agg #[.int .i64 0, .int .i64 0], .string ⟨#[]⟩, .int .i64 2]

theorem stampL_none1 {l : List UInt8} (h : takeL l = none) : stampL l = none := by unfold stampL; rw [h]
theorem stampL_none2 {l t : List UInt8} {m : Nat} (h : takeL l = some (m, t)) (h2 : takeL t = none) : stampL l = none := by unfold stampL; rw [h]; simp only; rw [h2]
theorem stampL_may {l t u : List UInt8} {m k : Nat} (h : takeL l = some (m, t)) (h2 : takeL t = some (k, u)) : stampL l = if mayB (unzig m) (unzig k) then some (unzig m, unzig k, u) else none := by unfold stampL; rw [h]; simp only; rw [h2]

theorem putL_len (t r : Int) : (putL t r).length ≤ 20 := by
  have h1 := (numL_length (zig t)).2
  have h2 := (numL_length (zig r)).2
  unfold putL
  rw [List.length_append]
  omega

/-- What was put is taken, if it may be. -/
theorem stampL_putL (t r : Int) (ht : IsI64 t) (hr : IsI64 r) (s : List UInt8) : stampL (putL t r ++ s) = if mayB t r then some (t, r, s) else none := by
  unfold putL
  rw [List.append_assoc, stampL_may (takeL_numL _ (zig_u64 ht) _) (takeL_numL _ (zig_u64 hr) _), unzig_zig, unzig_zig]

/-- What is taken has the very bytes, and may be. -/
theorem stampL_very {l u : List UInt8} {t r : Int} (h : stampL l = some (t, r, u)) : putL t r ++ u = l ∧ mayB t r = true ∧ IsI64 t ∧ IsI64 r ∧ u.length ≤ l.length := by
  cases h1 : takeL l with
  | none => rw [stampL_none1 h1] at h; cases h
  | some x =>
    obtain ⟨m, v⟩ := x
    cases h2 : takeL v with
    | none => rw [stampL_none2 h1 h2] at h; cases h
    | some y =>
      obtain ⟨k, v'⟩ := y
      rw [stampL_may h1 h2] at h
      by_cases hm : mayB (unzig m) (unzig k) = true
      · rw [if_pos hm] at h
        simp only [Option.some.injEq, Prod.mk.injEq] at h
        obtain ⟨rfl, rfl, rfl⟩ := h
        have e : putL (unzig m) (unzig k) ++ v' = l := by
          unfold putL
          rw [zig_unzig, zig_unzig, List.append_assoc, numL_takeL h2, numL_takeL h1]
        exact ⟨e, hm, unzig_i64 (takeL_u64 h1), unzig_i64 (takeL_u64 h2), by rw [← e]; simp⟩
      · rw [if_neg hm] at h; cases h

end Go.Proofs.Ytoobmkkmomiigaa
