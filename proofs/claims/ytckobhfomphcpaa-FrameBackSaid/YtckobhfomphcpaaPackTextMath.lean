/-
  The three results of a text, and when it is taken. It needs no program.
-/
import Derived.Test.YtckobhfomphcpaaPackTakeMath
import Derived.Test.YtckobhfomphcpaaBase
namespace Go.Proofs.Ytckobhfomphcpaa
open Go.RowKit PackMath

/-- The three results of a text. -/
def textRes : Option (List UInt8 × List UInt8) → Value
  | some (a, b) => .tuple #[.string ⟨a.toArray⟩, .string ⟨b.toArray⟩, .int .i64 0]
  | none => .tuple #[.string ⟨#[]⟩, .string ⟨#[]⟩, .int .i64 2]

theorem textL_none {l : List UInt8} {most : Int} (h : takeL l = none) : textL l most = none := by unfold textL; rw [h]
theorem textL_bad {l : List UInt8} {most : Int} {n : Nat} {t : List UInt8} (h : takeL l = some (n, t)) (hc : most < 0 ∨ most < (n : Int) ∨ t.length < n) : textL l most = none := by
  unfold textL; rw [h]; simp only; rw [if_pos hc]
theorem textL_good {l : List UInt8} {most : Int} {n : Nat} {t : List UInt8} (h : takeL l = some (n, t)) (hc : ¬ (most < 0 ∨ most < (n : Int) ∨ t.length < n)) : textL l most = some (t.take n, t.drop n) := by
  unfold textL; rw [h]; simp only; rw [if_neg hc]

theorem textRes_good (t : List UInt8) (n : Nat) :
    Ending.returned (.tuple #[.string ((⟨t.toArray⟩ : ByteArray).extract 0 n), .string ((⟨t.toArray⟩ : ByteArray).extract n t.length), .int .i64 0]) = .returned (textRes (some (t.take n, t.drop n))) := by
  have h1 : (⟨t.toArray⟩ : ByteArray).extract 0 n = ⟨(t.take n).toArray⟩ := by rw [Lib.extract_eq]; simp
  have h2 : (⟨t.toArray⟩ : ByteArray).extract n t.length = ⟨(t.drop n).toArray⟩ := extract_rest ⟨t.toArray⟩ n
  rw [h1, h2]
  rfl

theorem takeRes_done {s : ByteArray} {k m : Nat} {x : Int} (h : takeL s.data.toList = some (m, s.data.toList.drop (k + 1))) (hS : x = (m : Int)) :
    Ending.returned (.tuple #[.int .u64 x, .string (s.extract (k + 1) s.size), .int .i64 0]) = .returned (takeRes (takeL s.data.toList)) := by
  rw [h, hS, extract_rest]
  rfl

theorem takeRes_done' {s : ByteArray} {k m : Nat} (h : takeL s.data.toList = some (m, s.data.toList.drop k)) :
    Ending.returned (.tuple #[.int .u64 (m : Int), .string (s.extract k s.size), .int .i64 0]) = .returned (takeRes (takeL s.data.toList)) := by
  rw [h, extract_rest]
  rfl

end Go.Proofs.Ytckobhfomphcpaa
