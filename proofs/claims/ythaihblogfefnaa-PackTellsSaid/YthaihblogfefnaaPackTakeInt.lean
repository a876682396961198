/-
  The walks of pack.TakeInt and pack.TakeText.
-/
import Derived.Test.YthaihblogfefnaaPackTake
namespace Go.Proofs.Ythaihblogfefnaa
open Go.RowKit PackMath

theorem take_some (s : ByteArray) (hs : s.size ≤ 5000) (m : Nat) (t : List UInt8) (h : takeL s.data.toList = some (m, t)) (w : World) :
    Calls Try.prog 8 #[.string s] w fun e w' => e = .returned (.tuple #[.int .u64 (m : Int), .string ⟨t.toArray⟩, .int .i64 0]) ∧ Below w.heap.size w w' :=
  (take_any s hs w).mono fun _ _ ⟨he, hb⟩ => ⟨by rw [he, h]; rfl, hb⟩

theorem take_none (s : ByteArray) (hs : s.size ≤ 5000) (h : takeL s.data.toList = none) (w : World) :
    Calls Try.prog 8 #[.string s] w fun e w' => e = .returned (.tuple #[.int .u64 0, .string ⟨#[]⟩, .int .i64 2]) ∧ Below w.heap.size w w' :=
  (take_any s hs w).mono fun _ _ ⟨he, hb⟩ => ⟨by rw [he, h]; rfl, hb⟩

set_option maxHeartbeats 400000 in
theorem takeInt_none (s : ByteArray) (hs : s.size ≤ 5000) (h : takeL s.data.toList = none) (w : World) :
    Calls Try.prog 10 #[.string s] w fun e w' => e = .returned (.tuple #[.int .i64 0, .string ⟨#[]⟩, .int .i64 2]) ∧ Below w.heap.size w w' := by
  have H := Lib.hid h
  clear h
  go_enter Try.func10, Try.ntmps10
  go_wp2_with fail
  refine (take_none s hs H.out _).mono ?_
  rintro e w1 ⟨rfl, hb1⟩
  go_wp2_with fail
  go_ret3
  exact ⟨rfl, hb1⟩

set_option maxHeartbeats 400000 in
theorem takeInt_some (s : ByteArray) (hs : s.size ≤ 5000) (m : Nat) (t : List UInt8) (h : takeL s.data.toList = some (m, t)) (w : World) :
    Calls Try.prog 10 #[.string s] w fun e w' => e = .returned (.tuple #[.int .i64 (unzig m), .string ⟨t.toArray⟩, .int .i64 0]) ∧ Below w.heap.size w w' := by
  have hm : (m : Int) ≤ 18446744073709551615 := by have := takeL_u64 h; unfold IsU64 at this; omega
  have H := Lib.hid h
  clear h
  by_cases h2 : m % 2 = 1
  · have h2' : ((m : Int) % 2 == 1) = true := by rw [beq_iff_eq]; omega
    have H2 := Lib.hid h2
    clear h2
    go_enter Try.func10, Try.ntmps10
    go_wp2_with fail
    refine (take_some s hs m t H.out _).mono ?_
    rintro e w1 ⟨rfl, hb1⟩
    go_wp2_with fail
    go_ret3
    exact ⟨by rw [show unzig m = -((m : Int) / 2) - 1 by unfold unzig; rw [if_pos H2.out]; omega]; rfl, hb1⟩
  · have h2' : ((m : Int) % 2 == 1) = false := by rw [beq_eq_false_iff_ne]; omega
    have H2 := Lib.hid h2
    clear h2
    go_enter Try.func10, Try.ntmps10
    go_wp2_with fail
    refine (take_some s hs m t H.out _).mono ?_
    rintro e w1 ⟨rfl, hb1⟩
    go_wp2_with fail
    go_ret3
    exact ⟨by rw [show unzig m = (m : Int) / 2 by unfold unzig; rw [if_neg H2.out]; omega]; rfl, hb1⟩

/-- The three results of a text. -/
def textRes : Option (List UInt8 × List UInt8) → Value
  | some (a, b) => .tuple #[.string ⟨a.toArray⟩, .string ⟨b.toArray⟩, .int .i64 0]
  | none => .tuple #[.string ⟨#[]⟩, .string ⟨#[]⟩, .int .i64 2]

theorem textL_none {l : List UInt8} {most : Int} (h : takeL l = none) : textL l most = none := by unfold textL; rw [h]
theorem textL_bad {l : List UInt8} {most : Int} {n : Nat} {t : List UInt8} (h : takeL l = some (n, t)) (hc : most < 0 ∨ most < (n : Int) ∨ t.length < n) : textL l most = none := by
  unfold textL; rw [h]; simp only; rw [if_pos hc]
theorem textL_good {l : List UInt8} {most : Int} {n : Nat} {t : List UInt8} (h : takeL l = some (n, t)) (hc : ¬ (most < 0 ∨ most < (n : Int) ∨ t.length < n)) : textL l most = some (t.take n, t.drop n) := by
  unfold textL; rw [h]; simp only; rw [if_neg hc]

theorem textRes_good (t : List UInt8) (n : Nat) :
    Ending.returned (.tuple #[.string ((⟨t.toArray⟩ : ByteArray).extract 0 n), .string ((⟨t.toArray⟩ : ByteArray).extract n t.length), .int .i64 0]) = .returned (textRes (some (t.take n, t.drop n))) := by
  have h1 : (⟨t.toArray⟩ : ByteArray).extract 0 n = ⟨(t.take n).toArray⟩ := by rw [Lib.extract_eq]; simp
  have h2 : (⟨t.toArray⟩ : ByteArray).extract n t.length = ⟨(t.drop n).toArray⟩ := extract_rest ⟨t.toArray⟩ n
  rw [h1, h2]
  rfl

set_option maxHeartbeats 800000 in
theorem takeText_any (s : ByteArray) (hs : s.size ≤ 5000) (most : Int) (hmost : IsI64 most) (w : World) :
    Calls Try.prog 12 #[.string s, .int .i64 most] w fun e w' => e = .returned (textRes (textL s.data.toList most)) ∧ Below w.heap.size w w' := by
  cases h : takeL s.data.toList with
  | none =>
    have H := Lib.hid h
    clear h
    go_enter Try.func12, Try.ntmps12
    go_wp2_with fail
    refine (take_none s hs H.out _).mono ?_
    rintro e w1 ⟨rfl, hb1⟩
    go_wp2_with fail
    go_ret3
    exact ⟨by rw [textL_none H.out]; rfl, hb1⟩
  | some x =>
    obtain ⟨n, t⟩ := x
    have hu : (n : Int) ≤ 18446744073709551615 := by have := takeL_u64 h; unfold IsU64 at this; omega
    have hl : t.length ≤ s.size := by have := takeL_len h; simpa using this
    have hm1 := hmost.1
    have hm2 := hmost.2
    clear hmost
    have H := Lib.hid h
    clear h
    by_cases h1 : most < 0
    · go_enter Try.func12, Try.ntmps12
      go_wp2_with fail
      refine (take_some s hs n t H.out _).mono ?_
      rintro e w1 ⟨rfl, hb1⟩
      go_wp2_with fail
      go_ret3
      exact ⟨by rw [textL_bad H.out (Or.inl h1)]; rfl, hb1⟩
    · by_cases h2 : most < (n : Int)
      · go_enter Try.func12, Try.ntmps12
        go_wp2_with fail
        refine (take_some s hs n t H.out _).mono ?_
        rintro e w1 ⟨rfl, hb1⟩
        go_wp2_with fail
        go_ret3
        exact ⟨by rw [textL_bad H.out (Or.inr (Or.inl h2))]; rfl, hb1⟩
      · by_cases h3 : t.length < n
        · go_enter Try.func12, Try.ntmps12
          go_wp2_with fail
          refine (take_some s hs n t H.out _).mono ?_
          rintro e w1 ⟨rfl, hb1⟩
          go_wp2_with fail
          go_ret3
          exact ⟨by rw [textL_bad H.out (Or.inr (Or.inr h3))]; rfl, hb1⟩
        · go_enter Try.func12, Try.ntmps12
          go_wp2_with fail
          refine (take_some s hs n t H.out _).mono ?_
          rintro e w1 ⟨rfl, hb1⟩
          go_wp2_with fail
          go_quiet (fail)
          go_wp2_with fail
          go_ret3
          exact ⟨by rw [textL_good H.out (by omega)]; exact textRes_good t n, below_drewN' hb1 _⟩

end Go.Proofs.Ythaihblogfefnaa
