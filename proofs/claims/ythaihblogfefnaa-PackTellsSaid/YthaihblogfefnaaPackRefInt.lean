/-
  The walks of the document's own TakeInt and TakeText.
-/
import Derived.Test.YthaihblogfefnaaPackRef
namespace Go.Proofs.Ythaihblogfefnaa
open Go.RowKit PackMath

theorem refTake_some (s : ByteArray) (hs : s.size ≤ 4000) (m : Nat) (t : List UInt8) (h : takeL s.data.toList = some (m, t)) (w : World) :
    Calls Try.prog 9 #[.string s] w fun e w' => e = .returned (.tuple #[.int .u64 (m : Int), .string ⟨t.toArray⟩, .int .i64 0]) ∧ Below w.heap.size w w' :=
  (refTake_any s hs w).mono fun _ _ ⟨he, hb⟩ => ⟨by rw [he, h]; rfl, hb⟩

theorem refTake_none (s : ByteArray) (hs : s.size ≤ 4000) (h : takeL s.data.toList = none) (w : World) :
    Calls Try.prog 9 #[.string s] w fun e w' => e = .returned (.tuple #[.int .u64 0, .string ⟨#[]⟩, .int .i64 2]) ∧ Below w.heap.size w w' :=
  (refTake_any s hs w).mono fun _ _ ⟨he, hb⟩ => ⟨by rw [he, h]; rfl, hb⟩

set_option maxHeartbeats 400000 in
theorem refTakeInt_none (s : ByteArray) (hs : s.size ≤ 4000) (h : takeL s.data.toList = none) (w : World) :
    Calls Try.prog 11 #[.string s] w fun e w' => e = .returned (.tuple #[.int .i64 0, .string ⟨#[]⟩, .int .i64 2]) ∧ Below w.heap.size w w' := by
  have H := Lib.hid h
  clear h
  go_enter Try.func11, Try.ntmps11
  go_wp2_with fail
  refine (refTake_none s hs H.out _).mono ?_
  rintro e w1 ⟨rfl, hb1⟩
  go_wp2_with fail
  go_ret3
  exact ⟨rfl, hb1⟩

set_option maxHeartbeats 400000 in
theorem refTakeInt_some (s : ByteArray) (hs : s.size ≤ 4000) (m : Nat) (t : List UInt8) (h : takeL s.data.toList = some (m, t)) (w : World) :
    Calls Try.prog 11 #[.string s] w fun e w' => e = .returned (.tuple #[.int .i64 (unzig m), .string ⟨t.toArray⟩, .int .i64 0]) ∧ Below w.heap.size w w' := by
  have hm : (m : Int) ≤ 18446744073709551615 := by have := takeL_u64 h; unfold IsU64 at this; omega
  have H := Lib.hid h
  clear h
  by_cases h2 : m % 2 = 1
  · have h2' : ((m : Int) % 2 == 1) = true := by rw [beq_iff_eq]; omega
    have H2 := Lib.hid h2
    clear h2
    go_enter Try.func11, Try.ntmps11
    go_wp2_with fail
    refine (refTake_some s hs m t H.out _).mono ?_
    rintro e w1 ⟨rfl, hb1⟩
    go_wp2_with fail
    try (go_quiet (fail); go_wp2_with fail)
    go_ret3
    refine ⟨by rw [show unzig m = -((m : Int) / 2) - 1 by unfold unzig; rw [if_pos H2.out]; omega]; rfl, ?_⟩
    first | exact hb1 | exact below_drewN' hb1 _
  · have h2' : ((m : Int) % 2 == 1) = false := by rw [beq_eq_false_iff_ne]; omega
    have H2 := Lib.hid h2
    clear h2
    go_enter Try.func11, Try.ntmps11
    go_wp2_with fail
    refine (refTake_some s hs m t H.out _).mono ?_
    rintro e w1 ⟨rfl, hb1⟩
    go_wp2_with fail
    try (go_quiet (fail); go_wp2_with fail)
    go_ret3
    refine ⟨by rw [show unzig m = (m : Int) / 2 by unfold unzig; rw [if_neg H2.out]; omega]; rfl, ?_⟩
    first | exact hb1 | exact below_drewN' hb1 _

set_option maxRecDepth 100000 in
set_option maxHeartbeats 800000 in
theorem refTakeText_any (s : ByteArray) (hs : s.size ≤ 4000) (most : Int) (hmost : IsI64 most) (w : World) :
    Calls Try.prog 13 #[.string s, .int .i64 most] w fun e w' => e = .returned (textRes (textL s.data.toList most)) ∧ Below w.heap.size w w' := by
  cases h : takeL s.data.toList with
  | none =>
    have H := Lib.hid h
    clear h
    go_enter Try.func13, Try.ntmps13
    go_wp2_with fail
    refine (refTake_none s hs H.out _).mono ?_
    rintro e w1 ⟨rfl, hb1⟩
    go_wp2_with fail
    go_ret3
    exact ⟨by rw [textL_none H.out]; rfl, hb1⟩
  | some x =>
    obtain ⟨n, t⟩ := x
    have hu : (n : Int) ≤ 18446744073709551615 := by have := takeL_u64 h; unfold IsU64 at this; omega
    have hl : t.length ≤ s.size := by have := takeL_len h; simpa using this
    have hm1 := hmost.1
    have hm2 := hmost.2
    clear hmost
    have H := Lib.hid h
    clear h
    by_cases h1 : most < 0
    · go_enter Try.func13, Try.ntmps13
      go_wp2_with fail
      refine (refTake_some s hs n t H.out _).mono ?_
      rintro e w1 ⟨rfl, hb1⟩
      go_wp2_with fail
      go_ret3
      exact ⟨by rw [textL_bad H.out (Or.inl h1)]; rfl, hb1⟩
    · by_cases h2 : most < (n : Int)
      · go_enter Try.func13, Try.ntmps13
        go_wp2_with fail
        refine (refTake_some s hs n t H.out _).mono ?_
        rintro e w1 ⟨rfl, hb1⟩
        go_wp2_with fail
        go_ret3
        exact ⟨by rw [textL_bad H.out (Or.inr (Or.inl h2))]; rfl, hb1⟩
      · by_cases h3 : t.length < n
        · go_enter Try.func13, Try.ntmps13
          go_wp2_with fail
          refine (refTake_some s hs n t H.out _).mono ?_
          rintro e w1 ⟨rfl, hb1⟩
          go_wp2_with fail
          go_ret3
          exact ⟨by rw [textL_bad H.out (Or.inr (Or.inr h3))]; rfl, hb1⟩
        · go_enter Try.func13, Try.ntmps13
          go_wp2_with fail
          refine (refTake_some s hs n t H.out _).mono ?_
          rintro e w1 ⟨rfl, hb1⟩
          have hwr : IntKind.i64.wrap (n : Int) = (n : Int) := IntWalk.i64_in _ (by omega)
          go_wp2_with fail
          go_quiet (fail)
          go_wp2_with fail
          go_ret3
          exact ⟨by rw [textL_good H.out (by omega)]; exact textRes_good t n, below_drewN' hb1 _⟩

end Go.Proofs.Ythaihblogfefnaa
