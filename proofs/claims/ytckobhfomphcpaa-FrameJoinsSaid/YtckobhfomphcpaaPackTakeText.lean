/-
  The walk of pack.TakeText.
-/
import Derived.Test.YtckobhfomphcpaaPackTake
namespace Go.Proofs.Ytckobhfomphcpaa
open Go.RowKit PackMath

set_option maxHeartbeats 800000 in
theorem takeText_any (s : ByteArray) (hs : s.size ≤ 30000) (most : Int) (hmost : IsI64 most) (w : World) :
    Calls Try.prog 22 #[.string s, .int .i64 most] w fun e w' => e = .returned (textRes (textL s.data.toList most)) ∧ Below w.heap.size w w' := by
  cases h : takeL s.data.toList with
  | none =>
    have H := Lib.hid h
    clear h
    go_enter Try.func22, Try.ntmps22
    go_wp2_with fail
    refine (take_none s hs H.out _).mono ?_
    rintro e w1 ⟨rfl, hb1⟩
    go_wp2_with fail
    go_ret3
    exact ⟨by rw [textL_none H.out]; rfl, hb1⟩
  | some x =>
    obtain ⟨n, t⟩ := x
    have hu : (n : Int) ≤ 18446744073709551615 := by have := takeL_u64 h; unfold IsU64 at this; omega
    have hl : t.length ≤ s.size := by have := takeL_len h; simpa using this
    have hm1 := hmost.1
    have hm2 := hmost.2
    clear hmost
    have H := Lib.hid h
    clear h
    by_cases h1 : most < 0
    · go_enter Try.func22, Try.ntmps22
      go_wp2_with fail
      refine (take_some s hs n t H.out _).mono ?_
      rintro e w1 ⟨rfl, hb1⟩
      go_wp2_with fail
      go_ret3
      exact ⟨by rw [textL_bad H.out (Or.inl h1)]; rfl, hb1⟩
    · by_cases h2 : most < (n : Int)
      · go_enter Try.func22, Try.ntmps22
        go_wp2_with fail
        refine (take_some s hs n t H.out _).mono ?_
        rintro e w1 ⟨rfl, hb1⟩
        go_wp2_with fail
        go_ret3
        exact ⟨by rw [textL_bad H.out (Or.inr (Or.inl h2))]; rfl, hb1⟩
      · by_cases h3 : t.length < n
        · go_enter Try.func22, Try.ntmps22
          go_wp2_with fail
          refine (take_some s hs n t H.out _).mono ?_
          rintro e w1 ⟨rfl, hb1⟩
          go_wp2_with fail
          go_ret3
          exact ⟨by rw [textL_bad H.out (Or.inr (Or.inr h3))]; rfl, hb1⟩
        · go_enter Try.func22, Try.ntmps22
          go_wp2_with fail
          refine (take_some s hs n t H.out _).mono ?_
          rintro e w1 ⟨rfl, hb1⟩
          go_wp2_with fail
          go_quiet (fail)
          go_wp2_with fail
          go_ret3
          exact ⟨by rw [textL_good H.out (by omega)]; exact textRes_good t n, below_drewN' hb1 _⟩

end Go.Proofs.Ytckobhfomphcpaa
