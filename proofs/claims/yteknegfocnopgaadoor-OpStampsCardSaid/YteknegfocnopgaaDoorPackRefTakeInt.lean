/-
  The walk of the document's own TakeInt.
-/
import Derived.Test.YteknegfocnopgaaDoorPackRefTake
namespace Go.Proofs.YteknegfocnopgaaDoor
open Go.RowKit PackMath

set_option maxHeartbeats 400000 in
theorem refTakeInt_none (s : ByteArray) (hs : s.size ≤ 4000) (h : takeL s.data.toList = none) (w : World) :
    Calls Tryd.prog 26 #[.string s] w fun e w' => e = .returned (.tuple #[.int .i64 0, .string ⟨#[]⟩, .int .i64 2]) ∧ Below w.heap.size w w' := by
  have H := Lib.hid h
  clear h
  go_enter Tryd.func26, Tryd.ntmps26
  go_wp2_with fail
  refine (refTake_none s hs H.out _).mono ?_
  rintro e w1 ⟨rfl, hb1⟩
  go_wp2_with fail
  go_ret3
  exact ⟨rfl, hb1⟩

set_option maxHeartbeats 400000 in
theorem refTakeInt_some (s : ByteArray) (hs : s.size ≤ 4000) (m : Nat) (t : List UInt8) (h : takeL s.data.toList = some (m, t)) (w : World) :
    Calls Tryd.prog 26 #[.string s] w fun e w' => e = .returned (.tuple #[.int .i64 (unzig m), .string ⟨t.toArray⟩, .int .i64 0]) ∧ Below w.heap.size w w' := by
  have hm : (m : Int) ≤ 18446744073709551615 := by have := takeL_u64 h; unfold IsU64 at this; omega
  have H := Lib.hid h
  clear h
  by_cases h2 : m % 2 = 1
  · have h2' : ((m : Int) % 2 == 1) = true := by rw [beq_iff_eq]; omega
    have H2 := Lib.hid h2
    clear h2
    go_enter Tryd.func26, Tryd.ntmps26
    go_wp2_with fail
    refine (refTake_some s hs m t H.out _).mono ?_
    rintro e w1 ⟨rfl, hb1⟩
    go_wp2_with fail
    try (go_quiet (fail); go_wp2_with fail)
    go_ret3
    refine ⟨by rw [show unzig m = -((m : Int) / 2) - 1 by unfold unzig; rw [if_pos H2.out]; omega]; rfl, ?_⟩
    first | exact hb1 | exact below_drewN' hb1 _
  · have h2' : ((m : Int) % 2 == 1) = false := by rw [beq_eq_false_iff_ne]; omega
    have H2 := Lib.hid h2
    clear h2
    go_enter Tryd.func26, Tryd.ntmps26
    go_wp2_with fail
    refine (refTake_some s hs m t H.out _).mono ?_
    rintro e w1 ⟨rfl, hb1⟩
    go_wp2_with fail
    try (go_quiet (fail); go_wp2_with fail)
    go_ret3
    refine ⟨by rw [show unzig m = (m : Int) / 2 by unfold unzig; rw [if_neg H2.out]; omega]; rfl, ?_⟩
    first | exact hb1 | exact below_drewN' hb1 _

end Go.Proofs.YteknegfocnopgaaDoor
