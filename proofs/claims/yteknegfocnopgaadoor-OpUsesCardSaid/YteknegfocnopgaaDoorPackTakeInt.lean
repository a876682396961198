/-
  The walk of pack.TakeInt.
-/
import Derived.Test.YteknegfocnopgaaDoorPackTake
namespace Go.Proofs.YteknegfocnopgaaDoor
open Go.RowKit PackMath

set_option maxHeartbeats 400000 in
theorem takeInt_none (s : ByteArray) (hs : s.size ≤ 30000) (h : takeL s.data.toList = none) (w : World) :
    Calls Tryd.prog 44 #[.string s] w fun e w' => e = .returned (.tuple #[.int .i64 0, .string ⟨#[]⟩, .int .i64 2]) ∧ Below w.heap.size w w' := by
  have H := Lib.hid h
  clear h
  go_enter Tryd.func44, Tryd.ntmps44
  go_wp2_with fail
  refine (take_none s hs H.out _).mono ?_
  rintro e w1 ⟨rfl, hb1⟩
  go_wp2_with fail
  go_ret3
  exact ⟨rfl, hb1⟩

set_option maxHeartbeats 400000 in
theorem takeInt_some (s : ByteArray) (hs : s.size ≤ 30000) (m : Nat) (t : List UInt8) (h : takeL s.data.toList = some (m, t)) (w : World) :
    Calls Tryd.prog 44 #[.string s] w fun e w' => e = .returned (.tuple #[.int .i64 (unzig m), .string ⟨t.toArray⟩, .int .i64 0]) ∧ Below w.heap.size w w' := by
  have hm : (m : Int) ≤ 18446744073709551615 := by have := takeL_u64 h; unfold IsU64 at this; omega
  have H := Lib.hid h
  clear h
  by_cases h2 : m % 2 = 1
  · have h2' : ((m : Int) % 2 == 1) = true := by rw [beq_iff_eq]; omega
    have H2 := Lib.hid h2
    clear h2
    go_enter Tryd.func44, Tryd.ntmps44
    go_wp2_with fail
    refine (take_some s hs m t H.out _).mono ?_
    rintro e w1 ⟨rfl, hb1⟩
    go_wp2_with fail
    go_ret3
    exact ⟨by rw [show unzig m = -((m : Int) / 2) - 1 by unfold unzig; rw [if_pos H2.out]; omega]; rfl, hb1⟩
  · have h2' : ((m : Int) % 2 == 1) = false := by rw [beq_eq_false_iff_ne]; omega
    have H2 := Lib.hid h2
    clear h2
    go_enter Tryd.func44, Tryd.ntmps44
    go_wp2_with fail
    refine (take_some s hs m t H.out _).mono ?_
    rintro e w1 ⟨rfl, hb1⟩
    go_wp2_with fail
    go_ret3
    exact ⟨by rw [show unzig m = (m : Int) / 2 by unfold unzig; rw [if_neg H2.out]; omega]; rfl, hb1⟩

end Go.Proofs.YteknegfocnopgaaDoor
