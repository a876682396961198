/-
  The walk of the document's own Put (stamps).
-/
import Derived.Test.YteknegfocnopgaaDoorStampVals
import Derived.Test.YteknegfocnopgaaDoorPackRefInt
import Derived.Deep.RegionHeld3
namespace Go.Proofs.YteknegfocnopgaaDoor
open Go.RowKit StampMath PackMath

set_option maxHeartbeats 400000 in
theorem refPut (t r : Int) (ht : IsI64 t) (hr : IsI64 r) (w : World) :
    Calls Tryd.prog 41 #[.agg #[.int .i64 t, .int .i64 r]] w fun e w' => e = .returned (.string ⟨(putL t r).toArray⟩) ∧ Below w.heap.size w w' := by
  have HT := Lib.hid ht
  have HR := Lib.hid hr
  have hadd : ∀ W : World, (Op.stringOp .add ⟨(numL (zig t)).toArray⟩ ⟨(numL (zig r)).toArray⟩).run Tryd.prog W = .ok (.string ⟨(putL t r).toArray⟩) W := fun W => by
    have hl1 := (numL_length (zig t)).2
    have hl2 := (numL_length (zig r)).2
    rw [run_string_add_sum W _ _ (by show (numL (zig t)).length + (numL (zig r)).length ≤ _; omega), putL_str]
  have hS0 : ((w.alloc (.cells #[.int .i64 t, .int .i64 r] 23)).drew.cell? ⟨w.heap.size, 0, none⟩ = some (.int .i64 t) ∧ (w.alloc (.cells #[.int .i64 t, .int .i64 r] 23)).drew.cell? ⟨w.heap.size, 1, none⟩ = some (.int .i64 r)) ∧
      KeptFrom w (w.alloc (.cells #[.int .i64 t, .int .i64 r] 23)).drew :=
    ⟨⟨cell_of_row _ _ 0 _ _ (0, 0) (heap_alloc_new w _), cell_of_row _ _ 1 _ _ (0, 0) (heap_alloc_new w _)⟩, ((Below.refl _ _).alloc (Nat.le_refl _) _).drew⟩
  clear ht hr
  go_enter Tryd.func41, Tryd.ntmps41
  go_wp2_with fail
  go_region_held3 (fun W => (W.cell? ⟨w.heap.size, 0, none⟩ = some (.int .i64 t) ∧ W.cell? ⟨w.heap.size, 1, none⟩ = some (.int .i64 r)) ∧ KeptFrom w W) (first | assumption | (refine ⟨⟨?_, ?_⟩, ?_⟩ <;> assumption))
    (first
      | (go_at_call 40; (with_reducible refine (refInt t HT.out _).mono ?_); rintro e w' ⟨rfl, hb⟩; have hS := kept_call2 hb (by assumption))
      | (go_at_call 40; (with_reducible refine (refInt r HR.out _).mono ?_); rintro e w' ⟨rfl, hb⟩; have hS := kept_call2 hb (by assumption)))
  have hE : ∀ {W : World} {a b : Addr} {u v : Value}, (W.cell? a = some u ∧ W.cell? b = some v) ∧ KeptFrom w W → Below w.heap.size w W := fun h => h.2
  go_wp2_with fail
  go_ret
  exact ⟨rfl, hE (by assumption)⟩

end Go.Proofs.YteknegfocnopgaaDoor
