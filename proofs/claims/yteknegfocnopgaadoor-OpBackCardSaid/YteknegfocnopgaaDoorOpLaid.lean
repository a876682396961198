/-
  From the rows' condition on the table of fields to its cells; a start that meets the condition.
-/
import Derived.Test.YteknegfocnopgaaDoorOpTab
import Derived.ProofKit
import Derived.LaidMore
import Derived.OpenShut
import Derived.Stop.Joined
namespace Go.Proofs.YteknegfocnopgaaDoor
open Go.ChangeShapes Go.WideShapes Go.ChangeAt Go.RowKit

theorem tab_global : Tryd.prog.globalNamed "thimble/op.fields" = some 0 := by kernel_rfl
theorem tab_type : (Tryd.prog.globals[0]?).map (·.type) = some 79 := by kernel_rfl

/-- A start in which the table lies. -/
theorem tab_met (os : Os) (args : Array Value) : laidMetH Tryd.prog [("thimble/op.fields", Rows.laid_thimble_op_fields)] ((World.doorLaid Tryd.prog 400 os).forCall (fun _ _ => 0) ⟨#[], args, []⟩).memory :=
  laidMetH_of_parts3 (fuel := 8) (laidMet_of_run' 8 (by kernel_rfl) (by kernel_rfl)) (by kernel_rfl) (by kernel_rfl)

theorem tab_of_laid {W : World} (h : laidMetH Tryd.prog [("thimble/op.fields", Rows.laid_thimble_op_fields)] W) : Tab W := by
  rw [MakeChecks.laidMetH_plain _ _ _ (by kernel_rfl)] at h
  obtain ⟨ps, ⟨g0, t0, cs0, f0, p0, q0, hg0, ht0, hv0, hd0, _⟩, _, _⟩ := h
  obtain rfl := Option.some.inj (tab_global.symm.trans hg0)
  obtain rfl := Option.some.inj (tab_type.symm.trans ht0)
  obtain ⟨xs, m, rfl, hx, hlen, hn, hel⟩ := DataW.trod_array Tryd.underlying79 hd0
  have c1 : Tryd.prog.cellsOf 3 = 1 := by kernel_rfl
  have hm : xs.map (·.1) = tabL.map fun n => DataW.lit (.int .i64 n) := by
    have h2 := (Prod.mk.inj hx).1
    exact (DataW.agg.inj h2).symm
  refine ⟨Lib.hid fun i x hi => ?_⟩
  have hl : i < 11 := (List.getElem?_eq_some_iff.1 hi).1
  have hE := hel i hl
  rw [c1, Nat.mul_one] at hE
  have hy : (xs.map (·.1))[i]? = some (DataW.lit (.int .i64 x)) := by rw [hm, List.getElem?_map, hi]; rfl
  rw [List.getElem?_map] at hy
  cases hxi : xs[i]? with
  | none => rw [hxi] at hy; cases hy
  | some y =>
    rw [hxi] at hE hy
    simp only [Option.map_some, Option.some.injEq] at hy
    obtain ⟨k, e1, e2, _⟩ := DataW.trod_int Tryd.underlying3 hE
    rw [e2] at hy
    simp only [DataW.lit.injEq, Lit.int.injEq, true_and] at hy
    subst hy
    have hc := World.var?_cell hg0 hv0 i
    rw [hc, ← Array.getElem?_toList]
    have h3 : (cs0.toList.drop i).head? = some (.int .i64 k) := by
      cases hdr : cs0.toList.drop i with
      | nil => rw [hdr] at e1; simp at e1
      | cons a r => rw [hdr] at e1; simp at e1; rw [e1]; rfl
    rw [List.head?_drop] at h3
    exact h3

end Go.Proofs.YteknegfocnopgaaDoor
