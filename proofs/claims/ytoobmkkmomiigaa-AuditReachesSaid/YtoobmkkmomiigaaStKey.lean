/-
  Stamps as a map's keys.
-/
import Derived.Test.YtoobmkkmomiigaaKmap
import Derived.Test.YtoobmkkmomiigaaGraphRows
namespace Go.Proofs.Ytoobmkkmomiigaa
open Go.RowKit StampMath GraphMath

def stV (x : St) : Value := .agg (stA x)

theorem stV_inj (x y : St) (h : stV x = stV y) : x = y := by
  unfold stV stA at h
  simp at h
  exact Prod.ext h.1 h.2

theorem checkKey_st (w : World) (em : Bool) (n : Nat) (x : St) : (Instr.checkKey em (n + 2) 29 (.agg (stA x))).run Try.prog w = .ok () w := by
  refine checkKey_struct (n := n + 1) Try.underlying29 w em (stA x) fun f hf => ?_
  simp at hf
  rcases hf with rfl | rfl
  · exact ⟨by decide, .int .i64 x.1, by unfold stA; go_simp, checkKey_int Try.underlying2 w em n x.1⟩
  · exact ⟨by decide, .int .i64 x.2, by unfold stA; go_simp, checkKey_int Try.underlying3 w em n x.2⟩

theorem stShape : KShape Try.prog 29 stV :=
  KShape.of_equal (by kernel_rfl) stV_inj (fun w x y => run_eqSt x.1 x.2 y.1 y.2 w) (fun w em x => checkKey_st w em 9998 x) (fun x => by
    unfold stV stA
    show Instr.sameBits (9999 + 1) _ _ = true
    simp [Instr.sameBits])

end Go.Proofs.Ytoobmkkmomiigaa
