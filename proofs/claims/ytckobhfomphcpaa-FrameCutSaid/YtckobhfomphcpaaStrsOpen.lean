/-
  An argument that is a slice of strings, opened.
-/
import Derived.Test.YtckobhfomphcpaaStrs
import Derived.Test.YtckobhfomphcpaaRows
import Derived.ProofKit
import Derived.OpenShut
import Derived.SliceStrings
namespace Go.Proofs.Ytckobhfomphcpaa
open Go.ChangeShapes Go.WideShapes Go.RowKit

variable {H : Type} {enc : TypeId × Value → H}

theorem spot_is_none {w : World} {g o : Nat} {s : Option Nat} {v : Value} (h : w.cell? ⟨g, o, s⟩ = some v) : s = none := by
  unfold World.cell? at h
  cases hb : w.heap[g]? with
  | none => simp [hb] at h
  | some x =>
    cases x <;> simp [hb] at h
    exact h.1

theorem open_strs {w : World} {v : Value} {d : DataW H} {p : List MemPlace} {r : Reach} {b0 : Nat} (hv : Value.okWide Try.prog w r b0 32 v) (h : DataW.Trod enc Try.prog w 0 (fun _ => true) true 32 v d p) :
    ∃ (A : Option Addr) (n c : Nat) (xs : List (List UInt8)), v = .slice A n c ∧ n ≤ c ∧ c ≤ maxLen ∧ (A = none → c = 0) ∧ (∀ x ∈ xs, x.length ≤ maxLen) ∧ StrsIn w w.heap.size A n xs := by
  obtain ⟨A, n, c, rfl⟩ := okWide_slice Try.underlying32 hv
  obtain ⟨fuel, hf⟩ := h
  have hC : Try.prog.cellsOf 9 = 1 := by kernel_rfl
  rcases open_strings Try.underlying32 Try.underlying9 hC hf with ⟨hcs, _⟩ | ⟨a, len, cap, ss, hcs, _, hlc, hcm, hz, _, hcell, hsz⟩
  · simp only [Value.cells, List.cons.injEq, and_true, Value.slice.injEq] at hcs
    obtain ⟨rfl, rfl, rfl⟩ := hcs
    exact ⟨none, 0, 0, [], rfl, by omega, by decide, fun _ => rfl, (fun x hx => by cases hx), StrsIn.none _ _ _⟩
  · simp only [Value.cells, List.cons.injEq, and_true, Value.slice.injEq] at hcs
    obtain ⟨rfl, rfl, rfl⟩ := hcs
    rw [if_pos rfl] at hz
    refine ⟨some a, n, c, (ss.take n).map (·.data.toList), rfl, hlc, hcm, (fun h => by cases h), fun x hx => ?_, by rw [List.length_map, List.length_take]; omega, fun hn => ?_⟩
    · obtain ⟨s, hs, rfl⟩ := List.mem_map.1 hx
      have := hsz s (List.mem_of_mem_take hs)
      simpa using this
    · have each : ∀ j, j < n → w.cell? (a.add j) = some (.string (ss.getD j ByteArray.empty)) := fun j hj => hcell j (by omega)
      obtain ⟨g, o, s⟩ := a
      have c0 : w.cell? ⟨g, o, s⟩ = some (.string (ss.getD 0 ByteArray.empty)) := by simpa [Addr.add] using each 0 hn
      have hs := spot_is_none c0
      subst hs
      refine ⟨g, o, rfl, World.block_lt_of_cell? _ _ c0, fun j hj => ?_⟩
      rw [List.length_map, List.length_take] at hj
      have c1 := each j (by omega)
      have ea : (⟨g, o, none⟩ : Addr).add j = ⟨g, o + j, none⟩ := by
        unfold Addr.add
        split <;> simp_all
      rw [ea, List.getD_eq_getElem?_getD, List.getElem?_eq_getElem (show j < ss.length by omega)] at c1
      rw [c1, List.getElem_map, List.getElem_take, Option.getD_some, Lib.mk_data]

end Go.Proofs.Ytckobhfomphcpaa
