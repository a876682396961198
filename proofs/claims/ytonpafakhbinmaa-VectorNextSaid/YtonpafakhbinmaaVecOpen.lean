/-
  An argument that is an array of eight integers, opened.
-/
import Derived.Test.YtonpafakhbinmaaVecMath
import Derived.Test.YtonpafakhbinmaaRows
import Derived.ProofKit
import Derived.OpenShut
namespace Go.Proofs.Ytonpafakhbinmaa
open Go.ChangeShapes Go.WideShapes Go.RowKit VecMath PackMath

variable {H : Type} {enc : TypeId × Value → H}

theorem open_vec {w : World} {v : Value} {d : DataW H} {p : List MemPlace} {r : Reach} {b0 : Nat} (hv : Value.okWide Try.prog w r b0 22 v) (h : DataW.Trod enc Try.prog w 0 (fun _ => true) true 22 v d p) :
    ∃ f : Nat → Int, v = .agg (arr f) ∧ ∀ i, IsI64 (f i) := by
  have hC : Try.prog.cellsOf 22 = 8 := by kernel_rfl
  have h1 : Try.prog.cellsOf 3 = 1 := by kernel_rfl
  simp only [Value.okWide, Try.underlying22] at hv
  obtain ⟨cs, rfl, hsz, _⟩ := hv
  rw [hC] at hsz
  obtain ⟨fuel, hf⟩ := h
  obtain ⟨xs, m, _, _, _, hlen, hi⟩ := DataW.trod_array Try.underlying22 hf
  have each : ∀ i, i < 8 → ∃ n : Int, cs[i]? = some (.int .i64 n) ∧ IsI64 n := by
    intro i hi8
    have q := hi i hi8
    rw [h1, Nat.mul_one, List.getElem?_eq_getElem (show i < xs.length by omega)] at q
    obtain ⟨n, e, _, hw⟩ := DataW.trod_int Try.underlying3 q
    refine ⟨n, ?_, bounds_i64 hw⟩
    have hl : i < cs.size := by omega
    have e2 : (Value.cells (.agg cs)).toList.drop i = cs[i] :: (Value.cells (.agg cs)).toList.drop (i + 1) := by
      show cs.toList.drop i = _
      rw [List.drop_eq_getElem_cons (by simpa using hl)]
      simp [Value.cells]
    rw [e2] at e
    simp at e
    rw [Array.getElem?_eq_getElem hl, e]
  refine ⟨fun i => if i < 8 then intOf ((cs[i]?).getD (.int .i64 0)) else 0, ?_, fun i => ?_⟩
  · congr 1
    apply Array.ext_getElem?
    intro i
    by_cases h8 : i < 8
    · obtain ⟨n, e, _⟩ := each i h8
      rw [arr_at _ h8, if_pos h8, e]
      rfl
    · rw [Array.getElem?_eq_none (by omega), Array.getElem?_eq_none (by rw [arr_size]; omega)]
  · by_cases h8 : i < 8
    · obtain ⟨n, e, hn⟩ := each i h8
      show IsI64 (if i < 8 then _ else 0)
      rw [if_pos h8, e]
      exact hn
    · show IsI64 (if i < 8 then _ else 0)
      rw [if_neg h8]
      unfold IsI64
      omega

theorem open_vec8 {w : World} {v : Value} {d : DataW H} {p : List MemPlace} {r : Reach} {b0 : Nat} (hv : Value.okWide Try.prog w r b0 44 v) (h : DataW.Trod enc Try.prog w 0 (fun _ => true) true 44 v d p) :
    ∃ f : Nat → Int, v = .agg (arrB f) ∧ ∀ i, 0 ≤ f i ∧ f i ≤ 255 := by
  have hC : Try.prog.cellsOf 44 = 8 := by kernel_rfl
  have h1 : Try.prog.cellsOf 5 = 1 := by kernel_rfl
  simp only [Value.okWide, Try.underlying44] at hv
  obtain ⟨cs, rfl, hsz, _⟩ := hv
  rw [hC] at hsz
  obtain ⟨fuel, hf⟩ := h
  obtain ⟨xs, m, _, _, _, hlen, hi⟩ := DataW.trod_array Try.underlying44 hf
  have each : ∀ i, i < 8 → ∃ n : Int, cs[i]? = some (.int .u8 n) ∧ 0 ≤ n ∧ n ≤ 255 := by
    intro i hi8
    have q := hi i hi8
    rw [h1, Nat.mul_one, List.getElem?_eq_getElem (show i < xs.length by omega)] at q
    obtain ⟨n, e, _, hw⟩ := DataW.trod_int Try.underlying5 q
    refine ⟨n, ?_, bounds_u8 hw⟩
    have hl : i < cs.size := by omega
    have e2 : (Value.cells (.agg cs)).toList.drop i = cs[i] :: (Value.cells (.agg cs)).toList.drop (i + 1) := by
      show cs.toList.drop i = _
      rw [List.drop_eq_getElem_cons (by simpa using hl)]
      simp [Value.cells]
    rw [e2] at e
    simp at e
    rw [Array.getElem?_eq_getElem hl, e]
  refine ⟨fun i => if i < 8 then intOf ((cs[i]?).getD (.int .u8 0)) else 0, ?_, fun i => ?_⟩
  · congr 1
    apply Array.ext_getElem?
    intro i
    by_cases h8 : i < 8
    · obtain ⟨n, e, _⟩ := each i h8
      rw [arrB_at _ h8, if_pos h8, e]
      rfl
    · rw [Array.getElem?_eq_none (by omega), Array.getElem?_eq_none (by show 8 ≤ i; omega)]
  · by_cases h8 : i < 8
    · obtain ⟨n, e, hn⟩ := each i h8
      show 0 ≤ (if i < 8 then _ else 0) ∧ (if i < 8 then _ else 0) ≤ 255
      rw [if_pos h8, e]
      exact hn
    · show 0 ≤ (if i < 8 then _ else 0) ∧ (if i < 8 then _ else 0) ≤ 255
      rw [if_neg h8]
      omega

end Go.Proofs.Ytonpafakhbinmaa
