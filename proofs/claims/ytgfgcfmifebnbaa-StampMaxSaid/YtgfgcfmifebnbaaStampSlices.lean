/-
  An argument that is a slice of stamps, opened: its pairs of numbers.
-/
import Derived.Test.YtgfgcfmifebnbaaPairs
import Derived.Test.YtgfgcfmifebnbaaRows
import Derived.ProofKit
import Derived.OpenShut
import Derived.Deep.Slices
import Derived.ChangeSame
namespace Go.Proofs.Ytgfgcfmifebnbaa
open Go.ChangeShapes Go.WideShapes Go.RowKit

theorem spot_none {w : World} {g o : Nat} {s : Option Nat} {v : Value} (h : w.cell? ⟨g, o, s⟩ = some v) : s = none := by
  unfold World.cell? at h
  cases hb : w.heap[g]? with
  | none => simp [hb] at h
  | some x =>
    cases x <;> simp [hb] at h
    exact h.1

theorem add_none (g o i : Nat) : Addr.add ⟨g, o, none⟩ i = ⟨g, o + i, none⟩ := by
  unfold Addr.add
  split
  · next h => subst h; rfl
  · rfl

variable {H : Type} {enc : TypeId × Value → H}

theorem open_stamps {w : World} {v : Value} {d : DataW H} {p : List MemPlace} {r : Reach} {b0 : Nat} (hv : Value.okWide Try.prog w r b0 39 v) (h : DataW.Trod enc Try.prog w 0 (fun _ => true) true 39 v d p) :
    ∃ (A : Option Addr) (n c : Nat) (xs : List (Int × Int)), v = .slice A n c ∧ n ≤ c ∧ c ≤ maxLen ∧ PairsIn w w.heap.size A n xs := by
  obtain ⟨A, n, c, rfl⟩ := okWide_slice Try.underlying39 hv
  obtain ⟨fuel, hf⟩ := h
  have hC : Try.prog.cellsOf 23 = 2 := by kernel_rfl
  rcases Deep.open_slice Try.underlying39 hf with ⟨hcs, _⟩ | ⟨a, len, cap, m, k, D, Pl, hcs, _, hlc, hcm, hm, _, hi⟩
  · simp only [Value.cells, List.cons.injEq, and_true, Value.slice.injEq] at hcs
    obtain ⟨rfl, rfl, rfl⟩ := hcs
    exact ⟨none, 0, 0, [], rfl, by omega, by decide, rfl, fun h => by omega⟩
  · simp only [Value.cells, List.cons.injEq, and_true, Value.slice.injEq] at hcs
    obtain ⟨rfl, rfl, rfl⟩ := hcs
    have hmc : m = c := by rw [hm]; rfl
    subst hmc
    rw [hC] at hi
    have each : ∀ i, i < n → ∃ t r : Int, w.cell? (a.add (i * 2)) = some (.int .i64 t) ∧ w.cell? ((a.add (i * 2)).add 1) = some (.int .i64 r) := by
      intro i hin
      obtain ⟨cs, hc, ht⟩ := hi i (by omega)
      obtain ⟨_, hl, hat⟩ := World.cells?_some hc
      obtain ⟨y0, y1, _, _, _, h0, h1⟩ := trod_struct2 Try.underlying23 ht
      obtain ⟨t, e0, _, _⟩ := DataW.trod_int Try.underlying2 h0
      obtain ⟨u, e1, _, _⟩ := DataW.trod_int Try.underlying3 h1
      have q0 := hat 0 (by omega)
      have q1 := hat 1 (by omega)
      have k0 : (Try.prog.cellsOf 2) = 1 := by kernel_rfl
      have k1 : (Try.prog.cellsOf 3) = 1 := by kernel_rfl
      match cs, hl with
      | [c0, c1], _ =>
        simp [k0, k1] at e0 e1
        subst e0 e1
        exact ⟨t, u, q0, q1⟩
    refine ⟨some a, n, m, (List.range n).map (fun i => (intOf ((w.cell? (a.add (i * 2))).getD (.int .i64 0)), intOf ((w.cell? ((a.add (i * 2)).add 1)).getD (.int .i64 0)))), rfl, hlc, hcm, by simp, fun hn => ?_⟩
    obtain ⟨g, o, s⟩ := a
    obtain ⟨t0, r0, c0, _⟩ := each 0 hn
    have hs : s = none := spot_none (by simpa [Addr.add] using c0)
    subst hs
    refine ⟨g, o, rfl, World.block_lt_of_cell? _ _ c0, fun j hj => ?_⟩
    obtain ⟨t, r, c1, c2⟩ := each j (by simpa using hj)
    rw [List.getElem_map, List.getElem_range, c1, c2]
    rw [add_none] at c1 c2
    rw [add_none] at c2
    exact ⟨c1, c2⟩

end Go.Proofs.Ytgfgcfmifebnbaa
