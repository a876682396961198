/-
  Arguments of layer 9's statements, opened: an entry, a deed, a slice of deeds.
-/
import Derived.Test.YthobfeohgeeofaaZ12
import Derived.Test.YthobfeohgeeofaaZ21
import Derived.ProofKit
import Derived.OpenShut
import Derived.Deep.Slices
import Derived.Deep.Strs
import Derived.ChangeSame
namespace Go.Proofs.Ythobfeohgeeofaa
open Go.ChangeShapes Go.WideShapes Go.RowKit StampMath GraphMath OpMath

variable {H : Type} {enc : TypeId × Value → H}

theorem dd_trod {w : World} {n : Nat} {c0 c1 c2 c3 c4 c5 c6 c7 c8 : Value} {y : DataW H × List MemPlace} (h : DataW.trod enc Try.prog w 0 (fun _ => true) true n 38 [c0, c1, c2, c3, c4, c5, c6, c7, c8] = some y) :
    ∃ d : Dd, #[c0, c1, c2, c3, c4, c5, c6, c7, c8] = ddA d ∧ d.e.name.size ≤ maxLen := by
  have hC1 : Try.prog.cellsOf 3 = 1 := by kernel_rfl
  have hC2 : Try.prog.cellsOf 26 = 5 := by kernel_rfl
  have hC3 : Try.prog.cellsOf 9 = 1 := by kernel_rfl
  obtain ⟨xs, m, _, _, _, hlen, hg⟩ := DataW.trod_struct Try.underlying38 h
  match xs, hlen with
  | [y0, y1, y2, y3, y4], _ =>
    have g0 : DataW.trod enc Try.prog w 0 (fun _ => true) true m 3 (([c0, c1, c2, c3, c4, c5, c6, c7, c8].drop 0).take (Try.prog.cellsOf 3)) = some y0 := hg 0 _ rfl
    have g1 : DataW.trod enc Try.prog w 0 (fun _ => true) true m 3 (([c0, c1, c2, c3, c4, c5, c6, c7, c8].drop 1).take (Try.prog.cellsOf 3)) = some y1 := hg 1 _ rfl
    have g2 : DataW.trod enc Try.prog w 0 (fun _ => true) true m 3 (([c0, c1, c2, c3, c4, c5, c6, c7, c8].drop 2).take (Try.prog.cellsOf 3)) = some y2 := hg 2 _ rfl
    have g3 : DataW.trod enc Try.prog w 0 (fun _ => true) true m 26 (([c0, c1, c2, c3, c4, c5, c6, c7, c8].drop 3).take (Try.prog.cellsOf 26)) = some y3 := hg 3 _ rfl
    have g4 : DataW.trod enc Try.prog w 0 (fun _ => true) true m 9 (([c0, c1, c2, c3, c4, c5, c6, c7, c8].drop 8).take (Try.prog.cellsOf 9)) = some y4 := hg 4 _ rfl
    rw [hC1] at g0 g1 g2
    rw [hC2] at g3
    rw [hC3] at g4
    obtain ⟨a, e0, _, _⟩ := DataW.trod_int Try.underlying3 g0
    obtain ⟨b, e1, _, _⟩ := DataW.trod_int Try.underlying3 g1
    obtain ⟨c, e2, _, _⟩ := DataW.trod_int Try.underlying3 g2
    obtain ⟨e, e3, w3⟩ := ent_trod (c0 := c3) (c1 := c4) (c2 := c5) (c3 := c6) (c4 := c7) g3
    obtain ⟨s, e4, _, _⟩ := DataW.trod_string Try.underlying9 g4
    simp at e0 e1 e2 e4
    simp only [entA, Array.mk.injEq, List.cons.injEq, and_true] at e3
    obtain ⟨rfl, rfl, rfl, rfl, rfl⟩ := e3
    subst e0 e1 e2 e4
    exact ⟨⟨a, b, c, e, s⟩, rfl, w3⟩

set_option maxRecDepth 100000 in
theorem open_dd {w : World} {v : Value} {d : DataW H} {p : List MemPlace} {r : Reach} {b0 : Nat} (hv : Value.okWide Try.prog w r b0 38 v) (h : DataW.Trod enc Try.prog w 0 (fun _ => true) true 38 v d p) :
    ∃ x : Dd, v = .agg (ddA x) ∧ x.e.name.size ≤ maxLen := by
  have hC : Try.prog.cellsOf 38 = 9 := by kernel_rfl
  obtain ⟨cs, rfl, hsz⟩ := okWide_struct Try.underlying38 hv
  obtain ⟨l⟩ := cs
  match l, hsz.trans hC with
  | [c0, c1, c2, c3, c4, c5, c6, c7, c8], _ =>
    obtain ⟨fuel, hf⟩ := h
    obtain ⟨x, he, hs⟩ := dd_trod (c0 := c0) (c1 := c1) (c2 := c2) (c3 := c3) (c4 := c4) (c5 := c5) (c6 := c6) (c7 := c7) (c8 := c8) hf
    exact ⟨x, by rw [← he], hs⟩

set_option maxRecDepth 100000 in
theorem open_dds {w : World} {v : Value} {d : DataW H} {p : List MemPlace} {r : Reach} {b0 : Nat} (hv : Value.okWide Try.prog w r b0 22 v) (h : DataW.Trod enc Try.prog w 0 (fun _ => true) true 22 v d p) :
    ∃ (A : Option Addr) (n c : Nat) (ds : List Dd), v = .slice A n c ∧ n ≤ c ∧ c ≤ maxLen ∧ (∀ x ∈ ds, x.e.name.size ≤ maxLen) ∧ DdsIn w w.heap.size A n ds := by
  obtain ⟨A, n, c, rfl⟩ := okWide_slice Try.underlying22 hv
  obtain ⟨fuel, hf⟩ := h
  have hC : Try.prog.cellsOf 38 = 9 := by kernel_rfl
  rcases Deep.open_slice Try.underlying22 hf with ⟨hcs, _⟩ | ⟨a, len, cap, m, k, D, Pl, hcs, _, hlc, hcm, hm, hx, hi⟩
  · simp only [Value.cells, List.cons.injEq, and_true, Value.slice.injEq] at hcs
    obtain ⟨rfl, rfl, rfl⟩ := hcs
    exact ⟨none, 0, 0, [], rfl, by omega, by decide, (fun x hx => by cases hx), ⟨rfl, fun h => by omega⟩⟩
  · simp only [Value.cells, List.cons.injEq, and_true, Value.slice.injEq] at hcs
    obtain ⟨rfl, rfl, rfl⟩ := hcs
    have hmc : m = c := by rw [hm]; rfl
    subst hmc
    rw [hC] at hi
    have each : ∀ i, i < n → ∃ x : Dd, (∀ j v, (ddA x)[j]? = some v → w.cell? ((a.add (i * 9)).add j) = some v) ∧ x.e.name.size ≤ maxLen := by
      intro i hin
      obtain ⟨cs, hc, ht⟩ := hi i (by omega)
      obtain ⟨_, hl, hat⟩ := World.cells?_some hc
      match cs, hl with
      | [c0, c1, c2, c3, c4, c5, c6, c7, c8], _ =>
        obtain ⟨x, he, hs⟩ := dd_trod (c0 := c0) (c1 := c1) (c2 := c2) (c3 := c3) (c4 := c4) (c5 := c5) (c6 := c6) (c7 := c7) (c8 := c8) ht
        refine ⟨x, fun j v hj => ?_, hs⟩
        rw [← he] at hj
        have hj9 : j < 9 := (Array.getElem?_eq_some_iff.1 hj).1
        rw [hat j hj9]
        simpa using hj
    obtain ⟨g, o, sp⟩ := a
    have hsp : 0 < n → sp = none := fun hn => by
      obtain ⟨x, hc, _⟩ := each 0 hn
      exact cell_spot (by simpa [Addr.add] using hc 0 _ rfl)
    refine ⟨some ⟨g, o, sp⟩, n, m, (List.range n).map (fun i => if h : i < n then Classical.choose (each i h) else ⟨0, 0, 0, ⟨(0, 0), ⟨#[]⟩, (0, 0)⟩, ⟨#[]⟩⟩), rfl, hlc, hcm, fun x hx => ?_, ⟨by simp, fun hn => ?_⟩⟩
    · obtain ⟨i, hi1, rfl⟩ := List.mem_map.1 hx
      have hin := List.mem_range.1 hi1
      rw [dif_pos hin]
      exact (Classical.choose_spec (each i hin)).2
    · have hs := hsp hn
      subst hs
      obtain ⟨x0, c0, _⟩ := each 0 hn
      refine ⟨g, o, rfl, World.block_lt_of_cell? _ _ (c0 0 _ rfl), fun j hj i v hv => ?_⟩
      have hjn : j < n := by simpa using hj
      have he : ((((List.range n).map (fun i => if h : i < n then Classical.choose (each i h) else (⟨0, 0, 0, ⟨(0, 0), ⟨#[]⟩, (0, 0)⟩, ⟨#[]⟩⟩ : Dd))).map ddA)[j]'hj) = ddA (Classical.choose (each j hjn)) := by
        rw [List.getElem_map, List.getElem_map, List.getElem_range, dif_pos hjn]
      rw [he] at hv
      have q := (Classical.choose_spec (each j hjn)).1 i v hv
      rw [tab_add, tab_add] at q
      exact q

end Go.Proofs.Ythobfeohgeeofaa
