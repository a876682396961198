/-
  Arguments that are stamps or entries, opened.
-/
import Derived.Test.YtoobmkkmomiigaaGraphSlices
import Derived.Test.YtoobmkkmomiigaaRows
import Derived.ProofKit
import Derived.OpenShut
import Derived.Deep.Slices
import Derived.Deep.Strs
import Derived.ChangeSame
namespace Go.Proofs.Ytoobmkkmomiigaa
open Go.ChangeShapes Go.WideShapes Go.RowKit StampMath GraphMath

variable {H : Type} {enc : TypeId × Value → H}

theorem st_trod {w : World} {n : Nat} {a b : Value} {y : DataW H × List MemPlace} (h : DataW.trod enc Try.prog w 0 (fun _ => true) true n 29 [a, b] = some y) : ∃ s : St, a = .int .i64 s.1 ∧ b = .int .i64 s.2 := by
  have h1 : Try.prog.cellsOf 3 = 1 := by kernel_rfl
  have h2 : Try.prog.cellsOf 2 = 1 := by kernel_rfl
  obtain ⟨xs, m, _, _, _, hlen, hg⟩ := DataW.trod_struct Try.underlying29 h
  match xs, hlen with
  | [y0, y1], _ =>
    have g0 : DataW.trod enc Try.prog w 0 (fun _ => true) true m 2 (([a, b].drop 0).take (Try.prog.cellsOf 2)) = some y0 := hg 0 _ rfl
    have g1 : DataW.trod enc Try.prog w 0 (fun _ => true) true m 3 (([a, b].drop 1).take (Try.prog.cellsOf 3)) = some y1 := hg 1 _ rfl
    rw [h2] at g0
    rw [h1] at g1
    obtain ⟨t, e0, _, _⟩ := DataW.trod_int Try.underlying2 g0
    obtain ⟨r, e1, _, _⟩ := DataW.trod_int Try.underlying3 g1
    simp at e0 e1
    exact ⟨(t, r), e0, e1⟩

theorem ent_trod {w : World} {n : Nat} {c0 c1 c2 c3 c4 : Value} {y : DataW H × List MemPlace} (h : DataW.trod enc Try.prog w 0 (fun _ => true) true n 33 [c0, c1, c2, c3, c4] = some y) :
    ∃ e : Ent, #[c0, c1, c2, c3, c4] = entA e ∧ e.name.size ≤ maxLen := by
  have hC2 : Try.prog.cellsOf 29 = 2 := by kernel_rfl
  have hC3 : Try.prog.cellsOf 9 = 1 := by kernel_rfl
  obtain ⟨xs, m, _, _, _, hlen, hg⟩ := DataW.trod_struct Try.underlying33 h
  match xs, hlen with
  | [y0, y1, y2], _ =>
    have g0 : DataW.trod enc Try.prog w 0 (fun _ => true) true m 29 (([c0, c1, c2, c3, c4].drop 0).take (Try.prog.cellsOf 29)) = some y0 := hg 0 _ rfl
    have g1 : DataW.trod enc Try.prog w 0 (fun _ => true) true m 9 (([c0, c1, c2, c3, c4].drop 2).take (Try.prog.cellsOf 9)) = some y1 := hg 1 _ rfl
    have g2 : DataW.trod enc Try.prog w 0 (fun _ => true) true m 29 (([c0, c1, c2, c3, c4].drop 3).take (Try.prog.cellsOf 29)) = some y2 := hg 2 _ rfl
    rw [hC2] at g0 g2
    rw [hC3] at g1
    obtain ⟨s, rfl, rfl⟩ := st_trod (a := c0) (b := c1) g0
    obtain ⟨nm, e2, _, w2⟩ := DataW.trod_string Try.underlying9 g1
    obtain ⟨t, rfl, rfl⟩ := st_trod (a := c3) (b := c4) g2
    simp at e2
    subst e2
    exact ⟨⟨s, nm, t⟩, rfl, w2⟩

set_option maxRecDepth 100000 in
theorem open_st {w : World} {v : Value} {d : DataW H} {p : List MemPlace} {r : Reach} {b0 : Nat} (hv : Value.okWide Try.prog w r b0 29 v) (h : DataW.Trod enc Try.prog w 0 (fun _ => true) true 29 v d p) :
    ∃ s : St, v = .agg (stA s) := by
  have hC : Try.prog.cellsOf 29 = 2 := by kernel_rfl
  obtain ⟨cs, rfl, hsz⟩ := okWide_struct Try.underlying29 hv
  obtain ⟨l⟩ := cs
  match l, hsz.trans hC with
  | [c0, c1], _ =>
    obtain ⟨fuel, hf⟩ := h
    obtain ⟨s, rfl, rfl⟩ := st_trod (a := c0) (b := c1) hf
    exact ⟨s, rfl⟩

set_option maxRecDepth 100000 in
theorem open_ent {w : World} {v : Value} {d : DataW H} {p : List MemPlace} {r : Reach} {b0 : Nat} (hv : Value.okWide Try.prog w r b0 33 v) (h : DataW.Trod enc Try.prog w 0 (fun _ => true) true 33 v d p) :
    ∃ e : Ent, v = .agg (entA e) ∧ e.name.size ≤ maxLen := by
  have hC : Try.prog.cellsOf 33 = 5 := by kernel_rfl
  obtain ⟨cs, rfl, hsz⟩ := okWide_struct Try.underlying33 hv
  obtain ⟨l⟩ := cs
  match l, hsz.trans hC with
  | [c0, c1, c2, c3, c4], _ =>
    obtain ⟨fuel, hf⟩ := h
    obtain ⟨e, he, hs⟩ := ent_trod (c0 := c0) (c1 := c1) (c2 := c2) (c3 := c3) (c4 := c4) hf
    exact ⟨e, by rw [← he], hs⟩

theorem cell_spot {w : World} {g o : Nat} {s : Option Nat} {v : Value} (h : w.cell? ⟨g, o, s⟩ = some v) : s = none := by
  unfold World.cell? at h
  cases hb : w.heap[g]? with
  | none => simp [hb] at h
  | some x =>
    cases x <;> simp [hb] at h
    exact h.1

end Go.Proofs.Ytoobmkkmomiigaa
