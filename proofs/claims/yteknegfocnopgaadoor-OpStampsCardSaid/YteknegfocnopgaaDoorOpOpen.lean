/-
  An argument that is an operation, opened.
-/
import Derived.Test.YteknegfocnopgaaDoorOpMath
import Derived.Test.YteknegfocnopgaaDoorRows
import Derived.ProofKit
import Derived.OpenShut
import Derived.Lib.SmallJoins
namespace Go.Proofs.YteknegfocnopgaaDoor
open Go.ChangeShapes Go.WideShapes Go.RowKit OpMath PackMath

variable {H : Type} {enc : TypeId × Value → H}

theorem stamp_trod {w : World} {n : Nat} {a b : Value} {y : DataW H × List MemPlace} (h : DataW.trod enc Tryd.prog w 0 (fun _ => true) true n 23 [a, b] = some y) :
    ∃ t r : Int, a = .int .i64 t ∧ b = .int .i64 r ∧ IsI64 t ∧ IsI64 r := by
  have h1 : Tryd.prog.cellsOf 3 = 1 := by kernel_rfl
  have h2 : Tryd.prog.cellsOf 2 = 1 := by kernel_rfl
  obtain ⟨xs, m, _, _, _, hlen, hg⟩ := DataW.trod_struct Tryd.underlying23 h
  match xs, hlen with
  | [y0, y1], _ =>
    have g0 : DataW.trod enc Tryd.prog w 0 (fun _ => true) true m 2 (([a, b].drop 0).take (Tryd.prog.cellsOf 2)) = some y0 := hg 0 _ rfl
    have g1 : DataW.trod enc Tryd.prog w 0 (fun _ => true) true m 3 (([a, b].drop 1).take (Tryd.prog.cellsOf 3)) = some y1 := hg 1 _ rfl
    rw [h2] at g0
    rw [h1] at g1
    obtain ⟨t, e0, _, w0⟩ := DataW.trod_int Tryd.underlying2 g0
    obtain ⟨r, e1, _, w1⟩ := DataW.trod_int Tryd.underlying3 g1
    simp at e0 e1
    exact ⟨t, r, e0, e1, bounds_i64 w0, bounds_i64 w1⟩

theorem open_op {w : World} {v : Value} {d : DataW H} {p : List MemPlace} {r : Reach} {b0 : Nat} (hv : Value.okWide Tryd.prog w r b0 25 v) (h : DataW.Trod enc Tryd.prog w 0 (fun _ => true) true 25 v d p) :
    ∃ o : Opn, v = .agg (opA o) ∧ Ok64 o ∧ o.name.size ≤ maxLen ∧ o.new.size ≤ maxLen ∧ o.data.size ≤ maxLen := by
  have hC : Tryd.prog.cellsOf 25 = 13 := by kernel_rfl
  have hC1 : Tryd.prog.cellsOf 3 = 1 := by kernel_rfl
  have hC2 : Tryd.prog.cellsOf 23 = 2 := by kernel_rfl
  have hC3 : Tryd.prog.cellsOf 9 = 1 := by kernel_rfl
  obtain ⟨cs, rfl, hsz⟩ := okWide_struct Tryd.underlying25 hv
  obtain ⟨l⟩ := cs
  match l, hsz.trans hC with
  | [c0, c1, c2, c3, c4, c5, c6, c7, c8, c9, c10, c11, c12], _ =>
    obtain ⟨fuel, hf⟩ := h
    obtain ⟨xs, n, _, _, _, hlen, hg⟩ := DataW.trod_struct Tryd.underlying25 hf
    match xs, hlen with
    | [y0, y1, y2, y3, y4, y5, y6, y7, y8], _ =>
      have g0 : DataW.trod enc Tryd.prog w 0 (fun _ => true) true n 23 (([c0, c1, c2, c3, c4, c5, c6, c7, c8, c9, c10, c11, c12].drop 0).take (Tryd.prog.cellsOf 23)) = some y0 := hg 0 _ rfl
      have g1 : DataW.trod enc Tryd.prog w 0 (fun _ => true) true n 3 (([c0, c1, c2, c3, c4, c5, c6, c7, c8, c9, c10, c11, c12].drop 2).take (Tryd.prog.cellsOf 3)) = some y1 := hg 1 _ rfl
      have g2 : DataW.trod enc Tryd.prog w 0 (fun _ => true) true n 23 (([c0, c1, c2, c3, c4, c5, c6, c7, c8, c9, c10, c11, c12].drop 3).take (Tryd.prog.cellsOf 23)) = some y2 := hg 2 _ rfl
      have g3 : DataW.trod enc Tryd.prog w 0 (fun _ => true) true n 23 (([c0, c1, c2, c3, c4, c5, c6, c7, c8, c9, c10, c11, c12].drop 5).take (Tryd.prog.cellsOf 23)) = some y3 := hg 3 _ rfl
      have g4 : DataW.trod enc Tryd.prog w 0 (fun _ => true) true n 23 (([c0, c1, c2, c3, c4, c5, c6, c7, c8, c9, c10, c11, c12].drop 7).take (Tryd.prog.cellsOf 23)) = some y4 := hg 4 _ rfl
      have g5 : DataW.trod enc Tryd.prog w 0 (fun _ => true) true n 9 (([c0, c1, c2, c3, c4, c5, c6, c7, c8, c9, c10, c11, c12].drop 9).take (Tryd.prog.cellsOf 9)) = some y5 := hg 5 _ rfl
      have g6 : DataW.trod enc Tryd.prog w 0 (fun _ => true) true n 9 (([c0, c1, c2, c3, c4, c5, c6, c7, c8, c9, c10, c11, c12].drop 10).take (Tryd.prog.cellsOf 9)) = some y6 := hg 6 _ rfl
      have g7 : DataW.trod enc Tryd.prog w 0 (fun _ => true) true n 3 (([c0, c1, c2, c3, c4, c5, c6, c7, c8, c9, c10, c11, c12].drop 11).take (Tryd.prog.cellsOf 3)) = some y7 := hg 7 _ rfl
      have g8 : DataW.trod enc Tryd.prog w 0 (fun _ => true) true n 9 (([c0, c1, c2, c3, c4, c5, c6, c7, c8, c9, c10, c11, c12].drop 12).take (Tryd.prog.cellsOf 9)) = some y8 := hg 8 _ rfl
      rw [hC2] at g0 g2 g3 g4
      rw [hC1] at g1 g7
      rw [hC3] at g5 g6 g8
      obtain ⟨st, sr, rfl, rfl, i0, i1⟩ := stamp_trod (a := c0) (b := c1) g0
      obtain ⟨k, e2, _, w2⟩ := DataW.trod_int Tryd.underlying3 g1
      obtain ⟨pt, pr, rfl, rfl, i3, i4⟩ := stamp_trod (a := c3) (b := c4) g2
      obtain ⟨it, ir, rfl, rfl, i5, i6⟩ := stamp_trod (a := c5) (b := c6) g3
      obtain ⟨tt, tr, rfl, rfl, i7, i8⟩ := stamp_trod (a := c7) (b := c8) g4
      obtain ⟨a, e9, _, w9⟩ := DataW.trod_string Tryd.underlying9 g5
      obtain ⟨b, e10, _, w10⟩ := DataW.trod_string Tryd.underlying9 g6
      obtain ⟨f, e11, _, w11⟩ := DataW.trod_int Tryd.underlying3 g7
      obtain ⟨c, e12, _, w12⟩ := DataW.trod_string Tryd.underlying9 g8
      simp at e2 e9 e10 e11 e12
      subst e2 e9 e10 e11 e12
      exact ⟨⟨st, sr, k, pt, pr, it, ir, tt, tr, a, b, f, c⟩, rfl, ⟨i0, i1, bounds_i64 w2, i3, i4, i5, i6, i7, i8, bounds_i64 w11⟩, w9, w10, w12⟩

end Go.Proofs.YteknegfocnopgaaDoor
