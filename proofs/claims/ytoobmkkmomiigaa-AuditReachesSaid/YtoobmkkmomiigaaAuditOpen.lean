/-
  Arguments of layer 10's statements, opened: slices of inodes, of entries, of stamps and of numbers.
-/
import Derived.Test.YtoobmkkmomiigaaGraphOpenA
import Derived.Test.YtoobmkkmomiigaaAuditRef
namespace Go.Proofs.Ytoobmkkmomiigaa
open Go.ChangeShapes Go.WideShapes Go.RowKit StampMath GraphMath OpMath

variable {H : Type} {enc : TypeId × Value → H}

set_option maxRecDepth 100000 in
theorem ino_trod {w : World} {n : Nat} {c0 c1 c2 c3 c4 c5 : Value} {y : DataW H × List MemPlace} (h : DataW.trod enc Try.prog w 0 (fun _ => true) true n 31 [c0, c1, c2, c3, c4, c5] = some y) :
    ∃ x : Ino, #[c0, c1, c2, c3, c4, c5] = inoA x ∧ x.data.size ≤ maxLen := by
  have hC1 : Try.prog.cellsOf 3 = 1 := by kernel_rfl
  have hC2 : Try.prog.cellsOf 29 = 2 := by kernel_rfl
  have hC3 : Try.prog.cellsOf 9 = 1 := by kernel_rfl
  obtain ⟨xs, m, _, _, _, hlen, hg⟩ := DataW.trod_struct Try.underlying31 h
  match xs, hlen with
  | [y0, y1, y2, y3, y4], _ =>
    have g0 : DataW.trod enc Try.prog w 0 (fun _ => true) true m 29 (([c0, c1, c2, c3, c4, c5].drop 0).take (Try.prog.cellsOf 29)) = some y0 := hg 0 _ rfl
    have g1 : DataW.trod enc Try.prog w 0 (fun _ => true) true m 3 (([c0, c1, c2, c3, c4, c5].drop 2).take (Try.prog.cellsOf 3)) = some y1 := hg 1 _ rfl
    have g2 : DataW.trod enc Try.prog w 0 (fun _ => true) true m 3 (([c0, c1, c2, c3, c4, c5].drop 3).take (Try.prog.cellsOf 3)) = some y2 := hg 2 _ rfl
    have g3 : DataW.trod enc Try.prog w 0 (fun _ => true) true m 3 (([c0, c1, c2, c3, c4, c5].drop 4).take (Try.prog.cellsOf 3)) = some y3 := hg 3 _ rfl
    have g4 : DataW.trod enc Try.prog w 0 (fun _ => true) true m 9 (([c0, c1, c2, c3, c4, c5].drop 5).take (Try.prog.cellsOf 9)) = some y4 := hg 4 _ rfl
    rw [hC2] at g0
    rw [hC1] at g1 g2 g3
    rw [hC3] at g4
    obtain ⟨s, rfl, rfl⟩ := st_trod (a := c0) (b := c1) g0
    obtain ⟨a, e1, _, _⟩ := DataW.trod_int Try.underlying3 g1
    obtain ⟨b, e2, _, _⟩ := DataW.trod_int Try.underlying3 g2
    obtain ⟨c, e3, _, _⟩ := DataW.trod_int Try.underlying3 g3
    obtain ⟨da, e4, _, w4⟩ := DataW.trod_string Try.underlying9 g4
    simp at e1 e2 e3 e4
    subst e1 e2 e3 e4
    exact ⟨⟨s, a, b, c, da⟩, rfl, w4⟩

set_option maxRecDepth 100000 in
/-- A slice whose elements are of k cells each. -/
theorem open_tab {α : Type} (encA : α → Array Value) (Good : α → Prop) (dflt : α) {k : Nat} (hk : 0 < k) (hsz : ∀ x, (encA x).size = k) {T E : TypeId} (hT : Try.prog.underlying T = some (.slice E)) (hC : Try.prog.cellsOf E = k) {w : World}
    (one : ∀ {n : Nat} {cs : List Value} {y : DataW H × List MemPlace}, cs.length = k → DataW.trod enc Try.prog w 0 (fun _ => true) true n E cs = some y → ∃ x, cs = (encA x).toList ∧ Good x)
    {v : Value} {d : DataW H} {p : List MemPlace} {r : Reach} {b0 : Nat} (hv : Value.okWide Try.prog w r b0 T v) (h : DataW.Trod enc Try.prog w 0 (fun _ => true) true T v d p) :
    ∃ (A : Option Addr) (n c : Nat) (xs : List α), v = .slice A n c ∧ n ≤ c ∧ c ≤ maxLen ∧ (∀ x ∈ xs, Good x) ∧ TabIn k w w.heap.size A n (xs.map encA) ∧ (A = Option.none → c = 0) := by
  obtain ⟨A, n, c, rfl⟩ := okWide_slice hT hv
  obtain ⟨fuel, hf⟩ := h
  rcases Deep.open_slice hT hf with ⟨hcs, _⟩ | ⟨a, len, cap, m, kk, D, Pl, hcs, _, hlc, hcm, hm, hx, hi⟩
  · simp only [Value.cells, List.cons.injEq, and_true, Value.slice.injEq] at hcs
    obtain ⟨rfl, rfl, rfl⟩ := hcs
    exact ⟨Option.none, 0, 0, [], rfl, by omega, by decide, (fun x hx => by cases hx), TabIn.nil k w _ _, fun _ => rfl⟩
  · simp only [Value.cells, List.cons.injEq, and_true, Value.slice.injEq] at hcs
    obtain ⟨rfl, rfl, rfl⟩ := hcs
    have hmc : m = c := by rw [hm]; rfl
    subst hmc
    rw [hC] at hi
    have each : ∀ i, i < n → ∃ x : α, (∀ j v, (encA x)[j]? = some v → w.cell? ((a.add (i * k)).add j) = some v) ∧ Good x := by
      intro i hin
      obtain ⟨cs, hc, ht⟩ := hi i (by omega)
      obtain ⟨_, hl, hat⟩ := World.cells?_some hc
      obtain ⟨x, he, hs⟩ := one hl ht
      refine ⟨x, fun j v hj => ?_, hs⟩
      have hjk : j < k := by rw [← hsz x]; exact (Array.getElem?_eq_some_iff.1 hj).1
      rw [hat j hjk, he]
      simpa using hj
    obtain ⟨g, o, sp⟩ := a
    have hsp : 0 < n → sp = Option.none := fun hn => by
      obtain ⟨x, hc, _⟩ := each 0 hn
      have h0 : 0 < (encA x).size := by rw [hsz]; exact hk
      exact cell_spot (by simpa [Addr.add] using hc 0 _ (Array.getElem?_eq_getElem h0))
    refine ⟨some ⟨g, o, sp⟩, n, m, (List.range n).map (fun i => if h : i < n then Classical.choose (each i h) else dflt), rfl, hlc, hcm, fun x hx => ?_, ⟨by simp, fun hn => ?_⟩, fun h => by cases h⟩
    · obtain ⟨i, hi1, rfl⟩ := List.mem_map.1 hx
      have hin := List.mem_range.1 hi1
      rw [dif_pos hin]
      exact (Classical.choose_spec (each i hin)).2
    · have hs := hsp hn
      subst hs
      obtain ⟨x0, c0, _⟩ := each 0 hn
      have h0 : 0 < (encA x0).size := by rw [hsz]; exact hk
      refine ⟨g, o, rfl, by have := World.block_lt_of_cell? _ _ (c0 0 _ (Array.getElem?_eq_getElem h0)); simpa [Addr.add] using this, fun j hj i v hv => ?_⟩
      have hjn : j < n := by simpa using hj
      have he : (((List.range n).map (fun i => if h : i < n then Classical.choose (each i h) else dflt)).map encA)[j]'hj = encA (Classical.choose (each j hjn)) := by
        rw [List.getElem_map, List.getElem_map, List.getElem_range, dif_pos hjn]
      rw [he] at hv
      have q := (Classical.choose_spec (each j hjn)).1 i v hv
      rw [tab_add, tab_add] at q
      exact q

set_option maxRecDepth 100000 in
theorem open_inos {w : World} {v : Value} {d : DataW H} {p : List MemPlace} {r : Reach} {b0 : Nat} (hv : Value.okWide Try.prog w r b0 22 v) (h : DataW.Trod enc Try.prog w 0 (fun _ => true) true 22 v d p) :
    ∃ (A : Option Addr) (n c : Nat) (N : List Ino), v = .slice A n c ∧ n ≤ c ∧ c ≤ maxLen ∧ (∀ x ∈ N, x.data.size ≤ maxLen) ∧ InosIn w w.heap.size A n N ∧ (A = Option.none → c = 0) :=
  open_tab inoA (fun x => x.data.size ≤ maxLen) noIno (by omega) (fun _ => rfl) Try.underlying22 (by kernel_rfl) (fun {n cs y} hl ht => by
    match cs, hl with
    | [c0, c1, c2, c3, c4, c5], _ =>
      obtain ⟨x, he, hs⟩ := ino_trod ht
      exact ⟨x, by rw [← he], hs⟩) hv h

set_option maxRecDepth 100000 in
theorem open_ents {w : World} {v : Value} {d : DataW H} {p : List MemPlace} {r : Reach} {b0 : Nat} (hv : Value.okWide Try.prog w r b0 23 v) (h : DataW.Trod enc Try.prog w 0 (fun _ => true) true 23 v d p) :
    ∃ (A : Option Addr) (n c : Nat) (E : List Ent), v = .slice A n c ∧ n ≤ c ∧ c ≤ maxLen ∧ (∀ x ∈ E, x.name.size ≤ maxLen) ∧ EntsIn w w.heap.size A n E ∧ (A = Option.none → c = 0) :=
  open_tab entA (fun x => x.name.size ≤ maxLen) ⟨(0, 0), ⟨#[]⟩, (0, 0)⟩ (by omega) (fun _ => rfl) Try.underlying23 (by kernel_rfl) (fun {n cs y} hl ht => by
    match cs, hl with
    | [c0, c1, c2, c3, c4], _ =>
      obtain ⟨x, he, hs⟩ := ent_trod ht
      exact ⟨x, by rw [← he], hs⟩) hv h

set_option maxRecDepth 100000 in
theorem open_sts {w : World} {v : Value} {d : DataW H} {p : List MemPlace} {r : Reach} {b0 : Nat} (hv : Value.okWide Try.prog w r b0 34 v) (h : DataW.Trod enc Try.prog w 0 (fun _ => true) true 34 v d p) :
    ∃ (A : Option Addr) (n c : Nat) (l : List St), v = .slice A n c ∧ n ≤ c ∧ c ≤ maxLen ∧ StsIn w w.heap.size A n l := by
  obtain ⟨A, n, c, l, h1, h2, h3, _, h4, _⟩ := open_tab stA (fun _ => True) (0, 0) (k := 2) (by omega) (fun _ => rfl) Try.underlying34 (by kernel_rfl) (fun {n cs y} hl ht => by
    match cs, hl with
    | [c0, c1], _ =>
      obtain ⟨s, rfl, rfl⟩ := st_trod ht
      exact ⟨s, rfl, trivial⟩) hv h
  exact ⟨A, n, c, l, h1, h2, h3, h4⟩

set_option maxRecDepth 100000 in
theorem open_nums {w : World} {v : Value} {d : DataW H} {p : List MemPlace} {r : Reach} {b0 : Nat} (hv : Value.okWide Try.prog w r b0 40 v) (h : DataW.Trod enc Try.prog w 0 (fun _ => true) true 40 v d p) :
    ∃ (A : Option Addr) (n c : Nat) (l : List Int), v = .slice A n c ∧ n ≤ c ∧ c ≤ maxLen ∧ IntsIn w w.heap.size A n l := by
  obtain ⟨A, n, c, l, h1, h2, h3, _, h4, _⟩ := open_tab (fun x : Int => #[.int .i64 x]) (fun _ => True) 0 (k := 1) (by omega) (fun _ => rfl) Try.underlying40 (by kernel_rfl) (fun {n cs y} hl ht => by
    match cs, hl with
    | [c0], _ =>
      obtain ⟨a, e0, _, _⟩ := DataW.trod_int Try.underlying3 ht
      simp at e0
      subst e0
      exact ⟨a, rfl, trivial⟩) hv h
  refine ⟨A, n, c, l, h1, h2, h3, by have := h4.1; rwa [List.length_map] at this, fun hn => ?_⟩
  obtain ⟨g, o, e, hg, hc⟩ := h4.2 hn
  refine ⟨g, o, e, hg, fun j hj => ?_⟩
  have := hc j (by simpa using hj) 0 (.int .i64 l[j]) (by simp)
  simpa using this

end Go.Proofs.Ytoobmkkmomiigaa
