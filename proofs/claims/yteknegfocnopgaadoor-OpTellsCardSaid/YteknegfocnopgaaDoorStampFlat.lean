/-
  Slices of pairs of integers as rows of cells: what is appended, and what is read of a row of the call's own. It needs no program.
-/
import Derived.Test.YteknegfocnopgaaDoorPairs
import Derived.OwnWalk
namespace Go.Proofs.YteknegfocnopgaaDoor
open Go.RowKit

/-- Pairs as a row of cells. -/
def flat (xs : List (Int × Int)) : List Value := xs.flatMap fun x => [.int .i64 x.1, .int .i64 x.2]

theorem flat_nil : flat [] = [] := rfl

theorem flat_cons (x : Int × Int) (xs : List (Int × Int)) : flat (x :: xs) = .int .i64 x.1 :: .int .i64 x.2 :: flat xs := rfl

theorem flat_append (xs ys : List (Int × Int)) : flat xs ++ flat ys = flat (xs ++ ys) := by
  unfold flat
  rw [List.flatMap_append]

theorem flat_length (xs : List (Int × Int)) : (flat xs).length = xs.length * 2 := by
  induction xs with
  | nil => rfl
  | cons x xs ih => rw [flat_cons, List.length_cons, List.length_cons, List.length_cons, ih]; omega

theorem flat_one (xs : List (Int × Int)) : ∀ u ∈ flat xs, u.oneCell' = true := by
  intro u hu
  unfold flat at hu
  rw [List.mem_flatMap] at hu
  obtain ⟨x, _, hx⟩ := hu
  simp only [List.mem_cons, List.not_mem_nil, or_false] at hx
  rcases hx with rfl | rfl <;> rfl

theorem flat_get (xs : List (Int × Int)) : ∀ j (h : j < xs.length), (flat xs)[j * 2]? = some (.int .i64 xs[j].1) ∧ (flat xs)[j * 2 + 1]? = some (.int .i64 xs[j].2) := by
  induction xs with
  | nil => intro j h; cases h
  | cons x xs ih =>
    intro j h
    cases j with
    | zero => exact ⟨rfl, rfl⟩
    | succ j =>
      rw [flat_cons, show (j + 1) * 2 = j * 2 + 1 + 1 by omega]
      obtain ⟨h1, h2⟩ := ih j (by simpa using h)
      exact ⟨h1, h2⟩

theorem addr_add (g o i : Nat) : Addr.add ⟨g, o, none⟩ i = ⟨g, o + i, none⟩ := by
  unfold Addr.add
  split
  · next h => subst h; rfl
  · rfl

theorem flat_at {W : World} {g o : Nat} {xs : List (Int × Int)} (h : ∀ j (h : j < xs.length), W.cell? ⟨g, o + j * 2, none⟩ = some (.int .i64 xs[j].1) ∧ W.cell? ⟨g, o + j * 2 + 1, none⟩ = some (.int .i64 xs[j].2)) :
    ∀ j u, (flat xs)[j]? = some u → W.cell? (Addr.add ⟨g, o, none⟩ j) = some u := by
  intro j u hu
  have hj : j < (flat xs).length := (List.getElem?_eq_some_iff.1 hu).1
  rw [flat_length] at hj
  rw [addr_add]
  have hq : j = j / 2 * 2 ∨ j = j / 2 * 2 + 1 := by omega
  have hlt : j / 2 < xs.length := by omega
  obtain ⟨h1, h2⟩ := flat_get xs (j / 2) hlt
  obtain ⟨c1, c2⟩ := h (j / 2) hlt
  rcases hq with e | e
  · rw [e] at hu ⊢
    rw [h1] at hu
    rw [c1, hu]
  · rw [e] at hu ⊢
    rw [h2] at hu
    rw [← Nat.add_assoc, c2, hu]

/-- A row of the call's own, read as pairs. -/
theorem pairs_own {W : World} {base : Nat} {e : TypeId} {v : Value} {n : Nat} {xs : List (Int × Int)} (h : W.ownsRow base e 2 v n (flat xs)) (hn : 0 < n) :
    ∃ g cap cur, v = .slice (some ⟨g, 0, none⟩) n cap ∧ base ≤ g ∧ g < W.heap.size ∧ n ≤ cap ∧ cap ≤ maxLen ∧ xs.length = n ∧ W.heap[g]? = some (.cells cur e (0, 0)) ∧
      ∀ j (h : j < xs.length), W.cell? ⟨g, 0 + j * 2, none⟩ = some (.int .i64 xs[j].1) ∧ W.cell? ⟨g, 0 + j * 2 + 1, none⟩ = some (.int .i64 xs[j].2) := by
  have hl : xs.length = n := by have := h.1; rw [flat_length] at this; omega
  rcases h.2 with ⟨_, h0⟩ | ⟨g, cap, cur, rfl, hb, hg, hnc, hcm, _, _⟩
  · omega
  · refine ⟨g, cap, cur, rfl, hb, (Array.getElem?_eq_some_iff.1 hg).1, hnc, hcm, hl, hg, fun j hj => ?_⟩
    obtain ⟨h1, h2⟩ := flat_get xs j hj
    have q1 := h.cells (g := g) rfl _ _ h1
    have q2 := h.cells (g := g) rfl _ _ h2
    rw [addr_add] at q1 q2
    exact ⟨q1, by rw [← Nat.add_assoc] at q2; exact q2⟩

theorem pairs_in {W : World} {g n : Nat} {xs : List (Int × Int)} (hl : xs.length = n) (hg : g < W.heap.size)
    (h : ∀ j (h : j < xs.length), W.cell? ⟨g, 0 + j * 2, none⟩ = some (.int .i64 xs[j].1) ∧ W.cell? ⟨g, 0 + j * 2 + 1, none⟩ = some (.int .i64 xs[j].2)) : PairsIn W W.heap.size (some ⟨g, 0, none⟩) n xs :=
  ⟨hl, fun _ => ⟨g, 0, rfl, hg, h⟩⟩

end Go.Proofs.YteknegfocnopgaaDoor
