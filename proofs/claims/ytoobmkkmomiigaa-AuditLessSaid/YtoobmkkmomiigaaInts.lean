/-
  A slice of integers that was appended to, and is only read. It needs no program.
-/
import Derived.Test.YtoobmkkmomiigaaBase
namespace Go.Proofs.Ytoobmkkmomiigaa
open Go.RowKit

/-- Integers as cells. -/
def intV (xs : List Int) : List Value := xs.map fun x => .int .i64 x

theorem intV_len (xs : List Int) : (intV xs).length = xs.length := by simp [intV]
theorem intV_at {xs : List Int} {j : Nat} (h : j < xs.length) : (intV xs)[j]? = some (.int .i64 xs[j]) := by
  unfold intV
  rw [List.getElem?_map, List.getElem?_eq_getElem h]
  rfl

/-- The slice with address A and length n reads as the integers xs, and lies below block B. -/
def IntsIn (W : World) (B : Nat) (A : Option Addr) (n : Nat) (xs : List Int) : Prop :=
  xs.length = n ∧ (0 < n → ∃ g o, A = some ⟨g, o, none⟩ ∧ g < B ∧ ∀ j (h : j < xs.length), W.cell? ⟨g, o + j, none⟩ = some (.int .i64 xs[j]))

theorem IntsIn.below {W W' : World} {B : Nat} {A : Option Addr} {n : Nat} {xs : List Int} (h : IntsIn W B A n xs) (hb : Below B W W') : IntsIn W' B A n xs :=
  ⟨h.1, fun hn => by
    obtain ⟨g, o, e, hg, hc⟩ := h.2 hn
    exact ⟨g, o, e, hg, fun j hj => (hb.cell (p := ⟨g, o + j, none⟩) hg).trans (hc j hj)⟩⟩

theorem IntsIn.more {W : World} {B B' : Nat} {A : Option Addr} {n : Nat} {xs : List Int} (h : IntsIn W B A n xs) (hB : B ≤ B') : IntsIn W B' A n xs :=
  ⟨h.1, fun hn => by
    obtain ⟨g, o, e, hg, hc⟩ := h.2 hn
    exact ⟨g, o, e, by omega, hc⟩⟩

/-- What was appended to reads so. -/
theorem ints_own {W : World} {base : Nat} {e : TypeId} {v : Value} {n : Nat} {xs : List Int} (h : W.ownsRow base e 1 v n (intV xs)) :
    ∃ (A : Option Addr) (c : Nat), v = .slice A n c ∧ IntsIn W W.heap.size A n xs ∧ n ≤ c ∧ c ≤ maxLen := by
  have hl : xs.length = n := by have := h.1; rw [intV_len] at this; omega
  rcases h.2 with ⟨rfl, h0⟩ | ⟨g, cap, cur, rfl, hb, hg, hnc, hcm, _, _⟩
  · exact ⟨Option.none, 0, by rw [h0], ⟨hl, fun hn => by omega⟩, by omega, by decide⟩
  · refine ⟨some ⟨g, 0, Option.none⟩, cap, rfl, ⟨hl, fun _ => ⟨g, 0, rfl, (Array.getElem?_eq_some_iff.1 hg).1, fun j hj => ?_⟩⟩, hnc, hcm⟩
    have q := h.cells (g := g) rfl _ _ (intV_at hj)
    have e : (⟨g, 0, Option.none⟩ : Addr).add j = ⟨g, 0 + j, Option.none⟩ := by
      unfold Addr.add
      split <;> simp_all
    rw [e] at q
    exact q

/-- A new cell with an integer. -/
theorem int_there (w : World) (T : TypeId) (x : Int) : ∀ j u, (intV [x])[j]? = some u → (w.alloc (.cells #[.int .i64 x] T)).cell? (Addr.add ⟨w.heap.size, 0, none⟩ j) = some u := by
  intro j u hj
  have h0 : j = 0 := by
    by_cases e : j = 0
    · exact e
    · rw [List.getElem?_eq_none (by simp [intV]; omega)] at hj
      cases hj
  subst h0
  simp [intV] at hj
  subst hj
  exact cell_of_row _ _ 0 _ _ (0, 0) (heap_alloc_new w _)

theorem int_one (x : Int) : ∀ u ∈ intV [x], u.oneCell' = true := by
  intro u hu
  simp [intV] at hu
  subst hu
  rfl

end Go.Proofs.Ytoobmkkmomiigaa
