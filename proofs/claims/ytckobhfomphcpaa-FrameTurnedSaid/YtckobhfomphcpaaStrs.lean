/-
  A slice of strings that is only read; one that was appended to. It needs no program.
-/
import Derived.Test.YtckobhfomphcpaaBase
namespace Go.Proofs.Ytckobhfomphcpaa
open Go.RowKit

/-- Strings as cells. -/
def strV (xs : List (List UInt8)) : List Value := xs.map fun x => .string ⟨x.toArray⟩

theorem strV_len (xs : List (List UInt8)) : (strV xs).length = xs.length := by simp [strV]
theorem strV_nil : strV [] = [] := rfl
theorem strV_snoc (xs : List (List UInt8)) (x : List UInt8) : strV xs ++ [.string ⟨x.toArray⟩] = strV (xs ++ [x]) := by simp [strV]
theorem strV_at {xs : List (List UInt8)} {j : Nat} (h : j < xs.length) : (strV xs)[j]? = some (.string ⟨xs[j].toArray⟩) := by
  unfold strV
  rw [List.getElem?_map, List.getElem?_eq_getElem h]
  rfl

/-- The slice with address A and length n reads as the strings xs, and lies below block B. -/
def StrsIn (W : World) (B : Nat) (A : Option Addr) (n : Nat) (xs : List (List UInt8)) : Prop :=
  xs.length = n ∧ (0 < n → ∃ g o, A = some ⟨g, o, none⟩ ∧ g < B ∧ ∀ j (h : j < xs.length), W.cell? ⟨g, o + j, none⟩ = some (.string ⟨xs[j].toArray⟩))

theorem StrsIn.below {W W' : World} {B : Nat} {A : Option Addr} {n : Nat} {xs : List (List UInt8)} (h : StrsIn W B A n xs) (hb : Below B W W') : StrsIn W' B A n xs :=
  ⟨h.1, fun hn => by
    obtain ⟨g, o, e, hg, hc⟩ := h.2 hn
    exact ⟨g, o, e, hg, fun j hj => (hb.cell (p := ⟨g, o + j, none⟩) hg).trans (hc j hj)⟩⟩

theorem StrsIn.more {W : World} {B B' : Nat} {A : Option Addr} {n : Nat} {xs : List (List UInt8)} (h : StrsIn W B A n xs) (hB : B ≤ B') : StrsIn W B' A n xs :=
  ⟨h.1, fun hn => by
    obtain ⟨g, o, e, hg, hc⟩ := h.2 hn
    exact ⟨g, o, e, by omega, hc⟩⟩

/-- A begin of such a slice. -/
theorem StrsIn.take {W : World} {B : Nat} {A : Option Addr} {n : Nat} {xs : List (List UInt8)} (h : StrsIn W B A n xs) {k : Nat} (hk : k ≤ n) : StrsIn W B A k (xs.take k) :=
  ⟨by rw [List.length_take, h.1]; omega, fun hn => by
    obtain ⟨g, o, e, hg, hc⟩ := h.2 (by omega)
    refine ⟨g, o, e, hg, fun j hj => ?_⟩
    rw [List.length_take] at hj
    rw [List.getElem_take]
    exact hc j (by omega)⟩

theorem StrsIn.none (W : World) (B : Nat) (A : Option Addr) : StrsIn W B A 0 [] := ⟨rfl, fun h => absurd h (by omega)⟩

/-- What was appended to reads so. -/
theorem strs_own {W : World} {base : Nat} {e : TypeId} {v : Value} {n : Nat} {xs : List (List UInt8)} (h : W.ownsRow base e 1 v n (strV xs)) :
    ∃ (A : Option Addr) (c : Nat), v = .slice A n c ∧ StrsIn W W.heap.size A n xs ∧ n ≤ c ∧ c ≤ maxLen ∧ (A = Option.none → c = 0) := by
  have hl : xs.length = n := by have := h.1; rw [strV_len] at this; omega
  rcases h.2 with ⟨rfl, h0⟩ | ⟨g, cap, cur, rfl, hb, hg, hnc, hcm, _, _⟩
  · exact ⟨Option.none, 0, by rw [h0], ⟨hl, fun hn => by omega⟩, by omega, by decide, fun _ => rfl⟩
  · refine ⟨some ⟨g, 0, Option.none⟩, cap, rfl, ⟨hl, fun _ => ⟨g, 0, rfl, (Array.getElem?_eq_some_iff.1 hg).1, fun j hj => ?_⟩⟩, hnc, hcm, fun h => by cases h⟩
    have q := h.cells (g := g) rfl _ _ (strV_at hj)
    have e : (⟨g, 0, Option.none⟩ : Addr).add j = ⟨g, 0 + j, Option.none⟩ := by
      unfold Addr.add
      split <;> simp_all
    rw [e] at q
    exact q

/-- A new cell with a string. -/
theorem str_there (w : World) (T : TypeId) (x : List UInt8) : ∀ j u, (strV [x])[j]? = some u → (w.alloc (.cells #[.string ⟨x.toArray⟩] T)).cell? (Addr.add ⟨w.heap.size, 0, none⟩ j) = some u := by
  intro j u hj
  have h0 : j = 0 := by
    by_cases e : j = 0
    · exact e
    · rw [List.getElem?_eq_none (by simp [strV]; omega)] at hj
      cases hj
  subst h0
  simp [strV] at hj
  subst hj
  exact cell_of_row _ _ 0 _ _ (0, 0) (heap_alloc_new w _)

theorem str_one (x : List UInt8) : ∀ u ∈ strV [x], u.oneCell' = true := by
  intro u hu
  simp [strV] at hu
  subst hu
  rfl

/-- Are two lists the same? -/
def sameS (xs ys : List (List UInt8)) : Bool := decide (xs = ys)

theorem sameS_no_len {xs ys : List (List UInt8)} (h : xs.length ≠ ys.length) : sameS xs ys = false := decide_eq_false fun e => h (by rw [e])
theorem sameS_no {xs ys : List (List UInt8)} {k : Nat} (h1 : k < xs.length) (h2 : k < ys.length) (h : ¬ xs[k] = ys[k]) : sameS xs ys = false :=
  decide_eq_false fun e => h (by subst e; rfl)
theorem sameS_yes {xs ys : List (List UInt8)} (hl : xs.length = ys.length) (h : ∀ k (h1 : k < xs.length) (h2 : k < ys.length), xs[k] = ys[k]) : sameS xs ys = true :=
  decide_eq_true (List.ext_getElem hl h)
theorem sameS_self (xs : List (List UInt8)) : sameS xs xs = true := decide_eq_true rfl

end Go.Proofs.Ytckobhfomphcpaa
