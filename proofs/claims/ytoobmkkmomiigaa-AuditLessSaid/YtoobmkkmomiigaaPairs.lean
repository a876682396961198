/-
  A slice of pairs of integers (structs of two integer fields) that is only read. It needs no program.
-/
import Derived.Test.YtoobmkkmomiigaaBase
namespace Go.Proofs.Ytoobmkkmomiigaa
open Go.RowKit

/-- Both cells of a box written. -/
theorem box_set {w : World} {g : Nat} {a b c d : Value} {t : TypeId} (h : w.heap[g]? = some (.cells #[a, b] t (0, 0))) :
    ((w.setCell ⟨g, 0, none⟩ c).setCell ⟨g, 1, none⟩ d).heap[g]? = some (.cells #[c, d] t (0, 0)) := by
  rw [heap_setCell_same _ _ _ _ _ _ (heap_setCell_same _ _ _ _ _ _ h)]
  rfl

/-- The slice with address A and length n reads as the pairs xs, and lies below block B. -/
def PairsIn (W : World) (B : Nat) (A : Option Addr) (n : Nat) (xs : List (Int × Int)) : Prop :=
  xs.length = n ∧ (0 < n → ∃ g o, A = some ⟨g, o, none⟩ ∧ g < B ∧
    ∀ j (h : j < xs.length), W.cell? ⟨g, o + j * 2, none⟩ = some (.int .i64 xs[j].1) ∧ W.cell? ⟨g, o + j * 2 + 1, none⟩ = some (.int .i64 xs[j].2))

theorem PairsIn.below {W W' : World} {B : Nat} {A : Option Addr} {n : Nat} {xs : List (Int × Int)} (h : PairsIn W B A n xs) (hb : Below B W W') : PairsIn W' B A n xs :=
  ⟨h.1, fun hn => by
    obtain ⟨g, o, e, hg, hc⟩ := h.2 hn
    exact ⟨g, o, e, hg, fun j hj => ⟨(hb.cell (p := ⟨g, o + j * 2, none⟩) hg).trans (hc j hj).1, (hb.cell (p := ⟨g, o + j * 2 + 1, none⟩) hg).trans (hc j hj).2⟩⟩⟩

theorem PairsIn.more {W : World} {B B' : Nat} {A : Option Addr} {n : Nat} {xs : List (Int × Int)} (h : PairsIn W B A n xs) (hB : B ≤ B') : PairsIn W B' A n xs :=
  ⟨h.1, fun hn => by
    obtain ⟨g, o, e, hg, hc⟩ := h.2 hn
    exact ⟨g, o, e, by omega, hc⟩⟩

end Go.Proofs.Ytoobmkkmomiigaa
