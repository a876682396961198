/-
  The walk of the document's own Stamps: are two lists the same?
-/
import Derived.Test.YteknegfocnopgaaDoorPairs
import Derived.Test.YteknegfocnopgaaDoorRows
import Derived.Deep.QuietTactic
import Derived.BigQuiet
import Derived.Deep.LoopGhost
namespace Go.Proofs.YteknegfocnopgaaDoor
open Go.RowKit

/-- Are two lists the same? -/
def sameL (xs ys : List (Int × Int)) : Bool := decide (xs = ys)

theorem sameL_no_len {xs ys : List (Int × Int)} (h : xs.length ≠ ys.length) : sameL xs ys = false := decide_eq_false fun e => h (by rw [e])

theorem sameL_no {xs ys : List (Int × Int)} {k : Nat} (h1 : k < xs.length) (h2 : k < ys.length) (h : ¬ (xs[k].1 = ys[k].1 ∧ xs[k].2 = ys[k].2)) : sameL xs ys = false :=
  decide_eq_false fun e => h (by subst e; exact ⟨rfl, rfl⟩)

theorem sameL_yes {xs ys : List (Int × Int)} (hl : xs.length = ys.length) (h : ∀ k (h1 : k < xs.length) (h2 : k < ys.length), xs[k].1 = ys[k].1 ∧ xs[k].2 = ys[k].2) : sameL xs ys = true :=
  decide_eq_true (List.ext_getElem hl fun k h1 h2 => Prod.ext (h k h1 h2).1 (h k h1 h2).2)

set_option maxRecDepth 100000 in
set_option maxHeartbeats 1600000 in
theorem refSame (A : Option Addr) (n c : Nat) (xs : List (Int × Int)) (A' : Option Addr) (n' c' : Nat) (ys : List (Int × Int)) (hn : n ≤ 4000) (hn' : n' ≤ 4000) (w : World) (hx : PairsIn w w.heap.size A n xs) (hy : PairsIn w w.heap.size A' n' ys) :
    Calls Tryd.prog 20 #[.slice A n c, .slice A' n' c'] w fun e w' => e = .returned (.bool (sameL xs ys)) ∧ Below w.heap.size w w' := by
  have HX := Lib.hid hx
  have HY := Lib.hid hy
  clear hx hy
  by_cases hl : n = n'
  · have hd : ((n : Int) != (n' : Int)) = false := by simp [hl]
    have HL := Lib.hid hl
    clear hl
    go_enter Tryd.func20, Tryd.ntmps20
    go_wp2_with fail
    go_loopg [5] (n + 1) (fun gk i wr => ∃ k : Nat, i = .int .i64 (k : Int) ∧ gk + k = n + 1 ∧ k ≤ n ∧ Hid (∀ j (h1 : j < xs.length) (h2 : j < ys.length), j < k → xs[j].1 = ys[j].1 ∧ xs[j].2 = ys[j].2) ∧ Below w.heap.size w wr)
    case atStart => exact ⟨0, rfl, by omega, by omega, fun j _ _ hj => by omega, Below.refl _ _⟩
    case round =>
      obtain ⟨k, rfl, hgk, hk, hall, hB⟩ := hrel
      have HG := Lib.hid hgk
      clear hgk hd
      by_cases hlt : k < n
      · have hn2 : k < n' := by have := HL.out; omega
        obtain ⟨g, o, rfl, hg, hcell⟩ := HX.out.2 (by omega)
        obtain ⟨g', o', rfl, hg', hcell'⟩ := HY.out.2 (by omega)
        have l1 : k < xs.length := by have := HX.out.1; omega
        have l2 : k < ys.length := by have := HY.out.1; omega
        obtain ⟨e0, e1⟩ := hcell k l1
        obtain ⟨e2, e3⟩ := hcell' k l2
        obtain ⟨a, ha⟩ : ∃ a, a = xs[k].1 := ⟨_, rfl⟩
        obtain ⟨b, hb⟩ : ∃ b, b = xs[k].2 := ⟨_, rfl⟩
        obtain ⟨p, hp⟩ : ∃ p, p = ys[k].1 := ⟨_, rfl⟩
        obtain ⟨q, hq⟩ : ∃ q, q = ys[k].2 := ⟨_, rfl⟩
        rw [← ha] at e0
        rw [← hb] at e1
        rw [← hp] at e2
        rw [← hq] at e3
        have d0 : wr.cell? ⟨g, o + k * 2, none⟩ = some (.int .i64 a) := (hB.cell (p := ⟨g, o + k * 2, none⟩) hg).trans e0
        have d1 : wr.cell? ⟨g, o + k * 2 + 1, none⟩ = some (.int .i64 b) := (hB.cell (p := ⟨g, o + k * 2 + 1, none⟩) hg).trans e1
        have d2 : wr.cell? ⟨g', o' + k * 2, none⟩ = some (.int .i64 p) := (hB.cell (p := ⟨g', o' + k * 2, none⟩) hg').trans e2
        have d3 : wr.cell? ⟨g', o' + k * 2 + 1, none⟩ = some (.int .i64 q) := (hB.cell (p := ⟨g', o' + k * 2 + 1, none⟩) hg').trans e3
        have F := Lib.hid (And.intro ha (And.intro hb (And.intro hp hq)))
        have hi0 : (0 : Int) ≤ (k : Int) := by omega
        have hi1 : (k : Int) < (n : Int) := by omega
        have hi2 : (k : Int) < (n' : Int) := by omega
        clear hcell hcell' e0 e1 e2 e3 ha hb hp hq
        have hcase : ((a == p) = true ∧ (b == q) = true) ∨ ((a == p) = false ∧ ¬ a = p) ∨ ((a == p) = true ∧ (b == q) = false ∧ ¬ b = q) := by
          by_cases h1 : a = p
          · by_cases h2 : b = q
            · exact Or.inl ⟨by simp [h1], by simp [h2]⟩
            · exact Or.inr (Or.inr ⟨by simp [h1], by simp [h2], h2⟩)
          · exact Or.inr (Or.inl ⟨by simp [h1], h1⟩)
        rcases hcase with ⟨h1, h2⟩ | ⟨h1, h2⟩ | ⟨h1, h2, h3⟩
        · go_wp2_with fail
          go_quiet (fail)
          go_wp2_with fail
          go_roundg (gk - 1)
          case measure => have := HG.out; omega
          case rel =>
            refine ⟨k + 1, by go_num, by have := HG.out; omega, by omega, fun j q1 q2 hj => ?_, below_drewN' hB _⟩
            by_cases e : j = k
            · subst e
              obtain ⟨f1, f2, f3, f4⟩ := F.out
              exact ⟨by rw [← f1, ← f3]; exact beq_iff_eq.1 h1, by rw [← f2, ← f4]; exact beq_iff_eq.1 h2⟩
            · exact hall.out j q1 q2 (by omega)
        · have H2 := Lib.hid h2
          clear h2
          go_wp2_with fail
          go_quiet (fail)
          go_wp2_with fail
          go_ret
          refine ⟨?_, below_drewN' hB _⟩
          obtain ⟨f1, f2, f3, f4⟩ := F.out
          rw [sameL_no l1 l2 (fun e => H2.out (by rw [f1, f3]; exact e.1))]
          rfl
        · have H3 := Lib.hid h3
          clear h3
          go_wp2_with fail
          go_quiet (fail)
          go_wp2_with fail
          go_ret
          refine ⟨?_, below_drewN' hB _⟩
          obtain ⟨f1, f2, f3, f4⟩ := F.out
          rw [sameL_no l1 l2 (fun e => H3.out (by rw [f2, f4]; exact e.2))]
          rfl
      · go_wp2_with fail
        go_ret
        refine ⟨?_, hB⟩
        rw [sameL_yes (by have := HX.out.1; have := HY.out.1; have := HL.out; omega) fun j q1 q2 => hall.out j q1 q2 (by have := HX.out.1; omega)]
        rfl
  · have hd : ((n : Int) != (n' : Int)) = true := by simp; omega
    have HL := Lib.hid hl
    clear hl
    go_enter Tryd.func20, Tryd.ntmps20
    go_wp2_with fail
    go_ret
    refine ⟨?_, Below.refl _ _⟩
    rw [sameL_no_len (by have := HX.out.1; have := HY.out.1; have := HL.out; omega)]
    rfl

end Go.Proofs.YteknegfocnopgaaDoor
