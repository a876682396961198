/-
  The walk of the document's own Texts: are two lists of strings the same?
-/
import Derived.Test.YtbkijfhfjhpebaaGreatDoorZ01
import Derived.Test.YtbkijfhfjhpebaaGreatDoorRows
import Derived.Deep.QuietTactic
import Derived.BigQuiet
import Derived.Deep.LoopGhost
namespace Go.Proofs.YtbkijfhfjhpebaaGreatDoor
open Go.RowKit

set_option maxRecDepth 100000 in
set_option maxHeartbeats 1600000 in
theorem refTexts (A : Option Addr) (n c : Nat) (xs : List (List UInt8)) (A' : Option Addr) (n' c' : Nat) (ys : List (List UInt8)) (hn : n ≤ 100000) (hn' : n' ≤ 100000) (w : World) (hx : StrsIn w w.heap.size A n xs) (hy : StrsIn w w.heap.size A' n' ys) :
    Calls Tryz.prog 17 #[.slice A n c, .slice A' n' c'] w fun e w' => e = .returned (.bool (sameS xs ys)) ∧ Below w.heap.size w w' := by
  have HX := Lib.hid hx
  have HY := Lib.hid hy
  clear hx hy
  by_cases hl : n = n'
  · have hd : ((n : Int) != (n' : Int)) = false := by simp [hl]
    have HL := Lib.hid hl
    clear hl
    go_enter Tryz.func17, Tryz.ntmps17
    go_wp2_with fail
    go_loopg [5] (n + 1) (fun gk i wr => ∃ k : Nat, i = .int .i64 (k : Int) ∧ gk + k = n + 1 ∧ k ≤ n ∧ Hid (∀ j (h1 : j < xs.length) (h2 : j < ys.length), j < k → xs[j] = ys[j]) ∧ Below w.heap.size w wr)
    case atStart => exact ⟨0, rfl, by omega, by omega, fun j _ _ hj => by omega, Below.refl _ _⟩
    case round =>
      obtain ⟨k, rfl, hgk, hk, hall, hB⟩ := hrel
      have HG := Lib.hid hgk
      clear hgk hd
      by_cases hlt : k < n
      · have hn2 : k < n' := by have := HL.out; omega
        obtain ⟨g, o, rfl, hg, hcell⟩ := HX.out.2 (by omega)
        obtain ⟨g', o', rfl, hg', hcell'⟩ := HY.out.2 (by omega)
        have l1 : k < xs.length := by have := HX.out.1; omega
        have l2 : k < ys.length := by have := HY.out.1; omega
        have e0 := hcell k l1
        have e2 := hcell' k l2
        have hne : ((⟨xs[k].toArray⟩ : ByteArray).toList == (⟨ys[k].toArray⟩ : ByteArray).toList) = decide (xs[k] = ys[k]) := by
          rw [ByteArray.toList_eq, ByteArray.toList_eq]
          by_cases h : xs[k] = ys[k]
          · simp [h]
          · rw [decide_eq_false h]; simpa using h
        obtain ⟨a, ha⟩ : ∃ a : ByteArray, a = ⟨xs[k].toArray⟩ := ⟨_, rfl⟩
        obtain ⟨p, hp⟩ : ∃ p : ByteArray, p = ⟨ys[k].toArray⟩ := ⟨_, rfl⟩
        rw [← ha] at e0 hne
        rw [← hp] at e2 hne
        have d0 : wr.cell? ⟨g, o + k, none⟩ = some (.string a) := (hB.cell (p := ⟨g, o + k, none⟩) hg).trans e0
        have d2 : wr.cell? ⟨g', o' + k, none⟩ = some (.string p) := (hB.cell (p := ⟨g', o' + k, none⟩) hg').trans e2
        have hi0 : (0 : Int) ≤ (k : Int) := by omega
        have hi1 : (k : Int) < (n : Int) := by omega
        have hi2 : (k : Int) < (n' : Int) := by omega
        clear hcell hcell' e0 e2 ha hp
        by_cases h : xs[k] = ys[k]
        · rw [decide_eq_true h] at hne
          have H := Lib.hid h
          clear h
          go_wp2_with fail
          go_quiet (fail)
          go_wp2_with fail
          go_roundg (gk - 1)
          case measure => have := HG.out; omega
          case rel =>
            refine ⟨k + 1, by go_num, by have := HG.out; omega, by omega, fun j q1 q2 hj => ?_, below_drewN' hB _⟩
            by_cases e : j = k
            · subst e; exact H.out
            · exact hall.out j q1 q2 (by omega)
        · rw [decide_eq_false h] at hne
          have H := Lib.hid h
          clear h
          go_wp2_with fail
          go_quiet (fail)
          go_wp2_with fail
          go_ret
          refine ⟨?_, below_drewN' hB _⟩
          rw [sameS_no l1 l2 H.out]
          rfl
      · go_wp2_with fail
        go_ret
        refine ⟨?_, hB⟩
        rw [sameS_yes (by have := HX.out.1; have := HY.out.1; have := HL.out; omega) fun j q1 q2 => hall.out j q1 q2 (by have := HX.out.1; omega)]
        rfl
  · have hd : ((n : Int) != (n' : Int)) = true := by simp; omega
    have HL := Lib.hid hl
    clear hl
    go_enter Tryz.func17, Tryz.ntmps17
    go_wp2_with fail
    go_ret
    refine ⟨?_, Below.refl _ _⟩
    rw [sameS_no_len (by have := HX.out.1; have := HY.out.1; have := HL.out; omega)]
    rfl

end Go.Proofs.YtbkijfhfjhpebaaGreatDoor
