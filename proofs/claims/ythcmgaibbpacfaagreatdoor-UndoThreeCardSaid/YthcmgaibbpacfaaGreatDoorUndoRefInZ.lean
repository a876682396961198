/-
  The walks of the document's own in and only (records).
-/
import Derived.Test.YthcmgaibbpacfaaGreatDoorZ01
import Derived.Test.YthcmgaibbpacfaaGreatDoorGraphRefListZ
import Derived.Test.YthcmgaibbpacfaaGreatDoorZ01
import Derived.Test.YthcmgaibbpacfaaGreatDoorZ01
import Derived.BigQuiet
import Derived.Deep.LoopGhost
import Derived.Deep.RegionHeld3
namespace Go.Proofs.YthcmgaibbpacfaaGreatDoor
open Go.RowKit StampMath GraphMath

theorem mem_take_none {α : Type} [DecidableEq α] {l : List α} {x : α} {k : Nat} (hk : l.length ≤ k) (h : x ∉ l.take k) : x ∉ l := by
  rwa [List.take_of_length_le hk] at h

set_option maxRecDepth 100000 in
set_option maxHeartbeats 1600000 in
theorem refIn (v : Value) (A : Option Addr) (n c : Nat) (E : List Ent) (x : Ent) (hn : n ≤ 1000) (w : World) (h : EntsIn w w.heap.size A n E) :
    Calls Tryz.prog 64 #[.agg #[v, .slice A n c], .agg (entA x)] w fun e w' => e = .returned (.bool (decide (x ∈ E))) ∧ Below w.heap.size w w' := by
  have hl := h.len
  have HI : Hid (EntsIn w w.heap.size A n E) := h
  clear h
  have hb0 : Held w [(w.heap.size + 1, .cells (entA x) 66), (w.heap.size, .cells #[v, .slice A n c] 39)]
    ((w.alloc (.cells #[v, .slice A n c] 39)).alloc (.cells (entA x) 66)) :=
    ((Held.refl w).alloc (.cells #[v, .slice A n c] 39) rfl).alloc (.cells (entA x) 66) (by simp)
  obtain ⟨r, hr⟩ : ∃ r, r = decide (x ∈ E) := ⟨_, rfl⟩
  rw [← hr]
  have HR := Lib.hid hr
  clear hr
  unfold entA
  go_enter Tryz.func64, Tryz.ntmps64
  go_wp2_with fail
  go_loopg [5] (n + 1) (fun gk i wr => ∃ k : Nat, i = .int .i64 (k : Int) ∧ gk + k = n + 1 ∧ k ≤ n ∧ Hid (x ∉ E.take k) ∧ Held w [(w.heap.size + 1, .cells (entA x) 66), (w.heap.size, .cells #[v, .slice A n c] 39)] wr)
  case atStart => exact ⟨0, rfl, by omega, by omega, Lib.hid (by simp), hb0⟩
  case round =>
    obtain ⟨k, rfl, hgk, hk, hnone, hH⟩ := hrel
    clear hb0
    have hc1 := (two_cells (g := w.heap.size) (hH.at 1 rfl)).2
    obtain ⟨y0, y1, y2, y3, y4⟩ := ent_cells (g := w.heap.size + 1) (hH.at 0 rfl)
    by_cases hlt : k < n
    · obtain ⟨gi, o, rfl, hg, hrow⟩ := HI.out.row (by omega)
      have hrk := (hrow k (by omega)).below hH.below hg
      have lk : k < E.length := by omega
      obtain ⟨z, hz⟩ : ∃ z, E[k] = z := ⟨_, rfl⟩
      have hmem : z ∈ E := by rw [← hz]; exact List.getElem_mem lk
      have hsn : x ∉ E.take (k + 1) ↔ ¬ x = z := by
        rw [List.take_succ_eq_append_getElem lk, List.mem_append, hz, List.mem_singleton]
        exact ⟨fun q e => q (Or.inr e), fun q e => e.elim hnone.out q⟩
      rw [hz] at hrk
      clear hrow hz lk hnone
      obtain ⟨e0, e1, e2, e3, e4⟩ := hrk
      by_cases hq : z = x
      · subst hq
        have hv := run_eqEnt z z
        rw [decide_eq_true rfl] at hv
        have HT : Hid (r = true) := Lib.hid (by rw [HR.out]; exact decide_eq_true hmem)
        clear hmem hsn
        go_wp2_with fail
        go_quiet (fail)
        go_wp2_with fail
        go_ret
        exact ⟨by rw [HT.out]; rfl, below_drewN' hH.below _⟩
      · have hv := run_eqEnt z x
        rw [decide_eq_false hq] at hv
        have HP := Lib.hid (hsn.2 fun q => hq q.symm)
        clear hmem hsn
        go_wp2_with fail
        go_quiet (fail)
        go_wp2_with fail
        go_roundg (gk - 1)
        case measure => omega
        case rel => exact ⟨k + 1, by go_num, by omega, by omega, HP, hH.drewN _⟩
    · have HT : Hid (r = false) := Lib.hid (by rw [HR.out]; exact decide_eq_false (mem_take_none (by omega) hnone.out))
      go_wp2_with fail
      go_ret
      exact ⟨by rw [HT.out]; rfl, hH.below⟩

end Go.Proofs.YthcmgaibbpacfaaGreatDoor
