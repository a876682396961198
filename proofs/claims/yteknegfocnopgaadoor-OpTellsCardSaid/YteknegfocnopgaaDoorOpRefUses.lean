/-
  The walk of the document's own Uses.
-/
import Derived.Test.YteknegfocnopgaaDoorOpMath
import Derived.Test.YteknegfocnopgaaDoorStampFlat
import Derived.Deep.DeepCutAuto
import Derived.Test.YteknegfocnopgaaDoorRows
namespace Go.Proofs.YteknegfocnopgaaDoor
open Go.RowKit OpMath

/-- A new list of stamps is answered. -/
def ListPost (xs : List (Int × Int)) (w : World) (e : Ending) (w' : World) : Prop :=
  ∃ (A : Option Addr) (c : Nat), e = .returned (.slice A xs.length c) ∧ PairsIn w' w'.heap.size A xs.length xs ∧ xs.length ≤ c ∧ c ≤ maxLen ∧ Below w.heap.size w w'

theorem list_own {w W : World} {base : Nat} {T : TypeId} {v : Value} {n : Nat} {xs : List (Int × Int)} (h : W.ownsRow base T 2 v n (flat xs)) (hn : 0 < n) (hb : Below w.heap.size w W) : ListPost xs w (.returned v) W := by
  obtain ⟨g, cap, cur, rfl, _, hg, hc, hm, hl, _, hcell⟩ := pairs_own h hn
  subst hl
  exact ⟨some ⟨g, 0, none⟩, cap, rfl, ⟨rfl, fun _ => ⟨g, 0, rfl, hg, hcell⟩⟩, hc, hm, hb⟩

theorem pair_there (w : World) (T : TypeId) (a b : Int) : ∀ j u, (flat [(a, b)])[j]? = some u → (w.alloc (.cells #[.int .i64 a, .int .i64 b] T)).cell? (Addr.add ⟨w.heap.size, 0, none⟩ j) = some u :=
  flat_at fun j hj => by
    have hj0 : j = 0 := by simpa using hj
    subst hj0
    exact ⟨cell_of_row _ _ 0 _ _ (0, 0) (heap_alloc_new w _), cell_of_row _ _ 1 _ _ (0, 0) (heap_alloc_new w _)⟩

theorem stamp_infos : (Tryd.prog.info? 23).map (fun i => (i.zero, i.size, i.bytes)) = some (some (.agg #[.int .i64 0, .int .i64 0]), 2, 16) := by kernel_rfl

set_option maxRecDepth 100000 in
set_option maxHeartbeats 1600000 in
theorem refUses (o : Opn) (w : World) :
    Calls Tryd.prog 22 #[.agg #[.int .i64 o.st, .int .i64 o.sr, .int .i64 o.k, .int .i64 o.pt, .int .i64 o.pr, .int .i64 o.it, .int .i64 o.ir, .int .i64 o.tt, .int .i64 o.tr, .string o.name, .string o.new, .int .i64 o.off, .string o.data]] w (ListPost (usesO o) w) := by
  obtain ⟨i0, hi0, hz0, hz1, hz2⟩ := info_parts stamp_infos
  have hcase : (decide (1 ≤ o.k) = false ∧ decide (4 ≤ o.k) = false ∧ (o.k == 7) = false ∧ usesO o = []) ∨ (1 ≤ o.k ∧ o.k ≤ 3 ∧ (o.k == 7) = false ∧ usesO o = [(o.pt, o.pr)]) ∨ (4 ≤ o.k ∧ o.k ≤ 6 ∧ (o.k == 7) = false ∧ usesO o = [(o.pt, o.pr), (o.it, o.ir)]) ∨
      (7 ≤ o.k ∧ o.k ≤ 7 ∧ (o.k == 7) = true ∧ usesO o = [(o.pt, o.pr), (o.it, o.ir), (o.tt, o.tr)]) ∨ (8 ≤ o.k ∧ o.k ≤ 10 ∧ (o.k == 7) = false ∧ usesO o = [(o.it, o.ir)]) ∨ (11 ≤ o.k ∧ decide (o.k ≤ 10) = false ∧ (o.k == 7) = false ∧ usesO o = []) := by
    have h : o.k ≤ 0 ∨ (1 ≤ o.k ∧ o.k ≤ 3) ∨ (4 ≤ o.k ∧ o.k ≤ 6) ∨ o.k = 7 ∨ (8 ≤ o.k ∧ o.k ≤ 10) ∨ 11 ≤ o.k := by omega
    unfold usesO
    rcases h with h | ⟨h, h'⟩ | ⟨h, h'⟩ | h | ⟨h, h'⟩ | h
    · exact Or.inl ⟨by simp; omega, by simp; omega, by simp; omega, by rw [if_neg (by omega), if_neg (by omega), if_neg (by omega)]; rfl⟩
    · exact Or.inr (Or.inl ⟨h, h', by simp; omega, by rw [if_pos (by omega), if_neg (by omega), if_neg (by omega)]; rfl⟩)
    · exact Or.inr (Or.inr (Or.inl ⟨h, h', by simp; omega, by rw [if_pos (by omega), if_pos (by omega), if_neg (by omega)]; rfl⟩))
    · exact Or.inr (Or.inr (Or.inr (Or.inl ⟨by omega, by omega, by simp; omega, by rw [if_pos (by omega), if_pos (by omega), if_pos (by omega)]; rfl⟩)))
    · exact Or.inr (Or.inr (Or.inr (Or.inr (Or.inl ⟨h, h', by simp; omega, by rw [if_neg (by omega), if_pos (by omega), if_neg (by omega)]; rfl⟩))))
    · exact Or.inr (Or.inr (Or.inr (Or.inr (Or.inr ⟨h, by simp; omega, by simp; omega, by rw [if_neg (by omega), if_neg (by omega), if_neg (by omega)]; rfl⟩))))
  rcases hcase with ⟨h1, h2, h3, hE⟩ | ⟨h1, h2, h3, hE⟩ | ⟨h1, h2, h3, hE⟩ | ⟨h1, h2, h3, hE⟩ | ⟨h1, h2, h3, hE⟩ | ⟨h1, h2, h3, hE⟩
  · rw [hE]
    clear hE
    go_enter Tryd.func22, Tryd.ntmps22
    go_upto_region 1 with fail
    have hh0 : (w.alloc (.cells (opA o) 25)).heap[w.heap.size]? = some (.cells (opA o) 25 (0, 0)) := heap_alloc_new w _
    have hB0 : Below w.heap.size w (w.alloc (.cells (opA o) 25)) := (Below.refl _ _).alloc (Nat.le_refl _) _
    have hs0 : w.heap.size < (w.alloc (.cells (opA o) 25)).heap.size := heap_lt hh0
    change Code.wp _ _ _ _ (w.alloc (.cells (opA o) 25))
    generalize w.alloc (.cells (opA o) 25) = w0 at hh0 hB0 hs0 ⊢
    have hc0 := op_cells hh0
    have own0 : w0.ownsRow w0.heap.size 23 2 (.slice none 0 0) 0 (flat []) := World.ownsRow_nil _ _ _ _
    have hb0 : Below w0.heap.size w0 w0 := Below.refl _ _
    go_wp2_with fail
    go_ret
    exact ⟨none, 0, rfl, ⟨rfl, fun h => absurd h (by simp)⟩, by simp, by decide, hB0⟩
  · rw [hE]
    clear hE
    go_enter Tryd.func22, Tryd.ntmps22
    go_upto_region 1 with fail
    have hh0 : (w.alloc (.cells (opA o) 25)).heap[w.heap.size]? = some (.cells (opA o) 25 (0, 0)) := heap_alloc_new w _
    have hB0 : Below w.heap.size w (w.alloc (.cells (opA o) 25)) := (Below.refl _ _).alloc (Nat.le_refl _) _
    have hs0 : w.heap.size < (w.alloc (.cells (opA o) 25)).heap.size := heap_lt hh0
    change Code.wp _ _ _ _ (w.alloc (.cells (opA o) 25))
    generalize w.alloc (.cells (opA o) 25) = w0 at hh0 hB0 hs0 ⊢
    have hc0 := op_cells hh0
    have own0 : w0.ownsRow w0.heap.size 23 2 (.slice none 0 0) 0 (flat []) := World.ownsRow_nil _ _ _ _
    have hb0 : Below w0.heap.size w0 w0 := Below.refl _ _
    go_wp2_with (first
      | (at_builtin; refine wpList_append_own _ rfl (.tmp 12) (.tmp 15) 37 rfl w0.heap.size 23 i0 _ 2 16 Tryd.underlying37 hi0 hz0 hz1 hz2 rfl (by decide) _ _ _ rfl (own0.alloc _) ⟨w0.heap.size, 0, none⟩ 1 1 (flat [(o.pt, o.pr)]) rfl rfl (pair_there w0 _ _ _) (flat_one _) (by decide) (by omega) (by have := hb0.size; rw [World.size_alloc]; omega) ?_; intro v1 w1 own1 hg1 _; simp only [Nat.zero_add, flat_nil, List.nil_append] at own1; have hb1 : Below w0.heap.size w0 w1 := (hb0.alloc hb0.size _).grown hg1 (by have := hb0.size; rw [World.size_alloc]; omega) (fun q hq => (own0.lt q hq).1); have hc1 := op_cells ((hb1.block _ hs0).trans hh0); clear hg1))
    go_ret
    exact list_own own1 (by omega) (below_step hB0 hb1)
  · rw [hE]
    clear hE
    go_enter Tryd.func22, Tryd.ntmps22
    go_upto_region 1 with fail
    have hh0 : (w.alloc (.cells (opA o) 25)).heap[w.heap.size]? = some (.cells (opA o) 25 (0, 0)) := heap_alloc_new w _
    have hB0 : Below w.heap.size w (w.alloc (.cells (opA o) 25)) := (Below.refl _ _).alloc (Nat.le_refl _) _
    have hs0 : w.heap.size < (w.alloc (.cells (opA o) 25)).heap.size := heap_lt hh0
    change Code.wp _ _ _ _ (w.alloc (.cells (opA o) 25))
    generalize w.alloc (.cells (opA o) 25) = w0 at hh0 hB0 hs0 ⊢
    have hc0 := op_cells hh0
    have own0 : w0.ownsRow w0.heap.size 23 2 (.slice none 0 0) 0 (flat []) := World.ownsRow_nil _ _ _ _
    have hb0 : Below w0.heap.size w0 w0 := Below.refl _ _
    go_wp2_with (first
      | (at_builtin; refine wpList_append_own _ rfl (.tmp 12) (.tmp 15) 37 rfl w0.heap.size 23 i0 _ 2 16 Tryd.underlying37 hi0 hz0 hz1 hz2 rfl (by decide) _ _ _ rfl (own0.alloc _) ⟨w0.heap.size, 0, none⟩ 1 1 (flat [(o.pt, o.pr)]) rfl rfl (pair_there w0 _ _ _) (flat_one _) (by decide) (by omega) (by have := hb0.size; rw [World.size_alloc]; omega) ?_; intro v1 w1 own1 hg1 _; simp only [Nat.zero_add, flat_nil, List.nil_append] at own1; have hb1 : Below w0.heap.size w0 w1 := (hb0.alloc hb0.size _).grown hg1 (by have := hb0.size; rw [World.size_alloc]; omega) (fun q hq => (own0.lt q hq).1); have hc1 := op_cells ((hb1.block _ hs0).trans hh0); clear hg1)
      | (at_builtin; refine wpList_append_own _ rfl (.tmp 25) (.tmp 28) 37 rfl w0.heap.size 23 i0 _ 2 16 Tryd.underlying37 hi0 hz0 hz1 hz2 rfl (by decide) _ _ _ rfl (own1.alloc _) ⟨w1.heap.size, 0, none⟩ 1 1 (flat [(o.it, o.ir)]) rfl rfl (pair_there w1 _ _ _) (flat_one _) (by decide) (by omega) (by have := hb1.size; rw [World.size_alloc]; omega) ?_; intro v2 w2 own2 hg2 _; have own2 : w2.ownsRow w0.heap.size 23 2 v2 2 (flat [(o.pt, o.pr), (o.it, o.ir)]) := own2; have hb2 : Below w0.heap.size w0 w2 := (hb1.alloc hb1.size _).grown hg2 (by have := hb1.size; rw [World.size_alloc]; omega) (fun q hq => (own1.lt q hq).1); have hc2 := op_cells ((hb2.block _ hs0).trans hh0); clear hg2))
    go_ret
    exact list_own own2 (by omega) (below_step hB0 hb2)
  · rw [hE]
    clear hE
    go_enter Tryd.func22, Tryd.ntmps22
    go_upto_region 1 with fail
    have hh0 : (w.alloc (.cells (opA o) 25)).heap[w.heap.size]? = some (.cells (opA o) 25 (0, 0)) := heap_alloc_new w _
    have hB0 : Below w.heap.size w (w.alloc (.cells (opA o) 25)) := (Below.refl _ _).alloc (Nat.le_refl _) _
    have hs0 : w.heap.size < (w.alloc (.cells (opA o) 25)).heap.size := heap_lt hh0
    change Code.wp _ _ _ _ (w.alloc (.cells (opA o) 25))
    generalize w.alloc (.cells (opA o) 25) = w0 at hh0 hB0 hs0 ⊢
    have hc0 := op_cells hh0
    have own0 : w0.ownsRow w0.heap.size 23 2 (.slice none 0 0) 0 (flat []) := World.ownsRow_nil _ _ _ _
    have hb0 : Below w0.heap.size w0 w0 := Below.refl _ _
    go_wp2_with (first
      | (at_builtin; refine wpList_append_own _ rfl (.tmp 12) (.tmp 15) 37 rfl w0.heap.size 23 i0 _ 2 16 Tryd.underlying37 hi0 hz0 hz1 hz2 rfl (by decide) _ _ _ rfl (own0.alloc _) ⟨w0.heap.size, 0, none⟩ 1 1 (flat [(o.pt, o.pr)]) rfl rfl (pair_there w0 _ _ _) (flat_one _) (by decide) (by omega) (by have := hb0.size; rw [World.size_alloc]; omega) ?_; intro v1 w1 own1 hg1 _; simp only [Nat.zero_add, flat_nil, List.nil_append] at own1; have hb1 : Below w0.heap.size w0 w1 := (hb0.alloc hb0.size _).grown hg1 (by have := hb0.size; rw [World.size_alloc]; omega) (fun q hq => (own0.lt q hq).1); have hc1 := op_cells ((hb1.block _ hs0).trans hh0); clear hg1)
      | (at_builtin; refine wpList_append_own _ rfl (.tmp 25) (.tmp 28) 37 rfl w0.heap.size 23 i0 _ 2 16 Tryd.underlying37 hi0 hz0 hz1 hz2 rfl (by decide) _ _ _ rfl (own1.alloc _) ⟨w1.heap.size, 0, none⟩ 1 1 (flat [(o.it, o.ir)]) rfl rfl (pair_there w1 _ _ _) (flat_one _) (by decide) (by omega) (by have := hb1.size; rw [World.size_alloc]; omega) ?_; intro v2 w2 own2 hg2 _; have own2 : w2.ownsRow w0.heap.size 23 2 v2 2 (flat [(o.pt, o.pr), (o.it, o.ir)]) := own2; have hb2 : Below w0.heap.size w0 w2 := (hb1.alloc hb1.size _).grown hg2 (by have := hb1.size; rw [World.size_alloc]; omega) (fun q hq => (own1.lt q hq).1); have hc2 := op_cells ((hb2.block _ hs0).trans hh0); clear hg2)
      | (at_builtin; refine wpList_append_own _ rfl (.tmp 33) (.tmp 36) 37 rfl w0.heap.size 23 i0 _ 2 16 Tryd.underlying37 hi0 hz0 hz1 hz2 rfl (by decide) _ _ _ rfl (own2.alloc _) ⟨w2.heap.size, 0, none⟩ 1 1 (flat [(o.tt, o.tr)]) rfl rfl (pair_there w2 _ _ _) (flat_one _) (by decide) (by omega) (by have := hb2.size; rw [World.size_alloc]; omega) ?_; intro v3 w3 own3 hg3 _; have own3 : w3.ownsRow w0.heap.size 23 2 v3 3 (flat [(o.pt, o.pr), (o.it, o.ir), (o.tt, o.tr)]) := own3; have hb3 : Below w0.heap.size w0 w3 := (hb2.alloc hb2.size _).grown hg3 (by have := hb2.size; rw [World.size_alloc]; omega) (fun q hq => (own2.lt q hq).1); have hc3 := op_cells ((hb3.block _ hs0).trans hh0); clear hg3))
    go_ret
    exact list_own own3 (by omega) (below_step hB0 hb3)
  · rw [hE]
    clear hE
    go_enter Tryd.func22, Tryd.ntmps22
    go_upto_region 1 with fail
    have hh0 : (w.alloc (.cells (opA o) 25)).heap[w.heap.size]? = some (.cells (opA o) 25 (0, 0)) := heap_alloc_new w _
    have hB0 : Below w.heap.size w (w.alloc (.cells (opA o) 25)) := (Below.refl _ _).alloc (Nat.le_refl _) _
    have hs0 : w.heap.size < (w.alloc (.cells (opA o) 25)).heap.size := heap_lt hh0
    change Code.wp _ _ _ _ (w.alloc (.cells (opA o) 25))
    generalize w.alloc (.cells (opA o) 25) = w0 at hh0 hB0 hs0 ⊢
    have hc0 := op_cells hh0
    have own0 : w0.ownsRow w0.heap.size 23 2 (.slice none 0 0) 0 (flat []) := World.ownsRow_nil _ _ _ _
    have hb0 : Below w0.heap.size w0 w0 := Below.refl _ _
    go_wp2_with (first
      | (at_builtin; refine wpList_append_own _ rfl (.tmp 25) (.tmp 28) 37 rfl w0.heap.size 23 i0 _ 2 16 Tryd.underlying37 hi0 hz0 hz1 hz2 rfl (by decide) _ _ _ rfl (own0.alloc _) ⟨w0.heap.size, 0, none⟩ 1 1 (flat [(o.it, o.ir)]) rfl rfl (pair_there w0 _ _ _) (flat_one _) (by decide) (by omega) (by have := hb0.size; rw [World.size_alloc]; omega) ?_; intro v1 w1 own1 hg1 _; simp only [Nat.zero_add, flat_nil, List.nil_append] at own1; have hb1 : Below w0.heap.size w0 w1 := (hb0.alloc hb0.size _).grown hg1 (by have := hb0.size; rw [World.size_alloc]; omega) (fun q hq => (own0.lt q hq).1); have hc1 := op_cells ((hb1.block _ hs0).trans hh0); clear hg1))
    go_ret
    exact list_own own1 (by omega) (below_step hB0 hb1)
  · rw [hE]
    clear hE
    go_enter Tryd.func22, Tryd.ntmps22
    go_upto_region 1 with fail
    have hh0 : (w.alloc (.cells (opA o) 25)).heap[w.heap.size]? = some (.cells (opA o) 25 (0, 0)) := heap_alloc_new w _
    have hB0 : Below w.heap.size w (w.alloc (.cells (opA o) 25)) := (Below.refl _ _).alloc (Nat.le_refl _) _
    have hs0 : w.heap.size < (w.alloc (.cells (opA o) 25)).heap.size := heap_lt hh0
    change Code.wp _ _ _ _ (w.alloc (.cells (opA o) 25))
    generalize w.alloc (.cells (opA o) 25) = w0 at hh0 hB0 hs0 ⊢
    have hc0 := op_cells hh0
    have own0 : w0.ownsRow w0.heap.size 23 2 (.slice none 0 0) 0 (flat []) := World.ownsRow_nil _ _ _ _
    have hb0 : Below w0.heap.size w0 w0 := Below.refl _ _
    go_wp2_with fail
    go_ret
    exact ⟨none, 0, rfl, ⟨rfl, fun h => absurd h (by simp)⟩, by simp, by decide, hB0⟩

end Go.Proofs.YteknegfocnopgaaDoor
