/-
  OpUses over assumed contracts.
-/
import Derived.Test.YteknegfocnopgaaDoorOpHave
import Derived.Deep.RegionHeld3
namespace Go.Proofs.YteknegfocnopgaaDoor.lawOpUses
open Go.RowKit OpMath StampMath PackMath

set_option maxRecDepth 100000 in
set_option maxHeartbeats 1600000 in
theorem notMay (o : Opn) (w : World) [Tab w] (S : Hid (∀ (W : World) [Tab W], Calls Tryd.prog 9 #[] W fun e w' => e = .returned (.bool true) ∧ Below W.heap.size W w')) (M : Hid (∀ (W : World) [Tab W], Calls Tryd.prog 14 #[.agg #[.int .i64 o.st, .int .i64 o.sr, .int .i64 o.k, .int .i64 o.pt, .int .i64 o.pr, .int .i64 o.it, .int .i64 o.ir, .int .i64 o.tt, .int .i64 o.tr, .string o.name, .string o.new, .int .i64 o.off, .string o.data]] W fun e w' => e = .returned (.bool false) ∧ Below W.heap.size W w')) :
    Calls Tryd.prog 7 #[.agg #[.int .i64 o.st, .int .i64 o.sr, .int .i64 o.k, .int .i64 o.pt, .int .i64 o.pr, .int .i64 o.it, .int .i64 o.ir, .int .i64 o.tt, .int .i64 o.tr, .string o.name, .string o.new, .int .i64 o.off, .string o.data]] w fun e w' => e = .returned (.bool true) ∧ Below w.heap.size w w' := by
  go_enter Tryd.func7, Tryd.ntmps7
  have hh0 : (w.alloc (.cells (opA o) 25)).heap[w.heap.size]? = some (.cells (opA o) 25 (0, 0)) := heap_alloc_new w _
  go_wp2_with fail
  refine (S.out _).mono ?_
  rintro e w1 ⟨rfl, hb1⟩
  have iw1 : Tab w1 := tab_step hb1
  have B1 : Below (w.alloc (.cells (opA o) 25)).heap.size (w.alloc (.cells (opA o) 25)) w1 := hb1
  have HN1 := Lib.hid ((B1.block _ (heap_lt hh0)).trans hh0)
  have HA1 := Lib.hid (below_step ((Below.refl _ w).alloc (Nat.le_refl _) (.cells (opA o) 25)) B1)
  clear hh0 hb1 B1
  obtain ⟨n0, n1, n2, n3, n4, n5, n6, n7, n8, n9, n10, n11, n12⟩ := op_cells HN1.out
  go_wp2_with fail
  refine (M.out _).mono ?_
  rintro e w2 ⟨rfl, hb⟩
  have iw2 : Tab w2 := tab_step hb
  have HN2 := Lib.hid ((hb.block _ (heap_lt HN1.out)).trans HN1.out)
  have HA2 := Lib.hid (below_step HA1.out hb)
  clear n0 n1 n2 n3 n4 n5 n6 n7 n8 n9 n10 n11 n12 HN1 HA1
  clear hb
  obtain ⟨n0, n1, n2, n3, n4, n5, n6, n7, n8, n9, n10, n11, n12⟩ := op_cells HN2.out
  go_wp2_with fail
  go_ret
  exact ⟨rfl, HA2.out⟩

set_option maxRecDepth 100000 in
set_option maxHeartbeats 1600000 in
theorem low (o : Opn) (w : World) [Tab w] (h1 : 1 ≤ o.k) (h2 : o.k ≤ 3) (hs : 1 ≤ o.name.size) (S : Hid (∀ (W : World) [Tab W], Calls Tryd.prog 9 #[] W fun e w' => e = .returned (.bool true) ∧ Below W.heap.size W w')) (M : Hid (∀ (W : World) [Tab W], Calls Tryd.prog 14 #[.agg #[.int .i64 o.st, .int .i64 o.sr, .int .i64 o.k, .int .i64 o.pt, .int .i64 o.pr, .int .i64 o.it, .int .i64 o.ir, .int .i64 o.tt, .int .i64 o.tr, .string o.name, .string o.new, .int .i64 o.off, .string o.data]] W fun e w' => e = .returned (.bool true) ∧ Below W.heap.size W w')) (K : Hid (∀ (W : World) [Tab W], Calls Tryd.prog 18 #[.agg #[.int .i64 o.st, .int .i64 o.sr, .int .i64 o.k, .int .i64 o.pt, .int .i64 o.pr, .int .i64 o.it, .int .i64 o.ir, .int .i64 o.tt, .int .i64 o.tr, .string o.name, .string o.new, .int .i64 o.off, .string o.data]] W fun e w' => e = .returned (.int .i64 (o.k)) ∧ Below W.heap.size W w')) (U : Hid (∀ (W : World) [Tab W], Calls Tryd.prog 21 #[.agg #[.int .i64 o.st, .int .i64 o.sr, .int .i64 o.k, .int .i64 o.pt, .int .i64 o.pr, .int .i64 o.it, .int .i64 o.ir, .int .i64 o.tt, .int .i64 o.tr, .string o.name, .string o.new, .int .i64 o.off, .string o.data]] W fun e w' => ∃ (A : Option Addr) (c : Nat), e = .returned (.slice A 1 c) ∧ PairsIn w' w'.heap.size A 1 [(o.pt, o.pr)] ∧ Below W.heap.size W w')) :
    Calls Tryd.prog 7 #[.agg #[.int .i64 o.st, .int .i64 o.sr, .int .i64 o.k, .int .i64 o.pt, .int .i64 o.pr, .int .i64 o.it, .int .i64 o.ir, .int .i64 o.tt, .int .i64 o.tr, .string o.name, .string o.new, .int .i64 o.off, .string o.data]] w fun e w' => e = .returned (.bool true) ∧ Below w.heap.size w w' := by
  go_enter Tryd.func7, Tryd.ntmps7
  have k0 : (o.k != 0) = true := by simp; omega
  have d3 : decide (o.k ≤ 3) = true := by simp; omega
  have e7 : (o.k == 7) = false := by simp; omega
  have d7 : decide (o.k ≤ 7) = true := by simp; omega
  have ne : (o.name.toList == []) = false := by
    rw [beq_eq_false_iff_ne]
    intro h
    have z := congrArg List.length h
    rw [ByteArray.toList_eq] at z
    simp at z
    rw [z] at hs
    exact absurd hs (by decide)
  clear hs
  have hh0 : (w.alloc (.cells (opA o) 25)).heap[w.heap.size]? = some (.cells (opA o) 25 (0, 0)) := heap_alloc_new w _
  go_wp2_with fail
  refine (S.out _).mono ?_
  rintro e w1 ⟨rfl, hb1⟩
  have iw1 : Tab w1 := tab_step hb1
  have B1 : Below (w.alloc (.cells (opA o) 25)).heap.size (w.alloc (.cells (opA o) 25)) w1 := hb1
  have HN1 := Lib.hid ((B1.block _ (heap_lt hh0)).trans hh0)
  have HA1 := Lib.hid (below_step ((Below.refl _ w).alloc (Nat.le_refl _) (.cells (opA o) 25)) B1)
  clear hh0 hb1 B1
  obtain ⟨n0, n1, n2, n3, n4, n5, n6, n7, n8, n9, n10, n11, n12⟩ := op_cells HN1.out
  go_wp2_with fail
  refine (M.out _).mono ?_
  rintro e w2 ⟨rfl, hb⟩
  have iw2 : Tab w2 := tab_step hb
  have HN2 := Lib.hid ((hb.block _ (heap_lt HN1.out)).trans HN1.out)
  have HA2 := Lib.hid (below_step HA1.out hb)
  clear n0 n1 n2 n3 n4 n5 n6 n7 n8 n9 n10 n11 n12 HN1 HA1
  clear hb
  obtain ⟨n0, n1, n2, n3, n4, n5, n6, n7, n8, n9, n10, n11, n12⟩ := op_cells HN2.out
  go_wp2_with fail
  refine (U.out _).mono ?_
  rintro e w3 ⟨A, c, rfl, hp, hb⟩
  have iw3 : Tab w3 := tab_step hb
  have HN3 := Lib.hid ((hb.block _ (heap_lt HN2.out)).trans HN2.out)
  have HA3 := Lib.hid (below_step HA2.out hb)
  clear n0 n1 n2 n3 n4 n5 n6 n7 n8 n9 n10 n11 n12 HN2 HA2
  obtain ⟨g, q, rfl, hg, hcell⟩ := hp.2 (by decide)
  clear hp
  clear hb
  obtain ⟨n0, n1, n2, n3, n4, n5, n6, n7, n8, n9, n10, n11, n12⟩ := op_cells HN3.out
  go_wp2_with fail
  refine (K.out _).mono ?_
  rintro e w4 ⟨rfl, hb⟩
  have iw4 : Tab w4 := tab_step hb
  have HN4 := Lib.hid ((hb.block _ (heap_lt HN3.out)).trans HN3.out)
  have HA4 := Lib.hid (below_step HA3.out hb)
  clear n0 n1 n2 n3 n4 n5 n6 n7 n8 n9 n10 n11 n12 HN3 HA3
  have c0 : w4.cell? ⟨g, q, none⟩ = some (.int .i64 o.pt) := (hb.cell (p := ⟨g, q, none⟩) hg).trans (hcell 0 (by show 0 < 1; decide)).1
  have c1 : w4.cell? ⟨g, q + 1, none⟩ = some (.int .i64 o.pr) := (hb.cell (p := ⟨g, q + 1, none⟩) hg).trans (hcell 0 (by show 0 < 1; decide)).2
  clear hcell
  clear hb
  obtain ⟨n0, n1, n2, n3, n4, n5, n6, n7, n8, n9, n10, n11, n12⟩ := op_cells HN4.out
  go_wp2_with fail
  go_quiet (fail)
  go_wp2_with fail
  go_ret
  exact ⟨rfl, below_drewN' HA4.out _⟩

set_option maxRecDepth 100000 in
set_option maxHeartbeats 1600000 in
theorem mid (o : Opn) (w : World) [Tab w] (h1 : 4 ≤ o.k) (h2 : o.k ≤ 6) (hs : 1 ≤ o.name.size) (S : Hid (∀ (W : World) [Tab W], Calls Tryd.prog 9 #[] W fun e w' => e = .returned (.bool true) ∧ Below W.heap.size W w')) (M : Hid (∀ (W : World) [Tab W], Calls Tryd.prog 14 #[.agg #[.int .i64 o.st, .int .i64 o.sr, .int .i64 o.k, .int .i64 o.pt, .int .i64 o.pr, .int .i64 o.it, .int .i64 o.ir, .int .i64 o.tt, .int .i64 o.tr, .string o.name, .string o.new, .int .i64 o.off, .string o.data]] W fun e w' => e = .returned (.bool true) ∧ Below W.heap.size W w')) (K : Hid (∀ (W : World) [Tab W], Calls Tryd.prog 18 #[.agg #[.int .i64 o.st, .int .i64 o.sr, .int .i64 o.k, .int .i64 o.pt, .int .i64 o.pr, .int .i64 o.it, .int .i64 o.ir, .int .i64 o.tt, .int .i64 o.tr, .string o.name, .string o.new, .int .i64 o.off, .string o.data]] W fun e w' => e = .returned (.int .i64 0) ∧ Below W.heap.size W w')) (U : Hid (∀ (W : World) [Tab W], Calls Tryd.prog 21 #[.agg #[.int .i64 o.st, .int .i64 o.sr, .int .i64 o.k, .int .i64 o.pt, .int .i64 o.pr, .int .i64 o.it, .int .i64 o.ir, .int .i64 o.tt, .int .i64 o.tr, .string o.name, .string o.new, .int .i64 o.off, .string o.data]] W fun e w' => ∃ (A : Option Addr) (c : Nat), e = .returned (.slice A 2 c) ∧ PairsIn w' w'.heap.size A 2 [(o.pt, o.pr), (o.it, o.ir)] ∧ Below W.heap.size W w')) :
    Calls Tryd.prog 7 #[.agg #[.int .i64 o.st, .int .i64 o.sr, .int .i64 o.k, .int .i64 o.pt, .int .i64 o.pr, .int .i64 o.it, .int .i64 o.ir, .int .i64 o.tt, .int .i64 o.tr, .string o.name, .string o.new, .int .i64 o.off, .string o.data]] w fun e w' => e = .returned (.bool true) ∧ Below w.heap.size w w' := by
  go_enter Tryd.func7, Tryd.ntmps7
  have d3 : decide (o.k ≤ 3) = false := by simp; omega
  have e7 : (o.k == 7) = false := by simp; omega
  have d7 : decide (o.k ≤ 7) = true := by simp; omega
  have ne : (o.name.toList == []) = false := by
    rw [beq_eq_false_iff_ne]
    intro h
    have z := congrArg List.length h
    rw [ByteArray.toList_eq] at z
    simp at z
    rw [z] at hs
    exact absurd hs (by decide)
  clear hs
  have hh0 : (w.alloc (.cells (opA o) 25)).heap[w.heap.size]? = some (.cells (opA o) 25 (0, 0)) := heap_alloc_new w _
  go_wp2_with fail
  refine (S.out _).mono ?_
  rintro e w1 ⟨rfl, hb1⟩
  have iw1 : Tab w1 := tab_step hb1
  have B1 : Below (w.alloc (.cells (opA o) 25)).heap.size (w.alloc (.cells (opA o) 25)) w1 := hb1
  have HN1 := Lib.hid ((B1.block _ (heap_lt hh0)).trans hh0)
  have HA1 := Lib.hid (below_step ((Below.refl _ w).alloc (Nat.le_refl _) (.cells (opA o) 25)) B1)
  clear hh0 hb1 B1
  obtain ⟨n0, n1, n2, n3, n4, n5, n6, n7, n8, n9, n10, n11, n12⟩ := op_cells HN1.out
  go_wp2_with fail
  refine (M.out _).mono ?_
  rintro e w2 ⟨rfl, hb⟩
  have iw2 : Tab w2 := tab_step hb
  have HN2 := Lib.hid ((hb.block _ (heap_lt HN1.out)).trans HN1.out)
  have HA2 := Lib.hid (below_step HA1.out hb)
  clear n0 n1 n2 n3 n4 n5 n6 n7 n8 n9 n10 n11 n12 HN1 HA1
  clear hb
  obtain ⟨n0, n1, n2, n3, n4, n5, n6, n7, n8, n9, n10, n11, n12⟩ := op_cells HN2.out
  go_wp2_with fail
  refine (U.out _).mono ?_
  rintro e w3 ⟨A, c, rfl, hp, hb⟩
  have iw3 : Tab w3 := tab_step hb
  have HN3 := Lib.hid ((hb.block _ (heap_lt HN2.out)).trans HN2.out)
  have HA3 := Lib.hid (below_step HA2.out hb)
  clear n0 n1 n2 n3 n4 n5 n6 n7 n8 n9 n10 n11 n12 HN2 HA2
  obtain ⟨g, q, rfl, hg, hcell⟩ := hp.2 (by decide)
  clear hp
  clear hb
  obtain ⟨n0, n1, n2, n3, n4, n5, n6, n7, n8, n9, n10, n11, n12⟩ := op_cells HN3.out
  go_wp2_with fail
  refine (K.out _).mono ?_
  rintro e w4 ⟨rfl, hb⟩
  have iw4 : Tab w4 := tab_step hb
  have HN4 := Lib.hid ((hb.block _ (heap_lt HN3.out)).trans HN3.out)
  have HA4 := Lib.hid (below_step HA3.out hb)
  clear n0 n1 n2 n3 n4 n5 n6 n7 n8 n9 n10 n11 n12 HN3 HA3
  have c0 : w4.cell? ⟨g, q, none⟩ = some (.int .i64 o.pt) := (hb.cell (p := ⟨g, q, none⟩) hg).trans (hcell 0 (by show 0 < 2; decide)).1
  have c1 : w4.cell? ⟨g, q + 1, none⟩ = some (.int .i64 o.pr) := (hb.cell (p := ⟨g, q + 1, none⟩) hg).trans (hcell 0 (by show 0 < 2; decide)).2
  clear hcell
  clear hb
  obtain ⟨n0, n1, n2, n3, n4, n5, n6, n7, n8, n9, n10, n11, n12⟩ := op_cells HN4.out
  go_wp2_with fail
  go_quiet (fail)
  go_wp2_with fail
  go_ret
  exact ⟨rfl, below_drewN' HA4.out _⟩

set_option maxRecDepth 100000 in
set_option maxHeartbeats 1600000 in
theorem seven (o : Opn) (w : World) [Tab w] (h1 : 7 ≤ o.k) (h2 : o.k ≤ 7) (hs : 1 ≤ o.name.size) (S : Hid (∀ (W : World) [Tab W], Calls Tryd.prog 9 #[] W fun e w' => e = .returned (.bool true) ∧ Below W.heap.size W w')) (M : Hid (∀ (W : World) [Tab W], Calls Tryd.prog 14 #[.agg #[.int .i64 o.st, .int .i64 o.sr, .int .i64 o.k, .int .i64 o.pt, .int .i64 o.pr, .int .i64 o.it, .int .i64 o.ir, .int .i64 o.tt, .int .i64 o.tr, .string o.name, .string o.new, .int .i64 o.off, .string o.data]] W fun e w' => e = .returned (.bool true) ∧ Below W.heap.size W w')) (K : Hid (∀ (W : World) [Tab W], Calls Tryd.prog 18 #[.agg #[.int .i64 o.st, .int .i64 o.sr, .int .i64 o.k, .int .i64 o.pt, .int .i64 o.pr, .int .i64 o.it, .int .i64 o.ir, .int .i64 o.tt, .int .i64 o.tr, .string o.name, .string o.new, .int .i64 o.off, .string o.data]] W fun e w' => e = .returned (.int .i64 0) ∧ Below W.heap.size W w')) (U : Hid (∀ (W : World) [Tab W], Calls Tryd.prog 21 #[.agg #[.int .i64 o.st, .int .i64 o.sr, .int .i64 o.k, .int .i64 o.pt, .int .i64 o.pr, .int .i64 o.it, .int .i64 o.ir, .int .i64 o.tt, .int .i64 o.tr, .string o.name, .string o.new, .int .i64 o.off, .string o.data]] W fun e w' => ∃ (A : Option Addr) (c : Nat), e = .returned (.slice A 3 c) ∧ PairsIn w' w'.heap.size A 3 [(o.pt, o.pr), (o.it, o.ir), (o.tt, o.tr)] ∧ Below W.heap.size W w')) :
    Calls Tryd.prog 7 #[.agg #[.int .i64 o.st, .int .i64 o.sr, .int .i64 o.k, .int .i64 o.pt, .int .i64 o.pr, .int .i64 o.it, .int .i64 o.ir, .int .i64 o.tt, .int .i64 o.tr, .string o.name, .string o.new, .int .i64 o.off, .string o.data]] w fun e w' => e = .returned (.bool true) ∧ Below w.heap.size w w' := by
  go_enter Tryd.func7, Tryd.ntmps7
  have d3 : decide (o.k ≤ 3) = false := by simp; omega
  have e7 : (o.k == 7) = true := by simp; omega
  have d7 : decide (o.k ≤ 7) = true := by simp; omega
  have ne : (o.name.toList == []) = false := by
    rw [beq_eq_false_iff_ne]
    intro h
    have z := congrArg List.length h
    rw [ByteArray.toList_eq] at z
    simp at z
    rw [z] at hs
    exact absurd hs (by decide)
  clear hs
  have hh0 : (w.alloc (.cells (opA o) 25)).heap[w.heap.size]? = some (.cells (opA o) 25 (0, 0)) := heap_alloc_new w _
  go_wp2_with fail
  refine (S.out _).mono ?_
  rintro e w1 ⟨rfl, hb1⟩
  have iw1 : Tab w1 := tab_step hb1
  have B1 : Below (w.alloc (.cells (opA o) 25)).heap.size (w.alloc (.cells (opA o) 25)) w1 := hb1
  have HN1 := Lib.hid ((B1.block _ (heap_lt hh0)).trans hh0)
  have HA1 := Lib.hid (below_step ((Below.refl _ w).alloc (Nat.le_refl _) (.cells (opA o) 25)) B1)
  clear hh0 hb1 B1
  obtain ⟨n0, n1, n2, n3, n4, n5, n6, n7, n8, n9, n10, n11, n12⟩ := op_cells HN1.out
  go_wp2_with fail
  refine (M.out _).mono ?_
  rintro e w2 ⟨rfl, hb⟩
  have iw2 : Tab w2 := tab_step hb
  have HN2 := Lib.hid ((hb.block _ (heap_lt HN1.out)).trans HN1.out)
  have HA2 := Lib.hid (below_step HA1.out hb)
  clear n0 n1 n2 n3 n4 n5 n6 n7 n8 n9 n10 n11 n12 HN1 HA1
  clear hb
  obtain ⟨n0, n1, n2, n3, n4, n5, n6, n7, n8, n9, n10, n11, n12⟩ := op_cells HN2.out
  go_wp2_with fail
  refine (U.out _).mono ?_
  rintro e w3 ⟨A, c, rfl, hp, hb⟩
  have iw3 : Tab w3 := tab_step hb
  have HN3 := Lib.hid ((hb.block _ (heap_lt HN2.out)).trans HN2.out)
  have HA3 := Lib.hid (below_step HA2.out hb)
  clear n0 n1 n2 n3 n4 n5 n6 n7 n8 n9 n10 n11 n12 HN2 HA2
  obtain ⟨g, q, rfl, hg, hcell⟩ := hp.2 (by decide)
  clear hp
  clear hb
  obtain ⟨n0, n1, n2, n3, n4, n5, n6, n7, n8, n9, n10, n11, n12⟩ := op_cells HN3.out
  go_wp2_with fail
  refine (K.out _).mono ?_
  rintro e w4 ⟨rfl, hb⟩
  have iw4 : Tab w4 := tab_step hb
  have HN4 := Lib.hid ((hb.block _ (heap_lt HN3.out)).trans HN3.out)
  have HA4 := Lib.hid (below_step HA3.out hb)
  clear n0 n1 n2 n3 n4 n5 n6 n7 n8 n9 n10 n11 n12 HN3 HA3
  have c0 : w4.cell? ⟨g, q, none⟩ = some (.int .i64 o.pt) := (hb.cell (p := ⟨g, q, none⟩) hg).trans (hcell 0 (by show 0 < 3; decide)).1
  have c1 : w4.cell? ⟨g, q + 1, none⟩ = some (.int .i64 o.pr) := (hb.cell (p := ⟨g, q + 1, none⟩) hg).trans (hcell 0 (by show 0 < 3; decide)).2
  clear hcell
  clear hb
  obtain ⟨n0, n1, n2, n3, n4, n5, n6, n7, n8, n9, n10, n11, n12⟩ := op_cells HN4.out
  go_wp2_with fail
  go_quiet (fail)
  go_wp2_with fail
  go_ret
  exact ⟨rfl, below_drewN' HA4.out _⟩

set_option maxRecDepth 100000 in
set_option maxHeartbeats 1600000 in
theorem high (o : Opn) (w : World) [Tab w] (h1 : 8 ≤ o.k) (hs : o.name = ⟨#[]⟩) (S : Hid (∀ (W : World) [Tab W], Calls Tryd.prog 9 #[] W fun e w' => e = .returned (.bool true) ∧ Below W.heap.size W w')) (M : Hid (∀ (W : World) [Tab W], Calls Tryd.prog 14 #[.agg #[.int .i64 o.st, .int .i64 o.sr, .int .i64 o.k, .int .i64 o.pt, .int .i64 o.pr, .int .i64 o.it, .int .i64 o.ir, .int .i64 o.tt, .int .i64 o.tr, .string o.name, .string o.new, .int .i64 o.off, .string o.data]] W fun e w' => e = .returned (.bool true) ∧ Below W.heap.size W w')) (K : Hid (∀ (W : World) [Tab W], Calls Tryd.prog 18 #[.agg #[.int .i64 o.st, .int .i64 o.sr, .int .i64 o.k, .int .i64 o.pt, .int .i64 o.pr, .int .i64 o.it, .int .i64 o.ir, .int .i64 o.tt, .int .i64 o.tr, .string o.name, .string o.new, .int .i64 o.off, .string o.data]] W fun e w' => e = .returned (.int .i64 0) ∧ Below W.heap.size W w')) (U : Hid (∀ (W : World) [Tab W], Calls Tryd.prog 21 #[.agg #[.int .i64 o.st, .int .i64 o.sr, .int .i64 o.k, .int .i64 o.pt, .int .i64 o.pr, .int .i64 o.it, .int .i64 o.ir, .int .i64 o.tt, .int .i64 o.tr, .string o.name, .string o.new, .int .i64 o.off, .string o.data]] W fun e w' => ∃ (A : Option Addr) (c : Nat), e = .returned (.slice A 1 c) ∧ PairsIn w' w'.heap.size A 1 [(o.it, o.ir)] ∧ Below W.heap.size W w')) :
    Calls Tryd.prog 7 #[.agg #[.int .i64 o.st, .int .i64 o.sr, .int .i64 o.k, .int .i64 o.pt, .int .i64 o.pr, .int .i64 o.it, .int .i64 o.ir, .int .i64 o.tt, .int .i64 o.tr, .string o.name, .string o.new, .int .i64 o.off, .string o.data]] w fun e w' => e = .returned (.bool true) ∧ Below w.heap.size w w' := by
  go_enter Tryd.func7, Tryd.ntmps7
  have d3 : decide (o.k ≤ 3) = false := by simp; omega
  have e7 : (o.k == 7) = false := by simp; omega
  have d7 : decide (o.k ≤ 7) = false := by simp; omega
  have ne : (o.name.toList == []) = true := by rw [hs, ByteArray.toList_eq]; rfl
  clear hs
  have hh0 : (w.alloc (.cells (opA o) 25)).heap[w.heap.size]? = some (.cells (opA o) 25 (0, 0)) := heap_alloc_new w _
  go_wp2_with fail
  refine (S.out _).mono ?_
  rintro e w1 ⟨rfl, hb1⟩
  have iw1 : Tab w1 := tab_step hb1
  have B1 : Below (w.alloc (.cells (opA o) 25)).heap.size (w.alloc (.cells (opA o) 25)) w1 := hb1
  have HN1 := Lib.hid ((B1.block _ (heap_lt hh0)).trans hh0)
  have HA1 := Lib.hid (below_step ((Below.refl _ w).alloc (Nat.le_refl _) (.cells (opA o) 25)) B1)
  clear hh0 hb1 B1
  obtain ⟨n0, n1, n2, n3, n4, n5, n6, n7, n8, n9, n10, n11, n12⟩ := op_cells HN1.out
  go_wp2_with fail
  refine (M.out _).mono ?_
  rintro e w2 ⟨rfl, hb⟩
  have iw2 : Tab w2 := tab_step hb
  have HN2 := Lib.hid ((hb.block _ (heap_lt HN1.out)).trans HN1.out)
  have HA2 := Lib.hid (below_step HA1.out hb)
  clear n0 n1 n2 n3 n4 n5 n6 n7 n8 n9 n10 n11 n12 HN1 HA1
  clear hb
  obtain ⟨n0, n1, n2, n3, n4, n5, n6, n7, n8, n9, n10, n11, n12⟩ := op_cells HN2.out
  go_wp2_with fail
  refine (U.out _).mono ?_
  rintro e w3 ⟨A, c, rfl, hp, hb⟩
  have iw3 : Tab w3 := tab_step hb
  have HN3 := Lib.hid ((hb.block _ (heap_lt HN2.out)).trans HN2.out)
  have HA3 := Lib.hid (below_step HA2.out hb)
  clear n0 n1 n2 n3 n4 n5 n6 n7 n8 n9 n10 n11 n12 HN2 HA2
  obtain ⟨g, q, rfl, hg, hcell⟩ := hp.2 (by decide)
  clear hp
  clear hb
  obtain ⟨n0, n1, n2, n3, n4, n5, n6, n7, n8, n9, n10, n11, n12⟩ := op_cells HN3.out
  go_wp2_with fail
  refine (K.out _).mono ?_
  rintro e w4 ⟨rfl, hb⟩
  have iw4 : Tab w4 := tab_step hb
  have HN4 := Lib.hid ((hb.block _ (heap_lt HN3.out)).trans HN3.out)
  have HA4 := Lib.hid (below_step HA3.out hb)
  clear n0 n1 n2 n3 n4 n5 n6 n7 n8 n9 n10 n11 n12 HN3 HA3
  have c0 : w4.cell? ⟨g, q, none⟩ = some (.int .i64 o.it) := (hb.cell (p := ⟨g, q, none⟩) hg).trans (hcell 0 (by show 0 < 1; decide)).1
  have c1 : w4.cell? ⟨g, q + 1, none⟩ = some (.int .i64 o.ir) := (hb.cell (p := ⟨g, q + 1, none⟩) hg).trans (hcell 0 (by show 0 < 1; decide)).2
  clear hcell
  clear hb
  obtain ⟨n0, n1, n2, n3, n4, n5, n6, n7, n8, n9, n10, n11, n12⟩ := op_cells HN4.out
  go_wp2_with fail
  go_quiet (fail)
  go_wp2_with fail
  go_ret
  exact ⟨rfl, below_drewN' HA4.out _⟩

theorem walk0 (H : OpHave) (o : Opn) (hk : Ok64 o) (z1 : o.name.size ≤ maxLen) (z2 : o.new.size ≤ maxLen) (z3 : o.data.size ≤ maxLen) (w : World) [Tab w] :
    Calls Tryd.prog 7 #[.agg #[.int .i64 o.st, .int .i64 o.sr, .int .i64 o.k, .int .i64 o.pt, .int .i64 o.pr, .int .i64 o.it, .int .i64 o.ir, .int .i64 o.tt, .int .i64 o.tr, .string o.name, .string o.new, .int .i64 o.off, .string o.data]] w fun e w' => e = .returned (.bool true) ∧ Below w.heap.size w w' := by
  have S : Hid (∀ (W : World) [Tab W], Calls Tryd.prog 9 #[] W fun e w' => e = .returned (.bool true) ∧ Below W.heap.size W w') := fun W => H.shown W
  have M := fun (W : World) [Tab W] => H.may o W hk z1 z2 z3
  cases hm : mayO o with
  | false => rw [hm] at M; exact notMay o w S M
  | true =>
    rw [hm] at M
    have P := may_parts hm
    have K := fun (W : World) [Tab W] => H.makes o W hk
    have U := fun (W : World) [Tab W] => H.uses o W hk
    have hsz : o.k ≤ 7 → 1 ≤ o.name.size := fun h7 => by
      rcases P.name with h | h
      · omega
      · exact (name_size h).1
    have p1 := P.k1
    have p2 := P.k10
    have go : ∀ (xs : List (Int × Int)), usesO o = xs → ∀ (W : World) [Tab W], Calls Tryd.prog 21 #[.agg #[.int .i64 o.st, .int .i64 o.sr, .int .i64 o.k, .int .i64 o.pt, .int .i64 o.pr, .int .i64 o.it, .int .i64 o.ir, .int .i64 o.tt, .int .i64 o.tr, .string o.name, .string o.new, .int .i64 o.off, .string o.data]] W fun e w' => ∃ (A : Option Addr) (c : Nat), e = .returned (.slice A xs.length c) ∧ PairsIn w' w'.heap.size A xs.length xs ∧ Below W.heap.size W w' := fun xs hx W => by
      refine (U W).mono ?_
      rintro e w' ⟨A, c, he, hp, _, _, hB⟩
      rw [hx] at he hp
      exact ⟨A, c, he, hp, hB⟩
    by_cases h3 : o.k ≤ 3
    · rw [show makesO o = o.k from if_pos ⟨p1, h3⟩] at K
      exact low o w p1 h3 (hsz (by omega)) S M K (go [(o.pt, o.pr)] (by unfold usesO; rw [if_pos (by omega), if_neg (by omega), if_neg (by omega)]; rfl))
    · rw [show makesO o = 0 from if_neg (by omega)] at K
      by_cases h6 : o.k ≤ 6
      · exact mid o w (by omega) h6 (hsz (by omega)) S M K (go [(o.pt, o.pr), (o.it, o.ir)] (by unfold usesO; rw [if_pos (by omega), if_pos (by omega), if_neg (by omega)]; rfl))
      · by_cases h7 : o.k ≤ 7
        · exact seven o w (by omega) h7 (hsz h7) S M K (go [(o.pt, o.pr), (o.it, o.ir), (o.tt, o.tr)] (by unfold usesO; rw [if_pos (by omega), if_pos (by omega), if_pos (by omega)]; rfl))
        · refine high o w (by omega) ?_ S M K (go [(o.it, o.ir)] (by unfold usesO; rw [if_neg (by omega), if_pos (by omega), if_neg (by omega)]; rfl))
          have e := congrArg Opn.name P.bare
          simp only [bareO] at e
          rw [if_neg h7] at e
          exact e.symm

end Go.Proofs.YteknegfocnopgaaDoor.lawOpUses
