/-
  The walk of the document's own Take (operations).
-/
import Derived.Test.YteknegfocnopgaaDoorOpRefMay
import Derived.Test.YteknegfocnopgaaDoorOpRefStamps
import Derived.Test.YteknegfocnopgaaDoorPackRefTakeInt
import Derived.Test.YteknegfocnopgaaDoorPackRefTakeText
import Derived.Deep.MidRow
import Derived.BigRegion
namespace Go.Proofs.YteknegfocnopgaaDoor
open Go.RowKit OpMath StampMath PackMath

theorem below_setCells {B b : Nat} {w0 : World} (hb : B ≤ b) : ∀ (vs : List Value) (o : Nat) (w : World), Below B w0 w → Below B w0 (w.setCells b o vs)
  | [], _, _, h => h
  | v :: r, o, w, h => by
    rw [World.setCells]
    exact below_setCells hb r (o + 1) _ (h.setCell hb _)

theorem op_info : (Tryd.prog.info? 25).map (·.size) = some 13 := by kernel_rfl

/-- No operation at all. -/
def zO : Opn := ⟨0, 0, 0, 0, 0, 0, 0, 0, 0, ⟨#[]⟩, ⟨#[]⟩, 0, ⟨#[]⟩⟩

theorem op_one (o : Opn) : (opA o).all (·.oneCell') = true := by
  simp [opA, Value.oneCell']

theorem op_there {w : World} {g : Nat} {o : Opn} {T : TypeId} (h : w.heap[g]? = some (.cells (opA o) T (0, 0))) : w.there g 0 (opA zO).size := fun j hj => by
  have hj13 : j < 13 := hj
  rw [Nat.zero_add]
  refine ⟨?_, frozen_of_row _ _ j _ _ h⟩
  rw [cell_of_row _ _ j _ _ (0, 0) h, Array.getElem?_eq_getElem (by show j < 13; exact hj13)]
  rfl

set_option maxRecDepth 100000 in
set_option maxHeartbeats 3200000 in
theorem takeFail (s s1 s2 s3 s4 s5 rest name new data : ByteArray) (k off e1 e2 e3 e4 e5 e6 : Int) (w : World)
    (h : ((e1 != 0) = true) ∨ ((e1 != 0) = false ∧ (e2 != 0) = true) ∨ ((e1 != 0) = false ∧ (e2 != 0) = false ∧ (e3 != 0) = true) ∨ ((e1 != 0) = false ∧ (e2 != 0) = false ∧ (e3 != 0) = false ∧ (e4 != 0) = true) ∨ ((e1 != 0) = false ∧ (e2 != 0) = false ∧ (e3 != 0) = false ∧ (e4 != 0) = false ∧ (e5 != 0) = true) ∨ ((e1 != 0) = false ∧ (e2 != 0) = false ∧ (e3 != 0) = false ∧ (e4 != 0) = false ∧ (e5 != 0) = false ∧ (e6 != 0) = true))
    (C1 : Hid (∀ W : World, Calls Tryd.prog 26 #[.string s] W fun e w' => e = .returned (.tuple #[.int .i64 k, .string s1, .int .i64 e1]) ∧ Below W.heap.size W w'))
    (C3 : Hid (∀ W : World, Calls Tryd.prog 28 #[.string s2, .int .i64 64] W fun e w' => e = .returned (.tuple #[.string name, .string s3, .int .i64 e3]) ∧ Below W.heap.size W w'))
    (C4 : Hid (∀ W : World, Calls Tryd.prog 28 #[.string s3, .int .i64 64] W fun e w' => e = .returned (.tuple #[.string new, .string s4, .int .i64 e4]) ∧ Below W.heap.size W w'))
    (C5 : Hid (∀ W : World, Calls Tryd.prog 26 #[.string s4] W fun e w' => e = .returned (.tuple #[.int .i64 off, .string s5, .int .i64 e5]) ∧ Below W.heap.size W w'))
    (C6 : Hid (∀ W : World, Calls Tryd.prog 28 #[.string s5, .int .i64 64] W fun e w' => e = .returned (.tuple #[.string data, .string rest, .int .i64 e6]) ∧ Below W.heap.size W w'))
    (C2 : Hid (∀ W : World, Calls Tryd.prog 27 #[.string s1, .int .i64 4] W fun e w' => (∃ (A : Option Addr) (n c : Nat), e = .returned (.tuple #[.slice A n c, .string s2, .int .i64 e2])) ∧ Below W.heap.size W w')) :
    Calls Tryd.prog 11 #[.string s] w fun e w' => e = .returned (.tuple #[.agg (opA zO), .string ⟨#[]⟩, .int .i64 2]) ∧ Below w.heap.size w w' := by
  have hi : (Tryd.prog.info? 25).map (·.size) = some (opA zO).size := op_info
  have HI := Lib.hid hi
  clear hi
  rcases h with g1 | ⟨g1, g2⟩ | ⟨g1, g2, g3⟩ | ⟨g1, g2, g3, g4⟩ | ⟨g1, g2, g3, g4, g5⟩ | ⟨g1, g2, g3, g4, g5, g6⟩
  all_goals
    go_enter Tryd.func11, Tryd.ntmps11
    go_wp2_with fail
    refine (C1.out _).mono ?_
    rintro e w1 ⟨rfl, hb1⟩
    go_wp2_with fail
    refine (C2.out _).mono ?_
    rintro e w2 ⟨⟨A, n, c, rfl⟩, hb2⟩
    go_wp2_with fail
    refine (C3.out _).mono ?_
    rintro e w3 ⟨rfl, hb3⟩
    go_wp2_with fail
    refine (C4.out _).mono ?_
    rintro e w4 ⟨rfl, hb4⟩
    go_wp2_with fail
    refine (C5.out _).mono ?_
    rintro e w5 ⟨rfl, hb5⟩
    go_wp2_with fail
    refine (C6.out _).mono ?_
    rintro e w6 ⟨rfl, hb6⟩
    have hh0 : (w.alloc (.cells (opA zO) 25)).heap[w.heap.size]? = some (.cells (opA zO) 25 (0, 0)) := heap_alloc_new w _
    have B1 : Below (w.alloc (.cells (opA zO) 25)).heap.size (w.alloc (.cells (opA zO) 25)) w1 := hb1
    have B6 := below_step (below_step (below_step (below_step (below_step B1 hb2) hb3) hb4) hb5) hb6
    have hh6 := (B6.block _ (heap_lt hh0)).trans hh0
    have hB6 := below_step ((Below.refl _ _).alloc (Nat.le_refl _) _) B6
    have ht := op_there hh6
    clear hb1 hb2 hb3 hb4 hb5 hb6 B1 hh0 B6 hh6
    go_wp2_with (refine wpList_store_mid rfl 25 _ _ rfl w.heap.size 0 (opA zO) rfl rfl ht HI.out (op_one zO) ?_)
    have hr := World.rangeAt_setCells_same w6 w.heap.size 0 (opA zO).toList ht
    have hB7 := below_setCells (Nat.le_refl _) (opA zO).toList 0 _ hB6
    clear ht hB6 HI
    refine bodyPost_ret ?_ rfl ⟨rfl, hB7⟩
    clear hB7
    generalize w6.setCells w.heap.size 0 (opA zO).toList = W7 at hr ⊢
    have Z0 : W7.cell? ⟨w.heap.size, 0, none⟩ = some (.int .i64 0) := hr 0 _ rfl
    have Z1 : W7.cell? ⟨w.heap.size, 1, none⟩ = some (.int .i64 0) := hr 1 _ rfl
    have Z2 : W7.cell? ⟨w.heap.size, 2, none⟩ = some (.int .i64 0) := hr 2 _ rfl
    have Z3 : W7.cell? ⟨w.heap.size, 3, none⟩ = some (.int .i64 0) := hr 3 _ rfl
    have Z4 : W7.cell? ⟨w.heap.size, 4, none⟩ = some (.int .i64 0) := hr 4 _ rfl
    have Z5 : W7.cell? ⟨w.heap.size, 5, none⟩ = some (.int .i64 0) := hr 5 _ rfl
    have Z6 : W7.cell? ⟨w.heap.size, 6, none⟩ = some (.int .i64 0) := hr 6 _ rfl
    have Z7 : W7.cell? ⟨w.heap.size, 7, none⟩ = some (.int .i64 0) := hr 7 _ rfl
    have Z8 : W7.cell? ⟨w.heap.size, 8, none⟩ = some (.int .i64 0) := hr 8 _ rfl
    have Z9 : W7.cell? ⟨w.heap.size, 9, none⟩ = some (.string ⟨#[]⟩) := hr 9 _ rfl
    have Z10 : W7.cell? ⟨w.heap.size, 10, none⟩ = some (.string ⟨#[]⟩) := hr 10 _ rfl
    have Z11 : W7.cell? ⟨w.heap.size, 11, none⟩ = some (.int .i64 0) := hr 11 _ rfl
    have Z12 : W7.cell? ⟨w.heap.size, 12, none⟩ = some (.string ⟨#[]⟩) := hr 12 _ rfl
    simp [results, Tryd.results11, go_sem, Z0, Z1, Z2, Z3, Z4, Z5, Z6, Z7, Z8, Z9, Z10, Z11, Z12]
    rfl

set_option maxRecDepth 100000 in
set_option maxHeartbeats 3200000 in
theorem takeGood (s s1 s2 s3 s4 s5 rest : ByteArray) (o : Opn) (m : Bool) (w : World)
    (C1 : Hid (∀ W : World, Calls Tryd.prog 26 #[.string s] W fun e w' => e = .returned (.tuple #[.int .i64 o.k, .string s1, .int .i64 0]) ∧ Below W.heap.size W w'))
    (C3 : Hid (∀ W : World, Calls Tryd.prog 28 #[.string s2, .int .i64 64] W fun e w' => e = .returned (.tuple #[.string o.name, .string s3, .int .i64 0]) ∧ Below W.heap.size W w'))
    (C4 : Hid (∀ W : World, Calls Tryd.prog 28 #[.string s3, .int .i64 64] W fun e w' => e = .returned (.tuple #[.string o.new, .string s4, .int .i64 0]) ∧ Below W.heap.size W w'))
    (C5 : Hid (∀ W : World, Calls Tryd.prog 26 #[.string s4] W fun e w' => e = .returned (.tuple #[.int .i64 o.off, .string s5, .int .i64 0]) ∧ Below W.heap.size W w'))
    (C6 : Hid (∀ W : World, Calls Tryd.prog 28 #[.string s5, .int .i64 64] W fun e w' => e = .returned (.tuple #[.string o.data, .string rest, .int .i64 0]) ∧ Below W.heap.size W w'))
    (M : Hid (∀ W : World, Calls Tryd.prog 15 #[.agg #[.int .i64 o.st, .int .i64 o.sr, .int .i64 o.k, .int .i64 o.pt, .int .i64 o.pr, .int .i64 o.it, .int .i64 o.ir, .int .i64 o.tt, .int .i64 o.tr, .string o.name, .string o.new, .int .i64 o.off, .string o.data]] W fun e w' => e = .returned (.bool m) ∧ Below W.heap.size W w'))
    (C2 : Hid (∀ W : World, Calls Tryd.prog 27 #[.string s1, .int .i64 4] W fun e w' => ∃ (A : Option Addr) (c : Nat), e = .returned (.tuple #[.slice A 4 c, .string s2, .int .i64 0]) ∧ PairsIn w' w'.heap.size A 4 [(o.st, o.sr), (o.pt, o.pr), (o.it, o.ir), (o.tt, o.tr)] ∧ Below W.heap.size W w')) :
    Calls Tryd.prog 11 #[.string s] w fun e w' => e = .returned (if m then .tuple #[.agg (opA o), .string rest, .int .i64 0] else .tuple #[.agg (opA zO), .string ⟨#[]⟩, .int .i64 2]) ∧ Below w.heap.size w w' := by
  have hi : (Tryd.prog.info? 25).map (·.size) = some (opA zO).size := op_info
  have HI := Lib.hid hi
  clear hi
  go_enter Tryd.func11, Tryd.ntmps11
  go_wp2_with fail
  refine (C1.out _).mono ?_
  rintro e w1 ⟨rfl, hb1⟩
  go_wp2_with fail
  refine (C2.out _).mono ?_
  rintro e w2 ⟨A, c, rfl, hpi, hb2⟩
  go_wp2_with fail
  refine (C3.out _).mono ?_
  rintro e w3 ⟨rfl, hb3⟩
  go_wp2_with fail
  refine (C4.out _).mono ?_
  rintro e w4 ⟨rfl, hb4⟩
  go_wp2_with fail
  refine (C5.out _).mono ?_
  rintro e w5 ⟨rfl, hb5⟩
  go_wp2_with fail
  refine (C6.out _).mono ?_
  rintro e w6 ⟨rfl, hb6⟩
  have B1 : Below (w.alloc (.cells (opA zO) 25)).heap.size (w.alloc (.cells (opA zO) 25)) w1 := hb1
  have hp := hpi.below (below_step (below_step (below_step hb3 hb4) hb5) hb6)
  obtain ⟨g, q, rfl, hg, hcell⟩ := hp.2 (by decide)
  have B6 := below_step (below_step (below_step (below_step (below_step B1 hb2) hb3) hb4) hb5) hb6
  have hB6 := below_step ((Below.refl _ _).alloc (Nat.le_refl _) _) B6
  have hg6 : g < w6.heap.size := by have := hb3.size; have := hb4.size; have := hb5.size; have := hb6.size; omega
  have hw6 : w.heap.size < w6.heap.size := by have := B6.size; rw [World.size_alloc] at this; omega
  have c0 : w6.cell? ⟨g, q, none⟩ = some (.int .i64 o.st) := (hcell 0 (by show 0 < 4; decide)).1
  have c1 : w6.cell? ⟨g, q + 1, none⟩ = some (.int .i64 o.sr) := (hcell 0 (by show 0 < 4; decide)).2
  have c2 : w6.cell? ⟨g, q + 2, none⟩ = some (.int .i64 o.pt) := (hcell 1 (by show 1 < 4; decide)).1
  have c3 : w6.cell? ⟨g, q + 3, none⟩ = some (.int .i64 o.pr) := (hcell 1 (by show 1 < 4; decide)).2
  have c4 : w6.cell? ⟨g, q + 4, none⟩ = some (.int .i64 o.it) := (hcell 2 (by show 2 < 4; decide)).1
  have c5 : w6.cell? ⟨g, q + 5, none⟩ = some (.int .i64 o.ir) := (hcell 2 (by show 2 < 4; decide)).2
  have c6 : w6.cell? ⟨g, q + 6, none⟩ = some (.int .i64 o.tt) := (hcell 3 (by show 3 < 4; decide)).1
  have c7 : w6.cell? ⟨g, q + 7, none⟩ = some (.int .i64 o.tr) := (hcell 3 (by show 3 < 4; decide)).2
  have HB := Lib.hid hB6
  have HP := Lib.hid B6
  clear hb1 hb2 hb3 hb4 hb5 hb6 B1 hB6 B6 hp hpi hcell hg
  go_wp2_with fail
  go_big_region
  clear c0 c1 c2 c3 c4 c5 c6 c7 hg6
  go_wp2_with fail
  refine (M.out _).mono ?_
  rintro e w7 ⟨rfl, hb7⟩
  have hh0 : (w.alloc (.cells (opA zO) 25)).heap[w.heap.size]? = some (.cells (opA zO) 25 (0, 0)) := heap_alloc_new w _
  have hn0 : (w6.alloc (.cells (opA o) 25)).heap[w6.heap.size]? = some (.cells (opA o) 25 (0, 0)) := heap_alloc_new w6 _
  have B7 : Below (w6.alloc (.cells (opA o) 25)).drew.heap.size (w6.alloc (.cells (opA o) 25)).drew w7 := hb7
  have P7 := below_step ((HP.out.alloc HP.out.size (.cells (opA o) 25)).drew) B7
  have hB7 := below_step ((HB.out.alloc HB.out.size (.cells (opA o) 25)).drew) B7
  have hh7 := (P7.block _ (heap_lt hh0)).trans hh0
  have hn7 : w7.heap[w6.heap.size]? = some (.cells (opA o) 25 (0, 0)) := (B7.block _ (heap_lt hn0)).trans hn0
  have ht := op_there hh7
  obtain ⟨n0, n1, n2, n3, n4, n5, n6, n7, n8, n9, n10, n11, n12⟩ := op_cells hn7
  clear hh0 hn0 hb7 B7 P7 hh7 hn7 HP HB
  cases m
  · clear n0 n1 n2 n3 n4 n5 n6 n7 n8 n9 n10 n11 n12
    go_wp2_with (refine wpList_store_mid rfl 25 _ _ rfl w.heap.size 0 (opA zO) rfl rfl ht HI.out (op_one zO) ?_)
    have hr := World.rangeAt_setCells_same w7 w.heap.size 0 (opA zO).toList ht
    have hB8 := below_setCells (Nat.le_refl _) (opA zO).toList 0 _ hB7
    clear ht hB7 HI
    refine bodyPost_ret ?_ rfl ⟨rfl, hB8⟩
    clear hB8
    generalize w7.setCells w.heap.size 0 (opA zO).toList = W9 at hr ⊢
    have Z0 : W9.cell? ⟨w.heap.size, 0, none⟩ = some (.int .i64 0) := hr 0 _ rfl
    have Z1 : W9.cell? ⟨w.heap.size, 1, none⟩ = some (.int .i64 0) := hr 1 _ rfl
    have Z2 : W9.cell? ⟨w.heap.size, 2, none⟩ = some (.int .i64 0) := hr 2 _ rfl
    have Z3 : W9.cell? ⟨w.heap.size, 3, none⟩ = some (.int .i64 0) := hr 3 _ rfl
    have Z4 : W9.cell? ⟨w.heap.size, 4, none⟩ = some (.int .i64 0) := hr 4 _ rfl
    have Z5 : W9.cell? ⟨w.heap.size, 5, none⟩ = some (.int .i64 0) := hr 5 _ rfl
    have Z6 : W9.cell? ⟨w.heap.size, 6, none⟩ = some (.int .i64 0) := hr 6 _ rfl
    have Z7 : W9.cell? ⟨w.heap.size, 7, none⟩ = some (.int .i64 0) := hr 7 _ rfl
    have Z8 : W9.cell? ⟨w.heap.size, 8, none⟩ = some (.int .i64 0) := hr 8 _ rfl
    have Z9 : W9.cell? ⟨w.heap.size, 9, none⟩ = some (.string ⟨#[]⟩) := hr 9 _ rfl
    have Z10 : W9.cell? ⟨w.heap.size, 10, none⟩ = some (.string ⟨#[]⟩) := hr 10 _ rfl
    have Z11 : W9.cell? ⟨w.heap.size, 11, none⟩ = some (.int .i64 0) := hr 11 _ rfl
    have Z12 : W9.cell? ⟨w.heap.size, 12, none⟩ = some (.string ⟨#[]⟩) := hr 12 _ rfl
    simp [results, Tryd.results11, go_sem, Z0, Z1, Z2, Z3, Z4, Z5, Z6, Z7, Z8, Z9, Z10, Z11, Z12]
    rfl
  · go_wp2_with (refine wpList_store_mid rfl 25 _ _ rfl w.heap.size 0 (opA o) rfl rfl ht HI.out (op_one o) ?_)
    clear n0 n1 n2 n3 n4 n5 n6 n7 n8 n9 n10 n11 n12
    have hr := World.rangeAt_setCells_same w7 w.heap.size 0 (opA o).toList ht
    have hB8 := below_setCells (Nat.le_refl _) (opA o).toList 0 _ hB7
    clear ht hB7 HI
    refine bodyPost_ret ?_ rfl ⟨rfl, hB8⟩
    clear hB8
    generalize w7.setCells w.heap.size 0 (opA o).toList = W9 at hr ⊢
    have Z0 : W9.cell? ⟨w.heap.size, 0, none⟩ = some (.int .i64 o.st) := hr 0 _ rfl
    have Z1 : W9.cell? ⟨w.heap.size, 1, none⟩ = some (.int .i64 o.sr) := hr 1 _ rfl
    have Z2 : W9.cell? ⟨w.heap.size, 2, none⟩ = some (.int .i64 o.k) := hr 2 _ rfl
    have Z3 : W9.cell? ⟨w.heap.size, 3, none⟩ = some (.int .i64 o.pt) := hr 3 _ rfl
    have Z4 : W9.cell? ⟨w.heap.size, 4, none⟩ = some (.int .i64 o.pr) := hr 4 _ rfl
    have Z5 : W9.cell? ⟨w.heap.size, 5, none⟩ = some (.int .i64 o.it) := hr 5 _ rfl
    have Z6 : W9.cell? ⟨w.heap.size, 6, none⟩ = some (.int .i64 o.ir) := hr 6 _ rfl
    have Z7 : W9.cell? ⟨w.heap.size, 7, none⟩ = some (.int .i64 o.tt) := hr 7 _ rfl
    have Z8 : W9.cell? ⟨w.heap.size, 8, none⟩ = some (.int .i64 o.tr) := hr 8 _ rfl
    have Z9 : W9.cell? ⟨w.heap.size, 9, none⟩ = some (.string o.name) := hr 9 _ rfl
    have Z10 : W9.cell? ⟨w.heap.size, 10, none⟩ = some (.string o.new) := hr 10 _ rfl
    have Z11 : W9.cell? ⟨w.heap.size, 11, none⟩ = some (.int .i64 o.off) := hr 11 _ rfl
    have Z12 : W9.cell? ⟨w.heap.size, 12, none⟩ = some (.string o.data) := hr 12 _ rfl
    simp [results, Tryd.results11, go_sem, Z0, Z1, Z2, Z3, Z4, Z5, Z6, Z7, Z8, Z9, Z10, Z11, Z12]
    rfl

end Go.Proofs.YteknegfocnopgaaDoor
