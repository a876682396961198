/-
  Whether an operation may be hangs on its stamp only by whether that may be; with another stamp its bytes are unlike: for all operations (texts of 300 bytes at most; others are let go) and numbers.
-/
import Derived.Test.YteknegfocnopgaaDoorOpHave
import Derived.Test.YteknegfocnopgaaDoorHeld
import Derived.Test.YteknegfocnopgaaDoorOpStampsRef
import Derived.Deep.DeepCutAuto
import Derived.Deep.RegionHeld3
import Derived.OpenShut
namespace Go.Proofs.YteknegfocnopgaaDoor.lawOpStamps
open Go.RowKit OpMath StampMath PackMath

set_option maxRecDepth 100000 in
set_option maxHeartbeats 6400000 in
theorem long1 (o : Opn) (a b : Int) (w : World) [Tab w] (z1 : o.name.size ≤ 9223372036854775807) (h1 : 300 < o.name.size) (S : Hid (∀ (W : World) [Tab W], Calls Tryd.prog 9 #[] W fun e w' => e = .returned (.bool true) ∧ Below W.heap.size W w')) :
    Calls Tryd.prog 8 #[.agg #[.int .i64 o.st, .int .i64 o.sr, .int .i64 o.k, .int .i64 o.pt, .int .i64 o.pr, .int .i64 o.it, .int .i64 o.ir, .int .i64 o.tt, .int .i64 o.tr, .string o.name, .string o.new, .int .i64 o.off, .string o.data], .int .u32 a, .int .u8 b] w fun e w' => e = .returned (.bool true) ∧ Below w.heap.size w w' := by
  go_enter Tryd.func8, Tryd.ntmps8
  have hh0 : Held w [(w.heap.size, (.cells (opA o) 25))] (w.alloc (.cells (opA o) 25)) := (Held.refl w).alloc (.cells (opA o) 25) rfl
  go_wp2_with fail
  refine (S.out _).mono ?_
  rintro e w1 ⟨rfl, hb1⟩
  have iw1 : Tab w1 := tab_step hb1
  have B1 : Below (w.alloc (.cells (opA o) 25)).heap.size (w.alloc (.cells (opA o) 25)) w1 := hb1
  have HH1 := Lib.hid (hh0.step B1)
  clear hh0 hb1 B1
  obtain ⟨n0, n1, n2, n3, n4, n5, n6, n7, n8, n9, n10, n11, n12⟩ := op_cells (HH1.out.at 0 rfl)
  go_wp2_with fail
  go_ret
  exact ⟨rfl, HH1.out.below⟩

set_option maxRecDepth 100000 in
set_option maxHeartbeats 6400000 in
theorem long2 (o : Opn) (a b : Int) (w : World) [Tab w] (z1 : o.name.size ≤ 9223372036854775807) (z2 : o.new.size ≤ 9223372036854775807) (h1 : ¬ 300 < o.name.size) (h2 : 300 < o.new.size) (S : Hid (∀ (W : World) [Tab W], Calls Tryd.prog 9 #[] W fun e w' => e = .returned (.bool true) ∧ Below W.heap.size W w')) :
    Calls Tryd.prog 8 #[.agg #[.int .i64 o.st, .int .i64 o.sr, .int .i64 o.k, .int .i64 o.pt, .int .i64 o.pr, .int .i64 o.it, .int .i64 o.ir, .int .i64 o.tt, .int .i64 o.tr, .string o.name, .string o.new, .int .i64 o.off, .string o.data], .int .u32 a, .int .u8 b] w fun e w' => e = .returned (.bool true) ∧ Below w.heap.size w w' := by
  go_enter Tryd.func8, Tryd.ntmps8
  have hh0 : Held w [(w.heap.size, (.cells (opA o) 25))] (w.alloc (.cells (opA o) 25)) := (Held.refl w).alloc (.cells (opA o) 25) rfl
  go_wp2_with fail
  refine (S.out _).mono ?_
  rintro e w1 ⟨rfl, hb1⟩
  have iw1 : Tab w1 := tab_step hb1
  have B1 : Below (w.alloc (.cells (opA o) 25)).heap.size (w.alloc (.cells (opA o) 25)) w1 := hb1
  have HH1 := Lib.hid (hh0.step B1)
  clear hh0 hb1 B1
  obtain ⟨n0, n1, n2, n3, n4, n5, n6, n7, n8, n9, n10, n11, n12⟩ := op_cells (HH1.out.at 0 rfl)
  go_wp2_with fail
  go_ret
  exact ⟨rfl, HH1.out.below⟩

set_option maxRecDepth 100000 in
set_option maxHeartbeats 6400000 in
theorem long3 (o : Opn) (a b : Int) (w : World) [Tab w] (z1 : o.name.size ≤ 9223372036854775807) (z2 : o.new.size ≤ 9223372036854775807) (z3 : o.data.size ≤ 9223372036854775807) (h1 : ¬ 300 < o.name.size) (h2 : ¬ 300 < o.new.size) (h3 : 300 < o.data.size) (S : Hid (∀ (W : World) [Tab W], Calls Tryd.prog 9 #[] W fun e w' => e = .returned (.bool true) ∧ Below W.heap.size W w')) :
    Calls Tryd.prog 8 #[.agg #[.int .i64 o.st, .int .i64 o.sr, .int .i64 o.k, .int .i64 o.pt, .int .i64 o.pr, .int .i64 o.it, .int .i64 o.ir, .int .i64 o.tt, .int .i64 o.tr, .string o.name, .string o.new, .int .i64 o.off, .string o.data], .int .u32 a, .int .u8 b] w fun e w' => e = .returned (.bool true) ∧ Below w.heap.size w w' := by
  go_enter Tryd.func8, Tryd.ntmps8
  have hh0 : Held w [(w.heap.size, (.cells (opA o) 25))] (w.alloc (.cells (opA o) 25)) := (Held.refl w).alloc (.cells (opA o) 25) rfl
  go_wp2_with fail
  refine (S.out _).mono ?_
  rintro e w1 ⟨rfl, hb1⟩
  have iw1 : Tab w1 := tab_step hb1
  have B1 : Below (w.alloc (.cells (opA o) 25)).heap.size (w.alloc (.cells (opA o) 25)) w1 := hb1
  have HH1 := Lib.hid (hh0.step B1)
  clear hh0 hb1 B1
  obtain ⟨n0, n1, n2, n3, n4, n5, n6, n7, n8, n9, n10, n11, n12⟩ := op_cells (HH1.out.at 0 rfl)
  go_wp2_with fail
  go_ret
  exact ⟨rfl, HH1.out.below⟩

set_option maxRecDepth 100000 in
set_option maxHeartbeats 6400000 in
theorem notMay (o : Opn) (a b : Int) (w : World) [Tab w] (h1 : ¬ 300 < o.name.size) (h2 : ¬ 300 < o.new.size) (h3 : ¬ 300 < o.data.size) (S : Hid (∀ (W : World) [Tab W], Calls Tryd.prog 9 #[] W fun e w' => e = .returned (.bool true) ∧ Below W.heap.size W w')) (M : Hid (∀ (W : World) [Tab W], Calls Tryd.prog 14 #[.agg #[.int .i64 o.st, .int .i64 o.sr, .int .i64 o.k, .int .i64 o.pt, .int .i64 o.pr, .int .i64 o.it, .int .i64 o.ir, .int .i64 o.tt, .int .i64 o.tr, .string o.name, .string o.new, .int .i64 o.off, .string o.data]] W fun e w' => e = .returned (.bool false) ∧ Below W.heap.size W w')) :
    Calls Tryd.prog 8 #[.agg #[.int .i64 o.st, .int .i64 o.sr, .int .i64 o.k, .int .i64 o.pt, .int .i64 o.pr, .int .i64 o.it, .int .i64 o.ir, .int .i64 o.tt, .int .i64 o.tr, .string o.name, .string o.new, .int .i64 o.off, .string o.data], .int .u32 a, .int .u8 b] w fun e w' => e = .returned (.bool true) ∧ Below w.heap.size w w' := by
  go_enter Tryd.func8, Tryd.ntmps8
  have hh0 : Held w [(w.heap.size, (.cells (opA o) 25))] (w.alloc (.cells (opA o) 25)) := (Held.refl w).alloc (.cells (opA o) 25) rfl
  go_wp2_with fail
  refine (S.out _).mono ?_
  rintro e w1 ⟨rfl, hb1⟩
  have iw1 : Tab w1 := tab_step hb1
  have B1 : Below (w.alloc (.cells (opA o) 25)).heap.size (w.alloc (.cells (opA o) 25)) w1 := hb1
  have HH1 := Lib.hid (hh0.step B1)
  clear hh0 hb1 B1
  obtain ⟨n0, n1, n2, n3, n4, n5, n6, n7, n8, n9, n10, n11, n12⟩ := op_cells (HH1.out.at 0 rfl)
  go_wp2_with fail
  refine (M.out _).mono ?_
  rintro e w2 ⟨rfl, hb⟩
  have iw2 : Tab w2 := tab_step hb
  have HH2 := Lib.hid (HH1.out.step hb)
  clear hb HH1 n0 n1 n2 n3 n4 n5 n6 n7 n8 n9 n10 n11 n12
  go_wp2_with fail
  go_ret
  exact ⟨rfl, HH2.out.below⟩

theorem both {w w2 W W' : World} {o : Opn} {T R : Int} (h : Held w [(w2.heap.size, (.cells (opA { o with st := T, sr := R }) 25)), (w.heap.size, (.cells (opA o) 25))] W ∧ (W.cell? ⟨w.heap.size, 0, none⟩ = some (.int .i64 o.st) ∧ W.cell? ⟨w.heap.size, 1, none⟩ = some (.int .i64 o.sr) ∧ W.cell? ⟨w.heap.size, 2, none⟩ = some (.int .i64 o.k) ∧ W.cell? ⟨w.heap.size, 3, none⟩ = some (.int .i64 o.pt) ∧ W.cell? ⟨w.heap.size, 4, none⟩ = some (.int .i64 o.pr) ∧ W.cell? ⟨w.heap.size, 5, none⟩ = some (.int .i64 o.it) ∧ W.cell? ⟨w.heap.size, 6, none⟩ = some (.int .i64 o.ir) ∧ W.cell? ⟨w.heap.size, 7, none⟩ = some (.int .i64 o.tt) ∧ W.cell? ⟨w.heap.size, 8, none⟩ = some (.int .i64 o.tr) ∧ W.cell? ⟨w.heap.size, 9, none⟩ = some (.string o.name) ∧ W.cell? ⟨w.heap.size, 10, none⟩ = some (.string o.new) ∧ W.cell? ⟨w.heap.size, 11, none⟩ = some (.int .i64 o.off) ∧ W.cell? ⟨w.heap.size, 12, none⟩ = some (.string o.data)) ∧ (W.cell? ⟨w2.heap.size, 0, none⟩ = some (.int .i64 T) ∧ W.cell? ⟨w2.heap.size, 1, none⟩ = some (.int .i64 R) ∧ W.cell? ⟨w2.heap.size, 2, none⟩ = some (.int .i64 o.k) ∧ W.cell? ⟨w2.heap.size, 3, none⟩ = some (.int .i64 o.pt) ∧ W.cell? ⟨w2.heap.size, 4, none⟩ = some (.int .i64 o.pr) ∧ W.cell? ⟨w2.heap.size, 5, none⟩ = some (.int .i64 o.it) ∧ W.cell? ⟨w2.heap.size, 6, none⟩ = some (.int .i64 o.ir) ∧ W.cell? ⟨w2.heap.size, 7, none⟩ = some (.int .i64 o.tt) ∧ W.cell? ⟨w2.heap.size, 8, none⟩ = some (.int .i64 o.tr) ∧ W.cell? ⟨w2.heap.size, 9, none⟩ = some (.string o.name) ∧ W.cell? ⟨w2.heap.size, 10, none⟩ = some (.string o.new) ∧ W.cell? ⟨w2.heap.size, 11, none⟩ = some (.int .i64 o.off) ∧ W.cell? ⟨w2.heap.size, 12, none⟩ = some (.string o.data))) (hb : Below W.heap.size W W') : Held w [(w2.heap.size, (.cells (opA { o with st := T, sr := R }) 25)), (w.heap.size, (.cells (opA o) 25))] W' ∧ (W'.cell? ⟨w.heap.size, 0, none⟩ = some (.int .i64 o.st) ∧ W'.cell? ⟨w.heap.size, 1, none⟩ = some (.int .i64 o.sr) ∧ W'.cell? ⟨w.heap.size, 2, none⟩ = some (.int .i64 o.k) ∧ W'.cell? ⟨w.heap.size, 3, none⟩ = some (.int .i64 o.pt) ∧ W'.cell? ⟨w.heap.size, 4, none⟩ = some (.int .i64 o.pr) ∧ W'.cell? ⟨w.heap.size, 5, none⟩ = some (.int .i64 o.it) ∧ W'.cell? ⟨w.heap.size, 6, none⟩ = some (.int .i64 o.ir) ∧ W'.cell? ⟨w.heap.size, 7, none⟩ = some (.int .i64 o.tt) ∧ W'.cell? ⟨w.heap.size, 8, none⟩ = some (.int .i64 o.tr) ∧ W'.cell? ⟨w.heap.size, 9, none⟩ = some (.string o.name) ∧ W'.cell? ⟨w.heap.size, 10, none⟩ = some (.string o.new) ∧ W'.cell? ⟨w.heap.size, 11, none⟩ = some (.int .i64 o.off) ∧ W'.cell? ⟨w.heap.size, 12, none⟩ = some (.string o.data)) ∧ (W'.cell? ⟨w2.heap.size, 0, none⟩ = some (.int .i64 T) ∧ W'.cell? ⟨w2.heap.size, 1, none⟩ = some (.int .i64 R) ∧ W'.cell? ⟨w2.heap.size, 2, none⟩ = some (.int .i64 o.k) ∧ W'.cell? ⟨w2.heap.size, 3, none⟩ = some (.int .i64 o.pt) ∧ W'.cell? ⟨w2.heap.size, 4, none⟩ = some (.int .i64 o.pr) ∧ W'.cell? ⟨w2.heap.size, 5, none⟩ = some (.int .i64 o.it) ∧ W'.cell? ⟨w2.heap.size, 6, none⟩ = some (.int .i64 o.ir) ∧ W'.cell? ⟨w2.heap.size, 7, none⟩ = some (.int .i64 o.tt) ∧ W'.cell? ⟨w2.heap.size, 8, none⟩ = some (.int .i64 o.tr) ∧ W'.cell? ⟨w2.heap.size, 9, none⟩ = some (.string o.name) ∧ W'.cell? ⟨w2.heap.size, 10, none⟩ = some (.string o.new) ∧ W'.cell? ⟨w2.heap.size, 11, none⟩ = some (.int .i64 o.off) ∧ W'.cell? ⟨w2.heap.size, 12, none⟩ = some (.string o.data)) :=
  ⟨h.1.step hb, op_cells ((h.1.step hb).at 1 rfl), op_cells ((h.1.step hb).at 0 rfl)⟩

theorem both_drew {w w2 W : World} {o : Opn} {T R : Int} (h : Held w [(w2.heap.size, (.cells (opA { o with st := T, sr := R }) 25)), (w.heap.size, (.cells (opA o) 25))] W ∧ (W.cell? ⟨w.heap.size, 0, none⟩ = some (.int .i64 o.st) ∧ W.cell? ⟨w.heap.size, 1, none⟩ = some (.int .i64 o.sr) ∧ W.cell? ⟨w.heap.size, 2, none⟩ = some (.int .i64 o.k) ∧ W.cell? ⟨w.heap.size, 3, none⟩ = some (.int .i64 o.pt) ∧ W.cell? ⟨w.heap.size, 4, none⟩ = some (.int .i64 o.pr) ∧ W.cell? ⟨w.heap.size, 5, none⟩ = some (.int .i64 o.it) ∧ W.cell? ⟨w.heap.size, 6, none⟩ = some (.int .i64 o.ir) ∧ W.cell? ⟨w.heap.size, 7, none⟩ = some (.int .i64 o.tt) ∧ W.cell? ⟨w.heap.size, 8, none⟩ = some (.int .i64 o.tr) ∧ W.cell? ⟨w.heap.size, 9, none⟩ = some (.string o.name) ∧ W.cell? ⟨w.heap.size, 10, none⟩ = some (.string o.new) ∧ W.cell? ⟨w.heap.size, 11, none⟩ = some (.int .i64 o.off) ∧ W.cell? ⟨w.heap.size, 12, none⟩ = some (.string o.data)) ∧ (W.cell? ⟨w2.heap.size, 0, none⟩ = some (.int .i64 T) ∧ W.cell? ⟨w2.heap.size, 1, none⟩ = some (.int .i64 R) ∧ W.cell? ⟨w2.heap.size, 2, none⟩ = some (.int .i64 o.k) ∧ W.cell? ⟨w2.heap.size, 3, none⟩ = some (.int .i64 o.pt) ∧ W.cell? ⟨w2.heap.size, 4, none⟩ = some (.int .i64 o.pr) ∧ W.cell? ⟨w2.heap.size, 5, none⟩ = some (.int .i64 o.it) ∧ W.cell? ⟨w2.heap.size, 6, none⟩ = some (.int .i64 o.ir) ∧ W.cell? ⟨w2.heap.size, 7, none⟩ = some (.int .i64 o.tt) ∧ W.cell? ⟨w2.heap.size, 8, none⟩ = some (.int .i64 o.tr) ∧ W.cell? ⟨w2.heap.size, 9, none⟩ = some (.string o.name) ∧ W.cell? ⟨w2.heap.size, 10, none⟩ = some (.string o.new) ∧ W.cell? ⟨w2.heap.size, 11, none⟩ = some (.int .i64 o.off) ∧ W.cell? ⟨w2.heap.size, 12, none⟩ = some (.string o.data))) : Held w [(w2.heap.size, (.cells (opA { o with st := T, sr := R }) 25)), (w.heap.size, (.cells (opA o) 25))] W.drew ∧ (W.drew.cell? ⟨w.heap.size, 0, none⟩ = some (.int .i64 o.st) ∧ W.drew.cell? ⟨w.heap.size, 1, none⟩ = some (.int .i64 o.sr) ∧ W.drew.cell? ⟨w.heap.size, 2, none⟩ = some (.int .i64 o.k) ∧ W.drew.cell? ⟨w.heap.size, 3, none⟩ = some (.int .i64 o.pt) ∧ W.drew.cell? ⟨w.heap.size, 4, none⟩ = some (.int .i64 o.pr) ∧ W.drew.cell? ⟨w.heap.size, 5, none⟩ = some (.int .i64 o.it) ∧ W.drew.cell? ⟨w.heap.size, 6, none⟩ = some (.int .i64 o.ir) ∧ W.drew.cell? ⟨w.heap.size, 7, none⟩ = some (.int .i64 o.tt) ∧ W.drew.cell? ⟨w.heap.size, 8, none⟩ = some (.int .i64 o.tr) ∧ W.drew.cell? ⟨w.heap.size, 9, none⟩ = some (.string o.name) ∧ W.drew.cell? ⟨w.heap.size, 10, none⟩ = some (.string o.new) ∧ W.drew.cell? ⟨w.heap.size, 11, none⟩ = some (.int .i64 o.off) ∧ W.drew.cell? ⟨w.heap.size, 12, none⟩ = some (.string o.data)) ∧ (W.drew.cell? ⟨w2.heap.size, 0, none⟩ = some (.int .i64 T) ∧ W.drew.cell? ⟨w2.heap.size, 1, none⟩ = some (.int .i64 R) ∧ W.drew.cell? ⟨w2.heap.size, 2, none⟩ = some (.int .i64 o.k) ∧ W.drew.cell? ⟨w2.heap.size, 3, none⟩ = some (.int .i64 o.pt) ∧ W.drew.cell? ⟨w2.heap.size, 4, none⟩ = some (.int .i64 o.pr) ∧ W.drew.cell? ⟨w2.heap.size, 5, none⟩ = some (.int .i64 o.it) ∧ W.drew.cell? ⟨w2.heap.size, 6, none⟩ = some (.int .i64 o.ir) ∧ W.drew.cell? ⟨w2.heap.size, 7, none⟩ = some (.int .i64 o.tt) ∧ W.drew.cell? ⟨w2.heap.size, 8, none⟩ = some (.int .i64 o.tr) ∧ W.drew.cell? ⟨w2.heap.size, 9, none⟩ = some (.string o.name) ∧ W.drew.cell? ⟨w2.heap.size, 10, none⟩ = some (.string o.new) ∧ W.drew.cell? ⟨w2.heap.size, 11, none⟩ = some (.int .i64 o.off) ∧ W.drew.cell? ⟨w2.heap.size, 12, none⟩ = some (.string o.data)) :=
  ⟨h.1.drew, op_cells (h.1.drew.at 1 rfl), op_cells (h.1.drew.at 0 rfl)⟩

set_option maxRecDepth 100000 in
set_option maxHeartbeats 6400000 in
theorem core (o : Opn) (a b : Nat) (a1 : a ≤ 4294967295) (b1 : b ≤ 255) (T R : Int) (eT : 1 + (a : Int) % 1000 = T) (eR : (b : Int) % 8 = R) (w : World) [Tab w] (p q : ByteArray) (m : Int) (n : Nat) (xs : List (Int × Int)) (hn : n ≤ 4000)
    (hk : Hid (((T == o.st) = true ∧ (R == o.sr) = true ∧ (p.toList == q.toList) = true) ∨ ((T == o.st) = false ∧ (p.toList == q.toList) = false) ∨ ((T == o.st) = true ∧ (R == o.sr) = false ∧ (p.toList == q.toList) = false)))
    (h1 : ¬ 300 < o.name.size) (h2 : ¬ 300 < o.new.size) (h3 : ¬ 300 < o.data.size) (S : Hid (∀ (W : World) [Tab W], Calls Tryd.prog 9 #[] W fun e w' => e = .returned (.bool true) ∧ Below W.heap.size W w')) (M : Hid (∀ (W : World) [Tab W], Calls Tryd.prog 14 #[.agg #[.int .i64 o.st, .int .i64 o.sr, .int .i64 o.k, .int .i64 o.pt, .int .i64 o.pr, .int .i64 o.it, .int .i64 o.ir, .int .i64 o.tt, .int .i64 o.tr, .string o.name, .string o.new, .int .i64 o.off, .string o.data]] W fun e w' => e = .returned (.bool true) ∧ Below W.heap.size W w')) (MX : Hid (∀ (W : World) [Tab W], Calls Tryd.prog 14 #[.agg #[.int .i64 T, .int .i64 R, .int .i64 o.k, .int .i64 o.pt, .int .i64 o.pr, .int .i64 o.it, .int .i64 o.ir, .int .i64 o.tt, .int .i64 o.tr, .string o.name, .string o.new, .int .i64 o.off, .string o.data]] W fun e w' => e = .returned (.bool true) ∧ Below W.heap.size W w')) (PX : Hid (∀ (W : World) [Tab W], Calls Tryd.prog 16 #[.agg #[.int .i64 T, .int .i64 R, .int .i64 o.k, .int .i64 o.pt, .int .i64 o.pr, .int .i64 o.it, .int .i64 o.ir, .int .i64 o.tt, .int .i64 o.tr, .string o.name, .string o.new, .int .i64 o.off, .string o.data]] W fun e w' => e = .returned (.string p) ∧ Below W.heap.size W w')) (PO : Hid (∀ (W : World) [Tab W], Calls Tryd.prog 16 #[.agg #[.int .i64 o.st, .int .i64 o.sr, .int .i64 o.k, .int .i64 o.pt, .int .i64 o.pr, .int .i64 o.it, .int .i64 o.ir, .int .i64 o.tt, .int .i64 o.tr, .string o.name, .string o.new, .int .i64 o.off, .string o.data]] W fun e w' => e = .returned (.string q) ∧ Below W.heap.size W w')) (KX : Hid (∀ (W : World) [Tab W], Calls Tryd.prog 18 #[.agg #[.int .i64 T, .int .i64 R, .int .i64 o.k, .int .i64 o.pt, .int .i64 o.pr, .int .i64 o.it, .int .i64 o.ir, .int .i64 o.tt, .int .i64 o.tr, .string o.name, .string o.new, .int .i64 o.off, .string o.data]] W fun e w' => e = .returned (.int .i64 m) ∧ Below W.heap.size W w')) (KO : Hid (∀ (W : World) [Tab W], Calls Tryd.prog 18 #[.agg #[.int .i64 o.st, .int .i64 o.sr, .int .i64 o.k, .int .i64 o.pt, .int .i64 o.pr, .int .i64 o.it, .int .i64 o.ir, .int .i64 o.tt, .int .i64 o.tr, .string o.name, .string o.new, .int .i64 o.off, .string o.data]] W fun e w' => e = .returned (.int .i64 m) ∧ Below W.heap.size W w')) (UX : Hid (∀ (W : World) [Tab W], Calls Tryd.prog 21 #[.agg #[.int .i64 T, .int .i64 R, .int .i64 o.k, .int .i64 o.pt, .int .i64 o.pr, .int .i64 o.it, .int .i64 o.ir, .int .i64 o.tt, .int .i64 o.tr, .string o.name, .string o.new, .int .i64 o.off, .string o.data]] W fun e w' => ∃ (A : Option Addr) (c : Nat), e = .returned (.slice A n c) ∧ PairsIn w' w'.heap.size A n xs ∧ Below W.heap.size W w')) (UO : Hid (∀ (W : World) [Tab W], Calls Tryd.prog 21 #[.agg #[.int .i64 o.st, .int .i64 o.sr, .int .i64 o.k, .int .i64 o.pt, .int .i64 o.pr, .int .i64 o.it, .int .i64 o.ir, .int .i64 o.tt, .int .i64 o.tr, .string o.name, .string o.new, .int .i64 o.off, .string o.data]] W fun e w' => ∃ (A : Option Addr) (c : Nat), e = .returned (.slice A n c) ∧ PairsIn w' w'.heap.size A n xs ∧ Below W.heap.size W w')) :
    Calls Tryd.prog 8 #[.agg #[.int .i64 o.st, .int .i64 o.sr, .int .i64 o.k, .int .i64 o.pt, .int .i64 o.pr, .int .i64 o.it, .int .i64 o.ir, .int .i64 o.tt, .int .i64 o.tr, .string o.name, .string o.new, .int .i64 o.off, .string o.data], .int .u32 (a : Int), .int .u8 (b : Int)] w fun e w' => e = .returned (.bool true) ∧ Below w.heap.size w w' := by
  go_enter Tryd.func8, Tryd.ntmps8
  have hh0 : Held w [(w.heap.size, (.cells (opA o) 25))] (w.alloc (.cells (opA o) 25)) := (Held.refl w).alloc (.cells (opA o) 25) rfl
  go_wp2_with fail
  refine (S.out _).mono ?_
  rintro e w1 ⟨rfl, hb1⟩
  have iw1 : Tab w1 := tab_step hb1
  have B1 : Below (w.alloc (.cells (opA o) 25)).heap.size (w.alloc (.cells (opA o) 25)) w1 := hb1
  have HH1 := Lib.hid (hh0.step B1)
  clear hh0 hb1 B1
  obtain ⟨n0, n1, n2, n3, n4, n5, n6, n7, n8, n9, n10, n11, n12⟩ := op_cells (HH1.out.at 0 rfl)
  go_wp2_with fail
  refine (M.out _).mono ?_
  rintro e w2 ⟨rfl, hb⟩
  have iw2 : Tab w2 := tab_step hb
  have HH2 := Lib.hid (HH1.out.step hb)
  clear hb HH1 n0 n1 n2 n3 n4 n5 n6 n7 n8 n9 n10 n11 n12
  obtain ⟨n0, n1, n2, n3, n4, n5, n6, n7, n8, n9, n10, n11, n12⟩ := op_cells (HH2.out.at 0 rfl)
  have hz0 : w.heap.size < w2.heap.size := heap_lt (HH2.out.at 0 rfl)
  go_upto_region 6 with (fail)
  clear n0 n1 n2 n3 n4 n5 n6 n7 n8 n9 n10 n11 n12 eT eR
  have hS0 : Held w [(w2.heap.size, (.cells (opA { o with st := T, sr := R }) 25)), (w.heap.size, (.cells (opA o) 25))] (w2.alloc (.cells #[.int .i64 T, .int .i64 R, .int .i64 o.k, .int .i64 o.pt, .int .i64 o.pr, .int .i64 o.it, .int .i64 o.ir, .int .i64 o.tt, .int .i64 o.tr, .string o.name, .string o.new, .int .i64 o.off, .string o.data] 25)) ∧ ((w2.alloc (.cells #[.int .i64 T, .int .i64 R, .int .i64 o.k, .int .i64 o.pt, .int .i64 o.pr, .int .i64 o.it, .int .i64 o.ir, .int .i64 o.tt, .int .i64 o.tr, .string o.name, .string o.new, .int .i64 o.off, .string o.data] 25)).cell? ⟨w.heap.size, 0, none⟩ = some (.int .i64 o.st) ∧ (w2.alloc (.cells #[.int .i64 T, .int .i64 R, .int .i64 o.k, .int .i64 o.pt, .int .i64 o.pr, .int .i64 o.it, .int .i64 o.ir, .int .i64 o.tt, .int .i64 o.tr, .string o.name, .string o.new, .int .i64 o.off, .string o.data] 25)).cell? ⟨w.heap.size, 1, none⟩ = some (.int .i64 o.sr) ∧ (w2.alloc (.cells #[.int .i64 T, .int .i64 R, .int .i64 o.k, .int .i64 o.pt, .int .i64 o.pr, .int .i64 o.it, .int .i64 o.ir, .int .i64 o.tt, .int .i64 o.tr, .string o.name, .string o.new, .int .i64 o.off, .string o.data] 25)).cell? ⟨w.heap.size, 2, none⟩ = some (.int .i64 o.k) ∧ (w2.alloc (.cells #[.int .i64 T, .int .i64 R, .int .i64 o.k, .int .i64 o.pt, .int .i64 o.pr, .int .i64 o.it, .int .i64 o.ir, .int .i64 o.tt, .int .i64 o.tr, .string o.name, .string o.new, .int .i64 o.off, .string o.data] 25)).cell? ⟨w.heap.size, 3, none⟩ = some (.int .i64 o.pt) ∧ (w2.alloc (.cells #[.int .i64 T, .int .i64 R, .int .i64 o.k, .int .i64 o.pt, .int .i64 o.pr, .int .i64 o.it, .int .i64 o.ir, .int .i64 o.tt, .int .i64 o.tr, .string o.name, .string o.new, .int .i64 o.off, .string o.data] 25)).cell? ⟨w.heap.size, 4, none⟩ = some (.int .i64 o.pr) ∧ (w2.alloc (.cells #[.int .i64 T, .int .i64 R, .int .i64 o.k, .int .i64 o.pt, .int .i64 o.pr, .int .i64 o.it, .int .i64 o.ir, .int .i64 o.tt, .int .i64 o.tr, .string o.name, .string o.new, .int .i64 o.off, .string o.data] 25)).cell? ⟨w.heap.size, 5, none⟩ = some (.int .i64 o.it) ∧ (w2.alloc (.cells #[.int .i64 T, .int .i64 R, .int .i64 o.k, .int .i64 o.pt, .int .i64 o.pr, .int .i64 o.it, .int .i64 o.ir, .int .i64 o.tt, .int .i64 o.tr, .string o.name, .string o.new, .int .i64 o.off, .string o.data] 25)).cell? ⟨w.heap.size, 6, none⟩ = some (.int .i64 o.ir) ∧ (w2.alloc (.cells #[.int .i64 T, .int .i64 R, .int .i64 o.k, .int .i64 o.pt, .int .i64 o.pr, .int .i64 o.it, .int .i64 o.ir, .int .i64 o.tt, .int .i64 o.tr, .string o.name, .string o.new, .int .i64 o.off, .string o.data] 25)).cell? ⟨w.heap.size, 7, none⟩ = some (.int .i64 o.tt) ∧ (w2.alloc (.cells #[.int .i64 T, .int .i64 R, .int .i64 o.k, .int .i64 o.pt, .int .i64 o.pr, .int .i64 o.it, .int .i64 o.ir, .int .i64 o.tt, .int .i64 o.tr, .string o.name, .string o.new, .int .i64 o.off, .string o.data] 25)).cell? ⟨w.heap.size, 8, none⟩ = some (.int .i64 o.tr) ∧ (w2.alloc (.cells #[.int .i64 T, .int .i64 R, .int .i64 o.k, .int .i64 o.pt, .int .i64 o.pr, .int .i64 o.it, .int .i64 o.ir, .int .i64 o.tt, .int .i64 o.tr, .string o.name, .string o.new, .int .i64 o.off, .string o.data] 25)).cell? ⟨w.heap.size, 9, none⟩ = some (.string o.name) ∧ (w2.alloc (.cells #[.int .i64 T, .int .i64 R, .int .i64 o.k, .int .i64 o.pt, .int .i64 o.pr, .int .i64 o.it, .int .i64 o.ir, .int .i64 o.tt, .int .i64 o.tr, .string o.name, .string o.new, .int .i64 o.off, .string o.data] 25)).cell? ⟨w.heap.size, 10, none⟩ = some (.string o.new) ∧ (w2.alloc (.cells #[.int .i64 T, .int .i64 R, .int .i64 o.k, .int .i64 o.pt, .int .i64 o.pr, .int .i64 o.it, .int .i64 o.ir, .int .i64 o.tt, .int .i64 o.tr, .string o.name, .string o.new, .int .i64 o.off, .string o.data] 25)).cell? ⟨w.heap.size, 11, none⟩ = some (.int .i64 o.off) ∧ (w2.alloc (.cells #[.int .i64 T, .int .i64 R, .int .i64 o.k, .int .i64 o.pt, .int .i64 o.pr, .int .i64 o.it, .int .i64 o.ir, .int .i64 o.tt, .int .i64 o.tr, .string o.name, .string o.new, .int .i64 o.off, .string o.data] 25)).cell? ⟨w.heap.size, 12, none⟩ = some (.string o.data)) ∧ ((w2.alloc (.cells #[.int .i64 T, .int .i64 R, .int .i64 o.k, .int .i64 o.pt, .int .i64 o.pr, .int .i64 o.it, .int .i64 o.ir, .int .i64 o.tt, .int .i64 o.tr, .string o.name, .string o.new, .int .i64 o.off, .string o.data] 25)).cell? ⟨w2.heap.size, 0, none⟩ = some (.int .i64 T) ∧ (w2.alloc (.cells #[.int .i64 T, .int .i64 R, .int .i64 o.k, .int .i64 o.pt, .int .i64 o.pr, .int .i64 o.it, .int .i64 o.ir, .int .i64 o.tt, .int .i64 o.tr, .string o.name, .string o.new, .int .i64 o.off, .string o.data] 25)).cell? ⟨w2.heap.size, 1, none⟩ = some (.int .i64 R) ∧ (w2.alloc (.cells #[.int .i64 T, .int .i64 R, .int .i64 o.k, .int .i64 o.pt, .int .i64 o.pr, .int .i64 o.it, .int .i64 o.ir, .int .i64 o.tt, .int .i64 o.tr, .string o.name, .string o.new, .int .i64 o.off, .string o.data] 25)).cell? ⟨w2.heap.size, 2, none⟩ = some (.int .i64 o.k) ∧ (w2.alloc (.cells #[.int .i64 T, .int .i64 R, .int .i64 o.k, .int .i64 o.pt, .int .i64 o.pr, .int .i64 o.it, .int .i64 o.ir, .int .i64 o.tt, .int .i64 o.tr, .string o.name, .string o.new, .int .i64 o.off, .string o.data] 25)).cell? ⟨w2.heap.size, 3, none⟩ = some (.int .i64 o.pt) ∧ (w2.alloc (.cells #[.int .i64 T, .int .i64 R, .int .i64 o.k, .int .i64 o.pt, .int .i64 o.pr, .int .i64 o.it, .int .i64 o.ir, .int .i64 o.tt, .int .i64 o.tr, .string o.name, .string o.new, .int .i64 o.off, .string o.data] 25)).cell? ⟨w2.heap.size, 4, none⟩ = some (.int .i64 o.pr) ∧ (w2.alloc (.cells #[.int .i64 T, .int .i64 R, .int .i64 o.k, .int .i64 o.pt, .int .i64 o.pr, .int .i64 o.it, .int .i64 o.ir, .int .i64 o.tt, .int .i64 o.tr, .string o.name, .string o.new, .int .i64 o.off, .string o.data] 25)).cell? ⟨w2.heap.size, 5, none⟩ = some (.int .i64 o.it) ∧ (w2.alloc (.cells #[.int .i64 T, .int .i64 R, .int .i64 o.k, .int .i64 o.pt, .int .i64 o.pr, .int .i64 o.it, .int .i64 o.ir, .int .i64 o.tt, .int .i64 o.tr, .string o.name, .string o.new, .int .i64 o.off, .string o.data] 25)).cell? ⟨w2.heap.size, 6, none⟩ = some (.int .i64 o.ir) ∧ (w2.alloc (.cells #[.int .i64 T, .int .i64 R, .int .i64 o.k, .int .i64 o.pt, .int .i64 o.pr, .int .i64 o.it, .int .i64 o.ir, .int .i64 o.tt, .int .i64 o.tr, .string o.name, .string o.new, .int .i64 o.off, .string o.data] 25)).cell? ⟨w2.heap.size, 7, none⟩ = some (.int .i64 o.tt) ∧ (w2.alloc (.cells #[.int .i64 T, .int .i64 R, .int .i64 o.k, .int .i64 o.pt, .int .i64 o.pr, .int .i64 o.it, .int .i64 o.ir, .int .i64 o.tt, .int .i64 o.tr, .string o.name, .string o.new, .int .i64 o.off, .string o.data] 25)).cell? ⟨w2.heap.size, 8, none⟩ = some (.int .i64 o.tr) ∧ (w2.alloc (.cells #[.int .i64 T, .int .i64 R, .int .i64 o.k, .int .i64 o.pt, .int .i64 o.pr, .int .i64 o.it, .int .i64 o.ir, .int .i64 o.tt, .int .i64 o.tr, .string o.name, .string o.new, .int .i64 o.off, .string o.data] 25)).cell? ⟨w2.heap.size, 9, none⟩ = some (.string o.name) ∧ (w2.alloc (.cells #[.int .i64 T, .int .i64 R, .int .i64 o.k, .int .i64 o.pt, .int .i64 o.pr, .int .i64 o.it, .int .i64 o.ir, .int .i64 o.tt, .int .i64 o.tr, .string o.name, .string o.new, .int .i64 o.off, .string o.data] 25)).cell? ⟨w2.heap.size, 10, none⟩ = some (.string o.new) ∧ (w2.alloc (.cells #[.int .i64 T, .int .i64 R, .int .i64 o.k, .int .i64 o.pt, .int .i64 o.pr, .int .i64 o.it, .int .i64 o.ir, .int .i64 o.tt, .int .i64 o.tr, .string o.name, .string o.new, .int .i64 o.off, .string o.data] 25)).cell? ⟨w2.heap.size, 11, none⟩ = some (.int .i64 o.off) ∧ (w2.alloc (.cells #[.int .i64 T, .int .i64 R, .int .i64 o.k, .int .i64 o.pt, .int .i64 o.pr, .int .i64 o.it, .int .i64 o.ir, .int .i64 o.tt, .int .i64 o.tr, .string o.name, .string o.new, .int .i64 o.off, .string o.data] 25)).cell? ⟨w2.heap.size, 12, none⟩ = some (.string o.data)) := by
    have h := HH2.out.alloc (.cells (opA { o with st := T, sr := R }) 25) rfl
    exact ⟨h, op_cells (h.at 1 rfl), op_cells (h.at 0 rfl)⟩
  have iw3 : Tab ((w2.alloc (.cells #[.int .i64 T, .int .i64 R, .int .i64 o.k, .int .i64 o.pt, .int .i64 o.pr, .int .i64 o.it, .int .i64 o.ir, .int .i64 o.tt, .int .i64 o.tr, .string o.name, .string o.new, .int .i64 o.off, .string o.data] 25))) := inferInstance
  generalize (w2.alloc (.cells #[.int .i64 T, .int .i64 R, .int .i64 o.k, .int .i64 o.pt, .int .i64 o.pr, .int .i64 o.it, .int .i64 o.ir, .int .i64 o.tt, .int .i64 o.tr, .string o.name, .string o.new, .int .i64 o.off, .string o.data] 25)) = w3 at hS0 iw3 ⊢
  clear HH2 S M hz0
  rcases hk.out with ⟨q1, q2, q3⟩ | ⟨q1, q3⟩ | ⟨q1, q2, q3⟩
  · clear hk
    have hS0' := both_drew hS0
    go_region_held3 (fun W => Held w [(w2.heap.size, (.cells (opA { o with st := T, sr := R }) 25)), (w.heap.size, (.cells (opA o) 25))] W ∧ (W.cell? ⟨w.heap.size, 0, none⟩ = some (.int .i64 o.st) ∧ W.cell? ⟨w.heap.size, 1, none⟩ = some (.int .i64 o.sr) ∧ W.cell? ⟨w.heap.size, 2, none⟩ = some (.int .i64 o.k) ∧ W.cell? ⟨w.heap.size, 3, none⟩ = some (.int .i64 o.pt) ∧ W.cell? ⟨w.heap.size, 4, none⟩ = some (.int .i64 o.pr) ∧ W.cell? ⟨w.heap.size, 5, none⟩ = some (.int .i64 o.it) ∧ W.cell? ⟨w.heap.size, 6, none⟩ = some (.int .i64 o.ir) ∧ W.cell? ⟨w.heap.size, 7, none⟩ = some (.int .i64 o.tt) ∧ W.cell? ⟨w.heap.size, 8, none⟩ = some (.int .i64 o.tr) ∧ W.cell? ⟨w.heap.size, 9, none⟩ = some (.string o.name) ∧ W.cell? ⟨w.heap.size, 10, none⟩ = some (.string o.new) ∧ W.cell? ⟨w.heap.size, 11, none⟩ = some (.int .i64 o.off) ∧ W.cell? ⟨w.heap.size, 12, none⟩ = some (.string o.data)) ∧ (W.cell? ⟨w2.heap.size, 0, none⟩ = some (.int .i64 T) ∧ W.cell? ⟨w2.heap.size, 1, none⟩ = some (.int .i64 R) ∧ W.cell? ⟨w2.heap.size, 2, none⟩ = some (.int .i64 o.k) ∧ W.cell? ⟨w2.heap.size, 3, none⟩ = some (.int .i64 o.pt) ∧ W.cell? ⟨w2.heap.size, 4, none⟩ = some (.int .i64 o.pr) ∧ W.cell? ⟨w2.heap.size, 5, none⟩ = some (.int .i64 o.it) ∧ W.cell? ⟨w2.heap.size, 6, none⟩ = some (.int .i64 o.ir) ∧ W.cell? ⟨w2.heap.size, 7, none⟩ = some (.int .i64 o.tt) ∧ W.cell? ⟨w2.heap.size, 8, none⟩ = some (.int .i64 o.tr) ∧ W.cell? ⟨w2.heap.size, 9, none⟩ = some (.string o.name) ∧ W.cell? ⟨w2.heap.size, 10, none⟩ = some (.string o.new) ∧ W.cell? ⟨w2.heap.size, 11, none⟩ = some (.int .i64 o.off) ∧ W.cell? ⟨w2.heap.size, 12, none⟩ = some (.string o.data))) (first | assumption | exact both_drew (by assumption))
      (first
        | (go_at_call 14; (with_reducible refine (MX.out _).mono ?_); rintro e wMX ⟨rfl, hbMX⟩; have iwMX : Tab wMX := tab_step hbMX; have hSMX := both (by assumption) hbMX)
        | (go_at_call 16; (with_reducible refine (PX.out _).mono ?_); rintro e wPX ⟨rfl, hbPX⟩; have iwPX : Tab wPX := tab_step hbPX; have hSPX := both (by assumption) hbPX)
        | (go_at_call 16; (with_reducible refine (PO.out _).mono ?_); rintro e wPO ⟨rfl, hbPO⟩; have iwPO : Tab wPO := tab_step hbPO; have hSPO := both (by assumption) hbPO)
        | (go_at_call 18; (with_reducible refine (KX.out _).mono ?_); rintro e wKX ⟨rfl, hbKX⟩; have iwKX : Tab wKX := tab_step hbKX; have hSKX := both (by assumption) hbKX)
        | (go_at_call 18; (with_reducible refine (KO.out _).mono ?_); rintro e wKO ⟨rfl, hbKO⟩; have iwKO : Tab wKO := tab_step hbKO; have hSKO := both (by assumption) hbKO)
        | (go_at_call 21; (with_reducible refine (UX.out _).mono ?_); rintro e wUX ⟨AUX, cUX, rfl, hpUX, hbUX⟩; have iwUX : Tab wUX := tab_step hbUX; have hSUX := both (by assumption) hbUX)
        | (go_at_call 21; (with_reducible refine (UO.out _).mono ?_); rintro e wUO ⟨AUO, cUO, rfl, hpUO, hbUO⟩; have iwUO : Tab wUO := tab_step hbUO; have hSUO := both (by assumption) hbUO)
        | (go_at_call 20; (first | (with_reducible refine (refSame _ _ _ xs _ _ _ xs hn hn _ ((hpUX.below hbUO).more hbUO.size) hpUO).mono ?_) | (with_reducible refine (refSame _ _ _ xs _ _ _ xs hn hn _ hpUX ((hpUO.below hbUX).more hbUX.size)).mono ?_)); rintro e wZ ⟨rfl, hbZ⟩; have iwZ : Tab wZ := tab_step hbZ; have hSZ := both (by assumption) hbZ))
    all_goals
      go_wp2_with fail
      go_ret
      exact ⟨by rw [show sameL xs xs = true from decide_eq_true rfl]; rfl, hSZ.1.below⟩
  · clear hk
    have hS0' := both_drew hS0
    go_region_held3 (fun W => Held w [(w2.heap.size, (.cells (opA { o with st := T, sr := R }) 25)), (w.heap.size, (.cells (opA o) 25))] W ∧ (W.cell? ⟨w.heap.size, 0, none⟩ = some (.int .i64 o.st) ∧ W.cell? ⟨w.heap.size, 1, none⟩ = some (.int .i64 o.sr) ∧ W.cell? ⟨w.heap.size, 2, none⟩ = some (.int .i64 o.k) ∧ W.cell? ⟨w.heap.size, 3, none⟩ = some (.int .i64 o.pt) ∧ W.cell? ⟨w.heap.size, 4, none⟩ = some (.int .i64 o.pr) ∧ W.cell? ⟨w.heap.size, 5, none⟩ = some (.int .i64 o.it) ∧ W.cell? ⟨w.heap.size, 6, none⟩ = some (.int .i64 o.ir) ∧ W.cell? ⟨w.heap.size, 7, none⟩ = some (.int .i64 o.tt) ∧ W.cell? ⟨w.heap.size, 8, none⟩ = some (.int .i64 o.tr) ∧ W.cell? ⟨w.heap.size, 9, none⟩ = some (.string o.name) ∧ W.cell? ⟨w.heap.size, 10, none⟩ = some (.string o.new) ∧ W.cell? ⟨w.heap.size, 11, none⟩ = some (.int .i64 o.off) ∧ W.cell? ⟨w.heap.size, 12, none⟩ = some (.string o.data)) ∧ (W.cell? ⟨w2.heap.size, 0, none⟩ = some (.int .i64 T) ∧ W.cell? ⟨w2.heap.size, 1, none⟩ = some (.int .i64 R) ∧ W.cell? ⟨w2.heap.size, 2, none⟩ = some (.int .i64 o.k) ∧ W.cell? ⟨w2.heap.size, 3, none⟩ = some (.int .i64 o.pt) ∧ W.cell? ⟨w2.heap.size, 4, none⟩ = some (.int .i64 o.pr) ∧ W.cell? ⟨w2.heap.size, 5, none⟩ = some (.int .i64 o.it) ∧ W.cell? ⟨w2.heap.size, 6, none⟩ = some (.int .i64 o.ir) ∧ W.cell? ⟨w2.heap.size, 7, none⟩ = some (.int .i64 o.tt) ∧ W.cell? ⟨w2.heap.size, 8, none⟩ = some (.int .i64 o.tr) ∧ W.cell? ⟨w2.heap.size, 9, none⟩ = some (.string o.name) ∧ W.cell? ⟨w2.heap.size, 10, none⟩ = some (.string o.new) ∧ W.cell? ⟨w2.heap.size, 11, none⟩ = some (.int .i64 o.off) ∧ W.cell? ⟨w2.heap.size, 12, none⟩ = some (.string o.data))) (first | assumption | exact both_drew (by assumption))
      (first
        | (go_at_call 14; (with_reducible refine (MX.out _).mono ?_); rintro e wMX ⟨rfl, hbMX⟩; have iwMX : Tab wMX := tab_step hbMX; have hSMX := both (by assumption) hbMX)
        | (go_at_call 16; (with_reducible refine (PX.out _).mono ?_); rintro e wPX ⟨rfl, hbPX⟩; have iwPX : Tab wPX := tab_step hbPX; have hSPX := both (by assumption) hbPX)
        | (go_at_call 16; (with_reducible refine (PO.out _).mono ?_); rintro e wPO ⟨rfl, hbPO⟩; have iwPO : Tab wPO := tab_step hbPO; have hSPO := both (by assumption) hbPO)
        | (go_at_call 18; (with_reducible refine (KX.out _).mono ?_); rintro e wKX ⟨rfl, hbKX⟩; have iwKX : Tab wKX := tab_step hbKX; have hSKX := both (by assumption) hbKX)
        | (go_at_call 18; (with_reducible refine (KO.out _).mono ?_); rintro e wKO ⟨rfl, hbKO⟩; have iwKO : Tab wKO := tab_step hbKO; have hSKO := both (by assumption) hbKO)
        | (go_at_call 21; (with_reducible refine (UX.out _).mono ?_); rintro e wUX ⟨AUX, cUX, rfl, hpUX, hbUX⟩; have iwUX : Tab wUX := tab_step hbUX; have hSUX := both (by assumption) hbUX)
        | (go_at_call 21; (with_reducible refine (UO.out _).mono ?_); rintro e wUO ⟨AUO, cUO, rfl, hpUO, hbUO⟩; have iwUO : Tab wUO := tab_step hbUO; have hSUO := both (by assumption) hbUO)
        | (go_at_call 20; (first | (with_reducible refine (refSame _ _ _ xs _ _ _ xs hn hn _ ((hpUX.below hbUO).more hbUO.size) hpUO).mono ?_) | (with_reducible refine (refSame _ _ _ xs _ _ _ xs hn hn _ hpUX ((hpUO.below hbUX).more hbUX.size)).mono ?_)); rintro e wZ ⟨rfl, hbZ⟩; have iwZ : Tab wZ := tab_step hbZ; have hSZ := both (by assumption) hbZ))
    all_goals
      go_wp2_with fail
      go_ret
      exact ⟨by rw [show sameL xs xs = true from decide_eq_true rfl]; rfl, hSZ.1.below⟩
  · clear hk
    have hS0' := both_drew hS0
    go_region_held3 (fun W => Held w [(w2.heap.size, (.cells (opA { o with st := T, sr := R }) 25)), (w.heap.size, (.cells (opA o) 25))] W ∧ (W.cell? ⟨w.heap.size, 0, none⟩ = some (.int .i64 o.st) ∧ W.cell? ⟨w.heap.size, 1, none⟩ = some (.int .i64 o.sr) ∧ W.cell? ⟨w.heap.size, 2, none⟩ = some (.int .i64 o.k) ∧ W.cell? ⟨w.heap.size, 3, none⟩ = some (.int .i64 o.pt) ∧ W.cell? ⟨w.heap.size, 4, none⟩ = some (.int .i64 o.pr) ∧ W.cell? ⟨w.heap.size, 5, none⟩ = some (.int .i64 o.it) ∧ W.cell? ⟨w.heap.size, 6, none⟩ = some (.int .i64 o.ir) ∧ W.cell? ⟨w.heap.size, 7, none⟩ = some (.int .i64 o.tt) ∧ W.cell? ⟨w.heap.size, 8, none⟩ = some (.int .i64 o.tr) ∧ W.cell? ⟨w.heap.size, 9, none⟩ = some (.string o.name) ∧ W.cell? ⟨w.heap.size, 10, none⟩ = some (.string o.new) ∧ W.cell? ⟨w.heap.size, 11, none⟩ = some (.int .i64 o.off) ∧ W.cell? ⟨w.heap.size, 12, none⟩ = some (.string o.data)) ∧ (W.cell? ⟨w2.heap.size, 0, none⟩ = some (.int .i64 T) ∧ W.cell? ⟨w2.heap.size, 1, none⟩ = some (.int .i64 R) ∧ W.cell? ⟨w2.heap.size, 2, none⟩ = some (.int .i64 o.k) ∧ W.cell? ⟨w2.heap.size, 3, none⟩ = some (.int .i64 o.pt) ∧ W.cell? ⟨w2.heap.size, 4, none⟩ = some (.int .i64 o.pr) ∧ W.cell? ⟨w2.heap.size, 5, none⟩ = some (.int .i64 o.it) ∧ W.cell? ⟨w2.heap.size, 6, none⟩ = some (.int .i64 o.ir) ∧ W.cell? ⟨w2.heap.size, 7, none⟩ = some (.int .i64 o.tt) ∧ W.cell? ⟨w2.heap.size, 8, none⟩ = some (.int .i64 o.tr) ∧ W.cell? ⟨w2.heap.size, 9, none⟩ = some (.string o.name) ∧ W.cell? ⟨w2.heap.size, 10, none⟩ = some (.string o.new) ∧ W.cell? ⟨w2.heap.size, 11, none⟩ = some (.int .i64 o.off) ∧ W.cell? ⟨w2.heap.size, 12, none⟩ = some (.string o.data))) (first | assumption | exact both_drew (by assumption))
      (first
        | (go_at_call 14; (with_reducible refine (MX.out _).mono ?_); rintro e wMX ⟨rfl, hbMX⟩; have iwMX : Tab wMX := tab_step hbMX; have hSMX := both (by assumption) hbMX)
        | (go_at_call 16; (with_reducible refine (PX.out _).mono ?_); rintro e wPX ⟨rfl, hbPX⟩; have iwPX : Tab wPX := tab_step hbPX; have hSPX := both (by assumption) hbPX)
        | (go_at_call 16; (with_reducible refine (PO.out _).mono ?_); rintro e wPO ⟨rfl, hbPO⟩; have iwPO : Tab wPO := tab_step hbPO; have hSPO := both (by assumption) hbPO)
        | (go_at_call 18; (with_reducible refine (KX.out _).mono ?_); rintro e wKX ⟨rfl, hbKX⟩; have iwKX : Tab wKX := tab_step hbKX; have hSKX := both (by assumption) hbKX)
        | (go_at_call 18; (with_reducible refine (KO.out _).mono ?_); rintro e wKO ⟨rfl, hbKO⟩; have iwKO : Tab wKO := tab_step hbKO; have hSKO := both (by assumption) hbKO)
        | (go_at_call 21; (with_reducible refine (UX.out _).mono ?_); rintro e wUX ⟨AUX, cUX, rfl, hpUX, hbUX⟩; have iwUX : Tab wUX := tab_step hbUX; have hSUX := both (by assumption) hbUX)
        | (go_at_call 21; (with_reducible refine (UO.out _).mono ?_); rintro e wUO ⟨AUO, cUO, rfl, hpUO, hbUO⟩; have iwUO : Tab wUO := tab_step hbUO; have hSUO := both (by assumption) hbUO)
        | (go_at_call 20; (first | (with_reducible refine (refSame _ _ _ xs _ _ _ xs hn hn _ ((hpUX.below hbUO).more hbUO.size) hpUO).mono ?_) | (with_reducible refine (refSame _ _ _ xs _ _ _ xs hn hn _ hpUX ((hpUO.below hbUX).more hbUX.size)).mono ?_)); rintro e wZ ⟨rfl, hbZ⟩; have iwZ : Tab wZ := tab_step hbZ; have hSZ := both (by assumption) hbZ))
    all_goals
      go_wp2_with fail
      go_ret
      exact ⟨by rw [show sameL xs xs = true from decide_eq_true rfl]; rfl, hSZ.1.below⟩

theorem bare_st (o : Opn) (T R : Int) : bareO ({ o with st := T, sr := R } : Opn) = { bareO o with st := T, sr := R } := rfl

theorem may_st {o : Opn} {T R : Int} (h : MayParts o) (h1 : 1 ≤ T) (h2 : T ≤ 1000) (h3 : 0 ≤ R) (h4 : R ≤ 7) : mayO ({ o with st := T, sr := R } : Opn) = true := by
  refine parts_may ⟨h.k1, h.k10, ?_, ?_, ?_, h.pt, h.it, h.tt, h.name, h.new, h.data⟩
  · rw [bare_st, h.bare]
  · show T ≠ 0
    omega
  · show mayB T R = true
    unfold mayB
    rw [if_neg (by omega)]
    simp only [Bool.and_eq_true, decide_eq_true_eq]
    omega

theorem walk0 (H : OpHave) (o : Opn) (a b : Int) (ok : Ok64 o) (z1 : o.name.size ≤ maxLen) (z2 : o.new.size ≤ maxLen) (z3 : o.data.size ≤ maxLen) (ha : (Lit.int .u32 a).wf = true) (hb : (Lit.int .u8 b).wf = true) (w : World) [Tab w] :
    Calls Tryd.prog 8 #[.agg #[.int .i64 o.st, .int .i64 o.sr, .int .i64 o.k, .int .i64 o.pt, .int .i64 o.pr, .int .i64 o.it, .int .i64 o.ir, .int .i64 o.tt, .int .i64 o.tr, .string o.name, .string o.new, .int .i64 o.off, .string o.data], .int .u32 a, .int .u8 b] w fun e w' => e = .returned (.bool true) ∧ Below w.heap.size w w' := by
  have S : Hid (∀ (W : World) [Tab W], Calls Tryd.prog 9 #[] W fun e w' => e = .returned (.bool true) ∧ Below W.heap.size W w') := fun W => H.shown W
  have M := fun (W : World) [Tab W] => H.may o W ok z1 z2 z3
  have y1 := z1
  have y2 := z2
  have y3 := z3
  unfold maxLen at y1 y2 y3
  by_cases h1 : 300 < o.name.size
  · exact long1 o a b w (by omega) h1 S
  by_cases h2 : 300 < o.new.size
  · exact long2 o a b w (by omega) (by omega) h1 h2 S
  by_cases h3 : 300 < o.data.size
  · exact long3 o a b w (by omega) (by omega) (by omega) h1 h2 h3 S
  cases hm : mayO o with
  | false => rw [hm] at M; exact notMay o a b w h1 h2 h3 S M
  | true =>
    rw [hm] at M
    have P := may_parts hm
    obtain ⟨a', rfl, a1⟩ := nat_of_int (n := a) (m := 4294967295) (bounds_u32 ha)
    obtain ⟨b', rfl, b1⟩ := nat_of_int (n := b) (m := 255) (bounds_u8 hb)
    obtain ⟨T, eT⟩ : ∃ T, 1 + (a' : Int) % 1000 = T := ⟨_, rfl⟩
    obtain ⟨R, eR⟩ : ∃ R, (b' : Int) % 8 = R := ⟨_, rfl⟩
    have t1 : 1 ≤ T := by omega
    have t2 : T ≤ 1000 := by omega
    have r1 : 0 ≤ R := by omega
    have r2 : R ≤ 7 := by omega
    have ox : Ok64 ({ o with st := T, sr := R } : Opn) := ⟨by unfold IsI64; show _ ≤ T ∧ T ≤ _; omega, by unfold IsI64; show _ ≤ R ∧ R ≤ _; omega, ok.k, ok.pt, ok.pr, ok.it, ok.ir, ok.tt, ok.tr, ok.off⟩
    have mx : mayO ({ o with st := T, sr := R } : Opn) = true := may_st P t1 t2 r1 r2
    have MX := fun (W : World) [Tab W] => H.may ({ o with st := T, sr := R } : Opn) W ox z1 z2 z3
    rw [mx] at MX
    have hq : putO ({ o with st := T, sr := R } : Opn) = putO o → ({ o with st := T, sr := R } : Opn) = o := fun e => by
      have e1 := takeO_putO ({ o with st := T, sr := R } : Opn) ox mx []
      rw [e, takeO_putO o ok hm [], Option.some.injEq, Prod.mk.injEq] at e1
      exact e1.1.symm
    have hk : Hid (((T == o.st) = true ∧ (R == o.sr) = true ∧ ((⟨(putO ({ o with st := T, sr := R } : Opn)).toArray⟩ : ByteArray).toList == (⟨(putO o).toArray⟩ : ByteArray).toList) = true) ∨ ((T == o.st) = false ∧ ((⟨(putO ({ o with st := T, sr := R } : Opn)).toArray⟩ : ByteArray).toList == (⟨(putO o).toArray⟩ : ByteArray).toList) = false) ∨ ((T == o.st) = true ∧ (R == o.sr) = false ∧ ((⟨(putO ({ o with st := T, sr := R } : Opn)).toArray⟩ : ByteArray).toList == (⟨(putO o).toArray⟩ : ByteArray).toList) = false)) := by
      show _ ∨ _
      simp only [ByteArray.toList_eq, beq_eq_false_iff_ne, beq_iff_eq, ne_eq]
      by_cases e1 : T = o.st
      · by_cases e2 : R = o.sr
        · refine Or.inl ⟨e1, e2, ?_⟩
          rw [show ({ o with st := T, sr := R } : Opn) = o by rw [e1, e2]]
        · exact Or.inr (Or.inr ⟨e1, e2, fun e => e2 (congrArg Opn.sr (hq e))⟩)
      · exact Or.inr (Or.inl ⟨e1, fun e => e1 (congrArg Opn.st (hq e))⟩)
    have U : ∀ (x : Opn), Ok64 x → usesO x = usesO o → ∀ (W : World) [Tab W], Calls Tryd.prog 21 #[.agg (opA x)] W fun e w' => ∃ (A : Option Addr) (c : Nat), e = .returned (.slice A (usesO o).length c) ∧ PairsIn w' w'.heap.size A (usesO o).length (usesO o) ∧ Below W.heap.size W w' := fun x hx e W => by
      refine (H.uses x W hx).mono ?_
      rintro e' w' ⟨A, c, he, hp, _, _, hB⟩
      rw [e] at he hp
      exact ⟨A, c, he, hp, hB⟩
    have hl : (usesO o).length ≤ 4000 := by
      unfold usesO
      simp only [List.length_append]
      split <;> split <;> split <;> simp
    exact core o a' b' (by omega) (by omega) T R eT eR w ⟨(putO ({ o with st := T, sr := R } : Opn)).toArray⟩ ⟨(putO o).toArray⟩ (makesO o) (usesO o).length (usesO o) hl hk h1 h2 h3 S M MX
      (fun W => H.put ({ o with st := T, sr := R } : Opn) W ox (by show o.name.size ≤ 5000; omega) (by show o.new.size ≤ 5000; omega) (by show o.data.size ≤ 5000; omega)) (fun W => H.put o W ok (by omega) (by omega) (by omega))
      (fun W => H.makes ({ o with st := T, sr := R } : Opn) W ox) (fun W => H.makes o W ok) (U ({ o with st := T, sr := R } : Opn) ox rfl) (U o ok rfl)

end Go.Proofs.YteknegfocnopgaaDoor.lawOpStamps
