/-
  Whether any text is a name, any operation may be, its bytes, what it makes and names, and what any string begins with, are the document's: for all operations and strings (texts of 2000 bytes at most; longer ones are let go).
-/
import Derived.Test.YteknegfocnopgaaDoorOpHave
import Derived.Test.YteknegfocnopgaaDoorHeld
import Derived.Test.YteknegfocnopgaaDoorLater
import Derived.Test.YteknegfocnopgaaDoorOpRef
import Derived.Test.YteknegfocnopgaaDoorOpRefMay
import Derived.Test.YteknegfocnopgaaDoorOpRefPut
import Derived.Test.YteknegfocnopgaaDoorOpRefUses
import Derived.Test.YteknegfocnopgaaDoorOpStampsRef
import Derived.Deep.DeepCutAuto
import Derived.Deep.RegionHeld3
import Derived.OpenShut
namespace Go.Proofs.YteknegfocnopgaaDoor.lawOpTells
open Go.RowKit OpMath StampMath PackMath

set_option maxRecDepth 100000 in
set_option maxHeartbeats 6400000 in
theorem long1 (o : Opn) (s : ByteArray) (w : World) [Tab w] (z0 : s.size ≤ 9223372036854775807) (h0 : 2000 < s.size) (S : Hid (∀ (W : World) [Tab W], Calls Tryd.prog 9 #[] W fun e w' => e = .returned (.bool true) ∧ Below W.heap.size W w')) :
    Calls Tryd.prog 3 #[.agg #[.int .i64 o.st, .int .i64 o.sr, .int .i64 o.k, .int .i64 o.pt, .int .i64 o.pr, .int .i64 o.it, .int .i64 o.ir, .int .i64 o.tt, .int .i64 o.tr, .string o.name, .string o.new, .int .i64 o.off, .string o.data], .string s] w fun e w' => e = .returned (.bool true) ∧ Below w.heap.size w w' := by
  go_enter Tryd.func3, Tryd.ntmps3
  have hh0 : Held w [(w.heap.size, (.cells (opA o) 25))] (w.alloc (.cells (opA o) 25)) := (Held.refl w).alloc (.cells (opA o) 25) rfl
  go_wp2_with fail
  refine (S.out _).mono ?_
  rintro e w1 ⟨rfl, hb1⟩
  have iw1 : Tab w1 := tab_step hb1
  have B1 : Below (w.alloc (.cells (opA o) 25)).heap.size (w.alloc (.cells (opA o) 25)) w1 := hb1
  have HH1 := Lib.hid (hh0.step B1)
  clear hh0 hb1 B1
  obtain ⟨n0, n1, n2, n3, n4, n5, n6, n7, n8, n9, n10, n11, n12⟩ := op_cells (HH1.out.at 0 rfl)
  go_wp2_with fail
  go_ret
  exact ⟨rfl, HH1.out.below⟩

set_option maxRecDepth 100000 in
set_option maxHeartbeats 6400000 in
theorem long2 (o : Opn) (s : ByteArray) (w : World) [Tab w] (z0 : s.size ≤ 9223372036854775807) (z1 : o.name.size ≤ 9223372036854775807) (h0 : ¬ 2000 < s.size) (h1 : 2000 < o.name.size) (S : Hid (∀ (W : World) [Tab W], Calls Tryd.prog 9 #[] W fun e w' => e = .returned (.bool true) ∧ Below W.heap.size W w')) :
    Calls Tryd.prog 3 #[.agg #[.int .i64 o.st, .int .i64 o.sr, .int .i64 o.k, .int .i64 o.pt, .int .i64 o.pr, .int .i64 o.it, .int .i64 o.ir, .int .i64 o.tt, .int .i64 o.tr, .string o.name, .string o.new, .int .i64 o.off, .string o.data], .string s] w fun e w' => e = .returned (.bool true) ∧ Below w.heap.size w w' := by
  go_enter Tryd.func3, Tryd.ntmps3
  have hh0 : Held w [(w.heap.size, (.cells (opA o) 25))] (w.alloc (.cells (opA o) 25)) := (Held.refl w).alloc (.cells (opA o) 25) rfl
  go_wp2_with fail
  refine (S.out _).mono ?_
  rintro e w1 ⟨rfl, hb1⟩
  have iw1 : Tab w1 := tab_step hb1
  have B1 : Below (w.alloc (.cells (opA o) 25)).heap.size (w.alloc (.cells (opA o) 25)) w1 := hb1
  have HH1 := Lib.hid (hh0.step B1)
  clear hh0 hb1 B1
  obtain ⟨n0, n1, n2, n3, n4, n5, n6, n7, n8, n9, n10, n11, n12⟩ := op_cells (HH1.out.at 0 rfl)
  go_wp2_with fail
  go_ret
  exact ⟨rfl, HH1.out.below⟩

set_option maxRecDepth 100000 in
set_option maxHeartbeats 6400000 in
theorem long3 (o : Opn) (s : ByteArray) (w : World) [Tab w] (z0 : s.size ≤ 9223372036854775807) (z1 : o.name.size ≤ 9223372036854775807) (z2 : o.new.size ≤ 9223372036854775807) (h0 : ¬ 2000 < s.size) (h1 : ¬ 2000 < o.name.size) (h2 : 2000 < o.new.size) (S : Hid (∀ (W : World) [Tab W], Calls Tryd.prog 9 #[] W fun e w' => e = .returned (.bool true) ∧ Below W.heap.size W w')) :
    Calls Tryd.prog 3 #[.agg #[.int .i64 o.st, .int .i64 o.sr, .int .i64 o.k, .int .i64 o.pt, .int .i64 o.pr, .int .i64 o.it, .int .i64 o.ir, .int .i64 o.tt, .int .i64 o.tr, .string o.name, .string o.new, .int .i64 o.off, .string o.data], .string s] w fun e w' => e = .returned (.bool true) ∧ Below w.heap.size w w' := by
  go_enter Tryd.func3, Tryd.ntmps3
  have hh0 : Held w [(w.heap.size, (.cells (opA o) 25))] (w.alloc (.cells (opA o) 25)) := (Held.refl w).alloc (.cells (opA o) 25) rfl
  go_wp2_with fail
  refine (S.out _).mono ?_
  rintro e w1 ⟨rfl, hb1⟩
  have iw1 : Tab w1 := tab_step hb1
  have B1 : Below (w.alloc (.cells (opA o) 25)).heap.size (w.alloc (.cells (opA o) 25)) w1 := hb1
  have HH1 := Lib.hid (hh0.step B1)
  clear hh0 hb1 B1
  obtain ⟨n0, n1, n2, n3, n4, n5, n6, n7, n8, n9, n10, n11, n12⟩ := op_cells (HH1.out.at 0 rfl)
  go_wp2_with fail
  go_ret
  exact ⟨rfl, HH1.out.below⟩

set_option maxRecDepth 100000 in
set_option maxHeartbeats 6400000 in
theorem long4 (o : Opn) (s : ByteArray) (w : World) [Tab w] (z0 : s.size ≤ 9223372036854775807) (z1 : o.name.size ≤ 9223372036854775807) (z2 : o.new.size ≤ 9223372036854775807) (z3 : o.data.size ≤ 9223372036854775807) (h0 : ¬ 2000 < s.size) (h1 : ¬ 2000 < o.name.size) (h2 : ¬ 2000 < o.new.size) (h3 : 2000 < o.data.size) (S : Hid (∀ (W : World) [Tab W], Calls Tryd.prog 9 #[] W fun e w' => e = .returned (.bool true) ∧ Below W.heap.size W w')) :
    Calls Tryd.prog 3 #[.agg #[.int .i64 o.st, .int .i64 o.sr, .int .i64 o.k, .int .i64 o.pt, .int .i64 o.pr, .int .i64 o.it, .int .i64 o.ir, .int .i64 o.tt, .int .i64 o.tr, .string o.name, .string o.new, .int .i64 o.off, .string o.data], .string s] w fun e w' => e = .returned (.bool true) ∧ Below w.heap.size w w' := by
  go_enter Tryd.func3, Tryd.ntmps3
  have hh0 : Held w [(w.heap.size, (.cells (opA o) 25))] (w.alloc (.cells (opA o) 25)) := (Held.refl w).alloc (.cells (opA o) 25) rfl
  go_wp2_with fail
  refine (S.out _).mono ?_
  rintro e w1 ⟨rfl, hb1⟩
  have iw1 : Tab w1 := tab_step hb1
  have B1 : Below (w.alloc (.cells (opA o) 25)).heap.size (w.alloc (.cells (opA o) 25)) w1 := hb1
  have HH1 := Lib.hid (hh0.step B1)
  clear hh0 hb1 B1
  obtain ⟨n0, n1, n2, n3, n4, n5, n6, n7, n8, n9, n10, n11, n12⟩ := op_cells (HH1.out.at 0 rfl)
  go_wp2_with fail
  go_ret
  exact ⟨rfl, HH1.out.below⟩

theorem three {w w2 w3 W : World} {o x : Opn} (h : Held w [(w3.heap.size, (.cells (opA x) 25)), (w2.heap.size, (.cells (opA x) 25)), (w.heap.size, (.cells (opA o) 25))] W) : Held w [(w3.heap.size, (.cells (opA x) 25)), (w2.heap.size, (.cells (opA x) 25)), (w.heap.size, (.cells (opA o) 25))] W ∧ (W.cell? ⟨w.heap.size, 0, none⟩ = some (.int .i64 o.st) ∧ W.cell? ⟨w.heap.size, 1, none⟩ = some (.int .i64 o.sr) ∧ W.cell? ⟨w.heap.size, 2, none⟩ = some (.int .i64 o.k) ∧ W.cell? ⟨w.heap.size, 3, none⟩ = some (.int .i64 o.pt) ∧ W.cell? ⟨w.heap.size, 4, none⟩ = some (.int .i64 o.pr) ∧ W.cell? ⟨w.heap.size, 5, none⟩ = some (.int .i64 o.it) ∧ W.cell? ⟨w.heap.size, 6, none⟩ = some (.int .i64 o.ir) ∧ W.cell? ⟨w.heap.size, 7, none⟩ = some (.int .i64 o.tt) ∧ W.cell? ⟨w.heap.size, 8, none⟩ = some (.int .i64 o.tr) ∧ W.cell? ⟨w.heap.size, 9, none⟩ = some (.string o.name) ∧ W.cell? ⟨w.heap.size, 10, none⟩ = some (.string o.new) ∧ W.cell? ⟨w.heap.size, 11, none⟩ = some (.int .i64 o.off) ∧ W.cell? ⟨w.heap.size, 12, none⟩ = some (.string o.data)) ∧ (W.cell? ⟨w2.heap.size, 0, none⟩ = some (.int .i64 x.st) ∧ W.cell? ⟨w2.heap.size, 1, none⟩ = some (.int .i64 x.sr) ∧ W.cell? ⟨w2.heap.size, 2, none⟩ = some (.int .i64 x.k) ∧ W.cell? ⟨w2.heap.size, 3, none⟩ = some (.int .i64 x.pt) ∧ W.cell? ⟨w2.heap.size, 4, none⟩ = some (.int .i64 x.pr) ∧ W.cell? ⟨w2.heap.size, 5, none⟩ = some (.int .i64 x.it) ∧ W.cell? ⟨w2.heap.size, 6, none⟩ = some (.int .i64 x.ir) ∧ W.cell? ⟨w2.heap.size, 7, none⟩ = some (.int .i64 x.tt) ∧ W.cell? ⟨w2.heap.size, 8, none⟩ = some (.int .i64 x.tr) ∧ W.cell? ⟨w2.heap.size, 9, none⟩ = some (.string x.name) ∧ W.cell? ⟨w2.heap.size, 10, none⟩ = some (.string x.new) ∧ W.cell? ⟨w2.heap.size, 11, none⟩ = some (.int .i64 x.off) ∧ W.cell? ⟨w2.heap.size, 12, none⟩ = some (.string x.data)) ∧ (W.cell? ⟨w3.heap.size, 0, none⟩ = some (.int .i64 x.st) ∧ W.cell? ⟨w3.heap.size, 1, none⟩ = some (.int .i64 x.sr) ∧ W.cell? ⟨w3.heap.size, 2, none⟩ = some (.int .i64 x.k) ∧ W.cell? ⟨w3.heap.size, 3, none⟩ = some (.int .i64 x.pt) ∧ W.cell? ⟨w3.heap.size, 4, none⟩ = some (.int .i64 x.pr) ∧ W.cell? ⟨w3.heap.size, 5, none⟩ = some (.int .i64 x.it) ∧ W.cell? ⟨w3.heap.size, 6, none⟩ = some (.int .i64 x.ir) ∧ W.cell? ⟨w3.heap.size, 7, none⟩ = some (.int .i64 x.tt) ∧ W.cell? ⟨w3.heap.size, 8, none⟩ = some (.int .i64 x.tr) ∧ W.cell? ⟨w3.heap.size, 9, none⟩ = some (.string x.name) ∧ W.cell? ⟨w3.heap.size, 10, none⟩ = some (.string x.new) ∧ W.cell? ⟨w3.heap.size, 11, none⟩ = some (.int .i64 x.off) ∧ W.cell? ⟨w3.heap.size, 12, none⟩ = some (.string x.data)) :=
  ⟨h, op_cells (h.at 2 rfl), op_cells (h.at 1 rfl), op_cells (h.at 0 rfl)⟩

theorem refSameT (A : Option Addr) (n c : Nat) (xs : List (Int × Int)) (A' : Option Addr) (c' : Nat) (hn : n ≤ 4000) (w : World) [Tab w] (hx : PairsIn w w.heap.size A n xs) (hy : PairsIn w w.heap.size A' n xs) :
    Calls Tryd.prog 20 #[.slice A n c, .slice A' n c'] w fun e w' => e = .returned (.bool true) ∧ Below w.heap.size w w' := by
  have h := refSame A n c xs A' n c' xs hn hn w hx hy
  rw [show sameL xs xs = true from decide_eq_true rfl] at h
  exact h

theorem later_held {w W x : World} {L : List (Nat × Obj)} (h : Held w L W) : Held w L (later W x) := h.step (later_below W x)

set_option maxRecDepth 100000 in
set_option maxHeartbeats 6400000 in
theorem core (o x : Opn) (s p rest : ByteArray) (e1 m : Int) (he1 : 0 ≤ e1 ∧ e1 ≤ 2) (bn bm : Bool) (n : Nat) (xs : List (Int × Int)) (hn : n ≤ 4000) (w : World) [Tab w]
    (k0 : ¬ 2000 < s.size) (k1 : ¬ 2000 < o.name.size) (k2 : ¬ 2000 < o.new.size) (k3 : ¬ 2000 < o.data.size) (S : Hid (∀ (W : World) [Tab W], Calls Tryd.prog 9 #[] W fun e w' => e = .returned (.bool true) ∧ Below W.heap.size W w')) (T1 : Hid (∀ (W : World) [Tab W], Calls Tryd.prog 10 #[.string s] W fun e w' => e = .returned (.tuple #[.agg #[.int .i64 x.st, .int .i64 x.sr, .int .i64 x.k, .int .i64 x.pt, .int .i64 x.pr, .int .i64 x.it, .int .i64 x.ir, .int .i64 x.tt, .int .i64 x.tr, .string x.name, .string x.new, .int .i64 x.off, .string x.data], .string rest, .int .i64 e1]) ∧ Below W.heap.size W w')) (T2 : Hid (∀ (W : World) [Tab W], Calls Tryd.prog 11 #[.string s] W fun e w' => e = .returned (.tuple #[.agg #[.int .i64 x.st, .int .i64 x.sr, .int .i64 x.k, .int .i64 x.pt, .int .i64 x.pr, .int .i64 x.it, .int .i64 x.ir, .int .i64 x.tt, .int .i64 x.tr, .string x.name, .string x.new, .int .i64 x.off, .string x.data], .string rest, .int .i64 e1]) ∧ Below W.heap.size W w')) (N1 : Hid (∀ (W : World) [Tab W], Calls Tryd.prog 12 #[.string s] W fun e w' => e = .returned (.bool bn) ∧ Below W.heap.size W w')) (N2 : Hid (∀ (W : World) [Tab W], Calls Tryd.prog 13 #[.string s] W fun e w' => e = .returned (.bool bn) ∧ Below W.heap.size W w')) (M1 : Hid (∀ (W : World) [Tab W], Calls Tryd.prog 14 #[.agg #[.int .i64 o.st, .int .i64 o.sr, .int .i64 o.k, .int .i64 o.pt, .int .i64 o.pr, .int .i64 o.it, .int .i64 o.ir, .int .i64 o.tt, .int .i64 o.tr, .string o.name, .string o.new, .int .i64 o.off, .string o.data]] W fun e w' => e = .returned (.bool bm) ∧ Below W.heap.size W w')) (M2 : Hid (∀ (W : World) [Tab W], Calls Tryd.prog 15 #[.agg #[.int .i64 o.st, .int .i64 o.sr, .int .i64 o.k, .int .i64 o.pt, .int .i64 o.pr, .int .i64 o.it, .int .i64 o.ir, .int .i64 o.tt, .int .i64 o.tr, .string o.name, .string o.new, .int .i64 o.off, .string o.data]] W fun e w' => e = .returned (.bool bm) ∧ Below W.heap.size W w')) (P1 : Hid (∀ (W : World) [Tab W], Calls Tryd.prog 16 #[.agg #[.int .i64 o.st, .int .i64 o.sr, .int .i64 o.k, .int .i64 o.pt, .int .i64 o.pr, .int .i64 o.it, .int .i64 o.ir, .int .i64 o.tt, .int .i64 o.tr, .string o.name, .string o.new, .int .i64 o.off, .string o.data]] W fun e w' => e = .returned (.string p) ∧ Below W.heap.size W w')) (P2 : Hid (∀ (W : World) [Tab W], Calls Tryd.prog 17 #[.agg #[.int .i64 o.st, .int .i64 o.sr, .int .i64 o.k, .int .i64 o.pt, .int .i64 o.pr, .int .i64 o.it, .int .i64 o.ir, .int .i64 o.tt, .int .i64 o.tr, .string o.name, .string o.new, .int .i64 o.off, .string o.data]] W fun e w' => e = .returned (.string p) ∧ Below W.heap.size W w')) (K1 : Hid (∀ (W : World) [Tab W], Calls Tryd.prog 18 #[.agg #[.int .i64 o.st, .int .i64 o.sr, .int .i64 o.k, .int .i64 o.pt, .int .i64 o.pr, .int .i64 o.it, .int .i64 o.ir, .int .i64 o.tt, .int .i64 o.tr, .string o.name, .string o.new, .int .i64 o.off, .string o.data]] W fun e w' => e = .returned (.int .i64 m) ∧ Below W.heap.size W w')) (K2 : Hid (∀ (W : World) [Tab W], Calls Tryd.prog 19 #[.agg #[.int .i64 o.st, .int .i64 o.sr, .int .i64 o.k, .int .i64 o.pt, .int .i64 o.pr, .int .i64 o.it, .int .i64 o.ir, .int .i64 o.tt, .int .i64 o.tr, .string o.name, .string o.new, .int .i64 o.off, .string o.data]] W fun e w' => e = .returned (.int .i64 m) ∧ Below W.heap.size W w')) (U1 : Hid (∀ (W : World) [Tab W], Calls Tryd.prog 21 #[.agg #[.int .i64 o.st, .int .i64 o.sr, .int .i64 o.k, .int .i64 o.pt, .int .i64 o.pr, .int .i64 o.it, .int .i64 o.ir, .int .i64 o.tt, .int .i64 o.tr, .string o.name, .string o.new, .int .i64 o.off, .string o.data]] W fun e w' => ∃ (A : Option Addr) (c : Nat), e = .returned (.slice A n c) ∧ PairsIn w' w'.heap.size A n xs ∧ Below W.heap.size W w')) (U2 : Hid (∀ (W : World) [Tab W], Calls Tryd.prog 22 #[.agg #[.int .i64 o.st, .int .i64 o.sr, .int .i64 o.k, .int .i64 o.pt, .int .i64 o.pr, .int .i64 o.it, .int .i64 o.ir, .int .i64 o.tt, .int .i64 o.tr, .string o.name, .string o.new, .int .i64 o.off, .string o.data]] W fun e w' => ∃ (A : Option Addr) (c : Nat), e = .returned (.slice A n c) ∧ PairsIn w' w'.heap.size A n xs ∧ Below W.heap.size W w')) :
    Calls Tryd.prog 3 #[.agg #[.int .i64 o.st, .int .i64 o.sr, .int .i64 o.k, .int .i64 o.pt, .int .i64 o.pr, .int .i64 o.it, .int .i64 o.ir, .int .i64 o.tt, .int .i64 o.tr, .string o.name, .string o.new, .int .i64 o.off, .string o.data], .string s] w fun e w' => e = .returned (.bool true) ∧ Below w.heap.size w w' := by
  obtain ⟨he10, he11⟩ := he1
  go_enter Tryd.func3, Tryd.ntmps3
  have hh0 : Held w [(w.heap.size, (.cells (opA o) 25))] (w.alloc (.cells (opA o) 25)) := (Held.refl w).alloc (.cells (opA o) 25) rfl
  go_wp2_with fail
  refine (S.out _).mono ?_
  rintro e w1 ⟨rfl, hb1⟩
  have iw1 : Tab w1 := tab_step hb1
  have B1 : Below (w.alloc (.cells (opA o) 25)).heap.size (w.alloc (.cells (opA o) 25)) w1 := hb1
  have HH1 := Lib.hid (hh0.step B1)
  clear hh0 hb1 B1
  obtain ⟨n0, n1, n2, n3, n4, n5, n6, n7, n8, n9, n10, n11, n12⟩ := op_cells (HH1.out.at 0 rfl)
  have hz1 : w.heap.size < w1.heap.size := heap_lt (HH1.out.at 0 rfl)
  go_wp2_with fail
  refine (T1.out _).mono ?_
  rintro e w2 ⟨rfl, hb⟩
  have iw2 : Tab w2 := tab_step hb
  clear n0 n1 n2 n3 n4 n5 n6 n7 n8 n9 n10 n11 n12
  have HH2 := Lib.hid (HH1.out.step hb)
  clear hb HH1 hz1
  have hh2 : Held w [(w2.heap.size, (.cells (opA x) 25)), (w.heap.size, (.cells (opA o) 25))] (w2.alloc (.cells (opA x) 25)) := HH2.out.alloc (.cells (opA x) 25) rfl
  go_wp2_with fail
  refine (T2.out _).mono ?_
  rintro e w3 ⟨rfl, hb⟩
  have iw3 : Tab w3 := tab_step hb
  have b3 : Below (w2.alloc (.cells (opA x) 25)).heap.size (w2.alloc (.cells (opA x) 25)) w3 := hb
  have HH3 := Lib.hid (hh2.step b3)
  clear hb hh2 HH2 b3
  have hh3 : Held w [(w3.heap.size, (.cells (opA x) 25)), (w2.heap.size, (.cells (opA x) 25)), (w.heap.size, (.cells (opA o) 25))] (w3.alloc (.cells #[.int .i64 x.st, .int .i64 x.sr, .int .i64 x.k, .int .i64 x.pt, .int .i64 x.pr, .int .i64 x.it, .int .i64 x.ir, .int .i64 x.tt, .int .i64 x.tr, .string x.name, .string x.new, .int .i64 x.off, .string x.data] 25)) := HH3.out.alloc (.cells (opA x) 25) rfl
  go_upto_region 6 with (fail)
  have iw4 : Tab ((w3.alloc (.cells #[.int .i64 x.st, .int .i64 x.sr, .int .i64 x.k, .int .i64 x.pt, .int .i64 x.pr, .int .i64 x.it, .int .i64 x.ir, .int .i64 x.tt, .int .i64 x.tr, .string x.name, .string x.new, .int .i64 x.off, .string x.data] 25))) := inferInstance
  generalize hW : (w3.alloc (.cells #[.int .i64 x.st, .int .i64 x.sr, .int .i64 x.k, .int .i64 x.pt, .int .i64 x.pr, .int .i64 x.it, .int .i64 x.ir, .int .i64 x.tt, .int .i64 x.tr, .string x.name, .string x.new, .int .i64 x.off, .string x.data] 25)) = w4 at hh3 iw4 ⊢
  clear hW HH3
  have HH4 := Lib.hid hh3
  clear hh3
  obtain ⟨n0, n1, n2, n3, n4, n5, n6, n7, n8, n9, n10, n11, n12⟩ := op_cells (HH4.out.at 2 rfl)
  have q0 : ∀ y : World, (later w4 y).cell? ⟨w.heap.size, 0, none⟩ = some (.int .i64 o.st) := later_cell n0
  have q1 : ∀ y : World, (later w4 y).cell? ⟨w.heap.size, 1, none⟩ = some (.int .i64 o.sr) := later_cell n1
  have q2 : ∀ y : World, (later w4 y).cell? ⟨w.heap.size, 2, none⟩ = some (.int .i64 o.k) := later_cell n2
  have q3 : ∀ y : World, (later w4 y).cell? ⟨w.heap.size, 3, none⟩ = some (.int .i64 o.pt) := later_cell n3
  have q4 : ∀ y : World, (later w4 y).cell? ⟨w.heap.size, 4, none⟩ = some (.int .i64 o.pr) := later_cell n4
  have q5 : ∀ y : World, (later w4 y).cell? ⟨w.heap.size, 5, none⟩ = some (.int .i64 o.it) := later_cell n5
  have q6 : ∀ y : World, (later w4 y).cell? ⟨w.heap.size, 6, none⟩ = some (.int .i64 o.ir) := later_cell n6
  have q7 : ∀ y : World, (later w4 y).cell? ⟨w.heap.size, 7, none⟩ = some (.int .i64 o.tt) := later_cell n7
  have q8 : ∀ y : World, (later w4 y).cell? ⟨w.heap.size, 8, none⟩ = some (.int .i64 o.tr) := later_cell n8
  have q9 : ∀ y : World, (later w4 y).cell? ⟨w.heap.size, 9, none⟩ = some (.string o.name) := later_cell n9
  have q10 : ∀ y : World, (later w4 y).cell? ⟨w.heap.size, 10, none⟩ = some (.string o.new) := later_cell n10
  have q11 : ∀ y : World, (later w4 y).cell? ⟨w.heap.size, 11, none⟩ = some (.int .i64 o.off) := later_cell n11
  have q12 : ∀ y : World, (later w4 y).cell? ⟨w.heap.size, 12, none⟩ = some (.string o.data) := later_cell n12
  clear n0 n1 n2 n3 n4 n5 n6 n7 n8 n9 n10 n11 n12
  refine wp_region_later (by kernel_rfl) (by kernel_rfl) ?_
  repeat (go_big_quiet_step (first | (with_reducible exact later_call (N1.out _)) | (with_reducible exact later_call (N2.out _)) | (with_reducible exact later_call (M1.out _)) | (with_reducible exact later_call (M2.out _)) | (with_reducible exact later_call (P1.out _)) | (with_reducible exact later_call (P2.out _)) | (with_reducible exact later_call (K1.out _)) | (with_reducible exact later_call (K2.out _))))
  refine wpQuiet_nil ?_
  intro _ hw'
  obtain ⟨y, rfl⟩ := hw'
  have hS0 := three (later_held (x := y) HH4.out)
  clear HH4 q0 q1 q2 q3 q4 q5 q6 q7 q8 q9 q10 q11 q12 N1 N2 M1 M2 P1 P2 K1 K2
  have iw5 : Tab (later w4 y) := inferInstance
  generalize later w4 y = w5 at hS0 iw5 ⊢
  have hS0' := three hS0.1.drew
  go_upto_region 7 with (fail)
  go_region_held3 (fun W => Held w [(w3.heap.size, (.cells (opA x) 25)), (w2.heap.size, (.cells (opA x) 25)), (w.heap.size, (.cells (opA o) 25))] W ∧ (W.cell? ⟨w.heap.size, 0, none⟩ = some (.int .i64 o.st) ∧ W.cell? ⟨w.heap.size, 1, none⟩ = some (.int .i64 o.sr) ∧ W.cell? ⟨w.heap.size, 2, none⟩ = some (.int .i64 o.k) ∧ W.cell? ⟨w.heap.size, 3, none⟩ = some (.int .i64 o.pt) ∧ W.cell? ⟨w.heap.size, 4, none⟩ = some (.int .i64 o.pr) ∧ W.cell? ⟨w.heap.size, 5, none⟩ = some (.int .i64 o.it) ∧ W.cell? ⟨w.heap.size, 6, none⟩ = some (.int .i64 o.ir) ∧ W.cell? ⟨w.heap.size, 7, none⟩ = some (.int .i64 o.tt) ∧ W.cell? ⟨w.heap.size, 8, none⟩ = some (.int .i64 o.tr) ∧ W.cell? ⟨w.heap.size, 9, none⟩ = some (.string o.name) ∧ W.cell? ⟨w.heap.size, 10, none⟩ = some (.string o.new) ∧ W.cell? ⟨w.heap.size, 11, none⟩ = some (.int .i64 o.off) ∧ W.cell? ⟨w.heap.size, 12, none⟩ = some (.string o.data)) ∧ (W.cell? ⟨w2.heap.size, 0, none⟩ = some (.int .i64 x.st) ∧ W.cell? ⟨w2.heap.size, 1, none⟩ = some (.int .i64 x.sr) ∧ W.cell? ⟨w2.heap.size, 2, none⟩ = some (.int .i64 x.k) ∧ W.cell? ⟨w2.heap.size, 3, none⟩ = some (.int .i64 x.pt) ∧ W.cell? ⟨w2.heap.size, 4, none⟩ = some (.int .i64 x.pr) ∧ W.cell? ⟨w2.heap.size, 5, none⟩ = some (.int .i64 x.it) ∧ W.cell? ⟨w2.heap.size, 6, none⟩ = some (.int .i64 x.ir) ∧ W.cell? ⟨w2.heap.size, 7, none⟩ = some (.int .i64 x.tt) ∧ W.cell? ⟨w2.heap.size, 8, none⟩ = some (.int .i64 x.tr) ∧ W.cell? ⟨w2.heap.size, 9, none⟩ = some (.string x.name) ∧ W.cell? ⟨w2.heap.size, 10, none⟩ = some (.string x.new) ∧ W.cell? ⟨w2.heap.size, 11, none⟩ = some (.int .i64 x.off) ∧ W.cell? ⟨w2.heap.size, 12, none⟩ = some (.string x.data)) ∧ (W.cell? ⟨w3.heap.size, 0, none⟩ = some (.int .i64 x.st) ∧ W.cell? ⟨w3.heap.size, 1, none⟩ = some (.int .i64 x.sr) ∧ W.cell? ⟨w3.heap.size, 2, none⟩ = some (.int .i64 x.k) ∧ W.cell? ⟨w3.heap.size, 3, none⟩ = some (.int .i64 x.pt) ∧ W.cell? ⟨w3.heap.size, 4, none⟩ = some (.int .i64 x.pr) ∧ W.cell? ⟨w3.heap.size, 5, none⟩ = some (.int .i64 x.it) ∧ W.cell? ⟨w3.heap.size, 6, none⟩ = some (.int .i64 x.ir) ∧ W.cell? ⟨w3.heap.size, 7, none⟩ = some (.int .i64 x.tt) ∧ W.cell? ⟨w3.heap.size, 8, none⟩ = some (.int .i64 x.tr) ∧ W.cell? ⟨w3.heap.size, 9, none⟩ = some (.string x.name) ∧ W.cell? ⟨w3.heap.size, 10, none⟩ = some (.string x.new) ∧ W.cell? ⟨w3.heap.size, 11, none⟩ = some (.int .i64 x.off) ∧ W.cell? ⟨w3.heap.size, 12, none⟩ = some (.string x.data))) (first | assumption | exact three (Held.drew (And.left (by assumption))))
      (first
        | (go_at_call 21; (with_reducible refine (U1.out _).mono ?_); rintro e wU1 ⟨AU1, cU1, rfl, hpU1, hbU1⟩; have iwU1 : Tab wU1 := tab_step hbU1; have hSU1 : Held w [(w3.heap.size, (.cells (opA x) 25)), (w2.heap.size, (.cells (opA x) 25)), (w.heap.size, (.cells (opA o) 25))] wU1 ∧ (wU1.cell? ⟨w.heap.size, 0, none⟩ = some (.int .i64 o.st) ∧ wU1.cell? ⟨w.heap.size, 1, none⟩ = some (.int .i64 o.sr) ∧ wU1.cell? ⟨w.heap.size, 2, none⟩ = some (.int .i64 o.k) ∧ wU1.cell? ⟨w.heap.size, 3, none⟩ = some (.int .i64 o.pt) ∧ wU1.cell? ⟨w.heap.size, 4, none⟩ = some (.int .i64 o.pr) ∧ wU1.cell? ⟨w.heap.size, 5, none⟩ = some (.int .i64 o.it) ∧ wU1.cell? ⟨w.heap.size, 6, none⟩ = some (.int .i64 o.ir) ∧ wU1.cell? ⟨w.heap.size, 7, none⟩ = some (.int .i64 o.tt) ∧ wU1.cell? ⟨w.heap.size, 8, none⟩ = some (.int .i64 o.tr) ∧ wU1.cell? ⟨w.heap.size, 9, none⟩ = some (.string o.name) ∧ wU1.cell? ⟨w.heap.size, 10, none⟩ = some (.string o.new) ∧ wU1.cell? ⟨w.heap.size, 11, none⟩ = some (.int .i64 o.off) ∧ wU1.cell? ⟨w.heap.size, 12, none⟩ = some (.string o.data)) ∧ (wU1.cell? ⟨w2.heap.size, 0, none⟩ = some (.int .i64 x.st) ∧ wU1.cell? ⟨w2.heap.size, 1, none⟩ = some (.int .i64 x.sr) ∧ wU1.cell? ⟨w2.heap.size, 2, none⟩ = some (.int .i64 x.k) ∧ wU1.cell? ⟨w2.heap.size, 3, none⟩ = some (.int .i64 x.pt) ∧ wU1.cell? ⟨w2.heap.size, 4, none⟩ = some (.int .i64 x.pr) ∧ wU1.cell? ⟨w2.heap.size, 5, none⟩ = some (.int .i64 x.it) ∧ wU1.cell? ⟨w2.heap.size, 6, none⟩ = some (.int .i64 x.ir) ∧ wU1.cell? ⟨w2.heap.size, 7, none⟩ = some (.int .i64 x.tt) ∧ wU1.cell? ⟨w2.heap.size, 8, none⟩ = some (.int .i64 x.tr) ∧ wU1.cell? ⟨w2.heap.size, 9, none⟩ = some (.string x.name) ∧ wU1.cell? ⟨w2.heap.size, 10, none⟩ = some (.string x.new) ∧ wU1.cell? ⟨w2.heap.size, 11, none⟩ = some (.int .i64 x.off) ∧ wU1.cell? ⟨w2.heap.size, 12, none⟩ = some (.string x.data)) ∧ (wU1.cell? ⟨w3.heap.size, 0, none⟩ = some (.int .i64 x.st) ∧ wU1.cell? ⟨w3.heap.size, 1, none⟩ = some (.int .i64 x.sr) ∧ wU1.cell? ⟨w3.heap.size, 2, none⟩ = some (.int .i64 x.k) ∧ wU1.cell? ⟨w3.heap.size, 3, none⟩ = some (.int .i64 x.pt) ∧ wU1.cell? ⟨w3.heap.size, 4, none⟩ = some (.int .i64 x.pr) ∧ wU1.cell? ⟨w3.heap.size, 5, none⟩ = some (.int .i64 x.it) ∧ wU1.cell? ⟨w3.heap.size, 6, none⟩ = some (.int .i64 x.ir) ∧ wU1.cell? ⟨w3.heap.size, 7, none⟩ = some (.int .i64 x.tt) ∧ wU1.cell? ⟨w3.heap.size, 8, none⟩ = some (.int .i64 x.tr) ∧ wU1.cell? ⟨w3.heap.size, 9, none⟩ = some (.string x.name) ∧ wU1.cell? ⟨w3.heap.size, 10, none⟩ = some (.string x.new) ∧ wU1.cell? ⟨w3.heap.size, 11, none⟩ = some (.int .i64 x.off) ∧ wU1.cell? ⟨w3.heap.size, 12, none⟩ = some (.string x.data)) := three (Held.step (And.left (by assumption)) hbU1))
        | (go_at_call 22; (with_reducible refine (U2.out _).mono ?_); rintro e wU2 ⟨AU2, cU2, rfl, hpU2, hbU2⟩; have iwU2 : Tab wU2 := tab_step hbU2; have hSU2 : Held w [(w3.heap.size, (.cells (opA x) 25)), (w2.heap.size, (.cells (opA x) 25)), (w.heap.size, (.cells (opA o) 25))] wU2 ∧ (wU2.cell? ⟨w.heap.size, 0, none⟩ = some (.int .i64 o.st) ∧ wU2.cell? ⟨w.heap.size, 1, none⟩ = some (.int .i64 o.sr) ∧ wU2.cell? ⟨w.heap.size, 2, none⟩ = some (.int .i64 o.k) ∧ wU2.cell? ⟨w.heap.size, 3, none⟩ = some (.int .i64 o.pt) ∧ wU2.cell? ⟨w.heap.size, 4, none⟩ = some (.int .i64 o.pr) ∧ wU2.cell? ⟨w.heap.size, 5, none⟩ = some (.int .i64 o.it) ∧ wU2.cell? ⟨w.heap.size, 6, none⟩ = some (.int .i64 o.ir) ∧ wU2.cell? ⟨w.heap.size, 7, none⟩ = some (.int .i64 o.tt) ∧ wU2.cell? ⟨w.heap.size, 8, none⟩ = some (.int .i64 o.tr) ∧ wU2.cell? ⟨w.heap.size, 9, none⟩ = some (.string o.name) ∧ wU2.cell? ⟨w.heap.size, 10, none⟩ = some (.string o.new) ∧ wU2.cell? ⟨w.heap.size, 11, none⟩ = some (.int .i64 o.off) ∧ wU2.cell? ⟨w.heap.size, 12, none⟩ = some (.string o.data)) ∧ (wU2.cell? ⟨w2.heap.size, 0, none⟩ = some (.int .i64 x.st) ∧ wU2.cell? ⟨w2.heap.size, 1, none⟩ = some (.int .i64 x.sr) ∧ wU2.cell? ⟨w2.heap.size, 2, none⟩ = some (.int .i64 x.k) ∧ wU2.cell? ⟨w2.heap.size, 3, none⟩ = some (.int .i64 x.pt) ∧ wU2.cell? ⟨w2.heap.size, 4, none⟩ = some (.int .i64 x.pr) ∧ wU2.cell? ⟨w2.heap.size, 5, none⟩ = some (.int .i64 x.it) ∧ wU2.cell? ⟨w2.heap.size, 6, none⟩ = some (.int .i64 x.ir) ∧ wU2.cell? ⟨w2.heap.size, 7, none⟩ = some (.int .i64 x.tt) ∧ wU2.cell? ⟨w2.heap.size, 8, none⟩ = some (.int .i64 x.tr) ∧ wU2.cell? ⟨w2.heap.size, 9, none⟩ = some (.string x.name) ∧ wU2.cell? ⟨w2.heap.size, 10, none⟩ = some (.string x.new) ∧ wU2.cell? ⟨w2.heap.size, 11, none⟩ = some (.int .i64 x.off) ∧ wU2.cell? ⟨w2.heap.size, 12, none⟩ = some (.string x.data)) ∧ (wU2.cell? ⟨w3.heap.size, 0, none⟩ = some (.int .i64 x.st) ∧ wU2.cell? ⟨w3.heap.size, 1, none⟩ = some (.int .i64 x.sr) ∧ wU2.cell? ⟨w3.heap.size, 2, none⟩ = some (.int .i64 x.k) ∧ wU2.cell? ⟨w3.heap.size, 3, none⟩ = some (.int .i64 x.pt) ∧ wU2.cell? ⟨w3.heap.size, 4, none⟩ = some (.int .i64 x.pr) ∧ wU2.cell? ⟨w3.heap.size, 5, none⟩ = some (.int .i64 x.it) ∧ wU2.cell? ⟨w3.heap.size, 6, none⟩ = some (.int .i64 x.ir) ∧ wU2.cell? ⟨w3.heap.size, 7, none⟩ = some (.int .i64 x.tt) ∧ wU2.cell? ⟨w3.heap.size, 8, none⟩ = some (.int .i64 x.tr) ∧ wU2.cell? ⟨w3.heap.size, 9, none⟩ = some (.string x.name) ∧ wU2.cell? ⟨w3.heap.size, 10, none⟩ = some (.string x.new) ∧ wU2.cell? ⟨w3.heap.size, 11, none⟩ = some (.int .i64 x.off) ∧ wU2.cell? ⟨w3.heap.size, 12, none⟩ = some (.string x.data)) := three (Held.step (And.left (by assumption)) hbU2))
        | (go_at_call 20; (first | (with_reducible refine (refSameT _ _ _ xs _ _ hn _ ((hpU1.below hbU2).more hbU2.size) hpU2).mono ?_) | (with_reducible refine (refSameT _ _ _ xs _ _ hn _ hpU1 ((hpU2.below hbU1).more hbU1.size)).mono ?_)); rintro e wZ ⟨rfl, hbZ⟩; have iwZ : Tab wZ := tab_step hbZ; have hSZ : Held w [(w3.heap.size, (.cells (opA x) 25)), (w2.heap.size, (.cells (opA x) 25)), (w.heap.size, (.cells (opA o) 25))] wZ ∧ (wZ.cell? ⟨w.heap.size, 0, none⟩ = some (.int .i64 o.st) ∧ wZ.cell? ⟨w.heap.size, 1, none⟩ = some (.int .i64 o.sr) ∧ wZ.cell? ⟨w.heap.size, 2, none⟩ = some (.int .i64 o.k) ∧ wZ.cell? ⟨w.heap.size, 3, none⟩ = some (.int .i64 o.pt) ∧ wZ.cell? ⟨w.heap.size, 4, none⟩ = some (.int .i64 o.pr) ∧ wZ.cell? ⟨w.heap.size, 5, none⟩ = some (.int .i64 o.it) ∧ wZ.cell? ⟨w.heap.size, 6, none⟩ = some (.int .i64 o.ir) ∧ wZ.cell? ⟨w.heap.size, 7, none⟩ = some (.int .i64 o.tt) ∧ wZ.cell? ⟨w.heap.size, 8, none⟩ = some (.int .i64 o.tr) ∧ wZ.cell? ⟨w.heap.size, 9, none⟩ = some (.string o.name) ∧ wZ.cell? ⟨w.heap.size, 10, none⟩ = some (.string o.new) ∧ wZ.cell? ⟨w.heap.size, 11, none⟩ = some (.int .i64 o.off) ∧ wZ.cell? ⟨w.heap.size, 12, none⟩ = some (.string o.data)) ∧ (wZ.cell? ⟨w2.heap.size, 0, none⟩ = some (.int .i64 x.st) ∧ wZ.cell? ⟨w2.heap.size, 1, none⟩ = some (.int .i64 x.sr) ∧ wZ.cell? ⟨w2.heap.size, 2, none⟩ = some (.int .i64 x.k) ∧ wZ.cell? ⟨w2.heap.size, 3, none⟩ = some (.int .i64 x.pt) ∧ wZ.cell? ⟨w2.heap.size, 4, none⟩ = some (.int .i64 x.pr) ∧ wZ.cell? ⟨w2.heap.size, 5, none⟩ = some (.int .i64 x.it) ∧ wZ.cell? ⟨w2.heap.size, 6, none⟩ = some (.int .i64 x.ir) ∧ wZ.cell? ⟨w2.heap.size, 7, none⟩ = some (.int .i64 x.tt) ∧ wZ.cell? ⟨w2.heap.size, 8, none⟩ = some (.int .i64 x.tr) ∧ wZ.cell? ⟨w2.heap.size, 9, none⟩ = some (.string x.name) ∧ wZ.cell? ⟨w2.heap.size, 10, none⟩ = some (.string x.new) ∧ wZ.cell? ⟨w2.heap.size, 11, none⟩ = some (.int .i64 x.off) ∧ wZ.cell? ⟨w2.heap.size, 12, none⟩ = some (.string x.data)) ∧ (wZ.cell? ⟨w3.heap.size, 0, none⟩ = some (.int .i64 x.st) ∧ wZ.cell? ⟨w3.heap.size, 1, none⟩ = some (.int .i64 x.sr) ∧ wZ.cell? ⟨w3.heap.size, 2, none⟩ = some (.int .i64 x.k) ∧ wZ.cell? ⟨w3.heap.size, 3, none⟩ = some (.int .i64 x.pt) ∧ wZ.cell? ⟨w3.heap.size, 4, none⟩ = some (.int .i64 x.pr) ∧ wZ.cell? ⟨w3.heap.size, 5, none⟩ = some (.int .i64 x.it) ∧ wZ.cell? ⟨w3.heap.size, 6, none⟩ = some (.int .i64 x.ir) ∧ wZ.cell? ⟨w3.heap.size, 7, none⟩ = some (.int .i64 x.tt) ∧ wZ.cell? ⟨w3.heap.size, 8, none⟩ = some (.int .i64 x.tr) ∧ wZ.cell? ⟨w3.heap.size, 9, none⟩ = some (.string x.name) ∧ wZ.cell? ⟨w3.heap.size, 10, none⟩ = some (.string x.new) ∧ wZ.cell? ⟨w3.heap.size, 11, none⟩ = some (.int .i64 x.off) ∧ wZ.cell? ⟨w3.heap.size, 12, none⟩ = some (.string x.data)) := three (Held.step (And.left (by assumption)) hbZ)))
  all_goals
    go_wp2_with fail
    go_ret
    exact ⟨rfl, hSZ.1.below⟩

theorem walk0 (H : OpHave) (o : Opn) (s : ByteArray) (ok : Ok64 o) (z1 : o.name.size ≤ maxLen) (z2 : o.new.size ≤ maxLen) (z3 : o.data.size ≤ maxLen) (z0 : s.size ≤ maxLen) (w : World) [Tab w] :
    Calls Tryd.prog 3 #[.agg #[.int .i64 o.st, .int .i64 o.sr, .int .i64 o.k, .int .i64 o.pt, .int .i64 o.pr, .int .i64 o.it, .int .i64 o.ir, .int .i64 o.tt, .int .i64 o.tr, .string o.name, .string o.new, .int .i64 o.off, .string o.data], .string s] w fun e w' => e = .returned (.bool true) ∧ Below w.heap.size w w' := by
  have S : Hid (∀ (W : World) [Tab W], Calls Tryd.prog 9 #[] W fun e w' => e = .returned (.bool true) ∧ Below W.heap.size W w') := fun W => H.shown W
  have y0 := z0
  have y1 := z1
  have y2 := z2
  have y3 := z3
  unfold maxLen at y0 y1 y2 y3
  by_cases h0 : 2000 < s.size
  · exact long1 o s w (by omega) h0 S
  by_cases h1 : 2000 < o.name.size
  · exact long2 o s w (by omega) (by omega) h0 h1 S
  by_cases h2 : 2000 < o.new.size
  · exact long3 o s w (by omega) (by omega) (by omega) h0 h1 h2 S
  by_cases h3 : 2000 < o.data.size
  · exact long4 o s w (by omega) (by omega) (by omega) (by omega) h0 h1 h2 h3 S
  obtain ⟨x, rest, e1, he1, hT⟩ : ∃ (x : Opn) (rest : ByteArray) (e1 : Int), (0 ≤ e1 ∧ e1 ≤ 2) ∧ opRes (takeO s.data.toList) = .tuple #[.agg (opA x), .string rest, .int .i64 e1] := by
    cases takeO s.data.toList with
    | none => exact ⟨zO, ⟨#[]⟩, 2, by omega, rfl⟩
    | some q => exact ⟨q.1, ⟨q.2.toArray⟩, 0, by omega, rfl⟩
  have U : ∀ (W : World) [Tab W], ∀ f : Nat, Calls Tryd.prog f #[.agg (opA o)] W (ListPost (usesO o) W) → Calls Tryd.prog f #[.agg (opA o)] W fun e w' => ∃ (A : Option Addr) (c : Nat), e = .returned (.slice A (usesO o).length c) ∧ PairsIn w' w'.heap.size A (usesO o).length (usesO o) ∧ Below W.heap.size W w' := fun W _ f h => by
    refine h.mono ?_
    rintro e' w' ⟨A, c, he, hp, _, _, hB⟩
    exact ⟨A, c, he, hp, hB⟩
  have hl : (usesO o).length ≤ 4000 := by
    unfold usesO
    simp only [List.length_append]
    split <;> split <;> split <;> simp
  refine core o x s ⟨(putO o).toArray⟩ rest e1 (makesO o) he1 (nameB s) (mayO o) (usesO o).length (usesO o) hl w h0 h1 h2 h3 S (fun W _ => ?_) (fun W _ => ?_) (fun W => H.name s W z0) (fun W _ => ?_) (fun W => H.may o W ok z1 z2 z3) (fun W => refOpMay o (by omega) (by omega) (by omega) W)
    (fun W => H.put o W ok (by omega) (by omega) (by omega)) (fun W => refOpPut o ok (by omega) (by omega) (by omega) W) (fun W => H.makes o W ok) (fun W _ => ?_) (fun W => U W _ (H.uses o W ok)) (fun W => U W _ (refUses o W))
  · have h := H.take s W (by omega)
    rw [hT] at h
    exact h
  · have h := refOpTake s (by omega) W
    rw [hT] at h
    exact h
  · refine (refName s (by omega) W).mono ?_
    rintro e w' ⟨rfl, rfl⟩
    exact ⟨rfl, Below.refl _ _⟩
  · refine (refMakes o W).mono ?_
    rintro e w' ⟨rfl, hb⟩
    exact ⟨rfl, hb⟩

end Go.Proofs.YteknegfocnopgaaDoor.lawOpTells
