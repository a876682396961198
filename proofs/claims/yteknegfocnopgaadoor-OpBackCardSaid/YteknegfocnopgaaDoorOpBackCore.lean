/-
  What may be is taken as it was put, whatever stands behind; what may not isn't; what is taken may be, and has the very bytes: for all operations and strings (texts of 2000 bytes at most; longer ones are let go).
-/
import Derived.Test.YteknegfocnopgaaDoorOpHave
import Derived.Test.YteknegfocnopgaaDoorHeld
import Derived.Test.YteknegfocnopgaaDoorOpEq
import Derived.OpenShut
namespace Go.Proofs.YteknegfocnopgaaDoor.lawOpBack
open Go.RowKit OpMath StampMath PackMath

set_option maxRecDepth 100000 in
set_option maxHeartbeats 3200000 in
theorem long1 (o : Opn) (s : ByteArray) (w : World) [Tab w] (z0 : s.size ≤ 9223372036854775807) (h0 : 2000 < s.size) (S : Hid (∀ (W : World) [Tab W], Calls Tryd.prog 9 #[] W fun e w' => e = .returned (.bool true) ∧ Below W.heap.size W w')) :
    Calls Tryd.prog 4 #[.agg #[.int .i64 o.st, .int .i64 o.sr, .int .i64 o.k, .int .i64 o.pt, .int .i64 o.pr, .int .i64 o.it, .int .i64 o.ir, .int .i64 o.tt, .int .i64 o.tr, .string o.name, .string o.new, .int .i64 o.off, .string o.data], .string s] w fun e w' => e = .returned (.bool true) ∧ Below w.heap.size w w' := by
  go_enter Tryd.func4, Tryd.ntmps4
  have hh0 : Held w [(w.heap.size, (.cells (opA o) 25))] (w.alloc (.cells (opA o) 25)) := (Held.refl w).alloc (.cells (opA o) 25) rfl
  go_wp2_with fail
  refine (S.out _).mono ?_
  rintro e w1 ⟨rfl, hb1⟩
  have iw1 : Tab w1 := tab_step hb1
  have B1 : Below (w.alloc (.cells (opA o) 25)).heap.size (w.alloc (.cells (opA o) 25)) w1 := hb1
  have HH1 := Lib.hid (hh0.step B1)
  clear hh0 hb1 B1
  obtain ⟨n0, n1, n2, n3, n4, n5, n6, n7, n8, n9, n10, n11, n12⟩ := op_cells (HH1.out.at 0 rfl)
  go_wp2_with fail
  go_ret
  exact ⟨rfl, HH1.out.below⟩

set_option maxRecDepth 100000 in
set_option maxHeartbeats 3200000 in
theorem long2 (o : Opn) (s : ByteArray) (w : World) [Tab w] (z0 : s.size ≤ 9223372036854775807) (z1 : o.name.size ≤ 9223372036854775807) (h0 : ¬ 2000 < s.size) (h1 : 2000 < o.name.size) (S : Hid (∀ (W : World) [Tab W], Calls Tryd.prog 9 #[] W fun e w' => e = .returned (.bool true) ∧ Below W.heap.size W w')) :
    Calls Tryd.prog 4 #[.agg #[.int .i64 o.st, .int .i64 o.sr, .int .i64 o.k, .int .i64 o.pt, .int .i64 o.pr, .int .i64 o.it, .int .i64 o.ir, .int .i64 o.tt, .int .i64 o.tr, .string o.name, .string o.new, .int .i64 o.off, .string o.data], .string s] w fun e w' => e = .returned (.bool true) ∧ Below w.heap.size w w' := by
  go_enter Tryd.func4, Tryd.ntmps4
  have hh0 : Held w [(w.heap.size, (.cells (opA o) 25))] (w.alloc (.cells (opA o) 25)) := (Held.refl w).alloc (.cells (opA o) 25) rfl
  go_wp2_with fail
  refine (S.out _).mono ?_
  rintro e w1 ⟨rfl, hb1⟩
  have iw1 : Tab w1 := tab_step hb1
  have B1 : Below (w.alloc (.cells (opA o) 25)).heap.size (w.alloc (.cells (opA o) 25)) w1 := hb1
  have HH1 := Lib.hid (hh0.step B1)
  clear hh0 hb1 B1
  obtain ⟨n0, n1, n2, n3, n4, n5, n6, n7, n8, n9, n10, n11, n12⟩ := op_cells (HH1.out.at 0 rfl)
  go_wp2_with fail
  go_ret
  exact ⟨rfl, HH1.out.below⟩

set_option maxRecDepth 100000 in
set_option maxHeartbeats 3200000 in
theorem long3 (o : Opn) (s : ByteArray) (w : World) [Tab w] (z0 : s.size ≤ 9223372036854775807) (z1 : o.name.size ≤ 9223372036854775807) (z2 : o.new.size ≤ 9223372036854775807) (h0 : ¬ 2000 < s.size) (h1 : ¬ 2000 < o.name.size) (h2 : 2000 < o.new.size) (S : Hid (∀ (W : World) [Tab W], Calls Tryd.prog 9 #[] W fun e w' => e = .returned (.bool true) ∧ Below W.heap.size W w')) :
    Calls Tryd.prog 4 #[.agg #[.int .i64 o.st, .int .i64 o.sr, .int .i64 o.k, .int .i64 o.pt, .int .i64 o.pr, .int .i64 o.it, .int .i64 o.ir, .int .i64 o.tt, .int .i64 o.tr, .string o.name, .string o.new, .int .i64 o.off, .string o.data], .string s] w fun e w' => e = .returned (.bool true) ∧ Below w.heap.size w w' := by
  go_enter Tryd.func4, Tryd.ntmps4
  have hh0 : Held w [(w.heap.size, (.cells (opA o) 25))] (w.alloc (.cells (opA o) 25)) := (Held.refl w).alloc (.cells (opA o) 25) rfl
  go_wp2_with fail
  refine (S.out _).mono ?_
  rintro e w1 ⟨rfl, hb1⟩
  have iw1 : Tab w1 := tab_step hb1
  have B1 : Below (w.alloc (.cells (opA o) 25)).heap.size (w.alloc (.cells (opA o) 25)) w1 := hb1
  have HH1 := Lib.hid (hh0.step B1)
  clear hh0 hb1 B1
  obtain ⟨n0, n1, n2, n3, n4, n5, n6, n7, n8, n9, n10, n11, n12⟩ := op_cells (HH1.out.at 0 rfl)
  go_wp2_with fail
  go_ret
  exact ⟨rfl, HH1.out.below⟩

set_option maxRecDepth 100000 in
set_option maxHeartbeats 3200000 in
theorem long4 (o : Opn) (s : ByteArray) (w : World) [Tab w] (z0 : s.size ≤ 9223372036854775807) (z1 : o.name.size ≤ 9223372036854775807) (z2 : o.new.size ≤ 9223372036854775807) (z3 : o.data.size ≤ 9223372036854775807) (h0 : ¬ 2000 < s.size) (h1 : ¬ 2000 < o.name.size) (h2 : ¬ 2000 < o.new.size) (h3 : 2000 < o.data.size) (S : Hid (∀ (W : World) [Tab W], Calls Tryd.prog 9 #[] W fun e w' => e = .returned (.bool true) ∧ Below W.heap.size W w')) :
    Calls Tryd.prog 4 #[.agg #[.int .i64 o.st, .int .i64 o.sr, .int .i64 o.k, .int .i64 o.pt, .int .i64 o.pr, .int .i64 o.it, .int .i64 o.ir, .int .i64 o.tt, .int .i64 o.tr, .string o.name, .string o.new, .int .i64 o.off, .string o.data], .string s] w fun e w' => e = .returned (.bool true) ∧ Below w.heap.size w w' := by
  go_enter Tryd.func4, Tryd.ntmps4
  have hh0 : Held w [(w.heap.size, (.cells (opA o) 25))] (w.alloc (.cells (opA o) 25)) := (Held.refl w).alloc (.cells (opA o) 25) rfl
  go_wp2_with fail
  refine (S.out _).mono ?_
  rintro e w1 ⟨rfl, hb1⟩
  have iw1 : Tab w1 := tab_step hb1
  have B1 : Below (w.alloc (.cells (opA o) 25)).heap.size (w.alloc (.cells (opA o) 25)) w1 := hb1
  have HH1 := Lib.hid (hh0.step B1)
  clear hh0 hb1 B1
  obtain ⟨n0, n1, n2, n3, n4, n5, n6, n7, n8, n9, n10, n11, n12⟩ := op_cells (HH1.out.at 0 rfl)
  go_wp2_with fail
  go_ret
  exact ⟨rfl, HH1.out.below⟩

set_option maxRecDepth 100000 in
set_option maxHeartbeats 6400000 in
theorem core (o x y : Opn) (s p rest left q : ByteArray) (e1 e2 : Int) (m : Bool) (w : World) [Tab w] (hp : p.size + s.size ≤ 20000) (hq : q.size + left.size ≤ 20000)
    (hk : Hid ((m = true ∧ e1 = 0 ∧ o = x ∧ s = rest) ∨ (m = false ∧ e1 = 2 ∧ rest = ⟨#[]⟩) ∨ (m = false ∧ e1 = 0 ∧ x ≠ o)))
    (h2 : Hid ((e2 = 0 ∧ q ++ left = s) ∨ e2 = 2))
    (k0 : ¬ 2000 < s.size) (k1 : ¬ 2000 < o.name.size) (k2 : ¬ 2000 < o.new.size) (k3 : ¬ 2000 < o.data.size) (S : Hid (∀ (W : World) [Tab W], Calls Tryd.prog 9 #[] W fun e w' => e = .returned (.bool true) ∧ Below W.heap.size W w')) (P : Hid (∀ (W : World) [Tab W], Calls Tryd.prog 16 #[.agg #[.int .i64 o.st, .int .i64 o.sr, .int .i64 o.k, .int .i64 o.pt, .int .i64 o.pr, .int .i64 o.it, .int .i64 o.ir, .int .i64 o.tt, .int .i64 o.tr, .string o.name, .string o.new, .int .i64 o.off, .string o.data]] W fun e w' => e = .returned (.string p) ∧ Below W.heap.size W w')) (T : Hid (∀ (W : World) [Tab W], Calls Tryd.prog 10 #[.string (p ++ s)] W fun e w' => e = .returned (.tuple #[.agg #[.int .i64 x.st, .int .i64 x.sr, .int .i64 x.k, .int .i64 x.pt, .int .i64 x.pr, .int .i64 x.it, .int .i64 x.ir, .int .i64 x.tt, .int .i64 x.tr, .string x.name, .string x.new, .int .i64 x.off, .string x.data], .string rest, .int .i64 e1]) ∧ Below W.heap.size W w')) (U : Hid (∀ (W : World) [Tab W], Calls Tryd.prog 10 #[.string s] W fun e w' => e = .returned (.tuple #[.agg #[.int .i64 y.st, .int .i64 y.sr, .int .i64 y.k, .int .i64 y.pt, .int .i64 y.pr, .int .i64 y.it, .int .i64 y.ir, .int .i64 y.tt, .int .i64 y.tr, .string y.name, .string y.new, .int .i64 y.off, .string y.data], .string left, .int .i64 e2]) ∧ Below W.heap.size W w')) (M : Hid (∀ (W : World) [Tab W], Calls Tryd.prog 14 #[.agg #[.int .i64 o.st, .int .i64 o.sr, .int .i64 o.k, .int .i64 o.pt, .int .i64 o.pr, .int .i64 o.it, .int .i64 o.ir, .int .i64 o.tt, .int .i64 o.tr, .string o.name, .string o.new, .int .i64 o.off, .string o.data]] W fun e w' => e = .returned (.bool m) ∧ Below W.heap.size W w')) (MY : Hid (e2 = 0 → ∀ (W : World) [Tab W], Calls Tryd.prog 14 #[.agg #[.int .i64 y.st, .int .i64 y.sr, .int .i64 y.k, .int .i64 y.pt, .int .i64 y.pr, .int .i64 y.it, .int .i64 y.ir, .int .i64 y.tt, .int .i64 y.tr, .string y.name, .string y.new, .int .i64 y.off, .string y.data]] W fun e w' => e = .returned (.bool true) ∧ Below W.heap.size W w')) (PY : Hid (e2 = 0 → ∀ (W : World) [Tab W], Calls Tryd.prog 16 #[.agg #[.int .i64 y.st, .int .i64 y.sr, .int .i64 y.k, .int .i64 y.pt, .int .i64 y.pr, .int .i64 y.it, .int .i64 y.ir, .int .i64 y.tt, .int .i64 y.tr, .string y.name, .string y.new, .int .i64 y.off, .string y.data]] W fun e w' => e = .returned (.string q) ∧ Below W.heap.size W w')) :
    Calls Tryd.prog 4 #[.agg #[.int .i64 o.st, .int .i64 o.sr, .int .i64 o.k, .int .i64 o.pt, .int .i64 o.pr, .int .i64 o.it, .int .i64 o.ir, .int .i64 o.tt, .int .i64 o.tr, .string o.name, .string o.new, .int .i64 o.off, .string o.data], .string s] w fun e w' => e = .returned (.bool true) ∧ Below w.heap.size w w' := by
  have hs1 : ∀ W : World, (Op.stringOp .add p s).run Tryd.prog W = .ok (.string (p ++ s)) W := fun W => run_string_add_sum W _ _ (by omega)
  go_enter Tryd.func4, Tryd.ntmps4
  have hh0 : Held w [(w.heap.size, (.cells (opA o) 25))] (w.alloc (.cells (opA o) 25)) := (Held.refl w).alloc (.cells (opA o) 25) rfl
  go_wp2_with fail
  refine (S.out _).mono ?_
  rintro e w1 ⟨rfl, hb1⟩
  have iw1 : Tab w1 := tab_step hb1
  have B1 : Below (w.alloc (.cells (opA o) 25)).heap.size (w.alloc (.cells (opA o) 25)) w1 := hb1
  have HH1 := Lib.hid (hh0.step B1)
  clear hh0 hb1 B1
  obtain ⟨n0, n1, n2, n3, n4, n5, n6, n7, n8, n9, n10, n11, n12⟩ := op_cells (HH1.out.at 0 rfl)
  go_wp2_with fail
  refine (P.out _).mono ?_
  rintro e w2 ⟨rfl, hb⟩
  have iw2 : Tab w2 := tab_step hb
  have HH2 := Lib.hid (HH1.out.step hb)
  clear hb HH1 hp n0 n1 n2 n3 n4 n5 n6 n7 n8 n9 n10 n11 n12
  go_wp2_with fail
  refine (T.out _).mono ?_
  rintro e w3 ⟨rfl, hb⟩
  have iw3 : Tab w3 := tab_step hb
  have HH3 := Lib.hid (HH2.out.step hb)
  clear hb HH2 hs1
  have hh3 : Held w [(w3.heap.size, (.cells (opA x) 25)), (w.heap.size, (.cells (opA o) 25))] (w3.alloc (.cells (opA x) 25)) := HH3.out.alloc (.cells (opA x) 25) rfl
  go_wp2_with fail
  refine (U.out _).mono ?_
  rintro e w4 ⟨rfl, hb⟩
  have iw4 : Tab w4 := tab_step hb
  have b4 : Below (w3.alloc (.cells (opA x) 25)).heap.size (w3.alloc (.cells (opA x) 25)) w4 := hb
  have HH4 := Lib.hid (hh3.step b4)
  clear hb hh3 HH3 b4
  have hh4 : Held w [(w4.heap.size, (.cells (opA y) 25)), (w3.heap.size, (.cells (opA x) 25)), (w.heap.size, (.cells (opA o) 25))] (w4.alloc (.cells (opA y) 25)) := HH4.out.alloc (.cells (opA y) 25) rfl
  obtain ⟨n0, n1, n2, n3, n4, n5, n6, n7, n8, n9, n10, n11, n12⟩ := op_cells (HH4.out.at 1 rfl)
  have z4 : w.heap.size < w4.heap.size := heap_lt (HH4.out.at 1 rfl)
  go_wp2_with fail
  refine (M.out _).mono ?_
  rintro e w5 ⟨rfl, hb⟩
  have iw5 : Tab w5 := tab_step hb
  have b5 : Below (w4.alloc (.cells (opA y) 25)).heap.size (w4.alloc (.cells (opA y) 25)) w5 := hb
  have HH5 := Lib.hid (hh4.step b5)
  clear hb hh4 HH4 b5 z4 n0 n1 n2 n3 n4 n5 n6 n7 n8 n9 n10 n11 n12
  rcases hk.out with ⟨rfl, rfl, rfl, rfl⟩ | ⟨rfl, rfl, rfl⟩ | ⟨rfl, rfl, hne⟩
  · clear hk
    obtain ⟨n0, n1, n2, n3, n4, n5, n6, n7, n8, n9, n10, n11, n12⟩ := op_cells (HH5.out.at 2 rfl)
    obtain ⟨x0, x1, x2, x3, x4, x5, x6, x7, x8, x9, x10, x11, x12⟩ := op_cells (HH5.out.at 1 rfl)
    obtain ⟨y0, y1, y2, y3, y4, y5, y6, y7, y8, y9, y10, y11, y12⟩ := op_cells (HH5.out.at 0 rfl)
    rcases h2.out with ⟨rfl, hE⟩ | rfl
    · clear h2
      have hs2 : ∀ W : World, (Op.stringOp .add q left).run Tryd.prog W = .ok (.string s) W := fun W => by rw [run_string_add_sum W _ _ (by omega), hE]
      clear hE
      go_wp2_with fail
      refine (MY.out trivial _).mono ?_
      rintro e w6 ⟨rfl, hb⟩
      have iw6 : Tab w6 := tab_step hb
      have HH6 := Lib.hid (HH5.out.step hb)
      clear hb HH5 n0 n1 n2 n3 n4 n5 n6 n7 n8 n9 n10 n11 n12 x0 x1 x2 x3 x4 x5 x6 x7 x8 x9 x10 x11 x12 y0 y1 y2 y3 y4 y5 y6 y7 y8 y9 y10 y11 y12
      obtain ⟨y0, y1, y2, y3, y4, y5, y6, y7, y8, y9, y10, y11, y12⟩ := op_cells (HH6.out.at 0 rfl)
      go_wp2_with fail
      refine (PY.out trivial _).mono ?_
      rintro e w7 ⟨rfl, hb⟩
      have iw7 : Tab w7 := tab_step hb
      have HH7 := Lib.hid (HH6.out.step hb)
      clear hb HH6 y0 y1 y2 y3 y4 y5 y6 y7 y8 y9 y10 y11 y12
      go_wp2_with fail
      go_ret
      exact ⟨rfl, HH7.out.below⟩
    · clear h2
      go_wp2_with fail
      go_ret
      exact ⟨rfl, HH5.out.below⟩
  · clear hk
    obtain ⟨n0, n1, n2, n3, n4, n5, n6, n7, n8, n9, n10, n11, n12⟩ := op_cells (HH5.out.at 2 rfl)
    obtain ⟨x0, x1, x2, x3, x4, x5, x6, x7, x8, x9, x10, x11, x12⟩ := op_cells (HH5.out.at 1 rfl)
    obtain ⟨y0, y1, y2, y3, y4, y5, y6, y7, y8, y9, y10, y11, y12⟩ := op_cells (HH5.out.at 0 rfl)
    rcases h2.out with ⟨rfl, hE⟩ | rfl
    · clear h2
      have hs2 : ∀ W : World, (Op.stringOp .add q left).run Tryd.prog W = .ok (.string s) W := fun W => by rw [run_string_add_sum W _ _ (by omega), hE]
      clear hE
      go_wp2_with fail
      refine (MY.out trivial _).mono ?_
      rintro e w6 ⟨rfl, hb⟩
      have iw6 : Tab w6 := tab_step hb
      have HH6 := Lib.hid (HH5.out.step hb)
      clear hb HH5 n0 n1 n2 n3 n4 n5 n6 n7 n8 n9 n10 n11 n12 x0 x1 x2 x3 x4 x5 x6 x7 x8 x9 x10 x11 x12 y0 y1 y2 y3 y4 y5 y6 y7 y8 y9 y10 y11 y12
      obtain ⟨y0, y1, y2, y3, y4, y5, y6, y7, y8, y9, y10, y11, y12⟩ := op_cells (HH6.out.at 0 rfl)
      go_wp2_with fail
      refine (PY.out trivial _).mono ?_
      rintro e w7 ⟨rfl, hb⟩
      have iw7 : Tab w7 := tab_step hb
      have HH7 := Lib.hid (HH6.out.step hb)
      clear hb HH6 y0 y1 y2 y3 y4 y5 y6 y7 y8 y9 y10 y11 y12
      go_wp2_with fail
      go_ret
      exact ⟨rfl, HH7.out.below⟩
    · clear h2
      go_wp2_with fail
      go_ret
      exact ⟨rfl, HH5.out.below⟩
  · clear hk
    have hE2 : ∀ W : World, (Op.equalIn 10000 25 (.agg #[.int .i64 x.st, .int .i64 x.sr, .int .i64 x.k, .int .i64 x.pt, .int .i64 x.pr, .int .i64 x.it, .int .i64 x.ir, .int .i64 x.tt, .int .i64 x.tr, .string x.name, .string x.new, .int .i64 x.off, .string x.data]) (.agg #[.int .i64 o.st, .int .i64 o.sr, .int .i64 o.k, .int .i64 o.pt, .int .i64 o.pr, .int .i64 o.it, .int .i64 o.ir, .int .i64 o.tt, .int .i64 o.tr, .string o.name, .string o.new, .int .i64 o.off, .string o.data])).run Tryd.prog W = .ok false W := fun W => by rw [← show decide (x = o) = false from decide_eq_false hne]; exact run_eqO x o W
    clear hne
    obtain ⟨n0, n1, n2, n3, n4, n5, n6, n7, n8, n9, n10, n11, n12⟩ := op_cells (HH5.out.at 2 rfl)
    obtain ⟨x0, x1, x2, x3, x4, x5, x6, x7, x8, x9, x10, x11, x12⟩ := op_cells (HH5.out.at 1 rfl)
    obtain ⟨y0, y1, y2, y3, y4, y5, y6, y7, y8, y9, y10, y11, y12⟩ := op_cells (HH5.out.at 0 rfl)
    rcases h2.out with ⟨rfl, hE⟩ | rfl
    · clear h2
      have hs2 : ∀ W : World, (Op.stringOp .add q left).run Tryd.prog W = .ok (.string s) W := fun W => by rw [run_string_add_sum W _ _ (by omega), hE]
      clear hE
      go_wp2_with fail
      refine (MY.out trivial _).mono ?_
      rintro e w6 ⟨rfl, hb⟩
      have iw6 : Tab w6 := tab_step hb
      have HH6 := Lib.hid (HH5.out.step hb)
      clear hb HH5 n0 n1 n2 n3 n4 n5 n6 n7 n8 n9 n10 n11 n12 x0 x1 x2 x3 x4 x5 x6 x7 x8 x9 x10 x11 x12 y0 y1 y2 y3 y4 y5 y6 y7 y8 y9 y10 y11 y12
      obtain ⟨y0, y1, y2, y3, y4, y5, y6, y7, y8, y9, y10, y11, y12⟩ := op_cells (HH6.out.at 0 rfl)
      go_wp2_with fail
      refine (PY.out trivial _).mono ?_
      rintro e w7 ⟨rfl, hb⟩
      have iw7 : Tab w7 := tab_step hb
      have HH7 := Lib.hid (HH6.out.step hb)
      clear hb HH6 y0 y1 y2 y3 y4 y5 y6 y7 y8 y9 y10 y11 y12
      go_wp2_with fail
      go_ret
      exact ⟨rfl, HH7.out.below⟩
    · clear h2
      go_wp2_with fail
      go_ret
      exact ⟨rfl, HH5.out.below⟩

theorem putO_len (o : Opn) : (putO o).length ≤ o.name.size + o.new.size + o.data.size + 200 := by
  have a := (numL_length (zig o.k)).2
  have b := (numL_length (zig o.off)).2
  have c1 := putL_len o.st o.sr
  have c2 := putL_len o.pt o.pr
  have c3 := putL_len o.it o.ir
  have c4 := putL_len o.tt o.tr
  have d1 := textB_len o.name
  have d2 := textB_len o.new
  have d3 := textB_len o.data
  unfold putO
  simp only [List.length_append]
  omega

theorem walk0 (H : OpHave) (o : Opn) (s : ByteArray) (ok : Ok64 o) (z1 : o.name.size ≤ maxLen) (z2 : o.new.size ≤ maxLen) (z3 : o.data.size ≤ maxLen) (z0 : s.size ≤ maxLen) (w : World) [Tab w] :
    Calls Tryd.prog 4 #[.agg #[.int .i64 o.st, .int .i64 o.sr, .int .i64 o.k, .int .i64 o.pt, .int .i64 o.pr, .int .i64 o.it, .int .i64 o.ir, .int .i64 o.tt, .int .i64 o.tr, .string o.name, .string o.new, .int .i64 o.off, .string o.data], .string s] w fun e w' => e = .returned (.bool true) ∧ Below w.heap.size w w' := by
  have S : Hid (∀ (W : World) [Tab W], Calls Tryd.prog 9 #[] W fun e w' => e = .returned (.bool true) ∧ Below W.heap.size W w') := fun W => H.shown W
  have M := fun (W : World) [Tab W] => H.may o W ok z1 z2 z3
  have y0 := z0
  have y1 := z1
  have y2 := z2
  have y3 := z3
  unfold maxLen at y0 y1 y2 y3
  by_cases h0 : 2000 < s.size
  · exact long1 o s w (by omega) h0 S
  by_cases h1 : 2000 < o.name.size
  · exact long2 o s w (by omega) (by omega) h0 h1 S
  by_cases h2 : 2000 < o.new.size
  · exact long3 o s w (by omega) (by omega) (by omega) h0 h1 h2 S
  by_cases h3 : 2000 < o.data.size
  · exact long4 o s w (by omega) (by omega) (by omega) (by omega) h0 h1 h2 h3 S
  have hl := putO_len o
  have hs := Lib.mk_data s
  have hsz : s.data.toList.length = s.size := by simp
  have P := fun (W : World) [Tab W] => H.put o W ok (by omega) (by omega) (by omega)
  have T := fun (W : World) [Tab W] => H.take ((⟨(putO o).toArray⟩ : ByteArray) ++ s) W (by rw [ByteArray.size_append]; show (putO o).length + s.size ≤ 20000; omega)
  rw [show ((⟨(putO o).toArray⟩ : ByteArray) ++ s).data.toList = putO o ++ s.data.toList by rw [mk_append_data]] at T
  have U := fun (W : World) [Tab W] => H.take s W (by omega)
  obtain ⟨x, rest, e1, hT, hk⟩ : ∃ (x : Opn) (rest : ByteArray) (e1 : Int), opRes (takeO (putO o ++ s.data.toList)) = .tuple #[.agg (opA x), .string rest, .int .i64 e1] ∧
      ((mayO o = true ∧ e1 = 0 ∧ o = x ∧ s = rest) ∨ (mayO o = false ∧ e1 = 2 ∧ rest = ⟨#[]⟩) ∨ (mayO o = false ∧ e1 = 0 ∧ x ≠ o)) := by
    cases hm : mayO o with
    | true =>
      rw [takeO_putO o ok hm]
      exact ⟨o, ⟨s.data.toList.toArray⟩, 0, rfl, Or.inl ⟨rfl, rfl, rfl, hs.symm⟩⟩
    | false =>
      cases ht : takeO (putO o ++ s.data.toList) with
      | none => exact ⟨zO, ⟨#[]⟩, 2, rfl, Or.inr (Or.inl ⟨rfl, rfl, rfl⟩)⟩
      | some q =>
        obtain ⟨x, u⟩ := q
        refine ⟨x, ⟨u.toArray⟩, 0, rfl, Or.inr (Or.inr ⟨rfl, rfl, fun e => ?_⟩)⟩
        have := (takeO_very ht).2.1
        rw [e, hm] at this
        cases this
  rw [hT] at T
  obtain ⟨y, left, e2, q, hU, hq, h4, hY⟩ : ∃ (y : Opn) (left : ByteArray) (e2 : Int) (q : ByteArray), opRes (takeO s.data.toList) = .tuple #[.agg (opA y), .string left, .int .i64 e2] ∧ q.size + left.size ≤ 20000 ∧
      ((e2 = 0 ∧ q ++ left = s) ∨ e2 = 2) ∧ (e2 = 0 → mayO y = true ∧ Ok64 y ∧ q = ⟨(putO y).toArray⟩) := by
    cases ht : takeO s.data.toList with
    | none => exact ⟨zO, ⟨#[]⟩, 2, ⟨#[]⟩, rfl, by decide, Or.inr rfl, fun h => by cases h⟩
    | some q =>
      obtain ⟨y, v⟩ := q
      obtain ⟨v1, v2, v3⟩ := takeO_very ht
      have e := congrArg List.length v1
      rw [List.length_append] at e
      refine ⟨y, ⟨v.toArray⟩, 0, ⟨(putO y).toArray⟩, rfl, by show (putO y).length + v.length ≤ 20000; omega, Or.inl ⟨rfl, ?_⟩, fun _ => ⟨v2, v3, rfl⟩⟩
      rw [mk_append_data]
      show (⟨(putO y ++ v).toArray⟩ : ByteArray) = s
      rw [v1, hs]
  rw [hU] at U
  refine core o x y s ⟨(putO o).toArray⟩ rest left q e1 e2 (mayO o) w (by show (putO o).length + s.size ≤ 20000; omega) hq hk h4 h0 h1 h2 h3 S P T U M (fun h W _ => ?_) (fun h W _ => ?_)
  · obtain ⟨v2, v3, _⟩ := hY h
    obtain ⟨s1, s2, s3⟩ := may_sizes v2
    have h := H.may y W v3 (by unfold maxLen; omega) (by unfold maxLen; omega) (by unfold maxLen; omega)
    rw [v2] at h
    exact h
  · obtain ⟨v2, v3, rfl⟩ := hY h
    obtain ⟨s1, s2, s3⟩ := may_sizes v2
    exact H.put y W v3 (by omega) (by omega) (by omega)


end Go.Proofs.YteknegfocnopgaaDoor.lawOpBack
