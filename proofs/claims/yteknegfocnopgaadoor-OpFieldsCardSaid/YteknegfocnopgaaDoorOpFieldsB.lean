/-
  What may be has no field that its kind hasn't: with one of the others turned it may not be: for all operations and stamps.
-/
import Derived.Test.YteknegfocnopgaaDoorOpHave
import Derived.Test.YteknegfocnopgaaDoorHeld
import Derived.Deep.DeepCutAuto
import Derived.OpenShut
namespace Go.Proofs.YteknegfocnopgaaDoor.lawOpFields
open Go.RowKit OpMath StampMath PackMath

set_option maxRecDepth 100000 in
set_option maxHeartbeats 6400000 in
theorem coreB (o : Opn) (t r : Int) (w : World) [Tab w] (b0 : 0 ≤ o.off) (b1 : o.off ≤ 4095) (hd : o.data.size ≤ 64) (hn : o.new.size ≤ 8) (hk : Hid (((o.k == 7) = false ∧ decide (4 ≤ o.k) = false ∧ (o.k == 3) = false ∧ (o.k == 8) = false) ∨ ((o.k == 7) = false ∧ decide (4 ≤ o.k) = false ∧ (o.k == 3) = true) ∨ ((o.k == 7) = false ∧ decide (4 ≤ o.k) = true ∧ (o.k == 3) = false ∧ (o.k == 8) = false) ∨ ((o.k == 7) = true ∧ decide (4 ≤ o.k) = true ∧ (o.k == 3) = false ∧ (o.k == 8) = false) ∨ ((o.k == 7) = false ∧ decide (4 ≤ o.k) = true ∧ (o.k == 3) = false ∧ (o.k == 8) = true))) (z : (t == 0) = true) (z2 : (r == 0) = false) (S : Hid (∀ (W : World) [Tab W], Calls Tryd.prog 9 #[] W fun e w' => e = .returned (.bool true) ∧ Below W.heap.size W w')) (M : Hid (∀ (W : World) [Tab W], Calls Tryd.prog 14 #[.agg #[.int .i64 o.st, .int .i64 o.sr, .int .i64 o.k, .int .i64 o.pt, .int .i64 o.pr, .int .i64 o.it, .int .i64 o.ir, .int .i64 o.tt, .int .i64 o.tr, .string o.name, .string o.new, .int .i64 o.off, .string o.data]] W fun e w' => e = .returned (.bool true) ∧ Below W.heap.size W w')) (Ma : Hid ((o.k == 7) = false → ∀ (W : World) [Tab W], Calls Tryd.prog 14 #[.agg #[.int .i64 o.st, .int .i64 o.sr, .int .i64 o.k, .int .i64 o.pt, .int .i64 o.pr, .int .i64 o.it, .int .i64 o.ir, .int .i64 t, .int .i64 r, .string o.name, .string o.new, .int .i64 o.off, .string o.data]] W fun e w' => e = .returned (.bool false) ∧ Below W.heap.size W w')) (Mb : Hid (decide (4 ≤ o.k) = false → ∀ (W : World) [Tab W], Calls Tryd.prog 14 #[.agg #[.int .i64 o.st, .int .i64 o.sr, .int .i64 o.k, .int .i64 o.pt, .int .i64 o.pr, .int .i64 t, .int .i64 r, .int .i64 o.tt, .int .i64 o.tr, .string o.name, .string o.new, .int .i64 o.off, .string o.data]] W fun e w' => e = .returned (.bool false) ∧ Below W.heap.size W w')) (Mc : Hid ((o.k == 3) = false ∧ (o.k == 8) = false → ∀ (W : World) [Tab W], Calls Tryd.prog 14 #[.agg #[.int .i64 o.st, .int .i64 o.sr, .int .i64 o.k, .int .i64 o.pt, .int .i64 o.pr, .int .i64 o.it, .int .i64 o.ir, .int .i64 o.tt, .int .i64 o.tr, .string o.name, .string o.new, .int .i64 o.off, .string (o.data ++ ⟨#[120]⟩)]] W fun e w' => e = .returned (.bool false) ∧ Below W.heap.size W w')) (Md : Hid (True → ∀ (W : World) [Tab W], Calls Tryd.prog 14 #[.agg #[.int .i64 o.st, .int .i64 o.sr, .int .i64 o.k, .int .i64 o.pt, .int .i64 o.pr, .int .i64 o.it, .int .i64 o.ir, .int .i64 o.tt, .int .i64 o.tr, .string o.name, .string o.new, .int .i64 (o.off + 1 + 4095), .string o.data]] W fun e w' => e = .returned (.bool false) ∧ Below W.heap.size W w')) (Me : Hid (True → ∀ (W : World) [Tab W], Calls Tryd.prog 14 #[.agg #[.int .i64 o.st, .int .i64 o.sr, .int .i64 o.k, .int .i64 o.pt, .int .i64 o.pr, .int .i64 o.it, .int .i64 o.ir, .int .i64 o.tt, .int .i64 o.tr, .string o.name, .string (o.new ++ ⟨#[47]⟩), .int .i64 o.off, .string o.data]] W fun e w' => e = .returned (.bool false) ∧ Below W.heap.size W w')) (Mf : Hid (True → ∀ (W : World) [Tab W], Calls Tryd.prog 14 #[.agg #[.int .i64 0, .int .i64 0, .int .i64 o.k, .int .i64 o.pt, .int .i64 o.pr, .int .i64 o.it, .int .i64 o.ir, .int .i64 o.tt, .int .i64 o.tr, .string o.name, .string o.new, .int .i64 o.off, .string o.data]] W fun e w' => e = .returned (.bool false) ∧ Below W.heap.size W w')) :
    Calls Tryd.prog 5 #[.agg #[.int .i64 o.st, .int .i64 o.sr, .int .i64 o.k, .int .i64 o.pt, .int .i64 o.pr, .int .i64 o.it, .int .i64 o.ir, .int .i64 o.tt, .int .i64 o.tr, .string o.name, .string o.new, .int .i64 o.off, .string o.data], .agg #[.int .i64 t, .int .i64 r]] w fun e w' => e = .returned (.bool true) ∧ Below w.heap.size w w' := by
  have hs1 : ∀ W : World, (Op.stringOp .add o.data ⟨#[120]⟩).run Tryd.prog W = .ok (.string (o.data ++ ⟨#[120]⟩)) W := fun W => run_string_add_sum W _ _ (by show o.data.size + 1 ≤ _; omega)
  have hs2 : ∀ W : World, (Op.stringOp .add o.new ⟨#[47]⟩).run Tryd.prog W = .ok (.string (o.new ++ ⟨#[47]⟩)) W := fun W => run_string_add_sum W _ _ (by show o.new.size + 1 ≤ _; omega)
  go_enter Tryd.func5, Tryd.ntmps5
  have hh0 : Held w [(w.heap.size + 1, (.cells #[.int .i64 t, .int .i64 r] 23)), (w.heap.size, (.cells (opA o) 25))] ((w.alloc (.cells (opA o) 25)).alloc (.cells #[.int .i64 t, .int .i64 r] 23)) := ((Held.refl w).alloc (.cells (opA o) 25) rfl).alloc (.cells #[.int .i64 t, .int .i64 r] 23) (by simp)
  go_wp2_with fail
  refine (S.out _).mono ?_
  rintro e w1 ⟨rfl, hb1⟩
  have iw1 : Tab w1 := tab_step hb1
  have B1 : Below ((w.alloc (.cells (opA o) 25)).alloc (.cells #[.int .i64 t, .int .i64 r] 23)).heap.size ((w.alloc (.cells (opA o) 25)).alloc (.cells #[.int .i64 t, .int .i64 r] 23)) w1 := hb1
  have HH1 := Lib.hid (hh0.step B1)
  clear hh0 hb1 B1
  obtain ⟨n0, n1, n2, n3, n4, n5, n6, n7, n8, n9, n10, n11, n12⟩ := op_cells (HH1.out.at 1 rfl)
  go_wp2_with fail
  refine (M.out _).mono ?_
  rintro e w2 ⟨rfl, hb⟩
  have iw2 : Tab w2 := tab_step hb
  have HH2 := Lib.hid (HH1.out.step hb)
  clear hb HH1 n0 n1 n2 n3 n4 n5 n6 n7 n8 n9 n10 n11 n12
  have s0 := cell_of_row _ _ 0 _ _ (0, 0) (HH2.out.at 0 rfl)
  have s1 := cell_of_row _ _ 1 _ _ (0, 0) (HH2.out.at 0 rfl)
  obtain ⟨n0, n1, n2, n3, n4, n5, n6, n7, n8, n9, n10, n11, n12⟩ := op_cells (HH2.out.at 1 rfl)
  have hz1 : w.heap.size + 1 < w2.heap.size := heap_lt (HH2.out.at 0 rfl)
  have hz0 : w.heap.size < w2.heap.size := by omega
  have y1 : w.heap.size < w2.heap.size + 1 := by omega
  have x1 : w.heap.size + 1 < w2.heap.size + 1 := by omega
  have y2 : w.heap.size < w2.heap.size + 1 + 1 := by omega
  have x2 : w.heap.size + 1 < w2.heap.size + 1 + 1 := by omega
  have y3 : w.heap.size < w2.heap.size + 1 + 1 + 1 := by omega
  have x3 : w.heap.size + 1 < w2.heap.size + 1 + 1 + 1 := by omega
  have y4 : w.heap.size < w2.heap.size + 1 + 1 + 1 + 1 := by omega
  have x4 : w.heap.size + 1 < w2.heap.size + 1 + 1 + 1 + 1 := by omega
  have y5 : w.heap.size < w2.heap.size + 1 + 1 + 1 + 1 + 1 := by omega
  have x5 : w.heap.size + 1 < w2.heap.size + 1 + 1 + 1 + 1 + 1 := by omega
  have y6 : w.heap.size < w2.heap.size + 1 + 1 + 1 + 1 + 1 + 1 := by omega
  have x6 : w.heap.size + 1 < w2.heap.size + 1 + 1 + 1 + 1 + 1 + 1 := by omega
  go_upto_region 16 with (fail)
  clear n0 n1 n2 n3 n4 n5 n6 n7 n8 n9 n10 n11 n12 s0 s1 y1 y2 y3 y4 y5 y6 x1 x2 x3 x4 x5 x6 hs1 hs2
  have hh3 : Held w [(w2.heap.size + 1 + 1 + 1 + 1 + 1, (.cells (opA { o with st := 0, sr := 0 }) 25)), (w2.heap.size + 1 + 1 + 1 + 1, (.cells (opA { o with new := (o.new ++ ⟨#[47]⟩) }) 25)), (w2.heap.size + 1 + 1 + 1, (.cells (opA { o with off := (o.off + 1 + 4095) }) 25)), (w2.heap.size + 1 + 1, (.cells (opA { o with data := (o.data ++ ⟨#[120]⟩) }) 25)), (w2.heap.size + 1, (.cells (opA { o with it := t, ir := r }) 25)), (w2.heap.size, (.cells (opA { o with tt := t, tr := r }) 25)), (w.heap.size + 1, (.cells #[.int .i64 t, .int .i64 r] 23)), (w.heap.size, (.cells (opA o) 25))] ((((((w2.alloc (.cells #[.int .i64 o.st, .int .i64 o.sr, .int .i64 o.k, .int .i64 o.pt, .int .i64 o.pr, .int .i64 o.it, .int .i64 o.ir, .int .i64 t, .int .i64 r, .string o.name, .string o.new, .int .i64 o.off, .string o.data] 25)).alloc (.cells #[.int .i64 o.st, .int .i64 o.sr, .int .i64 o.k, .int .i64 o.pt, .int .i64 o.pr, .int .i64 t, .int .i64 r, .int .i64 o.tt, .int .i64 o.tr, .string o.name, .string o.new, .int .i64 o.off, .string o.data] 25)).alloc (.cells #[.int .i64 o.st, .int .i64 o.sr, .int .i64 o.k, .int .i64 o.pt, .int .i64 o.pr, .int .i64 o.it, .int .i64 o.ir, .int .i64 o.tt, .int .i64 o.tr, .string o.name, .string o.new, .int .i64 o.off, .string (o.data ++ ⟨#[120]⟩)] 25)).alloc (.cells #[.int .i64 o.st, .int .i64 o.sr, .int .i64 o.k, .int .i64 o.pt, .int .i64 o.pr, .int .i64 o.it, .int .i64 o.ir, .int .i64 o.tt, .int .i64 o.tr, .string o.name, .string o.new, .int .i64 (o.off + 1 + 4095), .string o.data] 25)).alloc (.cells #[.int .i64 o.st, .int .i64 o.sr, .int .i64 o.k, .int .i64 o.pt, .int .i64 o.pr, .int .i64 o.it, .int .i64 o.ir, .int .i64 o.tt, .int .i64 o.tr, .string o.name, .string (o.new ++ ⟨#[47]⟩), .int .i64 o.off, .string o.data] 25)).alloc (.cells #[.int .i64 0, .int .i64 0, .int .i64 o.k, .int .i64 o.pt, .int .i64 o.pr, .int .i64 o.it, .int .i64 o.ir, .int .i64 o.tt, .int .i64 o.tr, .string o.name, .string o.new, .int .i64 o.off, .string o.data] 25)) := ((((((HH2.out.alloc (.cells (opA { o with tt := t, tr := r }) 25) (by simp)).alloc (.cells (opA { o with it := t, ir := r }) 25) (by simp)).alloc (.cells (opA { o with data := (o.data ++ ⟨#[120]⟩) }) 25) (by simp)).alloc (.cells (opA { o with off := (o.off + 1 + 4095) }) 25) (by simp)).alloc (.cells (opA { o with new := (o.new ++ ⟨#[47]⟩) }) 25) (by simp)).alloc (.cells (opA { o with st := 0, sr := 0 }) 25) (by simp))
  have iw3 : Tab (((((((w2.alloc (.cells #[.int .i64 o.st, .int .i64 o.sr, .int .i64 o.k, .int .i64 o.pt, .int .i64 o.pr, .int .i64 o.it, .int .i64 o.ir, .int .i64 t, .int .i64 r, .string o.name, .string o.new, .int .i64 o.off, .string o.data] 25)).alloc (.cells #[.int .i64 o.st, .int .i64 o.sr, .int .i64 o.k, .int .i64 o.pt, .int .i64 o.pr, .int .i64 t, .int .i64 r, .int .i64 o.tt, .int .i64 o.tr, .string o.name, .string o.new, .int .i64 o.off, .string o.data] 25)).alloc (.cells #[.int .i64 o.st, .int .i64 o.sr, .int .i64 o.k, .int .i64 o.pt, .int .i64 o.pr, .int .i64 o.it, .int .i64 o.ir, .int .i64 o.tt, .int .i64 o.tr, .string o.name, .string o.new, .int .i64 o.off, .string (o.data ++ ⟨#[120]⟩)] 25)).alloc (.cells #[.int .i64 o.st, .int .i64 o.sr, .int .i64 o.k, .int .i64 o.pt, .int .i64 o.pr, .int .i64 o.it, .int .i64 o.ir, .int .i64 o.tt, .int .i64 o.tr, .string o.name, .string o.new, .int .i64 (o.off + 1 + 4095), .string o.data] 25)).alloc (.cells #[.int .i64 o.st, .int .i64 o.sr, .int .i64 o.k, .int .i64 o.pt, .int .i64 o.pr, .int .i64 o.it, .int .i64 o.ir, .int .i64 o.tt, .int .i64 o.tr, .string o.name, .string (o.new ++ ⟨#[47]⟩), .int .i64 o.off, .string o.data] 25)).alloc (.cells #[.int .i64 0, .int .i64 0, .int .i64 o.k, .int .i64 o.pt, .int .i64 o.pr, .int .i64 o.it, .int .i64 o.ir, .int .i64 o.tt, .int .i64 o.tr, .string o.name, .string o.new, .int .i64 o.off, .string o.data] 25))) := inferInstance
  generalize ((((((w2.alloc (.cells #[.int .i64 o.st, .int .i64 o.sr, .int .i64 o.k, .int .i64 o.pt, .int .i64 o.pr, .int .i64 o.it, .int .i64 o.ir, .int .i64 t, .int .i64 r, .string o.name, .string o.new, .int .i64 o.off, .string o.data] 25)).alloc (.cells #[.int .i64 o.st, .int .i64 o.sr, .int .i64 o.k, .int .i64 o.pt, .int .i64 o.pr, .int .i64 t, .int .i64 r, .int .i64 o.tt, .int .i64 o.tr, .string o.name, .string o.new, .int .i64 o.off, .string o.data] 25)).alloc (.cells #[.int .i64 o.st, .int .i64 o.sr, .int .i64 o.k, .int .i64 o.pt, .int .i64 o.pr, .int .i64 o.it, .int .i64 o.ir, .int .i64 o.tt, .int .i64 o.tr, .string o.name, .string o.new, .int .i64 o.off, .string (o.data ++ ⟨#[120]⟩)] 25)).alloc (.cells #[.int .i64 o.st, .int .i64 o.sr, .int .i64 o.k, .int .i64 o.pt, .int .i64 o.pr, .int .i64 o.it, .int .i64 o.ir, .int .i64 o.tt, .int .i64 o.tr, .string o.name, .string o.new, .int .i64 (o.off + 1 + 4095), .string o.data] 25)).alloc (.cells #[.int .i64 o.st, .int .i64 o.sr, .int .i64 o.k, .int .i64 o.pt, .int .i64 o.pr, .int .i64 o.it, .int .i64 o.ir, .int .i64 o.tt, .int .i64 o.tr, .string o.name, .string (o.new ++ ⟨#[47]⟩), .int .i64 o.off, .string o.data] 25)).alloc (.cells #[.int .i64 0, .int .i64 0, .int .i64 o.k, .int .i64 o.pt, .int .i64 o.pr, .int .i64 o.it, .int .i64 o.ir, .int .i64 o.tt, .int .i64 o.tr, .string o.name, .string o.new, .int .i64 o.off, .string o.data] 25)) = w3 at hh3 iw3 ⊢
  have HH3 := Lib.hid hh3
  clear hh3 HH2
  rcases hk.out with ⟨q7, q4, q3, q8⟩ | ⟨q7, q4, q3⟩ | ⟨q7, q4, q3, q8⟩ | ⟨q7, q4, q3, q8⟩ | ⟨q7, q4, q3, q8⟩
  · clear hk
    have n2 := (op_cells (HH3.out.at 7 rfl)).2.2.1
    obtain ⟨x0, x1, x2, x3, x4, x5, x6, x7, x8, x9, x10, x11, x12⟩ := op_cells (HH3.out.at 5 rfl)
    go_wp2_with fail
    refine (Ma.out q7 _).mono ?_
    rintro e w4 ⟨rfl, hb⟩
    have iw4 : Tab w4 := tab_step hb
    have HH4 := Lib.hid (HH3.out.step hb)
    clear hb HH3 n2 x0 x1 x2 x3 x4 x5 x6 x7 x8 x9 x10 x11 x12
    have n2 := (op_cells (HH4.out.at 7 rfl)).2.2.1
    obtain ⟨x0, x1, x2, x3, x4, x5, x6, x7, x8, x9, x10, x11, x12⟩ := op_cells (HH4.out.at 4 rfl)
    go_wp2_with fail
    refine (Mb.out q4 _).mono ?_
    rintro e w5 ⟨rfl, hb⟩
    have iw5 : Tab w5 := tab_step hb
    have HH5 := Lib.hid (HH4.out.step hb)
    clear hb HH4 n2 x0 x1 x2 x3 x4 x5 x6 x7 x8 x9 x10 x11 x12
    have n2 := (op_cells (HH5.out.at 7 rfl)).2.2.1
    obtain ⟨x0, x1, x2, x3, x4, x5, x6, x7, x8, x9, x10, x11, x12⟩ := op_cells (HH5.out.at 3 rfl)
    go_wp2_with fail
    refine (Mc.out ⟨q3, q8⟩ _).mono ?_
    rintro e w6 ⟨rfl, hb⟩
    have iw6 : Tab w6 := tab_step hb
    have HH6 := Lib.hid (HH5.out.step hb)
    clear hb HH5 n2 x0 x1 x2 x3 x4 x5 x6 x7 x8 x9 x10 x11 x12
    have n2 := (op_cells (HH6.out.at 7 rfl)).2.2.1
    obtain ⟨x0, x1, x2, x3, x4, x5, x6, x7, x8, x9, x10, x11, x12⟩ := op_cells (HH6.out.at 2 rfl)
    go_wp2_with fail
    refine (Md.out trivial _).mono ?_
    rintro e w7 ⟨rfl, hb⟩
    have iw7 : Tab w7 := tab_step hb
    have HH7 := Lib.hid (HH6.out.step hb)
    clear hb HH6 n2 x0 x1 x2 x3 x4 x5 x6 x7 x8 x9 x10 x11 x12
    have n2 := (op_cells (HH7.out.at 7 rfl)).2.2.1
    obtain ⟨x0, x1, x2, x3, x4, x5, x6, x7, x8, x9, x10, x11, x12⟩ := op_cells (HH7.out.at 1 rfl)
    go_wp2_with fail
    refine (Me.out trivial _).mono ?_
    rintro e w8 ⟨rfl, hb⟩
    have iw8 : Tab w8 := tab_step hb
    have HH8 := Lib.hid (HH7.out.step hb)
    clear hb HH7 n2 x0 x1 x2 x3 x4 x5 x6 x7 x8 x9 x10 x11 x12
    have n2 := (op_cells (HH8.out.at 7 rfl)).2.2.1
    obtain ⟨x0, x1, x2, x3, x4, x5, x6, x7, x8, x9, x10, x11, x12⟩ := op_cells (HH8.out.at 0 rfl)
    go_wp2_with fail
    refine (Mf.out trivial _).mono ?_
    rintro e w9 ⟨rfl, hb⟩
    have iw9 : Tab w9 := tab_step hb
    have HH9 := Lib.hid (HH8.out.step hb)
    clear hb HH8 n2 x0 x1 x2 x3 x4 x5 x6 x7 x8 x9 x10 x11 x12
    go_wp2_with fail
    go_ret
    exact ⟨rfl, HH9.out.below⟩
  · clear hk
    have n2 := (op_cells (HH3.out.at 7 rfl)).2.2.1
    obtain ⟨x0, x1, x2, x3, x4, x5, x6, x7, x8, x9, x10, x11, x12⟩ := op_cells (HH3.out.at 5 rfl)
    go_wp2_with fail
    refine (Ma.out q7 _).mono ?_
    rintro e w4 ⟨rfl, hb⟩
    have iw4 : Tab w4 := tab_step hb
    have HH4 := Lib.hid (HH3.out.step hb)
    clear hb HH3 n2 x0 x1 x2 x3 x4 x5 x6 x7 x8 x9 x10 x11 x12
    have n2 := (op_cells (HH4.out.at 7 rfl)).2.2.1
    obtain ⟨x0, x1, x2, x3, x4, x5, x6, x7, x8, x9, x10, x11, x12⟩ := op_cells (HH4.out.at 4 rfl)
    go_wp2_with fail
    refine (Mb.out q4 _).mono ?_
    rintro e w5 ⟨rfl, hb⟩
    have iw5 : Tab w5 := tab_step hb
    have HH5 := Lib.hid (HH4.out.step hb)
    clear hb HH4 n2 x0 x1 x2 x3 x4 x5 x6 x7 x8 x9 x10 x11 x12
    have n2 := (op_cells (HH5.out.at 7 rfl)).2.2.1
    obtain ⟨x0, x1, x2, x3, x4, x5, x6, x7, x8, x9, x10, x11, x12⟩ := op_cells (HH5.out.at 2 rfl)
    go_wp2_with fail
    refine (Md.out trivial _).mono ?_
    rintro e w6 ⟨rfl, hb⟩
    have iw6 : Tab w6 := tab_step hb
    have HH6 := Lib.hid (HH5.out.step hb)
    clear hb HH5 n2 x0 x1 x2 x3 x4 x5 x6 x7 x8 x9 x10 x11 x12
    have n2 := (op_cells (HH6.out.at 7 rfl)).2.2.1
    obtain ⟨x0, x1, x2, x3, x4, x5, x6, x7, x8, x9, x10, x11, x12⟩ := op_cells (HH6.out.at 1 rfl)
    go_wp2_with fail
    refine (Me.out trivial _).mono ?_
    rintro e w7 ⟨rfl, hb⟩
    have iw7 : Tab w7 := tab_step hb
    have HH7 := Lib.hid (HH6.out.step hb)
    clear hb HH6 n2 x0 x1 x2 x3 x4 x5 x6 x7 x8 x9 x10 x11 x12
    have n2 := (op_cells (HH7.out.at 7 rfl)).2.2.1
    obtain ⟨x0, x1, x2, x3, x4, x5, x6, x7, x8, x9, x10, x11, x12⟩ := op_cells (HH7.out.at 0 rfl)
    go_wp2_with fail
    refine (Mf.out trivial _).mono ?_
    rintro e w8 ⟨rfl, hb⟩
    have iw8 : Tab w8 := tab_step hb
    have HH8 := Lib.hid (HH7.out.step hb)
    clear hb HH7 n2 x0 x1 x2 x3 x4 x5 x6 x7 x8 x9 x10 x11 x12
    go_wp2_with fail
    go_ret
    exact ⟨rfl, HH8.out.below⟩
  · clear hk
    have n2 := (op_cells (HH3.out.at 7 rfl)).2.2.1
    obtain ⟨x0, x1, x2, x3, x4, x5, x6, x7, x8, x9, x10, x11, x12⟩ := op_cells (HH3.out.at 5 rfl)
    go_wp2_with fail
    refine (Ma.out q7 _).mono ?_
    rintro e w4 ⟨rfl, hb⟩
    have iw4 : Tab w4 := tab_step hb
    have HH4 := Lib.hid (HH3.out.step hb)
    clear hb HH3 n2 x0 x1 x2 x3 x4 x5 x6 x7 x8 x9 x10 x11 x12
    have n2 := (op_cells (HH4.out.at 7 rfl)).2.2.1
    obtain ⟨x0, x1, x2, x3, x4, x5, x6, x7, x8, x9, x10, x11, x12⟩ := op_cells (HH4.out.at 3 rfl)
    go_wp2_with fail
    refine (Mc.out ⟨q3, q8⟩ _).mono ?_
    rintro e w5 ⟨rfl, hb⟩
    have iw5 : Tab w5 := tab_step hb
    have HH5 := Lib.hid (HH4.out.step hb)
    clear hb HH4 n2 x0 x1 x2 x3 x4 x5 x6 x7 x8 x9 x10 x11 x12
    have n2 := (op_cells (HH5.out.at 7 rfl)).2.2.1
    obtain ⟨x0, x1, x2, x3, x4, x5, x6, x7, x8, x9, x10, x11, x12⟩ := op_cells (HH5.out.at 2 rfl)
    go_wp2_with fail
    refine (Md.out trivial _).mono ?_
    rintro e w6 ⟨rfl, hb⟩
    have iw6 : Tab w6 := tab_step hb
    have HH6 := Lib.hid (HH5.out.step hb)
    clear hb HH5 n2 x0 x1 x2 x3 x4 x5 x6 x7 x8 x9 x10 x11 x12
    have n2 := (op_cells (HH6.out.at 7 rfl)).2.2.1
    obtain ⟨x0, x1, x2, x3, x4, x5, x6, x7, x8, x9, x10, x11, x12⟩ := op_cells (HH6.out.at 1 rfl)
    go_wp2_with fail
    refine (Me.out trivial _).mono ?_
    rintro e w7 ⟨rfl, hb⟩
    have iw7 : Tab w7 := tab_step hb
    have HH7 := Lib.hid (HH6.out.step hb)
    clear hb HH6 n2 x0 x1 x2 x3 x4 x5 x6 x7 x8 x9 x10 x11 x12
    have n2 := (op_cells (HH7.out.at 7 rfl)).2.2.1
    obtain ⟨x0, x1, x2, x3, x4, x5, x6, x7, x8, x9, x10, x11, x12⟩ := op_cells (HH7.out.at 0 rfl)
    go_wp2_with fail
    refine (Mf.out trivial _).mono ?_
    rintro e w8 ⟨rfl, hb⟩
    have iw8 : Tab w8 := tab_step hb
    have HH8 := Lib.hid (HH7.out.step hb)
    clear hb HH7 n2 x0 x1 x2 x3 x4 x5 x6 x7 x8 x9 x10 x11 x12
    go_wp2_with fail
    go_ret
    exact ⟨rfl, HH8.out.below⟩
  · clear hk
    have n2 := (op_cells (HH3.out.at 7 rfl)).2.2.1
    obtain ⟨x0, x1, x2, x3, x4, x5, x6, x7, x8, x9, x10, x11, x12⟩ := op_cells (HH3.out.at 3 rfl)
    go_wp2_with fail
    refine (Mc.out ⟨q3, q8⟩ _).mono ?_
    rintro e w4 ⟨rfl, hb⟩
    have iw4 : Tab w4 := tab_step hb
    have HH4 := Lib.hid (HH3.out.step hb)
    clear hb HH3 n2 x0 x1 x2 x3 x4 x5 x6 x7 x8 x9 x10 x11 x12
    have n2 := (op_cells (HH4.out.at 7 rfl)).2.2.1
    obtain ⟨x0, x1, x2, x3, x4, x5, x6, x7, x8, x9, x10, x11, x12⟩ := op_cells (HH4.out.at 2 rfl)
    go_wp2_with fail
    refine (Md.out trivial _).mono ?_
    rintro e w5 ⟨rfl, hb⟩
    have iw5 : Tab w5 := tab_step hb
    have HH5 := Lib.hid (HH4.out.step hb)
    clear hb HH4 n2 x0 x1 x2 x3 x4 x5 x6 x7 x8 x9 x10 x11 x12
    have n2 := (op_cells (HH5.out.at 7 rfl)).2.2.1
    obtain ⟨x0, x1, x2, x3, x4, x5, x6, x7, x8, x9, x10, x11, x12⟩ := op_cells (HH5.out.at 1 rfl)
    go_wp2_with fail
    refine (Me.out trivial _).mono ?_
    rintro e w6 ⟨rfl, hb⟩
    have iw6 : Tab w6 := tab_step hb
    have HH6 := Lib.hid (HH5.out.step hb)
    clear hb HH5 n2 x0 x1 x2 x3 x4 x5 x6 x7 x8 x9 x10 x11 x12
    have n2 := (op_cells (HH6.out.at 7 rfl)).2.2.1
    obtain ⟨x0, x1, x2, x3, x4, x5, x6, x7, x8, x9, x10, x11, x12⟩ := op_cells (HH6.out.at 0 rfl)
    go_wp2_with fail
    refine (Mf.out trivial _).mono ?_
    rintro e w7 ⟨rfl, hb⟩
    have iw7 : Tab w7 := tab_step hb
    have HH7 := Lib.hid (HH6.out.step hb)
    clear hb HH6 n2 x0 x1 x2 x3 x4 x5 x6 x7 x8 x9 x10 x11 x12
    go_wp2_with fail
    go_ret
    exact ⟨rfl, HH7.out.below⟩
  · clear hk
    have n2 := (op_cells (HH3.out.at 7 rfl)).2.2.1
    obtain ⟨x0, x1, x2, x3, x4, x5, x6, x7, x8, x9, x10, x11, x12⟩ := op_cells (HH3.out.at 5 rfl)
    go_wp2_with fail
    refine (Ma.out q7 _).mono ?_
    rintro e w4 ⟨rfl, hb⟩
    have iw4 : Tab w4 := tab_step hb
    have HH4 := Lib.hid (HH3.out.step hb)
    clear hb HH3 n2 x0 x1 x2 x3 x4 x5 x6 x7 x8 x9 x10 x11 x12
    have n2 := (op_cells (HH4.out.at 7 rfl)).2.2.1
    obtain ⟨x0, x1, x2, x3, x4, x5, x6, x7, x8, x9, x10, x11, x12⟩ := op_cells (HH4.out.at 2 rfl)
    go_wp2_with fail
    refine (Md.out trivial _).mono ?_
    rintro e w5 ⟨rfl, hb⟩
    have iw5 : Tab w5 := tab_step hb
    have HH5 := Lib.hid (HH4.out.step hb)
    clear hb HH4 n2 x0 x1 x2 x3 x4 x5 x6 x7 x8 x9 x10 x11 x12
    have n2 := (op_cells (HH5.out.at 7 rfl)).2.2.1
    obtain ⟨x0, x1, x2, x3, x4, x5, x6, x7, x8, x9, x10, x11, x12⟩ := op_cells (HH5.out.at 1 rfl)
    go_wp2_with fail
    refine (Me.out trivial _).mono ?_
    rintro e w6 ⟨rfl, hb⟩
    have iw6 : Tab w6 := tab_step hb
    have HH6 := Lib.hid (HH5.out.step hb)
    clear hb HH5 n2 x0 x1 x2 x3 x4 x5 x6 x7 x8 x9 x10 x11 x12
    have n2 := (op_cells (HH6.out.at 7 rfl)).2.2.1
    obtain ⟨x0, x1, x2, x3, x4, x5, x6, x7, x8, x9, x10, x11, x12⟩ := op_cells (HH6.out.at 0 rfl)
    go_wp2_with fail
    refine (Mf.out trivial _).mono ?_
    rintro e w7 ⟨rfl, hb⟩
    have iw7 : Tab w7 := tab_step hb
    have HH7 := Lib.hid (HH6.out.step hb)
    clear hb HH6 n2 x0 x1 x2 x3 x4 x5 x6 x7 x8 x9 x10 x11 x12
    go_wp2_with fail
    go_ret
    exact ⟨rfl, HH7.out.below⟩

end Go.Proofs.YteknegfocnopgaaDoor.lawOpFields
