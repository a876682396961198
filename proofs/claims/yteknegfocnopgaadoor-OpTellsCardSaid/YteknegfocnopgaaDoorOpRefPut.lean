/-
  The walk of the document's own Put.
-/
import Derived.Test.YteknegfocnopgaaDoorOpMath
import Derived.Test.YteknegfocnopgaaDoorStampRefPut
import Derived.Test.YteknegfocnopgaaDoorPackRefText
import Derived.Test.YteknegfocnopgaaDoorLater
import Derived.Deep.DeepCutAuto
namespace Go.Proofs.YteknegfocnopgaaDoor
open Go.RowKit OpMath StampMath PackMath

set_option maxRecDepth 100000 in
set_option maxHeartbeats 1600000 in
theorem putCore (o : Opn) (w : World)
    (x0 : ByteArray) (X0 : Hid (∀ W : World, Calls Tryd.prog 40 #[.int .i64 o.k] W fun e w' => e = .returned (.string x0) ∧ Below W.heap.size W w'))
    (x1 : ByteArray) (X1 : Hid (∀ W : World, Calls Tryd.prog 41 #[.agg #[.int .i64 o.st, .int .i64 o.sr]] W fun e w' => e = .returned (.string x1) ∧ Below W.heap.size W w'))
    (x2 : ByteArray) (X2 : Hid (∀ W : World, Calls Tryd.prog 41 #[.agg #[.int .i64 o.pt, .int .i64 o.pr]] W fun e w' => e = .returned (.string x2) ∧ Below W.heap.size W w'))
    (x3 : ByteArray) (X3 : Hid (∀ W : World, Calls Tryd.prog 41 #[.agg #[.int .i64 o.it, .int .i64 o.ir]] W fun e w' => e = .returned (.string x3) ∧ Below W.heap.size W w'))
    (x4 : ByteArray) (X4 : Hid (∀ W : World, Calls Tryd.prog 41 #[.agg #[.int .i64 o.tt, .int .i64 o.tr]] W fun e w' => e = .returned (.string x4) ∧ Below W.heap.size W w'))
    (x5 : ByteArray) (X5 : Hid (∀ W : World, Calls Tryd.prog 42 #[.string o.name] W fun e w' => e = .returned (.string x5) ∧ Below W.heap.size W w'))
    (x6 : ByteArray) (X6 : Hid (∀ W : World, Calls Tryd.prog 42 #[.string o.new] W fun e w' => e = .returned (.string x6) ∧ Below W.heap.size W w'))
    (x7 : ByteArray) (X7 : Hid (∀ W : World, Calls Tryd.prog 40 #[.int .i64 o.off] W fun e w' => e = .returned (.string x7) ∧ Below W.heap.size W w'))
    (x8 : ByteArray) (X8 : Hid (∀ W : World, Calls Tryd.prog 42 #[.string o.data] W fun e w' => e = .returned (.string x8) ∧ Below W.heap.size W w'))
    (u1 : ByteArray) (U1 : Hid (∀ W : World, (Op.stringOp .add x0 x1).run Tryd.prog W = .ok (.string u1) W))
    (u2 : ByteArray) (U2 : Hid (∀ W : World, (Op.stringOp .add u1 x2).run Tryd.prog W = .ok (.string u2) W))
    (u3 : ByteArray) (U3 : Hid (∀ W : World, (Op.stringOp .add u2 x3).run Tryd.prog W = .ok (.string u3) W))
    (u4 : ByteArray) (U4 : Hid (∀ W : World, (Op.stringOp .add u3 x4).run Tryd.prog W = .ok (.string u4) W))
    (u5 : ByteArray) (U5 : Hid (∀ W : World, (Op.stringOp .add u4 x5).run Tryd.prog W = .ok (.string u5) W))
    (u6 : ByteArray) (U6 : Hid (∀ W : World, (Op.stringOp .add u5 x6).run Tryd.prog W = .ok (.string u6) W))
    (u7 : ByteArray) (U7 : Hid (∀ W : World, (Op.stringOp .add u6 x7).run Tryd.prog W = .ok (.string u7) W))
    (u8 : ByteArray) (U8 : Hid (∀ W : World, (Op.stringOp .add u7 x8).run Tryd.prog W = .ok (.string u8) W)) :
    Calls Tryd.prog 17 #[.agg #[.int .i64 o.st, .int .i64 o.sr, .int .i64 o.k, .int .i64 o.pt, .int .i64 o.pr, .int .i64 o.it, .int .i64 o.ir, .int .i64 o.tt, .int .i64 o.tr, .string o.name, .string o.new, .int .i64 o.off, .string o.data]] w fun e w' => e = .returned (.string u8) ∧ Below w.heap.size w w' := by
  go_enter Tryd.func17, Tryd.ntmps17
  go_upto_region 1 with fail
  have hh0 : (w.alloc (.cells (opA o) 25)).heap[w.heap.size]? = some (.cells (opA o) 25 (0, 0)) := heap_alloc_new w _
  have hB0 : Below w.heap.size w (w.alloc (.cells (opA o) 25)) := (Below.refl _ _).alloc (Nat.le_refl _) _
  change Code.wp _ _ _ _ (w.alloc (.cells (opA o) 25))
  generalize w.alloc (.cells (opA o) 25) = w0 at hh0 hB0 ⊢
  obtain ⟨l0, l1, l2, l3, l4, l5, l6, l7, l8, l9, l10, l11, l12⟩ := op_cells hh0
  have q0 := later_cell l0
  have q1 := later_cell l1
  have q2 := later_cell l2
  have q3 := later_cell l3
  have q4 := later_cell l4
  have q5 := later_cell l5
  have q6 := later_cell l6
  have q7 := later_cell l7
  have q8 := later_cell l8
  have q9 := later_cell l9
  have q10 := later_cell l10
  have q11 := later_cell l11
  have q12 := later_cell l12
  clear l0 l1 l2 l3 l4 l5 l6 l7 l8 l9 l10 l11 l12
  have v1 := U1.out
  have v2 := U2.out
  have v3 := U3.out
  have v4 := U4.out
  refine wp_region_later (by kernel_rfl) (by kernel_rfl) ?_
  repeat (go_big_quiet_step (first | (with_reducible exact later_call (X0.out _)) | (with_reducible exact later_call (X1.out _)) | (with_reducible exact later_call (X2.out _)) | (with_reducible exact later_call (X3.out _)) | (with_reducible exact later_call (X4.out _))))
  refine wpQuiet_nil ?_
  intro _ hw'
  obtain ⟨y1, rfl⟩ := hw'
  clear v1 v2 v3 v4 q0 q1 q2 q3 q4 q5 q6 q7 q8 q9 q10 q11 q12
  have hh1 : (later w0 y1).heap[w.heap.size]? = some (.cells (opA o) 25 (0, 0)) := ((later_below w0 y1).block _ (heap_lt hh0)).trans hh0
  have hB1 := below_step hB0 (later_below w0 y1)
  generalize later w0 y1 = w1 at hh1 hB1 ⊢
  go_upto_region 2 with fail
  obtain ⟨l0, l1, l2, l3, l4, l5, l6, l7, l8, l9, l10, l11, l12⟩ := op_cells hh1
  have q0 := later_cell l0
  have q1 := later_cell l1
  have q2 := later_cell l2
  have q3 := later_cell l3
  have q4 := later_cell l4
  have q5 := later_cell l5
  have q6 := later_cell l6
  have q7 := later_cell l7
  have q8 := later_cell l8
  have q9 := later_cell l9
  have q10 := later_cell l10
  have q11 := later_cell l11
  have q12 := later_cell l12
  clear l0 l1 l2 l3 l4 l5 l6 l7 l8 l9 l10 l11 l12
  have v5 := U5.out
  have v6 := U6.out
  have v7 := U7.out
  have v8 := U8.out
  refine wp_region_later (by kernel_rfl) (by kernel_rfl) ?_
  repeat (go_big_quiet_step (first | (with_reducible exact later_call (X5.out _)) | (with_reducible exact later_call (X6.out _)) | (with_reducible exact later_call (X7.out _)) | (with_reducible exact later_call (X8.out _))))
  refine wpQuiet_nil ?_
  intro _ hw'
  obtain ⟨y2, rfl⟩ := hw'
  go_wp2_with fail
  go_ret
  exact ⟨rfl, below_step hB1 (later_below w1 y2)⟩

theorem refOpPut (o : Opn) (h : Ok64 o) (hn : o.name.size ≤ 4000) (hm : o.new.size ≤ 4000) (hd : o.data.size ≤ 4000) (w : World) :
    Calls Tryd.prog 17 #[.agg (opA o)] w fun e w' => e = .returned (.string ⟨(putO o).toArray⟩) ∧ Below w.heap.size w w' := by
  have n0 := (numL_length (zig o.k)).2
  have n1 := putL_len o.st o.sr
  have n2 := putL_len o.pt o.pr
  have n3 := putL_len o.it o.ir
  have n4 := putL_len o.tt o.tr
  have n5 := textB_len o.name
  have n6 := textB_len o.new
  have n7 := (numL_length (zig o.off)).2
  have n8 := textB_len o.data
  refine putCore o w
    ⟨(numL (zig o.k)).toArray⟩ (fun W => refInt o.k h.k W)
    ⟨(putL o.st o.sr).toArray⟩ (fun W => refPut o.st o.sr h.st h.sr W)
    ⟨(putL o.pt o.pr).toArray⟩ (fun W => refPut o.pt o.pr h.pt h.pr W)
    ⟨(putL o.it o.ir).toArray⟩ (fun W => refPut o.it o.ir h.it h.ir W)
    ⟨(putL o.tt o.tr).toArray⟩ (fun W => refPut o.tt o.tr h.tt h.tr W)
    ⟨(textB o.name).toArray⟩ (fun W => refText o.name hn W)
    ⟨(textB o.new).toArray⟩ (fun W => refText o.new hm W)
    ⟨(numL (zig o.off)).toArray⟩ (fun W => refInt o.off h.off W)
    ⟨(textB o.data).toArray⟩ (fun W => refText o.data hd W)
    ⟨(numL (zig o.k) ++ putL o.st o.sr).toArray⟩ (fun W => str_add _ (numL (zig o.k)) (putL o.st o.sr) (by first | omega | (simp only [List.length_append]; omega)) W)
    ⟨(numL (zig o.k) ++ putL o.st o.sr ++ putL o.pt o.pr).toArray⟩ (fun W => str_add _ (numL (zig o.k) ++ putL o.st o.sr) (putL o.pt o.pr) (by first | omega | (simp only [List.length_append]; omega)) W)
    ⟨(numL (zig o.k) ++ putL o.st o.sr ++ putL o.pt o.pr ++ putL o.it o.ir).toArray⟩ (fun W => str_add _ (numL (zig o.k) ++ putL o.st o.sr ++ putL o.pt o.pr) (putL o.it o.ir) (by first | omega | (simp only [List.length_append]; omega)) W)
    ⟨(numL (zig o.k) ++ putL o.st o.sr ++ putL o.pt o.pr ++ putL o.it o.ir ++ putL o.tt o.tr).toArray⟩ (fun W => str_add _ (numL (zig o.k) ++ putL o.st o.sr ++ putL o.pt o.pr ++ putL o.it o.ir) (putL o.tt o.tr) (by first | omega | (simp only [List.length_append]; omega)) W)
    ⟨(numL (zig o.k) ++ putL o.st o.sr ++ putL o.pt o.pr ++ putL o.it o.ir ++ putL o.tt o.tr ++ textB o.name).toArray⟩ (fun W => str_add _ (numL (zig o.k) ++ putL o.st o.sr ++ putL o.pt o.pr ++ putL o.it o.ir ++ putL o.tt o.tr) (textB o.name) (by first | omega | (simp only [List.length_append]; omega)) W)
    ⟨(numL (zig o.k) ++ putL o.st o.sr ++ putL o.pt o.pr ++ putL o.it o.ir ++ putL o.tt o.tr ++ textB o.name ++ textB o.new).toArray⟩ (fun W => str_add _ (numL (zig o.k) ++ putL o.st o.sr ++ putL o.pt o.pr ++ putL o.it o.ir ++ putL o.tt o.tr ++ textB o.name) (textB o.new) (by first | omega | (simp only [List.length_append]; omega)) W)
    ⟨(numL (zig o.k) ++ putL o.st o.sr ++ putL o.pt o.pr ++ putL o.it o.ir ++ putL o.tt o.tr ++ textB o.name ++ textB o.new ++ numL (zig o.off)).toArray⟩ (fun W => str_add _ (numL (zig o.k) ++ putL o.st o.sr ++ putL o.pt o.pr ++ putL o.it o.ir ++ putL o.tt o.tr ++ textB o.name ++ textB o.new) (numL (zig o.off)) (by first | omega | (simp only [List.length_append]; omega)) W)
    ⟨(numL (zig o.k) ++ putL o.st o.sr ++ putL o.pt o.pr ++ putL o.it o.ir ++ putL o.tt o.tr ++ textB o.name ++ textB o.new ++ numL (zig o.off) ++ textB o.data).toArray⟩ (fun W => str_add _ (numL (zig o.k) ++ putL o.st o.sr ++ putL o.pt o.pr ++ putL o.it o.ir ++ putL o.tt o.tr ++ textB o.name ++ textB o.new ++ numL (zig o.off)) (textB o.data) (by first | omega | (simp only [List.length_append]; omega)) W)

end Go.Proofs.YteknegfocnopgaaDoor
