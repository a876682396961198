/-
  The walks of op's Makes and Put.
-/
import Derived.Test.YteknegfocnopgaaDoorOpMath
import Derived.Test.YteknegfocnopgaaDoorOpTab
import Derived.Test.YteknegfocnopgaaDoorStampCodePut
import Derived.Test.YteknegfocnopgaaDoorPackText
import Derived.Test.YteknegfocnopgaaDoorPackInt
import Derived.Test.YteknegfocnopgaaDoorLater
import Derived.Deep.RegionHeld3
import Derived.Deep.DeepCutAuto
import Derived.Test.YteknegfocnopgaaDoorOpCodeA
import Derived.Test.YteknegfocnopgaaDoorOpRefUses
import Derived.Test.YteknegfocnopgaaDoorOpTakeMath
import Derived.Test.YteknegfocnopgaaDoorPackTakeText
import Derived.Test.YteknegfocnopgaaDoorSep
import Derived.Deep.LoopGhost
namespace Go.Proofs.YteknegfocnopgaaDoor
open Go.RowKit OpMath StampMath PackMath

theorem makes_any (o : Opn) (w : World) :
    Calls Tryd.prog 18 #[.agg #[.int .i64 o.st, .int .i64 o.sr, .int .i64 o.k, .int .i64 o.pt, .int .i64 o.pr, .int .i64 o.it, .int .i64 o.ir, .int .i64 o.tt, .int .i64 o.tr, .string o.name, .string o.new, .int .i64 o.off, .string o.data]] w fun e w' => e = .returned (.int .i64 (makesO o)) ∧ Below w.heap.size w w' := by
  have hcase : ((o.k == 1) = true ∧ makesO o = 1) ∨ ((o.k == 1) = false ∧ (o.k == 2) = true ∧ makesO o = 2) ∨ ((o.k == 1) = false ∧ (o.k == 2) = false ∧ (o.k == 3) = true ∧ makesO o = 3) ∨ ((o.k == 1) = false ∧ (o.k == 2) = false ∧ (o.k == 3) = false ∧ makesO o = 0) := by
    unfold makesO
    by_cases h1 : o.k = 1
    · exact Or.inl ⟨by simp [h1], by rw [if_pos (by omega), h1]⟩
    · by_cases h2 : o.k = 2
      · exact Or.inr (Or.inl ⟨by simp [h1], by simp [h2], by rw [if_pos (by omega), h2]⟩)
      · by_cases h3 : o.k = 3
        · exact Or.inr (Or.inr (Or.inl ⟨by simp [h1], by simp [h2], by simp [h3], by rw [if_pos (by omega), h3]⟩))
        · exact Or.inr (Or.inr (Or.inr ⟨by simp [h1], by simp [h2], by simp [h3], by rw [if_neg (by omega)]⟩))
  rcases hcase with ⟨h1, h⟩ | ⟨h1, h2, h⟩ | ⟨h1, h2, h3, h⟩ | ⟨h1, h2, h3, h⟩
  all_goals
    rw [h]
    clear h
    go_enter Tryd.func18, Tryd.ntmps18
    go_wp2_with fail
    go_ret
    exact ⟨rfl, (Below.refl _ _).alloc (Nat.le_refl _) _⟩

set_option maxRecDepth 100000 in
set_option maxHeartbeats 1600000 in
theorem opPut_core (o : Opn) (w : World)
    (x0 : ByteArray) (X0 : Hid (∀ W : World, Calls Tryd.prog 39 #[.int .i64 o.k] W fun e w' => e = .returned (.string x0) ∧ Below W.heap.size W w'))
    (x1 : ByteArray) (X1 : Hid (∀ W : World, Calls Tryd.prog 37 #[.agg #[.int .i64 o.st, .int .i64 o.sr]] W fun e w' => e = .returned (.string x1) ∧ Below W.heap.size W w'))
    (x2 : ByteArray) (X2 : Hid (∀ W : World, Calls Tryd.prog 37 #[.agg #[.int .i64 o.pt, .int .i64 o.pr]] W fun e w' => e = .returned (.string x2) ∧ Below W.heap.size W w'))
    (x3 : ByteArray) (X3 : Hid (∀ W : World, Calls Tryd.prog 37 #[.agg #[.int .i64 o.it, .int .i64 o.ir]] W fun e w' => e = .returned (.string x3) ∧ Below W.heap.size W w'))
    (x4 : ByteArray) (X4 : Hid (∀ W : World, Calls Tryd.prog 37 #[.agg #[.int .i64 o.tt, .int .i64 o.tr]] W fun e w' => e = .returned (.string x4) ∧ Below W.heap.size W w'))
    (x5 : ByteArray) (X5 : Hid (∀ W : World, Calls Tryd.prog 38 #[.string o.name] W fun e w' => e = .returned (.string x5) ∧ Below W.heap.size W w'))
    (x6 : ByteArray) (X6 : Hid (∀ W : World, Calls Tryd.prog 38 #[.string o.new] W fun e w' => e = .returned (.string x6) ∧ Below W.heap.size W w'))
    (x7 : ByteArray) (X7 : Hid (∀ W : World, Calls Tryd.prog 39 #[.int .i64 o.off] W fun e w' => e = .returned (.string x7) ∧ Below W.heap.size W w'))
    (x8 : ByteArray) (X8 : Hid (∀ W : World, Calls Tryd.prog 38 #[.string o.data] W fun e w' => e = .returned (.string x8) ∧ Below W.heap.size W w'))
    (u1 : ByteArray) (Hu1 : Hid (∀ W : World, (Op.stringOp .add x1 x2).run Tryd.prog W = .ok (.string u1) W))
    (u2 : ByteArray) (Hu2 : Hid (∀ W : World, (Op.stringOp .add u1 x3).run Tryd.prog W = .ok (.string u2) W))
    (u3 : ByteArray) (Hu3 : Hid (∀ W : World, (Op.stringOp .add u2 x4).run Tryd.prog W = .ok (.string u3) W))
    (n1 : ByteArray) (Hn1 : Hid (∀ W : World, (Op.stringOp .add x5 x6).run Tryd.prog W = .ok (.string n1) W))
    (c1 : ByteArray) (Hc1 : Hid (∀ W : World, (Op.stringOp .add x0 u3).run Tryd.prog W = .ok (.string c1) W))
    (c2 : ByteArray) (Hc2 : Hid (∀ W : World, (Op.stringOp .add c1 n1).run Tryd.prog W = .ok (.string c2) W))
    (c3 : ByteArray) (Hc3 : Hid (∀ W : World, (Op.stringOp .add c2 x7).run Tryd.prog W = .ok (.string c3) W))
    (c4 : ByteArray) (Hc4 : Hid (∀ W : World, (Op.stringOp .add c3 x8).run Tryd.prog W = .ok (.string c4) W)) :
    Calls Tryd.prog 16 #[.agg #[.int .i64 o.st, .int .i64 o.sr, .int .i64 o.k, .int .i64 o.pt, .int .i64 o.pr, .int .i64 o.it, .int .i64 o.ir, .int .i64 o.tt, .int .i64 o.tr, .string o.name, .string o.new, .int .i64 o.off, .string o.data]] w fun e w' => e = .returned (.string c4) ∧ Below w.heap.size w w' := by
  go_enter Tryd.func16, Tryd.ntmps16
  go_upto_region 1 with fail
  have hh0 : (w.alloc (.cells (opA o) 25)).heap[w.heap.size]? = some (.cells (opA o) 25 (0, 0)) := heap_alloc_new w _
  have hB0 : Below w.heap.size w (w.alloc (.cells (opA o) 25)) := (Below.refl _ _).alloc (Nat.le_refl _) _
  change Code.wp _ _ _ _ (w.alloc (.cells (opA o) 25))
  generalize w.alloc (.cells (opA o) 25) = w0 at hh0 hB0 ⊢
  obtain ⟨l0, l1, l2, l3, l4, l5, l6, l7, l8, l9, l10, l11, l12⟩ := op_cells hh0
  have q0 := later_cell l0
  have q1 := later_cell l1
  have q2 := later_cell l2
  have q3 := later_cell l3
  have q4 := later_cell l4
  have q5 := later_cell l5
  have q6 := later_cell l6
  have q7 := later_cell l7
  have q8 := later_cell l8
  have q9 := later_cell l9
  have q10 := later_cell l10
  have q11 := later_cell l11
  have q12 := later_cell l12
  clear l0 l1 l2 l3 l4 l5 l6 l7 l8 l9 l10 l11 l12
  have vu1 := Hu1.out
  have vu2 := Hu2.out
  have vu3 := Hu3.out
  refine wp_region_later (by kernel_rfl) (by kernel_rfl) ?_
  repeat (go_big_quiet_step (first | (with_reducible exact later_call (X1.out _)) | (with_reducible exact later_call (X2.out _)) | (with_reducible exact later_call (X3.out _)) | (with_reducible exact later_call (X4.out _))))
  refine wpQuiet_nil ?_
  intro _ hw'
  obtain ⟨y1, rfl⟩ := hw'
  clear vu1 vu2 vu3 q0 q1 q2 q3 q4 q5 q6 q7 q8 q9 q10 q11 q12
  have hh1 : (later w0 y1).heap[w.heap.size]? = some (.cells (opA o) 25 (0, 0)) := ((later_below w0 y1).block _ (heap_lt hh0)).trans hh0
  have hB1 := below_step hB0 (later_below w0 y1)
  generalize later w0 y1 = w1 at hh1 hB1 ⊢
  clear hh0 hB0
  go_upto_region 2 with fail
  obtain ⟨l0, l1, l2, l3, l4, l5, l6, l7, l8, l9, l10, l11, l12⟩ := op_cells hh1
  have q0 := later_cell l0
  have q1 := later_cell l1
  have q2 := later_cell l2
  have q3 := later_cell l3
  have q4 := later_cell l4
  have q5 := later_cell l5
  have q6 := later_cell l6
  have q7 := later_cell l7
  have q8 := later_cell l8
  have q9 := later_cell l9
  have q10 := later_cell l10
  have q11 := later_cell l11
  have q12 := later_cell l12
  clear l0 l1 l2 l3 l4 l5 l6 l7 l8 l9 l10 l11 l12
  have vn1 := Hn1.out
  refine wp_region_later (by kernel_rfl) (by kernel_rfl) ?_
  repeat (go_big_quiet_step (first | (with_reducible exact later_call (X5.out _)) | (with_reducible exact later_call (X6.out _))))
  refine wpQuiet_nil ?_
  intro _ hw'
  obtain ⟨y2, rfl⟩ := hw'
  clear vn1 q0 q1 q2 q3 q4 q5 q6 q7 q8 q9 q10 q11 q12
  have hh2 : (later w1 y2).heap[w.heap.size]? = some (.cells (opA o) 25 (0, 0)) := ((later_below w1 y2).block _ (heap_lt hh1)).trans hh1
  have hB2 := below_step hB1 (later_below w1 y2)
  generalize later w1 y2 = w2 at hh2 hB2 ⊢
  clear hh1 hB1
  go_upto_region 3 with fail
  obtain ⟨l0, l1, l2, l3, l4, l5, l6, l7, l8, l9, l10, l11, l12⟩ := op_cells hh2
  have q0 := later_cell l0
  have q1 := later_cell l1
  have q2 := later_cell l2
  have q3 := later_cell l3
  have q4 := later_cell l4
  have q5 := later_cell l5
  have q6 := later_cell l6
  have q7 := later_cell l7
  have q8 := later_cell l8
  have q9 := later_cell l9
  have q10 := later_cell l10
  have q11 := later_cell l11
  have q12 := later_cell l12
  clear l0 l1 l2 l3 l4 l5 l6 l7 l8 l9 l10 l11 l12
  have vc1 := Hc1.out
  have vc2 := Hc2.out
  have vc3 := Hc3.out
  have vc4 := Hc4.out
  refine wp_region_later (by kernel_rfl) (by kernel_rfl) ?_
  repeat (go_big_quiet_step (first | (with_reducible exact later_call (X0.out _)) | (with_reducible exact later_call (X7.out _)) | (with_reducible exact later_call (X8.out _))))
  refine wpQuiet_nil ?_
  intro _ hw'
  obtain ⟨y3, rfl⟩ := hw'
  go_wp2_with fail
  go_ret
  exact ⟨rfl, below_step hB2 (later_below w2 y3)⟩

theorem opPut_any (o : Opn) (w : World) (h : Ok64 o) (hn : o.name.size ≤ 5000) (hm : o.new.size ≤ 5000) (hd : o.data.size ≤ 5000) :
    Calls Tryd.prog 16 #[.agg #[.int .i64 o.st, .int .i64 o.sr, .int .i64 o.k, .int .i64 o.pt, .int .i64 o.pr, .int .i64 o.it, .int .i64 o.ir, .int .i64 o.tt, .int .i64 o.tr, .string o.name, .string o.new, .int .i64 o.off, .string o.data]] w fun e w' => e = .returned (.string ⟨(putO o).toArray⟩) ∧ Below w.heap.size w w' := by
  have n0 := (numL_length (zig o.k)).2
  have n1 := putL_len o.st o.sr
  have n2 := putL_len o.pt o.pr
  have n3 := putL_len o.it o.ir
  have n4 := putL_len o.tt o.tr
  have n5 := textB_len o.name
  have n6 := textB_len o.new
  have n7 := (numL_length (zig o.off)).2
  have n8 := textB_len o.data
  have e : putO o = numL (zig o.k) ++ (putL o.st o.sr ++ putL o.pt o.pr ++ putL o.it o.ir ++ putL o.tt o.tr) ++ (textB o.name ++ textB o.new) ++ numL (zig o.off) ++ textB o.data := by unfold putO; simp only [List.append_assoc]
  rw [e]
  exact opPut_core o w
    ⟨(numL (zig o.k)).toArray⟩ (fun W => int_any o.k h.k W)
    ⟨(putL o.st o.sr).toArray⟩ (fun W => put_any o.st o.sr W h.st h.sr)
    ⟨(putL o.pt o.pr).toArray⟩ (fun W => put_any o.pt o.pr W h.pt h.pr)
    ⟨(putL o.it o.ir).toArray⟩ (fun W => put_any o.it o.ir W h.it h.ir)
    ⟨(putL o.tt o.tr).toArray⟩ (fun W => put_any o.tt o.tr W h.tt h.tr)
    ⟨(textB o.name).toArray⟩ (fun W => text_any o.name (by omega) W)
    ⟨(textB o.new).toArray⟩ (fun W => text_any o.new (by omega) W)
    ⟨(numL (zig o.off)).toArray⟩ (fun W => int_any o.off h.off W)
    ⟨(textB o.data).toArray⟩ (fun W => text_any o.data (by omega) W)
    ⟨(putL o.st o.sr ++ putL o.pt o.pr).toArray⟩ (fun W => str_add _ (putL o.st o.sr) (putL o.pt o.pr) (by first | omega | (simp only [List.length_append]; omega)) W)
    ⟨(putL o.st o.sr ++ putL o.pt o.pr ++ putL o.it o.ir).toArray⟩ (fun W => str_add _ (putL o.st o.sr ++ putL o.pt o.pr) (putL o.it o.ir) (by first | omega | (simp only [List.length_append]; omega)) W)
    ⟨(putL o.st o.sr ++ putL o.pt o.pr ++ putL o.it o.ir ++ putL o.tt o.tr).toArray⟩ (fun W => str_add _ (putL o.st o.sr ++ putL o.pt o.pr ++ putL o.it o.ir) (putL o.tt o.tr) (by first | omega | (simp only [List.length_append]; omega)) W)
    ⟨(textB o.name ++ textB o.new).toArray⟩ (fun W => str_add _ (textB o.name) (textB o.new) (by first | omega | (simp only [List.length_append]; omega)) W)
    ⟨(numL (zig o.k) ++ (putL o.st o.sr ++ putL o.pt o.pr ++ putL o.it o.ir ++ putL o.tt o.tr)).toArray⟩ (fun W => str_add _ (numL (zig o.k)) (putL o.st o.sr ++ putL o.pt o.pr ++ putL o.it o.ir ++ putL o.tt o.tr) (by first | omega | (simp only [List.length_append]; omega)) W)
    ⟨(numL (zig o.k) ++ (putL o.st o.sr ++ putL o.pt o.pr ++ putL o.it o.ir ++ putL o.tt o.tr) ++ (textB o.name ++ textB o.new)).toArray⟩ (fun W => str_add _ (numL (zig o.k) ++ (putL o.st o.sr ++ putL o.pt o.pr ++ putL o.it o.ir ++ putL o.tt o.tr)) (textB o.name ++ textB o.new) (by first | omega | (simp only [List.length_append]; omega)) W)
    ⟨(numL (zig o.k) ++ (putL o.st o.sr ++ putL o.pt o.pr ++ putL o.it o.ir ++ putL o.tt o.tr) ++ (textB o.name ++ textB o.new) ++ numL (zig o.off)).toArray⟩ (fun W => str_add _ (numL (zig o.k) ++ (putL o.st o.sr ++ putL o.pt o.pr ++ putL o.it o.ir ++ putL o.tt o.tr) ++ (textB o.name ++ textB o.new)) (numL (zig o.off)) (by first | omega | (simp only [List.length_append]; omega)) W)
    ⟨(numL (zig o.k) ++ (putL o.st o.sr ++ putL o.pt o.pr ++ putL o.it o.ir ++ putL o.tt o.tr) ++ (textB o.name ++ textB o.new) ++ numL (zig o.off) ++ textB o.data).toArray⟩ (fun W => str_add _ (numL (zig o.k) ++ (putL o.st o.sr ++ putL o.pt o.pr ++ putL o.it o.ir ++ putL o.tt o.tr) ++ (textB o.name ++ textB o.new) ++ numL (zig o.off)) (textB o.data) (by first | omega | (simp only [List.length_append]; omega)) W)

end Go.Proofs.YteknegfocnopgaaDoor

/-
  The walk of op's Uses.
-/
namespace Go.Proofs.YteknegfocnopgaaDoor
open Go.RowKit OpMath

set_option maxRecDepth 100000 in
set_option maxHeartbeats 1600000 in
theorem uses_any (o : Opn) (w : World) [Tab w] :
    Calls Tryd.prog 21 #[.agg #[.int .i64 o.st, .int .i64 o.sr, .int .i64 o.k, .int .i64 o.pt, .int .i64 o.pr, .int .i64 o.it, .int .i64 o.ir, .int .i64 o.tt, .int .i64 o.tr, .string o.name, .string o.new, .int .i64 o.off, .string o.data]] w (ListPost (usesO o) w) := by
  obtain ⟨i0, hi0, hz0, hz1, hz2⟩ := info_parts stamp_infos
  have e1 : hasF o.k 1 = decide (1 ≤ o.k ∧ o.k ≤ 7) := by unfold hasF; rw [if_pos rfl]
  have e2 : hasF o.k 2 = decide (4 ≤ o.k ∧ o.k ≤ 10) := by unfold hasF; rw [if_neg (by decide), if_pos rfl]
  have e4 : hasF o.k 4 = decide (o.k = 7) := by unfold hasF; rw [if_neg (by decide), if_neg (by decide), if_pos rfl]
  have hcase : (hasF o.k 1 = false ∧ hasF o.k 2 = false ∧ hasF o.k 4 = false ∧ usesO o = []) ∨ (hasF o.k 1 = true ∧ hasF o.k 2 = false ∧ hasF o.k 4 = false ∧ usesO o = [(o.pt, o.pr)]) ∨ (hasF o.k 1 = true ∧ hasF o.k 2 = true ∧ hasF o.k 4 = false ∧ usesO o = [(o.pt, o.pr), (o.it, o.ir)]) ∨
      (hasF o.k 1 = true ∧ hasF o.k 2 = true ∧ hasF o.k 4 = true ∧ usesO o = [(o.pt, o.pr), (o.it, o.ir), (o.tt, o.tr)]) ∨ (hasF o.k 1 = false ∧ hasF o.k 2 = true ∧ hasF o.k 4 = false ∧ usesO o = [(o.it, o.ir)]) := by
    rw [e1, e2, e4]
    have h : o.k ≤ 0 ∨ (1 ≤ o.k ∧ o.k ≤ 3) ∨ (4 ≤ o.k ∧ o.k ≤ 6) ∨ o.k = 7 ∨ (8 ≤ o.k ∧ o.k ≤ 10) ∨ 11 ≤ o.k := by omega
    unfold usesO
    rcases h with h | ⟨h, h'⟩ | ⟨h, h'⟩ | h | ⟨h, h'⟩ | h
    · exact Or.inl ⟨decide_eq_false (by omega), decide_eq_false (by omega), decide_eq_false (by omega), by rw [if_neg (by omega), if_neg (by omega), if_neg (by omega)]; rfl⟩
    · exact Or.inr (Or.inl ⟨decide_eq_true (by omega), decide_eq_false (by omega), decide_eq_false (by omega), by rw [if_pos (by omega), if_neg (by omega), if_neg (by omega)]; rfl⟩)
    · exact Or.inr (Or.inr (Or.inl ⟨decide_eq_true (by omega), decide_eq_true (by omega), decide_eq_false (by omega), by rw [if_pos (by omega), if_pos (by omega), if_neg (by omega)]; rfl⟩))
    · exact Or.inr (Or.inr (Or.inr (Or.inl ⟨decide_eq_true (by omega), decide_eq_true (by omega), decide_eq_true (by omega), by rw [if_pos (by omega), if_pos (by omega), if_pos (by omega)]; rfl⟩)))
    · exact Or.inr (Or.inr (Or.inr (Or.inr ⟨decide_eq_false (by omega), decide_eq_true (by omega), decide_eq_false (by omega), by rw [if_neg (by omega), if_pos (by omega), if_neg (by omega)]; rfl⟩)))
    · exact Or.inl ⟨decide_eq_false (by omega), decide_eq_false (by omega), decide_eq_false (by omega), by rw [if_neg (by omega), if_neg (by omega), if_neg (by omega)]; rfl⟩
  have F1 : Hid (∀ (W : World) [Tab W], Calls Tryd.prog 43 #[.int .i64 o.k, .int .i64 1] W fun e w' => e = .returned (.bool (hasF o.k 1)) ∧ W = w') := fun W _ => has_any o.k 1 (by omega) W
  have F2 : Hid (∀ (W : World) [Tab W], Calls Tryd.prog 43 #[.int .i64 o.k, .int .i64 2] W fun e w' => e = .returned (.bool (hasF o.k 2)) ∧ W = w') := fun W _ => has_any o.k 2 (by omega) W
  have F4 : Hid (∀ (W : World) [Tab W], Calls Tryd.prog 43 #[.int .i64 o.k, .int .i64 4] W fun e w' => e = .returned (.bool (hasF o.k 4)) ∧ W = w') := fun W _ => has_any o.k 4 (by omega) W
  clear e1 e2 e4
  generalize hasF o.k 1 = f1 at hcase F1
  generalize hasF o.k 2 = f2 at hcase F2
  generalize hasF o.k 4 = f4 at hcase F4
  rcases hcase with ⟨rfl, rfl, rfl, hE⟩ | ⟨rfl, rfl, rfl, hE⟩ | ⟨rfl, rfl, rfl, hE⟩ | ⟨rfl, rfl, rfl, hE⟩ | ⟨rfl, rfl, rfl, hE⟩
  · rw [hE]
    clear hE
    go_enter Tryd.func21, Tryd.ntmps21
    go_upto_region 1 with fail
    have hh0 : (w.alloc (.cells (opA o) 25)).heap[w.heap.size]? = some (.cells (opA o) 25 (0, 0)) := heap_alloc_new w _
    have hB0 : Below w.heap.size w (w.alloc (.cells (opA o) 25)) := (Below.refl _ _).alloc (Nat.le_refl _) _
    have hs0 : w.heap.size < (w.alloc (.cells (opA o) 25)).heap.size := heap_lt hh0
    have iw0 : Tab (w.alloc (.cells (opA o) 25)) := inferInstance
    change Code.wp _ _ _ _ (w.alloc (.cells (opA o) 25))
    generalize w.alloc (.cells (opA o) 25) = w0 at hh0 hB0 hs0 iw0 ⊢
    have hc0 := op_cells hh0
    have own0 : w0.ownsRow w0.heap.size 23 2 (.slice none 0 0) 0 (flat []) := World.ownsRow_nil _ _ _ _
    have hb0 : Below w0.heap.size w0 w0 := Below.refl _ _
    go_wp2_with fail
    refine (F1.out _).mono ?_
    rintro e w' ⟨rfl, rfl⟩
    go_wp2_with fail
    refine (F2.out _).mono ?_
    rintro e w' ⟨rfl, rfl⟩
    go_wp2_with fail
    refine (F4.out _).mono ?_
    rintro e w' ⟨rfl, rfl⟩
    go_wp2_with fail
    go_ret
    exact ⟨none, 0, rfl, ⟨rfl, fun h => absurd h (by simp)⟩, by simp, by decide, hB0⟩
  · rw [hE]
    clear hE
    go_enter Tryd.func21, Tryd.ntmps21
    go_upto_region 1 with fail
    have hh0 : (w.alloc (.cells (opA o) 25)).heap[w.heap.size]? = some (.cells (opA o) 25 (0, 0)) := heap_alloc_new w _
    have hB0 : Below w.heap.size w (w.alloc (.cells (opA o) 25)) := (Below.refl _ _).alloc (Nat.le_refl _) _
    have hs0 : w.heap.size < (w.alloc (.cells (opA o) 25)).heap.size := heap_lt hh0
    have iw0 : Tab (w.alloc (.cells (opA o) 25)) := inferInstance
    change Code.wp _ _ _ _ (w.alloc (.cells (opA o) 25))
    generalize w.alloc (.cells (opA o) 25) = w0 at hh0 hB0 hs0 iw0 ⊢
    have hc0 := op_cells hh0
    have own0 : w0.ownsRow w0.heap.size 23 2 (.slice none 0 0) 0 (flat []) := World.ownsRow_nil _ _ _ _
    have hb0 : Below w0.heap.size w0 w0 := Below.refl _ _
    go_wp2_with fail
    refine (F1.out _).mono ?_
    rintro e w' ⟨rfl, rfl⟩
    go_wp2_with (at_builtin; refine wpList_append_own _ rfl (.tmp 7) (.tmp 10) 37 rfl w0.heap.size 23 i0 _ 2 16 Tryd.underlying37 hi0 hz0 hz1 hz2 rfl (by decide) _ _ _ rfl (own0.alloc _) ⟨w0.heap.size, 0, none⟩ 1 1 (flat [(o.pt, o.pr)]) rfl rfl (pair_there w0 _ _ _) (flat_one _) (by decide) (by omega) (by have := hb0.size; rw [World.size_alloc]; omega) ?_; intro v1 w1 own1 hg1 _; simp only [Nat.zero_add, flat_nil, List.nil_append] at own1; have hb1 : Below w0.heap.size w0 w1 := (hb0.alloc hb0.size _).grown hg1 (by have := hb0.size; rw [World.size_alloc]; omega) (fun q hq => (own0.lt q hq).1); have hc1 := op_cells ((hb1.block _ hs0).trans hh0); have iw1 : Tab w1 := tab_step hb1; clear hg1)
    refine (F2.out _).mono ?_
    rintro e w' ⟨rfl, rfl⟩
    go_wp2_with fail
    refine (F4.out _).mono ?_
    rintro e w' ⟨rfl, rfl⟩
    go_wp2_with fail
    go_ret
    exact list_own own1 (by omega) (below_step hB0 hb1)
  · rw [hE]
    clear hE
    go_enter Tryd.func21, Tryd.ntmps21
    go_upto_region 1 with fail
    have hh0 : (w.alloc (.cells (opA o) 25)).heap[w.heap.size]? = some (.cells (opA o) 25 (0, 0)) := heap_alloc_new w _
    have hB0 : Below w.heap.size w (w.alloc (.cells (opA o) 25)) := (Below.refl _ _).alloc (Nat.le_refl _) _
    have hs0 : w.heap.size < (w.alloc (.cells (opA o) 25)).heap.size := heap_lt hh0
    have iw0 : Tab (w.alloc (.cells (opA o) 25)) := inferInstance
    change Code.wp _ _ _ _ (w.alloc (.cells (opA o) 25))
    generalize w.alloc (.cells (opA o) 25) = w0 at hh0 hB0 hs0 iw0 ⊢
    have hc0 := op_cells hh0
    have own0 : w0.ownsRow w0.heap.size 23 2 (.slice none 0 0) 0 (flat []) := World.ownsRow_nil _ _ _ _
    have hb0 : Below w0.heap.size w0 w0 := Below.refl _ _
    go_wp2_with fail
    refine (F1.out _).mono ?_
    rintro e w' ⟨rfl, rfl⟩
    go_wp2_with (at_builtin; refine wpList_append_own _ rfl (.tmp 7) (.tmp 10) 37 rfl w0.heap.size 23 i0 _ 2 16 Tryd.underlying37 hi0 hz0 hz1 hz2 rfl (by decide) _ _ _ rfl (own0.alloc _) ⟨w0.heap.size, 0, none⟩ 1 1 (flat [(o.pt, o.pr)]) rfl rfl (pair_there w0 _ _ _) (flat_one _) (by decide) (by omega) (by have := hb0.size; rw [World.size_alloc]; omega) ?_; intro v1 w1 own1 hg1 _; simp only [Nat.zero_add, flat_nil, List.nil_append] at own1; have hb1 : Below w0.heap.size w0 w1 := (hb0.alloc hb0.size _).grown hg1 (by have := hb0.size; rw [World.size_alloc]; omega) (fun q hq => (own0.lt q hq).1); have hc1 := op_cells ((hb1.block _ hs0).trans hh0); have iw1 : Tab w1 := tab_step hb1; clear hg1)
    refine (F2.out _).mono ?_
    rintro e w' ⟨rfl, rfl⟩
    go_wp2_with (at_builtin; refine wpList_append_own _ rfl (.tmp 15) (.tmp 18) 37 rfl w0.heap.size 23 i0 _ 2 16 Tryd.underlying37 hi0 hz0 hz1 hz2 rfl (by decide) _ _ _ rfl (own1.alloc _) ⟨w1.heap.size, 0, none⟩ 1 1 (flat [(o.it, o.ir)]) rfl rfl (pair_there w1 _ _ _) (flat_one _) (by decide) (by omega) (by have := hb1.size; rw [World.size_alloc]; omega) ?_; intro v2 w2 own2 hg2 _; have own2 : w2.ownsRow w0.heap.size 23 2 v2 2 (flat [(o.pt, o.pr), (o.it, o.ir)]) := own2; have hb2 : Below w0.heap.size w0 w2 := (hb1.alloc hb1.size _).grown hg2 (by have := hb1.size; rw [World.size_alloc]; omega) (fun q hq => (own1.lt q hq).1); have hc2 := op_cells ((hb2.block _ hs0).trans hh0); have iw2 : Tab w2 := tab_step hb2; clear hg2)
    refine (F4.out _).mono ?_
    rintro e w' ⟨rfl, rfl⟩
    go_wp2_with fail
    go_ret
    exact list_own own2 (by omega) (below_step hB0 hb2)
  · rw [hE]
    clear hE
    go_enter Tryd.func21, Tryd.ntmps21
    go_upto_region 1 with fail
    have hh0 : (w.alloc (.cells (opA o) 25)).heap[w.heap.size]? = some (.cells (opA o) 25 (0, 0)) := heap_alloc_new w _
    have hB0 : Below w.heap.size w (w.alloc (.cells (opA o) 25)) := (Below.refl _ _).alloc (Nat.le_refl _) _
    have hs0 : w.heap.size < (w.alloc (.cells (opA o) 25)).heap.size := heap_lt hh0
    have iw0 : Tab (w.alloc (.cells (opA o) 25)) := inferInstance
    change Code.wp _ _ _ _ (w.alloc (.cells (opA o) 25))
    generalize w.alloc (.cells (opA o) 25) = w0 at hh0 hB0 hs0 iw0 ⊢
    have hc0 := op_cells hh0
    have own0 : w0.ownsRow w0.heap.size 23 2 (.slice none 0 0) 0 (flat []) := World.ownsRow_nil _ _ _ _
    have hb0 : Below w0.heap.size w0 w0 := Below.refl _ _
    go_wp2_with fail
    refine (F1.out _).mono ?_
    rintro e w' ⟨rfl, rfl⟩
    go_wp2_with (at_builtin; refine wpList_append_own _ rfl (.tmp 7) (.tmp 10) 37 rfl w0.heap.size 23 i0 _ 2 16 Tryd.underlying37 hi0 hz0 hz1 hz2 rfl (by decide) _ _ _ rfl (own0.alloc _) ⟨w0.heap.size, 0, none⟩ 1 1 (flat [(o.pt, o.pr)]) rfl rfl (pair_there w0 _ _ _) (flat_one _) (by decide) (by omega) (by have := hb0.size; rw [World.size_alloc]; omega) ?_; intro v1 w1 own1 hg1 _; simp only [Nat.zero_add, flat_nil, List.nil_append] at own1; have hb1 : Below w0.heap.size w0 w1 := (hb0.alloc hb0.size _).grown hg1 (by have := hb0.size; rw [World.size_alloc]; omega) (fun q hq => (own0.lt q hq).1); have hc1 := op_cells ((hb1.block _ hs0).trans hh0); have iw1 : Tab w1 := tab_step hb1; clear hg1)
    refine (F2.out _).mono ?_
    rintro e w' ⟨rfl, rfl⟩
    go_wp2_with (at_builtin; refine wpList_append_own _ rfl (.tmp 15) (.tmp 18) 37 rfl w0.heap.size 23 i0 _ 2 16 Tryd.underlying37 hi0 hz0 hz1 hz2 rfl (by decide) _ _ _ rfl (own1.alloc _) ⟨w1.heap.size, 0, none⟩ 1 1 (flat [(o.it, o.ir)]) rfl rfl (pair_there w1 _ _ _) (flat_one _) (by decide) (by omega) (by have := hb1.size; rw [World.size_alloc]; omega) ?_; intro v2 w2 own2 hg2 _; have own2 : w2.ownsRow w0.heap.size 23 2 v2 2 (flat [(o.pt, o.pr), (o.it, o.ir)]) := own2; have hb2 : Below w0.heap.size w0 w2 := (hb1.alloc hb1.size _).grown hg2 (by have := hb1.size; rw [World.size_alloc]; omega) (fun q hq => (own1.lt q hq).1); have hc2 := op_cells ((hb2.block _ hs0).trans hh0); have iw2 : Tab w2 := tab_step hb2; clear hg2)
    refine (F4.out _).mono ?_
    rintro e w' ⟨rfl, rfl⟩
    go_wp2_with (at_builtin; refine wpList_append_own _ rfl (.tmp 23) (.tmp 26) 37 rfl w0.heap.size 23 i0 _ 2 16 Tryd.underlying37 hi0 hz0 hz1 hz2 rfl (by decide) _ _ _ rfl (own2.alloc _) ⟨w2.heap.size, 0, none⟩ 1 1 (flat [(o.tt, o.tr)]) rfl rfl (pair_there w2 _ _ _) (flat_one _) (by decide) (by omega) (by have := hb2.size; rw [World.size_alloc]; omega) ?_; intro v3 w3 own3 hg3 _; have own3 : w3.ownsRow w0.heap.size 23 2 v3 3 (flat [(o.pt, o.pr), (o.it, o.ir), (o.tt, o.tr)]) := own3; have hb3 : Below w0.heap.size w0 w3 := (hb2.alloc hb2.size _).grown hg3 (by have := hb2.size; rw [World.size_alloc]; omega) (fun q hq => (own2.lt q hq).1); have hc3 := op_cells ((hb3.block _ hs0).trans hh0); have iw3 : Tab w3 := tab_step hb3; clear hg3)
    go_ret
    exact list_own own3 (by omega) (below_step hB0 hb3)
  · rw [hE]
    clear hE
    go_enter Tryd.func21, Tryd.ntmps21
    go_upto_region 1 with fail
    have hh0 : (w.alloc (.cells (opA o) 25)).heap[w.heap.size]? = some (.cells (opA o) 25 (0, 0)) := heap_alloc_new w _
    have hB0 : Below w.heap.size w (w.alloc (.cells (opA o) 25)) := (Below.refl _ _).alloc (Nat.le_refl _) _
    have hs0 : w.heap.size < (w.alloc (.cells (opA o) 25)).heap.size := heap_lt hh0
    have iw0 : Tab (w.alloc (.cells (opA o) 25)) := inferInstance
    change Code.wp _ _ _ _ (w.alloc (.cells (opA o) 25))
    generalize w.alloc (.cells (opA o) 25) = w0 at hh0 hB0 hs0 iw0 ⊢
    have hc0 := op_cells hh0
    have own0 : w0.ownsRow w0.heap.size 23 2 (.slice none 0 0) 0 (flat []) := World.ownsRow_nil _ _ _ _
    have hb0 : Below w0.heap.size w0 w0 := Below.refl _ _
    go_wp2_with fail
    refine (F1.out _).mono ?_
    rintro e w' ⟨rfl, rfl⟩
    go_wp2_with fail
    refine (F2.out _).mono ?_
    rintro e w' ⟨rfl, rfl⟩
    go_wp2_with (at_builtin; refine wpList_append_own _ rfl (.tmp 15) (.tmp 18) 37 rfl w0.heap.size 23 i0 _ 2 16 Tryd.underlying37 hi0 hz0 hz1 hz2 rfl (by decide) _ _ _ rfl (own0.alloc _) ⟨w0.heap.size, 0, none⟩ 1 1 (flat [(o.it, o.ir)]) rfl rfl (pair_there w0 _ _ _) (flat_one _) (by decide) (by omega) (by have := hb0.size; rw [World.size_alloc]; omega) ?_; intro v1 w1 own1 hg1 _; simp only [Nat.zero_add, flat_nil, List.nil_append] at own1; have hb1 : Below w0.heap.size w0 w1 := (hb0.alloc hb0.size _).grown hg1 (by have := hb0.size; rw [World.size_alloc]; omega) (fun q hq => (own0.lt q hq).1); have hc1 := op_cells ((hb1.block _ hs0).trans hh0); have iw1 : Tab w1 := tab_step hb1; clear hg1)
    refine (F4.out _).mono ?_
    rintro e w' ⟨rfl, rfl⟩
    go_wp2_with fail
    go_ret
    exact list_own own1 (by omega) (below_step hB0 hb1)

end Go.Proofs.YteknegfocnopgaaDoor

/-
  The walks of op's taking: what is left, the next number, stamp, text.
-/
namespace Go.Proofs.YteknegfocnopgaaDoor
open Go.RowKit OpMath StampMath PackMath

/-- The first of two numbers that is not zero. -/
def or2 (a b : Int) : Int := if a = 0 then b else a

theorem or2_zero (a b : Int) : or2 a b = 0 ↔ a = 0 ∧ b = 0 := by
  unfold or2
  by_cases h : a = 0
  · rw [if_pos h]; exact ⟨fun e => ⟨h, e⟩, fun e => e.2⟩
  · rw [if_neg h]; exact ⟨fun e => absurd e h, fun e => e.1⟩

set_option maxHeartbeats 400000 in
theorem orErr_any (g : Nat) (a b : Int) (W : World) (h0 : W.cell? ⟨g, 0, none⟩ = some (.int .i64 a)) (h1 : W.cell? ⟨g, 1, none⟩ = some (.int .i64 b)) :
    Calls Tryd.prog 58 #[.slice (some ⟨g, 0, none⟩) 2 2] W fun e w' => e = .returned (.int .i64 (or2 a b)) ∧ W = w' := by
  go_enter Tryd.func58, Tryd.ntmps58
  go_wp2_with fail
  go_loop [8] (fun i => ∃ k : Nat, i = .int .i64 (k : Int) ∧ k ≤ 2 ∧ (0 < k → a = 0) ∧ (1 < k → b = 0)) (fun i => 2 - (intOf i).toNat)
  case atStart => exact ⟨0, rfl, by omega, by omega, by omega⟩
  case round =>
    obtain ⟨k, rfl, hk, ha, hb⟩ := hrel
    have HA := Lib.hid ha
    have HB := Lib.hid hb
    clear ha hb
    have hk3 : k = 0 ∨ k = 1 ∨ k = 2 := by omega
    clear hk
    rcases hk3 with rfl | rfl | rfl
    · by_cases hz : a = 0
      · have hz' : (a == 0) = true := by simp [hz]
        have HZ := Lib.hid hz
        clear hz
        go_wp2_with fail
        exact ⟨⟨1, by go_num, by omega, fun _ => HZ.out, by omega⟩, by simp [intOf]⟩
      · have hz' : (a == 0) = false := by simp [hz]
        have HZ := Lib.hid hz
        clear hz
        go_wp2_with fail
        go_ret
        exact ⟨by rw [or2, if_neg HZ.out]; rfl, rfl⟩
    · by_cases hz : b = 0
      · have hz' : (b == 0) = true := by simp [hz]
        have HZ := Lib.hid hz
        clear hz
        go_wp2_with fail
        exact ⟨⟨2, by go_num, by omega, fun _ => HA.out (by omega), fun _ => HZ.out⟩, by simp [intOf]⟩
      · have hz' : (b == 0) = false := by simp [hz]
        have HZ := Lib.hid hz
        clear hz
        go_wp2_with fail
        go_ret
        exact ⟨by rw [or2, if_pos (HA.out (by omega))]; rfl, rfl⟩
    · go_wp2_with fail
      go_ret
      exact ⟨by rw [or2, if_pos (HA.out (by omega)), HB.out (by omega)]; rfl, rfl⟩

/-- What is left, and the first error, lie in a block. -/
def takeA (r : ByteArray) (e : Int) : Array Value := #[.string r, .int .i64 e]

theorem left_any (g : Nat) (r0 r : ByteArray) (e0 e : Int) (W : World) (hg : W.heap[g]? = some (.cells (takeA r0 e0) 45 (0, 0))) :
    Calls Tryd.prog 45 #[.pointer (some ⟨g, 0, none⟩), .string r, .int .i64 e] W fun ex w' => ex = .returned (.tuple #[]) ∧ w'.heap[g]? = some (.cells (takeA r (or2 e0 e)) 45 (0, 0)) ∧ But (fun i => i = g) W w' := by
  have c0 : W.cell? ⟨g, 0, none⟩ = some (.string r0) := cell_of_row _ _ 0 _ _ (0, 0) hg
  have c1 : W.cell? ⟨g, 1, none⟩ = some (.int .i64 e0) := cell_of_row _ _ 1 _ _ (0, 0) hg
  have f0 : W.frozen? ⟨g, 0, none⟩ = false := frozen_of_row _ _ 0 _ _ hg
  have f1 : W.frozen? ⟨g, 1, none⟩ = false := frozen_of_row _ _ 1 _ _ hg
  have hl := heap_lt hg
  go_enter Tryd.func45, Tryd.ntmps45
  go_wp2_with fail
  refine (orErr_any W.heap.size e0 e _ (cell_of_row _ _ 0 _ _ (0, 0) (heap_alloc_new W _)) (cell_of_row _ _ 1 _ _ (0, 0) (heap_alloc_new W _))).mono ?_
  rintro _ w' ⟨rfl, rfl⟩
  go_wp2_with fail
  have h1 : ((W.setCell ⟨g, 0, none⟩ (.string r)).setCell ⟨g, 1, none⟩ (.int .i64 (or2 e0 e))).heap[g]? = some (.cells (takeA r (or2 e0 e)) 45 (0, 0)) := by
    rw [heap_setCell_same _ _ _ _ _ _ (heap_setCell_same _ _ _ _ _ _ hg)]
    rfl
  refine bodyPost_end (results_none rfl _ _ _) rfl ⟨rfl, ?_, ?_⟩
  · rw [heap_alloc_old _ _ (heap_lt h1)]
    exact h1
  · have b0 : But (fun i => i = g) W W := But.refl _ W
    have b1 : But (fun i => i = g) W (W.setCell ⟨g, 0, none⟩ (.string r)) := b0.setCell (p := ⟨g, 0, none⟩) (Or.inl rfl) _
    have b2 : But (fun i => i = g) W ((W.setCell ⟨g, 0, none⟩ (.string r)).setCell ⟨g, 1, none⟩ (.int .i64 (or2 e0 e))) := b1.setCell (p := ⟨g, 1, none⟩) (Or.inl rfl) _
    exact b2.alloc _

/-- A text's, a stamp's, a number's three results. -/
def textM (most : Int) (l : List UInt8) : List UInt8 × List UInt8 × Int := match textL l most with | none => ([], [], 2) | some (a, b) => (a, b, 0)
def stampP (l : List UInt8) : Int × Int × List UInt8 × Int := match stampL l with | none => (0, 0, [], 2) | some (t, r, u) => (t, r, u, 0)

theorem textM_len (most : Int) (l : List UInt8) : (textM most l).2.1.length ≤ l.length := by
  unfold textM
  cases h : textL l most with
  | none => exact Nat.zero_le _
  | some p => exact (text_lens h).2.1

theorem stampP_len (l : List UInt8) : (stampP l).2.2.1.length ≤ l.length := by
  unfold stampP
  cases h : stampL l with
  | none => exact Nat.zero_le _
  | some p => exact (stampL_very h).2.2.2.2

theorem code_int (s : ByteArray) (hs : s.size ≤ 30000) (W : World) : Calls Tryd.prog 44 #[.string s] W fun e w' => e = .returned (.tuple #[.int .i64 (intP s.data.toList).1, .string ⟨(intP s.data.toList).2.1.toArray⟩, .int .i64 (intP s.data.toList).2.2]) ∧ Below W.heap.size W w' := by
  cases h : takeL s.data.toList with
  | none => simp only [intP, h]; exact takeInt_none s hs h W
  | some p => obtain ⟨m, t⟩ := p; simp only [intP, h]; exact takeInt_some s hs m t h W

theorem code_text (s : ByteArray) (hs : s.size ≤ 30000) (most : Int) (hm : IsI64 most) (W : World) : Calls Tryd.prog 47 #[.string s, .int .i64 most] W fun e w' => e = .returned (.tuple #[.string ⟨(textM most s.data.toList).1.toArray⟩, .string ⟨(textM most s.data.toList).2.1.toArray⟩, .int .i64 (textM most s.data.toList).2.2]) ∧ Below W.heap.size W w' := by
  have H := takeText_any s hs most hm W
  cases h : textL s.data.toList most with
  | none => rw [h] at H; simp only [textM, h]; exact H
  | some p => obtain ⟨a, b⟩ := p; rw [h] at H; simp only [textM, h]; exact H

theorem code_stamp (s : ByteArray) (hs : s.size ≤ 30000) (W : World) : Calls Tryd.prog 46 #[.string s] W fun e w' => e = .returned (.tuple #[.agg #[.int .i64 (stampP s.data.toList).1, .int .i64 (stampP s.data.toList).2.1], .string ⟨(stampP s.data.toList).2.2.1.toArray⟩, .int .i64 (stampP s.data.toList).2.2.2]) ∧ Below W.heap.size W w' := by
  have H := stampTake_any s W hs
  cases h : stampL s.data.toList with
  | none => rw [h] at H; simp only [stampP, h]; exact H
  | some p => obtain ⟨t, r, u⟩ := p; rw [h] at H; simp only [stampP, h]; exact H

theorem number_core (g : Nat) (r0 r1 : ByteArray) (e0 e1 n : Int) (W : World) (hg : W.heap[g]? = some (.cells (takeA r0 e0) 45 (0, 0)))
    (C : Hid (∀ W : World, Calls Tryd.prog 44 #[.string r0] W fun e w' => e = .returned (.tuple #[.int .i64 n, .string r1, .int .i64 e1]) ∧ Below W.heap.size W w')) :
    Calls Tryd.prog 23 #[.pointer (some ⟨g, 0, none⟩)] W fun ex w' => ex = .returned (.int .i64 n) ∧ w'.heap[g]? = some (.cells (takeA r1 (or2 e0 e1)) 45 (0, 0)) ∧ But (fun i => i = g) W w' := by
  have c0 : W.cell? ⟨g, 0, none⟩ = some (.string r0) := cell_of_row _ _ 0 _ _ (0, 0) hg
  go_enter Tryd.func23, Tryd.ntmps23
  go_wp2_with fail
  refine (C.out _).mono ?_
  rintro e w1 ⟨rfl, hb⟩
  have hg1 := (hb.block _ (heap_lt hg)).trans hg
  go_wp2_with fail
  refine (left_any g r0 r1 e0 e1 w1 hg1).mono ?_
  rintro e w2 ⟨rfl, h2, b2⟩
  go_wp2_with fail
  go_ret
  exact ⟨rfl, h2, (But.of_below hb).trans b2 (fun _ h _ => h)⟩

theorem text_core (g : Nat) (r0 r1 v : ByteArray) (e0 e1 most : Int) (W : World) (hg : W.heap[g]? = some (.cells (takeA r0 e0) 45 (0, 0)))
    (C : Hid (∀ W : World, Calls Tryd.prog 47 #[.string r0, .int .i64 most] W fun e w' => e = .returned (.tuple #[.string v, .string r1, .int .i64 e1]) ∧ Below W.heap.size W w')) :
    Calls Tryd.prog 25 #[.pointer (some ⟨g, 0, none⟩), .int .i64 most] W fun ex w' => ex = .returned (.string v) ∧ w'.heap[g]? = some (.cells (takeA r1 (or2 e0 e1)) 45 (0, 0)) ∧ But (fun i => i = g) W w' := by
  have c0 : W.cell? ⟨g, 0, none⟩ = some (.string r0) := cell_of_row _ _ 0 _ _ (0, 0) hg
  go_enter Tryd.func25, Tryd.ntmps25
  go_wp2_with fail
  refine (C.out _).mono ?_
  rintro e w1 ⟨rfl, hb⟩
  have hg1 := (hb.block _ (heap_lt hg)).trans hg
  go_wp2_with fail
  refine (left_any g r0 r1 e0 e1 w1 hg1).mono ?_
  rintro e w2 ⟨rfl, h2, b2⟩
  go_wp2_with fail
  go_ret
  exact ⟨rfl, h2, (But.of_below hb).trans b2 (fun _ h _ => h)⟩

theorem stamp_core (g : Nat) (r0 r1 : ByteArray) (e0 e1 t r : Int) (W : World) (hg : W.heap[g]? = some (.cells (takeA r0 e0) 45 (0, 0)))
    (C : Hid (∀ W : World, Calls Tryd.prog 46 #[.string r0] W fun e w' => e = .returned (.tuple #[.agg #[.int .i64 t, .int .i64 r], .string r1, .int .i64 e1]) ∧ Below W.heap.size W w')) :
    Calls Tryd.prog 24 #[.pointer (some ⟨g, 0, none⟩)] W fun ex w' => ex = .returned (.agg #[.int .i64 t, .int .i64 r]) ∧ w'.heap[g]? = some (.cells (takeA r1 (or2 e0 e1)) 45 (0, 0)) ∧ But (fun i => i = g) W w' := by
  have c0 : W.cell? ⟨g, 0, none⟩ = some (.string r0) := cell_of_row _ _ 0 _ _ (0, 0) hg
  have hl := heap_lt hg
  have hn := heap_alloc_new W (.cells #[.int .i64 0, .int .i64 0] 23)
  have hg0 := (heap_alloc_old W (.cells #[.int .i64 0, .int .i64 0] 23) hl).trans hg
  go_enter Tryd.func24, Tryd.ntmps24
  go_wp2_with fail
  refine (C.out _).mono ?_
  rintro e w1 ⟨rfl, hb⟩
  have b1 : Below (W.alloc (.cells #[.int .i64 0, .int .i64 0] 23)).heap.size (W.alloc (.cells #[.int .i64 0, .int .i64 0] 23)) w1 := hb
  have hg1 := (b1.block _ (heap_lt hg0)).trans hg0
  have hn1 := (b1.block _ (heap_lt hn)).trans hn
  have hl1 := heap_lt hg1
  have hm1 := heap_lt hn1
  have hg2 := (heap_alloc_old w1 (.cells #[.int .i64 t, .int .i64 r] 23) hl1).trans hg1
  have hn2 := (heap_alloc_old w1 (.cells #[.int .i64 t, .int .i64 r] 23) hm1).trans hn1
  have hs2 := heap_alloc_new w1 (.cells #[.int .i64 t, .int .i64 r] 23)
  have hne : w1.heap.size ≠ g := by omega
  have hne2 : W.heap.size ≠ g := by omega
  go_wp2_with fail
  refine (left_any g r0 r1 e0 e1 _ hg2).mono ?_
  rintro e w2 ⟨rfl, h2, b2⟩
  have hn3 := b2.heap hn2 hne2
  have hs3 := b2.heap hs2 hne
  have z0 : w2.cell? ⟨W.heap.size, 0, none⟩ = some (.int .i64 0) := cell_of_row _ _ 0 _ _ (0, 0) hn3
  have z1 : w2.cell? ⟨W.heap.size, 1, none⟩ = some (.int .i64 0) := cell_of_row _ _ 1 _ _ (0, 0) hn3
  have f0 : w2.frozen? ⟨W.heap.size, 0, none⟩ = false := frozen_of_row _ _ 0 _ _ hn3
  have f1 : w2.frozen? ⟨W.heap.size, 1, none⟩ = false := frozen_of_row _ _ 1 _ _ hn3
  have s0 : w2.cell? ⟨w1.heap.size, 0, none⟩ = some (.int .i64 t) := cell_of_row _ _ 0 _ _ (0, 0) hs3
  have s1 : w2.cell? ⟨w1.heap.size, 1, none⟩ = some (.int .i64 r) := cell_of_row _ _ 1 _ _ (0, 0) hs3
  have B2 : But (fun i => i = g) W w2 := ((But.of_below (((Below.refl _ W).alloc (Nat.le_refl _) _).trans (b1.mono (by rw [World.size_alloc]; omega)))).alloc _).trans b2 (fun _ h _ => h)
  have HB := Lib.hid B2
  have H2 := Lib.hid h2
  clear hb b1 hg1 hn1 hg2 hn2 hs2 h2 b2 hn3 hs3 B2 hg hg0 hn
  go_wp2_with fail
  have hb0 : ((w2.setCell ⟨W.heap.size, 0, none⟩ (.int .i64 t)).setCell ⟨W.heap.size, 1, none⟩ (.int .i64 r)).heap[g]? = some (.cells (takeA r1 (or2 e0 e1)) 45 (0, 0)) :=
    (heap_setCell_other _ _ _ _ (Ne.symm hne2)).trans ((heap_setCell_other _ _ _ _ (Ne.symm hne2)).trans H2.out)
  exact bodyPost_ret (v := .agg #[.int .i64 t, .int .i64 r]) (by simp [results, Tryd.results24, go_sem, z0, z1]) rfl
    ⟨rfl, hb0, (HB.out.setCell (p := ⟨W.heap.size, 0, none⟩) (Or.inr (Nat.le_refl _)) _).setCell (p := ⟨W.heap.size, 1, none⟩) (Or.inr (Nat.le_refl _)) _⟩

end Go.Proofs.YteknegfocnopgaaDoor
