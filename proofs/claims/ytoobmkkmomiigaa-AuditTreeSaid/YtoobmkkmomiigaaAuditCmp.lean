/-
  The landed audit's orders, and whether a list rises (made by gen_auditcmp.py).
-/
import Derived.Test.YtoobmkkmomiigaaCmpStr
import Derived.Test.YtoobmkkmomiigaaAuditCodeB
import Derived.Deep.LoopGhost
import Derived.BigQuiet
namespace Go.Proofs.Ytoobmkkmomiigaa
open Go.RowKit StampMath GraphMath OpMath

set_option maxRecDepth 100000 in
set_option maxHeartbeats 1600000 in
theorem auAhead_grown (x y : Ent) (w : World) :
    Calls Try.prog 39 #[.agg (entA x), .agg (entA y)] w fun e w' => e = .returned (.int .i64 (aheadI x y)) ∧ Grown w w' := by
  have hv : or2 (cmp x.dir.1 x.dir.2 y.dir.1 y.dir.2) (cmpB x.name.data.toList y.name.data.toList) = aheadI x y := rfl
  obtain ⟨⟨xd1, xd2⟩, xn, ⟨xi1, xi2⟩⟩ := x
  obtain ⟨⟨yd1, yd2⟩, yn, ⟨yi1, yi2⟩⟩ := y
  unfold entA
  obtain ⟨c, hc⟩ : ∃ c, c = cmp xd1 xd2 yd1 yd2 := ⟨_, rfl⟩
  obtain ⟨k, hk⟩ : ∃ k, k = cmpB xn.data.toList yn.data.toList := ⟨_, rfl⟩
  simp only [← hc, ← hk] at hv
  have HC : Hid (∀ W : World, Calls Try.prog 12 #[.agg #[.int .i64 xd1, .int .i64 xd2], .agg #[.int .i64 yd1, .int .i64 yd2]] W fun e w' => e = .returned (.int .i64 c) ∧ Grown W w') := fun W => by rw [hc]; exact compare_grown _ _ _ _ W
  have HK : Hid (∀ W : World, Calls Try.prog 60 #[.string xn, .string yn] W fun e w' => e = .returned (.int .i64 k) ∧ W = w') := fun W => by rw [hk]; exact compareStr _ _ W
  have HV := Lib.hid hv
  clear hv hc hk
  go_enter Try.func39, Try.ntmps39
  go_wp2_with fail
  have hS0 : (((w.alloc (.cells #[.int .i64 xd1, .int .i64 xd2, .string xn, .int .i64 xi1, .int .i64 xi2] 33)).alloc (.cells #[.int .i64 yd1, .int .i64 yd2, .string yn, .int .i64 yi1, .int .i64 yi2] 33)).drew.cell? ⟨w.heap.size, 0, none⟩ = some (.int .i64 xd1) ∧ ((w.alloc (.cells #[.int .i64 xd1, .int .i64 xd2, .string xn, .int .i64 xi1, .int .i64 xi2] 33)).alloc (.cells #[.int .i64 yd1, .int .i64 yd2, .string yn, .int .i64 yi1, .int .i64 yi2] 33)).drew.cell? ⟨w.heap.size, 1, none⟩ = some (.int .i64 xd2) ∧ ((w.alloc (.cells #[.int .i64 xd1, .int .i64 xd2, .string xn, .int .i64 xi1, .int .i64 xi2] 33)).alloc (.cells #[.int .i64 yd1, .int .i64 yd2, .string yn, .int .i64 yi1, .int .i64 yi2] 33)).drew.cell? ⟨w.heap.size, 2, none⟩ = some (.string xn) ∧ ((w.alloc (.cells #[.int .i64 xd1, .int .i64 xd2, .string xn, .int .i64 xi1, .int .i64 xi2] 33)).alloc (.cells #[.int .i64 yd1, .int .i64 yd2, .string yn, .int .i64 yi1, .int .i64 yi2] 33)).drew.cell? ⟨w.heap.size + 1, 0, none⟩ = some (.int .i64 yd1) ∧ ((w.alloc (.cells #[.int .i64 xd1, .int .i64 xd2, .string xn, .int .i64 xi1, .int .i64 xi2] 33)).alloc (.cells #[.int .i64 yd1, .int .i64 yd2, .string yn, .int .i64 yi1, .int .i64 yi2] 33)).drew.cell? ⟨w.heap.size + 1, 1, none⟩ = some (.int .i64 yd2) ∧ ((w.alloc (.cells #[.int .i64 xd1, .int .i64 xd2, .string xn, .int .i64 xi1, .int .i64 xi2] 33)).alloc (.cells #[.int .i64 yd1, .int .i64 yd2, .string yn, .int .i64 yi1, .int .i64 yi2] 33)).drew.cell? ⟨w.heap.size + 1, 2, none⟩ = some (.string yn)) ∧ Grown w ((w.alloc (.cells #[.int .i64 xd1, .int .i64 xd2, .string xn, .int .i64 xi1, .int .i64 xi2] 33)).alloc (.cells #[.int .i64 yd1, .int .i64 yd2, .string yn, .int .i64 yi1, .int .i64 yi2] 33)).drew := by
    refine ⟨⟨?_, ?_, ?_, ?_, ?_, ?_⟩, (((Grown.refl _).alloc _).alloc _).drew⟩
    · exact cell_of_row _ _ 0 _ _ (0, 0) (heap_alloc2_old w _ _)
    · exact cell_of_row _ _ 1 _ _ (0, 0) (heap_alloc2_old w _ _)
    · exact cell_of_row _ _ 2 _ _ (0, 0) (heap_alloc2_old w _ _)
    · exact cell_of_row _ _ 0 _ _ (0, 0) (heap_alloc2_new w _ _)
    · exact cell_of_row _ _ 1 _ _ (0, 0) (heap_alloc2_new w _ _)
    · exact cell_of_row _ _ 2 _ _ (0, 0) (heap_alloc2_new w _ _)
  go_region_held3 (fun W => (W.cell? ⟨w.heap.size, 0, none⟩ = some (.int .i64 xd1) ∧ W.cell? ⟨w.heap.size, 1, none⟩ = some (.int .i64 xd2) ∧ W.cell? ⟨w.heap.size, 2, none⟩ = some (.string xn) ∧ W.cell? ⟨w.heap.size + 1, 0, none⟩ = some (.int .i64 yd1) ∧ W.cell? ⟨w.heap.size + 1, 1, none⟩ = some (.int .i64 yd2) ∧ W.cell? ⟨w.heap.size + 1, 2, none⟩ = some (.string yn)) ∧ Grown w W) (first | assumption | exact cells6_alloc _ (by assumption) | (refine ⟨⟨?_, ?_, ?_, ?_, ?_, ?_⟩, ?_⟩ <;> assumption))
    (first
      | (go_at_call 12; (with_reducible refine (HC.out _).mono ?_); rintro e w' ⟨rfl, hg⟩; have hS := cells6_later hg ‹(_ ∧ _ ∧ _ ∧ _ ∧ _ ∧ _) ∧ Grown w _›)
      | (go_at_call 60; (with_reducible refine (HK.out _).mono ?_); rintro e w' ⟨rfl, rfl⟩; have hS := ‹(_ ∧ _ ∧ _ ∧ _ ∧ _ ∧ _) ∧ Grown w _›)
      | (go_at_call 18; refine (or_any _ c k _ ?_ ?_).mono ?_; exact (cell_two _ _ _ _).1; exact (cell_two _ _ _ _).2; rintro e w' ⟨rfl, rfl⟩; have hS := ‹(_ ∧ _ ∧ _ ∧ _ ∧ _ ∧ _) ∧ Grown w _›))
  have hB := (show Grown w _ from And.right ‹(_ ∧ _ ∧ _ ∧ _ ∧ _ ∧ _) ∧ Grown w _›)
  clear hS0
  go_wp2_with fail
  go_ret
  exact ⟨by rw [← HV.out]; rfl, hB⟩


set_option maxRecDepth 100000 in
theorem auIno_code (x y : Ino) (w : World) :
    Calls Try.prog 37 #[.agg (inoA x), .agg (inoA y)] w fun e w' => e = .returned (.int .i64 (inoI x y)) ∧ Below w.heap.size w w' := by
  obtain ⟨⟨xd1, xd2⟩, xk, xl, xm, xd⟩ := x
  obtain ⟨⟨yd1, yd2⟩, yk, yl, ym, yd⟩ := y
  unfold inoA inoI
  obtain ⟨c, hc⟩ : ∃ c, c = cmp xd1 xd2 yd1 yd2 := ⟨_, rfl⟩
  simp only [← hc]
  have HC : Hid (∀ W : World, Calls Try.prog 12 #[.agg #[.int .i64 xd1, .int .i64 xd2], .agg #[.int .i64 yd1, .int .i64 yd2]] W fun e w' => e = .returned (.int .i64 c) ∧ Grown W w') := fun W => by rw [hc]; exact compare_grown _ _ _ _ W
  clear hc
  go_enter Try.func37, Try.ntmps37
  go_wp2_with fail
  refine (HC.out _).mono ?_
  rintro e w1 ⟨rfl, hg1⟩
  go_wp2_with fail
  go_ret
  exact ⟨rfl, ((((Grown.refl _).alloc _).alloc _).trans hg1).1⟩

theorem auAhead_code (x y : Ent) (w : World) :
    Calls Try.prog 39 #[.agg (entA x), .agg (entA y)] w fun e w' => e = .returned (.int .i64 (aheadI x y)) ∧ Below w.heap.size w w' := (auAhead_grown x y w).mono fun _ _ h => ⟨h.1, h.2.1⟩

theorem pair_of_next {α : Type} {r : α → α → Prop} (tr : ∀ a b c, r a b → r b c → r a c) {l : List α} (h : ∀ i (hi : i + 1 < l.length), r l[i] l[i + 1]) : l.Pairwise r := by
  rw [List.pairwise_iff_getElem]
  intro i j hi hj hij
  obtain ⟨d, rfl⟩ : ∃ d, j = i + 1 + d := ⟨j - (i + 1), by omega⟩
  induction d with
  | zero => exact h i hj
  | succ d ih => exact tr _ _ _ (ih (by omega) (by omega)) (h (i + 1 + d) hj)

theorem next_of_pair {α : Type} {r : α → α → Prop} {l : List α} (h : l.Pairwise r) {i : Nat} (hi : i + 1 < l.length) : r l[i] l[i + 1] := List.pairwise_iff_getElem.1 h i (i + 1) (by omega) hi (by omega)

set_option maxRecDepth 100000 in
set_option maxHeartbeats 1600000 in
theorem risesI_code (A : Option Addr) (n c : Nat) (N : List Ino) (hn : n ≤ 1000) (w : World) (h : InosIn w w.heap.size A n N) :
    Calls Try.prog 36 #[.slice A n c, .func (.func 37) #[] #[]] w fun e w' => e = .returned (.bool (decide (N.Pairwise fun a b => lessS a.id b.id = true))) ∧ Below w.heap.size w w' := by
  obtain ⟨B, hBd⟩ : ∃ B, B = decide (N.Pairwise fun a b => lessS a.id b.id = true) := ⟨_, rfl⟩
  rw [← hBd]
  have HBd := Lib.hid hBd
  clear hBd
  have hl := h.len
  have HI := Lib.hid h
  clear h
  have HT : Hid (∀ a b c : Ino, lessS a.id b.id = true → lessS b.id c.id = true → lessS a.id c.id = true) := fun a b c => lessS_trans
  go_enter Try.func36, Try.ntmps36
  go_wp2_with fail
  go_loopg [5] (n + 2) (fun gk i wr => ∃ k : Nat, i = .int .i64 (k : Int) ∧ gk + k = n + 3 ∧ 0 < k ∧ k ≤ n + 1 ∧ Hid (∀ j (hj : j + 1 < N.length), j + 1 < k → ltOf inoI N[j] N[j + 1] = true) ∧ Hid (Below w.heap.size w wr))
  case atStart => exact ⟨1, rfl, by omega, by omega, by omega, (fun j hj q => by omega), Below.refl _ _⟩
  case round =>
    obtain ⟨k, rfl, hgk, hk0, hk, hno, hB⟩ := hrel
    by_cases hlt : k < n
    · obtain ⟨g, o, rfl, hg, hrow⟩ := HI.out.row (by omega)
      have hlow := hB.out.size
      obtain ⟨e0, e1, e2, e3, e4, e5⟩ := (hrow (k - 1) (by omega)).below hB.out hg
      obtain ⟨f0, f1, f2, f3, f4, f5⟩ := (hrow k (by omega)).below hB.out hg
      clear hrow
      have hk1 : k - 1 < N.length := by omega
      have hk2 : k < N.length := by omega
      have hs : ∀ j (hj : j + 1 < N.length), ltOf inoI (N[k - 1]'hk1) (N[k]'hk2) = true → j + 1 < k + 1 → ltOf inoI N[j] N[j + 1] = true := fun j hj q1 q2 => by
        by_cases q : j + 1 < k
        · exact hno.out j hj q
        · obtain rfl : k = j + 1 := by omega
          exact q1
      have hf : ¬ ltOf inoI (N[k - 1]'hk1) (N[k]'hk2) = true → ¬ N.Pairwise fun a b => lessS a.id b.id = true := fun q hp => q (by
        obtain ⟨j, rfl⟩ : ∃ j, k = j + 1 := ⟨k - 1, by omega⟩
        rw [inoI_lt]
        exact next_of_pair hp (i := j) (by omega))
      obtain ⟨x, hx⟩ : ∃ x, x = N[k - 1]'hk1 := ⟨_, rfl⟩
      obtain ⟨y, hy⟩ : ∃ y, y = N[k]'hk2 := ⟨_, rfl⟩
      rw [← hx] at e0 e1 e2 e3 e4 e5 hs hf
      rw [← hy] at f0 f1 f2 f3 f4 f5 hs hf
      clear hx hy
      obtain ⟨v, hv⟩ : ∃ v, v = inoI x y := ⟨_, rfl⟩
      unfold ltOf at hs hf
      rw [← hv] at hf
      simp only [← hv] at hs
      have HS := Lib.hid hs
      have HF := Lib.hid hf
      have HC : Hid (∀ W : World, Calls Try.prog 37 #[.agg (inoA x), .agg (inoA y)] W fun e w' => e = .returned (.int .i64 v) ∧ Below W.heap.size W w') := fun W => by rw [hv]; exact auIno_code x y W
      clear hs hf hv
      unfold inoA at HC
      have le0 := later_cell e0
      have le1 := later_cell e1
      have le2 := later_cell e2
      have le3 := later_cell e3
      have le4 := later_cell e4
      have le5 := later_cell e5
      have lf0 := later_cell f0
      have lf1 := later_cell f1
      have lf2 := later_cell f2
      have lf3 := later_cell f3
      have lf4 := later_cell f4
      have lf5 := later_cell f5
      have HCl := Lib.hid fun (y : World) => later_call (HC.out (later wr y))
      clear e0 e1 e2 e3 e4 e5 f0 f1 f2 f3 f4 f5 HC
      go_upto_region 4 with fail
      refine wp_region_later (by kernel_rfl) (by kernel_rfl) ?_
      repeat (go_big_quiet_step (first | (with_reducible exact HCl.out _)))
      refine wpQuiet_nil ?_
      intro _ hw'
      obtain ⟨z, rfl⟩ := hw'
      clear le0 le1 le2 le3 le4 le5 lf0 lf1 lf2 lf3 lf4 lf5
      have hB2 := Lib.hid (below_step hB.out (later_below wr z))
      generalize later wr z = w2 at hB2 ⊢
      by_cases hv0 : v < 0
      · have hd : decide (v ≥ 0) = false := decide_eq_false (by omega)
        go_wp2_with fail
        go_roundg (gk - 1)
        case measure => omega
        case rel => exact ⟨k + 1, by go_num, by omega, by omega, by omega, (fun j hj q => HS.out j hj (decide_eq_true hv0) q), hB2⟩
      · have hd : v ≥ 0 := by omega
        go_wp2_with fail
        go_ret
        exact ⟨by rw [HBd.out, decide_eq_false (HF.out (by rw [decide_eq_false (show ¬ v < 0 by omega)]; decide))]; rfl, hB2.out⟩
    · go_wp2_with fail
      go_ret
      have hp : N.Pairwise fun a b => lessS a.id b.id = true := pair_of_next (r := fun (a b : Ino) => lessS a.id b.id = true) HT.out fun j hj => by
        rw [← inoI_lt]
        exact hno.out j hj (by omega)
      exact ⟨by rw [HBd.out, decide_eq_true hp]; rfl, hB.out⟩

set_option maxRecDepth 100000 in
set_option maxHeartbeats 1600000 in
theorem risesE_code (A : Option Addr) (n c : Nat) (N : List Ent) (hn : n ≤ 1000) (w : World) (h : EntsIn w w.heap.size A n N) :
    Calls Try.prog 38 #[.slice A n c, .func (.func 39) #[] #[]] w fun e w' => e = .returned (.bool (decide (N.Pairwise fun a b => aheadE a b = true))) ∧ Below w.heap.size w w' := by
  obtain ⟨B, hBd⟩ : ∃ B, B = decide (N.Pairwise fun a b => aheadE a b = true) := ⟨_, rfl⟩
  rw [← hBd]
  have HBd := Lib.hid hBd
  clear hBd
  have hl := h.len
  have HI := Lib.hid h
  clear h
  have HT : Hid (∀ a b c : Ent, aheadE a b = true → aheadE b c = true → aheadE a c = true) := fun a b c => aheadE_trans
  go_enter Try.func38, Try.ntmps38
  go_wp2_with fail
  go_loopg [5] (n + 2) (fun gk i wr => ∃ k : Nat, i = .int .i64 (k : Int) ∧ gk + k = n + 3 ∧ 0 < k ∧ k ≤ n + 1 ∧ Hid (∀ j (hj : j + 1 < N.length), j + 1 < k → ltOf aheadI N[j] N[j + 1] = true) ∧ Hid (Below w.heap.size w wr))
  case atStart => exact ⟨1, rfl, by omega, by omega, by omega, (fun j hj q => by omega), Below.refl _ _⟩
  case round =>
    obtain ⟨k, rfl, hgk, hk0, hk, hno, hB⟩ := hrel
    by_cases hlt : k < n
    · obtain ⟨g, o, rfl, hg, hrow⟩ := HI.out.row (by omega)
      have hlow := hB.out.size
      obtain ⟨e0, e1, e2, e3, e4⟩ := (hrow (k - 1) (by omega)).below hB.out hg
      obtain ⟨f0, f1, f2, f3, f4⟩ := (hrow k (by omega)).below hB.out hg
      clear hrow
      have hk1 : k - 1 < N.length := by omega
      have hk2 : k < N.length := by omega
      have hs : ∀ j (hj : j + 1 < N.length), ltOf aheadI (N[k - 1]'hk1) (N[k]'hk2) = true → j + 1 < k + 1 → ltOf aheadI N[j] N[j + 1] = true := fun j hj q1 q2 => by
        by_cases q : j + 1 < k
        · exact hno.out j hj q
        · obtain rfl : k = j + 1 := by omega
          exact q1
      have hf : ¬ ltOf aheadI (N[k - 1]'hk1) (N[k]'hk2) = true → ¬ N.Pairwise fun a b => aheadE a b = true := fun q hp => q (by
        obtain ⟨j, rfl⟩ : ∃ j, k = j + 1 := ⟨k - 1, by omega⟩
        rw [aheadI_lt]
        exact next_of_pair hp (i := j) (by omega))
      obtain ⟨x, hx⟩ : ∃ x, x = N[k - 1]'hk1 := ⟨_, rfl⟩
      obtain ⟨y, hy⟩ : ∃ y, y = N[k]'hk2 := ⟨_, rfl⟩
      rw [← hx] at e0 e1 e2 e3 e4 hs hf
      rw [← hy] at f0 f1 f2 f3 f4 hs hf
      clear hx hy
      obtain ⟨v, hv⟩ : ∃ v, v = aheadI x y := ⟨_, rfl⟩
      unfold ltOf at hs hf
      rw [← hv] at hf
      simp only [← hv] at hs
      have HS := Lib.hid hs
      have HF := Lib.hid hf
      have HC : Hid (∀ W : World, Calls Try.prog 39 #[.agg (entA x), .agg (entA y)] W fun e w' => e = .returned (.int .i64 v) ∧ Below W.heap.size W w') := fun W => by rw [hv]; exact auAhead_code x y W
      clear hs hf hv
      unfold entA at HC
      have le0 := later_cell e0
      have le1 := later_cell e1
      have le2 := later_cell e2
      have le3 := later_cell e3
      have le4 := later_cell e4
      have lf0 := later_cell f0
      have lf1 := later_cell f1
      have lf2 := later_cell f2
      have lf3 := later_cell f3
      have lf4 := later_cell f4
      have HCl := Lib.hid fun (y : World) => later_call (HC.out (later wr y))
      clear e0 e1 e2 e3 e4 f0 f1 f2 f3 f4 HC
      go_upto_region 4 with fail
      refine wp_region_later (by kernel_rfl) (by kernel_rfl) ?_
      repeat (go_big_quiet_step (first | (with_reducible exact HCl.out _)))
      refine wpQuiet_nil ?_
      intro _ hw'
      obtain ⟨z, rfl⟩ := hw'
      clear le0 le1 le2 le3 le4 lf0 lf1 lf2 lf3 lf4
      have hB2 := Lib.hid (below_step hB.out (later_below wr z))
      generalize later wr z = w2 at hB2 ⊢
      by_cases hv0 : v < 0
      · have hd : decide (v ≥ 0) = false := decide_eq_false (by omega)
        go_wp2_with fail
        go_roundg (gk - 1)
        case measure => omega
        case rel => exact ⟨k + 1, by go_num, by omega, by omega, by omega, (fun j hj q => HS.out j hj (decide_eq_true hv0) q), hB2⟩
      · have hd : v ≥ 0 := by omega
        go_wp2_with fail
        go_ret
        exact ⟨by rw [HBd.out, decide_eq_false (HF.out (by rw [decide_eq_false (show ¬ v < 0 by omega)]; decide))]; rfl, hB2.out⟩
    · go_wp2_with fail
      go_ret
      have hp : N.Pairwise fun a b => aheadE a b = true := pair_of_next (r := fun (a b : Ent) => aheadE a b = true) HT.out fun j hj => by
        rw [← aheadI_lt]
        exact hno.out j hj (by omega)
      exact ⟨by rw [HBd.out, decide_eq_true hp]; rfl, hB.out⟩

end Go.Proofs.Ytoobmkkmomiigaa
