/-
  The landed audit's orders, and whether a list rises (made by gen_auditcmp.py).
-/
import Derived.Test.YtoobmkkmomiigaaGreatZ03
import Derived.Test.YtoobmkkmomiigaaGreatZ02
import Derived.Deep.LoopGhost
import Derived.BigQuiet
import Derived.Deep.RegionWith
namespace Go.Proofs.YtoobmkkmomiigaaGreat
open Go.RowKit StampMath GraphMath OpMath

set_option maxRecDepth 100000 in
set_option maxHeartbeats 1600000 in
theorem auAhead_grown (x y : Ent) (w : World) :
    Calls Tryz.prog 40 #[.agg (entA x), .agg (entA y)] w fun e w' => e = .returned (.int .i64 (aheadI x y)) ∧ Grown w w' := by
  have hv : or2 (cmp x.dir.1 x.dir.2 y.dir.1 y.dir.2) (cmpB x.name.data.toList y.name.data.toList) = aheadI x y := rfl
  obtain ⟨⟨xd1, xd2⟩, xn, ⟨xi1, xi2⟩⟩ := x
  obtain ⟨⟨yd1, yd2⟩, yn, ⟨yi1, yi2⟩⟩ := y
  unfold entA
  obtain ⟨c, hc⟩ : ∃ c, c = cmp xd1 xd2 yd1 yd2 := ⟨_, rfl⟩
  obtain ⟨k, hk⟩ : ∃ k, k = cmpB xn.data.toList yn.data.toList := ⟨_, rfl⟩
  simp only [← hc, ← hk] at hv
  have HC : Hid (∀ W : World, Calls Tryz.prog 29 #[.agg #[.int .i64 xd1, .int .i64 xd2], .agg #[.int .i64 yd1, .int .i64 yd2]] W fun e w' => e = .returned (.int .i64 c) ∧ Grown W w') := fun W => by rw [hc]; exact compare_grown _ _ _ _ W
  have HK : Hid (∀ W : World, Calls Tryz.prog 65 #[.string xn, .string yn] W fun e w' => e = .returned (.int .i64 k) ∧ W = w') := fun W => by rw [hk]; exact compareStr _ _ W
  have HV := Lib.hid hv
  clear hv hc hk
  go_enter Tryz.func40, Tryz.ntmps40
  go_wp2_with fail
  have hS0 : (((w.alloc (.cells #[.int .i64 xd1, .int .i64 xd2, .string xn, .int .i64 xi1, .int .i64 xi2] 34)).alloc (.cells #[.int .i64 yd1, .int .i64 yd2, .string yn, .int .i64 yi1, .int .i64 yi2] 34)).drew.cell? ⟨w.heap.size, 0, none⟩ = some (.int .i64 xd1) ∧ ((w.alloc (.cells #[.int .i64 xd1, .int .i64 xd2, .string xn, .int .i64 xi1, .int .i64 xi2] 34)).alloc (.cells #[.int .i64 yd1, .int .i64 yd2, .string yn, .int .i64 yi1, .int .i64 yi2] 34)).drew.cell? ⟨w.heap.size, 1, none⟩ = some (.int .i64 xd2) ∧ ((w.alloc (.cells #[.int .i64 xd1, .int .i64 xd2, .string xn, .int .i64 xi1, .int .i64 xi2] 34)).alloc (.cells #[.int .i64 yd1, .int .i64 yd2, .string yn, .int .i64 yi1, .int .i64 yi2] 34)).drew.cell? ⟨w.heap.size, 2, none⟩ = some (.string xn) ∧ ((w.alloc (.cells #[.int .i64 xd1, .int .i64 xd2, .string xn, .int .i64 xi1, .int .i64 xi2] 34)).alloc (.cells #[.int .i64 yd1, .int .i64 yd2, .string yn, .int .i64 yi1, .int .i64 yi2] 34)).drew.cell? ⟨w.heap.size + 1, 0, none⟩ = some (.int .i64 yd1) ∧ ((w.alloc (.cells #[.int .i64 xd1, .int .i64 xd2, .string xn, .int .i64 xi1, .int .i64 xi2] 34)).alloc (.cells #[.int .i64 yd1, .int .i64 yd2, .string yn, .int .i64 yi1, .int .i64 yi2] 34)).drew.cell? ⟨w.heap.size + 1, 1, none⟩ = some (.int .i64 yd2) ∧ ((w.alloc (.cells #[.int .i64 xd1, .int .i64 xd2, .string xn, .int .i64 xi1, .int .i64 xi2] 34)).alloc (.cells #[.int .i64 yd1, .int .i64 yd2, .string yn, .int .i64 yi1, .int .i64 yi2] 34)).drew.cell? ⟨w.heap.size + 1, 2, none⟩ = some (.string yn)) ∧ Grown w ((w.alloc (.cells #[.int .i64 xd1, .int .i64 xd2, .string xn, .int .i64 xi1, .int .i64 xi2] 34)).alloc (.cells #[.int .i64 yd1, .int .i64 yd2, .string yn, .int .i64 yi1, .int .i64 yi2] 34)).drew := by
    refine ⟨⟨?_, ?_, ?_, ?_, ?_, ?_⟩, (((Grown.refl _).alloc _).alloc _).drew⟩
    · exact cell_of_row _ _ 0 _ _ (0, 0) (heap_alloc2_old w _ _)
    · exact cell_of_row _ _ 1 _ _ (0, 0) (heap_alloc2_old w _ _)
    · exact cell_of_row _ _ 2 _ _ (0, 0) (heap_alloc2_old w _ _)
    · exact cell_of_row _ _ 0 _ _ (0, 0) (heap_alloc2_new w _ _)
    · exact cell_of_row _ _ 1 _ _ (0, 0) (heap_alloc2_new w _ _)
    · exact cell_of_row _ _ 2 _ _ (0, 0) (heap_alloc2_new w _ _)
  go_region_held3 (fun W => (W.cell? ⟨w.heap.size, 0, none⟩ = some (.int .i64 xd1) ∧ W.cell? ⟨w.heap.size, 1, none⟩ = some (.int .i64 xd2) ∧ W.cell? ⟨w.heap.size, 2, none⟩ = some (.string xn) ∧ W.cell? ⟨w.heap.size + 1, 0, none⟩ = some (.int .i64 yd1) ∧ W.cell? ⟨w.heap.size + 1, 1, none⟩ = some (.int .i64 yd2) ∧ W.cell? ⟨w.heap.size + 1, 2, none⟩ = some (.string yn)) ∧ Grown w W) (first | assumption | exact cells6_alloc _ (by assumption) | (refine ⟨⟨?_, ?_, ?_, ?_, ?_, ?_⟩, ?_⟩ <;> assumption))
    (first
      | (go_at_call 29; (with_reducible refine (HC.out _).mono ?_); rintro e w' ⟨rfl, hg⟩; have hS := cells6_later hg ‹(_ ∧ _ ∧ _ ∧ _ ∧ _ ∧ _) ∧ Grown w _›)
      | (go_at_call 65; (with_reducible refine (HK.out _).mono ?_); rintro e w' ⟨rfl, rfl⟩; have hS := ‹(_ ∧ _ ∧ _ ∧ _ ∧ _ ∧ _) ∧ Grown w _›)
      | (go_at_call 58; refine (or_any _ c k _ ?_ ?_).mono ?_; exact (cell_two _ _ _ _).1; exact (cell_two _ _ _ _).2; rintro e w' ⟨rfl, rfl⟩; have hS := ‹(_ ∧ _ ∧ _ ∧ _ ∧ _ ∧ _) ∧ Grown w _›))
  have hB := (show Grown w _ from And.right ‹(_ ∧ _ ∧ _ ∧ _ ∧ _ ∧ _) ∧ Grown w _›)
  clear hS0
  go_wp2_with fail
  go_ret
  exact ⟨by rw [← HV.out]; rfl, hB⟩


set_option maxRecDepth 100000 in
theorem auIno_code (x y : Ino) (w : World) :
    Calls Tryz.prog 38 #[.agg (inoA x), .agg (inoA y)] w fun e w' => e = .returned (.int .i64 (inoI x y)) ∧ Below w.heap.size w w' := by
  obtain ⟨⟨xd1, xd2⟩, xk, xl, xm, xd⟩ := x
  obtain ⟨⟨yd1, yd2⟩, yk, yl, ym, yd⟩ := y
  unfold inoA inoI
  obtain ⟨c, hc⟩ : ∃ c, c = cmp xd1 xd2 yd1 yd2 := ⟨_, rfl⟩
  simp only [← hc]
  have HC : Hid (∀ W : World, Calls Tryz.prog 29 #[.agg #[.int .i64 xd1, .int .i64 xd2], .agg #[.int .i64 yd1, .int .i64 yd2]] W fun e w' => e = .returned (.int .i64 c) ∧ Grown W w') := fun W => by rw [hc]; exact compare_grown _ _ _ _ W
  clear hc
  go_enter Tryz.func38, Tryz.ntmps38
  go_wp2_with fail
  refine (HC.out _).mono ?_
  rintro e w1 ⟨rfl, hg1⟩
  go_wp2_with fail
  go_ret
  exact ⟨rfl, ((((Grown.refl _).alloc _).alloc _).trans hg1).1⟩

theorem auAhead_code (x y : Ent) (w : World) :
    Calls Tryz.prog 40 #[.agg (entA x), .agg (entA y)] w fun e w' => e = .returned (.int .i64 (aheadI x y)) ∧ Below w.heap.size w w' := (auAhead_grown x y w).mono fun _ _ h => ⟨h.1, h.2.1⟩

theorem pair_of_next {α : Type} {r : α → α → Prop} (tr : ∀ a b c, r a b → r b c → r a c) {l : List α} (h : ∀ i (hi : i + 1 < l.length), r l[i] l[i + 1]) : l.Pairwise r := by
  rw [List.pairwise_iff_getElem]
  intro i j hi hj hij
  obtain ⟨d, rfl⟩ : ∃ d, j = i + 1 + d := ⟨j - (i + 1), by omega⟩
  induction d with
  | zero => exact h i hj
  | succ d ih => exact tr _ _ _ (ih (by omega) (by omega)) (h (i + 1 + d) hj)

theorem next_of_pair {α : Type} {r : α → α → Prop} {l : List α} (h : l.Pairwise r) {i : Nat} (hi : i + 1 < l.length) : r l[i] l[i + 1] := List.pairwise_iff_getElem.1 h i (i + 1) (by omega) hi (by omega)

set_option maxRecDepth 100000 in
set_option maxHeartbeats 1600000 in
theorem risesI_code (A : Option Addr) (n c : Nat) (N : List Ino) (hn : n ≤ 1000) (w : World) (h : InosIn w w.heap.size A n N) :
    Calls Tryz.prog 37 #[.slice A n c, .func (.func 38) #[] #[]] w fun e w' => e = .returned (.bool (decide (N.Pairwise fun a b => lessS a.id b.id = true))) ∧ Below w.heap.size w w' := by
  obtain ⟨B, hBd⟩ : ∃ B, B = decide (N.Pairwise fun a b => lessS a.id b.id = true) := ⟨_, rfl⟩
  rw [← hBd]
  have HBd := Lib.hid hBd
  clear hBd
  have hl := h.len
  have HI := Lib.hid h
  clear h
  have HT : Hid (∀ a b c : Ino, lessS a.id b.id = true → lessS b.id c.id = true → lessS a.id c.id = true) := fun a b c => lessS_trans
  go_enter Tryz.func37, Tryz.ntmps37
  go_wp2_with fail
  go_loopg [5] (n + 2) (fun gk i wr => ∃ k : Nat, i = .int .i64 (k : Int) ∧ gk + k = n + 3 ∧ 0 < k ∧ k ≤ n + 1 ∧ Hid (∀ j (hj : j + 1 < N.length), j + 1 < k → ltOf inoI N[j] N[j + 1] = true) ∧ Hid (Below w.heap.size w wr))
  case atStart => exact ⟨1, rfl, by omega, by omega, by omega, (fun j hj q => by omega), Below.refl _ _⟩
  case round =>
    obtain ⟨k, rfl, hgk, hk0, hk, hno, hB⟩ := hrel
    by_cases hlt : k < n
    · obtain ⟨g, o, rfl, hg, hrow⟩ := HI.out.row (by omega)
      have hlow := hB.out.size
      obtain ⟨e0, e1, e2, e3, e4, e5⟩ := (hrow (k - 1) (by omega)).below hB.out hg
      obtain ⟨f0, f1, f2, f3, f4, f5⟩ := (hrow k (by omega)).below hB.out hg
      clear hrow
      have hk1 : k - 1 < N.length := by omega
      have hk2 : k < N.length := by omega
      have hs : ∀ j (hj : j + 1 < N.length), ltOf inoI (N[k - 1]'hk1) (N[k]'hk2) = true → j + 1 < k + 1 → ltOf inoI N[j] N[j + 1] = true := fun j hj q1 q2 => by
        by_cases q : j + 1 < k
        · exact hno.out j hj q
        · obtain rfl : k = j + 1 := by omega
          exact q1
      have hf : ¬ ltOf inoI (N[k - 1]'hk1) (N[k]'hk2) = true → ¬ N.Pairwise fun a b => lessS a.id b.id = true := fun q hp => q (by
        obtain ⟨j, rfl⟩ : ∃ j, k = j + 1 := ⟨k - 1, by omega⟩
        rw [inoI_lt]
        exact next_of_pair hp (i := j) (by omega))
      obtain ⟨x, hx⟩ : ∃ x, x = N[k - 1]'hk1 := ⟨_, rfl⟩
      obtain ⟨y, hy⟩ : ∃ y, y = N[k]'hk2 := ⟨_, rfl⟩
      rw [← hx] at e0 e1 e2 e3 e4 e5 hs hf
      rw [← hy] at f0 f1 f2 f3 f4 f5 hs hf
      clear hx hy
      obtain ⟨v, hv⟩ : ∃ v, v = inoI x y := ⟨_, rfl⟩
      unfold ltOf at hs hf
      rw [← hv] at hf
      simp only [← hv] at hs
      have HS := Lib.hid hs
      have HF := Lib.hid hf
      have HC : Hid (∀ W : World, Calls Tryz.prog 38 #[.agg (inoA x), .agg (inoA y)] W fun e w' => e = .returned (.int .i64 v) ∧ Below W.heap.size W w') := fun W => by rw [hv]; exact auIno_code x y W
      clear hs hf hv
      unfold inoA at HC
      have le0 := later_cell e0
      have le1 := later_cell e1
      have le2 := later_cell e2
      have le3 := later_cell e3
      have le4 := later_cell e4
      have le5 := later_cell e5
      have lf0 := later_cell f0
      have lf1 := later_cell f1
      have lf2 := later_cell f2
      have lf3 := later_cell f3
      have lf4 := later_cell f4
      have lf5 := later_cell f5
      have HCl := Lib.hid fun (y : World) => later_call (HC.out (later wr y))
      clear e0 e1 e2 e3 e4 e5 f0 f1 f2 f3 f4 f5 HC
      go_upto_region 4 with fail
      refine wp_region_later (by kernel_rfl) (by kernel_rfl) ?_
      repeat (go_big_quiet_step (first | (with_reducible exact HCl.out _)))
      refine wpQuiet_nil ?_
      intro _ hw'
      obtain ⟨z, rfl⟩ := hw'
      clear le0 le1 le2 le3 le4 le5 lf0 lf1 lf2 lf3 lf4 lf5
      have hB2 := Lib.hid (below_step hB.out (later_below wr z))
      generalize later wr z = w2 at hB2 ⊢
      by_cases hv0 : v < 0
      · have hd : decide (v ≥ 0) = false := decide_eq_false (by omega)
        go_wp2_with fail
        go_roundg (gk - 1)
        case measure => omega
        case rel => exact ⟨k + 1, by go_num, by omega, by omega, by omega, (fun j hj q => HS.out j hj (decide_eq_true hv0) q), hB2⟩
      · have hd : v ≥ 0 := by omega
        go_wp2_with fail
        go_ret
        exact ⟨by rw [HBd.out, decide_eq_false (HF.out (by rw [decide_eq_false (show ¬ v < 0 by omega)]; decide))]; rfl, hB2.out⟩
    · go_wp2_with fail
      go_ret
      have hp : N.Pairwise fun a b => lessS a.id b.id = true := pair_of_next (r := fun (a b : Ino) => lessS a.id b.id = true) HT.out fun j hj => by
        rw [← inoI_lt]
        exact hno.out j hj (by omega)
      exact ⟨by rw [HBd.out, decide_eq_true hp]; rfl, hB.out⟩

set_option maxRecDepth 100000 in
set_option maxHeartbeats 1600000 in
theorem risesE_code (A : Option Addr) (n c : Nat) (N : List Ent) (hn : n ≤ 1000) (w : World) (h : EntsIn w w.heap.size A n N) :
    Calls Tryz.prog 39 #[.slice A n c, .func (.func 40) #[] #[]] w fun e w' => e = .returned (.bool (decide (N.Pairwise fun a b => aheadE a b = true))) ∧ Below w.heap.size w w' := by
  obtain ⟨B, hBd⟩ : ∃ B, B = decide (N.Pairwise fun a b => aheadE a b = true) := ⟨_, rfl⟩
  rw [← hBd]
  have HBd := Lib.hid hBd
  clear hBd
  have hl := h.len
  have HI := Lib.hid h
  clear h
  have HT : Hid (∀ a b c : Ent, aheadE a b = true → aheadE b c = true → aheadE a c = true) := fun a b c => aheadE_trans
  go_enter Tryz.func39, Tryz.ntmps39
  go_wp2_with fail
  go_loopg [5] (n + 2) (fun gk i wr => ∃ k : Nat, i = .int .i64 (k : Int) ∧ gk + k = n + 3 ∧ 0 < k ∧ k ≤ n + 1 ∧ Hid (∀ j (hj : j + 1 < N.length), j + 1 < k → ltOf aheadI N[j] N[j + 1] = true) ∧ Hid (Below w.heap.size w wr))
  case atStart => exact ⟨1, rfl, by omega, by omega, by omega, (fun j hj q => by omega), Below.refl _ _⟩
  case round =>
    obtain ⟨k, rfl, hgk, hk0, hk, hno, hB⟩ := hrel
    by_cases hlt : k < n
    · obtain ⟨g, o, rfl, hg, hrow⟩ := HI.out.row (by omega)
      have hlow := hB.out.size
      obtain ⟨e0, e1, e2, e3, e4⟩ := (hrow (k - 1) (by omega)).below hB.out hg
      obtain ⟨f0, f1, f2, f3, f4⟩ := (hrow k (by omega)).below hB.out hg
      clear hrow
      have hk1 : k - 1 < N.length := by omega
      have hk2 : k < N.length := by omega
      have hs : ∀ j (hj : j + 1 < N.length), ltOf aheadI (N[k - 1]'hk1) (N[k]'hk2) = true → j + 1 < k + 1 → ltOf aheadI N[j] N[j + 1] = true := fun j hj q1 q2 => by
        by_cases q : j + 1 < k
        · exact hno.out j hj q
        · obtain rfl : k = j + 1 := by omega
          exact q1
      have hf : ¬ ltOf aheadI (N[k - 1]'hk1) (N[k]'hk2) = true → ¬ N.Pairwise fun a b => aheadE a b = true := fun q hp => q (by
        obtain ⟨j, rfl⟩ : ∃ j, k = j + 1 := ⟨k - 1, by omega⟩
        rw [aheadI_lt]
        exact next_of_pair hp (i := j) (by omega))
      obtain ⟨x, hx⟩ : ∃ x, x = N[k - 1]'hk1 := ⟨_, rfl⟩
      obtain ⟨y, hy⟩ : ∃ y, y = N[k]'hk2 := ⟨_, rfl⟩
      rw [← hx] at e0 e1 e2 e3 e4 hs hf
      rw [← hy] at f0 f1 f2 f3 f4 hs hf
      clear hx hy
      obtain ⟨v, hv⟩ : ∃ v, v = aheadI x y := ⟨_, rfl⟩
      unfold ltOf at hs hf
      rw [← hv] at hf
      simp only [← hv] at hs
      have HS := Lib.hid hs
      have HF := Lib.hid hf
      have HC : Hid (∀ W : World, Calls Tryz.prog 40 #[.agg (entA x), .agg (entA y)] W fun e w' => e = .returned (.int .i64 v) ∧ Below W.heap.size W w') := fun W => by rw [hv]; exact auAhead_code x y W
      clear hs hf hv
      unfold entA at HC
      have le0 := later_cell e0
      have le1 := later_cell e1
      have le2 := later_cell e2
      have le3 := later_cell e3
      have le4 := later_cell e4
      have lf0 := later_cell f0
      have lf1 := later_cell f1
      have lf2 := later_cell f2
      have lf3 := later_cell f3
      have lf4 := later_cell f4
      have HCl := Lib.hid fun (y : World) => later_call (HC.out (later wr y))
      clear e0 e1 e2 e3 e4 f0 f1 f2 f3 f4 HC
      go_upto_region 4 with fail
      refine wp_region_later (by kernel_rfl) (by kernel_rfl) ?_
      repeat (go_big_quiet_step (first | (with_reducible exact HCl.out _)))
      refine wpQuiet_nil ?_
      intro _ hw'
      obtain ⟨z, rfl⟩ := hw'
      clear le0 le1 le2 le3 le4 lf0 lf1 lf2 lf3 lf4
      have hB2 := Lib.hid (below_step hB.out (later_below wr z))
      generalize later wr z = w2 at hB2 ⊢
      by_cases hv0 : v < 0
      · have hd : decide (v ≥ 0) = false := decide_eq_false (by omega)
        go_wp2_with fail
        go_roundg (gk - 1)
        case measure => omega
        case rel => exact ⟨k + 1, by go_num, by omega, by omega, by omega, (fun j hj q => HS.out j hj (decide_eq_true hv0) q), hB2⟩
      · have hd : v ≥ 0 := by omega
        go_wp2_with fail
        go_ret
        exact ⟨by rw [HBd.out, decide_eq_false (HF.out (by rw [decide_eq_false (show ¬ v < 0 by omega)]; decide))]; rfl, hB2.out⟩
    · go_wp2_with fail
      go_ret
      have hp : N.Pairwise fun a b => aheadE a b = true := pair_of_next (r := fun (a b : Ent) => aheadE a b = true) HT.out fun j hj => by
        rw [← aheadI_lt]
        exact hno.out j hj (by omega)
      exact ⟨by rw [HBd.out, decide_eq_true hp]; rfl, hB.out⟩

end Go.Proofs.YtoobmkkmomiigaaGreat

/-
  The landed audit's seven questions, each a method of its lists.
-/
namespace Go.Proofs.YtoobmkkmomiigaaGreat
open Go.RowKit StampMath GraphMath OpMath

/-- Is it not so? -/
noncomputable def badB (p : Prop) : Bool := @decide (¬ p) (Classical.propDecidable _)

theorem badB_iff {p : Prop} : badB p = true ↔ ¬ p := by unfold badB; exact @decide_eq_true_iff _ (Classical.propDecidable _)

theorem badB_of {p : Prop} {b : Bool} (h : b = true ↔ ¬ p) : badB p = b := by
  rw [Bool.eq_iff_iff, badB_iff, h]

theorem any_ok {α : Type} {p : α → Bool} {q : α → Prop} {l : List α} (h : ∀ x ∈ l, p x = true ↔ ¬ q x) : l.any p = true ↔ ¬ ∀ x ∈ l, q x := by
  rw [List.any_eq_true]
  constructor
  · rintro ⟨x, hx, hp⟩ hq
    exact (h x hx).1 hp (hq x hx)
  · intro hq
    refine Classical.byContradiction fun hn => hq fun x hx => Classical.byContradiction fun hqx => hn ⟨x, hx, (h x hx).2 hqx⟩

theorem shape_bad {N : List Ino} {E : List Ent} : badB (shapeOk N E) = (!decide (kindI N (0, 0) = some 1) || N.any noneB || E.any fun e => !nameB e.name) := by
  refine badB_of ?_
  have h1 : N.any noneB = true ↔ ¬ ∀ x ∈ N, mayB x.id.1 x.id.2 = true ∧ 1 ≤ x.kind ∧ x.kind ≤ 3 := any_ok fun x _ => by
    unfold noneB
    simp only [Bool.not_eq_true', Bool.and_eq_false_iff, decide_eq_false_iff_not]
    cases mayB x.id.1 x.id.2 <;> simp
  have h2 : (E.any fun e => !nameB e.name) = true ↔ ¬ ∀ e ∈ E, nameB e.name = true := any_ok fun x _ => by simp
  unfold shapeOk
  rw [Bool.or_eq_true, Bool.or_eq_true, h1, h2]
  simp only [Bool.not_eq_true', decide_eq_false_iff_not]
  constructor
  · rintro ((h | h) | h) ⟨q1, q2, q3⟩
    · exact h q3
    · exact h q1
    · exact h q2
  · intro h
    by_cases q3 : kindI N (0, 0) = some 1
    · by_cases q1 : ∀ x ∈ N, mayB x.id.1 x.id.2 = true ∧ 1 ≤ x.kind ∧ x.kind ≤ 3
      · exact .inr fun q2 => h ⟨q1, q2, q3⟩
      · exact .inl (.inr q1)
    · exact .inl (.inl q3)

theorem lost_bad {N : List Ino} {E : List Ent} : badB (lostOk N E) = E.any (lostB N) :=
  badB_of (any_ok fun x _ => by
    unfold lostB
    simp only [Bool.not_eq_true', Bool.and_eq_false_iff, decide_eq_false_iff_not]
    cases (kindI N x.ino).isSome <;> simp)

theorem count_bad {N : List Ino} {E : List Ent} : badB (countOk N E) = N.any fun x => !decide (x.links = (linksE E x.id : Int)) :=
  badB_of (any_ok fun x _ => by simp)

theorem many_bad {N : List Ino} {E : List Ent} : badB (manyOk N E) = N.any fun x => !manyB x (linksE E x.id : Nat) :=
  badB_of (any_ok fun x _ => by
    unfold manyB manyOk1
    by_cases h : x.id = (0, 0)
    · simp [h]
    · by_cases h1 : x.kind = 1
      · simp [h, h1]; omega
      · simp [h, h1]; omega)

theorem bounds_bad {N : List Ino} : badB (boundsOk N) = (decide (40 < N.length) || N.any muchB) := by
  refine badB_of ?_
  have h1 : N.any muchB = true ↔ ¬ ∀ x ∈ N, boundOk1 x := any_ok fun x _ => by
    unfold muchB boundOk1 dataB
    by_cases hm : 0 ≤ x.mode ∧ x.mode ≤ 4095
    · rw [decide_eq_true hm, Bool.true_and]
      by_cases k1 : x.kind = 1
      · simp [k1, hm]
      · by_cases k2 : x.kind = 2
        · simp [k2, hm]; omega
        · by_cases k3 : x.kind = 3
          · simp [k3, hm]; omega
          · simp [k1, k2, k3, hm]
    · rw [decide_eq_false hm, Bool.false_and]
      simp only [Bool.not_false, true_iff]
      exact fun q => hm ⟨q.1, q.2.1⟩
  unfold boundsOk
  rw [Bool.or_eq_true, h1, decide_eq_true_iff]
  constructor
  · rintro (h | h) ⟨q1, q2⟩
    · omega
    · exact h q1
  · intro h
    by_cases q2 : N.length ≤ 40
    · exact .inr fun q1 => h ⟨q1, q2⟩
    · exact .inl (by omega)

theorem apart_bad {N : List Ino} {E : List Ent} {F : List St} (hn : F.Nodup) (hF : ∀ s, s ∈ F ↔ Reached N E s) {K : List (St × Int)} (hk : (K.map Prod.fst).Nodup) (hK : ∀ id, lookL K id = kindI N id) : badB (apartOk N E) = decide ((F.length : Int) < (K.length : Int)) := by
  refine badB_of ?_
  have hkey : ∀ s, s ∈ K.map Prod.fst ↔ (kindI N s).isSome := fun s => by
    rw [← hK s]
    constructor
    · intro h
      obtain ⟨⟨a, v⟩, hp, rfl⟩ := List.mem_map.1 h
      rw [(mem_lookL hk).2 hp]
      rfl
    · intro h
      cases hq : lookL K s with
      | none => rw [hq] at h; cases h
      | some v => exact List.mem_map.2 ⟨(s, v), (mem_lookL hk).1 hq, rfl⟩
  have hl : (K.map Prod.fst).length = K.length := List.length_map _
  rw [decide_eq_true_iff]
  constructor
  · intro h ha
    have := nodup_le hk (M := F) fun s hs => by
      obtain ⟨x, hx, rfl⟩ := kindI_some ((hkey s).1 hs)
      exact (hF _).2 (ha x hx)
    omega
  · intro ha
    refine Classical.byContradiction fun h => ha fun x hx => (hF _).1 (Classical.byContradiction fun hnx => ?_)
    have := nodup_le (L := x.id :: F) (M := K.map Prod.fst) (List.nodup_cons.2 ⟨hnx, hn⟩) fun s hs => by
      rw [hkey]
      rcases List.mem_cons.1 hs with rfl | hs
      · exact kindI_of hx
      · obtain ⟨y, hy, rfl⟩ := ((hF s).1 hs).ino
        exact kindI_of hy
    simp at this
    omega

theorem order_bad {N : List Ino} {E : List Ent} : badB (orderOk N E) = (!decide (N.Pairwise fun a b => lessS a.id b.id = true) || !decide (E.Pairwise fun a b => aheadE a b = true)) := by
  refine badB_of ?_
  unfold orderOk
  by_cases h1 : N.Pairwise fun a b => lessS a.id b.id = true
  · by_cases h2 : E.Pairwise fun a b => aheadE a b = true
    · simp [h1, h2]
    · simp [h1, h2]
  · simp [h1]

section
variable (A A' : Option Addr) (n c m d bk bl : Nat) (N : List Ino) (E : List Ent) (w : World) (h : Given w A n N A' m E) (hL : Looked w bk bl N E)
include h hL

theorem box_held : Below w.heap.size w (w.alloc (.cells (listsA A A' n c m d bk bl) 58)) ∧ (w.alloc (.cells (listsA A A' n c m d bk bl) 58)).heap[w.heap.size]? = some (.cells (listsA A A' n c m d bk bl) 58 (0, 0)) ∧
    Given (w.alloc (.cells (listsA A A' n c m d bk bl) 58)) A n N A' m E ∧ Looked (w.alloc (.cells (listsA A A' n c m d bk bl) 58)) bk bl N E :=
  ⟨(Below.refl _ _).alloc (Nat.le_refl _) _, heap_alloc_new _ _, h.below ((Below.refl _ _).alloc (Nat.le_refl _) _), hL.below ((Below.refl _ _).alloc (Nat.le_refl _) _)⟩

set_option maxRecDepth 100000 in
theorem disordered_code : Calls Tryz.prog 18 #[.agg #[.slice A n c, .slice A' m d, .map (some bk), .map (some bl)]] w fun e w' => e = .returned (.bool (badB (orderOk N E))) ∧ Below w.heap.size w w' := by
  obtain ⟨hb0, he0, hg0, hl0⟩ := box_held A A' n c m d bk bl N E w h hL
  rw [order_bad]
  have HI : Hid (∀ W : World, Below w.heap.size w W → Calls Tryz.prog 37 #[.slice A n c, .func (.func 38) #[] #[]] W fun e w' => e = .returned (.bool (decide (N.Pairwise fun a b => lessS a.id b.id = true))) ∧ Below W.heap.size W w') := fun W hW => risesI_code A n c N h.fewI W ((h.below hW).inos)
  have HJ : Hid (∀ W : World, Below w.heap.size w W → Calls Tryz.prog 39 #[.slice A' m d, .func (.func 40) #[] #[]] W fun e w' => e = .returned (.bool (decide (E.Pairwise fun a b => aheadE a b = true))) ∧ Below W.heap.size W w') := fun W hW => risesE_code A' m d E h.fewE W ((h.below hW).ents)
  generalize decide (N.Pairwise fun a b => lessS a.id b.id = true) = p at HI ⊢
  generalize decide (E.Pairwise fun a b => aheadE a b = true) = q at HJ ⊢
  have HE := Lib.hid he0
  clear h hL he0 hg0 hl0
  go_enter Tryz.func18, Tryz.ntmps18
  go_wp2_with fail
  refine (HI.out _ hb0).mono ?_
  rintro e w2 ⟨rfl, hb2⟩
  have he2 := (hb2.block _ (heap_lt HE.out)).trans HE.out
  have hb3 := below_step hb0 hb2
  clear hb0 hb2 HE HI
  obtain ⟨c0, c1, c2, c3⟩ := lists_cells he2
  cases p with
  | false =>
    go_wp2_with fail
    go_ret
    exact ⟨rfl, hb3⟩
  | true =>
    go_wp2_with fail
    refine (HJ.out _ hb3).mono ?_
    rintro e w4 ⟨rfl, hb4⟩
    go_wp2_with fail
    go_ret
    exact ⟨rfl, below_step hb3 hb4⟩

set_option maxRecDepth 100000 in
theorem lost_code : Calls Tryz.prog 20 #[.agg #[.slice A n c, .slice A' m d, .map (some bk), .map (some bl)]] w fun e w' => e = .returned (.bool (badB (lostOk N E))) ∧ Below w.heap.size w w' := by
  obtain ⟨hb0, he0, hg0, hl0⟩ := box_held A A' n c m d bk bl N E w h hL
  rw [lost_bad]
  have HC := Lib.hid (has_lost w.heap.size (lostB N) A' m d E h.fewE _ hg0.ents fun x _ W hW => lostClo_code A A' n c m d bk bl w.heap.size N E x W ((hW.block _ (heap_lt he0)).trans he0) (hl0.below hW))
  clear h hL he0 hg0 hl0
  go_enter Tryz.func20, Tryz.ntmps20
  go_wp2_with fail
  refine HC.out.mono ?_
  rintro e w2 ⟨rfl, hb2⟩
  go_wp2_with fail
  go_ret
  exact ⟨rfl, below_step hb0 hb2⟩

set_option maxRecDepth 100000 in
theorem miscounted_code : Calls Tryz.prog 21 #[.agg #[.slice A n c, .slice A' m d, .map (some bk), .map (some bl)]] w fun e w' => e = .returned (.bool (badB (countOk N E))) ∧ Below w.heap.size w w' := by
  obtain ⟨hb0, he0, hg0, hl0⟩ := box_held A A' n c m d bk bl N E w h hL
  rw [count_bad]
  have HC := Lib.hid (has_miscounted w.heap.size (fun x => !decide (x.links = (linksE E x.id : Int))) A n c N h.fewI _ hg0.inos fun x _ W hW => countClo_code A A' n c m d bk bl w.heap.size N E x W ((hW.block _ (heap_lt he0)).trans he0) (hl0.below hW))
  clear h hL he0 hg0 hl0
  go_enter Tryz.func21, Tryz.ntmps21
  go_wp2_with fail
  refine HC.out.mono ?_
  rintro e w2 ⟨rfl, hb2⟩
  go_wp2_with fail
  go_ret
  exact ⟨rfl, below_step hb0 hb2⟩

set_option maxRecDepth 100000 in
theorem mislinked_code : Calls Tryz.prog 22 #[.agg #[.slice A n c, .slice A' m d, .map (some bk), .map (some bl)]] w fun e w' => e = .returned (.bool (badB (manyOk N E))) ∧ Below w.heap.size w w' := by
  obtain ⟨hb0, he0, hg0, hl0⟩ := box_held A A' n c m d bk bl N E w h hL
  rw [many_bad]
  have HC := Lib.hid (has_mislinked w.heap.size (fun x => !manyB x (linksE E x.id : Nat)) A n c N h.fewI _ hg0.inos fun x _ W hW => linkClo_code A A' n c m d bk bl w.heap.size N E x W ((hW.block _ (heap_lt he0)).trans he0) (hl0.below hW))
  clear h hL he0 hg0 hl0
  go_enter Tryz.func22, Tryz.ntmps22
  go_wp2_with fail
  refine HC.out.mono ?_
  rintro e w2 ⟨rfl, hb2⟩
  go_wp2_with fail
  go_ret
  exact ⟨rfl, below_step hb0 hb2⟩

set_option maxRecDepth 100000 in
theorem unbounded_code : Calls Tryz.prog 24 #[.agg #[.slice A n c, .slice A' m d, .map (some bk), .map (some bl)]] w fun e w' => e = .returned (.bool (badB (boundsOk N))) ∧ Below w.heap.size w w' := by
  obtain ⟨hb0, he0, hg0, hl0⟩ := box_held A A' n c m d bk bl N E w h hL
  rw [bounds_bad, h.inos.len]
  have HC := Lib.hid (has_tooMuch muchB A n c N h.fewI _ hg0.inos fun x hx W _ => tooMuch_code x (h.datas x hx) W)
  clear h hL he0 hg0 hl0
  by_cases h40 : 40 < n
  · rw [decide_eq_true h40]
    go_enter Tryz.func24, Tryz.ntmps24
    go_wp2_with fail
    go_ret
    exact ⟨by first | rfl | simp [h40], hb0⟩
  · rw [decide_eq_false h40]
    have hd : decide ((n : Int) > 40) = false := decide_eq_false (by omega)
    go_enter Tryz.func24, Tryz.ntmps24
    go_wp2_with fail
    refine HC.out.mono ?_
    rintro e w2 ⟨rfl, hb2⟩
    go_wp2_with fail
    go_ret
    exact ⟨by first | rfl | simp, below_step hb0 hb2⟩

set_option maxRecDepth 100000 in
set_option maxHeartbeats 1600000 in
theorem misshapen_code : Calls Tryz.prog 19 #[.agg #[.slice A n c, .slice A' m d, .map (some bk), .map (some bl)]] w fun e w' => e = .returned (.bool (badB (shapeOk N E))) ∧ Below w.heap.size w w' := by
  obtain ⟨hb0, he0, hg0, hl0⟩ := box_held A A' n c m d bk bl N E w h hL
  rw [shape_bad]
  have HD : Hid (∀ W : World, Below w.heap.size w W → Calls Tryz.prog 41 #[.agg #[.slice A n c, .slice A' m d, .map (some bk), .map (some bl)], .agg #[.int .i64 0, .int .i64 0]] W fun e w' => e = .returned (.bool (decide (kindI N (0, 0) = some 1))) ∧ Below W.heap.size W w') := fun W hW => isDir_code A A' n c m d bk bl N E (0, 0) W (hL.below hW)
  have HI : Hid (∀ W : World, Below w.heap.size w W → Calls Tryz.prog 43 #[.slice A n c, .func (.func 44) #[] #[]] W fun e w' => e = .returned (.bool (N.any noneB)) ∧ Below W.heap.size W w') := fun W hW => has_isNone noneB A n c N h.fewI W (h.below hW).inos fun x _ W' _ => isNone_code x W'
  have HJ : Hid (∀ W : World, Below w.heap.size w W → Calls Tryz.prog 45 #[.slice A' m d, .func (.func 46) #[] #[]] W fun e w' => e = .returned (.bool (E.any fun e => !nameB e.name)) ∧ Below W.heap.size W w') := fun W hW => has_nameless (fun e => !nameB e.name) A' m d E h.fewE W (h.below hW).ents fun x hx W' _ => nameless_code x (h.names x hx) W'
  generalize decide (kindI N (0, 0) = some 1) = p at HD ⊢
  generalize N.any noneB = q at HI ⊢
  generalize (E.any fun e => !nameB e.name) = r at HJ ⊢
  clear h hL hg0 hl0
  go_enter Tryz.func19, Tryz.ntmps19
  go_upto_region 1 with fail
  change Code.wp _ _ _ _ (w.alloc (.cells (listsA A A' n c m d bk bl) 58))
  generalize w.alloc (.cells (listsA A A' n c m d bk bl) 58) = w1 at he0 hb0 ⊢
  obtain ⟨c0, c1, c2, c3⟩ := lists_cells he0
  have l0 := later_cell c0
  have l1 := later_cell c1
  have l2 := later_cell c2
  have l3 := later_cell c3
  have HB := Lib.hid hb0
  have HRl := Lib.hid fun (y : World) => later_call (auRoot_code (later w1 y))
  have HDl := Lib.hid fun (y : World) => later_call (HD.out (later w1 y) (below_step HB.out (later_below w1 y)))
  have HIl := Lib.hid fun (y : World) => later_call (HI.out (later w1 y) (below_step HB.out (later_below w1 y)))
  have HJl := Lib.hid fun (y : World) => later_call (HJ.out (later w1 y) (below_step HB.out (later_below w1 y)))
  clear c0 c1 c2 c3 he0 hb0 HD HI HJ
  have hcase : p = false ∨ (p = true ∧ q = true) ∨ (p = true ∧ q = false) := by cases p <;> cases q <;> simp
  rcases hcase with rfl | ⟨rfl, rfl⟩ | ⟨rfl, rfl⟩
  all_goals
    refine wp_region_later (by kernel_rfl) (by kernel_rfl) ?_
    repeat (go_big_quiet_step (first | (with_reducible exact HRl.out _) | (with_reducible exact HDl.out _) | (with_reducible exact HIl.out _) | (with_reducible exact HJl.out _)))
    refine wpQuiet_nil ?_
    intro _ hw'
    obtain ⟨y, rfl⟩ := hw'
    clear l0 l1 l2 l3
    go_wp2_with fail
    go_ret
    exact ⟨rfl, below_step HB.out (later_below w1 y)⟩

end

end Go.Proofs.YtoobmkkmomiigaaGreat
