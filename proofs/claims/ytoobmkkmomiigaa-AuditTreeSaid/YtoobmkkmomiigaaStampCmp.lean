/-
  The walks of package cmp's functions and of stamp's Compare, with what they leave: the world, so many draws on and so many blocks more.
-/
import Derived.Test.YtoobmkkmomiigaaStampVals
import Derived.Test.YtoobmkkmomiigaaBase
import Derived.Test.YtoobmkkmomiigaaPairs
import Derived.Test.YtoobmkkmomiigaaRows
import Derived.Deep.RegionHeld3
import Derived.Deep.LoopGhost
import Derived.Sort.Grow
namespace Go.Proofs.Ytoobmkkmomiigaa
open Go.RowKit StampMath

theorem nan64 (t : Int) (w : World) : Calls Try.prog 34 #[.int .i64 t] w fun e w' => e = .returned (.bool false) ∧ w = w' := by
  go_enter Try.func34, Try.ntmps34
  go_wp2_with fail
  go_ret
  exact ⟨by simp, rfl⟩

theorem nanInt (t : Int) (w : World) : Calls Try.prog 35 #[.int .i64 t] w fun e w' => e = .returned (.bool false) ∧ w = w' := by
  go_enter Try.func35, Try.ntmps35
  go_wp2_with fail
  go_ret
  exact ⟨by simp, rfl⟩

theorem cell_alloc {W : World} {o : Obj} {a : Addr} {v : Value} (h : W.cell? a = some v) : (W.alloc o).cell? a = some v :=
  (World.cell?_alloc_lt W o a (World.block_lt_of_cell? _ _ h)).trans h

theorem kept_alloc4 {w W : World} {a b c d : Addr} {u v x y : Value} (o : Obj) (h : (W.cell? a = some u ∧ W.cell? b = some v ∧ W.cell? c = some x ∧ W.cell? d = some y) ∧ KeptFrom w W) :
    ((W.alloc o).cell? a = some u ∧ (W.alloc o).cell? b = some v ∧ (W.alloc o).cell? c = some x ∧ (W.alloc o).cell? d = some y) ∧ KeptFrom w (W.alloc o) :=
  ⟨⟨cell_alloc h.1.1, cell_alloc h.1.2.1, cell_alloc h.1.2.2.1, cell_alloc h.1.2.2.2⟩, (kept_below h.2).alloc (kept_below h.2).size o⟩

theorem cell_third (w : World) (o1 o2 : Obj) (a b : Value) (T : TypeId) :
    (((w.alloc o1).alloc o2).alloc (.cells #[a, b] T)).drew.cell? ⟨w.heap.size + 1 + 1, 0, none⟩ = some a ∧ (((w.alloc o1).alloc o2).alloc (.cells #[a, b] T)).drew.cell? ⟨w.heap.size + 1 + 1, 1, none⟩ = some b := by
  have h := heap_alloc_new ((w.alloc o1).alloc o2) (.cells #[a, b] T)
  have e : ((w.alloc o1).alloc o2).heap.size = w.heap.size + 1 + 1 := by simp
  rw [e] at h
  exact ⟨cell_of_row _ _ 0 _ _ (0, 0) h, cell_of_row _ _ 1 _ _ (0, 0) h⟩

/-- Which of two numbers is first. -/
def cmp1 (x y : Int) : Int := if x < y then -1 else if y < x then 1 else 0

set_option maxHeartbeats 400000 in
theorem compare64 (x y : Int) (w : World) : Calls Try.prog 19 #[.int .i64 x, .int .i64 y] w fun e w' => e = .returned (.int .i64 (cmp1 x y)) ∧ w = w' := by
  have hcase : (x < y ∧ cmp1 x y = -1) ∨ (¬ x < y ∧ y < x ∧ cmp1 x y = 1) ∨ (¬ x < y ∧ ¬ y < x ∧ cmp1 x y = 0) := by
    unfold cmp1
    by_cases h1 : x < y
    · exact Or.inl ⟨h1, by rw [if_pos h1]⟩
    · by_cases h2 : y < x
      · exact Or.inr (Or.inl ⟨h1, h2, by rw [if_neg h1, if_pos h2]⟩)
      · exact Or.inr (Or.inr ⟨h1, h2, by rw [if_neg h1, if_neg h2]⟩)
  rcases hcase with ⟨h1, h⟩ | ⟨h1, h2, h⟩ | ⟨h1, h2, h⟩
  all_goals
    rw [h]
    clear h
    go_enter Try.func19, Try.ntmps19
    go_wp2_with fail
    refine (nan64 _ _).mono ?_
    rintro e w' ⟨rfl, rfl⟩
    go_wp2_with fail
    refine (nan64 _ _).mono ?_
    rintro e w' ⟨rfl, rfl⟩
    go_wp2_with fail
    go_ret
    exact ⟨rfl, rfl⟩

set_option maxHeartbeats 400000 in
theorem compareInt (x y : Int) (w : World) : Calls Try.prog 20 #[.int .i64 x, .int .i64 y] w fun e w' => e = .returned (.int .i64 (cmp1 x y)) ∧ w = w' := by
  have hcase : (x < y ∧ cmp1 x y = -1) ∨ (¬ x < y ∧ y < x ∧ cmp1 x y = 1) ∨ (¬ x < y ∧ ¬ y < x ∧ cmp1 x y = 0) := by
    unfold cmp1
    by_cases h1 : x < y
    · exact Or.inl ⟨h1, by rw [if_pos h1]⟩
    · by_cases h2 : y < x
      · exact Or.inr (Or.inl ⟨h1, h2, by rw [if_neg h1, if_pos h2]⟩)
      · exact Or.inr (Or.inr ⟨h1, h2, by rw [if_neg h1, if_neg h2]⟩)
  rcases hcase with ⟨h1, h⟩ | ⟨h1, h2, h⟩ | ⟨h1, h2, h⟩
  all_goals
    rw [h]
    clear h
    go_enter Try.func20, Try.ntmps20
    go_wp2_with fail
    refine (nanInt _ _).mono ?_
    rintro e w' ⟨rfl, rfl⟩
    go_wp2_with fail
    refine (nanInt _ _).mono ?_
    rintro e w' ⟨rfl, rfl⟩
    go_wp2_with fail
    go_ret
    exact ⟨rfl, rfl⟩

/-- The first of two numbers that is not zero. -/
def or2 (a b : Int) : Int := if a = 0 then b else a

theorem or2_cmp (t r t' r' : Int) : or2 (cmp1 t t') (cmp1 r r') = cmp t r t' r' := by
  have h := cmp_cases t r t' r'
  unfold or2 cmp1
  split <;> split <;> (try split) <;> (try split) <;> omega

set_option maxHeartbeats 400000 in
theorem or_any (g : Nat) (a b : Int) (W : World) (h0 : W.cell? ⟨g, 0, none⟩ = some (.int .i64 a)) (h1 : W.cell? ⟨g, 1, none⟩ = some (.int .i64 b)) :
    Calls Try.prog 18 #[.slice (some ⟨g, 0, none⟩) 2 2] W fun e w' => e = .returned (.int .i64 (or2 a b)) ∧ W = w' := by
  go_enter Try.func18, Try.ntmps18
  go_wp2_with fail
  go_loop [8] (fun i => ∃ k : Nat, i = .int .i64 (k : Int) ∧ k ≤ 2 ∧ (0 < k → a = 0) ∧ (1 < k → b = 0)) (fun i => 2 - (intOf i).toNat)
  case atStart => exact ⟨0, rfl, by omega, by omega, by omega⟩
  case round =>
    obtain ⟨k, rfl, hk, ha, hb⟩ := hrel
    have HA := Lib.hid ha
    have HB := Lib.hid hb
    clear ha hb
    have hk3 : k = 0 ∨ k = 1 ∨ k = 2 := by omega
    clear hk
    rcases hk3 with rfl | rfl | rfl
    · by_cases hz : a = 0
      · have hz' : (a == 0) = true := by simp [hz]
        have HZ := Lib.hid hz
        clear hz
        go_wp2_with fail
        exact ⟨⟨1, by go_num, by omega, fun _ => HZ.out, by omega⟩, by simp [intOf]⟩
      · have hz' : (a == 0) = false := by simp [hz]
        have HZ := Lib.hid hz
        clear hz
        go_wp2_with fail
        go_ret
        exact ⟨by rw [or2, if_neg HZ.out]; rfl, rfl⟩
    · by_cases hz : b = 0
      · have hz' : (b == 0) = true := by simp [hz]
        have HZ := Lib.hid hz
        clear hz
        go_wp2_with fail
        exact ⟨⟨2, by go_num, by omega, fun _ => HA.out (by omega), fun _ => HZ.out⟩, by simp [intOf]⟩
      · have hz' : (b == 0) = false := by simp [hz]
        have HZ := Lib.hid hz
        clear hz
        go_wp2_with fail
        go_ret
        exact ⟨by rw [or2, if_pos (HA.out (by omega))]; rfl, rfl⟩
    · go_wp2_with fail
      go_ret
      exact ⟨by rw [or2, if_pos (HA.out (by omega)), HB.out (by omega)]; rfl, rfl⟩

/-- All that was there is as it was; draws and blocks have come. -/
def Grown (w W : World) : Prop := Below w.heap.size w W ∧ w.drawn ≤ W.drawn

theorem Grown.refl (w : World) : Grown w w := ⟨Below.refl _ _, Nat.le_refl _⟩
theorem Grown.alloc {w W : World} (h : Grown w W) (o : Obj) : Grown w (W.alloc o) := ⟨(kept_below h.1).alloc h.1.size o, h.2⟩
theorem Grown.drew {w W : World} (h : Grown w W) : Grown w W.drew := ⟨h.1.drew, Nat.le_trans h.2 (Nat.le_succ _)⟩
theorem Grown.trans {a b c : World} (h : Grown a b) (k : Grown b c) : Grown a c := ⟨below_step h.1 k.1, Nat.le_trans h.2 k.2⟩

theorem Grown.grow {w W : World} (h : Grown w W) : ∃ q os, W = Sort.grow (w.drewN q) os := by
  obtain ⟨hb, hd⟩ := h
  refine ⟨W.drawn - w.drawn, W.heap.extract w.heap.size W.heap.size, ?_⟩
  have hh : W.heap = w.heap ++ W.heap.extract w.heap.size W.heap.size := by
    apply Array.ext_getElem?
    intro i
    have hs := hb.size
    by_cases hi : i < w.heap.size
    · rw [hb.block i hi, Array.getElem?_append_left hi]
    · rw [Array.getElem?_append_right (by omega)]
      simp only [Array.getElem?_extract]
      by_cases hi2 : i < W.heap.size
      · rw [if_pos (by omega), show w.heap.size + (i - w.heap.size) = i by omega]
      · rw [if_neg (by omega), Array.getElem?_eq_none (by omega)]
  have e1 := hb.os
  have e2 := hb.tape
  have e3 := hb.output
  obtain ⟨H, T, D, O, U⟩ := W
  obtain ⟨H', T', D', O', U'⟩ := w
  simp only at hh e1 e2 e3 hd
  subst e1 e2 e3
  have e4 : D' + (D - D') = D := by omega
  unfold Sort.grow World.drewN
  simp only [World.mk.injEq, true_and, and_true]
  exact ⟨hh, e4.symm⟩

theorem grown_alloc4 {w W : World} {a b c d : Addr} {u v x y : Value} (o : Obj) (h : (W.cell? a = some u ∧ W.cell? b = some v ∧ W.cell? c = some x ∧ W.cell? d = some y) ∧ Grown w W) :
    ((W.alloc o).cell? a = some u ∧ (W.alloc o).cell? b = some v ∧ (W.alloc o).cell? c = some x ∧ (W.alloc o).cell? d = some y) ∧ Grown w (W.alloc o) :=
  ⟨⟨cell_alloc h.1.1, cell_alloc h.1.2.1, cell_alloc h.1.2.2.1, cell_alloc h.1.2.2.2⟩, h.2.alloc o⟩

set_option maxHeartbeats 800000 in
theorem compare_grown (t r t' r' : Int) (w : World) :
    Calls Try.prog 12 #[.agg #[.int .i64 t, .int .i64 r], .agg #[.int .i64 t', .int .i64 r']] w fun e w' => e = .returned (.int .i64 (cmp t r t' r')) ∧ Grown w w' := by
  have hv := or2_cmp t r t' r'
  obtain ⟨x, hx⟩ : ∃ x, x = cmp1 t t' := ⟨_, rfl⟩
  obtain ⟨y, hy⟩ : ∃ y, y = cmp1 r r' := ⟨_, rfl⟩
  have H1 : Hid (∀ W : World, Calls Try.prog 19 #[.int .i64 t, .int .i64 t'] W fun e w' => e = .returned (.int .i64 x) ∧ W = w') := fun W => by rw [hx]; exact compare64 _ _ W
  have H2 : Hid (∀ W : World, Calls Try.prog 20 #[.int .i64 r, .int .i64 r'] W fun e w' => e = .returned (.int .i64 y) ∧ W = w') := fun W => by rw [hy]; exact compareInt _ _ W
  rw [← hx, ← hy] at hv
  have HV := Lib.hid hv
  clear hv hx hy
  go_enter Try.func12, Try.ntmps12
  go_wp2_with fail
  have hS0 : (((w.alloc (.cells #[.int .i64 t, .int .i64 r] 29)).alloc (.cells #[.int .i64 t', .int .i64 r'] 29)).drew.cell? ⟨w.heap.size, 0, none⟩ = some (.int .i64 t) ∧ ((w.alloc (.cells #[.int .i64 t, .int .i64 r] 29)).alloc (.cells #[.int .i64 t', .int .i64 r'] 29)).drew.cell? ⟨w.heap.size, 1, none⟩ = some (.int .i64 r) ∧ ((w.alloc (.cells #[.int .i64 t, .int .i64 r] 29)).alloc (.cells #[.int .i64 t', .int .i64 r'] 29)).drew.cell? ⟨w.heap.size + 1, 0, none⟩ = some (.int .i64 t') ∧ ((w.alloc (.cells #[.int .i64 t, .int .i64 r] 29)).alloc (.cells #[.int .i64 t', .int .i64 r'] 29)).drew.cell? ⟨w.heap.size + 1, 1, none⟩ = some (.int .i64 r')) ∧ Grown w ((w.alloc (.cells #[.int .i64 t, .int .i64 r] 29)).alloc (.cells #[.int .i64 t', .int .i64 r'] 29)).drew := by
    refine ⟨⟨?_, ?_, ?_, ?_⟩, (((Grown.refl _).alloc _).alloc _).drew⟩
    · exact cell_of_row _ _ 0 _ _ (0, 0) (heap_alloc2_old w _ _)
    · exact cell_of_row _ _ 1 _ _ (0, 0) (heap_alloc2_old w _ _)
    · exact cell_of_row _ _ 0 _ _ (0, 0) (heap_alloc2_new w _ _)
    · exact cell_of_row _ _ 1 _ _ (0, 0) (heap_alloc2_new w _ _)
  go_region_held3 (fun W => (W.cell? ⟨w.heap.size, 0, none⟩ = some (.int .i64 t) ∧ W.cell? ⟨w.heap.size, 1, none⟩ = some (.int .i64 r) ∧ W.cell? ⟨w.heap.size + 1, 0, none⟩ = some (.int .i64 t') ∧ W.cell? ⟨w.heap.size + 1, 1, none⟩ = some (.int .i64 r')) ∧ Grown w W) (first | assumption | exact grown_alloc4 _ (by assumption) | (refine ⟨⟨?_, ?_, ?_, ?_⟩, ?_⟩ <;> assumption))
    (first
      | (go_at_call 19; (with_reducible refine (H1.out _).mono ?_); rintro e w' ⟨rfl, rfl⟩; have hS := hS0)
      | (go_at_call 20; (with_reducible refine (H2.out _).mono ?_); rintro e w' ⟨rfl, rfl⟩; have hS := hS0)
      | (go_at_call 18; refine (or_any _ x y _ ?_ ?_).mono ?_; exact (cell_third w _ _ _ _ _).1; exact (cell_third w _ _ _ _ _).2; rintro e w' ⟨rfl, rfl⟩; have hS := ‹(_ ∧ _ ∧ _ ∧ _) ∧ Grown w _›))
  have hB := (show Grown w _ from And.right ‹(_ ∧ _ ∧ _ ∧ _) ∧ Grown w _›)
  clear hS0
  go_wp2_with fail
  go_ret
  exact ⟨by rw [← HV.out]; rfl, hB⟩

end Go.Proofs.Ytoobmkkmomiigaa
