/-
  The walks of stamp's own small functions, and of package cmp's.
-/
import Derived.Test.YtgfgcfmifebnbaaStampHave
import Derived.Deep.RegionHeld3
import Derived.Deep.LoopGhost
namespace Go.Proofs.Ytgfgcfmifebnbaa
open Go.RowKit StampMath PackMath

theorem isRep_any (r : Int) (w : World) :
    Calls Try.prog 24 #[.int .i64 r] w fun e w' => e = .returned (.bool (decide (0 ≤ r) && decide (r < 8))) ∧ w = w' := by
  have hcase : (decide (0 ≤ r) = false) ∨ 0 ≤ r := by
    by_cases h : 0 ≤ r
    · exact Or.inr h
    · exact Or.inl (by simp; omega)
  rcases hcase with h | h
  all_goals
    go_enter Try.func24, Try.ntmps24
    go_wp2_with fail
    go_ret
    exact ⟨by simp [h], rfl⟩

theorem nan64 (t : Int) (w : World) : Calls Try.prog 33 #[.int .i64 t] w fun e w' => e = .returned (.bool false) ∧ w = w' := by
  go_enter Try.func33, Try.ntmps33
  go_wp2_with fail
  go_ret
  exact ⟨by simp, rfl⟩

theorem nanInt (t : Int) (w : World) : Calls Try.prog 34 #[.int .i64 t] w fun e w' => e = .returned (.bool false) ∧ w = w' := by
  go_enter Try.func34, Try.ntmps34
  go_wp2_with fail
  go_ret
  exact ⟨by simp, rfl⟩

theorem cell_alloc {W : World} {o : Obj} {a : Addr} {v : Value} (h : W.cell? a = some v) : (W.alloc o).cell? a = some v :=
  (World.cell?_alloc_lt W o a (World.block_lt_of_cell? _ _ h)).trans h

theorem kept_alloc4 {w W : World} {a b c d : Addr} {u v x y : Value} (o : Obj) (h : (W.cell? a = some u ∧ W.cell? b = some v ∧ W.cell? c = some x ∧ W.cell? d = some y) ∧ KeptFrom w W) :
    ((W.alloc o).cell? a = some u ∧ (W.alloc o).cell? b = some v ∧ (W.alloc o).cell? c = some x ∧ (W.alloc o).cell? d = some y) ∧ KeptFrom w (W.alloc o) :=
  ⟨⟨cell_alloc h.1.1, cell_alloc h.1.2.1, cell_alloc h.1.2.2.1, cell_alloc h.1.2.2.2⟩, (kept_below h.2).alloc (kept_below h.2).size o⟩

theorem cell_third (w : World) (o1 o2 : Obj) (a b : Value) (T : TypeId) :
    (((w.alloc o1).alloc o2).alloc (.cells #[a, b] T)).drew.cell? ⟨w.heap.size + 1 + 1, 0, none⟩ = some a ∧ (((w.alloc o1).alloc o2).alloc (.cells #[a, b] T)).drew.cell? ⟨w.heap.size + 1 + 1, 1, none⟩ = some b := by
  have h := heap_alloc_new ((w.alloc o1).alloc o2) (.cells #[a, b] T)
  have e : ((w.alloc o1).alloc o2).heap.size = w.heap.size + 1 + 1 := by simp
  rw [e] at h
  exact ⟨cell_of_row _ _ 0 _ _ (0, 0) h, cell_of_row _ _ 1 _ _ (0, 0) h⟩

/-- Which of two numbers is first. -/
def cmp1 (x y : Int) : Int := if x < y then -1 else if y < x then 1 else 0

set_option maxHeartbeats 400000 in
theorem compare64 (x y : Int) (w : World) : Calls Try.prog 26 #[.int .i64 x, .int .i64 y] w fun e w' => e = .returned (.int .i64 (cmp1 x y)) ∧ w = w' := by
  have hcase : (x < y ∧ cmp1 x y = -1) ∨ (¬ x < y ∧ y < x ∧ cmp1 x y = 1) ∨ (¬ x < y ∧ ¬ y < x ∧ cmp1 x y = 0) := by
    unfold cmp1
    by_cases h1 : x < y
    · exact Or.inl ⟨h1, by rw [if_pos h1]⟩
    · by_cases h2 : y < x
      · exact Or.inr (Or.inl ⟨h1, h2, by rw [if_neg h1, if_pos h2]⟩)
      · exact Or.inr (Or.inr ⟨h1, h2, by rw [if_neg h1, if_neg h2]⟩)
  rcases hcase with ⟨h1, h⟩ | ⟨h1, h2, h⟩ | ⟨h1, h2, h⟩
  all_goals
    rw [h]
    clear h
    go_enter Try.func26, Try.ntmps26
    go_wp2_with fail
    refine (nan64 _ _).mono ?_
    rintro e w' ⟨rfl, rfl⟩
    go_wp2_with fail
    refine (nan64 _ _).mono ?_
    rintro e w' ⟨rfl, rfl⟩
    go_wp2_with fail
    go_ret
    exact ⟨rfl, rfl⟩

set_option maxHeartbeats 400000 in
theorem compareInt (x y : Int) (w : World) : Calls Try.prog 27 #[.int .i64 x, .int .i64 y] w fun e w' => e = .returned (.int .i64 (cmp1 x y)) ∧ w = w' := by
  have hcase : (x < y ∧ cmp1 x y = -1) ∨ (¬ x < y ∧ y < x ∧ cmp1 x y = 1) ∨ (¬ x < y ∧ ¬ y < x ∧ cmp1 x y = 0) := by
    unfold cmp1
    by_cases h1 : x < y
    · exact Or.inl ⟨h1, by rw [if_pos h1]⟩
    · by_cases h2 : y < x
      · exact Or.inr (Or.inl ⟨h1, h2, by rw [if_neg h1, if_pos h2]⟩)
      · exact Or.inr (Or.inr ⟨h1, h2, by rw [if_neg h1, if_neg h2]⟩)
  rcases hcase with ⟨h1, h⟩ | ⟨h1, h2, h⟩ | ⟨h1, h2, h⟩
  all_goals
    rw [h]
    clear h
    go_enter Try.func27, Try.ntmps27
    go_wp2_with fail
    refine (nanInt _ _).mono ?_
    rintro e w' ⟨rfl, rfl⟩
    go_wp2_with fail
    refine (nanInt _ _).mono ?_
    rintro e w' ⟨rfl, rfl⟩
    go_wp2_with fail
    go_ret
    exact ⟨rfl, rfl⟩

/-- The first of two numbers that is not zero. -/
def or2 (a b : Int) : Int := if a = 0 then b else a

theorem or2_cmp (t r t' r' : Int) : or2 (cmp1 t t') (cmp1 r r') = cmp t r t' r' := by
  have h := cmp_cases t r t' r'
  unfold or2 cmp1
  split <;> split <;> (try split) <;> (try split) <;> omega

set_option maxHeartbeats 400000 in
theorem or_any (g : Nat) (a b : Int) (W : World) (h0 : W.cell? ⟨g, 0, none⟩ = some (.int .i64 a)) (h1 : W.cell? ⟨g, 1, none⟩ = some (.int .i64 b)) :
    Calls Try.prog 25 #[.slice (some ⟨g, 0, none⟩) 2 2] W fun e w' => e = .returned (.int .i64 (or2 a b)) ∧ W = w' := by
  go_enter Try.func25, Try.ntmps25
  go_wp2_with fail
  go_loop [8] (fun i => ∃ k : Nat, i = .int .i64 (k : Int) ∧ k ≤ 2 ∧ (0 < k → a = 0) ∧ (1 < k → b = 0)) (fun i => 2 - (intOf i).toNat)
  case atStart => exact ⟨0, rfl, by omega, by omega, by omega⟩
  case round =>
    obtain ⟨k, rfl, hk, ha, hb⟩ := hrel
    have HA := Lib.hid ha
    have HB := Lib.hid hb
    clear ha hb
    have hk3 : k = 0 ∨ k = 1 ∨ k = 2 := by omega
    clear hk
    rcases hk3 with rfl | rfl | rfl
    · by_cases hz : a = 0
      · have hz' : (a == 0) = true := by simp [hz]
        have HZ := Lib.hid hz
        clear hz
        go_wp2_with fail
        exact ⟨⟨1, by go_num, by omega, fun _ => HZ.out, by omega⟩, by simp [intOf]⟩
      · have hz' : (a == 0) = false := by simp [hz]
        have HZ := Lib.hid hz
        clear hz
        go_wp2_with fail
        go_ret
        exact ⟨by rw [or2, if_neg HZ.out]; rfl, rfl⟩
    · by_cases hz : b = 0
      · have hz' : (b == 0) = true := by simp [hz]
        have HZ := Lib.hid hz
        clear hz
        go_wp2_with fail
        exact ⟨⟨2, by go_num, by omega, fun _ => HA.out (by omega), fun _ => HZ.out⟩, by simp [intOf]⟩
      · have hz' : (b == 0) = false := by simp [hz]
        have HZ := Lib.hid hz
        clear hz
        go_wp2_with fail
        go_ret
        exact ⟨by rw [or2, if_pos (HA.out (by omega))]; rfl, rfl⟩
    · go_wp2_with fail
      go_ret
      exact ⟨by rw [or2, if_pos (HA.out (by omega)), HB.out (by omega)]; rfl, rfl⟩

set_option maxHeartbeats 800000 in
theorem compare_any (t r t' r' : Int) (w : World) :
    Calls Try.prog 16 #[.agg #[.int .i64 t, .int .i64 r], .agg #[.int .i64 t', .int .i64 r']] w fun e w' => e = .returned (.int .i64 (cmp t r t' r')) ∧ Below w.heap.size w w' := by
  have hv := or2_cmp t r t' r'
  obtain ⟨x, hx⟩ : ∃ x, x = cmp1 t t' := ⟨_, rfl⟩
  obtain ⟨y, hy⟩ : ∃ y, y = cmp1 r r' := ⟨_, rfl⟩
  have H1 : Hid (∀ W : World, Calls Try.prog 26 #[.int .i64 t, .int .i64 t'] W fun e w' => e = .returned (.int .i64 x) ∧ W = w') := fun W => by rw [hx]; exact compare64 _ _ W
  have H2 : Hid (∀ W : World, Calls Try.prog 27 #[.int .i64 r, .int .i64 r'] W fun e w' => e = .returned (.int .i64 y) ∧ W = w') := fun W => by rw [hy]; exact compareInt _ _ W
  rw [← hx, ← hy] at hv
  have HV := Lib.hid hv
  clear hv hx hy
  go_enter Try.func16, Try.ntmps16
  go_wp2_with fail
  have hS0 : (((w.alloc (.cells #[.int .i64 t, .int .i64 r] 23)).alloc (.cells #[.int .i64 t', .int .i64 r'] 23)).drew.cell? ⟨w.heap.size, 0, none⟩ = some (.int .i64 t) ∧ ((w.alloc (.cells #[.int .i64 t, .int .i64 r] 23)).alloc (.cells #[.int .i64 t', .int .i64 r'] 23)).drew.cell? ⟨w.heap.size, 1, none⟩ = some (.int .i64 r) ∧ ((w.alloc (.cells #[.int .i64 t, .int .i64 r] 23)).alloc (.cells #[.int .i64 t', .int .i64 r'] 23)).drew.cell? ⟨w.heap.size + 1, 0, none⟩ = some (.int .i64 t') ∧ ((w.alloc (.cells #[.int .i64 t, .int .i64 r] 23)).alloc (.cells #[.int .i64 t', .int .i64 r'] 23)).drew.cell? ⟨w.heap.size + 1, 1, none⟩ = some (.int .i64 r')) ∧ KeptFrom w ((w.alloc (.cells #[.int .i64 t, .int .i64 r] 23)).alloc (.cells #[.int .i64 t', .int .i64 r'] 23)).drew := by
    refine ⟨⟨?_, ?_, ?_, ?_⟩, ((((Below.refl _ _).alloc (Nat.le_refl _) _).alloc (by simp) _).drew)⟩
    · exact cell_of_row _ _ 0 _ _ (0, 0) (heap_alloc2_old w _ _)
    · exact cell_of_row _ _ 1 _ _ (0, 0) (heap_alloc2_old w _ _)
    · exact cell_of_row _ _ 0 _ _ (0, 0) (heap_alloc2_new w _ _)
    · exact cell_of_row _ _ 1 _ _ (0, 0) (heap_alloc2_new w _ _)
  go_region_held3 (fun W => (W.cell? ⟨w.heap.size, 0, none⟩ = some (.int .i64 t) ∧ W.cell? ⟨w.heap.size, 1, none⟩ = some (.int .i64 r) ∧ W.cell? ⟨w.heap.size + 1, 0, none⟩ = some (.int .i64 t') ∧ W.cell? ⟨w.heap.size + 1, 1, none⟩ = some (.int .i64 r')) ∧ KeptFrom w W) (first | assumption | exact kept_alloc4 _ (by assumption) | (refine ⟨⟨?_, ?_, ?_, ?_⟩, ?_⟩ <;> assumption))
    (first
      | (go_at_call 26; (with_reducible refine (H1.out _).mono ?_); rintro e w' ⟨rfl, rfl⟩; have hS := hS0)
      | (go_at_call 27; (with_reducible refine (H2.out _).mono ?_); rintro e w' ⟨rfl, rfl⟩; have hS := hS0)
      | (go_at_call 25; refine (or_any _ x y _ ?_ ?_).mono ?_; exact (cell_third w _ _ _ _ _).1; exact (cell_third w _ _ _ _ _).2; rintro e w' ⟨rfl, rfl⟩; have hS := ‹(_ ∧ _ ∧ _ ∧ _) ∧ KeptFrom w _›))
  have hB := kept_below (show KeptFrom w _ from And.right ‹(_ ∧ _ ∧ _ ∧ _) ∧ KeptFrom w _›)
  clear hS0
  go_wp2_with fail
  go_ret
  exact ⟨by rw [← HV.out]; rfl, hB⟩

set_option maxHeartbeats 400000 in
theorem may_any (t r : Int) (w : World) :
    Calls Try.prog 14 #[.agg #[.int .i64 t, .int .i64 r]] w fun e w' => e = .returned (.bool (mayB t r)) ∧ Below w.heap.size w w' := by
  have hcase : ((t == 0) = true ∧ mayB t r = (r == 0)) ∨ ((t == 0) = false ∧ decide (0 < t) = false ∧ mayB t r = false) ∨ ((t == 0) = false ∧ 0 < t ∧ decide (t ≤ 1073741824) = false ∧ mayB t r = false) ∨
      ((t == 0) = false ∧ 0 < t ∧ t ≤ 1073741824 ∧ mayB t r = (decide (0 ≤ r) && decide (r < 8))) := by
    unfold mayB
    by_cases h0 : t = 0
    · exact Or.inl ⟨by simp [h0], by rw [if_pos h0]⟩
    · rw [if_neg h0]
      by_cases h1 : 0 < t
      · by_cases h2 : t ≤ 1073741824
        · refine Or.inr (Or.inr (Or.inr ⟨by simp [h0], h1, h2, ?_⟩))
          have e1 : decide (1 ≤ t) = true := by simp; omega
          have e2 : decide (r ≤ 7) = decide (r < 8) := by rw [decide_eq_decide]; omega
          rw [e1, e2]
          simp [h2]
        · exact Or.inr (Or.inr (Or.inl ⟨by simp [h0], h1, by simp; omega, by simp [h2]⟩))
      · exact Or.inr (Or.inl ⟨by simp [h0], by simp; omega, by simp; omega⟩)
  rcases hcase with ⟨h0, h⟩ | ⟨h0, h1, h⟩ | ⟨h0, h1, h2, h⟩ | ⟨h0, h1, h2, h⟩
  · have H := Lib.hid h
    clear h
    go_enter Try.func14, Try.ntmps14
    go_wp2_with fail
    go_ret
    exact ⟨by rw [H.out]; rfl, (Below.refl _ _).alloc (Nat.le_refl _) _⟩
  · have H := Lib.hid h
    clear h
    go_enter Try.func14, Try.ntmps14
    go_wp2_with fail
    go_ret
    exact ⟨by rw [H.out]; rfl, (Below.refl _ _).alloc (Nat.le_refl _) _⟩
  · have H := Lib.hid h
    clear h
    go_enter Try.func14, Try.ntmps14
    go_wp2_with fail
    go_ret
    exact ⟨by rw [H.out]; rfl, (Below.refl _ _).alloc (Nat.le_refl _) _⟩
  · have H := Lib.hid h
    clear h
    go_enter Try.func14, Try.ntmps14
    go_wp2_with fail
    refine (isRep_any _ _).mono ?_
    rintro e w' ⟨rfl, rfl⟩
    go_wp2_with fail
    go_ret
    exact ⟨by rw [H.out]; rfl, (Below.refl _ _).alloc (Nat.le_refl _) _⟩

set_option maxHeartbeats 400000 in
theorem next_any (t r : Int) (w : World) :
    Calls Try.prog 12 #[.int .i64 t, .int .i64 r] w fun e w' => e = .returned (nextV t r) ∧ Below w.heap.size w w' := by
  have hcase : ((decide (0 ≤ r) && decide (r < 8)) = false ∧ nextV t r = .tuple #[.agg #[.int .i64 0, .int .i64 0], .int .i64 1]) ∨
      ((decide (0 ≤ r) && decide (r < 8)) = true ∧ t < 0 ∧ nextV t r = .tuple #[.agg #[.int .i64 0, .int .i64 0], .int .i64 1]) ∨ ((decide (0 ≤ r) && decide (r < 8)) = true ∧ ¬ t < 0 ∧ 1073741824 ≤ t ∧ nextV t r = .tuple #[.agg #[.int .i64 0, .int .i64 0], .int .i64 14]) ∨
      ((decide (0 ≤ r) && decide (r < 8)) = true ∧ ¬ t < 0 ∧ ¬ 1073741824 ≤ t ∧ nextV t r = .tuple #[.agg #[.int .i64 (t + 1), .int .i64 r], .int .i64 0]) := by
    have e : (decide (0 ≤ r) && decide (r < 8)) = decide (0 ≤ r ∧ r < 8) := by simp
    rw [e]
    unfold nextV
    by_cases h1 : 0 ≤ r ∧ r < 8
    · by_cases h3 : t < 0
      · exact Or.inr (Or.inl ⟨by simp [h1], h3, by rw [if_pos (by omega)]⟩)
      · by_cases h4 : 1073741824 ≤ t
        · exact Or.inr (Or.inr (Or.inl ⟨by simp [h1], h3, h4, by rw [if_neg (by omega), if_pos h4]⟩))
        · exact Or.inr (Or.inr (Or.inr ⟨by simp [h1], h3, h4, by rw [if_neg (by omega), if_neg h4]⟩))
    · exact Or.inl ⟨by rw [decide_eq_false_iff_not]; exact h1, by rw [if_pos (by omega)]⟩
  obtain ⟨b, hb⟩ : ∃ b, b = (decide (0 ≤ r) && decide (r < 8)) := ⟨_, rfl⟩
  have HR : Hid (∀ W : World, Calls Try.prog 24 #[.int .i64 r] W fun e w' => e = .returned (.bool b) ∧ W = w') := fun W => by rw [hb]; exact isRep_any r W
  rw [← hb] at hcase
  clear hb
  rcases hcase with ⟨rfl, h⟩ | ⟨rfl, h3, h⟩ | ⟨rfl, h3, h4, h⟩ | ⟨rfl, h3, h4, h⟩
  all_goals
    rw [h]
    clear h
    go_enter Try.func12, Try.ntmps12
    go_wp2_with fail
    refine (HR.out _).mono ?_
    rintro e w' ⟨rfl, rfl⟩
    go_wp2_with fail
  · exact bodyPost_ret (v := .tuple #[.agg #[.int .i64 0, .int .i64 0], .int .i64 1]) (by simp [results, Try.results12, go_sem]) rfl ⟨rfl, (Below.refl _ _).alloc (Nat.le_refl _) _⟩
  · exact bodyPost_ret (v := .tuple #[.agg #[.int .i64 0, .int .i64 0], .int .i64 1]) (by simp [results, Try.results12, go_sem]) rfl ⟨rfl, (Below.refl _ _).alloc (Nat.le_refl _) _⟩
  · exact bodyPost_ret (v := .tuple #[.agg #[.int .i64 0, .int .i64 0], .int .i64 14]) (by simp [results, Try.results12, go_sem]) rfl ⟨rfl, (Below.refl _ _).alloc (Nat.le_refl _) _⟩
  · exact bodyPost_ret (v := .tuple #[.agg #[.int .i64 (t + 1), .int .i64 r], .int .i64 0]) (by simp [results, Try.results12, go_sem]) rfl ⟨rfl, (Below.refl _ _).alloc (Nat.le_refl _) _⟩

end Go.Proofs.Ytgfgcfmifebnbaa
