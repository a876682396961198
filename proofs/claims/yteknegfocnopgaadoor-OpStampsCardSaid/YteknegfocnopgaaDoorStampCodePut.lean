/-
  The walks of stamp's Put and Take.
-/
import Derived.Test.YteknegfocnopgaaDoorStampCodeMay
import Derived.Test.YteknegfocnopgaaDoorPackInt
import Derived.Deep.RegionHeld3
import Derived.Test.YteknegfocnopgaaDoorPackTakeInt
namespace Go.Proofs.YteknegfocnopgaaDoor
open Go.RowKit StampMath PackMath

set_option maxHeartbeats 400000 in
theorem put_any (t r : Int) (w : World) (ht : IsI64 t) (hr : IsI64 r) :
    Calls Tryd.prog 37 #[.agg #[.int .i64 t, .int .i64 r]] w fun e w' => e = .returned (.string ⟨(putL t r).toArray⟩) ∧ Below w.heap.size w w' := by
  have HT := Lib.hid ht
  have HR := Lib.hid hr
  have hadd : ∀ W : World, (Op.stringOp .add ⟨(numL (zig t)).toArray⟩ ⟨(numL (zig r)).toArray⟩).run Tryd.prog W = .ok (.string ⟨(putL t r).toArray⟩) W := fun W => by
    have hl1 := (numL_length (zig t)).2
    have hl2 := (numL_length (zig r)).2
    rw [run_string_add_sum W _ _ (by show (numL (zig t)).length + (numL (zig r)).length ≤ _; omega), putL_str]
  have hS0 : ((w.alloc (.cells #[.int .i64 t, .int .i64 r] 23)).drew.cell? ⟨w.heap.size, 0, none⟩ = some (.int .i64 t) ∧ (w.alloc (.cells #[.int .i64 t, .int .i64 r] 23)).drew.cell? ⟨w.heap.size, 1, none⟩ = some (.int .i64 r)) ∧
      KeptFrom w (w.alloc (.cells #[.int .i64 t, .int .i64 r] 23)).drew :=
    ⟨⟨cell_of_row _ _ 0 _ _ (0, 0) (heap_alloc_new w _), cell_of_row _ _ 1 _ _ (0, 0) (heap_alloc_new w _)⟩, ((Below.refl _ _).alloc (Nat.le_refl _) _).drew⟩
  clear ht hr
  go_enter Tryd.func37, Tryd.ntmps37
  go_wp2_with fail
  go_region_held3 (fun W => (W.cell? ⟨w.heap.size, 0, none⟩ = some (.int .i64 t) ∧ W.cell? ⟨w.heap.size, 1, none⟩ = some (.int .i64 r)) ∧ KeptFrom w W) (first | assumption | (refine ⟨⟨?_, ?_⟩, ?_⟩ <;> assumption))
    (first
      | (go_at_call 39; (with_reducible refine (int_any t HT.out _).mono ?_); rintro e w' ⟨rfl, hb⟩; have hS := kept_call2 hb (by assumption))
      | (go_at_call 39; (with_reducible refine (int_any r HR.out _).mono ?_); rintro e w' ⟨rfl, hb⟩; have hS := kept_call2 hb (by assumption)))
  have hE : ∀ {W : World} {a b : Addr} {u v : Value}, (W.cell? a = some u ∧ W.cell? b = some v) ∧ KeptFrom w W → Below w.heap.size w W := fun h => h.2
  go_wp2_with fail
  go_ret
  exact ⟨rfl, hE (by assumption)⟩

set_option maxRecDepth 100000 in
set_option maxHeartbeats 800000 in
theorem stampTake_any (s : ByteArray) (w : World) (hs : s.size ≤ 30000) :
    Calls Tryd.prog 46 #[.string s] w fun e w' => e = .returned (stampRes (stampL s.data.toList)) ∧ Below w.heap.size w w' := by
  cases h : takeL s.data.toList with
  | none =>
    rw [stampL_none1 h]
    have H := Lib.hid h
    clear h
    go_enter Tryd.func46, Tryd.ntmps46
    go_wp2_with fail
    refine (takeInt_none s (by omega) H.out _).mono ?_
    rintro e w1 ⟨rfl, hb1⟩
    obtain ⟨hc1, hf1⟩ := bcell_below hb1
    have hz1 : w.heap.size < w1.heap.size := by have := hb1.size; simp at this; omega
    go_wp2_with fail
    have A2 : Below w.heap.size w w1 := below_step ((Below.refl _ _).alloc (Nat.le_refl _) _) hb1
    exact bodyPost_ret (v := stampRes none) (by simp [results, Tryd.results46, go_sem, hc1, stampRes]) rfl
      ⟨rfl, ((A2.setCell (p := ⟨w.heap.size, 0, none⟩) (Nat.le_refl _) _).setCell (p := ⟨w.heap.size, 1, none⟩) (Nat.le_refl _) _)⟩
  | some x =>
    obtain ⟨m, t⟩ := x
    have hl : t.length ≤ s.size := by have := takeL_len h; simpa using this
    cases h2 : takeL t with
    | none =>
      rw [stampL_none2 h h2]
      have H := Lib.hid h
      have H2 : Hid (∀ W : World, Calls Tryd.prog 44 #[.string ⟨t.toArray⟩] W fun e w' => e = .returned (.tuple #[.int .i64 0, .string ⟨#[]⟩, .int .i64 2]) ∧ Below W.heap.size W w') := fun W => takeInt_none ⟨t.toArray⟩ (by show t.length ≤ 30000; omega) h2 W
      clear h h2
      go_enter Tryd.func46, Tryd.ntmps46
      go_wp2_with fail
      refine (takeInt_some s (by omega) m t H.out _).mono ?_
      rintro e w1 ⟨rfl, hb1⟩
      obtain ⟨hc1, hf1⟩ := bcell_below hb1
      have hz1 : w.heap.size < w1.heap.size := by have := hb1.size; simp at this; omega
      go_wp2_with fail
      refine (H2.out _).mono ?_
      rintro e w2 ⟨rfl, hb2⟩
      obtain ⟨hc2, hf2⟩ := bcell_below hb2
      have hz2 : w.heap.size < w2.heap.size := by have := hb2.size; omega
      go_wp2_with fail
      have A2 : Below w.heap.size w w2 := below_step (below_step ((Below.refl _ _).alloc (Nat.le_refl _) _) hb1) hb2
      exact bodyPost_ret (v := stampRes none) (by simp [results, Tryd.results46, go_sem, hc1, hc2, hz1, stampRes]) rfl
        ⟨rfl, ((A2.setCell (p := ⟨w.heap.size, 0, none⟩) (Nat.le_refl _) _).setCell (p := ⟨w.heap.size, 1, none⟩) (Nat.le_refl _) _)⟩
    | some y =>
      obtain ⟨k, u⟩ := y
      have hE := stampL_may h h2
      obtain ⟨b, hb⟩ : ∃ b, b = mayB (unzig m) (unzig k) := ⟨_, rfl⟩
      rw [← hb] at hE
      rw [hE]
      have H := Lib.hid h
      have H2 : Hid (∀ W : World, Calls Tryd.prog 44 #[.string ⟨t.toArray⟩] W fun e w' => e = .returned (.tuple #[.int .i64 (unzig k), .string ⟨u.toArray⟩, .int .i64 0]) ∧ Below W.heap.size W w') := fun W => takeInt_some ⟨t.toArray⟩ (by show t.length ≤ 30000; omega) k u h2 W
      have H3 : Hid (∀ W : World, Calls Tryd.prog 54 #[.agg #[.int .i64 (unzig m), .int .i64 (unzig k)]] W fun e w' => e = .returned (.bool b) ∧ Below W.heap.size W w') := fun W => by rw [hb]; exact may_any _ _ W
      have hk : IsI64 (unzig k) := unzig_i64 (takeL_u64 h2)
      have hk1 := hk.1
      have hk2 := hk.2
      clear h h2 hE hb hk
      cases b
      all_goals
        go_enter Tryd.func46, Tryd.ntmps46
        go_wp2_with fail
        refine (takeInt_some s (by omega) m t H.out _).mono ?_
        rintro e w1 ⟨rfl, hb1⟩
        obtain ⟨hc1, hf1⟩ := bcell_below hb1
        have hz1 : w.heap.size < w1.heap.size := by have := hb1.size; simp at this; omega
        go_wp2_with fail
        refine (H2.out _).mono ?_
        rintro e w2 ⟨rfl, hb2⟩
        obtain ⟨hc2, hf2⟩ := bcell_below hb2
        have hz2 : w.heap.size < w2.heap.size := by have := hb2.size; omega
        go_wp2_with fail
        refine (H3.out _).mono ?_
        rintro e w3 ⟨rfl, hb3⟩
        obtain ⟨hc3, hf3⟩ := bcell_below hb3
        have hz3 : w.heap.size < w3.heap.size := by have := hb3.size; simp at this; omega
        have hz5 : w.heap.size < w2.heap.size + 1 := by omega
        go_wp2_with fail
      · have A3 : Below w.heap.size w w3 := below_step ((below_step (below_step ((Below.refl _ _).alloc (Nat.le_refl _) _) hb1) hb2).alloc (by omega) _) hb3
        exact bodyPost_ret (v := stampRes none) (by simp [results, Tryd.results46, go_sem, hc1, hc2, hc3, hz1, hz2, hz5, stampRes]) rfl
          ⟨rfl, ((A3.setCell (p := ⟨w.heap.size, 0, none⟩) (Nat.le_refl _) _).setCell (p := ⟨w.heap.size, 1, none⟩) (Nat.le_refl _) _)⟩
      · have A3 : Below w.heap.size w w3 := below_step ((below_step (below_step ((Below.refl _ _).alloc (Nat.le_refl _) _) hb1) hb2).alloc (by omega) _) hb3
        exact bodyPost_ret (v := stampRes (some (unzig m, unzig k, u))) (by simp [results, Tryd.results46, go_sem, hc1, hc2, hc3, hz1, hz2, hz5, stampRes]) rfl
          ⟨rfl, ((A3.setCell (p := ⟨w.heap.size, 0, none⟩) (Nat.le_refl _) _).setCell (p := ⟨w.heap.size, 1, none⟩) (Nat.le_refl _) _)⟩

end Go.Proofs.YteknegfocnopgaaDoor
