/-
  The walk of the document's own Take.
-/
import Derived.Test.YteknegfocnopgaaDoorStampVals
import Derived.Test.YteknegfocnopgaaDoorStampRefMay
import Derived.Test.YteknegfocnopgaaDoorPackRefTakeInt
namespace Go.Proofs.YteknegfocnopgaaDoor
open Go.RowKit StampMath PackMath

set_option maxRecDepth 100000 in
set_option maxHeartbeats 800000 in
theorem refStampTake (s : ByteArray) (hs : s.size ≤ 4000) (w : World) :
    Calls Tryd.prog 49 #[.string s] w fun e w' => e = .returned (stampRes (stampL s.data.toList)) ∧ Below w.heap.size w w' := by
  have hz0 : (0 : Int) ≤ 2 := by omega
  cases h : takeL s.data.toList with
  | none =>
    have HE : Hid (∀ W : World, Calls Tryd.prog 26 #[.string ⟨#[]⟩] W fun e w' => e = .returned (.tuple #[.int .i64 0, .string ⟨#[]⟩, .int .i64 2]) ∧ Below W.heap.size W w') := fun W => refTakeInt_none ⟨#[]⟩ (by decide) rfl W
    rw [stampL_none1 h]
    have H := Lib.hid h
    clear h
    go_enter Tryd.func49, Tryd.ntmps49
    go_wp2_with fail
    refine (refTakeInt_none s hs H.out _).mono ?_
    rintro e w1 ⟨rfl, hb1⟩
    obtain ⟨hc1, hf1⟩ := bcell_below hb1
    have hz1 : w.heap.size < w1.heap.size := by have := hb1.size; simp at this; omega
    go_wp2_with fail
    refine (HE.out _).mono ?_
    rintro e w2 ⟨rfl, hb2⟩
    obtain ⟨hc2, hf2⟩ := bcell_below hb2
    have hz2 : w.heap.size < w2.heap.size := by have := hb2.size; omega
    go_wp2_with fail
    have A2 : Below w.heap.size w w2 := below_step (below_step ((Below.refl _ _).alloc (Nat.le_refl _) _) hb1) hb2
    exact bodyPost_ret (v := stampRes none) (by simp [results, Tryd.results49, go_sem, hc1, hc2, hz1, hz2, stampRes]) rfl
      ⟨rfl, ((A2.setCell (p := ⟨w.heap.size, 0, none⟩) (Nat.le_refl _) _).setCell (p := ⟨w.heap.size, 1, none⟩) (Nat.le_refl _) _).alloc (by simp; exact A2.size) _⟩
  | some x =>
    obtain ⟨m, t⟩ := x
    have hl : t.length ≤ s.size := by have := takeL_len h; simpa using this
    cases h2 : takeL t with
    | none =>
      rw [stampL_none2 h h2]
      have H := Lib.hid h
      have H2 : Hid (∀ W : World, Calls Tryd.prog 26 #[.string ⟨t.toArray⟩] W fun e w' => e = .returned (.tuple #[.int .i64 0, .string ⟨#[]⟩, .int .i64 2]) ∧ Below W.heap.size W w') := fun W => refTakeInt_none ⟨t.toArray⟩ (by show t.length ≤ 4000; omega) h2 W
      clear h h2
      go_enter Tryd.func49, Tryd.ntmps49
      go_wp2_with fail
      refine (refTakeInt_some s hs m t H.out _).mono ?_
      rintro e w1 ⟨rfl, hb1⟩
      obtain ⟨hc1, hf1⟩ := bcell_below hb1
      have hz1 : w.heap.size < w1.heap.size := by have := hb1.size; simp at this; omega
      go_wp2_with fail
      refine (H2.out _).mono ?_
      rintro e w2 ⟨rfl, hb2⟩
      obtain ⟨hc2, hf2⟩ := bcell_below hb2
      have hz2 : w.heap.size < w2.heap.size := by have := hb2.size; omega
      go_wp2_with fail
      have A2 : Below w.heap.size w w2 := below_step (below_step ((Below.refl _ _).alloc (Nat.le_refl _) _) hb1) hb2
      exact bodyPost_ret (v := stampRes none) (by simp [results, Tryd.results49, go_sem, hc1, hc2, hz1, hz2, stampRes]) rfl
        ⟨rfl, ((A2.setCell (p := ⟨w.heap.size, 0, none⟩) (Nat.le_refl _) _).setCell (p := ⟨w.heap.size, 1, none⟩) (Nat.le_refl _) _).alloc (by simp; exact A2.size) _⟩
    | some y =>
      obtain ⟨k, u⟩ := y
      have hE := stampL_may h h2
      obtain ⟨b, hb⟩ : ∃ b, b = mayB (unzig m) (unzig k) := ⟨_, rfl⟩
      rw [← hb] at hE
      rw [hE]
      have H := Lib.hid h
      have H2 : Hid (∀ W : World, Calls Tryd.prog 26 #[.string ⟨t.toArray⟩] W fun e w' => e = .returned (.tuple #[.int .i64 (unzig k), .string ⟨u.toArray⟩, .int .i64 0]) ∧ Below W.heap.size W w') := fun W => refTakeInt_some ⟨t.toArray⟩ (by show t.length ≤ 4000; omega) k u h2 W
      have H3 : Hid (∀ W : World, Calls Tryd.prog 36 #[.agg #[.int .i64 (unzig m), .int .i64 (unzig k)]] W fun e w' => e = .returned (.bool b) ∧ Below W.heap.size W w') := fun W => by rw [hb]; exact refMay _ _ W
      have hk : IsI64 (unzig k) := unzig_i64 (takeL_u64 h2)
      have hk1 := hk.1
      have hk2 := hk.2
      clear h h2 hE hb hk
      cases b
      all_goals
        go_enter Tryd.func49, Tryd.ntmps49
        go_wp2_with fail
        refine (refTakeInt_some s hs m t H.out _).mono ?_
        rintro e w1 ⟨rfl, hb1⟩
        obtain ⟨hc1, hf1⟩ := bcell_below hb1
        have hz1 : w.heap.size < w1.heap.size := by have := hb1.size; simp at this; omega
        go_wp2_with fail
        refine (H2.out _).mono ?_
        rintro e w2 ⟨rfl, hb2⟩
        obtain ⟨hc2, hf2⟩ := bcell_below hb2
        have hz2 : w.heap.size < w2.heap.size := by have := hb2.size; omega
        go_wp2_with fail
        refine (H3.out _).mono ?_
        rintro e w3 ⟨rfl, hb3⟩
        obtain ⟨hc3, hf3⟩ := bcell_below hb3
        have hz3 : w.heap.size < w3.heap.size := by have := hb3.size; simp at this; omega
        have hz5 : w.heap.size < w2.heap.size + 1 := by omega
        go_wp2_with fail
      · have A3 : Below w.heap.size w w3 := below_step ((below_step (below_step ((Below.refl _ _).alloc (Nat.le_refl _) _) hb1) hb2).alloc (by omega) _) hb3
        exact bodyPost_ret (v := stampRes none) (by simp [results, Tryd.results49, go_sem, hc1, hc2, hc3, hz1, hz2, hz5, stampRes]) rfl
          ⟨rfl, ((A3.setCell (p := ⟨w.heap.size, 0, none⟩) (Nat.le_refl _) _).setCell (p := ⟨w.heap.size, 1, none⟩) (Nat.le_refl _) _)⟩
      · have A3 : Below w.heap.size w w3 := below_step ((below_step (below_step ((Below.refl _ _).alloc (Nat.le_refl _) _) hb1) hb2).alloc (by omega) _) hb3
        exact bodyPost_ret (v := stampRes (some (unzig m, unzig k, u))) (by simp [results, Tryd.results49, go_sem, hc1, hc2, hc3, hz1, hz2, hz5, stampRes]) rfl
          ⟨rfl, ((A3.setCell (p := ⟨w.heap.size, 0, none⟩) (Nat.le_refl _) _).setCell (p := ⟨w.heap.size, 1, none⟩) (Nat.le_refl _) _)⟩

end Go.Proofs.YteknegfocnopgaaDoor
