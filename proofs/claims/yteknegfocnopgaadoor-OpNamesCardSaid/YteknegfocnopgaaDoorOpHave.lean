/-
  What the statements of layer 5 need of the package's own functions; and the statements' head.
-/
import Derived.Test.YteknegfocnopgaaDoorOpTakeMath
import Derived.Test.YteknegfocnopgaaDoorRows
import Derived.Test.YteknegfocnopgaaDoorOpTab
namespace Go.Proofs.YteknegfocnopgaaDoor
open Go.RowKit OpMath StampMath PackMath

structure OpHave : Prop where
  name : ∀ (s : ByteArray) (w : World) [Tab w], s.size ≤ maxLen → Calls Tryd.prog 12 #[.string s] w fun e w' => e = .returned (.bool (nameB s)) ∧ Below w.heap.size w w'
  may : ∀ (o : Opn) (w : World) [Tab w], Ok64 o → o.name.size ≤ maxLen → o.new.size ≤ maxLen → o.data.size ≤ maxLen → Calls Tryd.prog 14 #[.agg #[.int .i64 o.st, .int .i64 o.sr, .int .i64 o.k, .int .i64 o.pt, .int .i64 o.pr, .int .i64 o.it, .int .i64 o.ir, .int .i64 o.tt, .int .i64 o.tr, .string o.name, .string o.new, .int .i64 o.off, .string o.data]] w fun e w' => e = .returned (.bool (mayO o)) ∧ Below w.heap.size w w'
  makes : ∀ (o : Opn) (w : World) [Tab w], Ok64 o → Calls Tryd.prog 18 #[.agg #[.int .i64 o.st, .int .i64 o.sr, .int .i64 o.k, .int .i64 o.pt, .int .i64 o.pr, .int .i64 o.it, .int .i64 o.ir, .int .i64 o.tt, .int .i64 o.tr, .string o.name, .string o.new, .int .i64 o.off, .string o.data]] w fun e w' => e = .returned (.int .i64 (makesO o)) ∧ Below w.heap.size w w'
  uses : ∀ (o : Opn) (w : World) [Tab w], Ok64 o → Calls Tryd.prog 21 #[.agg #[.int .i64 o.st, .int .i64 o.sr, .int .i64 o.k, .int .i64 o.pt, .int .i64 o.pr, .int .i64 o.it, .int .i64 o.ir, .int .i64 o.tt, .int .i64 o.tr, .string o.name, .string o.new, .int .i64 o.off, .string o.data]] w (ListPost (usesO o) w)
  put : ∀ (o : Opn) (w : World) [Tab w], Ok64 o → o.name.size ≤ 5000 → o.new.size ≤ 5000 → o.data.size ≤ 5000 → Calls Tryd.prog 16 #[.agg #[.int .i64 o.st, .int .i64 o.sr, .int .i64 o.k, .int .i64 o.pt, .int .i64 o.pr, .int .i64 o.it, .int .i64 o.ir, .int .i64 o.tt, .int .i64 o.tr, .string o.name, .string o.new, .int .i64 o.off, .string o.data]] w fun e w' => e = .returned (.string ⟨(putO o).toArray⟩) ∧ Below w.heap.size w w'
  take : ∀ (s : ByteArray) (w : World) [Tab w], s.size ≤ 20000 → Calls Tryd.prog 10 #[.string s] w fun e w' => e = .returned (opRes (takeO s.data.toList)) ∧ Below w.heap.size w w'

/-- The two examples. -/
def exO (n : ByteArray) : Opn := ⟨1, 0, 1, 0, 0, 0, 0, 0, 0, n, ⟨#[]⟩, 0, ⟨#[]⟩⟩

theorem exO_ok (n : ByteArray) : Ok64 (exO n) := by constructor <;> simp [exO, IsI64]

theorem ex1 : mayO (exO ⟨#[97, 47, 98]⟩) = false := by
  cases h : mayO (exO ⟨#[97, 47, 98]⟩) with
  | false => rfl
  | true =>
    rcases (may_parts h).name with h7 | hn
    · exact absurd h7 (by decide)
    · unfold nameB at hn
      rw [show hasB (exO ⟨#[97, 47, 98]⟩).name 47 = true by decide] at hn
      simp at hn

theorem ex2 : mayO (exO ⟨#[97, 98]⟩) = true := by
  refine parts_may ⟨by decide, by decide, by decide, by decide, by decide, by decide, by decide, by decide, Or.inr ?_, Or.inl (by decide), by decide⟩
  show nameB ⟨#[97, 98]⟩ = true
  have hl : ∀ l : List UInt8, l.length = 1 ∨ l = [46, 46] → ((⟨#[97, 98]⟩ : ByteArray).toList == l) = false := by
    intro l hl
    have e : (⟨#[97, 98]⟩ : ByteArray).toList = [97, 98] := ByteArray.toList_eq _
    rw [e]
    rcases hl with hl | rfl
    · rw [beq_eq_false_iff_ne]
      intro h
      rw [← h] at hl
      exact absurd hl (by decide)
    · rfl
  unfold nameB
  rw [hl [46] (Or.inl rfl), hl [46, 46] (Or.inr rfl)]
  decide

set_option maxRecDepth 100000 in
set_option maxHeartbeats 1600000 in
theorem OpHave.shown (H : OpHave) (w : World) [Tab w] :
    Calls Tryd.prog 9 #[] w fun e w' => e = .returned (.bool true) ∧ Below w.heap.size w w' := by
  have H1 : Hid (∀ (W : World) [Tab W], Calls Tryd.prog 14 #[.agg #[.int .i64 1, .int .i64 0, .int .i64 1, .int .i64 0, .int .i64 0, .int .i64 0, .int .i64 0, .int .i64 0, .int .i64 0, .string ⟨#[97, 47, 98]⟩, .string ⟨#[]⟩, .int .i64 0, .string ⟨#[]⟩]] W fun e w' => e = .returned (.bool false) ∧ Below W.heap.size W w') := fun W _ => by
    have h := H.may (exO ⟨#[97, 47, 98]⟩) W (exO_ok _) (by decide) (by decide) (by decide)
    rw [ex1] at h
    exact h
  have H2 : Hid (∀ (W : World) [Tab W], Calls Tryd.prog 14 #[.agg #[.int .i64 1, .int .i64 0, .int .i64 1, .int .i64 0, .int .i64 0, .int .i64 0, .int .i64 0, .int .i64 0, .int .i64 0, .string ⟨#[97, 98]⟩, .string ⟨#[]⟩, .int .i64 0, .string ⟨#[]⟩]] W fun e w' => e = .returned (.bool true) ∧ Below W.heap.size W w') := fun W _ => by
    have h := H.may (exO ⟨#[97, 98]⟩) W (exO_ok _) (by decide) (by decide) (by decide)
    rw [ex2] at h
    exact h
  have H3 : Hid (∀ (W : World) [Tab W], Calls Tryd.prog 18 #[.agg #[.int .i64 1, .int .i64 0, .int .i64 1, .int .i64 0, .int .i64 0, .int .i64 0, .int .i64 0, .int .i64 0, .int .i64 0, .string ⟨#[97, 98]⟩, .string ⟨#[]⟩, .int .i64 0, .string ⟨#[]⟩]] W fun e w' => e = .returned (.int .i64 1) ∧ Below W.heap.size W w') := fun W _ => by
    have h := H.makes (exO ⟨#[97, 98]⟩) W (exO_ok _)
    rw [show makesO (exO ⟨#[97, 98]⟩) = 1 by decide] at h
    exact h
  go_enter Tryd.func9, Tryd.ntmps9
  go_wp2_with fail
  refine (H1.out _).mono ?_
  rintro e w1 ⟨rfl, hb1⟩
  have iw1 := tab_step hb1
  have hn0 : ((w.alloc (.cells (opA (exO ⟨#[97, 47, 98]⟩)) 25)).alloc (.cells (opA (exO ⟨#[97, 98]⟩)) 25)).heap[w.heap.size + 1]? = some (.cells (opA (exO ⟨#[97, 98]⟩)) 25 (0, 0)) := by
    have h := heap_alloc_new (w.alloc (.cells (opA (exO ⟨#[97, 47, 98]⟩)) 25)) (.cells (opA (exO ⟨#[97, 98]⟩)) 25)
    rw [World.size_alloc] at h
    exact h
  have B1 : Below ((w.alloc (.cells (opA (exO ⟨#[97, 47, 98]⟩)) 25)).alloc (.cells (opA (exO ⟨#[97, 98]⟩)) 25)).heap.size ((w.alloc (.cells (opA (exO ⟨#[97, 47, 98]⟩)) 25)).alloc (.cells (opA (exO ⟨#[97, 98]⟩)) 25)) w1 := hb1
  have hn1 : w1.heap[w.heap.size + 1]? = some (.cells (opA (exO ⟨#[97, 98]⟩)) 25 (0, 0)) := (B1.block _ (heap_lt hn0)).trans hn0
  have A1 := below_step ((((Below.refl _ w).alloc (Nat.le_refl _) (.cells (opA (exO ⟨#[97, 47, 98]⟩)) 25))).alloc (by simp) (.cells (opA (exO ⟨#[97, 98]⟩)) 25)) B1
  obtain ⟨n0, n1, n2, n3, n4, n5, n6, n7, n8, n9, n10, n11, n12⟩ := op_cells hn1
  simp only [exO] at n0 n1 n2 n3 n4 n5 n6 n7 n8 n9 n10 n11 n12
  have HN := Lib.hid hn1
  have HA := Lib.hid A1
  clear hb1 B1 hn0 hn1 A1
  go_wp2_with fail
  refine (H2.out _).mono ?_
  rintro e w2 ⟨rfl, hb2⟩
  have iw2 := tab_step hb2
  clear n0 n1 n2 n3 n4 n5 n6 n7 n8 n9 n10 n11 n12
  have B2 := hb2
  obtain ⟨n0, n1, n2, n3, n4, n5, n6, n7, n8, n9, n10, n11, n12⟩ := op_cells ((hb2.block _ (heap_lt HN.out)).trans HN.out)
  simp only [exO] at n0 n1 n2 n3 n4 n5 n6 n7 n8 n9 n10 n11 n12
  go_wp2_with fail
  refine (H3.out _).mono ?_
  rintro e w3 ⟨rfl, hb3⟩
  have iw3 := tab_step hb3
  go_wp2_with fail
  go_ret
  exact ⟨rfl, below_step (below_step HA.out B2) hb3⟩

end Go.Proofs.YteknegfocnopgaaDoor
