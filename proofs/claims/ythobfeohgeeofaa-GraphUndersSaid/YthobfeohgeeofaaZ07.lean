/-
  The walk of the document's own May (stamps).
-/
import Derived.Test.YthobfeohgeeofaaZ00
import Derived.Test.YthobfeohgeeofaaRows
import Derived.Deep.QuietTactic
import Derived.BigQuiet
import Derived.Test.YthobfeohgeeofaaZ06
import Derived.Test.YthobfeohgeeofaaZ01
namespace Go.Proofs.Ythobfeohgeeofaa
open Go.RowKit StampMath

set_option maxHeartbeats 400000 in
theorem refMay (t r : Int) (w : World) :
    Calls Try.prog 52 #[.agg #[.int .i64 t, .int .i64 r]] w fun e w' => e = .returned (.bool (mayB t r)) ∧ Below w.heap.size w w' := by
  have hcase : ((t == 0) = true ∧ mayB t r = (r == 0)) ∨ ((t == 0) = false ∧ decide (1 ≤ t) = false ∧ mayB t r = false) ∨ ((t == 0) = false ∧ 1 ≤ t ∧ decide (t ≤ 1073741824) = false ∧ mayB t r = false) ∨
      ((t == 0) = false ∧ 1 ≤ t ∧ t ≤ 1073741824 ∧ decide (0 ≤ r) = false ∧ mayB t r = false) ∨ ((t == 0) = false ∧ 1 ≤ t ∧ t ≤ 1073741824 ∧ 0 ≤ r ∧ mayB t r = decide (r ≤ 7)) := by
    unfold mayB
    by_cases h0 : t = 0
    · exact Or.inl ⟨by simp [h0], by rw [if_pos h0]⟩
    · rw [if_neg h0]
      by_cases h1 : 1 ≤ t
      · by_cases h2 : t ≤ 1073741824
        · by_cases h3 : 0 ≤ r
          · exact Or.inr (Or.inr (Or.inr (Or.inr ⟨by simp [h0], h1, h2, h3, by simp [h1, h2, h3]⟩)))
          · exact Or.inr (Or.inr (Or.inr (Or.inl ⟨by simp [h0], h1, h2, by simp; omega, by simp [h3]⟩)))
        · exact Or.inr (Or.inr (Or.inl ⟨by simp [h0], h1, by simp; omega, by simp [h2]⟩))
      · exact Or.inr (Or.inl ⟨by simp [h0], by simp; omega, by simp [h1]⟩)
  rcases hcase with ⟨h0, h⟩ | ⟨h0, h1, h⟩ | ⟨h0, h1, h2, h⟩ | ⟨h0, h1, h2, h3, h⟩ | ⟨h0, h1, h2, h3, h⟩
  all_goals
    have H := Lib.hid h
    clear h
    go_enter Try.func52, Try.ntmps52
    go_wp2_with fail
    go_ret
    exact ⟨by rw [H.out]; rfl, (Below.refl _ _).alloc (Nat.le_refl _) _⟩

end Go.Proofs.Ythobfeohgeeofaa

/-
  The walk of the document's own Less.
-/
namespace Go.Proofs.Ythobfeohgeeofaa
open Go.RowKit StampMath

set_option maxHeartbeats 400000 in
theorem refLess (t r t' r' : Int) (w : World) :
    Calls Try.prog 53 #[.agg #[.int .i64 t, .int .i64 r], .agg #[.int .i64 t', .int .i64 r']] w fun e w' => e = .returned (.bool (lessB t r t' r')) ∧ Below w.heap.size w w' := by
  have hcase : (t < t' ∧ lessB t r t' r' = true) ∨ (¬ t < t' ∧ (t == t') = true ∧ lessB t r t' r' = decide (r < r')) ∨ (¬ t < t' ∧ (t == t') = false ∧ lessB t r t' r' = false) := by
    by_cases h1 : t < t'
    · exact Or.inl ⟨h1, by simp [lessB, h1]⟩
    · by_cases h2 : t = t'
      · exact Or.inr (Or.inl ⟨h1, by simp [h2], by simp [lessB, h2]⟩)
      · exact Or.inr (Or.inr ⟨h1, by simp [h2], by simp [lessB, h1, h2]⟩)
  rcases hcase with ⟨h1, h⟩ | ⟨h1, h2, h⟩ | ⟨h1, h2, h⟩
  all_goals
    have H := Lib.hid h
    clear h
    go_enter Try.func53, Try.ntmps53
    go_wp2_with fail
    go_ret
    exact ⟨by rw [H.out]; rfl, ((Below.refl _ _).alloc (Nat.le_refl _) _).alloc (by simp) _⟩

end Go.Proofs.Ythobfeohgeeofaa

/-
  A region that draws its order, whose own operations only read, and whose callees may make memory but turn nothing that is there: one walk, in the text's order. It needs no program.
-/
namespace Go.Proofs.Ythobfeohgeeofaa
open Go.RowKit

open Classical in
/-- A world in which all that was there in w reads as before: x, if it is one. -/
noncomputable def later (w x : World) : World := if Below w.heap.size w x then x else w

theorem later_below (w x : World) : Below w.heap.size w (later w x) := by
  unfold later
  split
  · assumption
  · exact Below.refl _ _

theorem later_of {w x : World} (h : Below w.heap.size w x) : later w x = x := by
  unfold later
  rw [if_pos h]

theorem later_cell {w : World} {a : Addr} {v : Value} (h : w.cell? a = some v) (x : World) : (later w x).cell? a = some v := cell_later (later_below w x) h

/-- The walk of the lexical order serves every order. -/
theorem wp_region_later {P : Program} {id : Nat} {Q : Exit → Act → World → Prop} {a : Act} {w : World} {l : List Oper} (hm : P.follows .mixedOrders = true) (hB : Region.lexB .any l.toArray = true)
    (h : wpQuiet P l.toArray (fun w' => ∃ x, w' = later w x) (fun a' => ∀ w', (∃ x, w' = later w x) → Q .normal a' w') l a) : (Code.region id l.toArray true).wp P Q a w :=
  wp_region_quiet (C := fun w' => ∃ x, w' = later w x) hm hB ⟨w.drew, (later_of (Below.refl _ _).drew).symm⟩ (by simpa using h)

/-- A callee's contract, met in such a world. -/
theorem later_call {P : Program} {f : FuncId} {args : Array Value} {w x : World} {v : Value} (h : Calls P f args (later w x) fun e w' => e = .returned v ∧ Below (later w x).heap.size (later w x) w') :
    Calls P f args (later w x) fun e w'' => e = .returned v ∧ ∃ y, w'' = later w y :=
  h.mono fun _ w' ⟨he, hb⟩ => ⟨he, w', (later_of (below_step (later_below w x) hb)).symm⟩

end Go.Proofs.Ythobfeohgeeofaa

/-
  The walks of the document's own Ahead and Tie (graphs).
-/
namespace Go.Proofs.Ythobfeohgeeofaa
open Go.RowKit StampMath GraphMath OpMath

theorem bytes_less : ∀ (x y : List UInt8), Op.bytesLess x y = decide (x < y)
  | [], [] => by simp [Op.bytesLess]
  | _ :: _, [] => by simp [Op.bytesLess]
  | [], _ :: _ => by simp [Op.bytesLess]
  | a :: x, b :: y => by
    rw [Op.bytesLess, bytes_less x y]
    simp only [List.cons_lt_cons_iff]
    by_cases h1 : a < b <;> by_cases h2 : a = b <;> by_cases h3 : x < y <;> simp [h1, h2, h3]

theorem names_less (a b : ByteArray) : Op.bytesLess a.toList b.toList = decide (a.data.toList < b.data.toList) := by
  rw [bytes_less, ByteArray.toList_eq, ByteArray.toList_eq]

set_option maxRecDepth 100000 in
set_option maxHeartbeats 800000 in
theorem refAhead (a b : Ent) (w : World) :
    Calls Try.prog 55 #[.agg (entA a), .agg (entA b)] w fun x w' => x = .returned (.bool (aheadE a b)) ∧ Below w.heap.size w w' := by
  have hb0 : Held w [(w.heap.size + 1, .cells (entA b) 26), (w.heap.size, .cells (entA a) 26)] ((w.alloc (.cells (entA a) 26)).alloc (.cells (entA b) 26)) :=
    ((Held.refl w).alloc (.cells (entA a) 26) rfl).alloc (.cells (entA b) 26) (by simp)
  have hA : aheadE a b = (lessS a.dir b.dir || (decide (a.dir = b.dir) && decide (a.name.data.toList < b.name.data.toList))) := rfl
  have hs := names_less a.name b.name
  obtain ⟨nl, hnl⟩ : ∃ nl, nl = decide (a.name.data.toList < b.name.data.toList) := ⟨_, rfl⟩
  obtain ⟨sl, hsl⟩ : ∃ sl, sl = lessS a.dir b.dir := ⟨_, rfl⟩
  have HL : Hid (∀ W : World, Calls Try.prog 53 #[.agg #[.int .i64 a.dir.1, .int .i64 a.dir.2], .agg #[.int .i64 b.dir.1, .int .i64 b.dir.2]] W fun e w' => e = .returned (.bool sl) ∧ Below W.heap.size W w') := fun W => by
    rw [hsl]; exact refLess a.dir.1 a.dir.2 b.dir.1 b.dir.2 W
  rw [← hnl] at hs hA
  rw [← hsl] at hA
  have HA := Lib.hid hA
  clear hA hnl hsl
  unfold entA
  go_enter Try.func55, Try.ntmps55
  go_upto_region 1 with fail
  change Code.wp _ _ _ _ ((w.alloc (.cells (entA a) 26)).alloc (.cells (entA b) 26))
  generalize (w.alloc (.cells (entA a) 26)).alloc (.cells (entA b) 26) = w0 at hb0 ⊢
  obtain ⟨c0, c1, c2, c3, c4⟩ := ent_cells (g := w.heap.size) (hb0.at 1 rfl)
  obtain ⟨e0, e1, e2, e3, e4⟩ := ent_cells (g := w.heap.size + 1) (hb0.at 0 rfl)
  go_wp2_with fail
  refine (HL.out _).mono ?_
  rintro z w1 ⟨rfl, hb1⟩
  have hH1 := hb0.step hb1
  clear hb0 hb1 c0 c1 c2 c3 c4 e0 e1 e2 e3 e4
  obtain ⟨c0, c1, c2, c3, c4⟩ := ent_cells (g := w.heap.size) (hH1.at 1 rfl)
  obtain ⟨e0, e1, e2, e3, e4⟩ := ent_cells (g := w.heap.size + 1) (hH1.at 0 rfl)
  cases sl
  · by_cases hq : a.dir = b.dir
    · have hv := eqSt_yes hq
      have HQ := Lib.hid hq
      clear hq
      go_wp2_with fail
      go_ret
      exact ⟨by rw [HA.out]; simp [HQ.out], hH1.below⟩
    · have hv := eqSt_no hq
      have HQ := Lib.hid hq
      clear hq
      go_wp2_with fail
      go_ret
      exact ⟨by rw [HA.out]; simp [HQ.out], hH1.below⟩
  · go_wp2_with fail
    go_ret
    exact ⟨by rw [HA.out]; simp, hH1.below⟩

end Go.Proofs.Ythobfeohgeeofaa
