/-
  What the statements of layer 4 need of the package's own functions; and the statements' head.
-/
import Derived.Test.YtonpafakhbinmaaVecTakeMath
import Derived.Test.YtonpafakhbinmaaRows
namespace Go.Proofs.Ytonpafakhbinmaa
open Go.RowKit VecMath PackMath

structure VecHave : Prop where
  may : ∀ (v : Nat → Int) (w : World), Calls Try.prog 13 #[.agg #[.int .i64 (v 0), .int .i64 (v 1), .int .i64 (v 2), .int .i64 (v 3), .int .i64 (v 4), .int .i64 (v 5), .int .i64 (v 6), .int .i64 (v 7)]] w fun e w' => e = .returned (.bool (mayV v)) ∧ Below w.heap.size w w'
  covers : ∀ (a b : Nat → Int) (w : World), Calls Try.prog 15 #[.agg #[.int .i64 (a 0), .int .i64 (a 1), .int .i64 (a 2), .int .i64 (a 3), .int .i64 (a 4), .int .i64 (a 5), .int .i64 (a 6), .int .i64 (a 7)], .agg #[.int .i64 (b 0), .int .i64 (b 1), .int .i64 (b 2), .int .i64 (b 3), .int .i64 (b 4), .int .i64 (b 5), .int .i64 (b 6), .int .i64 (b 7)]] w fun e w' => e = .returned (.bool (covV a b)) ∧ Below w.heap.size w w'
  join : ∀ (a b : Nat → Int) (w : World), Calls Try.prog 19 #[.agg #[.int .i64 (a 0), .int .i64 (a 1), .int .i64 (a 2), .int .i64 (a 3), .int .i64 (a 4), .int .i64 (a 5), .int .i64 (a 6), .int .i64 (a 7)], .agg #[.int .i64 (b 0), .int .i64 (b 1), .int .i64 (b 2), .int .i64 (b 3), .int .i64 (b 4), .int .i64 (b 5), .int .i64 (b 6), .int .i64 (b 7)]] w fun e w' => e = .returned (.agg (arr (joinV a b))) ∧ Below w.heap.size w w'
  meet : ∀ (a b : Nat → Int) (w : World), Calls Try.prog 21 #[.agg #[.int .i64 (a 0), .int .i64 (a 1), .int .i64 (a 2), .int .i64 (a 3), .int .i64 (a 4), .int .i64 (a 5), .int .i64 (a 6), .int .i64 (a 7)], .agg #[.int .i64 (b 0), .int .i64 (b 1), .int .i64 (b 2), .int .i64 (b 3), .int .i64 (b 4), .int .i64 (b 5), .int .i64 (b 6), .int .i64 (b 7)]] w fun e w' => e = .returned (.agg (arr (meetV a b))) ∧ Below w.heap.size w w'
  tickOut : ∀ (v : Nat → Int) (rep : Int) (w : World), rep < 0 ∨ 7 < rep → Calls Try.prog 9 #[.agg #[.int .i64 (v 0), .int .i64 (v 1), .int .i64 (v 2), .int .i64 (v 3), .int .i64 (v 4), .int .i64 (v 5), .int .i64 (v 6), .int .i64 (v 7)], .int .i64 rep] w fun e w' => e = .returned (.tuple #[.agg (arr v), .int .i64 0]) ∧ Below w.heap.size w w'
  tickIn : ∀ (v : Nat → Int) (k : Nat) (w : World), k < 8 → Calls Try.prog 9 #[.agg #[.int .i64 (v 0), .int .i64 (v 1), .int .i64 (v 2), .int .i64 (v 3), .int .i64 (v 4), .int .i64 (v 5), .int .i64 (v 6), .int .i64 (v 7)], .int .i64 (k : Int)] w fun e w' => e = .returned (.tuple #[.agg (arr (put v k (wrap64 (v k + 1)))), .int .i64 (wrap64 (v k + 1))]) ∧ Below w.heap.size w w'
  ready : ∀ (v : Nat → Int) (rep seq : Int) (deps : Nat → Int) (w : World), (∀ i, IsI64 (v i)) → (∀ i, IsI64 (deps i)) → IsI64 rep → IsI64 seq → Calls Try.prog 23 #[.agg #[.int .i64 (v 0), .int .i64 (v 1), .int .i64 (v 2), .int .i64 (v 3), .int .i64 (v 4), .int .i64 (v 5), .int .i64 (v 6), .int .i64 (v 7)], .int .i64 rep, .int .i64 seq, .agg #[.int .i64 (deps 0), .int .i64 (deps 1), .int .i64 (deps 2), .int .i64 (deps 3), .int .i64 (deps 4), .int .i64 (deps 5), .int .i64 (deps 6), .int .i64 (deps 7)]] w fun e w' => e = .returned (.bool (readyV v rep seq deps)) ∧ Below w.heap.size w w'
  put : ∀ (v : Nat → Int) (w : World), (∀ i, IsI64 (v i)) → Calls Try.prog 17 #[.agg #[.int .i64 (v 0), .int .i64 (v 1), .int .i64 (v 2), .int .i64 (v 3), .int .i64 (v 4), .int .i64 (v 5), .int .i64 (v 6), .int .i64 (v 7)]] w fun e w' => e = .returned (.string ⟨(putV v).toArray⟩) ∧ Below w.heap.size w w'
  take : ∀ (s : ByteArray) (w : World), s.size ≤ 4000 → Calls Try.prog 11 #[.string s] w fun e w' => e = .returned (vecRes (vecL s.data.toList)) ∧ Below w.heap.size w w'

/-- One number and zeros. -/
def one (n : Int) : Nat → Int := fun i => if i = 0 then n else 0

theorem one_i64 (n : Int) (h : IsI64 n) : ∀ i, IsI64 (one n i) := fun i => by
  unfold one
  split
  · exact h
  · unfold IsI64; omega

theorem ready_shown1 : readyV (one 2) 0 3 (one 2) = true := by decide
theorem ready_shown2 : readyV (one 2) 0 4 (one 3) = false := by decide
theorem ready_shown3 : readyV (one 2) 0 2 (one 1) = false := by decide

set_option maxRecDepth 100000 in
set_option maxHeartbeats 800000 in
theorem VecHave.shown (H : VecHave) (w : World) :
    Calls Try.prog 8 #[] w fun e w' => e = .returned (.bool true) ∧ Below w.heap.size w w' := by
  have H1 : Hid (∀ W : World, Calls Try.prog 23 #[.agg #[.int .i64 2, .int .i64 0, .int .i64 0, .int .i64 0, .int .i64 0, .int .i64 0, .int .i64 0, .int .i64 0], .int .i64 0, .int .i64 3, .agg #[.int .i64 2, .int .i64 0, .int .i64 0, .int .i64 0, .int .i64 0, .int .i64 0, .int .i64 0, .int .i64 0]] W fun e w' => e = .returned (.bool true) ∧ Below W.heap.size W w') := fun W => by
    have h := H.ready (one 2) 0 3 (one 2) W (one_i64 2 (by unfold IsI64; omega)) (one_i64 2 (by unfold IsI64; omega)) (by unfold IsI64; omega) (by unfold IsI64; omega)
    rw [ready_shown1] at h
    exact h
  have H2 : Hid (∀ W : World, Calls Try.prog 23 #[.agg #[.int .i64 2, .int .i64 0, .int .i64 0, .int .i64 0, .int .i64 0, .int .i64 0, .int .i64 0, .int .i64 0], .int .i64 0, .int .i64 4, .agg #[.int .i64 3, .int .i64 0, .int .i64 0, .int .i64 0, .int .i64 0, .int .i64 0, .int .i64 0, .int .i64 0]] W fun e w' => e = .returned (.bool false) ∧ Below W.heap.size W w') := fun W => by
    have h := H.ready (one 2) 0 4 (one 3) W (one_i64 2 (by unfold IsI64; omega)) (one_i64 3 (by unfold IsI64; omega)) (by unfold IsI64; omega) (by unfold IsI64; omega)
    rw [ready_shown2] at h
    exact h
  have H3 : Hid (∀ W : World, Calls Try.prog 23 #[.agg #[.int .i64 2, .int .i64 0, .int .i64 0, .int .i64 0, .int .i64 0, .int .i64 0, .int .i64 0, .int .i64 0], .int .i64 0, .int .i64 2, .agg #[.int .i64 1, .int .i64 0, .int .i64 0, .int .i64 0, .int .i64 0, .int .i64 0, .int .i64 0, .int .i64 0]] W fun e w' => e = .returned (.bool false) ∧ Below W.heap.size W w') := fun W => by
    have h := H.ready (one 2) 0 2 (one 1) W (one_i64 2 (by unfold IsI64; omega)) (one_i64 1 (by unfold IsI64; omega)) (by unfold IsI64; omega) (by unfold IsI64; omega)
    rw [ready_shown3] at h
    exact h
  go_enter Try.func8, Try.ntmps8
  go_wp2_with fail
  refine (H1.out _).mono ?_
  rintro e w1 ⟨rfl, hb1⟩
  obtain ⟨hc1, hf1⟩ := bcell_below hb1
  have hz1 : w.heap.size < w1.heap.size := by have := hb1.size; simp at this; omega
  go_wp2_with fail
  refine (H2.out _).mono ?_
  rintro e w2 ⟨rfl, hb2⟩
  obtain ⟨hc2, hf2⟩ := bcell_below hb2
  have hz2 : w.heap.size < w2.heap.size := by have := hb2.size; omega
  go_wp2_with fail
  refine (H3.out _).mono ?_
  rintro e w3 ⟨rfl, hb3⟩
  obtain ⟨hc3, hf3⟩ := bcell_below hb3
  have hz3 : w.heap.size < w3.heap.size := by have := hb3.size; omega
  go_wp2_with fail
  go_ret
  exact ⟨rfl, below_step (below_step (below_step ((Below.refl _ _).alloc (Nat.le_refl _) _) hb1) hb2) hb3⟩

end Go.Proofs.Ytonpafakhbinmaa
