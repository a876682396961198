/-
  What may be is taken as it was put, whatever stands behind; what is taken may be, and has the very bytes: for all vectors, and all strings of 2000 bytes at most; longer ones are let go.
-/
import Derived.Test.YtonpafakhbinmaaVecHave
import Derived.Test.YtonpafakhbinmaaVecEq
import Derived.ProofKit
import Derived.OpenShut
namespace Go.Proofs.Ytonpafakhbinmaa.lawVectorBack
open Go.RowKit VecMath PackMath

set_option maxRecDepth 100000 in
set_option maxHeartbeats 800000 in
theorem long (H : VecHave) (v : Nat → Int) (s : ByteArray) (h : 2000 < s.size) (hs : s.size ≤ maxLen) (w : World) :
    Calls Try.prog 6 #[.agg #[.int .i64 (v 0), .int .i64 (v 1), .int .i64 (v 2), .int .i64 (v 3), .int .i64 (v 4), .int .i64 (v 5), .int .i64 (v 6), .int .i64 (v 7)], .string s] w fun e w' => e = .returned (.bool true) ∧ Below w.heap.size w w' := by
  unfold maxLen at hs
  go_enter Try.func6, Try.ntmps6
  go_wp2_with fail
  refine (H.shown _).mono ?_
  rintro e w1 ⟨rfl, hb1⟩
  go_wp2_with fail
  go_ret
  exact ⟨rfl, below_step ((Below.refl _ w).alloc (Nat.le_refl _) _) hb1⟩

set_option maxRecDepth 100000 in
set_option maxHeartbeats 3200000 in
theorem core (H : VecHave) (v : Nat → Int) (s : ByteArray) (hs : s.size ≤ 2000) (w : World) (m : Bool) (A : List UInt8) (hA : A.length ≤ 80)
    (HP : Hid (∀ W : World, Calls Try.prog 17 #[.agg #[.int .i64 (v 0), .int .i64 (v 1), .int .i64 (v 2), .int .i64 (v 3), .int .i64 (v 4), .int .i64 (v 5), .int .i64 (v 6), .int .i64 (v 7)]] W fun e w' => e = .returned (.string ⟨A.toArray⟩) ∧ Below W.heap.size W w'))
    (HM : Hid (∀ W : World, Calls Try.prog 13 #[.agg #[.int .i64 (v 0), .int .i64 (v 1), .int .i64 (v 2), .int .i64 (v 3), .int .i64 (v 4), .int .i64 (v 5), .int .i64 (v 6), .int .i64 (v 7)]] W fun e w' => e = .returned (.bool m) ∧ Below W.heap.size W w'))
    (HT : Hid (∀ W : World, Calls Try.prog 11 #[.string ((⟨A.toArray⟩ : ByteArray) ++ s)] W fun e w' => e = .returned (if m then .tuple #[.agg #[.int .i64 (v 0), .int .i64 (v 1), .int .i64 (v 2), .int .i64 (v 3), .int .i64 (v 4), .int .i64 (v 5), .int .i64 (v 6), .int .i64 (v 7)], .string s, .int .i64 0] else .tuple #[.agg #[.int .i64 0, .int .i64 0, .int .i64 0, .int .i64 0, .int .i64 0, .int .i64 0, .int .i64 0, .int .i64 0], .string ⟨#[]⟩, .int .i64 2]) ∧ Below W.heap.size W w'))
    (k : Bool) (y : Nat → Int) (u : ByteArray) (B : List UInt8) (hB : B.length ≤ 80) (hu : u.size ≤ 2000)
    (HU : Hid (∀ W : World, Calls Try.prog 11 #[.string s] W fun e w' => e = .returned (if k then .tuple #[.agg #[.int .i64 (y 0), .int .i64 (y 1), .int .i64 (y 2), .int .i64 (y 3), .int .i64 (y 4), .int .i64 (y 5), .int .i64 (y 6), .int .i64 (y 7)], .string u, .int .i64 0] else .tuple #[.agg #[.int .i64 0, .int .i64 0, .int .i64 0, .int .i64 0, .int .i64 0, .int .i64 0, .int .i64 0, .int .i64 0], .string ⟨#[]⟩, .int .i64 2]) ∧ Below W.heap.size W w'))
    (HY : Hid (k = true → ∀ W : World, Calls Try.prog 13 #[.agg #[.int .i64 (y 0), .int .i64 (y 1), .int .i64 (y 2), .int .i64 (y 3), .int .i64 (y 4), .int .i64 (y 5), .int .i64 (y 6), .int .i64 (y 7)]] W fun e w' => e = .returned (.bool true) ∧ Below W.heap.size W w'))
    (HQ : Hid (k = true → ∀ W : World, Calls Try.prog 17 #[.agg #[.int .i64 (y 0), .int .i64 (y 1), .int .i64 (y 2), .int .i64 (y 3), .int .i64 (y 4), .int .i64 (y 5), .int .i64 (y 6), .int .i64 (y 7)]] W fun e w' => e = .returned (.string ⟨B.toArray⟩) ∧ Below W.heap.size W w'))
    (HE : Hid (k = true → (⟨B.toArray⟩ : ByteArray) ++ u = s)) :
    Calls Try.prog 6 #[.agg #[.int .i64 (v 0), .int .i64 (v 1), .int .i64 (v 2), .int .i64 (v 3), .int .i64 (v 4), .int .i64 (v 5), .int .i64 (v 6), .int .i64 (v 7)], .string s] w fun e w' => e = .returned (.bool true) ∧ Below w.heap.size w w' := by
  have EV : ∀ W : World, (Op.equalIn 10000 24 (.agg #[.int .i64 (v 0), .int .i64 (v 1), .int .i64 (v 2), .int .i64 (v 3), .int .i64 (v 4), .int .i64 (v 5), .int .i64 (v 6), .int .i64 (v 7)]) (.agg #[.int .i64 (v 0), .int .i64 (v 1), .int .i64 (v 2), .int .i64 (v 3), .int .i64 (v 4), .int .i64 (v 5), .int .i64 (v 6), .int .i64 (v 7)])).run Try.prog W = .ok true W := fun W => run_eqV_same v W
  cases m <;> cases k
  all_goals
    simp only [if_true, if_false, Bool.false_eq_true] at HT HU
    go_enter Try.func6, Try.ntmps6
    go_wp2_with fail
    refine (H.shown _).mono ?_
    rintro e w1 ⟨rfl, hb1⟩
    obtain ⟨hc1, hf1⟩ := bcell_below hb1
    have k1 : w.heap.size < w1.heap.size := by have := hb1.size; simp at this; omega
    go_wp2_with fail
    refine (HP.out _).mono ?_
    rintro e w2 ⟨rfl, hb2⟩
    obtain ⟨hc2, hf2⟩ := bcell_below hb2
    have k2 : w.heap.size < w2.heap.size := by have := hb2.size; omega
    go_wp2_with fail
    refine (HT.out _).mono ?_
    rintro e w3 ⟨rfl, hb3⟩
    obtain ⟨hc3, hf3⟩ := bcell_below hb3
    have k3 : w.heap.size < w3.heap.size := by have := hb3.size; omega
    go_wp2_with fail
    refine (HU.out _).mono ?_
    rintro e w4 ⟨rfl, hb4⟩
    obtain ⟨hc4, hf4⟩ := bcell_below hb4
    have k4 : w.heap.size < w4.heap.size := by have := hb4.size; simp at this; omega
    have l4 : w3.heap.size < w4.heap.size := by have := hb4.size; simp at this; omega
    go_wp2_with fail
    refine (HM.out _).mono ?_
    rintro e w5 ⟨rfl, hb5⟩
    obtain ⟨hc5, hf5⟩ := bcell_below hb5
    have k5 : w.heap.size < w5.heap.size := by have := hb5.size; simp at this; omega
    have l5 : w3.heap.size < w5.heap.size := by have := hb5.size; simp at this; omega
    have m5 : w4.heap.size < w5.heap.size := by have := hb5.size; simp at this; omega
    go_wp2_with fail
  all_goals
    have A3 := below_step (below_step (below_step ((Below.refl _ w).alloc (Nat.le_refl _) _) hb1) hb2) hb3
    have A4 := below_step (A3.alloc A3.size _) hb4
    have A5 := below_step (A4.alloc A4.size _) hb5
  · go_ret
    exact ⟨rfl, A5⟩
  · refine (HY.out trivial _).mono ?_
    rintro e w6 ⟨rfl, hb6⟩
    obtain ⟨hc6, hf6⟩ := bcell_below hb6
    have k6 : w.heap.size < w6.heap.size := by have := hb6.size; omega
    have m6 : w4.heap.size < w6.heap.size := by have := hb6.size; omega
    go_wp2_with fail
    refine (HQ.out trivial _).mono ?_
    rintro e w7 ⟨rfl, hb7⟩
    have hE := HE.out trivial
    go_wp2_with fail
    go_ret
    exact ⟨rfl, below_step (below_step A5 hb6) hb7⟩
  · go_ret
    exact ⟨rfl, A5⟩
  · refine (HY.out trivial _).mono ?_
    rintro e w6 ⟨rfl, hb6⟩
    obtain ⟨hc6, hf6⟩ := bcell_below hb6
    have k6 : w.heap.size < w6.heap.size := by have := hb6.size; omega
    have m6 : w4.heap.size < w6.heap.size := by have := hb6.size; omega
    go_wp2_with fail
    refine (HQ.out trivial _).mono ?_
    rintro e w7 ⟨rfl, hb7⟩
    have hE := HE.out trivial
    go_wp2_with fail
    go_ret
    exact ⟨rfl, below_step (below_step A5 hb6) hb7⟩

theorem mk_self (s : ByteArray) : (⟨s.data.toList.toArray⟩ : ByteArray) = s := Lib.mk_data s

/-- Only the eight first numbers count. -/
def low (g : Nat → Int) : Nat → Int := fun i => if i < 8 then g i else 0

theorem arr_low (g : Nat → Int) : arr (low g) = arr g := arr_ext fun _ hk => if_pos hk

theorem low_i64 {g : Nat → Int} (h : ∀ i, i < 8 → IsI64 (g i)) : ∀ i, IsI64 (low g i) := fun i => by
  unfold low
  split
  · exact h i (by assumption)
  · unfold IsI64; omega

theorem mayV_low (g : Nat → Int) : mayV (low g) = mayV g := by
  rw [Bool.eq_iff_iff, mayV_iff, mayV_iff]
  refine ⟨fun h i hi => ?_, fun h i hi => ?_⟩
  · have := h i hi; unfold low at this; rwa [if_pos hi] at this
  · unfold low; rw [if_pos hi]; exact h i hi

theorem putV_low (g : Nat → Int) : putV (low g) = putV g := putU_congr fun _ hi => if_pos hi

theorem short (H : VecHave) (v : Nat → Int) (hv : ∀ i, IsI64 (v i)) (s : ByteArray) (hs : s.size ≤ 2000) (w : World) :
    Calls Try.prog 6 #[.agg #[.int .i64 (v 0), .int .i64 (v 1), .int .i64 (v 2), .int .i64 (v 3), .int .i64 (v 4), .int .i64 (v 5), .int .i64 (v 6), .int .i64 (v 7)], .string s] w fun e w' => e = .returned (.bool true) ∧ Below w.heap.size w w' := by
  have hl := putV_len v
  have hT : ∀ W : World, Calls Try.prog 11 #[.string ((⟨(putV v).toArray⟩ : ByteArray) ++ s)] W fun e w' => e = .returned (if mayV v then .tuple #[.agg #[.int .i64 (v 0), .int .i64 (v 1), .int .i64 (v 2), .int .i64 (v 3), .int .i64 (v 4), .int .i64 (v 5), .int .i64 (v 6), .int .i64 (v 7)], .string s, .int .i64 0] else .tuple #[.agg #[.int .i64 0, .int .i64 0, .int .i64 0, .int .i64 0, .int .i64 0, .int .i64 0, .int .i64 0, .int .i64 0], .string ⟨#[]⟩, .int .i64 2]) ∧ Below W.heap.size W w' := fun W => by
    have h := H.take ((⟨(putV v).toArray⟩ : ByteArray) ++ s) W (by rw [ByteArray.size_append]; show (putV v).length + s.size ≤ 4000; omega)
    rw [mk_append_data] at h
    rw [mk_append_data]
    rw [show (⟨(putV v ++ s.data.toList).toArray⟩ : ByteArray).data.toList = putV v ++ s.data.toList from rfl] at h
    by_cases hm : mayV v = true
    · obtain ⟨g, h1, h2⟩ := vecL_put_yes v hv hm s.data.toList
      rw [h1] at h
      rw [if_pos hm]
      rw [show vecRes (some (g, s.data.toList)) = .tuple #[.agg (arr g), .string ⟨s.data.toList.toArray⟩, .int .i64 0] from rfl, mk_self, h2] at h
      exact h
    · rw [vecL_put_no v hv (by simpa using hm)] at h
      rw [if_neg hm]
      exact h
  cases hx : vecL s.data.toList with
  | none =>
    refine core H v s hs w (mayV v) (putV v) hl (fun W => H.put v W hv) (H.may v) hT false (fun _ => 0) ⟨#[]⟩ [] (by decide) (by decide) (fun W => ?_) (fun h => by cases h) (fun h => by cases h) (fun h => by cases h)
    have h := H.take s W (by omega)
    rw [hx] at h
    exact h
  | some x =>
    obtain ⟨y, u⟩ := x
    obtain ⟨h1, h2, h3⟩ := vecL_very hx
    have hy := low_i64 (vecL_i64 hx)
    have hu : u.length ≤ s.size := by simpa using h3
    refine core H v s hs w (mayV v) (putV v) hl (fun W => H.put v W hv) (H.may v) hT true (low y) ⟨u.toArray⟩ (putV (low y)) (putV_len _) (by show u.length ≤ 2000; omega) (fun W => ?_) (fun _ W => ?_) (fun _ W => H.put (low y) W hy) (fun _ => ?_)
    · have h := H.take s W (by omega)
      rw [hx] at h
      rw [show vecRes (some (y, u)) = .tuple #[.agg (arr y), .string ⟨u.toArray⟩, .int .i64 0] from rfl, ← arr_low y] at h
      exact h
    · have h := H.may (low y) W
      rw [mayV_low, h1] at h
      exact h
    · rw [mk_append_data, putV_low]
      show (⟨(putV y ++ u).toArray⟩ : ByteArray) = s
      rw [h2, mk_self]

theorem walk0 (H : VecHave) (a0 : Nat → Int) (a1 : ByteArray) (w0 : ∀ i, IsI64 (a0 i)) (w1 : a1.size ≤ maxLen) (w : World) :
    Calls Try.prog 6 #[.agg (arr a0), .string a1] w fun e w' => e = .returned (.bool true) ∧ Below w.heap.size w w' :=
  if h : 2000 < a1.size then long H a0 a1 h w1 w else short H a0 w0 a1 (by omega) w

end Go.Proofs.Ytonpafakhbinmaa.lawVectorBack
