/-
  What was written is read; all other bytes are as they were, and zeros between; the end is the farther of both: for all strings of 2000 bytes at most (others are let go), places and bytes.
-/
import Derived.Test.YtppcogkgipedpaaExtentHave
import Derived.OpenShut
namespace Go.Proofs.Ytppcogkgipedpaa.lawExtentKeeps
open Go.RowKit ExtentMath PackMath

set_option maxRecDepth 100000 in
set_option maxHeartbeats 1600000 in
/-- A write that is done: what it tells is a, of so many bytes; read elsewhere it is v. -/
theorem good (d s a : ByteArray) (o k : Nat) (n : Nat) (v : ByteArray) (z0 : d.size ≤ 64) (z2 : s.size ≤ 64) (zo : o + s.size ≤ 64) (zk : k ≤ 255) (hn : n = max d.size (o + s.size)) (ha : a.size = n)
    (S : Hid (∀ W : World, Calls Try.prog 7 #[] W fun e w' => e = .returned (.bool true) ∧ Below W.heap.size W w'))
    (A : Hid (∀ W : World, Calls Try.prog 8 #[.string d, .int .i64 (o : Int), .string s] W fun e w' => e = .returned (.tuple #[.string a, .int .i64 0]) ∧ Below W.heap.size W w'))
    (D : Hid (∀ W : World, Calls Try.prog 12 #[.string d, .int .i64 (k : Int), .int .i64 1] W fun e w' => e = .returned (.string v) ∧ Below W.heap.size W w'))
    (E : Hid (k < o ∨ o + s.size ≤ k → ∀ W : World, Calls Try.prog 12 #[.string a, .int .i64 (k : Int), .int .i64 1] W fun e w' => e = .returned (.string (if d.size ≤ k ∧ k < o then ⟨#[0]⟩ else v)) ∧ Below W.heap.size W w'))
    (F : Hid (∀ W : World, Calls Try.prog 12 #[.string a, .int .i64 (o : Int), .int .i64 (s.size : Int)] W fun e w' => e = .returned (.string s) ∧ Below W.heap.size W w')) (w : World) :
    Calls Try.prog 4 #[.string d, .int .i64 (o : Int), .string s, .int .u8 (k : Int)] w fun e w' => e = .returned (.bool true) ∧ Below w.heap.size w w' := by
  have h1 : ¬ 2000 < d.size := by omega
  have h2 : ¬ 2000 < s.size := by omega
  have hmx : ((d.size : Int) < (o : Int) + (s.size : Int) ∧ n = o + s.size) ∨ (¬ (d.size : Int) < (o : Int) + (s.size : Int) ∧ n = d.size) := by omega
  have a64 : a.size ≤ 64 := by omega
  have hmx2 : ((d.size : Int) < (o : Int) + (s.size : Int) ∧ ((a.size : Int) == (o : Int) + (s.size : Int)) = true) ∨ (¬ (d.size : Int) < (o : Int) + (s.size : Int) ∧ ((a.size : Int) == (d.size : Int)) = true) := by
    rcases hmx with ⟨m1, m2⟩ | ⟨m1, m2⟩
    · exact Or.inl ⟨m1, by rw [beq_iff_eq]; omega⟩
    · exact Or.inr ⟨m1, by rw [beq_iff_eq]; omega⟩
  have hcase : (k < o ∧ d.size ≤ k) ∨ (k < o ∧ ¬ d.size ≤ k) ∨ (¬ k < o ∧ o + s.size ≤ k) ∨ (¬ k < o ∧ ¬ o + s.size ≤ k) := by omega
  clear hn ha hmx
  rcases hcase with ⟨c0, c1⟩ | ⟨c0, c1⟩ | ⟨c0, c1⟩ | ⟨c0, c1⟩
  · have E' := Lib.hid (E.out (Or.inl c0))
    rw [if_pos ⟨c1, c0⟩] at E'
    rcases hmx2 with ⟨m1, m2⟩ | ⟨m1, m2⟩
    case inr => exfalso; omega
    all_goals
      go_enter Try.func4, Try.ntmps4
      go_wp2_with fail
      refine (S.out _).mono ?_
      rintro e w1 ⟨rfl, hb1⟩
      go_wp2_with fail
      refine (A.out _).mono ?_
      rintro e w2 ⟨rfl, hb2⟩
      have b2 := below_step hb1 hb2
      clear hb1 hb2
      go_wp2_with fail
      refine (D.out _).mono ?_
      rintro e w3 ⟨rfl, hb3⟩
      have b3 := below_step b2 hb3
      clear b2 hb3
      go_wp2_with fail
      refine (E'.out _).mono ?_
      rintro e w4 ⟨rfl, hb4⟩
      have b4 := below_step b3 hb4
      clear b3 hb4
      go_wp2_with fail
      refine (F.out _).mono ?_
      rintro e w5 ⟨rfl, hb5⟩
      have b5 := below_step b4 hb5
      clear b4 hb5
      go_wp2_with fail
      go_ret
      exact ⟨congrArg (fun b => Ending.returned (.bool b)) (decide_eq_true (by omega)), b5⟩
  · have E' := Lib.hid (E.out (Or.inl c0))
    rw [if_neg fun h => c1 h.1] at E'
    have c1' : decide (d.size ≤ k) = false := by simpa using c1
    rcases hmx2 with ⟨m1, m2⟩ | ⟨m1, m2⟩
    all_goals
      go_enter Try.func4, Try.ntmps4
      go_wp2_with fail
      refine (S.out _).mono ?_
      rintro e w1 ⟨rfl, hb1⟩
      go_wp2_with fail
      refine (A.out _).mono ?_
      rintro e w2 ⟨rfl, hb2⟩
      have b2 := below_step hb1 hb2
      clear hb1 hb2
      go_wp2_with fail
      refine (D.out _).mono ?_
      rintro e w3 ⟨rfl, hb3⟩
      have b3 := below_step b2 hb3
      clear b2 hb3
      go_wp2_with fail
      refine (E'.out _).mono ?_
      rintro e w4 ⟨rfl, hb4⟩
      have b4 := below_step b3 hb4
      clear b3 hb4
      go_wp2_with fail
      refine (F.out _).mono ?_
      rintro e w5 ⟨rfl, hb5⟩
      have b5 := below_step b4 hb5
      clear b4 hb5
      go_wp2_with fail
      go_ret
      exact ⟨congrArg (fun b => Ending.returned (.bool b)) (decide_eq_true (by omega)), b5⟩
  · have E' := Lib.hid (E.out (Or.inr c1))
    rw [if_neg fun h => c0 h.2] at E'
    have c0' : decide (k < o) = false := by simpa using c0
    have c1' : (o : Int) + (s.size : Int) ≤ (k : Int) := by omega
    have c2 : d.size ≤ k ∨ ¬ d.size ≤ k := by omega
    rcases hmx2 with ⟨m1, m2⟩ | ⟨m1, m2⟩ <;> rcases c2 with c2 | c2
    all_goals try (exfalso; omega)
    all_goals
      go_enter Try.func4, Try.ntmps4
      go_wp2_with fail
      refine (S.out _).mono ?_
      rintro e w1 ⟨rfl, hb1⟩
      go_wp2_with fail
      refine (A.out _).mono ?_
      rintro e w2 ⟨rfl, hb2⟩
      have b2 := below_step hb1 hb2
      clear hb1 hb2
      go_wp2_with fail
      refine (D.out _).mono ?_
      rintro e w3 ⟨rfl, hb3⟩
      have b3 := below_step b2 hb3
      clear b2 hb3
      go_wp2_with fail
      refine (E'.out _).mono ?_
      rintro e w4 ⟨rfl, hb4⟩
      have b4 := below_step b3 hb4
      clear b3 hb4
      go_wp2_with fail
      refine (F.out _).mono ?_
      rintro e w5 ⟨rfl, hb5⟩
      have b5 := below_step b4 hb5
      clear b4 hb5
      go_wp2_with fail
      go_ret
      exact ⟨congrArg (fun b => Ending.returned (.bool b)) (decide_eq_true (by omega)), b5⟩
  · have c0' : decide (k < o) = false := by simpa using c0
    have c1' : ¬ (o : Int) + (s.size : Int) ≤ (k : Int) := by omega
    rcases hmx2 with ⟨m1, m2⟩ | ⟨m1, m2⟩
    all_goals
      go_enter Try.func4, Try.ntmps4
      go_wp2_with fail
      refine (S.out _).mono ?_
      rintro e w1 ⟨rfl, hb1⟩
      go_wp2_with fail
      refine (A.out _).mono ?_
      rintro e w2 ⟨rfl, hb2⟩
      have b2 := below_step hb1 hb2
      clear hb1 hb2
      go_wp2_with fail
      refine (F.out _).mono ?_
      rintro e w5 ⟨rfl, hb5⟩
      have b5 := below_step b2 hb5
      clear b2 hb5
      go_wp2_with fail
      go_ret
      exact ⟨congrArg (fun b => Ending.returned (.bool b)) (decide_eq_true (by omega)), b5⟩

theorem walk0 (H : ExtentHave) (d : ByteArray) (off : Int) (s : ByteArray) (at' : Int) (w0 : d.size ≤ maxLen) (w1 : (Lit.int .i64 off).wf = true) (w2 : s.size ≤ maxLen) (w3 : (Lit.int .u8 at').wf = true) (w : World) :
    Calls Try.prog 4 #[.string d, .int .i64 off, .string s, .int .u8 at'] w fun e w' => e = .returned (.bool true) ∧ Below w.heap.size w w' := by
  unfold maxLen at w0 w2
  have z0 : d.size ≤ 9223372036854775807 := by omega
  have z2 : s.size ≤ 9223372036854775807 := by omega
  have ho : IsI64 off := bounds_i64 w1
  obtain ⟨k, rfl, hk⟩ := nat_of_int (n := at') (m := 255) (bounds_u8 w3)
  clear w0 w1 w2 w3
  have S : Hid (∀ W : World, Calls Try.prog 7 #[] W fun e w' => e = .returned (.bool true) ∧ Below W.heap.size W w') := fun W => H.shown W
  by_cases h1 : 2000 < d.size
  · clear ho hk
    go_enter Try.func4, Try.ntmps4
    go_wp2_with fail
    refine (S.out _).mono ?_
    rintro e w1 ⟨rfl, hb⟩
    go_wp2_with fail
    go_ret
    exact ⟨rfl, hb⟩
  by_cases h2 : 2000 < s.size
  · clear ho hk
    go_enter Try.func4, Try.ntmps4
    go_wp2_with fail
    refine (S.out _).mono ?_
    rintro e w1 ⟨rfl, hb⟩
    go_wp2_with fail
    go_ret
    exact ⟨rfl, hb⟩
  have A := fun W => H.write d off s W (by omega) (by omega) ho
  by_cases hg : (wR d off s).2 = 0
  · obtain ⟨o, rfl, g1, g2, g3, g4⟩ := wR_good hg
    rw [g4] at A
    have ha : (⟨(wL d.data.toList s.data.toList o).toArray⟩ : ByteArray).size = max d.size (o + s.size) := by
      rw [size_bytes, wL_len, len_bytes, len_bytes]
    have hv : rR d (k : Int) 1 = ⟨(rL d.data.toList k 1).toArray⟩ := by
      unfold rR
      rw [if_neg (by omega)]
      rfl
    have D := fun W => H.read d (k : Int) 1 W (by omega) (by unfold IsI64; omega) (by unfold IsI64; omega)
    rw [hv] at D
    refine good d s _ o k _ _ g3 (by omega) g2 (by omega) rfl ha S A D (fun hc W => ?_) (fun W => ?_) w
    · have E := H.read ⟨(wL d.data.toList s.data.toList o).toArray⟩ (k : Int) 1 W (by rw [ha]; omega) (by unfold IsI64; omega) (by unfold IsI64; omega)
      have e : rR ⟨(wL d.data.toList s.data.toList o).toArray⟩ (k : Int) 1 = if d.size ≤ k ∧ k < o then ⟨#[0]⟩ else ⟨(rL d.data.toList k 1).toArray⟩ := by
        unfold rR
        rw [if_neg (by omega)]
        have r := read_else d.data.toList s.data.toList o k (by rw [len_bytes]; exact hc)
        rw [len_bytes] at r
        show (⟨(rL (wL d.data.toList s.data.toList o) k 1).toArray⟩ : ByteArray) = _
        rw [r]
        split <;> rfl
      rw [e] at E
      exact E
    · have E := H.read ⟨(wL d.data.toList s.data.toList o).toArray⟩ (o : Int) (s.size : Int) W (by rw [ha]; omega) ho (by unfold IsI64; omega)
      have e : rR ⟨(wL d.data.toList s.data.toList o).toArray⟩ (o : Int) (s.size : Int) = s := by
        unfold rR
        rw [if_neg (by omega)]
        show (⟨(rL (wL d.data.toList s.data.toList o) o s.size).toArray⟩ : ByteArray) = _
        rw [← len_bytes s, read_wrote, mk_bytes]
      rw [e] at E
      exact E
  · have hb := wR_bad hg
    generalize wR d off s = p at A hg hb
    obtain ⟨p1, p2⟩ := p
    simp only at hb hg A
    subst hb
    have hp : (p2 == 0) = false := by simpa using hg
    have HA := Lib.hid A
    clear A hg ho hk
    go_enter Try.func4, Try.ntmps4
    go_wp2_with fail
    refine (S.out _).mono ?_
    rintro e w1 ⟨rfl, hb1⟩
    go_wp2_with fail
    refine (HA.out _).mono ?_
    rintro e w2 ⟨rfl, hb2⟩
    have b2 := below_step hb1 hb2
    clear hb1 hb2
    go_wp2_with fail
    go_ret
    exact ⟨rfl, b2⟩

end Go.Proofs.Ytppcogkgipedpaa.lawExtentKeeps
