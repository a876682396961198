/-
  The walks of vector's own Ready and Put.
-/
import Derived.Test.YtonpafakhbinmaaVecCode2
import Derived.Test.YtonpafakhbinmaaVecTakeMath
import Derived.Test.YtonpafakhbinmaaPackInt
namespace Go.Proofs.Ytonpafakhbinmaa
open Go.RowKit VecMath PackMath

theorem ready_out {v deps : Nat → Int} {rep seq : Int} (h : ¬ (0 ≤ rep ∧ rep ≤ 7) ∨ seq < 1) : readyV v rep seq deps = false := by
  rw [← Bool.not_eq_true, readyV_iff]
  omega

theorem ready_in {v deps : Nat → Int} {k : Nat} {seq : Int} (hk : k < 8) (hs : 1 ≤ seq) : readyV v (k : Int) seq deps = ((v k == seq - 1) && (deps k == seq - 1) && covV v deps) := by
  rw [Bool.eq_iff_iff, readyV_iff, Bool.and_eq_true, Bool.and_eq_true, beq_iff_eq, beq_iff_eq, covV_iff]
  have e : (k : Int).toNat = k := by omega
  rw [e]
  refine ⟨fun h => ⟨⟨h.1.2.2.2.1, h.1.2.2.2.2⟩, fun i hi => ?_⟩, fun h => ⟨⟨by omega, by omega, hs, h.1.1, h.1.2⟩, fun i hi _ => h.2 i hi⟩⟩
  by_cases hik : i = k
  · subst hik; omega
  · exact h.2 i hi hik

set_option maxRecDepth 100000 in
set_option maxHeartbeats 1600000 in
theorem vecReady_any (v : Nat → Int) (rep seq : Int) (deps : Nat → Int) (w : World) (_hv : ∀ i, IsI64 (v i)) (_hd : ∀ i, IsI64 (deps i)) (_hr : IsI64 rep) (hs : IsI64 seq) :
    Calls Try.prog 23 #[.agg #[.int .i64 (v 0), .int .i64 (v 1), .int .i64 (v 2), .int .i64 (v 3), .int .i64 (v 4), .int .i64 (v 5), .int .i64 (v 6), .int .i64 (v 7)], .int .i64 rep, .int .i64 seq, .agg #[.int .i64 (deps 0), .int .i64 (deps 1), .int .i64 (deps 2), .int .i64 (deps 3), .int .i64 (deps 4), .int .i64 (deps 5), .int .i64 (deps 6), .int .i64 (deps 7)]] w fun e w' => e = .returned (.bool (readyV v rep seq deps)) ∧ Below w.heap.size w w' := by
  have hs2 : seq ≤ 9223372036854775807 := by unfold IsI64 at hs; omega
  clear _hv _hd _hr hs
  obtain ⟨b, hb⟩ : ∃ b, b = (decide (0 ≤ rep) && decide (rep < 8)) := ⟨_, rfl⟩
  have HR : Hid (∀ W : World, Calls Try.prog 24 #[.int .i64 rep] W fun e w' => e = .returned (.bool b) ∧ W = w') := fun W => by rw [hb]; exact vecIsRep_any rep W
  by_cases hr : 0 ≤ rep ∧ rep ≤ 7
  · rw [show (decide (0 ≤ rep) && decide (rep < 8)) = true by rw [Bool.and_eq_true, decide_eq_true_iff, decide_eq_true_iff]; omega] at hb
    subst hb
    by_cases h1 : seq < 1
    · have HN : Hid (readyV v rep seq deps = false) := ready_out (Or.inr h1)
      clear hr
      go_enter Try.func23, Try.ntmps23
      go_wp2_with fail
      refine (HR.out _).mono ?_
      rintro e w' ⟨rfl, rfl⟩
      go_wp2_with fail
      go_ret
      exact ⟨by rw [HN.out]; rfl, ((Below.refl _ _).alloc (Nat.le_refl _) _).alloc (by simp) _⟩
    · obtain ⟨k, rfl, hk0⟩ := nat_of_int (n := rep) (m := 7) hr
      have hk : k < 8 := by omega
      clear hr hk0
      have hN := ready_in (v := v) (deps := deps) hk (show 1 ≤ seq by omega)
      have cv := cell_arr (v := v) (heap_alloc2_old w (.cells (arr v) 24) (.cells (arr deps) 24)) hk
      have cd := cell_arr (v := deps) (heap_alloc2_new w (.cells (arr v) 24) (.cells (arr deps) 24)) hk
      unfold arr at cv cd
      obtain ⟨x, hx⟩ : ∃ x, x = v k := ⟨_, rfl⟩
      obtain ⟨y, hy⟩ : ∃ y, y = deps k := ⟨_, rfl⟩
      obtain ⟨c, hc⟩ : ∃ c, c = covV v deps := ⟨_, rfl⟩
      have HC : Hid (∀ W : World, Calls Try.prog 15 #[.agg #[.int .i64 (v 0), .int .i64 (v 1), .int .i64 (v 2), .int .i64 (v 3), .int .i64 (v 4), .int .i64 (v 5), .int .i64 (v 6), .int .i64 (v 7)], .agg #[.int .i64 (deps 0), .int .i64 (deps 1), .int .i64 (deps 2), .int .i64 (deps 3), .int .i64 (deps 4), .int .i64 (deps 5), .int .i64 (deps 6), .int .i64 (deps 7)]] W fun e w' => e = .returned (.bool c) ∧ Below W.heap.size W w') := fun W => by rw [hc]; exact covers_any v deps W
      rw [← hx] at cv hN
      rw [← hy] at cd hN
      rw [← hc] at hN
      have HN := Lib.hid hN
      clear hx hy hc hN
      have hk7 : (k : Int) < 8 := by omega
      cases hq1 : (x == seq - 1)
      · have HN2 : Hid (readyV v (k : Int) seq deps = false) := by rw [HN.out, hq1]; rfl
        clear HN
        go_enter Try.func23, Try.ntmps23
        go_wp2_with fail
        refine (HR.out _).mono ?_
        rintro e w' ⟨rfl, rfl⟩
        go_wp2_with fail
        go_ret
        exact ⟨by rw [HN2.out]; rfl, ((Below.refl _ _).alloc (Nat.le_refl _) _).alloc (by simp) _⟩
      · cases hq2 : (y == seq - 1)
        · have HN2 : Hid (readyV v (k : Int) seq deps = false) := by rw [HN.out, hq1, hq2]; rfl
          clear HN
          go_enter Try.func23, Try.ntmps23
          go_wp2_with fail
          refine (HR.out _).mono ?_
          rintro e w' ⟨rfl, rfl⟩
          go_wp2_with fail
          go_ret
          exact ⟨by rw [HN2.out]; rfl, ((Below.refl _ _).alloc (Nat.le_refl _) _).alloc (by simp) _⟩
        · have HN2 : Hid (readyV v (k : Int) seq deps = c) := by rw [HN.out, hq1, hq2]; cases c <;> rfl
          clear HN
          go_enter Try.func23, Try.ntmps23
          go_wp2_with fail
          refine (HR.out _).mono ?_
          rintro e w' ⟨rfl, rfl⟩
          go_wp2_with fail
          refine (HC.out _).mono ?_
          rintro e w2 ⟨rfl, hb2⟩
          go_wp2_with fail
          go_ret
          exact ⟨by rw [HN2.out]; rfl, below_step (((Below.refl _ _).alloc (Nat.le_refl _) _).alloc (by simp) _) hb2⟩
  · rw [show (decide (0 ≤ rep) && decide (rep < 8)) = false by rw [Bool.and_eq_false_iff, decide_eq_false_iff_not, decide_eq_false_iff_not]; omega] at hb
    subst hb
    have HN : Hid (readyV v rep seq deps = false) := ready_out (Or.inl hr)
    clear hr
    go_enter Try.func23, Try.ntmps23
    go_wp2_with fail
    refine (HR.out _).mono ?_
    rintro e w' ⟨rfl, rfl⟩
    go_wp2_with fail
    go_ret
    exact ⟨by rw [HN.out]; rfl, ((Below.refl _ _).alloc (Nat.le_refl _) _).alloc (by simp) _⟩

theorem run_index8 (v : Nat → Int) (k : Nat) (hk : k < 8) (W : World) : (Instr.index 24 (.agg #[.int .i64 (v 0), .int .i64 (v 1), .int .i64 (v 2), .int .i64 (v 3), .int .i64 (v 4), .int .i64 (v 5), .int .i64 (v 6), .int .i64 (v 7)]) (.int .i64 (k : Int))).run Try.prog W = .ok (.int .i64 (v k)) W := by
  rcases lt8 hk with rfl | rfl | rfl | rfl | rfl | rfl | rfl | rfl <;> kernel_rfl

set_option maxRecDepth 100000 in
set_option maxHeartbeats 1600000 in
theorem vecPut_any (v : Nat → Int) (w : World) (hv : ∀ i, IsI64 (v i)) :
    Calls Try.prog 17 #[.agg #[.int .i64 (v 0), .int .i64 (v 1), .int .i64 (v 2), .int .i64 (v 3), .int .i64 (v 4), .int .i64 (v 5), .int .i64 (v 6), .int .i64 (v 7)]] w fun e w' => e = .returned (.string ⟨(putV v).toArray⟩) ∧ Below w.heap.size w w' := by
  have HV := Lib.hid hv
  clear hv
  go_enter Try.func17, Try.ntmps17
  go_wp2_with fail
  go_loopg [3, 7] 9 (fun gk s i wr => ∃ k : Nat, i = .int .i64 (k : Int) ∧ gk + k = 9 ∧ k ≤ 8 ∧ s = .string ⟨(putU v k).toArray⟩ ∧ Below w.heap.size w wr)
  case atStart => exact ⟨0, rfl, by omega, by omega, rfl, (Below.refl _ _).alloc (Nat.le_refl _) _⟩
  case round =>
    obtain ⟨k, rfl, hgk, hk, rfl, hB⟩ := hrel
    have HG := Lib.hid hgk
    clear hgk
    by_cases hlt : k < 8
    · have hx64 := HV.out k
      have hl1 := putU_len v k
      have hl2 := (numL_length (zig (v k))).2
      have hadd : ∀ W : World, (Op.stringOp .add ⟨(putU v k).toArray⟩ ⟨(numL (zig (v k))).toArray⟩).run Try.prog W = .ok (.string ⟨(putU v (k + 1)).toArray⟩) W := fun W => by
        rw [run_string_add_sum W _ _ (by show (putU v k).length + (numL (zig (v k))).length ≤ _; omega), putU_str]
      have hix := run_index8 v k hlt
      obtain ⟨x, hx⟩ : ∃ x, x = v k := ⟨_, rfl⟩
      rw [← hx] at hx64
      simp only [← hx] at hadd hix
      have HX := Lib.hid hx64
      clear hx hx64 hl1 hl2
      go_wp2_with fail
      refine (int_any x HX.out _).mono ?_
      rintro e w1 ⟨rfl, hb1⟩
      have qB := below_step hB hb1
      clear hB hb1
      go_wp2_with fail
      go_roundg (gk - 1)
      case measure => have := HG.out; omega
      case rel => exact ⟨k + 1, by go_num, by have := HG.out; omega, by omega, rfl, qB⟩
    · have hk8 : k = 8 := by omega
      subst hk8
      go_wp2_with fail
      go_ret
      exact ⟨rfl, hB⟩

end Go.Proofs.Ytonpafakhbinmaa
