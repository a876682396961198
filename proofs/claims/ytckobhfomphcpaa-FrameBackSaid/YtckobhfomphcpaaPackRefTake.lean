/-
  The walks of the document's own begin and TakeNum.
-/
import Derived.Test.YtckobhfomphcpaaPackRefNum
import Derived.Test.YtckobhfomphcpaaPackRefMath
import Derived.Test.YtckobhfomphcpaaPackTextMath
import Derived.Deep.QuietTactic
import Derived.BigQuiet
namespace Go.Proofs.Ytckobhfomphcpaa
open Go.RowKit PackMath

set_option maxRecDepth 100000 in
set_option maxHeartbeats 400000 in
theorem refBegin (s : ByteArray) (_hs : s.size ≤ 4000) (w : World) :
    Calls Try.prog 37 #[.string s] w fun e w' => e = .returned (.string ⟨(beginL s.data.toList).toArray⟩) ∧ Below w.heap.size w w' := by
  go_enter Try.func37, Try.ntmps37
  go_wp2_with fail
  go_loop [3] (fun c => ∃ k : Nat, c = .int .i64 (k : Int) ∧ BeginInv s.data.toList k) (fun c => 11 - (intOf c).toNat)
  case atStart => exact ⟨0, rfl, beginInv_start _⟩
  case round =>
    obtain ⟨k, rfl, hI⟩ := hrel
    have hk10 := hI.1
    have HI := Lib.hid hI
    clear hI
    have hlen : s.data.toList.length = s.size := by simp
    by_cases hlt : k < s.size
    · by_cases h10 : k < 10
      · have hlt' : k < s.data.toList.length := by omega
        have hget : s.data.toList[k] = s[k] := by simp; rfl
        have HL := Lib.hid hlen
        have HE := Lib.hid hget
        clear hlen hget
        by_cases hb : (s[k].toNat : Int) < 128
        · have hk1 : k + 1 ≤ s.size := hlt
          have hN := beginInv_done HI.out hlt' h10 (by rw [HE.out]; omega)
          have HN := Lib.hid hN
          clear hN
          go_wp2_with fail
          go_ret
          exact ⟨by rw [HN.out, ← extract_take]; rfl, Below.refl _ _⟩
        · go_wp2_with fail
          go_round
          case rel => exact ⟨k + 1, by go_num, beginInv_step HI.out hlt' h10 (by rw [HE.out]; omega)⟩
          case measure => simp [intOf]; omega
      · have hN := beginInv_over HI.out (Or.inr (by omega))
        have HN := Lib.hid hN
        clear hN
        go_wp2_with fail
        go_ret
        exact ⟨by rw [HN.out]; rfl, Below.refl _ _⟩
    · have hN := beginInv_over HI.out (Or.inl (by omega))
      have HN := Lib.hid hN
      clear hN hlen
      go_wp2_with fail
      go_ret
      exact ⟨by rw [HN.out]; rfl, Below.refl _ _⟩

theorem valU_drop (B : ByteArray) (k : Nat) (h : k < B.size) : valU (B.data.toList.drop k) = (128 * valU (B.data.toList.drop (k + 1)) + (B[k]).toNat % 128) % 18446744073709551616 := by
  rw [List.drop_eq_getElem_cons (by simpa using h)]
  simp only [valU]
  rfl

set_option maxRecDepth 100000 in
set_option maxHeartbeats 800000 in
theorem refTake_any (s : ByteArray) (hs : s.size ≤ 4000) (w : World) :
    Calls Try.prog 32 #[.string s] w fun e w' => e = .returned (takeRes (takeL s.data.toList)) ∧ Below w.heap.size w w' := by
  obtain ⟨B, hB, hP⟩ : ∃ B : ByteArray, B.data.toList = beginL s.data.toList ∧ ∃ t, s.data.toList = B.data.toList ++ t := by
    refine ⟨⟨(beginL s.data.toList).toArray⟩, rfl, ?_⟩
    cases hb : beginF 10 s.data.toList with
    | none => exact ⟨s.data.toList, by simp [beginL, hb]⟩
    | some b =>
      obtain ⟨t, ht⟩ := beginF_prefix _ _ _ hb
      exact ⟨t, by simpa [beginL, hb] using ht⟩
  have hC : ∀ W : World, Calls Try.prog 37 #[.string s] W fun e w' => e = .returned (.string B) ∧ Below W.heap.size W w' := fun W =>
    (refBegin s hs W).mono fun _ _ ⟨he, hb⟩ => ⟨by rw [he, ← hB, Lib.mk_data], hb⟩
  have hBs : B.size ≤ s.size := by
    obtain ⟨t, ht⟩ := hP
    have := congrArg List.length ht
    simp at this
    omega
  have HB := Lib.hid hB
  have HC := Lib.hid hC
  have HU := Lib.hid (fun k => valU_u64 (B.data.toList.drop k))
  clear hB hC hP
  go_enter Try.func32, Try.ntmps32
  go_wp2_with fail
  refine (HC.out _).mono ?_
  rintro e w1 ⟨rfl, hb1⟩
  go_wp2_with fail
  go_loop [6, 7] (fun n i => ∃ j : Nat, i = .int .i64 ((j : Int) - 1) ∧ j ≤ B.size ∧ n = .int .u64 (valU (B.data.toList.drop j) : Int)) (fun _ i => (intOf i + 1).toNat)
  case atStart => exact ⟨B.size, rfl, by omega, by rw [List.drop_eq_nil_of_le (by simp)]; rfl⟩
  case round =>
    obtain ⟨j, rfl, hj, rfl⟩ := hrel
    by_cases h0 : j = 0
    · subst h0
      have hV := HU.out 0
      rw [List.drop_zero] at hV ⊢
      have HV := Lib.hid hV
      clear hV
      obtain ⟨V, hVV⟩ : ∃ V, V = valU B.data.toList := ⟨_, rfl⟩
      rw [← hVV]
      have HW := Lib.hid hVV
      clear hVV
      by_cases he : B.toList = []
      · have he2 : B.toList.isEmpty = true := by rw [he]; rfl
        have hN : takeL s.data.toList = none := ref_take_no (Or.inl (by rw [← HB.out, ← Lib.toList_data]; exact he))
        have HN := Lib.hid hN
        clear hN
        go_wp2_with fail
        go_ret3
        exact ⟨by rw [HN.out]; rfl, hb1⟩
      · have he2 : B.toList.isEmpty = false := by simpa using he
        go_wp2_with fail
        refine (refNum V (by rw [HW.out]; exact HV.out) _).mono ?_
        rintro e w2 ⟨rfl, hb2⟩
        by_cases hq : (⟨(numL V).toArray⟩ : ByteArray) = B
        · have hN : takeL s.data.toList = some (V, s.data.toList.drop B.size) := by
            have h2 : numL V = B.data.toList := by rw [← hq]
            have h3 := ref_take_yes (l := s.data.toList) (by rw [← HB.out, ← Lib.toList_data]; exact he) (by rw [← HB.out, ← HW.out]; exact h2)
            rw [← HB.out, ← HW.out] at h3
            rw [h3]
            simp
          have HN := Lib.hid hN
          rw [hq]
          clear hq hN
          go_wp2_with fail
          go_quiet (fail)
          go_wp2_with fail
          go_ret3
          exact ⟨takeRes_done' HN.out, below_drewN' (below_step hb1 hb2) _⟩
        · have hN : takeL s.data.toList = none := ref_take_no (Or.inr (by
            rw [← HB.out, ← HW.out]
            intro e
            exact hq (by rw [e, Lib.mk_data])))
          have hq2 : (numL V == B.toList) = false := by
            rw [beq_eq_false_iff_ne, Lib.toList_data]
            intro e
            exact hq (by rw [e, Lib.mk_data])
          have HN := Lib.hid hN
          clear hq hN
          go_wp2_with fail
          go_ret3
          exact ⟨by rw [HN.out]; rfl, below_step hb1 hb2⟩
    · obtain ⟨k, rfl⟩ : ∃ k, j = k + 1 := ⟨j - 1, by omega⟩
      have hk : k < B.size := by omega
      go_wp2_with fail
      refine ⟨⟨k, rfl, by omega, ?_⟩, by simp [intOf]⟩
      rw [val_step, valU_drop B k hk]

theorem refTake_some (s : ByteArray) (hs : s.size ≤ 4000) (m : Nat) (t : List UInt8) (h : takeL s.data.toList = some (m, t)) (w : World) :
    Calls Try.prog 32 #[.string s] w fun e w' => e = .returned (.tuple #[.int .u64 (m : Int), .string ⟨t.toArray⟩, .int .i64 0]) ∧ Below w.heap.size w w' :=
  (refTake_any s hs w).mono fun _ _ ⟨he, hb⟩ => ⟨by rw [he, h]; rfl, hb⟩

theorem refTake_none (s : ByteArray) (hs : s.size ≤ 4000) (h : takeL s.data.toList = none) (w : World) :
    Calls Try.prog 32 #[.string s] w fun e w' => e = .returned (.tuple #[.int .u64 0, .string ⟨#[]⟩, .int .i64 2]) ∧ Below w.heap.size w w' :=
  (refTake_any s hs w).mono fun _ _ ⟨he, hb⟩ => ⟨by rw [he, h]; rfl, hb⟩

end Go.Proofs.Ytckobhfomphcpaa
