/-
  The walks of the document's own Int, Text, begin, TakeNum, TakeInt and TakeText.
-/
import Derived.Test.YthaihblogfefnaaPackRefNum
import Derived.Test.YthaihblogfefnaaPackRefMath
import Derived.Test.YthaihblogfefnaaPackTakeInt
import Derived.Test.YthaihblogfefnaaPackInt
namespace Go.Proofs.Ythaihblogfefnaa
open Go.RowKit PackMath

theorem refNum (n : Nat) (h : IsU64 n) (w : World) :
    Calls Try.prog 15 #[.int .u64 n] w fun e w' => e = .returned (.string ⟨(numL n).toArray⟩) ∧ Below w.heap.size w w' :=
  refNum_any 9 n w (by omega) (by unfold IsU64 at h; simpa using h) h

set_option maxHeartbeats 400000 in
theorem refInt (n : Int) (hn : IsI64 n) (w : World) :
    Calls Try.prog 17 #[.int .i64 n] w fun e w' => e = .returned (.string ⟨(numL (zig n)).toArray⟩) ∧ Below w.heap.size w w' := by
  have h1 := hn.1
  have h2 := hn.2
  have HN := Lib.hid hn
  clear hn
  by_cases h0 : n < 0
  · go_enter Try.func17, Try.ntmps17
    go_wp2_with fail
    rw [show 2 * -(n + 1) + 1 = (zig n : Int) from by unfold zig; rw [if_pos h0]; omega]
    refine (refNum _ (zig_u64 HN.out) _).mono ?_
    rintro e w' ⟨rfl, hb⟩
    go_wp2_with fail
    go_ret
    exact ⟨rfl, hb⟩
  · go_enter Try.func17, Try.ntmps17
    go_wp2_with fail
    rw [show 2 * n = (zig n : Int) from by unfold zig; rw [if_neg (by omega)]; omega]
    refine (refNum _ (zig_u64 HN.out) _).mono ?_
    rintro e w' ⟨rfl, hb⟩
    go_wp2_with fail
    go_ret
    exact ⟨rfl, hb⟩

set_option maxHeartbeats 400000 in
theorem refText (s : ByteArray) (hs : s.size ≤ 4000) (w : World) :
    Calls Try.prog 19 #[.string s] w fun e w' => e = .returned (.string ⟨(numL s.size ++ s.data.toList).toArray⟩) ∧ Below w.heap.size w w' := by
  have hl := (numL_length s.size).2
  go_enter Try.func19, Try.ntmps19
  go_wp2_with fail
  refine (refNum _ (IsU64.small (by omega)) _).mono ?_
  rintro e w' ⟨rfl, hb⟩
  go_wp2_with fail
  go_ret
  exact ⟨by rw [← mk_append_data]; rfl, hb⟩

theorem extract_take (s : ByteArray) (k : Nat) : s.extract 0 k = ⟨(s.data.toList.take k).toArray⟩ := by
  rw [Lib.extract_eq]; simp

set_option maxRecDepth 100000 in
set_option maxHeartbeats 400000 in
theorem refBegin (s : ByteArray) (_hs : s.size ≤ 4000) (w : World) :
    Calls Try.prog 20 #[.string s] w fun e w' => e = .returned (.string ⟨(beginL s.data.toList).toArray⟩) ∧ Below w.heap.size w w' := by
  go_enter Try.func20, Try.ntmps20
  go_wp2_with fail
  go_loop [3] (fun c => ∃ k : Nat, c = .int .i64 (k : Int) ∧ BeginInv s.data.toList k) (fun c => 11 - (intOf c).toNat)
  case atStart => exact ⟨0, rfl, beginInv_start _⟩
  case round =>
    obtain ⟨k, rfl, hI⟩ := hrel
    have hk10 := hI.1
    have HI := Lib.hid hI
    clear hI
    have hlen : s.data.toList.length = s.size := by simp
    by_cases hlt : k < s.size
    · by_cases h10 : k < 10
      · have hlt' : k < s.data.toList.length := by omega
        have hget : s.data.toList[k] = s[k] := by simp; rfl
        have HL := Lib.hid hlen
        have HE := Lib.hid hget
        clear hlen hget
        by_cases hb : (s[k].toNat : Int) < 128
        · have hk1 : k + 1 ≤ s.size := hlt
          have hN := beginInv_done HI.out hlt' h10 (by rw [HE.out]; omega)
          have HN := Lib.hid hN
          clear hN
          go_wp2_with fail
          go_ret
          exact ⟨by rw [HN.out, ← extract_take]; rfl, Below.refl _ _⟩
        · go_wp2_with fail
          go_round
          case rel => exact ⟨k + 1, by go_num, beginInv_step HI.out hlt' h10 (by rw [HE.out]; omega)⟩
          case measure => simp [intOf]; omega
      · have hN := beginInv_over HI.out (Or.inr (by omega))
        have HN := Lib.hid hN
        clear hN
        go_wp2_with fail
        go_ret
        exact ⟨by rw [HN.out]; rfl, Below.refl _ _⟩
    · have hN := beginInv_over HI.out (Or.inl (by omega))
      have HN := Lib.hid hN
      clear hN hlen
      go_wp2_with fail
      go_ret
      exact ⟨by rw [HN.out]; rfl, Below.refl _ _⟩

theorem takeRes_done' {s : ByteArray} {k m : Nat} (h : takeL s.data.toList = some (m, s.data.toList.drop k)) :
    Ending.returned (.tuple #[.int .u64 (m : Int), .string (s.extract k s.size), .int .i64 0]) = .returned (takeRes (takeL s.data.toList)) := by
  rw [h, extract_rest]
  rfl

theorem valU_drop (B : ByteArray) (k : Nat) (h : k < B.size) : valU (B.data.toList.drop k) = (128 * valU (B.data.toList.drop (k + 1)) + (B[k]).toNat % 128) % 18446744073709551616 := by
  rw [List.drop_eq_getElem_cons (by simpa using h)]
  simp only [valU]
  rfl

set_option maxRecDepth 100000 in
set_option maxHeartbeats 800000 in
theorem refTake_any (s : ByteArray) (hs : s.size ≤ 4000) (w : World) :
    Calls Try.prog 9 #[.string s] w fun e w' => e = .returned (takeRes (takeL s.data.toList)) ∧ Below w.heap.size w w' := by
  obtain ⟨B, hB, hP⟩ : ∃ B : ByteArray, B.data.toList = beginL s.data.toList ∧ ∃ t, s.data.toList = B.data.toList ++ t := by
    refine ⟨⟨(beginL s.data.toList).toArray⟩, rfl, ?_⟩
    cases hb : beginF 10 s.data.toList with
    | none => exact ⟨s.data.toList, by simp [beginL, hb]⟩
    | some b =>
      obtain ⟨t, ht⟩ := beginF_prefix _ _ _ hb
      exact ⟨t, by simpa [beginL, hb] using ht⟩
  have hC : ∀ W : World, Calls Try.prog 20 #[.string s] W fun e w' => e = .returned (.string B) ∧ Below W.heap.size W w' := fun W =>
    (refBegin s hs W).mono fun _ _ ⟨he, hb⟩ => ⟨by rw [he, ← hB, Lib.mk_data], hb⟩
  have hBs : B.size ≤ s.size := by
    obtain ⟨t, ht⟩ := hP
    have := congrArg List.length ht
    simp at this
    omega
  have HB := Lib.hid hB
  have HC := Lib.hid hC
  have HU := Lib.hid (fun k => valU_u64 (B.data.toList.drop k))
  clear hB hC hP
  go_enter Try.func9, Try.ntmps9
  go_wp2_with fail
  refine (HC.out _).mono ?_
  rintro e w1 ⟨rfl, hb1⟩
  go_wp2_with fail
  go_loop [6, 7] (fun n i => ∃ j : Nat, i = .int .i64 ((j : Int) - 1) ∧ j ≤ B.size ∧ n = .int .u64 (valU (B.data.toList.drop j) : Int)) (fun _ i => (intOf i + 1).toNat)
  case atStart => exact ⟨B.size, rfl, by omega, by rw [List.drop_eq_nil_of_le (by simp)]; rfl⟩
  case round =>
    obtain ⟨j, rfl, hj, rfl⟩ := hrel
    by_cases h0 : j = 0
    · subst h0
      have hV := HU.out 0
      rw [List.drop_zero] at hV ⊢
      have HV := Lib.hid hV
      clear hV
      obtain ⟨V, hVV⟩ : ∃ V, V = valU B.data.toList := ⟨_, rfl⟩
      rw [← hVV]
      have HW := Lib.hid hVV
      clear hVV
      by_cases he : B.toList = []
      · have he2 : B.toList.isEmpty = true := by rw [he]; rfl
        have hN : takeL s.data.toList = none := ref_take_no (Or.inl (by rw [← HB.out, ← Lib.toList_data]; exact he))
        have HN := Lib.hid hN
        clear hN
        go_wp2_with fail
        go_ret3
        exact ⟨by rw [HN.out]; rfl, hb1⟩
      · have he2 : B.toList.isEmpty = false := by simpa using he
        go_wp2_with fail
        refine (refNum V (by rw [HW.out]; exact HV.out) _).mono ?_
        rintro e w2 ⟨rfl, hb2⟩
        by_cases hq : (⟨(numL V).toArray⟩ : ByteArray) = B
        · have hN : takeL s.data.toList = some (V, s.data.toList.drop B.size) := by
            have h2 : numL V = B.data.toList := by rw [← hq]
            have h3 := ref_take_yes (l := s.data.toList) (by rw [← HB.out, ← Lib.toList_data]; exact he) (by rw [← HB.out, ← HW.out]; exact h2)
            rw [← HB.out, ← HW.out] at h3
            rw [h3]
            simp
          have HN := Lib.hid hN
          rw [hq]
          clear hq hN
          go_wp2_with fail
          go_quiet (fail)
          go_wp2_with fail
          go_ret3
          exact ⟨takeRes_done' HN.out, below_drewN' (below_step hb1 hb2) _⟩
        · have hN : takeL s.data.toList = none := ref_take_no (Or.inr (by
            rw [← HB.out, ← HW.out]
            intro e
            exact hq (by rw [e, Lib.mk_data])))
          have hq2 : (numL V == B.toList) = false := by
            rw [beq_eq_false_iff_ne, Lib.toList_data]
            intro e
            exact hq (by rw [e, Lib.mk_data])
          have HN := Lib.hid hN
          clear hq hN
          go_wp2_with fail
          go_ret3
          exact ⟨by rw [HN.out]; rfl, below_step hb1 hb2⟩
    · obtain ⟨k, rfl⟩ : ∃ k, j = k + 1 := ⟨j - 1, by omega⟩
      have hk : k < B.size := by omega
      go_wp2_with fail
      refine ⟨⟨k, rfl, by omega, ?_⟩, by simp [intOf]⟩
      rw [val_step, valU_drop B k hk]

end Go.Proofs.Ythaihblogfefnaa
