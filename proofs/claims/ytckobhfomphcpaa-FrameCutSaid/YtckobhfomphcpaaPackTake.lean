/-
  The walk of pack.TakeNum.
-/
import Derived.Test.YtckobhfomphcpaaPackNum
import Derived.Test.YtckobhfomphcpaaPackTextMath
import Derived.Deep.LoopGhost
import Derived.Deep.QuietTactic
import Derived.BigQuiet
import Derived.Lib.Strings
namespace Go.Proofs.Ytckobhfomphcpaa
open Go.RowKit PackMath

set_option maxRecDepth 100000 in
set_option maxHeartbeats 400000 in
theorem take_any (s : ByteArray) (_hs : s.size ≤ 30000) (w : World) :
    Calls Try.prog 30 #[.string s] w fun e w' => e = .returned (takeRes (takeL s.data.toList)) ∧ Below w.heap.size w w' := by
  go_enter Try.func30, Try.ntmps30
  go_wp2_with fail
  go_step3
  go_wp2_with fail
  go_step3
  go_wp2_with fail
  go_loopg [5, 10] 5001 (fun g a c wr => ∃ k acc : Nat, c = .int .i64 (k : Int) ∧ a = .int .u64 (acc : Int) ∧ g + k = 5001 ∧ TakeInv s.data.toList k acc ∧ w = wr)
  case atStart => exact ⟨0, 0, rfl, rfl, rfl, takeInv_start _, rfl⟩
  case round =>
    obtain ⟨k, acc, rfl, rfl, hg, hI, rfl⟩ := hrel
    have HI := Lib.hid hI
    have HG := Lib.hid hg
    have hk9 := hI.1
    clear hI hg
    have hlen : s.data.toList.length = s.size := by simp
    by_cases hlt : k < s.size
    · have hlt' : k < s.data.toList.length := by omega
      have hget : s.data.toList[k] = s[k] := by simp; rfl
      have hb256 : (s[k].toNat : Int) < 256 := by have := UInt8.toNat_lt s[k]; omega
      have HL := Lib.hid hlen
      have HE := Lib.hid hget
      clear hlen hget
      by_cases hc : 128 ≤ (s[k].toNat : Int)
      · by_cases h9 : k = 9
        · have h9' : ((k : Int) == 9) = true := by rw [h9]; rfl
          have hN : takeL s.data.toList = none := by
            subst h9
            exact takeInv_nine HI.out hlt' (by rw [HE.out]; omega)
          have HN := Lib.hid hN
          clear h9 hN
          go_wp2_with fail
          try rw [Exit.noGoto_ret]
          go_ret3
          exact ⟨by rw [HN.out]; rfl, Below.refl _ _⟩
        · have h9' : ((k : Int) == 9) = false := by rw [beq_eq_false_iff_ne]; omega
          go_wp2_with fail
          go_roundg (gk - 1)
          case measure => have := HG.out; omega
          case rel =>
            refine ⟨k + 1, acc + (s[k].toNat - 128) * 128 ^ k, by go_num, by rw [sum_step (by omega) HI.out.2.2.1 (by omega) (by omega)], by have := HG.out; omega, ?_, rfl⟩
            have := takeInv_step HI.out hlt' (by omega) (by rw [HE.out]; omega)
            rw [HE.out] at this
            exact this
      · have h9n : ¬ (k = 9 ∧ 1 < s[k].toNat) ∨ (k = 9 ∧ 1 < s[k].toNat) := by omega
        rcases h9n with h9n | h9n
        · by_cases h0 : s[k].toNat = 0 ∧ 0 < k
          · have hN : takeL s.data.toList = none := takeInv_zero HI.out hlt' h0.2 (by rw [HE.out]; exact h0.1)
            have HN := Lib.hid hN
            have hb0 : ((s[k].toNat : Int) == 0) = true := by rw [beq_iff_eq]; omega
            have hb1 : decide (1 < (s[k].toNat : Int)) = false := by simp; omega
            have hk0 : (0 : Int) < k := by omega
            clear hN h0 h9n
            by_cases h9 : k = 9
            · have h9' : ((k : Int) == 9) = true := by rw [h9]; rfl
              clear h9
              go_wp2_with fail
              try rw [Exit.noGoto_ret]
              go_ret3
              exact ⟨by rw [HN.out]; rfl, Below.refl _ _⟩
            · have h9' : ((k : Int) == 9) = false := by rw [beq_eq_false_iff_ne]; omega
              go_wp2_with fail
              try rw [Exit.noGoto_ret]
              go_ret3
              exact ⟨by rw [HN.out]; rfl, Below.refl _ _⟩
          · have hN := takeInv_done HI.out hlt' (by rw [HE.out]; exact h9n) (by rw [HE.out]; omega) (by rw [HE.out]; exact h0)
            rw [HE.out] at hN
            have hS := sum_end hk9 HI.out.2.2.1 h9n (by omega)
            have HN := Lib.hid hN
            have HS := Lib.hid hS
            have hk1 : k + 1 ≤ s.size := hlt
            have hcase : (((k : Int) == 9) = true ∧ decide (1 < (s[k].toNat : Int)) = false ∧ ((s[k].toNat : Int) == 0) = false ∧ decide (0 < (k : Int)) = true) ∨ (((k : Int) == 9) = false ∧ ((s[k].toNat : Int) == 0) = false) ∨ (((k : Int) == 9) = false ∧ decide (1 < (s[k].toNat : Int)) = false ∧ ((s[k].toNat : Int) == 0) = true ∧ decide (0 < (k : Int)) = false) := by
              simp only [beq_iff_eq, beq_eq_false_iff_ne, decide_eq_true_eq, decide_eq_false_iff_not]
              omega
            clear hN hS h9n h0
            rcases hcase with ⟨c1, c2, c3, c4⟩ | ⟨c1, c3⟩ | ⟨c1, c2, c3, c4⟩
            · go_wp2_with fail
              go_quiet (fail)
              go_wp2_with fail
              try rw [Exit.noGoto_ret]
              go_ret3
              exact ⟨takeRes_done HN.out HS.out, below_drewN' (Below.refl _ _) _⟩
            · go_wp2_with fail
              go_quiet (fail)
              go_wp2_with fail
              try rw [Exit.noGoto_ret]
              go_ret3
              exact ⟨takeRes_done HN.out HS.out, below_drewN' (Below.refl _ _) _⟩
            · have hz : s[k].toNat = 0 := by rw [beq_iff_eq] at c3; omega
              have HZ := Lib.hid hz
              have hk0 : k ≤ 0 := by simp at c4; omega
              have hk0' : decide (0 < k) = false := by simp; omega
              clear hz
              go_wp2_with fail
              go_quiet (fail)
              go_wp2_with fail
              try rw [Exit.noGoto_ret]
              go_ret3
              exact ⟨takeRes_done HN.out HS.out, below_drewN' (Below.refl _ _) _⟩
        · have hN : takeL s.data.toList = none := by
            obtain ⟨rfl, h2⟩ := h9n
            exact takeInv_nine HI.out hlt' (by rw [HE.out]; exact h2)
          have HN := Lib.hid hN
          have h9' : ((k : Int) == 9) = true := by rw [h9n.1]; rfl
          have hb1 : 1 < (s[k].toNat : Int) := by omega
          clear hN h9n
          go_wp2_with fail
          try rw [Exit.noGoto_ret]
          go_ret3
          exact ⟨by rw [HN.out]; rfl, Below.refl _ _⟩
    · go_wp2_with fail
      try rw [Exit.noGoto_ret]
      go_ret3
      exact ⟨by rw [takeInv_over HI.out (by omega)]; rfl, Below.refl _ _⟩

theorem take_some (s : ByteArray) (hs : s.size ≤ 30000) (m : Nat) (t : List UInt8) (h : takeL s.data.toList = some (m, t)) (w : World) :
    Calls Try.prog 30 #[.string s] w fun e w' => e = .returned (.tuple #[.int .u64 (m : Int), .string ⟨t.toArray⟩, .int .i64 0]) ∧ Below w.heap.size w w' :=
  (take_any s hs w).mono fun _ _ ⟨he, hb⟩ => ⟨by rw [he, h]; rfl, hb⟩

theorem take_none (s : ByteArray) (hs : s.size ≤ 30000) (h : takeL s.data.toList = none) (w : World) :
    Calls Try.prog 30 #[.string s] w fun e w' => e = .returned (.tuple #[.int .u64 0, .string ⟨#[]⟩, .int .i64 2]) ∧ Below w.heap.size w w' :=
  (take_any s hs w).mono fun _ _ ⟨he, hb⟩ => ⟨by rw [he, h]; rfl, hb⟩

end Go.Proofs.Ytckobhfomphcpaa
