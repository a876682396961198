/-
  The walks of the document's own csteps, and of the sum made of them.
-/
import Derived.Test.YtckobhfomphcpaaCrcMath
import Derived.Test.YtckobhfomphcpaaBase
import Derived.Test.YtckobhfomphcpaaRows
namespace Go.Proofs.Ytckobhfomphcpaa
open Go.RowKit CrcMath

set_option maxHeartbeats 400000 in
theorem refSteps (c k : Nat) (hc : c < 4294967296) (hk : k ≤ 64) (w : World) :
    Calls Try.prog 35 #[.int .u32 c, .int .i64 k] w fun e w' => e = .returned (.int .u32 (csteps k c : Nat)) ∧ w = w' := by
  go_enter Try.func35, Try.ntmps35
  go_wp2_with fail
  go_loop [0, 5] (fun a i => ∃ j d : Nat, i = .int .i64 (j : Int) ∧ a = .int .u32 (d : Int) ∧ j ≤ k ∧ d < 4294967296 ∧ csteps (k - j) d = csteps k c) (fun _ i => k - (intOf i).toNat)
  case atStart => exact ⟨0, c, rfl, rfl, by omega, hc, rfl⟩
  case round =>
    obtain ⟨j, d, rfl, rfl, hj, hd, hs⟩ := hrel
    have HS := Lib.hid hs
    clear hs
    by_cases hlt : j < k
    · by_cases h2 : d % 2 = 1
      · have h2' : ((d : Int) % 2 == 1) = true := by rw [beq_iff_eq]; omega
        have H2 := Lib.hid h2
        clear h2
        go_wp2_with fail
        refine ⟨⟨j + 1, cstep d, by go_num, ?_, by omega, step_lt hd, steps_next HS.out hlt⟩, by simp [intOf]; omega⟩
        have hx := u32_xor_nat (d / 2) 3988292384 (by omega) (by omega)
        rw [step_odd H2.out, ← hx]
        rfl
      · have h2' : ((d : Int) % 2 == 1) = false := by rw [beq_eq_false_iff_ne]; omega
        have H2 := Lib.hid h2
        clear h2
        go_wp2_with fail
        refine ⟨⟨j + 1, cstep d, by go_num, ?_, by omega, step_lt hd, steps_next HS.out hlt⟩, by simp [intOf]; omega⟩
        rw [step_even H2.out]
        rfl
    · go_wp2_with fail
      go_ret
      have e : k - j = 0 := by omega
      have h := HS.out
      rw [e] at h
      exact ⟨by rw [← h]; rfl, rfl⟩

theorem refStep8 (c : Nat) (hc : c < 4294967296) (w : World) :
    Calls Try.prog 35 #[.int .u32 c, .int .i64 8] w fun e w' => e = .returned (.int .u32 (cstep8 c : Nat)) ∧ w = w' := refSteps c 8 hc (by omega) w

theorem feed_next (c : Nat) (s : ByteArray) (k : Nat) (h : k < s.size) : cfeed c (s.data.toList.take (k + 1)) = cstep8 (cfeed c (s.data.toList.take k) ^^^ s[k].toNat) := by
  rw [take_next s k h, feed_snoc]

theorem sub_u32 {c : Nat} (h : c < 4294967296) : (4294967295 : Int) - (c : Int) = ((4294967295 - c : Nat) : Int) := by omega

theorem xor_byte (d : Nat) (b : UInt8) (h : d < 4294967296) : bits .xor .u32 (d : Int) ((b.toNat : Int) % 4294967296) = ((d ^^^ b.toNat : Nat) : Int) := by
  have hb := UInt8.toNat_lt b
  rw [show (b.toNat : Int) % 4294967296 = ((b.toNat : Nat) : Int) by omega]
  exact u32_xor_nat d b.toNat h (by omega)

set_option maxRecDepth 100000 in
set_option maxHeartbeats 400000 in
theorem refMore (c : Nat) (s : ByteArray) (hc : c < 4294967296) (_hs : s.size ≤ 70000) (w : World) :
    Calls Try.prog 29 #[.int .u32 c, .string s] w fun e w' => e = .returned (.int .u32 (cmore c s.data.toList : Nat)) ∧ w = w' := by
  go_enter Try.func29, Try.ntmps29
  go_wp2_with fail
  go_loop [0, 5] (fun a i => ∃ k : Nat, i = .int .i64 (k : Int) ∧ k ≤ s.size ∧ a = .int .u32 (cfeed (4294967295 - c) (s.data.toList.take k) : Nat)) (fun _ i => s.size - (intOf i).toNat)
  case atStart => exact ⟨0, rfl, by omega, by rw [sub_u32 hc]; rfl⟩
  case round =>
    obtain ⟨k, rfl, hk, rfl⟩ := hrel
    have hl := feed_lt (s.data.toList.take k) (neg_lt c)
    obtain ⟨d, hd⟩ : ∃ d, d = cfeed (4294967295 - c) (s.data.toList.take k) := ⟨_, rfl⟩
    rw [← hd] at hl ⊢
    have HD := Lib.hid hd
    clear hd
    have hd32 : (d : Int) < 4294967296 := by omega
    clear hl
    by_cases hlt : k < s.size
    · go_wp2_with fail
      rw [xor_byte d s[k] (by omega)]
      refine (refStep8 _ (Nat.xor_lt_two_pow (n := 32) (by omega) (byte_lt _)) _).mono ?_
      rintro e w1 ⟨rfl, rfl⟩
      go_wp2_with fail
      refine ⟨⟨k + 1, by go_num, by omega, ?_⟩, by simp [intOf]; omega⟩
      rw [feed_next _ _ _ hlt, ← HD.out]
    · go_wp2_with fail
      go_ret
      have hk2 : k = s.size := by omega
      have h := HD.out
      rw [hk2, List.take_of_length_le (by simp)] at h
      refine ⟨?_, rfl⟩
      show Ending.returned (Value.int .u32 (4294967295 - (d : Int))) = _
      rw [sub_u32 (by omega), h]
      rfl

theorem refOf (s : ByteArray) (hs : s.size ≤ 70000) (w : World) :
    Calls Try.prog 21 #[.string s] w fun e w' => e = .returned (.int .u32 (cmore 0 s.data.toList : Nat)) ∧ w = w' := by
  go_enter Try.func21, Try.ntmps21
  go_wp2_with fail
  refine (refMore 0 s (by omega) hs _).mono ?_
  rintro e w1 ⟨rfl, rfl⟩
  go_wp2_with fail
  go_ret
  exact ⟨rfl, rfl⟩

end Go.Proofs.Ytckobhfomphcpaa
