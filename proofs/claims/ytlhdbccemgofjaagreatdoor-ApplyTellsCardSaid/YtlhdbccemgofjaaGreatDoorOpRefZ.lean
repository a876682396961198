/-
  The walks of the document's own has and Name.
-/
import Derived.Test.YtlhdbccemgofjaaGreatDoorZ00
import Derived.Test.YtlhdbccemgofjaaGreatDoorRows
namespace Go.Proofs.YtlhdbccemgofjaaGreatDoor
open Go.RowKit OpMath

set_option maxRecDepth 100000 in
set_option maxHeartbeats 800000 in
theorem refHas (s : ByteArray) (c : UInt8) (hs : s.size ≤ 9223372036854775807) (w : World) :
    Calls Tryz.prog 125 #[.string s, .int .u8 (c.toNat : Int)] w fun e w' => e = .returned (.bool (hasB s c)) ∧ w = w' := by
  go_enter Tryz.func125, Tryz.ntmps125
  go_wp2_with fail
  go_loop [5] (fun i => ∃ k : Nat, i = .int .i64 (k : Int) ∧ k ≤ s.size ∧ Hid ((s.data.toList.take k).any (· == c) = false)) (fun i => s.size - (intOf i).toNat)
  case atStart => exact ⟨0, rfl, by omega, rfl⟩
  case round =>
    obtain ⟨k, rfl, hk, hno⟩ := hrel
    by_cases hlt : k < s.size
    · have hN := any_next s c k hlt
      rw [hno.out, Bool.false_or] at hN
      by_cases hc : s[k] = c
      · have hd : ((s[k].toNat : Int) == (c.toNat : Int)) = true := by rw [hc]; exact beq_self_eq_true _
        have HY := Lib.hid (any_some s c k hlt hc)
        clear hN hc
        go_wp2_with fail
        go_ret
        exact ⟨by rw [HY.out]; rfl, rfl⟩
      · have hd : ((s[k].toNat : Int) == (c.toNat : Int)) = false := by
          rw [beq_eq_false_iff_ne]
          intro e
          exact hc (UInt8.toNat_inj.1 (by omega))
        rw [beq_eq_false_iff_ne.2 hc] at hN
        have HN := Lib.hid hN
        clear hN hc
        go_wp2_with fail
        exact ⟨⟨k + 1, by go_num, by omega, HN⟩, by simp [intOf]; omega⟩
    · have hE := any_all s c k (by omega)
      rw [hno.out] at hE
      have HE := Lib.hid hE
      clear hE
      go_wp2_with fail
      go_ret
      exact ⟨by rw [← HE.out]; rfl, rfl⟩

set_option maxRecDepth 100000 in
set_option maxHeartbeats 800000 in
theorem refName (s : ByteArray) (hs : s.size ≤ 9223372036854775807) (w : World) :
    Calls Tryz.prog 124 #[.string s] w fun e w' => e = .returned (.bool (nameB s)) ∧ w = w' := by
  obtain ⟨b1, h1⟩ : ∃ b, b = (s.toList == [46]) := ⟨_, rfl⟩
  obtain ⟨b2, h2⟩ : ∃ b, b = (s.toList == [46, 46]) := ⟨_, rfl⟩
  obtain ⟨b3, h3⟩ : ∃ b, b = hasB s 47 := ⟨_, rfl⟩
  obtain ⟨b4, h4⟩ : ∃ b, b = hasB s 0 := ⟨_, rfl⟩
  have H3 : s.size ≤ 8 → Hid (∀ W : World, Calls Tryz.prog 125 #[.string s, .int .u8 47] W fun e w' => e = .returned (.bool b3) ∧ W = w') := fun h8 W => by rw [h3]; exact refHas s 47 (by omega) W
  have H4 : s.size ≤ 8 → Hid (∀ W : World, Calls Tryz.prog 125 #[.string s, .int .u8 0] W fun e w' => e = .returned (.bool b4) ∧ W = w') := fun h8 W => by rw [h4]; exact refHas s 0 (by omega) W
  have hN : nameB s = (decide (1 ≤ s.size) && decide (s.size ≤ 8) && !b1 && !b2 && !b3 && !b4) := by rw [h1, h2, h3, h4]; rfl
  have HN := Lib.hid hN
  have q1 := h1.symm
  have q2 := h2.symm
  clear hN h1 h2 h3 h4
  by_cases hA : 1 ≤ s.size
  · by_cases hB : s.size ≤ 8
    · have H3 := H3 hB
      have H4 := H4 hB
      cases b1
      · cases b2
        · cases b3
          · go_enter Tryz.func124, Tryz.ntmps124
            go_wp2_with fail
            refine (H3.out _).mono ?_
            rintro e w' ⟨rfl, rfl⟩
            go_wp2_with fail
            refine (H4.out _).mono ?_
            rintro e w' ⟨rfl, rfl⟩
            go_wp2_with fail
            go_ret
            exact ⟨by rw [HN.out]; simp [hA, hB], rfl⟩
          · go_enter Tryz.func124, Tryz.ntmps124
            go_wp2_with fail
            refine (H3.out _).mono ?_
            rintro e w' ⟨rfl, rfl⟩
            go_wp2_with fail
            go_ret
            exact ⟨by rw [HN.out]; simp [hA, hB], rfl⟩
        · go_enter Tryz.func124, Tryz.ntmps124
          go_wp2_with fail
          go_ret
          exact ⟨by rw [HN.out]; simp [hA, hB], rfl⟩
      · go_enter Tryz.func124, Tryz.ntmps124
        go_wp2_with fail
        go_ret
        exact ⟨by rw [HN.out]; simp [hA, hB], rfl⟩
    · have hd : decide ((s.size : Int) ≤ 8) = false := by simp; omega
      clear H3 H4
      go_enter Tryz.func124, Tryz.ntmps124
      go_wp2_with fail
      go_ret
      exact ⟨by rw [HN.out]; simp [hB], rfl⟩
  · have hd : decide (1 ≤ (s.size : Int)) = false := by simp; omega
    clear H3 H4
    go_enter Tryz.func124, Tryz.ntmps124
    go_wp2_with fail
    go_ret
    exact ⟨by rw [HN.out]; simp [hA], rfl⟩

end Go.Proofs.YtlhdbccemgofjaaGreatDoor
