/-
  The walks of the document's own Write and Trunc (extents).
-/
import Derived.Test.YtlhdbccemgofjaaGreatDoorZ01
import Derived.Test.YtlhdbccemgofjaaGreatDoorZ01
import Derived.Test.YtlhdbccemgofjaaGreatDoorZ00
import Derived.Deep.DeepCutAuto
namespace Go.Proofs.YtlhdbccemgofjaaGreatDoor
open Go.RowKit ExtentMath PackMath

/-- So far k bytes are built. -/
def Built (w : World) (T : TypeId) (f : Nat → UInt8) (k : Nat) (v : Value) (wr : World) : Prop :=
  wr.ownsRow w.heap.size T 1 v k ((bld f k).map bcell) ∧ Below w.heap.size w wr ∧ (k = 0 → v = .slice none 0 0)

theorem built_step {w w1 : World} {T : TypeId} {f : Nat → UInt8} {k : Nat} {v : Value} (h : w1.ownsRow w.heap.size T 1 v (k + 1) ((bld f k).map bcell ++ [.int .u8 ((f k).toNat : Int)])) (hb : Below w.heap.size w w1) : Built w T f (k + 1) v w1 := by
  refine ⟨?_, hb, fun h => by omega⟩
  rw [bld_succ, List.map_append]
  exact h

theorem conv_none (W : World) : (convert 114 9 (.slice none 0 0)).run Tryz.prog W = .ok (.string ⟨#[]⟩) W := by
  kernel_rfl

theorem at_any (d : ByteArray) (i : Nat) (_hd : d.size ≤ 2000) (_hi : i ≤ 4000) (w : World) :
    Calls Tryz.prog 87 #[.string d, .int .i64 (i : Int)] w fun e w' => e = .returned (.int .u8 ((bAt d.data.toList i).toNat : Int)) ∧ w = w' := by
  by_cases h : i < d.size
  · have e : bAt d.data.toList i = d[i] := by rw [bAt_lt (by simpa using h)]; exact data_get h
    have E := Lib.hid e
    clear e
    go_enter Tryz.func87, Tryz.ntmps87
    go_wp2_with fail
    go_ret
    exact ⟨by rw [E.out]; rfl, rfl⟩
  · have e : bAt d.data.toList i = 0 := bAt_ge (by simpa using h)
    have E := Lib.hid e
    have f1 : decide (i < d.size) = false := by simpa using h
    clear e h
    go_enter Tryz.func87, Tryz.ntmps87
    go_wp2_with fail
    go_ret
    exact ⟨by rw [E.out]; rfl, rfl⟩

set_option maxRecDepth 100000 in
set_option maxHeartbeats 800000 in
theorem refTrunc (d : ByteArray) (n : Int) (hd : d.size ≤ 2000) (w : World) :
    Calls Tryz.prog 47 #[.string d, .int .i64 n] w fun e w' => e = .returned (.tuple #[.string (tR d n).1, .int .i64 (tR d n).2]) ∧ Below w.heap.size w w' := by
  by_cases h0 : n < 0
  · rw [show tR d n = (d, 1) by unfold tR; rw [if_pos h0]]
    go_enter Tryz.func47, Tryz.ntmps47
    go_wp2_with fail
    go_ret2
    exact ⟨rfl, Below.refl _ _⟩
  by_cases h1 : 64 < n
  · rw [show tR d n = (d, 11) by unfold tR; rw [if_neg h0, if_pos (Or.inl h1)]]
    go_enter Tryz.func47, Tryz.ntmps47
    go_wp2_with fail
    go_ret2
    exact ⟨rfl, Below.refl _ _⟩
  by_cases h2 : 64 < d.size
  · rw [show tR d n = (d, 11) by unfold tR; rw [if_neg h0, if_pos (Or.inr h2)]]
    go_enter Tryz.func47, Tryz.ntmps47
    go_wp2_with fail
    go_ret2
    exact ⟨rfl, Below.refl _ _⟩
  obtain ⟨m, rfl⟩ : ∃ m : Nat, n = (m : Int) := ⟨n.toNat, by omega⟩
  have hm64 : m ≤ 64 := by omega
  rw [show tR d (m : Int) = (⟨(bld (bAt d.data.toList) m).toArray⟩, 0) by unfold tR; rw [if_neg h0, if_neg (by omega)]; rfl]
  clear h0 h1
  obtain ⟨i0, hi0, hz0, hz1, hz2⟩ := info_parts u8_info
  have CA : Hid (∀ (k : Nat) (W : World), k ≤ 4000 → Calls Tryz.prog 87 #[.string d, .int .i64 (k : Int)] W fun e w' => e = .returned (.int .u8 ((bAt d.data.toList k).toNat : Int)) ∧ W = w') := fun k W hk => at_any d k hd hk W
  obtain ⟨f, hf⟩ : ∃ f, f = bAt d.data.toList := ⟨_, rfl⟩
  rw [← hf] at CA ⊢
  clear hf
  go_enter Tryz.func47, Tryz.ntmps47
  go_wp2_with fail
  go_loopw [6, 7] (fun b i wr => ∃ k : Nat, i = .int .i64 (k : Int) ∧ k ≤ m ∧ Hid (Built w 5 f k b wr)) (fun _ i _ => m - (intOf i).toNat)
  case atStart => exact ⟨0, rfl, by omega, ⟨World.ownsRow_nil _ _ _ _, Below.refl _ _, fun _ => rfl⟩⟩
  case round =>
    obtain ⟨k, rfl, hk, hB⟩ := hrel
    by_cases hlt : k < m
    · have hb := hB.out.2.1
      have hm : k + 1 ≤ maxLen := by unfold maxLen; omega
      go_wp2_with fail
      refine (CA.out k _ (by omega)).mono ?_
      rintro e w' ⟨rfl, rfl⟩
      go_wp2_with (at_builtin; refine wpList_append_own _ rfl (.tmp 24) (.tmp 28) 114 rfl w.heap.size 5 i0 _ 1 1 Tryz.underlying114 hi0 hz0 hz1 hz2 rfl (by decide) _ _ _ rfl (hB.out.1.alloc _) ⟨wr.heap.size, 0, none⟩ 1 1 [.int .u8 ((f k).toNat : Int)] rfl rfl (cell_one_new _ _ _) (one_cell _ _) hm (by omega) (by simp; exact Nat.le_succ_of_le hb.size) ?_; intro v1 w1 hown1 hg1 _)
      go_roundw
      case rel => exact ⟨k + 1, by go_num, by omega, built_step hown1 ((hb.alloc hb.size _).grown hg1 (by simp; exact Nat.le_succ_of_le hb.size) (fun q hq => (hB.out.1.lt q hq).1))⟩
      case measure => simp [intOf]; omega
    · obtain rfl : k = m := by omega
      have hb := hB.out.2.1
      by_cases h0 : k = 0
      · have hv := hB.out.2.2 h0
        subst h0
        subst hv
        have hcv := conv_none wr
        go_wp2_with fail
        go_ret2
        exact ⟨rfl, hb⟩
      · have hcv := conv_own hB.out.1 (by omega)
        go_wp2_with fail
        go_ret2
        exact ⟨rfl, hb⟩

set_option maxRecDepth 100000 in
set_option maxHeartbeats 1600000 in
theorem refWrite (d : ByteArray) (off : Int) (s : ByteArray) (hd : d.size ≤ 2000) (hs : s.size ≤ 2000) (ho : IsI64 off) (w : World) :
    Calls Tryz.prog 46 #[.string d, .int .i64 off, .string s] w fun e w' => e = .returned (.tuple #[.string (wR d off s).1, .int .i64 (wR d off s).2]) ∧ Below w.heap.size w w' := by
  have hes : (s.toList == []) = decide (s.size = 0) := by
    rw [ByteArray.toList_eq]
    have e2 : s.data.toList.length = s.size := by simp
    cases hl : s.data.toList with
    | nil => rw [hl] at e2; rw [decide_eq_true (by simpa using e2.symm)]; rfl
    | cons a l => rw [hl, List.length_cons] at e2; rw [decide_eq_false (by omega)]; rfl
  by_cases h0 : off < 0
  · rw [show wR d off s = (d, 1) by unfold wR; rw [if_pos (Or.inl h0)]]
    go_enter Tryz.func46, Tryz.ntmps46
    go_wp2_with fail
    go_ret2
    exact ⟨rfl, Below.refl _ _⟩
  by_cases hs0 : s.size = 0
  · rw [show wR d off s = (d, 1) by unfold wR; rw [if_pos (Or.inr hs0)]]
    rw [decide_eq_true hs0] at hes
    go_enter Tryz.func46, Tryz.ntmps46
    go_wp2_with fail
    go_ret2
    exact ⟨rfl, Below.refl _ _⟩
  rw [decide_eq_false hs0] at hes
  by_cases h1 : 64 < off
  · rw [show wR d off s = (d, 11) by unfold wR; rw [if_neg (by omega), if_pos (Or.inl h1)]]
    go_enter Tryz.func46, Tryz.ntmps46
    go_wp2_with fail
    go_ret2
    exact ⟨rfl, Below.refl _ _⟩
  by_cases h2 : 64 < s.size
  · rw [show wR d off s = (d, 11) by unfold wR; rw [if_neg (by omega), if_pos (Or.inr (Or.inl h2))]]
    go_enter Tryz.func46, Tryz.ntmps46
    go_wp2_with fail
    go_ret2
    exact ⟨rfl, Below.refl _ _⟩
  by_cases h3 : 64 < d.size
  · rw [show wR d off s = (d, 11) by unfold wR; rw [if_neg (by omega), if_pos (Or.inr (Or.inr (Or.inl h3)))]]
    go_enter Tryz.func46, Tryz.ntmps46
    go_wp2_with fail
    go_ret2
    exact ⟨rfl, Below.refl _ _⟩
  obtain ⟨o, rfl⟩ : ∃ o : Nat, off = (o : Int) := ⟨off.toNat, by omega⟩
  by_cases h4 : 64 < o + s.size
  · rw [show wR d (o : Int) s = (d, 11) by unfold wR; rw [if_neg (by omega), if_pos (Or.inr (Or.inr (Or.inr (by omega))))]]
    have h4' : (64 : Int) < (o : Int) + (s.size : Int) := by omega
    go_enter Tryz.func46, Tryz.ntmps46
    go_wp2_with fail
    go_ret2
    exact ⟨rfl, Below.refl _ _⟩
  obtain ⟨n, hn⟩ : ∃ n, n = max d.size (o + s.size) := ⟨_, rfl⟩
  have hR : wR d (o : Int) s = (⟨(bld (wF d.data.toList s.data.toList o) n).toArray⟩, 0) := by
    unfold wR
    rw [if_neg (by omega), if_neg (by omega), hn]
    unfold wL
    simp
  rw [hR]
  have h4' : ¬ (64 : Int) < (o : Int) + (s.size : Int) := by omega
  clear h0 hR ho h1
  obtain ⟨i0, hi0, hz0, hz1, hz2⟩ := info_parts u8_info
  have CA : Hid (∀ (k : Nat) (W : World), k ≤ 4000 → Calls Tryz.prog 87 #[.string d, .int .i64 (k : Int)] W fun e w' => e = .returned (.int .u8 ((bAt d.data.toList k).toNat : Int)) ∧ W = w') := fun k W hk => at_any d k hd hk W
  obtain ⟨f, hf⟩ : ∃ f, f = wF d.data.toList s.data.toList o := ⟨_, rfl⟩
  have hF1 : Hid (∀ k (h : k - o < s.size), o ≤ k → f k = s[k - o]) := fun k h hk => by
    rw [hf]
    unfold wF
    have e : s.data.toList.length = s.size := by simp
    rw [if_pos (by omega), bAt_lt (by omega)]
    exact data_get h
  have hF2 : Hid (∀ k, ¬ (o ≤ k ∧ k < o + s.size) → f k = bAt d.data.toList k) := fun k h => by
    rw [hf]
    unfold wF
    have e : s.data.toList.length = s.size := by simp
    rw [if_neg (by omega)]
  rw [← hf]
  have HN := Lib.hid hn
  clear hf hn
  go_enter Tryz.func46, Tryz.ntmps46
  go_wp2_with fail
  go_loopw [8, 9] (fun b i wr => ∃ k : Nat, i = .int .i64 (k : Int) ∧ k ≤ n ∧ Hid (Built w 5 f k b wr)) (fun _ i _ => n - (intOf i).toNat)
  case atStart => exact ⟨0, rfl, by omega, ⟨World.ownsRow_nil _ _ _ _, Below.refl _ _, fun _ => rfl⟩⟩
  case round =>
    obtain ⟨k, rfl, hk, hB⟩ := hrel
    have hb := hB.out.2.1
    have hm : k + 1 ≤ maxLen := by have := HN.out; unfold maxLen; omega
    have hcase : (k < d.size ∧ o ≤ k ∧ k < o + s.size) ∨ (¬ k < d.size ∧ o ≤ k ∧ k < o + s.size) ∨ (k < d.size ∧ ¬ o ≤ k) ∨ (k < d.size ∧ o ≤ k ∧ ¬ k < o + s.size) ∨ (¬ k < d.size ∧ k < o + s.size ∧ ¬ o ≤ k) ∨ (¬ k < d.size ∧ ¬ k < o + s.size) := by omega
    rcases hcase with ⟨c0, c1, c2⟩ | ⟨c0, c1, c2⟩ | ⟨c0, c1⟩ | ⟨c0, c1, c2⟩ | ⟨c0, c2, c1⟩ | ⟨c0, c2⟩
    · have c2' : (k : Int) < (o : Int) + (s.size : Int) := by omega
      have hq : k - o < s.size := by omega
      have e : f k = s[k - o] := hF1.out k hq c1
      have E := Lib.hid e
      have hsub : (k : Int) - (o : Int) = ((k - o : Nat) : Int) := by omega
      clear e
      go_wp2_with (at_builtin; refine wpList_append_own _ rfl (.tmp 62) (.tmp 68) 114 rfl w.heap.size 5 i0 _ 1 1 Tryz.underlying114 hi0 hz0 hz1 hz2 rfl (by decide) _ _ _ rfl (hB.out.1.alloc _) ⟨wr.heap.size, 0, none⟩ 1 1 [.int .u8 (s[k - o].toNat : Int)] rfl rfl (cell_one_new _ _ _) (one_cell _ _) hm (by omega) (by simp; exact Nat.le_succ_of_le hb.size) ?_; intro v1 w1 hown1 hg1 _)
      go_roundw
      case rel => exact ⟨k + 1, by go_num, by have := HN.out; omega, built_step (by rw [E.out]; exact hown1) ((hb.alloc hb.size _).grown hg1 (by simp; exact Nat.le_succ_of_le hb.size) (fun q hq => (hB.out.1.lt q hq).1))⟩
      case measure => have := HN.out; simp [intOf]; omega
    · have c2' : (k : Int) < (o : Int) + (s.size : Int) := by omega
      have hq : k - o < s.size := by omega
      have e : f k = s[k - o] := hF1.out k hq c1
      have E := Lib.hid e
      have hsub : (k : Int) - (o : Int) = ((k - o : Nat) : Int) := by omega
      clear e
      go_wp2_with (at_builtin; refine wpList_append_own _ rfl (.tmp 62) (.tmp 68) 114 rfl w.heap.size 5 i0 _ 1 1 Tryz.underlying114 hi0 hz0 hz1 hz2 rfl (by decide) _ _ _ rfl (hB.out.1.alloc _) ⟨wr.heap.size, 0, none⟩ 1 1 [.int .u8 (s[k - o].toNat : Int)] rfl rfl (cell_one_new _ _ _) (one_cell _ _) hm (by omega) (by simp; exact Nat.le_succ_of_le hb.size) ?_; intro v1 w1 hown1 hg1 _)
      go_roundw
      case rel => exact ⟨k + 1, by go_num, by have := HN.out; omega, built_step (by rw [E.out]; exact hown1) ((hb.alloc hb.size _).grown hg1 (by simp; exact Nat.le_succ_of_le hb.size) (fun q hq => (hB.out.1.lt q hq).1))⟩
      case measure => have := HN.out; simp [intOf]; omega
    · have c1' : decide (o ≤ k) = false := by simpa using c1
      have E := Lib.hid (hF2.out k (by omega))
      go_wp2_with fail
      refine (CA.out k _ (by have := HN.out; omega)).mono ?_
      rintro e w' ⟨rfl, rfl⟩
      go_wp2_with (at_builtin; refine wpList_append_own _ rfl (.tmp 70) (.tmp 74) 114 rfl w.heap.size 5 i0 _ 1 1 Tryz.underlying114 hi0 hz0 hz1 hz2 rfl (by decide) _ _ _ rfl (hB.out.1.alloc _) ⟨wr.heap.size, 0, none⟩ 1 1 [.int .u8 ((bAt d.data.toList k).toNat : Int)] rfl rfl (cell_one_new _ _ _) (one_cell _ _) hm (by omega) (by simp; exact Nat.le_succ_of_le hb.size) ?_; intro v1 w1 hown1 hg1 _)
      go_roundw
      case rel => exact ⟨k + 1, by go_num, by have := HN.out; omega, built_step (by rw [E.out]; exact hown1) ((hb.alloc hb.size _).grown hg1 (by simp; exact Nat.le_succ_of_le hb.size) (fun q hq => (hB.out.1.lt q hq).1))⟩
      case measure => have := HN.out; simp [intOf]; omega
    · have c2' : ¬ (k : Int) < (o : Int) + (s.size : Int) := by omega
      have E := Lib.hid (hF2.out k (by omega))
      go_wp2_with fail
      refine (CA.out k _ (by have := HN.out; omega)).mono ?_
      rintro e w' ⟨rfl, rfl⟩
      go_wp2_with (at_builtin; refine wpList_append_own _ rfl (.tmp 70) (.tmp 74) 114 rfl w.heap.size 5 i0 _ 1 1 Tryz.underlying114 hi0 hz0 hz1 hz2 rfl (by decide) _ _ _ rfl (hB.out.1.alloc _) ⟨wr.heap.size, 0, none⟩ 1 1 [.int .u8 ((bAt d.data.toList k).toNat : Int)] rfl rfl (cell_one_new _ _ _) (one_cell _ _) hm (by omega) (by simp; exact Nat.le_succ_of_le hb.size) ?_; intro v1 w1 hown1 hg1 _)
      go_roundw
      case rel => exact ⟨k + 1, by go_num, by have := HN.out; omega, built_step (by rw [E.out]; exact hown1) ((hb.alloc hb.size _).grown hg1 (by simp; exact Nat.le_succ_of_le hb.size) (fun q hq => (hB.out.1.lt q hq).1))⟩
      case measure => have := HN.out; simp [intOf]; omega
    · have c2' : (k : Int) < (o : Int) + (s.size : Int) := by omega
      have c1' : decide (o ≤ k) = false := by simpa using c1
      have E := Lib.hid (hF2.out k (by omega))
      go_wp2_with fail
      refine (CA.out k _ (by have := HN.out; omega)).mono ?_
      rintro e w' ⟨rfl, rfl⟩
      go_wp2_with (at_builtin; refine wpList_append_own _ rfl (.tmp 70) (.tmp 74) 114 rfl w.heap.size 5 i0 _ 1 1 Tryz.underlying114 hi0 hz0 hz1 hz2 rfl (by decide) _ _ _ rfl (hB.out.1.alloc _) ⟨wr.heap.size, 0, none⟩ 1 1 [.int .u8 ((bAt d.data.toList k).toNat : Int)] rfl rfl (cell_one_new _ _ _) (one_cell _ _) hm (by omega) (by simp; exact Nat.le_succ_of_le hb.size) ?_; intro v1 w1 hown1 hg1 _)
      go_roundw
      case rel => exact ⟨k + 1, by go_num, by have := HN.out; omega, built_step (by rw [E.out]; exact hown1) ((hb.alloc hb.size _).grown hg1 (by simp; exact Nat.le_succ_of_le hb.size) (fun q hq => (hB.out.1.lt q hq).1))⟩
      case measure => have := HN.out; simp [intOf]; omega
    · have c2' : ¬ (k : Int) < (o : Int) + (s.size : Int) := by omega
      obtain rfl : k = n := by have := HN.out; omega
      have hcv := conv_own hB.out.1 (by have := HN.out; omega)
      go_wp2_with fail
      go_ret2
      exact ⟨rfl, hb⟩

end Go.Proofs.YtlhdbccemgofjaaGreatDoor
