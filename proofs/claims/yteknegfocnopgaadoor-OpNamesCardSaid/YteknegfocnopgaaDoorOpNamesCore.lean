/-
  A name has no slash, and no byte 0, is short, and no point or two alone; a begin of it that isn't empty is one, but such: for all texts and bytes.
-/
import Derived.Test.YteknegfocnopgaaDoorOpHave
import Derived.Deep.LoopGhost
import Derived.IntWalk
import Derived.LoopTactic
import Derived.OpenShut
namespace Go.Proofs.YteknegfocnopgaaDoor.lawOpNames
open Go.RowKit OpMath StampMath PackMath

theorem hasB_iff {s : ByteArray} {c : UInt8} : hasB s c = false ↔ ∀ b ∈ s.data.toList, b ≠ c := by
  unfold hasB
  rw [← Bool.not_eq_true, List.any_eq_true]
  refine ⟨fun h b hb e => h ⟨b, hb, by rw [e]; exact beq_self_eq_true c⟩, fun h ⟨b, hb, e⟩ => h b hb (beq_iff_eq.1 e)⟩

structure NameParts (s : ByteArray) : Prop where
  one : 1 ≤ s.size
  eight : s.size ≤ 8
  d1 : (s.toList == [46]) = false
  d2 : (s.toList == [46, 46]) = false
  slash : hasB s 47 = false
  nul : hasB s 0 = false

theorem name_parts {s : ByteArray} (h : nameB s = true) : NameParts s := by
  unfold nameB at h
  simp only [Bool.and_eq_true, decide_eq_true_eq, Bool.not_eq_true'] at h
  obtain ⟨⟨⟨⟨⟨h1, h2⟩, h3⟩, h4⟩, h5⟩, h6⟩ := h
  exact ⟨h1, h2, h3, h4, h5, h6⟩

theorem not_byte {s : ByteArray} {c : UInt8} (h : hasB s c = false) {k : Nat} (hk : k < s.size) : s[k] ≠ c := by
  refine hasB_iff.1 h _ ?_
  rw [← data_get hk]
  exact List.getElem_mem _

theorem begin_name {s : ByteArray} (h : NameParts s) {k : Nat} (h1 : 1 ≤ k) (h2 : k ≤ s.size) :
    nameB (s.extract 0 k) = (!((s.extract 0 k).toList == [46]) && !((s.extract 0 k).toList == [46, 46])) := by
  have hz : (s.extract 0 k).size = k := by rw [ByteArray.size_extract]; omega
  have hb : ∀ c, hasB s c = false → hasB (s.extract 0 k) c = false := fun c hc => by
    rw [hasB_iff] at hc ⊢
    intro b hb
    rw [extract_take] at hb
    exact hc b (List.mem_of_mem_take (by simpa using hb))
  have e8 := h.eight
  unfold nameB
  rw [hb 47 h.slash, hb 0 h.nul, hz, decide_eq_true h1, decide_eq_true (show k ≤ 8 by omega)]
  simp

theorem slash_name (s : ByteArray) : nameB (s ++ ⟨#[47]⟩) = false := by
  have h : hasB (s ++ ⟨#[47]⟩) 47 = true := by
    unfold hasB
    rw [ByteArray.data_append]
    simp
  unfold nameB
  rw [h]
  simp

theorem long_name {t : ByteArray} (h : 8 < t.size) : nameB t = false := by
  unfold nameB
  rw [show decide (t.size ≤ 8) = false by simp; omega]
  simp

theorem add_n (n : Nat) (a s : ByteArray) (ha : a.size = n * s.size) (hs : s.size ≤ 8) (hn : n ≤ 20) :
    ∃ b : ByteArray, b.size = (n + 1) * s.size ∧ ∀ W : World, (Op.stringOp .add a s).run Tryd.prog W = .ok (.string b) W := by
  have h : n * s.size ≤ 20 * 8 := Nat.mul_le_mul hn hs
  exact ⟨a ++ s, by rw [ByteArray.size_append, ha, Nat.add_mul, Nat.one_mul], fun W => run_string_add_sum W _ _ (by omega)⟩

set_option maxRecDepth 100000 in
set_option maxHeartbeats 1600000 in
theorem notName (H : OpHave) (s : ByteArray) (c : Int) (hs : s.size ≤ maxLen) (hn : nameB s = false) (w : World) [Tab w] :
    Calls Tryd.prog 6 #[.string s, .int .u8 c] w fun e w' => e = .returned (.bool true) ∧ Below w.heap.size w w' := by
  have HN : Hid (∀ (W : World) [Tab W], Calls Tryd.prog 12 #[.string s] W fun e w' => e = .returned (.bool false) ∧ Below W.heap.size W w') := fun W => by rw [← hn]; exact H.name s W hs
  clear hs hn
  go_enter Tryd.func6, Tryd.ntmps6
  go_wp2_with fail
  refine (H.shown _).mono ?_
  rintro e w1 ⟨rfl, hb1⟩
  have iw1 : Tab w1 := tab_step hb1
  go_wp2_with fail
  refine (HN.out _).mono ?_
  rintro e w2 ⟨rfl, hb2⟩
  have iw2 : Tab w2 := tab_step hb2
  go_wp2_with fail
  go_ret
  exact ⟨rfl, below_step hb1 hb2⟩

set_option maxRecDepth 100000 in
set_option maxHeartbeats 3200000 in
theorem isName (H : OpHave) (s : ByteArray) (c : Nat) (hc : c ≤ 255) (hp : NameParts s) (hn : nameB s = true) (w : World) [Tab w] :
    Calls Tryd.prog 6 #[.string s, .int .u8 (c : Int)] w fun e w' => e = .returned (.bool true) ∧ Below w.heap.size w w' := by
  have h1 := hp.one
  have h8 := hp.eight
  have HN : Hid (∀ (W : World) [Tab W], Calls Tryd.prog 12 #[.string s] W fun e w' => e = .returned (.bool true) ∧ Below W.heap.size W w') := fun W => by rw [← hn]; exact H.name s W (by unfold maxLen; omega)
  have HP := Lib.hid hp
  have hm := Nat.mod_lt c (show 0 < s.size by omega)
  obtain ⟨k, hk⟩ : ∃ k, k = 1 + c % s.size := ⟨_, rfl⟩
  have hk1 : 1 ≤ k := by omega
  have hk2 : k ≤ s.size := by omega
  have hw : wrap64 (1 + (c : Int) % (s.size : Int)) = (k : Int) := by
    have e : (c : Int) % (s.size : Int) = ((c % s.size : Nat) : Int) := by omega
    rw [e, hk]
    rw [IntWalk.wrap64_in _ ⟨by omega, by omega⟩]
    omega
  clear hk hm
  have hb := begin_name hp hk1 hk2
  have HB : Hid (∀ (W : World) [Tab W], Calls Tryd.prog 12 #[.string (s.extract 0 k)] W fun e w' => e = .returned (.bool (!((s.extract 0 k).toList == [46]) && !((s.extract 0 k).toList == [46, 46]))) ∧ Below W.heap.size W w') := fun W => by
    rw [← hb]; exact H.name _ W (by unfold maxLen; rw [ByteArray.size_extract]; omega)
  have HS : Hid (∀ (W : World) [Tab W], Calls Tryd.prog 12 #[.string (s ++ ⟨#[47]⟩)] W fun e w' => e = .returned (.bool false) ∧ Below W.heap.size W w') := fun W => by
    rw [← slash_name s]; exact H.name _ W (by unfold maxLen; rw [ByteArray.size_append]; show s.size + 1 ≤ _; omega)
  have hadd : ∀ W : World, (Op.stringOp .add s ⟨#[47]⟩).run Tryd.prog W = .ok (.string (s ++ ⟨#[47]⟩)) W := fun W => run_string_add_sum W _ _ (by show s.size + 1 ≤ _; omega)
  obtain ⟨t2, z2, r2⟩ := add_n 1 s s (by omega) h8 (by omega)
  obtain ⟨t3, z3, r3⟩ := add_n 2 t2 s z2 h8 (by omega)
  obtain ⟨t4, z4, r4⟩ := add_n 3 t3 s z3 h8 (by omega)
  obtain ⟨t5, z5, r5⟩ := add_n 4 t4 s z4 h8 (by omega)
  obtain ⟨t6, z6, r6⟩ := add_n 5 t5 s z5 h8 (by omega)
  obtain ⟨t7, z7, r7⟩ := add_n 6 t6 s z6 h8 (by omega)
  obtain ⟨t8, z8, r8⟩ := add_n 7 t7 s z7 h8 (by omega)
  obtain ⟨t9, z9, r9⟩ := add_n 8 t8 s z8 h8 (by omega)
  have HL : Hid (∀ (W : World) [Tab W], Calls Tryd.prog 12 #[.string t9] W fun e w' => e = .returned (.bool false) ∧ Below W.heap.size W w') := fun W => by
    rw [← long_name (t := t9) (by omega)]; exact H.name _ W (by unfold maxLen; omega)
  clear z2 z3 z4 z5 z6 z7 z8 z9 hb
  generalize hp1 : ((s.extract 0 k).toList == [46]) = p1 at HB
  generalize hp2 : ((s.extract 0 k).toList == [46, 46]) = p2 at HB
  have hq1 : ((s.extract 0 k).toList != [46]) = !p1 := by unfold bne; rw [hp1]
  have hq2 : ((s.extract 0 k).toList != [46, 46]) = !p2 := by unfold bne; rw [hp2]
  clear hn hp
  go_enter Tryd.func6, Tryd.ntmps6
  go_wp2_with fail
  refine (H.shown _).mono ?_
  rintro e w1 ⟨rfl, hb1⟩
  have iw1 : Tab w1 := tab_step hb1
  go_wp2_with fail
  refine (HN.out _).mono ?_
  rintro e w2 ⟨rfl, hb2⟩
  have iw2 : Tab w2 := tab_step hb2
  have hB := below_step hb1 hb2
  clear hb1 hb2
  go_wp2_with fail
  clear hw
  go_loop [8] (fun i => ∃ j : Nat, i = .int .i64 (j : Int) ∧ j ≤ s.size) (fun i => s.size - (intOf i).toNat)
  case atStart => exact ⟨0, rfl, by omega⟩
  case round =>
    obtain ⟨j, rfl, hj⟩ := hrel
    by_cases hlt : j < s.size
    · have b0 : (((s[j]).toNat : Int) == 0) = false := by
        rw [beq_eq_false_iff_ne]
        intro h
        exact not_byte HP.out.nul hlt (UInt8.toNat_inj.1 (by show s[j].toNat = 0; omega))
      have b1 : (((s[j]).toNat : Int) == 47) = false := by
        rw [beq_eq_false_iff_ne]
        intro h
        exact not_byte HP.out.slash hlt (UInt8.toNat_inj.1 (by show s[j].toNat = 47; omega))
      have b2 : ¬ s[j].toNat = 0 := by rw [beq_eq_false_iff_ne] at b0; omega
      go_wp2_with fail
      exact ⟨⟨j + 1, by go_num, by omega⟩, by simp [intOf]; omega⟩
    · have e1 := HP.out.d1
      have e2 := HP.out.d2
      have e3 : (s.toList != [46]) = true := by unfold bne; rw [e1]; rfl
      have e4 : (s.toList != [46, 46]) = true := by unfold bne; rw [e2]; rfl
      cases p1 <;> cases p2
      all_goals
        simp only [Bool.not_true, Bool.not_false, Bool.and_true, Bool.and_false] at HB hq1 hq2
        go_wp2_with fail
        refine (HB.out _).mono ?_
        rintro e w3 ⟨rfl, hb3⟩
        have iw3 : Tab w3 := tab_step hb3
        go_wp2_with fail
        refine (HS.out _).mono ?_
        rintro e w4 ⟨rfl, hb4⟩
        have iw4 : Tab w4 := tab_step hb4
        go_wp2_with fail
        refine (HL.out _).mono ?_
        rintro e w5 ⟨rfl, hb5⟩
        have iw5 : Tab w5 := tab_step hb5
        go_wp2_with fail
        go_ret
        exact ⟨rfl, below_step (below_step (below_step hB hb3) hb4) hb5⟩

theorem walk0 (H : OpHave) (a0 : ByteArray) (a1 : Int) (w0 : a0.size ≤ maxLen) (w1 : (Lit.int .u8 a1).wf = true) (w : World) [Tab w] :
    Calls Tryd.prog 6 #[.string a0, .int .u8 a1] w fun e w' => e = .returned (.bool true) ∧ Below w.heap.size w w' := by
  cases hn : nameB a0 with
  | false => exact notName H a0 a1 w0 hn w
  | true =>
    have hb := bounds_u8 w1
    obtain ⟨c, rfl, hc⟩ := nat_of_int (n := a1) (m := 255) hb
    exact isName H a0 c (by omega) (name_parts hn) hn w

end Go.Proofs.YteknegfocnopgaaDoor.lawOpNames
