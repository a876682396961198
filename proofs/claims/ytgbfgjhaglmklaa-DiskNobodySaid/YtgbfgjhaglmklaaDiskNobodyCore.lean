/-
  A disk that is nil has nothing, and takes nothing; a new one is empty; a copy is apart: for all strings of 300 bytes at most (others are let go) and numbers.
-/
import Derived.Test.YtgbfgjhaglmklaaDiskLaw
import Derived.OpenShut
namespace Go.Proofs.Ytgbfgjhaglmklaa.lawDiskNobody
open Go.RowKit DiskMath PackMath

set_option maxRecDepth 100000 in
set_option maxHeartbeats 1600000 in
theorem long (H : DiskHave) (s : ByteArray) (keep : Int) (z : s.size ≤ 9223372036854775807) (h0 : 300 < s.size) (w : World) :
    Calls Try.prog 6 #[.string s, .int .i64 keep] w fun e w' => e = .returned (.bool true) ∧ Below w.heap.size w w' := by
  go_enter Try.func6, Try.ntmps6
  go_wp2_with fail
  refine (H.shown _).mono ?_
  rintro e w1 ⟨rfl, hb1⟩
  go_wp2_with fail
  go_ret
  exact ⟨rfl, hb1⟩

set_option maxRecDepth 100000 in
set_option maxHeartbeats 1600000 in
theorem core (H : DiskHave) (s : ByteArray) (keep : Int) (h0 : ¬ 300 < s.size) (w : World) :
    Calls Try.prog 6 #[.string s, .int .i64 keep] w fun e w' => e = .returned (.bool true) ∧ Below w.heap.size w w' := by
  have x0 : newD 400 = ⟨400, ⟨#[]⟩, ⟨#[]⟩, ⟨#[]⟩⟩ := rfl
  have x1 : appD ⟨400, ⟨#[]⟩, ⟨#[]⟩, ⟨#[]⟩⟩ s = ⟨400, ⟨#[]⟩, ⟨#[]⟩, s⟩ := by unfold appD; rw [if_neg (by unfold Dsk.free; simp only [size_none]; omega), nil_app]
  have e1 : appE ⟨400, ⟨#[]⟩, ⟨#[]⟩, ⟨#[]⟩⟩ s = 0 := if_neg (by unfold Dsk.free; simp only [size_none]; omega)
  have x2 : newD (-1) = ⟨0, ⟨#[]⟩, ⟨#[]⟩, ⟨#[]⟩⟩ := rfl
  have e2 : (⟨0, ⟨#[]⟩, ⟨#[]⟩, ⟨#[]⟩⟩ : Dsk).free = 0 := rfl
  have e3 : (⟨400, ⟨#[]⟩, ⟨#[]⟩, ⟨#[]⟩⟩ : Dsk).free = 400 := rfl
  have hok : (newD 400).ok := new_ok (by omega)
  have hok2 : (newD (-1)).ok := new_ok (by omega)
  rw [x0] at hok
  rw [x2] at hok2
  have X0 := Lib.hid x0
  have X1 := Lib.hid x1
  have E1 := Lib.hid e1
  have X2 := Lib.hid x2
  have E2 := Lib.hid e2
  have E3 := Lib.hid e3
  have HK := Lib.hid hok
  have HK2 := Lib.hid hok2
  have hz := size_none
  have HZ := Lib.hid hz
  clear x0 x1 e1 x2 e2 e3 hok hok2 hz
  go_enter Try.func6, Try.ntmps6
  go_wp2_with fail
  refine (H.shown _).mono ?_
  rintro e w1 ⟨rfl, hb1⟩
  have hB1 := hb1
  clear hb1
  go_wp2_with fail
  refine (H.nilSync _).mono ?_
  rintro e w2 ⟨rfl, hb⟩
  have hB2 := below_step hB1 hb
  clear hb hB1
  go_wp2_with fail
  refine (H.nilCrash keep _).mono ?_
  rintro e w3 ⟨rfl, hb⟩
  have hB3 := below_step hB2 hb
  clear hb hB2
  go_wp2_with fail
  refine (H.new 400 _ (by unfold IsI64; omega)).mono ?_
  rintro e w4 ⟨a, S, rfl, r4, hS, hb⟩
  rw [X0.out] at r4
  have hB4 := below_step hB3 hb
  have hS4 := H.lt r4
  have hS0 : ∀ i, S i → w.heap.size ≤ i := fun i hi => Nat.le_trans hB3.size (hS i hi)
  clear hb hB3 hS
  go_wp2_with fail
  refine (H.copy a S _ _ r4 HK.out (by have := HZ.out; have := H.most_ge; simp only; omega)).mono ?_
  rintro e w5 ⟨b, T, rfl, t5, hT, hb⟩
  have r5 := H.keep r4 fun i hi => hb.block i (hS4 i hi)
  have hB5 := below_step hB4 hb
  have hT5 := H.lt t5
  have hT0 : ∀ i, T i → w.heap.size ≤ i := fun i hi => Nat.le_trans hB4.size (hT i hi)
  have hTS : ∀ i, T i → ¬ S i := fun i hi hs => by have := hT i hi; have := hS4 i hs; omega
  clear hb hB4 r4
  go_wp2_with fail
  refine (H.append a S _ s _ r5 HK.out (by have := HZ.out; have := H.most_ge; simp only; omega)).mono ?_
  rw [E1.out, X1.out]
  rintro e w6 ⟨S', rfl, _, _, hbut⟩
  have t6 := H.keep t5 fun i hi => hbut.block i (hT5 i hi) (hTS i hi)
  have hB6 := hB5.trans (hbut.below hS0 hB5.size)
  clear hB5 t5 r5 hbut hT5 hTS hT hS4 hS0
  go_wp2_with fail
  refine (H.nilAppend s _).mono ?_
  rintro e w7 ⟨rfl, hb⟩
  have t7 := H.keep t6 fun i hi => hb.block i (H.lt t6 i hi)
  have hB7 := below_step hB6 hb
  clear hb hB6 t6
  go_wp2_with fail
  refine (H.nilSwitch s _).mono ?_
  rintro e w8 ⟨rfl, hb⟩
  have t8 := H.keep t7 fun i hi => hb.block i (H.lt t7 i hi)
  have hB8 := below_step hB7 hb
  clear hb hB7 t7
  go_wp2_with fail
  refine (H.nilSnap _).mono ?_
  rintro e w9 ⟨rfl, hb⟩
  have t9 := H.keep t8 fun i hi => hb.block i (H.lt t8 i hi)
  have hB9 := below_step hB8 hb
  clear hb hB8 t8
  go_wp2_with fail
  refine (H.nilLog _).mono ?_
  rintro e w10 ⟨rfl, hb⟩
  have t10 := H.keep t9 fun i hi => hb.block i (H.lt t9 i hi)
  have hB10 := below_step hB9 hb
  clear hb hB9 t9
  go_wp2_with fail
  refine (H.nilSynced _).mono ?_
  rintro e w11 ⟨rfl, hb⟩
  have t11 := H.keep t10 fun i hi => hb.block i (H.lt t10 i hi)
  have hB11 := below_step hB10 hb
  clear hb hB10 t10
  go_wp2_with fail
  refine (H.nilFree _).mono ?_
  rintro e w12 ⟨rfl, hb⟩
  have t12 := H.keep t11 fun i hi => hb.block i (H.lt t11 i hi)
  have hB12 := below_step hB11 hb
  clear hb hB11 t11
  go_wp2_with fail
  refine (H.nilCopy _).mono ?_
  rintro e w13 ⟨rfl, hb⟩
  have t13 := H.keep t12 fun i hi => hb.block i (H.lt t12 i hi)
  have hB13 := below_step hB12 hb
  clear hb hB12 t12
  go_wp2_with fail
  refine (H.log b T _ _ t13 HK.out (by have := HZ.out; have := H.most_ge; simp only; omega)).mono ?_
  simp only [nil_app]
  rintro e w14 ⟨rfl, hb⟩
  have t14 := H.keep t13 fun i hi => hb.block i (H.lt t13 i hi)
  have hB14 := below_step hB13 hb
  clear hb hB13 t13
  go_wp2_with fail
  refine (H.free b T _ _ t14 HK.out (by have := HZ.out; have := H.most_ge; simp only; omega)).mono ?_
  rw [E3.out]
  rintro e w15 ⟨rfl, hb⟩
  have hB15 := below_step hB14 hb
  clear hb hB14 t14
  go_wp2_with fail
  refine (H.new (-1) _ (by unfold IsI64; omega)).mono ?_
  rintro e w16 ⟨c, S2, rfl, r16, _, hb⟩
  rw [X2.out] at r16
  have hB16 := below_step hB15 hb
  clear hb hB15
  go_wp2_with fail
  refine (H.free c S2 _ _ r16 HK2.out (by have := HZ.out; have := H.most_ge; simp only; omega)).mono ?_
  rw [E2.out]
  rintro e w17 ⟨rfl, hb⟩
  have hB17 := below_step hB16 hb
  clear hb hB16 r16
  go_wp2_with fail
  go_ret
  exact ⟨rfl, hB17⟩

theorem walk0 (H : DiskHave) (s : ByteArray) (keep : Int) (w0 : s.size ≤ maxLen) (_w1 : (Lit.int .i64 keep).wf = true) (w : World) :
    Calls Try.prog 6 #[.string s, .int .i64 keep] w fun e w' => e = .returned (.bool true) ∧ Below w.heap.size w w' := by
  unfold maxLen at w0
  by_cases h0 : 300 < s.size
  · exact long H s keep (by omega) h0 w
  · exact core H s keep h0 w

end Go.Proofs.Ytgbfgjhaglmklaa.lawDiskNobody
