/-
  The walks of the statements' own begins; small facts of strings.
-/
import Derived.Test.YtgbfgjhaglmklaaDiskHave
namespace Go.Proofs.Ytgbfgjhaglmklaa
open Go.RowKit DiskMath PackMath

theorem nil_app (s : ByteArray) : (⟨#[]⟩ : ByteArray) ++ s = s := by
  apply ByteArray.ext
  rw [ByteArray.data_append]
  simp
theorem app_nil (s : ByteArray) : s ++ (⟨#[]⟩ : ByteArray) = s := by
  apply ByteArray.ext
  rw [ByteArray.data_append]
  simp
theorem nil_cut (k : Nat) : (⟨#[]⟩ : ByteArray).extract 0 k = ⟨#[]⟩ := by rw [extract_take]; simp

theorem begin_self (s t : ByteArray) : (s ++ t).extract 0 s.size = s := by
  rw [extract_take, ByteArray.data_append]
  have e : s.data.toList.length = s.size := by simp
  rw [Array.toList_append, List.take_append_of_le_length (by omega), List.take_of_length_le (by omega), Lib.mk_data]

theorem begin_part (s t : ByteArray) (k : Nat) : (s ++ t).extract 0 (s ++ t.extract 0 k).size = s ++ t.extract 0 k := by
  have e : s.data.toList.length = s.size := by simp
  have et : t.data.toList.length = t.size := by simp
  rw [ByteArray.size_append, ByteArray.size_extract, extract_take, extract_take, ByteArray.data_append]
  rw [Array.toList_append, List.take_append]
  apply ByteArray.ext
  rw [ByteArray.data_append, List.take_of_length_le (by omega)]
  apply Array.toList_inj.1
  simp only [Array.toList_append]
  congr 1
  rw [show s.size + (min k t.size - 0) - s.data.toList.length = min k t.size by omega]
  by_cases h : k ≤ t.size
  · rw [Nat.min_eq_left h]
  · rw [Nat.min_eq_right (by omega), List.take_of_length_le (by omega), List.take_of_length_le (by omega)]

set_option maxHeartbeats 400000 in
theorem begins_yes (s t : ByteArray) (h : s.extract 0 t.size = t) (hle : t.size ≤ s.size) (w : World) :
    Calls Try.prog 25 #[.string s, .string t] w fun e w' => e = .returned (.bool true) ∧ w = w' := by
  have h1 : (t.size : Int) ≤ (s.size : Int) := by omega
  have hq : ((s.extract 0 t.size).toList == t.toList) = true := by rw [h]; exact beq_self_eq_true _
  have H := Lib.hid h
  clear h
  go_enter Try.func25, Try.ntmps25
  go_wp2_with fail
  go_ret
  exact ⟨rfl, rfl⟩

end Go.Proofs.Ytgbfgjhaglmklaa
