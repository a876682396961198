/-
  The walk of the document's own Num.
-/
import Derived.Test.YtckobhfomphcpaaPackNum
import Derived.Deep.RegionWith
import Derived.Deep.DrawnRows
namespace Go.Proofs.Ytckobhfomphcpaa
open Go.RowKit PackMath

theorem ref_value (f n : Nat) (h : 128 ≤ n) :
    Ending.returned (.string ((⟨#[128 + UInt8.ofNat (n % 128)]⟩ : ByteArray) ++ ⟨(numF f (n / 128)).toArray⟩)) = .returned (.string ⟨(numF (f + 1) n).toArray⟩) := by
  rw [numF_big f n h]
  congr 2
  apply ByteArray.ext
  rw [ByteArray.data_append]
  simp [UInt8.ofNat_add]

set_option maxRecDepth 100000 in
set_option maxHeartbeats 400000 in
theorem refNum_small (n : Nat) (hn : n < 128) (w : World) :
    Calls Try.prog 28 #[.int .u64 n] w fun e w' => e = .returned (.string ⟨[UInt8.ofNat n].toArray⟩) ∧ Below w.heap.size w w' := by
  have hcv : (convert 43 9 (.slice (some ⟨w.heap.size, 0, none⟩) 1 1)).run Try.prog (w.alloc (.cells #[.int .u8 (n : Int)] 5)) = .ok (.string ⟨[UInt8.ofNat n].toArray⟩) (w.alloc (.cells #[.int .u8 (n : Int)] 5)) :=
    conv_one _ _ _ (by rw [toNat_low n hn]; exact cell_one_new w _ _ 0 _ rfl)
  go_enter Try.func28, Try.ntmps28
  go_wp2_with fail
  go_ret
  exact ⟨rfl, (Below.refl _ _).alloc (Nat.le_refl _) _⟩

set_option maxRecDepth 100000 in
set_option maxHeartbeats 400000 in
theorem refNum_any : ∀ (f n : Nat) (w : World), f ≤ 9 → n < 2 * 128 ^ f → IsU64 n →
    Calls Try.prog 28 #[.int .u64 n] w fun e w' => e = .returned (.string ⟨(numF f n).toArray⟩) ∧ Below w.heap.size w w' := by
  intro f
  induction f with
  | zero =>
    intro n w _ h _
    rw [numF_small _ _ (by simp at h; omega)]
    exact refNum_small n (by simp at h; omega) w
  | succ f ih =>
    intro n w hf h hu
    by_cases h1 : n < 128
    · rw [numF_small _ _ h1]
      exact refNum_small n h1 w
    · have hU : IntKind.u64.wrap ((n : Int) / 128) = ((n / 128 : Nat) : Int) := hu.quo 128
      have hX : IntKind.u8.wrap (IntKind.u64.wrap (128 + (n : Int).tmod 128)) = ((UInt8.ofNat (128 + n % 128)).toNat : Int) := by
        rw [toNat_high, Int.tmod_eq_emod_of_nonneg (by omega), IntWalk.u64_in _ (by omega), IntWalk.u8_in _ (by omega)]
        omega
      have hcv : ∀ (b : Nat) (W : World), W.cell? ⟨b, 0, none⟩ = some (.int .u8 (IntKind.u8.wrap (IntKind.u64.wrap (128 + (n : Int).tmod 128)))) →
          (convert 43 9 (.slice (some ⟨b, 0, none⟩) 1 1)).run Try.prog W = .ok (.string ⟨[UInt8.ofNat (128 + n % 128)].toArray⟩) W :=
        fun b W h => conv_one b W _ (by rw [h, hX])
      have IH : Hid (∀ W : World, Calls Try.prog 28 #[.int .u64 (IntKind.u64.wrap ((n : Int) / 128))] W fun e w' => e = .returned (.string ⟨(numF f (n / 128)).toArray⟩) ∧ Below W.heap.size W w') := by
        rw [hU]
        exact fun W => ih (n / 128) W (by omega) (by rw [Nat.pow_succ] at h; omega) (hu.of_le (Nat.div_le_self _ _))
      have hl := (numF_length_le f (n / 128)).2
      clear ih h hu hU hX
      go_enter Try.func28, Try.ntmps28
      go_wp2_with fail
      go_region_with (go_at_call 28; refine (IH.out _).mono ?_; rintro e w' ⟨rfl, hb⟩; first | (have hc := cell_later hb (new_cell w _ 5)) | skip)
      all_goals
        go_wp2_with fail
        go_ret
        refine ⟨ref_value f n (by omega), ?_⟩
        first
          | exact below_alloc_call hb
          | exact below_call_alloc hb _

theorem refNum (n : Nat) (h : IsU64 n) (w : World) :
    Calls Try.prog 28 #[.int .u64 n] w fun e w' => e = .returned (.string ⟨(numL n).toArray⟩) ∧ Below w.heap.size w w' :=
  refNum_any 9 n w (by omega) (by unfold IsU64 at h; simpa using h) h

end Go.Proofs.Ytckobhfomphcpaa
