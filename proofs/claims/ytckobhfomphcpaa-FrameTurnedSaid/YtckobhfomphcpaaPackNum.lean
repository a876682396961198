/-
  The walk of pack.Num.
-/
import Derived.Test.YtckobhfomphcpaaPackMath
import Derived.Test.YtckobhfomphcpaaBytes
namespace Go.Proofs.Ytckobhfomphcpaa
open Go.RowKit PackMath

/-- What the loop's relation says. -/
def NumRel (n : Nat) (w : World) (m v : Value) (wr : World) : Prop :=
  ∃ (k f : Nat) (xs : List UInt8), m = .int .u64 (k : Int) ∧ IsU64 k ∧ NumLeft n xs k f ∧ wr.ownsRow w.heap.size 5 1 v xs.length (xs.map bcell) ∧ Below w.heap.size w wr

theorem numRel_step {n k f : Nat} {xs : List UInt8} {w w1 : World} {v : Value} (hk : IsU64 k) (hL : NumLeft n xs k f) (h128 : 128 ≤ k)
    (hown : w1.ownsRow w.heap.size 5 1 v (xs.length + 1) (xs.map bcell ++ [.int .u8 ((k : Int) % 128 + 128)])) (hb : Below w.heap.size w w1) :
    NumRel n w (.int .u64 ((k / 128 : Nat) : Int)) v w1 := by
  obtain ⟨g, rfl, hL'⟩ := left_step _ _ _ _ hL h128
  refine ⟨k / 128, g, _, rfl, hk.of_le (Nat.div_le_self _ _), hL', ?_, hb⟩
  have e : (xs ++ [UInt8.ofNat (128 + k % 128)]).map bcell = xs.map bcell ++ [.int .u8 ((k : Int) % 128 + 128)] := by
    rw [List.map_append, List.map_cons, List.map_nil, bcell, toNat_high]
  rw [e, List.length_append]
  exact hown

set_option maxRecDepth 100000 in
set_option maxHeartbeats 400000 in
theorem num_any (n : Nat) (hn : IsU64 n) (w : World) :
    Calls Try.prog 26 #[.int .u64 n] w fun e w' => e = .returned (.string ⟨(numL n).toArray⟩) ∧ Below w.heap.size w w' := by
  obtain ⟨i0, hi0, hz0, hz1, hz2⟩ := info_parts u8_info
  go_enter Try.func26, Try.ntmps26
  go_wp2_with fail
  go_loopw [0, 3] (fun m v wr => NumRel n w m v wr) (fun m _ _ => (intOf m).toNat)
  case atStart => exact ⟨n, 9, [], rfl, hn, left_start n hn, World.ownsRow_nil _ _ _ _, Below.refl _ _⟩
  case round =>
    obtain ⟨k, f, xs, rfl, hk, hL, hown, hb⟩ := hrel
    have hlen := left_len _ _ _ _ hL
    have HL := Lib.hid hL
    have HK := Lib.hid hk
    clear hL hk
    by_cases hlt : 128 ≤ k
    · have hq := Lib.hid (HK.out.quo 128)
      have hm : xs.length + 1 ≤ maxLen := by unfold maxLen; omega
      go_wp2_with (at_builtin; refine wpList_append_own _ rfl (.tmp 6) (.tmp 11) 43 rfl w.heap.size 5 i0 _ 1 1 Try.underlying43 hi0 hz0 hz1 hz2 rfl (by decide) _ _ _ rfl (hown.alloc _) ⟨wr.heap.size, 0, none⟩ 1 1 [.int .u8 ((k : Int) % 128 + 128)] rfl rfl (cell_one_new _ _ _) (one_cell _ _) hm (by omega) (by simp; exact Nat.le_succ_of_le hb.size) ?_; intro v1 w1 hown1 hg1 _)
      go_roundw
      case rel => rw [show IntKind.u64.wrap ((k : Int) / 128) = ((k / 128 : Nat) : Int) from hq.out]; exact numRel_step HK.out HL.out hlt hown1 ((hb.alloc hb.size _).grown hg1 (by simp; exact Nat.le_succ_of_le hb.size) (fun q hq => ((hown.lt q hq).1)))
      case measure => rw [show IntKind.u64.wrap ((k : Int) / 128) = ((k / 128 : Nat) : Int) from hq.out]; simp [intOf]; omega
    · have hm : xs.length + 1 ≤ maxLen := by unfold maxLen; omega
      go_wp2_with (at_builtin; refine wpList_append_own _ rfl (.tmp 15) (.tmp 18) 43 rfl w.heap.size 5 i0 _ 1 1 Try.underlying43 hi0 hz0 hz1 hz2 rfl (by decide) _ _ _ rfl (hown.alloc _) ⟨wr.heap.size, 0, none⟩ 1 1 [.int .u8 (k : Int)] rfl rfl (cell_one_new _ _ _) (one_cell _ _) hm (by omega) (by simp; exact Nat.le_succ_of_le hb.size) ?_; intro v1 w1 hown1 hg1 _; have hcv := conv_own (xs := xs ++ [UInt8.ofNat k]) (by rw [List.map_append, List.map_cons, List.map_nil, bcell, toNat_low k (by omega)]; exact hown1) (Nat.succ_pos _))
      go_ret
      exact ⟨by rw [← left_end n xs k f HL.out (by omega)]; rfl, (hb.alloc hb.size _).grown hg1 (by simp; exact Nat.le_succ_of_le hb.size) (fun q hq => ((hown.lt q hq).1))⟩

end Go.Proofs.Ytckobhfomphcpaa
