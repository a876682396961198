/-
  A number below 128 has one byte; seven bits more have one byte more; a number and its opposite, less one, have as many bytes; and a number of eight bits has one byte, or two: for every number of 64 bits and every number of eight.
-/
import Derived.Test.YthaihblogfefnaaPackShown
import Derived.ProofKit
import Derived.OpenShut
namespace Go.Proofs.Ythaihblogfefnaa.lawPackSizes
open Go.RowKit PackMath

set_option maxRecDepth 100000 in
set_option maxHeartbeats 800000 in
theorem walk0 (n k : Nat) (hn : IsU64 n) (hk : k < 256) (w : World) :
    Calls Try.prog 6 #[.int .u64 n, .int .u8 k] w fun e w' => e = .returned (.bool true) ∧ Below w.heap.size w w' := by
  have HN := Lib.hid hn
  have hN : (n : Int) ≤ 18446744073709551615 := by unfold IsU64 at hn; omega
  clear hn
  have hp1 := (numL_length (n / 128)).1
  have hp2 := (numL_length (n / 128)).2
  have hP : ((numL (2 * (n / 2))).length : Int) = ((numL (2 * (n / 2) + 1)).length : Int) := by rw [numL_len_pair]
  have hK : ((numL k).length : Int) = 1 + (k : Int) / 128 := by rw [numL_len_u8 hk]; omega
  have HK := Lib.hid hK
  have HP := Lib.hid hP
  clear hK hP
  have hA : ((decide ((n : Int) < 128) = true ∧ ((numL n).length : Int) = 1) ∨ (decide ((n : Int) < 128) = false ∧ ((numL n).length : Int) = ((numL (n / 128)).length : Int) + 1)) := by
    by_cases h : n < 128
    · exact Or.inl ⟨by simp; omega, by rw [numL_len_small h]; rfl⟩
    · exact Or.inr ⟨by simp; omega, by rw [numL_len_big HN.out (by omega)]; rfl⟩
  have hT : (((numL (n / 128)).length : Int) + 1 == 1) = false := by rw [beq_eq_false_iff_ne]; omega
  rcases hA with ⟨h, hA⟩ | ⟨h, hA⟩
  all_goals
    go_enter Try.func6, Try.ntmps6
    go_wp2_with fail
    refine (shown_any _).mono ?_
    rintro e w1 ⟨rfl, hb1⟩
    go_wp2_with fail
    refine (num_any _ HN.out _).mono ?_
    rintro e w2 ⟨rfl, hb2⟩
    go_wp2_with fail
    rw [show ((n : Int) / 128) = ((n / 128 : Nat) : Int) from by omega]
    refine (num_any _ (HN.out.of_le (Nat.div_le_self _ _)) _).mono ?_
    rintro e w3 ⟨rfl, hb3⟩
    go_wp2_with fail
    rw [show ((n : Int) / 2) = ((n / 2 : Nat) : Int) from by omega]
    refine (int_any _ (half_i64 HN.out) _).mono ?_
    rintro e w4 ⟨rfl, hb4⟩
    rw [zig_nat]
    go_wp2_with fail
    rw [show -((n : Int) / 2) - 1 = -((n / 2 : Nat) : Int) - 1 from by omega]
    refine (int_any _ (half_i64' HN.out) _).mono ?_
    rintro e w5 ⟨rfl, hb5⟩
    rw [zig_opp]
    have hP := HP.out
    go_wp2_with fail
    clear hP
    refine (num_any _ (IsU64.small (by omega)) _).mono ?_
    rintro e w6 ⟨rfl, hb6⟩
    have hK := HK.out
    go_wp2_with fail
    go_ret
    exact ⟨rfl, hb1.trans ((hb2.trans ((hb3.trans ((hb4.trans ((hb5.trans (hb6.mono hb5.size)).mono hb4.size)).mono hb3.size)).mono hb2.size)).mono hb1.size)⟩

theorem walk (a0 a1 : Int) (w0 : (Lit.int .u64 a0).wf = true) (w1 : (Lit.int .u8 a1).wf = true) (w : World) :
    Calls Try.prog 6 #[.int .u64 a0, .int .u8 a1] w fun e w' => e = .returned (.bool true) ∧ Below w.heap.size w w' := by
  have h0 := bounds_u64 w0
  have h1 := bounds_u8 w1
  obtain ⟨n, rfl⟩ := Int.eq_ofNat_of_zero_le h0.1
  obtain ⟨k, rfl⟩ := Int.eq_ofNat_of_zero_le h1.1
  exact walk0 n k (by unfold IsU64; omega) (by omega) w
end Go.Proofs.Ythaihblogfefnaa.lawPackSizes

namespace Go.Proofs.Ythaihblogfefnaa.lawPackSizes
open Go.ChangeShapes Go.WideShapes Go.ChangeAt Go.RowKit
open Go.ChangeMaps (open_string shut_string)

theorem own : ownKnob Try.prog.godebug = none := by kernel_rfl

set_option maxRecDepth 100000 in
theorem lifted (os : Os) (started : os.Started) (H : Type) (enc : TypeId × Value → H) :
    ReturnsInHanded {} Try.checked os 6 .any (Rows.packSizesSpec.pre6 enc Try.prog Try.f6 Rows.packSizesRow.domain false) (Rows.packSizesSpec.post enc Try.prog Try.f6 false true false false) := by
  refine returnsInHanded_of_change (C := Try.checked) own started (by kernel_rfl) Try.func6
    (ChangeSpec.witness6 (enc := enc) (C := Try.checked) false ⟨#[], #[.int .u64 0, .int .u8 0], []⟩ 8 (by kernel_rfl) (by kernel_rfl) (by kernel_rfl) (by kernel_rfl)) ?_
  intro W base args ds gs before hval0 hW hcnd _
  have hval : ∀ (j : Nat) t v, Try.f6.params[j]? = some t → args[j]? = some v → Value.okWide Try.prog W .any base t v := hval0
  have hW' := hW
  obtain ⟨p, q, hA0, hV, rfl, hfz, hnd⟩ := hW
  have hA : DataW.TrodAll enc Try.prog W 0 (fun _ => true) true Try.f6.params.toList args.toList ds p := hA0
  rw [Try.params6] at hA hval
  obtain ⟨v0, vs0, d0, ds0, p0, q0, hargs, rfl, rfl, h0, r0⟩ := trodAll_cons hA
  obtain ⟨v1, vs1, d1, ds1, p1, q1, rfl, rfl, rfl, h1, r1⟩ := trodAll_cons r0
  obtain ⟨rfl, rfl, rfl⟩ := trodAll_nil r1
  obtain rfl : args = #[v0, v1] := by cases args; simp_all
  obtain ⟨rfl, rfl⟩ := trodVars_none hV
  obtain ⟨a0, rfl, rfl, rfl, w0⟩ := open_int Try.underlying22 (hval 0 22 v0 rfl rfl) h0
  obtain ⟨a1, rfl, rfl, rfl, w1⟩ := open_int Try.underlying5 (hval 1 5 v1 rfl rfl) h1
  clear hA0 hval0
  simp only [List.append_nil] at hW'
  refine (walk a0 a1 w0 w1 W).mono fun e W' ⟨he, hb⟩ => ?_
  subst he
  exact ⟨_, rfl, _, _, _, [], _, [], hW', trodAll_mk1 (shut_bool Try.underlying4 _), (trodAll_cons_mk (shut_int Try.underlying22 w0) (trodAll_cons_mk (shut_int Try.underlying5 w1) trodAll_mk0)), rfl, hb.frame _, fun h => by cases h⟩

theorem proved : Rows.PackSizesSaid :=
  OpenClaim.holds_of_wide 6 Try.f6 rfl rfl rfl rfl rfl rfl rfl ⟨rfl, rfl, rfl, rfl, rfl⟩ rfl rfl rfl rfl rfl (by kernel_rfl) Try.func6 (by kernel_rfl)
    (of_decide_eq_true (by kernel_rfl)) (by unfold Func.isWrapper; first | (rw [if_pos (by decide +kernel)]; kernel_rfl) | (rw [if_neg (by decide +kernel)]; exact ⟨rfl, rfl⟩))
    (fun os started H enc _ => lifted os started H enc)
#print axioms proved
end Go.Proofs.Ythaihblogfefnaa.lawPackSizes
