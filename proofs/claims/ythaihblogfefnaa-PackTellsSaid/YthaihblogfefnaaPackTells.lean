/-
  Any number and any text as bytes, and what any string begins with, are the document's: for every number of 64 bits, every most, and all strings of 2000 bytes at most; longer ones are let go.
-/
import Derived.Test.YthaihblogfefnaaPackShown
import Derived.Test.YthaihblogfefnaaPackRefInt
import Derived.ProofKit
import Derived.OpenShut
namespace Go.Proofs.Ythaihblogfefnaa.lawPackTells
open Go.RowKit PackMath

/-- 64 bits with a sign, out of 64 bits without. -/
def sg (n : Nat) : Int := if n < 9223372036854775808 then (n : Int) else (n : Int) - 18446744073709551616

theorem sg_i64 {n : Nat} (h : IsU64 n) : IsI64 (sg n) := by unfold IsU64 at h; unfold IsI64 sg; split <;> omega
theorem sg_wrap {n : Nat} (h : IsU64 n) : wrap64 (n : Int) = sg n := by unfold IsU64 at h; unfold wrap64 sg; split <;> omega

theorem both_num (s : ByteArray) (hs : s.size ≤ 2000) : ∃ (m : Int) (t : ByteArray) (e : Int), 0 ≤ e ∧ e ≤ 2 ∧
    (∀ w, Calls Try.prog 8 #[.string s] w fun r w' => r = .returned (.tuple #[.int .u64 m, .string t, .int .i64 e]) ∧ Below w.heap.size w w') ∧
    (∀ w, Calls Try.prog 9 #[.string s] w fun r w' => r = .returned (.tuple #[.int .u64 m, .string t, .int .i64 e]) ∧ Below w.heap.size w w') := by
  cases h : takeL s.data.toList with
  | none => exact ⟨0, ⟨#[]⟩, 2, by omega, by omega, take_none s (by omega) h, refTake_none s (by omega) h⟩
  | some x => exact ⟨x.1, ⟨x.2.toArray⟩, 0, by omega, by omega, take_some s (by omega) x.1 x.2 h, refTake_some s (by omega) x.1 x.2 h⟩

theorem both_int (s : ByteArray) (hs : s.size ≤ 2000) : ∃ (m : Int) (t : ByteArray) (e : Int), 0 ≤ e ∧ e ≤ 2 ∧
    (∀ w, Calls Try.prog 10 #[.string s] w fun r w' => r = .returned (.tuple #[.int .i64 m, .string t, .int .i64 e]) ∧ Below w.heap.size w w') ∧
    (∀ w, Calls Try.prog 11 #[.string s] w fun r w' => r = .returned (.tuple #[.int .i64 m, .string t, .int .i64 e]) ∧ Below w.heap.size w w') := by
  cases h : takeL s.data.toList with
  | none => exact ⟨0, ⟨#[]⟩, 2, by omega, by omega, takeInt_none s (by omega) h, refTakeInt_none s (by omega) h⟩
  | some x => exact ⟨unzig x.1, ⟨x.2.toArray⟩, 0, by omega, by omega, takeInt_some s (by omega) x.1 x.2 h, refTakeInt_some s (by omega) x.1 x.2 h⟩

theorem both_text (s : ByteArray) (hs : s.size ≤ 2000) (most : Int) (hm : IsI64 most) : ∃ (m t : ByteArray) (e : Int), 0 ≤ e ∧ e ≤ 2 ∧
    (∀ w, Calls Try.prog 12 #[.string s, .int .i64 most] w fun r w' => r = .returned (.tuple #[.string m, .string t, .int .i64 e]) ∧ Below w.heap.size w w') ∧
    (∀ w, Calls Try.prog 13 #[.string s, .int .i64 most] w fun r w' => r = .returned (.tuple #[.string m, .string t, .int .i64 e]) ∧ Below w.heap.size w w') := by
  cases h : textL s.data.toList most with
  | none =>
    exact ⟨⟨#[]⟩, ⟨#[]⟩, 2, by omega, by omega, fun w => (takeText_any s (by omega) most hm w).mono fun _ _ ⟨he, hb⟩ => ⟨by rw [he, h]; rfl, hb⟩,
      fun w => (refTakeText_any s (by omega) most hm w).mono fun _ _ ⟨he, hb⟩ => ⟨by rw [he, h]; rfl, hb⟩⟩
  | some x =>
    exact ⟨⟨x.1.toArray⟩, ⟨x.2.toArray⟩, 0, by omega, by omega, fun w => (takeText_any s (by omega) most hm w).mono fun _ _ ⟨he, hb⟩ => ⟨by rw [he, h]; rfl, hb⟩,
      fun w => (refTakeText_any s (by omega) most hm w).mono fun _ _ ⟨he, hb⟩ => ⟨by rw [he, h]; rfl, hb⟩⟩

set_option maxRecDepth 100000 in
set_option maxHeartbeats 800000 in
theorem long (n : Nat) (s t : ByteArray) (most : Int) (h : 2000 < s.size ∨ 2000 < t.size) (hs : s.size ≤ maxLen) (ht : t.size ≤ maxLen) (w : World) :
    Calls Try.prog 3 #[.int .u64 n, .string s, .string t, .int .i64 most] w fun e w' => e = .returned (.bool true) ∧ Below w.heap.size w w' := by
  unfold maxLen at hs ht
  by_cases h' : 2000 < s.size
  · go_enter Try.func3, Try.ntmps3
    go_wp2_with fail
    refine (shown_any _).mono ?_
    rintro e w1 ⟨rfl, hb1⟩
    go_wp2_with fail
    go_ret
    exact ⟨rfl, hb1⟩
  · have h2 : 2000 < t.size := by omega
    clear h
    go_enter Try.func3, Try.ntmps3
    go_wp2_with fail
    refine (shown_any _).mono ?_
    rintro e w1 ⟨rfl, hb1⟩
    go_wp2_with fail
    go_ret
    exact ⟨rfl, hb1⟩

set_option maxRecDepth 100000 in
set_option maxHeartbeats 1600000 in
theorem short (n : Nat) (hn : IsU64 n) (s t : ByteArray) (most : Int) (hm : IsI64 most) (hs : s.size ≤ 2000) (ht : t.size ≤ 2000) (w : World) :
    Calls Try.prog 3 #[.int .u64 n, .string s, .string t, .int .i64 most] w fun e w' => e = .returned (.bool true) ∧ Below w.heap.size w w' := by
  obtain ⟨a, b, e1, e11, e12, ha, ha'⟩ := both_num s hs
  obtain ⟨c, d, e2, e21, e22, hc, hc'⟩ := both_int s hs
  obtain ⟨f, g, e3, e31, e32, hf, hf'⟩ := both_text s hs most hm
  have HA := Lib.hid ha
  have HA' := Lib.hid ha'
  have HC := Lib.hid hc
  have HC' := Lib.hid hc'
  have HF := Lib.hid hf
  have HF' := Lib.hid hf'
  have HN := Lib.hid hn
  clear hn hm ha ha' hc hc' hf hf'
  go_enter Try.func3, Try.ntmps3
  go_wp2_with fail
  refine (shown_any _).mono ?_
  rintro e w1 ⟨rfl, hb1⟩
  go_wp2_with fail
  refine (HA.out _).mono ?_
  rintro e w2 ⟨rfl, hb2⟩
  go_wp2_with fail
  refine (HA'.out _).mono ?_
  rintro e w3 ⟨rfl, hb3⟩
  go_wp2_with fail
  refine (HC.out _).mono ?_
  rintro e w4 ⟨rfl, hb4⟩
  go_wp2_with fail
  refine (HC'.out _).mono ?_
  rintro e w5 ⟨rfl, hb5⟩
  go_wp2_with fail
  refine (HF.out _).mono ?_
  rintro e w6 ⟨rfl, hb6⟩
  go_wp2_with fail
  refine (HF'.out _).mono ?_
  rintro e w7 ⟨rfl, hb7⟩
  go_wp2_with fail
  refine (num_any n HN.out _).mono ?_
  rintro e w8 ⟨rfl, hb8⟩
  go_wp2_with fail
  refine (refNum n HN.out _).mono ?_
  rintro e w9 ⟨rfl, hb9⟩
  have hsg := sg_wrap HN.out
  go_wp2_with fail
  refine (int_any _ (sg_i64 HN.out) _).mono ?_
  rintro e w10 ⟨rfl, hb10⟩
  go_wp2_with fail
  refine (refInt _ (sg_i64 HN.out) _).mono ?_
  rintro e w11 ⟨rfl, hb11⟩
  go_wp2_with fail
  refine (text_any t (by omega) _).mono ?_
  rintro e w12 ⟨rfl, hb12⟩
  go_wp2_with fail
  refine (refText t (by omega) _).mono ?_
  rintro e w13 ⟨rfl, hb13⟩
  go_wp2_with fail
  go_ret
  exact ⟨rfl, below_step hb1 (below_step hb2 (below_step hb3 (below_step hb4 (below_step hb5 (below_step hb6 (below_step hb7 (below_step hb8 (below_step hb9 (below_step hb10 (below_step hb11 (below_step hb12 hb13)))))))))))⟩

theorem walk (a0 : Int) (a1 a2 : ByteArray) (a3 : Int) (w0 : (Lit.int .u64 a0).wf = true) (w1 : a1.size ≤ maxLen) (w2 : a2.size ≤ maxLen) (w3 : (Lit.int .i64 a3).wf = true) (w : World) :
    Calls Try.prog 3 #[.int .u64 a0, .string a1, .string a2, .int .i64 a3] w fun e w' => e = .returned (.bool true) ∧ Below w.heap.size w w' := by
  have h0 := bounds_u64 w0
  have h3 : IsI64 a3 := bounds_i64 w3
  obtain ⟨n, rfl⟩ := Int.eq_ofNat_of_zero_le h0.1
  by_cases h : 2000 < a1.size ∨ 2000 < a2.size
  · exact long n a1 a2 a3 h w1 w2 w
  · exact short n (by unfold IsU64; omega) a1 a2 a3 h3 (by omega) (by omega) w
end Go.Proofs.Ythaihblogfefnaa.lawPackTells

namespace Go.Proofs.Ythaihblogfefnaa.lawPackTells
open Go.ChangeShapes Go.WideShapes Go.ChangeAt Go.RowKit
open Go.ChangeMaps (open_string shut_string)

theorem own : ownKnob Try.prog.godebug = none := by kernel_rfl

set_option maxRecDepth 100000 in
theorem lifted (os : Os) (started : os.Started) (H : Type) (enc : TypeId × Value → H) :
    ReturnsInHanded {} Try.checked os 3 .any (Rows.packTellsSpec.pre6 enc Try.prog Try.f3 Rows.packTellsRow.domain false) (Rows.packTellsSpec.post enc Try.prog Try.f3 false true false false) := by
  refine returnsInHanded_of_change (C := Try.checked) own started (by kernel_rfl) Try.func3
    (ChangeSpec.witness6 (enc := enc) (C := Try.checked) false ⟨#[], #[.int .u64 0, .string ByteArray.empty, .string ByteArray.empty, .int .i64 0], []⟩ 8 (by kernel_rfl) (by kernel_rfl) (by kernel_rfl) (by kernel_rfl)) ?_
  intro W base args ds gs before hval0 hW hcnd _
  have hval : ∀ (j : Nat) t v, Try.f3.params[j]? = some t → args[j]? = some v → Value.okWide Try.prog W .any base t v := hval0
  have hW' := hW
  obtain ⟨p, q, hA0, hV, rfl, hfz, hnd⟩ := hW
  have hA : DataW.TrodAll enc Try.prog W 0 (fun _ => true) true Try.f3.params.toList args.toList ds p := hA0
  rw [Try.params3] at hA hval
  obtain ⟨v0, vs0, d0, ds0, p0, q0, hargs, rfl, rfl, h0, r0⟩ := trodAll_cons hA
  obtain ⟨v1, vs1, d1, ds1, p1, q1, rfl, rfl, rfl, h1, r1⟩ := trodAll_cons r0
  obtain ⟨v2, vs2, d2, ds2, p2, q2, rfl, rfl, rfl, h2, r2⟩ := trodAll_cons r1
  obtain ⟨v3, vs3, d3, ds3, p3, q3, rfl, rfl, rfl, h3, r3⟩ := trodAll_cons r2
  obtain ⟨rfl, rfl, rfl⟩ := trodAll_nil r3
  obtain rfl : args = #[v0, v1, v2, v3] := by cases args; simp_all
  obtain ⟨rfl, rfl⟩ := trodVars_none hV
  obtain ⟨a0, rfl, rfl, rfl, w0⟩ := open_int Try.underlying22 (hval 0 22 v0 rfl rfl) h0
  obtain ⟨a1, rfl, rfl, rfl, w1⟩ := open_string Try.underlying9 (hval 1 9 v1 rfl rfl) h1
  obtain ⟨a2, rfl, rfl, rfl, w2⟩ := open_string Try.underlying9 (hval 2 9 v2 rfl rfl) h2
  obtain ⟨a3, rfl, rfl, rfl, w3⟩ := open_int Try.underlying3 (hval 3 3 v3 rfl rfl) h3
  clear hA0 hval0
  simp only [List.append_nil] at hW'
  refine (walk a0 a1 a2 a3 w0 w1 w2 w3 W).mono fun e W' ⟨he, hb⟩ => ?_
  subst he
  exact ⟨_, rfl, _, _, _, [], _, [], hW', trodAll_mk1 (shut_bool Try.underlying4 _), (trodAll_cons_mk (shut_int Try.underlying22 w0) (trodAll_cons_mk (shut_string Try.underlying9 w1) (trodAll_cons_mk (shut_string Try.underlying9 w2) (trodAll_cons_mk (shut_int Try.underlying3 w3) trodAll_mk0)))), rfl, hb.frame _, fun h => by cases h⟩

theorem proved : Rows.PackTellsSaid :=
  OpenClaim.holds_of_wide 3 Try.f3 rfl rfl rfl rfl rfl rfl rfl ⟨rfl, rfl, rfl, rfl, rfl⟩ rfl rfl rfl rfl rfl (by kernel_rfl) Try.func3 (by kernel_rfl)
    (of_decide_eq_true (by kernel_rfl)) (by unfold Func.isWrapper; first | (rw [if_pos (by decide +kernel)]; kernel_rfl) | (rw [if_neg (by decide +kernel)]; exact ⟨rfl, rfl⟩))
    (fun os started H enc _ => lifted os started H enc)
#print axioms proved
end Go.Proofs.Ythaihblogfefnaa.lawPackTells
