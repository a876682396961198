/-
  What was packed is taken, whatever stands behind it: for every number of 64 bits, with and without a sign, and every text; a text is not taken if fewer bytes are asked for: for all texts of 2000 bytes at most; longer ones are let go.
-/
import Derived.Test.YthaihblogfefnaaPackShown
import Derived.Test.YthaihblogfefnaaPackTakeInt
import Derived.ProofKit
import Derived.OpenShut
namespace Go.Proofs.Ythaihblogfefnaa.lawPackBack
open Go.RowKit PackMath

theorem mk_append (l : List UInt8) (s : ByteArray) : (⟨l.toArray⟩ : ByteArray) ++ s = ⟨(l ++ s.data.toList).toArray⟩ := mk_append_data l s

theorem mk_self (s : ByteArray) : (⟨s.data.toList.toArray⟩ : ByteArray) = s := Lib.mk_data s

/-- 64 bits with a sign, out of 64 bits without. -/
def sg (n : Nat) : Int := if n < 9223372036854775808 then (n : Int) else (n : Int) - 18446744073709551616

theorem sg_i64 {n : Nat} (h : IsU64 n) : IsI64 (sg n) := by unfold IsU64 at h; unfold IsI64 sg; split <;> omega
theorem sg_wrap {n : Nat} (h : IsU64 n) : wrap64 (n : Int) = sg n := by unfold IsU64 at h; unfold wrap64 sg; split <;> omega

set_option maxRecDepth 100000 in
set_option maxHeartbeats 800000 in
theorem long (n : Nat) (t s : ByteArray) (h : 2000 < s.size ∨ 2000 < t.size) (hs : s.size ≤ maxLen) (ht : t.size ≤ maxLen) (w : World) :
    Calls Try.prog 4 #[.int .u64 n, .string t, .string s] w fun e w' => e = .returned (.bool true) ∧ Below w.heap.size w w' := by
  unfold maxLen at hs ht
  rcases h with h | h
  · go_enter Try.func4, Try.ntmps4
    go_wp2_with fail
    refine (shown_any _).mono ?_
    rintro e w1 ⟨rfl, hb1⟩
    go_wp2_with fail
    go_ret
    exact ⟨rfl, hb1⟩
  · by_cases h' : 2000 < s.size
    all_goals
      go_enter Try.func4, Try.ntmps4
      go_wp2_with fail
      refine (shown_any _).mono ?_
      rintro e w1 ⟨rfl, hb1⟩
      go_wp2_with fail
      go_ret
      exact ⟨rfl, hb1⟩

theorem data_app (l : List UInt8) (s : ByteArray) : ((⟨l.toArray⟩ : ByteArray) ++ s).data.toList = l ++ s.data.toList := by rw [mk_append]
theorem size_app (l : List UInt8) (s : ByteArray) : ((⟨l.toArray⟩ : ByteArray) ++ s).size = l.length + s.size := by rw [ByteArray.size_append]; rfl

theorem back_num (n : Nat) (hn : IsU64 n) (s : ByteArray) (hs : s.size ≤ 2000) (w : World) :
    Calls Try.prog 8 #[.string ((⟨(numL n).toArray⟩ : ByteArray) ++ s)] w fun e w' => e = .returned (.tuple #[.int .u64 (n : Int), .string s, .int .i64 0]) ∧ Below w.heap.size w w' := by
  have hl := (numL_length n).2
  have h := take_some ((⟨(numL n).toArray⟩ : ByteArray) ++ s) (by rw [size_app]; omega) n s.data.toList (by rw [data_app]; exact takeL_numL n hn _) w
  rw [mk_self] at h
  exact h

theorem back_int (n : Int) (hn : IsI64 n) (s : ByteArray) (hs : s.size ≤ 2000) (w : World) :
    Calls Try.prog 10 #[.string ((⟨(numL (zig n)).toArray⟩ : ByteArray) ++ s)] w fun e w' => e = .returned (.tuple #[.int .i64 n, .string s, .int .i64 0]) ∧ Below w.heap.size w w' := by
  have hl := (numL_length (zig n)).2
  have h := takeInt_some ((⟨(numL (zig n)).toArray⟩ : ByteArray) ++ s) (by rw [size_app]; omega) (zig n) s.data.toList (by rw [data_app]; exact takeL_numL _ (zig_u64 hn) _) w
  rw [mk_self, unzig_zig] at h
  exact h

theorem back_text (t s : ByteArray) (ht : t.size ≤ 2000) (hs : s.size ≤ 2000) (w : World) :
    Calls Try.prog 12 #[.string ((⟨(numL t.size ++ t.data.toList).toArray⟩ : ByteArray) ++ s), .int .i64 (t.size : Int)] w fun e w' => e = .returned (.tuple #[.string t, .string s, .int .i64 0]) ∧ Below w.heap.size w w' := by
  have hl := (numL_length t.size).2
  have e1 : t.data.toList.length = t.size := by simp
  have h := takeText_any ((⟨(numL t.size ++ t.data.toList).toArray⟩ : ByteArray) ++ s) (by rw [size_app, List.length_append, e1]; omega) (t.size : Int) (by unfold IsI64; omega) w
  have e2 := textL_text t.data.toList s.data.toList (by omega)
  rw [e1] at e2
  rw [data_app, e2] at h
  simp only [textRes, mk_self] at h
  exact h

theorem back_short (t s : ByteArray) (ht : t.size ≤ 2000) (hs : s.size ≤ 2000) (w : World) :
    Calls Try.prog 12 #[.string ((⟨(numL t.size ++ t.data.toList).toArray⟩ : ByteArray) ++ s), .int .i64 ((t.size : Int) - 1)] w fun e w' => e = .returned (.tuple #[.string ⟨#[]⟩, .string ⟨#[]⟩, .int .i64 2]) ∧ Below w.heap.size w w' := by
  have hl := (numL_length t.size).2
  have e1 : t.data.toList.length = t.size := by simp
  have h := takeText_any ((⟨(numL t.size ++ t.data.toList).toArray⟩ : ByteArray) ++ s) (by rw [size_app, List.length_append, e1]; omega) ((t.size : Int) - 1) (by unfold IsI64; omega) w
  have e2 := textL_short t.data.toList s.data.toList (by omega)
  rw [e1] at e2
  rw [data_app, e2] at h
  exact h

set_option maxRecDepth 100000 in
set_option maxHeartbeats 800000 in
theorem short (n : Nat) (hn : IsU64 n) (t s : ByteArray) (hs : s.size ≤ 2000) (ht : t.size ≤ 2000) (w : World) :
    Calls Try.prog 4 #[.int .u64 n, .string t, .string s] w fun e w' => e = .returned (.bool true) ∧ Below w.heap.size w w' := by
  have HN := Lib.hid hn
  clear hn
  have hl1 := (numL_length n).2
  have hl2 := (numL_length (zig (sg n))).2
  have hl3 := (numL_length t.size).2
  go_enter Try.func4, Try.ntmps4
  go_wp2_with fail
  refine (shown_any _).mono ?_
  rintro e w1 ⟨rfl, hb1⟩
  go_wp2_with fail
  refine (num_any _ HN.out _).mono ?_
  rintro e w2 ⟨rfl, hb2⟩
  go_wp2_with fail
  refine (back_num n HN.out s hs _).mono ?_
  rintro e w3 ⟨rfl, hb3⟩
  have hsg := sg_wrap HN.out
  go_wp2_with fail
  refine (int_any _ (sg_i64 HN.out) _).mono ?_
  rintro e w4 ⟨rfl, hb4⟩
  go_wp2_with fail
  refine (back_int _ (sg_i64 HN.out) s hs _).mono ?_
  rintro e w5 ⟨rfl, hb5⟩
  go_wp2_with fail
  refine (text_any t (by omega) _).mono ?_
  rintro e w6 ⟨rfl, hb6⟩
  go_wp2_with fail
  refine (back_text t s ht hs _).mono ?_
  rintro e w7 ⟨rfl, hb7⟩
  go_wp2_with fail
  refine (text_any t (by omega) _).mono ?_
  rintro e w8 ⟨rfl, hb8⟩
  go_wp2_with fail
  refine (back_short t s ht hs _).mono ?_
  rintro e w9 ⟨rfl, hb9⟩
  go_wp2_with fail
  go_ret
  exact ⟨rfl, below_step hb1 (below_step hb2 (below_step hb3 (below_step hb4 (below_step hb5 (below_step hb6 (below_step hb7 (below_step hb8 hb9)))))))⟩

theorem walk (a0 : Int) (a1 a2 : ByteArray) (w0 : (Lit.int .u64 a0).wf = true) (w1 : a1.size ≤ maxLen) (w2 : a2.size ≤ maxLen) (w : World) :
    Calls Try.prog 4 #[.int .u64 a0, .string a1, .string a2] w fun e w' => e = .returned (.bool true) ∧ Below w.heap.size w w' := by
  have h0 := bounds_u64 w0
  obtain ⟨n, rfl⟩ := Int.eq_ofNat_of_zero_le h0.1
  by_cases h : 2000 < a2.size ∨ 2000 < a1.size
  · exact long n a1 a2 h w2 w1 w
  · exact short n (by unfold IsU64; omega) a1 a2 (by omega) (by omega) w
end Go.Proofs.Ythaihblogfefnaa.lawPackBack

namespace Go.Proofs.Ythaihblogfefnaa.lawPackBack
open Go.ChangeShapes Go.WideShapes Go.ChangeAt Go.RowKit
open Go.ChangeMaps (open_string shut_string)

theorem own : ownKnob Try.prog.godebug = none := by kernel_rfl

set_option maxRecDepth 100000 in
theorem lifted (os : Os) (started : os.Started) (H : Type) (enc : TypeId × Value → H) :
    ReturnsInHanded {} Try.checked os 4 .any (Rows.packBackSpec.pre6 enc Try.prog Try.f4 Rows.packBackRow.domain false) (Rows.packBackSpec.post enc Try.prog Try.f4 false true false false) := by
  refine returnsInHanded_of_change (C := Try.checked) own started (by kernel_rfl) Try.func4
    (ChangeSpec.witness6 (enc := enc) (C := Try.checked) false ⟨#[], #[.int .u64 0, .string ByteArray.empty, .string ByteArray.empty], []⟩ 8 (by kernel_rfl) (by kernel_rfl) (by kernel_rfl) (by kernel_rfl)) ?_
  intro W base args ds gs before hval0 hW hcnd _
  have hval : ∀ (j : Nat) t v, Try.f4.params[j]? = some t → args[j]? = some v → Value.okWide Try.prog W .any base t v := hval0
  have hW' := hW
  obtain ⟨p, q, hA0, hV, rfl, hfz, hnd⟩ := hW
  have hA : DataW.TrodAll enc Try.prog W 0 (fun _ => true) true Try.f4.params.toList args.toList ds p := hA0
  rw [Try.params4] at hA hval
  obtain ⟨v0, vs0, d0, ds0, p0, q0, hargs, rfl, rfl, h0, r0⟩ := trodAll_cons hA
  obtain ⟨v1, vs1, d1, ds1, p1, q1, rfl, rfl, rfl, h1, r1⟩ := trodAll_cons r0
  obtain ⟨v2, vs2, d2, ds2, p2, q2, rfl, rfl, rfl, h2, r2⟩ := trodAll_cons r1
  obtain ⟨rfl, rfl, rfl⟩ := trodAll_nil r2
  obtain rfl : args = #[v0, v1, v2] := by cases args; simp_all
  obtain ⟨rfl, rfl⟩ := trodVars_none hV
  obtain ⟨a0, rfl, rfl, rfl, w0⟩ := open_int Try.underlying22 (hval 0 22 v0 rfl rfl) h0
  obtain ⟨a1, rfl, rfl, rfl, w1⟩ := open_string Try.underlying9 (hval 1 9 v1 rfl rfl) h1
  obtain ⟨a2, rfl, rfl, rfl, w2⟩ := open_string Try.underlying9 (hval 2 9 v2 rfl rfl) h2
  clear hA0 hval0
  simp only [List.append_nil] at hW'
  refine (walk a0 a1 a2 w0 w1 w2 W).mono fun e W' ⟨he, hb⟩ => ?_
  subst he
  exact ⟨_, rfl, _, _, _, [], _, [], hW', trodAll_mk1 (shut_bool Try.underlying4 _), (trodAll_cons_mk (shut_int Try.underlying22 w0) (trodAll_cons_mk (shut_string Try.underlying9 w1) (trodAll_cons_mk (shut_string Try.underlying9 w2) trodAll_mk0))), rfl, hb.frame _, fun h => by cases h⟩

theorem proved : Rows.PackBackSaid :=
  OpenClaim.holds_of_wide 4 Try.f4 rfl rfl rfl rfl rfl rfl rfl ⟨rfl, rfl, rfl, rfl, rfl⟩ rfl rfl rfl rfl rfl (by kernel_rfl) Try.func4 (by kernel_rfl)
    (of_decide_eq_true (by kernel_rfl)) (by unfold Func.isWrapper; first | (rw [if_pos (by decide +kernel)]; kernel_rfl) | (rw [if_neg (by decide +kernel)]; exact ⟨rfl, rfl⟩))
    (fun os started H enc _ => lifted os started H enc)
#print axioms proved
end Go.Proofs.Ythaihblogfefnaa.lawPackBack
