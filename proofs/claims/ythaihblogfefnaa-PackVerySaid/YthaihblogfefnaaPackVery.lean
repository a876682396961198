/-
  What is taken has the very bytes: packed again, with what is behind, it is the string; what is not taken tells nothing: for every string of 2000 bytes at most, and whatever most is; longer strings are let go.
-/
import Derived.Test.YthaihblogfefnaaPackShown
import Derived.Test.YthaihblogfefnaaPackTakeInt
import Derived.ProofKit
import Derived.OpenShut
namespace Go.Proofs.Ythaihblogfefnaa.lawPackVery
open Go.RowKit PackMath

set_option maxRecDepth 100000 in
set_option maxHeartbeats 400000 in
theorem long (s : ByteArray) (most : Int) (h : 2000 < s.size) (hs : s.size ≤ maxLen) (w : World) :
    Calls Try.prog 5 #[.string s, .int .i64 most] w fun e w' => e = .returned (.bool true) ∧ Below w.heap.size w w' := by
  unfold maxLen at hs
  go_enter Try.func5, Try.ntmps5
  go_wp2_with fail
  refine (shown_any _).mono ?_
  rintro e w1 ⟨rfl, hb1⟩
  go_wp2_with fail
  go_ret
  exact ⟨rfl, hb1⟩

theorem text_none (s : ByteArray) (hs : s.size ≤ 5000) (most : Int) (hmost : IsI64 most) (h : textL s.data.toList most = none) (w : World) :
    Calls Try.prog 12 #[.string s, .int .i64 most] w fun e w' => e = .returned (.tuple #[.string ⟨#[]⟩, .string ⟨#[]⟩, .int .i64 2]) ∧ Below w.heap.size w w' :=
  (takeText_any s hs most hmost w).mono fun _ _ ⟨he, hb⟩ => ⟨by rw [he, h]; rfl, hb⟩

theorem text_some (s : ByteArray) (hs : s.size ≤ 5000) (most : Int) (hmost : IsI64 most) (a b : List UInt8) (h : textL s.data.toList most = some (a, b)) (w : World) :
    Calls Try.prog 12 #[.string s, .int .i64 most] w fun e w' => e = .returned (.tuple #[.string ⟨a.toArray⟩, .string ⟨b.toArray⟩, .int .i64 0]) ∧ Below w.heap.size w w' :=
  (takeText_any s hs most hmost w).mono fun _ _ ⟨he, hb⟩ => ⟨by rw [he, h]; rfl, hb⟩

theorem mk_self (s : ByteArray) : (⟨s.data.toList.toArray⟩ : ByteArray) = s := Lib.mk_data s

set_option maxRecDepth 100000 in
set_option maxHeartbeats 800000 in
theorem none_ (s : ByteArray) (most : Int) (hm : IsI64 most) (hs : s.size ≤ 2000) (h : takeL s.data.toList = none) (w : World) :
    Calls Try.prog 5 #[.string s, .int .i64 most] w fun e w' => e = .returned (.bool true) ∧ Below w.heap.size w w' := by
  have H := Lib.hid h
  have HM := Lib.hid hm
  clear h hm
  go_enter Try.func5, Try.ntmps5
  go_wp2_with fail
  refine (shown_any _).mono ?_
  rintro e w1 ⟨rfl, hb1⟩
  go_wp2_with fail
  refine (take_none s (by omega) H.out _).mono ?_
  rintro e w2 ⟨rfl, hb2⟩
  go_wp2_with fail
  refine (takeInt_none s (by omega) H.out _).mono ?_
  rintro e w3 ⟨rfl, hb3⟩
  go_wp2_with fail
  refine (text_none s (by omega) most HM.out (textL_none H.out) _).mono ?_
  rintro e w4 ⟨rfl, hb4⟩
  go_wp2_with fail
  go_ret
  exact ⟨rfl, below_step hb1 (below_step hb2 (below_step hb3 hb4))⟩

set_option maxRecDepth 100000 in
set_option maxHeartbeats 800000 in
theorem some_ (s : ByteArray) (most : Int) (hm : IsI64 most) (hs : s.size ≤ 2000) (m : Nat) (t : List UInt8) (h : takeL s.data.toList = some (m, t)) (ht : textL s.data.toList most = none) (w : World) :
    Calls Try.prog 5 #[.string s, .int .i64 most] w fun e w' => e = .returned (.bool true) ∧ Below w.heap.size w w' := by
  have hu := takeL_u64 h
  have hE : (⟨(numL m).toArray⟩ : ByteArray) ++ ⟨t.toArray⟩ = s := by
    rw [mk_append_data]
    show (⟨(numL m ++ t).toArray⟩ : ByteArray) = s
    rw [numL_takeL h, mk_self]
  have H := Lib.hid h
  have HM := Lib.hid hm
  have HT := Lib.hid ht
  have HU := Lib.hid hu
  have HE := Lib.hid hE
  have hl1 := (numL_length m).2
  have hl2 : t.length ≤ s.size := by have := takeL_len h; simpa using this
  clear h hm ht hu hE
  go_enter Try.func5, Try.ntmps5
  go_wp2_with fail
  refine (shown_any _).mono ?_
  rintro e w1 ⟨rfl, hb1⟩
  go_wp2_with fail
  refine (take_some s (by omega) m t H.out _).mono ?_
  rintro e w2 ⟨rfl, hb2⟩
  go_wp2_with fail
  refine (takeInt_some s (by omega) m t H.out _).mono ?_
  rintro e w3 ⟨rfl, hb3⟩
  go_wp2_with fail
  refine (text_none s (by omega) most HM.out HT.out _).mono ?_
  rintro e w4 ⟨rfl, hb4⟩
  go_wp2_with fail
  refine (num_any m HU.out _).mono ?_
  rintro e w5 ⟨rfl, hb5⟩
  have hE := HE.out
  go_wp2_with fail
  clear hE
  refine (int_any _ (unzig_i64 HU.out) _).mono ?_
  rintro e w6 ⟨rfl, hb6⟩
  rw [zig_unzig]
  have hE := HE.out
  go_wp2_with fail
  go_ret
  exact ⟨rfl, below_step hb1 (below_step hb2 (below_step hb3 (below_step hb4 (below_step hb5 hb6))))⟩

set_option maxRecDepth 100000 in
set_option maxHeartbeats 800000 in
theorem both (s : ByteArray) (most : Int) (hm : IsI64 most) (hs : s.size ≤ 2000) (m : Nat) (t a b : List UInt8) (h : takeL s.data.toList = some (m, t)) (ht : textL s.data.toList most = some (a, b)) (w : World) :
    Calls Try.prog 5 #[.string s, .int .i64 most] w fun e w' => e = .returned (.bool true) ∧ Below w.heap.size w w' := by
  have hu := takeL_u64 h
  have hE : (⟨(numL m).toArray⟩ : ByteArray) ++ ⟨t.toArray⟩ = s := by
    rw [mk_append_data]
    show (⟨(numL m ++ t).toArray⟩ : ByteArray) = s
    rw [numL_takeL h, mk_self]
  obtain ⟨h1, h2, h3⟩ := text_textL ht
  have hF : (⟨(numL a.length ++ a).toArray⟩ : ByteArray) ++ ⟨b.toArray⟩ = s := by
    rw [mk_append_data]
    show (⟨(numL a.length ++ a ++ b).toArray⟩ : ByteArray) = s
    rw [h1, mk_self]
  have hl3 : a.length ≤ s.size := by simpa using h3
  have hl4 : b.length ≤ s.size := by
    have : (numL a.length ++ a ++ b).length = s.data.toList.length := by rw [h1]
    simp at this
    omega
  have H := Lib.hid h
  have HM := Lib.hid hm
  have HT := Lib.hid ht
  have HU := Lib.hid hu
  have HE := Lib.hid hE
  have HF := Lib.hid hF
  have hl1 := (numL_length m).2
  have hl5 := (numL_length a.length).2
  have hl2 : t.length ≤ s.size := by have := takeL_len h; simpa using this
  clear h hm ht hu hE hF h1 h3
  go_enter Try.func5, Try.ntmps5
  go_wp2_with fail
  refine (shown_any _).mono ?_
  rintro e w1 ⟨rfl, hb1⟩
  go_wp2_with fail
  refine (take_some s (by omega) m t H.out _).mono ?_
  rintro e w2 ⟨rfl, hb2⟩
  go_wp2_with fail
  refine (takeInt_some s (by omega) m t H.out _).mono ?_
  rintro e w3 ⟨rfl, hb3⟩
  go_wp2_with fail
  refine (text_some s (by omega) most HM.out a b HT.out _).mono ?_
  rintro e w4 ⟨rfl, hb4⟩
  go_wp2_with fail
  refine (num_any m HU.out _).mono ?_
  rintro e w5 ⟨rfl, hb5⟩
  have hE := HE.out
  go_wp2_with fail
  clear hE
  refine (int_any _ (unzig_i64 HU.out) _).mono ?_
  rintro e w6 ⟨rfl, hb6⟩
  rw [zig_unzig]
  have hE := HE.out
  go_wp2_with fail
  clear hE
  refine (text_any ⟨a.toArray⟩ (by show a.length ≤ 4000; omega) _).mono ?_
  rintro e w7 ⟨rfl, hb7⟩
  rw [show (⟨a.toArray⟩ : ByteArray).size = a.length from rfl]
  have hF := HF.out
  go_wp2_with fail
  go_ret
  exact ⟨rfl, below_step hb1 (below_step hb2 (below_step hb3 (below_step hb4 (below_step hb5 (below_step hb6 hb7)))))⟩

theorem walk (a0 : ByteArray) (a1 : Int) (w0 : a0.size ≤ maxLen) (w1 : (Lit.int .i64 a1).wf = true) (w : World) :
    Calls Try.prog 5 #[.string a0, .int .i64 a1] w fun e w' => e = .returned (.bool true) ∧ Below w.heap.size w w' := by
  have h1 : IsI64 a1 := bounds_i64 w1
  by_cases h : 2000 < a0.size
  · exact long a0 a1 h w0 w
  · have hs : a0.size ≤ 2000 := by omega
    cases hx : takeL a0.data.toList with
    | none => exact none_ a0 a1 h1 hs hx w
    | some x =>
      cases hy : textL a0.data.toList a1 with
      | none => exact some_ a0 a1 h1 hs x.1 x.2 hx hy w
      | some y => exact both a0 a1 h1 hs x.1 x.2 y.1 y.2 hx hy w
end Go.Proofs.Ythaihblogfefnaa.lawPackVery

namespace Go.Proofs.Ythaihblogfefnaa.lawPackVery
open Go.ChangeShapes Go.WideShapes Go.ChangeAt Go.RowKit
open Go.ChangeMaps (open_string shut_string)

theorem own : ownKnob Try.prog.godebug = none := by kernel_rfl

set_option maxRecDepth 100000 in
theorem lifted (os : Os) (started : os.Started) (H : Type) (enc : TypeId × Value → H) :
    ReturnsInHanded {} Try.checked os 5 .any (Rows.packVerySpec.pre6 enc Try.prog Try.f5 Rows.packVeryRow.domain false) (Rows.packVerySpec.post enc Try.prog Try.f5 false true false false) := by
  refine returnsInHanded_of_change (C := Try.checked) own started (by kernel_rfl) Try.func5
    (ChangeSpec.witness6 (enc := enc) (C := Try.checked) false ⟨#[], #[.string ByteArray.empty, .int .i64 0], []⟩ 8 (by kernel_rfl) (by kernel_rfl) (by kernel_rfl) (by kernel_rfl)) ?_
  intro W base args ds gs before hval0 hW hcnd _
  have hval : ∀ (j : Nat) t v, Try.f5.params[j]? = some t → args[j]? = some v → Value.okWide Try.prog W .any base t v := hval0
  have hW' := hW
  obtain ⟨p, q, hA0, hV, rfl, hfz, hnd⟩ := hW
  have hA : DataW.TrodAll enc Try.prog W 0 (fun _ => true) true Try.f5.params.toList args.toList ds p := hA0
  rw [Try.params5] at hA hval
  obtain ⟨v0, vs0, d0, ds0, p0, q0, hargs, rfl, rfl, h0, r0⟩ := trodAll_cons hA
  obtain ⟨v1, vs1, d1, ds1, p1, q1, rfl, rfl, rfl, h1, r1⟩ := trodAll_cons r0
  obtain ⟨rfl, rfl, rfl⟩ := trodAll_nil r1
  obtain rfl : args = #[v0, v1] := by cases args; simp_all
  obtain ⟨rfl, rfl⟩ := trodVars_none hV
  obtain ⟨a0, rfl, rfl, rfl, w0⟩ := open_string Try.underlying9 (hval 0 9 v0 rfl rfl) h0
  obtain ⟨a1, rfl, rfl, rfl, w1⟩ := open_int Try.underlying3 (hval 1 3 v1 rfl rfl) h1
  clear hA0 hval0
  simp only [List.append_nil] at hW'
  refine (walk a0 a1 w0 w1 W).mono fun e W' ⟨he, hb⟩ => ?_
  subst he
  exact ⟨_, rfl, _, _, _, [], _, [], hW', trodAll_mk1 (shut_bool Try.underlying4 _), (trodAll_cons_mk (shut_string Try.underlying9 w0) (trodAll_cons_mk (shut_int Try.underlying3 w1) trodAll_mk0)), rfl, hb.frame _, fun h => by cases h⟩

theorem proved : Rows.PackVerySaid :=
  OpenClaim.holds_of_wide 5 Try.f5 rfl rfl rfl rfl rfl rfl rfl ⟨rfl, rfl, rfl, rfl, rfl⟩ rfl rfl rfl rfl rfl (by kernel_rfl) Try.func5 (by kernel_rfl)
    (of_decide_eq_true (by kernel_rfl)) (by unfold Func.isWrapper; first | (rw [if_pos (by decide +kernel)]; kernel_rfl) | (rw [if_neg (by decide +kernel)]; exact ⟨rfl, rfl⟩))
    (fun os started H enc _ => lifted os started H enc)
#print axioms proved
end Go.Proofs.Ythaihblogfefnaa.lawPackVery
