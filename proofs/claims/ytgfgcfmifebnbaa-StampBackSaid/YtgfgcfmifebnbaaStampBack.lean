/-
  What may be is taken as it was put, whatever stands behind; what may not isn't; what is taken has the very bytes, and may be: for every stamp and every string of 2000 bytes at most; longer strings are let go.
-/
import Derived.Test.YtgfgcfmifebnbaaStampCode2
import Derived.ProofKit
import Derived.OpenShut
import Derived.Lib.SmallJoins
namespace Go.Proofs.Ytgfgcfmifebnbaa.lawStampBack
open Go.RowKit StampMath PackMath

set_option maxRecDepth 100000 in
set_option maxHeartbeats 400000 in
theorem long (H : StampHave) (t r : Int) (s : ByteArray) (h : 2000 < s.size) (hs : s.size ≤ maxLen) (w : World) :
    Calls Try.prog 6 #[.agg #[.int .i64 t, .int .i64 r], .string s] w fun e w' => e = .returned (.bool true) ∧ Below w.heap.size w w' := by
  unfold maxLen at hs
  go_enter Try.func6, Try.ntmps6
  go_wp2_with fail
  refine (H.shown _).mono ?_
  rintro e w1 ⟨rfl, hb1⟩
  go_wp2_with fail
  go_ret
  exact ⟨rfl, below_step ((Below.refl _ w).alloc (Nat.le_refl _) _) hb1⟩

set_option maxRecDepth 100000 in
set_option maxHeartbeats 1600000 in
theorem core (H : StampHave) (t r : Int) (s : ByteArray) (hs : s.size ≤ 2000) (w : World) (m : Bool)
    (A : List UInt8) (hA : A.length ≤ 20)
    (HP : Hid (∀ W : World, Calls Try.prog 18 #[.agg #[.int .i64 t, .int .i64 r]] W fun e w' => e = .returned (.string ⟨A.toArray⟩) ∧ Below W.heap.size W w'))
    (HM : Hid (∀ W : World, Calls Try.prog 14 #[.agg #[.int .i64 t, .int .i64 r]] W fun e w' => e = .returned (.bool m) ∧ Below W.heap.size W w'))
    (HT : Hid (∀ W : World, Calls Try.prog 10 #[.string ((⟨A.toArray⟩ : ByteArray) ++ s)] W fun e w' => e = .returned (if m then .tuple #[.agg #[.int .i64 t, .int .i64 r], .string s, .int .i64 0] else .tuple #[.agg #[.int .i64 0, .int .i64 0], .string ⟨#[]⟩, .int .i64 2]) ∧ Below W.heap.size W w'))
    (k : Bool) (y z : Int) (u : ByteArray) (B : List UInt8) (hB : B.length ≤ 20) (hu : u.size ≤ 2000)
    (HU : Hid (∀ W : World, Calls Try.prog 10 #[.string s] W fun e w' => e = .returned (if k then .tuple #[.agg #[.int .i64 y, .int .i64 z], .string u, .int .i64 0] else .tuple #[.agg #[.int .i64 0, .int .i64 0], .string ⟨#[]⟩, .int .i64 2]) ∧ Below W.heap.size W w'))
    (HQ : Hid (∀ W : World, Calls Try.prog 18 #[.agg #[.int .i64 y, .int .i64 z]] W fun e w' => e = .returned (.string ⟨B.toArray⟩) ∧ Below W.heap.size W w'))
    (HY : Hid (k = true → ∀ W : World, Calls Try.prog 14 #[.agg #[.int .i64 y, .int .i64 z]] W fun e w' => e = .returned (.bool true) ∧ Below W.heap.size W w'))
    (HE : Hid (k = true → (⟨B.toArray⟩ : ByteArray) ++ u = s)) :
    Calls Try.prog 6 #[.agg #[.int .i64 t, .int .i64 r], .string s] w fun e w' => e = .returned (.bool true) ∧ Below w.heap.size w w' := by
  cases m <;> cases k
  all_goals
    simp only [if_true, if_false, Bool.false_eq_true] at HT HU
    go_enter Try.func6, Try.ntmps6
    go_wp2_with fail
    refine (H.shown _).mono ?_
    rintro e w1 ⟨rfl, hb1⟩
    obtain ⟨hc1, hf1⟩ := bcell_below hb1
    have k1 : w.heap.size < w1.heap.size := by have := hb1.size; simp at this; omega
    go_wp2_with fail
    refine (HP.out _).mono ?_
    rintro e w2 ⟨rfl, hb2⟩
    obtain ⟨hc2, hf2⟩ := bcell_below hb2
    have k2 : w.heap.size < w2.heap.size := by have := hb2.size; omega
    go_wp2_with fail
    refine (HT.out _).mono ?_
    rintro e w3 ⟨rfl, hb3⟩
    obtain ⟨hc3, hf3⟩ := bcell_below hb3
    have k3 : w.heap.size < w3.heap.size := by have := hb3.size; omega
    go_wp2_with fail
    refine (HU.out _).mono ?_
    rintro e w4 ⟨rfl, hb4⟩
    obtain ⟨hc4, hf4⟩ := bcell_below hb4
    have k4 : w.heap.size < w4.heap.size := by have := hb4.size; simp at this; omega
    have l4 : w3.heap.size < w4.heap.size := by have := hb4.size; simp at this; omega
    go_wp2_with fail
    refine (HM.out _).mono ?_
    rintro e w5 ⟨rfl, hb5⟩
    obtain ⟨hc5, hf5⟩ := bcell_below hb5
    have k5 : w.heap.size < w5.heap.size := by have := hb5.size; simp at this; omega
    have l5 : w3.heap.size < w5.heap.size := by have := hb5.size; simp at this; omega
    have m5 : w4.heap.size < w5.heap.size := by have := hb5.size; simp at this; omega
    go_wp2_with fail
  all_goals
    have A3 := below_step (below_step (below_step ((Below.refl _ w).alloc (Nat.le_refl _) _) hb1) hb2) hb3
    have A4 := below_step (A3.alloc A3.size _) hb4
    have A5 := below_step (A4.alloc A4.size _) hb5
  · go_ret
    exact ⟨rfl, A5⟩
  · refine (HQ.out _).mono ?_
    rintro e w6 ⟨rfl, hb6⟩
    obtain ⟨hc6, hf6⟩ := bcell_below hb6
    have k6 : w.heap.size < w6.heap.size := by have := hb6.size; omega
    have m6 : w4.heap.size < w6.heap.size := by have := hb6.size; omega
    have hE := HE.out trivial
    go_wp2_with fail
    clear hE
    refine (HY.out trivial _).mono ?_
    rintro e w7 ⟨rfl, hb7⟩
    go_wp2_with fail
    go_ret
    exact ⟨rfl, below_step (below_step A5 hb6) hb7⟩
  · go_ret
    exact ⟨rfl, A5⟩
  · refine (HQ.out _).mono ?_
    rintro e w6 ⟨rfl, hb6⟩
    obtain ⟨hc6, hf6⟩ := bcell_below hb6
    have k6 : w.heap.size < w6.heap.size := by have := hb6.size; omega
    have m6 : w4.heap.size < w6.heap.size := by have := hb6.size; omega
    have hE := HE.out trivial
    go_wp2_with fail
    clear hE
    refine (HY.out trivial _).mono ?_
    rintro e w7 ⟨rfl, hb7⟩
    go_wp2_with fail
    go_ret
    exact ⟨rfl, below_step (below_step A5 hb6) hb7⟩

theorem mk_self (s : ByteArray) : (⟨s.data.toList.toArray⟩ : ByteArray) = s := Lib.mk_data s

theorem short (H : StampHave) (t r : Int) (ht : IsI64 t) (hr : IsI64 r) (s : ByteArray) (hs : s.size ≤ 2000) (w : World) :
    Calls Try.prog 6 #[.agg #[.int .i64 t, .int .i64 r], .string s] w fun e w' => e = .returned (.bool true) ∧ Below w.heap.size w w' := by
  have hl := putL_len t r
  have hT : ∀ W : World, Calls Try.prog 10 #[.string ((⟨(putL t r).toArray⟩ : ByteArray) ++ s)] W fun e w' => e = .returned (if mayB t r then .tuple #[.agg #[.int .i64 t, .int .i64 r], .string s, .int .i64 0] else .tuple #[.agg #[.int .i64 0, .int .i64 0], .string ⟨#[]⟩, .int .i64 2]) ∧ Below W.heap.size W w' := fun W => by
    have h := H.take ((⟨(putL t r).toArray⟩ : ByteArray) ++ s) W (by rw [ByteArray.size_append]; show (putL t r).length + s.size ≤ 4000; omega)
    rw [mk_append_data] at h
    rw [mk_append_data]
    rw [show (⟨(putL t r ++ s.data.toList).toArray⟩ : ByteArray).data.toList = putL t r ++ s.data.toList from rfl, stampL_putL t r ht hr] at h
    by_cases hm : mayB t r = true
    · rw [if_pos hm] at h ⊢
      rw [show stampRes (some (t, r, s.data.toList)) = .tuple #[.agg #[.int .i64 t, .int .i64 r], .string ⟨s.data.toList.toArray⟩, .int .i64 0] from rfl, mk_self] at h
      exact h
    · rw [if_neg hm] at h ⊢
      exact h
  cases hx : stampL s.data.toList with
  | none =>
    refine core H t r s hs w (mayB t r) (putL t r) hl (fun W => H.put t r W ht hr) (H.may t r) hT false 0 0 ⟨#[]⟩ (putL 0 0) (putL_len 0 0) (by decide) (fun W => ?_) (fun W => H.put 0 0 W (by unfold IsI64; omega) (by unfold IsI64; omega)) (fun h => by cases h) (fun h => by cases h)
    have h := H.take s W (by omega)
    rw [hx] at h
    exact h
  | some x =>
    obtain ⟨y, z, u⟩ := x
    obtain ⟨h1, h2, h3, h4, h5⟩ := stampL_very hx
    have hu : u.length ≤ s.size := by simpa using h5
    refine core H t r s hs w (mayB t r) (putL t r) hl (fun W => H.put t r W ht hr) (H.may t r) hT true y z ⟨u.toArray⟩ (putL y z) (putL_len y z) (by show u.length ≤ 2000; omega) (fun W => ?_) (fun W => H.put y z W h3 h4) (fun _ W => ?_) (fun _ => ?_)
    · have h := H.take s W (by omega)
      rw [hx] at h
      exact h
    · have h := H.may y z W
      rw [h2] at h
      exact h
    · rw [mk_append_data]
      show (⟨(putL y z ++ u).toArray⟩ : ByteArray) = s
      rw [h1, mk_self]

theorem walk (a0t a0r : Int) (a1 : ByteArray) (w0t : (Lit.int .i64 a0t).wf = true) (w0r : (Lit.int .i64 a0r).wf = true) (w1 : a1.size ≤ maxLen) (w : World) :
    Calls Try.prog 6 #[.agg #[.int .i64 a0t, .int .i64 a0r], .string a1] w fun e w' => e = .returned (.bool true) ∧ Below w.heap.size w w' :=
  if h : 2000 < a1.size then long stampHave a0t a0r a1 h w1 w else short stampHave a0t a0r (bounds_i64 w0t) (bounds_i64 w0r) a1 (by omega) w
end Go.Proofs.Ytgfgcfmifebnbaa.lawStampBack

namespace Go.Proofs.Ytgfgcfmifebnbaa.lawStampBack
open Go.ChangeShapes Go.WideShapes Go.ChangeAt Go.RowKit
open Go.ChangeMaps (open_string shut_string)

theorem own : ownKnob Try.prog.godebug = none := by kernel_rfl
theorem laidOut : laidOutB Try.prog = true := by kernel_rfl

set_option maxRecDepth 100000 in
theorem lifted (os : Os) (started : os.Started) (H : Type) (enc : TypeId × Value → H) :
    ReturnsInHanded {} Try.checked os 6 .any (Rows.stampBackSpec.pre6 enc Try.prog Try.f6 Rows.stampBackRow.domain false) (Rows.stampBackSpec.post enc Try.prog Try.f6 false true false false) := by
  refine returnsInHanded_of_change (C := Try.checked) own started (by kernel_rfl) Try.func6
    (ChangeSpec.witness6 (enc := enc) (C := Try.checked) false ⟨#[], #[.agg #[.int .i64 0, .int .i64 0], .string ByteArray.empty], []⟩ 8 (by kernel_rfl) (by kernel_rfl) (by kernel_rfl) (by kernel_rfl)) ?_
  intro W base args ds gs before hval0 hW hcnd _
  have hval : ∀ (j : Nat) t v, Try.f6.params[j]? = some t → args[j]? = some v → Value.okWide Try.prog W .any base t v := hval0
  have hW' := hW
  obtain ⟨p, q, hA0, hV, rfl, hfz, hnd⟩ := hW
  have hA : DataW.TrodAll enc Try.prog W 0 (fun _ => true) true Try.f6.params.toList args.toList ds p := hA0
  rw [Try.params6] at hA hval
  obtain ⟨v0, vs0, d0, ds0, p0, q0, hargs, rfl, rfl, h0, r0⟩ := trodAll_cons hA
  obtain ⟨v1, vs1, d1, ds1, p1, q1, rfl, rfl, rfl, h1, r1⟩ := trodAll_cons r0
  obtain ⟨rfl, rfl, rfl⟩ := trodAll_nil r1
  obtain rfl : args = #[v0, v1] := by cases args; simp_all
  obtain ⟨rfl, rfl⟩ := trodVars_none hV
  have k0 := h0
  have lt0 : ∀ x ∈ p0, x.block < W.heap.size := by obtain ⟨m, hm⟩ := k0; exact DataW.trod_lt m _ _ _ hm
  obtain ⟨c0, e0, y0, z0, m0, rfl, hd0, hp0, hy0, hz0⟩ := Joins.open_agg2 Try.underlying23 (by kernel_rfl) (by kernel_rfl) (hval 0 23 v0 rfl rfl) h0
  obtain ⟨a0t, ea0, rfl, w0t⟩ := DataW.trod_int Try.underlying2 hy0
  obtain ⟨a0r, eb0, rfl, w0r⟩ := DataW.trod_int Try.underlying3 hz0
  simp at ea0 eb0
  subst ea0 eb0
  obtain ⟨a1, rfl, rfl, rfl, w1⟩ := open_string Try.underlying9 (hval 1 9 v1 rfl rfl) h1
  clear hA0 hval0
  simp only [List.append_nil] at hW'
  refine (walk a0t a0r a1 w0t w0r w1 W).mono fun e W' ⟨he, hb⟩ => ?_
  subst he
  exact ⟨_, rfl, _, _, _, [], _, [], hW', trodAll_mk1 (shut_bool Try.underlying4 _), (trodAll_cons_mk (Below.trod laidOut (by kernel_rfl) (of_decide_eq_true (by kernel_rfl)) k0 hb lt0) (trodAll_cons_mk (shut_string Try.underlying9 w1) trodAll_mk0)), rfl, hb.frame _, fun h => by cases h⟩

theorem proved : Rows.StampBackSaid :=
  OpenClaim.holds_of_wide 6 Try.f6 rfl rfl rfl rfl rfl rfl rfl ⟨rfl, rfl, rfl, rfl, rfl⟩ rfl rfl rfl rfl rfl (by kernel_rfl) Try.func6 (by kernel_rfl)
    (of_decide_eq_true (by kernel_rfl)) (by unfold Func.isWrapper; first | (rw [if_pos (by decide +kernel)]; kernel_rfl) | (rw [if_neg (by decide +kernel)]; exact ⟨rfl, rfl⟩))
    (fun os started H enc _ => lifted os started H enc)
#print axioms proved
end Go.Proofs.Ytgfgcfmifebnbaa.lawStampBack
