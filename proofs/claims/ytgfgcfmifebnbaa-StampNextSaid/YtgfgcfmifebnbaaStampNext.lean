/-
  The next stamp of a time may be, is of that replica, one later, and above each stamp that may be and is of that time, or below; beside an error the stamp is the zero one: for all times, replicas and stamps whatever.
-/
import Derived.Test.YtgfgcfmifebnbaaStampCode2
import Derived.ProofKit
import Derived.OpenShut
import Derived.Lib.SmallJoins
namespace Go.Proofs.Ytgfgcfmifebnbaa.lawStampNext
open Go.RowKit StampMath

set_option maxRecDepth 100000 in
set_option maxHeartbeats 800000 in
theorem bad (H : StampHave) (t r a b c : Int) (w : World) (hc : c = 1 ∨ c = 14)
    (HN : Hid (∀ W : World, Calls Try.prog 12 #[.int .i64 t, .int .i64 r] W fun e w' => e = .returned (.tuple #[.agg #[.int .i64 0, .int .i64 0], .int .i64 c]) ∧ Below W.heap.size W w')) :
    Calls Try.prog 5 #[.int .i64 t, .int .i64 r, .agg #[.int .i64 a, .int .i64 b]] w fun e w' => e = .returned (.bool true) ∧ Below w.heap.size w w' := by
  rcases hc with rfl | rfl
  all_goals
    go_enter Try.func5, Try.ntmps5
    go_wp2_with fail
    refine (H.shown _).mono ?_
    rintro e w1 ⟨rfl, hb1⟩
    go_wp2_with fail
    refine (HN.out _).mono ?_
    rintro e w2 ⟨rfl, hb2⟩
    go_wp2_with fail
    go_ret
    have A2 := below_step (below_step ((Below.refl _ w).alloc (Nat.le_refl _) _) hb1) hb2
    exact ⟨rfl, A2.alloc A2.size _⟩

set_option maxRecDepth 100000 in
set_option maxHeartbeats 1600000 in
theorem good (H : StampHave) (t r a b : Int) (w : World) (ht0 : 0 ≤ t) (ht1 : t < 1073741824)
    (HN : Hid (∀ W : World, Calls Try.prog 12 #[.int .i64 t, .int .i64 r] W fun e w' => e = .returned (.tuple #[.agg #[.int .i64 (t + 1), .int .i64 r], .int .i64 0]) ∧ Below W.heap.size W w'))
    (HM : Hid (∀ W : World, Calls Try.prog 14 #[.agg #[.int .i64 (t + 1), .int .i64 r]] W fun e w' => e = .returned (.bool true) ∧ Below W.heap.size W w'))
    (m : Bool) (HS : Hid (∀ W : World, Calls Try.prog 14 #[.agg #[.int .i64 a, .int .i64 b]] W fun e w' => e = .returned (.bool m) ∧ Below W.heap.size W w'))
    (x : Int) (HC : Hid (∀ W : World, Calls Try.prog 16 #[.agg #[.int .i64 (t + 1), .int .i64 r], .agg #[.int .i64 a, .int .i64 b]] W fun e w' => e = .returned (.int .i64 x) ∧ Below W.heap.size W w'))
    (hx : m = true → a ≤ t → x = 1) :
    Calls Try.prog 5 #[.int .i64 t, .int .i64 r, .agg #[.int .i64 a, .int .i64 b]] w fun e w' => e = .returned (.bool true) ∧ Below w.heap.size w w' := by
  have hcase : m = false ∨ (m = true ∧ t < a) ∨ (m = true ∧ ¬ t < a ∧ x = 1) := by
    cases m
    · exact Or.inl rfl
    · by_cases h : t < a
      · exact Or.inr (Or.inl ⟨rfl, h⟩)
      · exact Or.inr (Or.inr ⟨rfl, h, hx rfl (by omega)⟩)
  clear hx
  rcases hcase with rfl | ⟨rfl, h1⟩ | ⟨rfl, h1, rfl⟩
  all_goals
    go_enter Try.func5, Try.ntmps5
    go_wp2_with fail
    refine (H.shown _).mono ?_
    rintro e w1 ⟨rfl, hb1⟩
    obtain ⟨hc1, hf1⟩ := bcell_below hb1
    have k1 : w.heap.size < w1.heap.size := by have := hb1.size; simp at this; omega
    go_wp2_with fail
    refine (HN.out _).mono ?_
    rintro e w2 ⟨rfl, hb2⟩
    obtain ⟨hc2, hf2⟩ := bcell_below hb2
    have k2 : w.heap.size < w2.heap.size := by have := hb2.size; omega
    go_wp2_with fail
    refine (HM.out _).mono ?_
    rintro e w3 ⟨rfl, hb3⟩
    obtain ⟨hc3, hf3⟩ := bcell_below hb3
    have k3 : w.heap.size < w3.heap.size := by have := hb3.size; simp at this; omega
    have l3 : w2.heap.size < w3.heap.size := by have := hb3.size; simp at this; omega
    go_wp2_with fail
    refine (HS.out _).mono ?_
    rintro e w4 ⟨rfl, hb4⟩
    obtain ⟨hc4, hf4⟩ := bcell_below hb4
    have k4 : w.heap.size < w4.heap.size := by have := hb4.size; omega
    have l4 : w2.heap.size < w4.heap.size := by have := hb4.size; omega
    go_wp2_with fail
  all_goals
    have A2 := below_step (below_step ((Below.refl _ w).alloc (Nat.le_refl _) _) hb1) hb2
    have A4 := below_step (below_step (A2.alloc A2.size _) hb3) hb4
  · go_ret
    exact ⟨rfl, A4⟩
  · go_ret
    exact ⟨rfl, A4⟩
  · refine (HC.out _).mono ?_
    rintro e w5 ⟨rfl, hb5⟩
    go_wp2_with fail
    go_ret
    exact ⟨rfl, below_step A4 hb5⟩

theorem walk0 (H : StampHave) (t r a b : Int) (w : World) :
    Calls Try.prog 5 #[.int .i64 t, .int .i64 r, .agg #[.int .i64 a, .int .i64 b]] w fun e w' => e = .returned (.bool true) ∧ Below w.heap.size w w' := by
  have hN := H.next t r
  unfold nextV at hN
  by_cases h1 : r < 0 ∨ 7 < r ∨ t < 0
  · simp only [if_pos h1] at hN
    exact bad H t r a b 1 w (Or.inl rfl) hN
  · simp only [if_neg h1] at hN
    by_cases h2 : 1073741824 ≤ t
    · simp only [if_pos h2] at hN
      exact bad H t r a b 14 w (Or.inr rfl) hN
    · simp only [if_neg h2] at hN
      have hM := H.may (t + 1) r
      rw [(mayB_iff (t + 1) r).2 (by omega)] at hM
      refine good H t r a b w (by omega) (by omega) hN hM (mayB a b) (H.may a b) (cmp (t + 1) r a b) (H.compare _ _ _ _) ?_
      intro h3 h4
      have h5 := (mayB_iff a b).1 h3
      have h6 := cmp_cases (t + 1) r a b
      omega

theorem walk (a0 a1 a2t a2r : Int) (_w0 : (Lit.int .i64 a0).wf = true) (_w1 : (Lit.int .i64 a1).wf = true) (_w2t : (Lit.int .i64 a2t).wf = true) (_w2r : (Lit.int .i64 a2r).wf = true) (w : World) :
    Calls Try.prog 5 #[.int .i64 a0, .int .i64 a1, .agg #[.int .i64 a2t, .int .i64 a2r]] w fun e w' => e = .returned (.bool true) ∧ Below w.heap.size w w' :=
  walk0 stampHave a0 a1 a2t a2r w
end Go.Proofs.Ytgfgcfmifebnbaa.lawStampNext

namespace Go.Proofs.Ytgfgcfmifebnbaa.lawStampNext
open Go.ChangeShapes Go.WideShapes Go.ChangeAt Go.RowKit
open Go.ChangeMaps (open_string shut_string)

theorem own : ownKnob Try.prog.godebug = none := by kernel_rfl
theorem laidOut : laidOutB Try.prog = true := by kernel_rfl

set_option maxRecDepth 100000 in
theorem lifted (os : Os) (started : os.Started) (H : Type) (enc : TypeId × Value → H) :
    ReturnsInHanded {} Try.checked os 5 .any (Rows.stampNextSpec.pre6 enc Try.prog Try.f5 Rows.stampNextRow.domain false) (Rows.stampNextSpec.post enc Try.prog Try.f5 false true false false) := by
  refine returnsInHanded_of_change (C := Try.checked) own started (by kernel_rfl) Try.func5
    (ChangeSpec.witness6 (enc := enc) (C := Try.checked) false ⟨#[], #[.int .i64 0, .int .i64 0, .agg #[.int .i64 0, .int .i64 0]], []⟩ 8 (by kernel_rfl) (by kernel_rfl) (by kernel_rfl) (by kernel_rfl)) ?_
  intro W base args ds gs before hval0 hW hcnd _
  have hval : ∀ (j : Nat) t v, Try.f5.params[j]? = some t → args[j]? = some v → Value.okWide Try.prog W .any base t v := hval0
  have hW' := hW
  obtain ⟨p, q, hA0, hV, rfl, hfz, hnd⟩ := hW
  have hA : DataW.TrodAll enc Try.prog W 0 (fun _ => true) true Try.f5.params.toList args.toList ds p := hA0
  rw [Try.params5] at hA hval
  obtain ⟨v0, vs0, d0, ds0, p0, q0, hargs, rfl, rfl, h0, r0⟩ := trodAll_cons hA
  obtain ⟨v1, vs1, d1, ds1, p1, q1, rfl, rfl, rfl, h1, r1⟩ := trodAll_cons r0
  obtain ⟨v2, vs2, d2, ds2, p2, q2, rfl, rfl, rfl, h2, r2⟩ := trodAll_cons r1
  obtain ⟨rfl, rfl, rfl⟩ := trodAll_nil r2
  obtain rfl : args = #[v0, v1, v2] := by cases args; simp_all
  obtain ⟨rfl, rfl⟩ := trodVars_none hV
  obtain ⟨a0, rfl, rfl, rfl, w0⟩ := open_int Try.underlying2 (hval 0 2 v0 rfl rfl) h0
  obtain ⟨a1, rfl, rfl, rfl, w1⟩ := open_int Try.underlying3 (hval 1 3 v1 rfl rfl) h1
  have k2 := h2
  have lt2 : ∀ x ∈ p2, x.block < W.heap.size := by obtain ⟨m, hm⟩ := k2; exact DataW.trod_lt m _ _ _ hm
  obtain ⟨c2, e2, y2, z2, m2, rfl, hd2, hp2, hy2, hz2⟩ := Joins.open_agg2 Try.underlying23 (by kernel_rfl) (by kernel_rfl) (hval 2 23 v2 rfl rfl) h2
  obtain ⟨a2t, ea2, rfl, w2t⟩ := DataW.trod_int Try.underlying2 hy2
  obtain ⟨a2r, eb2, rfl, w2r⟩ := DataW.trod_int Try.underlying3 hz2
  simp at ea2 eb2
  subst ea2 eb2
  clear hA0 hval0
  simp only [List.append_nil] at hW'
  refine (walk a0 a1 a2t a2r w0 w1 w2t w2r W).mono fun e W' ⟨he, hb⟩ => ?_
  subst he
  exact ⟨_, rfl, _, _, _, [], _, [], hW', trodAll_mk1 (shut_bool Try.underlying4 _), (trodAll_cons_mk (shut_int Try.underlying2 w0) (trodAll_cons_mk (shut_int Try.underlying3 w1) (trodAll_cons_mk (Below.trod laidOut (by kernel_rfl) (of_decide_eq_true (by kernel_rfl)) k2 hb lt2) trodAll_mk0))), rfl, hb.frame _, fun h => by cases h⟩

theorem proved : Rows.StampNextSaid :=
  OpenClaim.holds_of_wide 5 Try.f5 rfl rfl rfl rfl rfl rfl rfl ⟨rfl, rfl, rfl, rfl, rfl⟩ rfl rfl rfl rfl rfl (by kernel_rfl) Try.func5 (by kernel_rfl)
    (of_decide_eq_true (by kernel_rfl)) (by unfold Func.isWrapper; first | (rw [if_pos (by decide +kernel)]; kernel_rfl) | (rw [if_neg (by decide +kernel)]; exact ⟨rfl, rfl⟩))
    (fun os started H enc _ => lifted os started H enc)
#print axioms proved
end Go.Proofs.Ytgfgcfmifebnbaa.lawStampNext
