/-
  What graphs tell is in order, has its shape, loses nothing, and counts right, whatever was made and tied (100 of each at most): for all stamps, kinds and entries.
-/
import Derived.Test.YtoobmkkmomiigaaGreatZ02
import Derived.Test.YtoobmkkmomiigaaGreatZ05
import Derived.Test.YtoobmkkmomiigaaGreatZ08
import Derived.Test.YtoobmkkmomiigaaGreatZ08
namespace Go.Proofs.YtoobmkkmomiigaaGreat.lawAuditGraph
open Go.RowKit StampMath GraphMath OpMath

theorem walk (a0A : Option Addr) (a0n : Nat) (a0c : Nat) (a0x : List St) (a1A : Option Addr) (a1n : Nat) (a1c : Nat) (a1x : List Int) (a2A : Option Addr) (a2n : Nat) (a2c : Nat) (a2x : List Ent) (w : World) (_ : a0n ≤ a0c) (_ : a0c ≤ maxLen) (w0d : StsIn w w.heap.size a0A a0n a0x) (_ : a1n ≤ a1c) (_ : a1c ≤ maxLen) (w1d : IntsIn w w.heap.size a1A a1n a1x) (_ : a2n ≤ a2c) (_ : a2c ≤ maxLen) (w2x : ∀ x ∈ a2x, x.name.size ≤ maxLen) (w2d : EntsIn w w.heap.size a2A a2n a2x) (_ : a2A = Option.none → a2c = 0) :
    Calls Tryz.prog 3 #[.slice a0A a0n a0c, .slice a1A a1n a1c, .slice a2A a2n a2c] w fun e w' => e = .returned (.bool true) ∧ Below w.heap.size w w' :=
  walk0 auditAsk graphFew a0A a0n a0c a0x a1A a1n a1c a1x a2A a2n a2c a2x w w0d w1d w2x w2d
end Go.Proofs.YtoobmkkmomiigaaGreat.lawAuditGraph

namespace Go.Proofs.YtoobmkkmomiigaaGreat.lawAuditGraph
open Go.ChangeShapes Go.WideShapes Go.ChangeAt Go.RowKit
open Go.ChangeMaps (open_string shut_string)

theorem own : ownKnob Tryz.prog.godebug = none := by kernel_rfl
theorem laidOut : laidOutB Tryz.prog = true := by kernel_rfl

set_option maxRecDepth 100000 in
theorem lifted (os : Os) (started : os.Started) (H : Type) (enc : TypeId × Value → H) :
    ReturnsInHanded {} Tryz.checked os 3 .any (Rows.auditGraphSpec.pre6 enc Tryz.prog Tryz.f3 Rows.auditGraphRow.domain false) (Rows.auditGraphSpec.post enc Tryz.prog Tryz.f3 false true false false) := by
  refine returnsInHanded_of_change (C := Tryz.checked) own started (by kernel_rfl) Tryz.func3
    (ChangeSpec.witness6 (enc := enc) (C := Tryz.checked) false ⟨#[], #[.slice none 0 0, .slice none 0 0, .slice none 0 0], []⟩ 8 (by kernel_rfl) (by kernel_rfl) (by kernel_rfl) (by kernel_rfl)) ?_
  intro W base args ds gs before hval0 hW hcnd _
  have hval : ∀ (j : Nat) t v, Tryz.f3.params[j]? = some t → args[j]? = some v → Value.okWide Tryz.prog W .any base t v := hval0
  have hW' := hW
  obtain ⟨p, q, hA0, hV, rfl, hfz, hnd⟩ := hW
  have hA : DataW.TrodAll enc Tryz.prog W 0 (fun _ => true) true Tryz.f3.params.toList args.toList ds p := hA0
  rw [Tryz.params3] at hA hval
  obtain ⟨v0, vs0, d0, ds0, p0, q0, hargs, rfl, rfl, h0, r0⟩ := trodAll_cons hA
  obtain ⟨v1, vs1, d1, ds1, p1, q1, rfl, rfl, rfl, h1, r1⟩ := trodAll_cons r0
  obtain ⟨v2, vs2, d2, ds2, p2, q2, rfl, rfl, rfl, h2, r2⟩ := trodAll_cons r1
  obtain ⟨rfl, rfl, rfl⟩ := trodAll_nil r2
  obtain rfl : args = #[v0, v1, v2] := by cases args; simp_all
  obtain ⟨rfl, rfl⟩ := trodVars_none hV
  have k0 := h0
  have lt0 : ∀ x ∈ p0, x.block < W.heap.size := by obtain ⟨m, hm⟩ := k0; exact DataW.trod_lt m _ _ _ hm
  obtain ⟨a0A, a0n, a0c, a0x, rfl, w0a, w0b, w0d⟩ := open_sts (hval 0 22 v0 rfl rfl) h0
  have k1 := h1
  have lt1 : ∀ x ∈ p1, x.block < W.heap.size := by obtain ⟨m, hm⟩ := k1; exact DataW.trod_lt m _ _ _ hm
  obtain ⟨a1A, a1n, a1c, a1x, rfl, w1a, w1b, w1d⟩ := open_nums (hval 1 23 v1 rfl rfl) h1
  have k2 := h2
  have lt2 : ∀ x ∈ p2, x.block < W.heap.size := by obtain ⟨m, hm⟩ := k2; exact DataW.trod_lt m _ _ _ hm
  obtain ⟨a2A, a2n, a2c, a2x, rfl, w2a, w2b, w2x, w2d, w2n⟩ := open_ents (hval 2 24 v2 rfl rfl) h2
  clear hA0 hval0
  simp only [List.append_nil] at hW'
  refine (walk a0A a0n a0c a0x a1A a1n a1c a1x a2A a2n a2c a2x W w0a w0b w0d w1a w1b w1d w2a w2b w2x w2d w2n).mono fun e W' ⟨he, hb⟩ => ?_
  subst he
  exact ⟨_, rfl, _, _, _, [], _, [], hW', trodAll_mk1 (shut_bool Tryz.underlying4 _), (trodAll_cons_mk (Below.trod laidOut (by kernel_rfl) (of_decide_eq_true (by kernel_rfl)) k0 hb lt0) (trodAll_cons_mk (Below.trod laidOut (by kernel_rfl) (of_decide_eq_true (by kernel_rfl)) k1 hb lt1) (trodAll_cons_mk (Below.trod laidOut (by kernel_rfl) (of_decide_eq_true (by kernel_rfl)) k2 hb lt2) trodAll_mk0))), rfl, hb.frame _, fun h => by cases h⟩

theorem proved : Rows.AuditGraphSaid :=
  OpenClaim.holds_of_wide 3 Tryz.f3 rfl rfl rfl rfl rfl rfl rfl ⟨rfl, rfl, rfl, rfl, rfl⟩ rfl rfl rfl rfl rfl (by kernel_rfl) Tryz.func3 (by kernel_rfl)
    (of_decide_eq_true (by kernel_rfl)) (by unfold Func.isWrapper; first | (rw [if_pos (by decide +kernel)]; kernel_rfl) | (rw [if_neg (by decide +kernel)]; exact ⟨rfl, rfl⟩))
    (fun os started H enc _ => lifted os started H enc)
#print axioms proved
end Go.Proofs.YtoobmkkmomiigaaGreat.lawAuditGraph
