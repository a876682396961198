/-
  With one entry less, or one inode, what was fine isn't: for all inodes and entries, 60 of each at most (others are let go), and each byte.
-/
import Derived.Test.YtoobmkkmomiigaaAuditLessCore
import Derived.Test.YtoobmkkmomiigaaAuditCode
import Derived.Test.YtoobmkkmomiigaaAuditOpen
namespace Go.Proofs.Ytoobmkkmomiigaa.lawAuditLess
open Go.RowKit StampMath GraphMath OpMath

theorem walk (a0A : Option Addr) (a0n : Nat) (a0c : Nat) (a0x : List Ino) (a1A : Option Addr) (a1n : Nat) (a1c : Nat) (a1x : List Ent) (a2 : Int) (w : World) (w0a : a0n ≤ a0c) (w0b : a0c ≤ maxLen) (w0x : ∀ x ∈ a0x, x.data.size ≤ maxLen) (w0d : InosIn w w.heap.size a0A a0n a0x) (_ : a0A = Option.none → a0c = 0) (w1a : a1n ≤ a1c) (w1b : a1c ≤ maxLen) (w1x : ∀ x ∈ a1x, x.name.size ≤ maxLen) (w1d : EntsIn w w.heap.size a1A a1n a1x) (_ : a1A = Option.none → a1c = 0) (w2 : (Lit.int .u8 a2).wf = true) :
    Calls Try.prog 3 #[.slice a0A a0n a0c, .slice a1A a1n a1c, .int .u8 a2] w fun e w' => e = .returned (.bool true) ∧ Below w.heap.size w w' :=
  walk0 auditHave a0A a0n a0c a0x a1A a1n a1c a1x a2 w w0a w0b w0x w0d w1a w1b w1x w1d w2
end Go.Proofs.Ytoobmkkmomiigaa.lawAuditLess

namespace Go.Proofs.Ytoobmkkmomiigaa.lawAuditLess
open Go.ChangeShapes Go.WideShapes Go.ChangeAt Go.RowKit
open Go.ChangeMaps (open_string shut_string)

theorem own : ownKnob Try.prog.godebug = none := by kernel_rfl
theorem laidOut : laidOutB Try.prog = true := by kernel_rfl

set_option maxRecDepth 100000 in
theorem lifted (os : Os) (started : os.Started) (H : Type) (enc : TypeId × Value → H) :
    ReturnsInHanded {} Try.checked os 3 .any (Rows.auditLessSpec.pre6 enc Try.prog Try.f3 Rows.auditLessRow.domain false) (Rows.auditLessSpec.post enc Try.prog Try.f3 false true false false) := by
  refine returnsInHanded_of_change (C := Try.checked) own started (by kernel_rfl) Try.func3
    (ChangeSpec.witness6 (enc := enc) (C := Try.checked) false ⟨#[], #[.slice none 0 0, .slice none 0 0, .int .u8 0], []⟩ 8 (by kernel_rfl) (by kernel_rfl) (by kernel_rfl) (by kernel_rfl)) ?_
  intro W base args ds gs before hval0 hW hcnd _
  have hval : ∀ (j : Nat) t v, Try.f3.params[j]? = some t → args[j]? = some v → Value.okWide Try.prog W .any base t v := hval0
  have hW' := hW
  obtain ⟨p, q, hA0, hV, rfl, hfz, hnd⟩ := hW
  have hA : DataW.TrodAll enc Try.prog W 0 (fun _ => true) true Try.f3.params.toList args.toList ds p := hA0
  rw [Try.params3] at hA hval
  obtain ⟨v0, vs0, d0, ds0, p0, q0, hargs, rfl, rfl, h0, r0⟩ := trodAll_cons hA
  obtain ⟨v1, vs1, d1, ds1, p1, q1, rfl, rfl, rfl, h1, r1⟩ := trodAll_cons r0
  obtain ⟨v2, vs2, d2, ds2, p2, q2, rfl, rfl, rfl, h2, r2⟩ := trodAll_cons r1
  obtain ⟨rfl, rfl, rfl⟩ := trodAll_nil r2
  obtain rfl : args = #[v0, v1, v2] := by cases args; simp_all
  obtain ⟨rfl, rfl⟩ := trodVars_none hV
  have k0 := h0
  have lt0 : ∀ x ∈ p0, x.block < W.heap.size := by obtain ⟨m, hm⟩ := k0; exact DataW.trod_lt m _ _ _ hm
  obtain ⟨a0A, a0n, a0c, a0x, rfl, w0a, w0b, w0x, w0d, w0n⟩ := open_inos (hval 0 22 v0 rfl rfl) h0
  have k1 := h1
  have lt1 : ∀ x ∈ p1, x.block < W.heap.size := by obtain ⟨m, hm⟩ := k1; exact DataW.trod_lt m _ _ _ hm
  obtain ⟨a1A, a1n, a1c, a1x, rfl, w1a, w1b, w1x, w1d, w1n⟩ := open_ents (hval 1 23 v1 rfl rfl) h1
  obtain ⟨a2, rfl, rfl, rfl, w2⟩ := open_int Try.underlying5 (hval 2 5 v2 rfl rfl) h2
  clear hA0 hval0
  simp only [List.append_nil] at hW'
  refine (walk a0A a0n a0c a0x a1A a1n a1c a1x a2 W w0a w0b w0x w0d w0n w1a w1b w1x w1d w1n w2).mono fun e W' ⟨he, hb⟩ => ?_
  subst he
  exact ⟨_, rfl, _, _, _, [], _, [], hW', trodAll_mk1 (shut_bool Try.underlying4 _), (trodAll_cons_mk (Below.trod laidOut (by kernel_rfl) (of_decide_eq_true (by kernel_rfl)) k0 hb lt0) (trodAll_cons_mk (Below.trod laidOut (by kernel_rfl) (of_decide_eq_true (by kernel_rfl)) k1 hb lt1) (trodAll_cons_mk (shut_int Try.underlying5 w2) trodAll_mk0))), rfl, hb.frame _, fun h => by cases h⟩

theorem proved : Rows.AuditLessSaid :=
  OpenClaim.holds_of_wide 3 Try.f3 rfl rfl rfl rfl rfl rfl rfl ⟨rfl, rfl, rfl, rfl, rfl⟩ rfl rfl rfl rfl rfl (by kernel_rfl) Try.func3 (by kernel_rfl)
    (of_decide_eq_true (by kernel_rfl)) (by unfold Func.isWrapper; first | (rw [if_pos (by decide +kernel)]; kernel_rfl) | (rw [if_neg (by decide +kernel)]; exact ⟨rfl, rfl⟩))
    (fun os started H enc _ => lifted os started H enc)
#print axioms proved
end Go.Proofs.Ytoobmkkmomiigaa.lawAuditLess
