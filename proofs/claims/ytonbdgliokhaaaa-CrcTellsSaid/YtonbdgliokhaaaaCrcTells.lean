/-
  Any string's sum, any sum with more, and the table's numbers, are the document's: for all sums, all bytes, and all strings of 2000 bytes at most; longer ones are let go.
-/
import Derived.Test.YtonbdgliokhaaaaCrcCode
import Derived.ProofKit
import Derived.OpenShut
import Derived.Deep.RegionHeld3
namespace Go.Proofs.Ytonbdgliokhaaaa.lawCrcTells
open Go.RowKit CrcMath

set_option maxRecDepth 100000 in
set_option maxHeartbeats 400000 in
theorem long (H : CrcHave) (c : Nat) (s : ByteArray) (n : Nat) (h : 2000 < s.size) (hs : s.size ≤ maxLen) (w : World) :
    Calls Try.prog 3 #[.int .u32 c, .string s, .int .u8 n] w fun e w' => e = .returned (.bool true) ∧ Below w.heap.size w w' := by
  unfold maxLen at hs
  go_enter Try.func3, Try.ntmps3
  go_wp2_with fail
  refine (H.shown _).mono ?_
  rintro e w1 ⟨rfl, hb1⟩
  go_wp2_with fail
  go_ret
  exact ⟨rfl, hb1⟩

set_option maxRecDepth 100000 in
set_option maxHeartbeats 800000 in
theorem short (H : CrcHave) (c : Nat) (s : ByteArray) (n : Nat) (hc : c < 4294967296) (hs : s.size ≤ 2000) (hn : n < 256) (w : World) :
    Calls Try.prog 3 #[.int .u32 c, .string s, .int .u8 n] w fun e w' => e = .returned (.bool true) ∧ Below w.heap.size w w' := by
  obtain ⟨Z, hz, hst⟩ := tab_zero
  have hts := tab_size
  have hs5 : s.size ≤ 5000 := by omega
  have tn := Lib.hid (tab_at hn)
  have HC := Lib.hid hc
  clear hc
  go_enter Try.func3, Try.ntmps3
  go_wp2_with fail
  refine (H.shown _).mono ?_
  rintro e w1 ⟨rfl, hb1⟩
  go_wp2_with fail
  refine (H.table _).mono ?_
  rintro e w2 ⟨rfl, hb2⟩
  go_wp2_with fail
  clear hz hst hts
  have hS0 : (w2.alloc (.cells tab 24)).drew.cell? ⟨w2.heap.size, n, none⟩ = some (.int .u32 ((cstep8 n : Nat) : Int)) ∧ KeptFrom w (w2.alloc (.cells tab 24)).drew := by
    refine ⟨?_, ((below_step hb1 hb2).alloc (below_step hb1 hb2).size _).drew⟩
    rw [← tn.out]
    exact cell_of_row _ _ n _ _ (0, 0) (heap_alloc_last w2 _)
  clear hb1 hb2
  have hw : IntKind.u32.wrap (n : Int) = (n : Int) := IntWalk.u32_in _ (by omega)
  have hi : (0 : Int) ≤ (n : Int) := by omega
  have hi2 : (n : Int) < 256 := by omega
  go_region_held3 (fun W => W.cell? ⟨w2.heap.size, n, none⟩ = some (.int .u32 ((cstep8 n : Nat) : Int)) ∧ KeptFrom w W) (first | assumption | (refine ⟨?_, ?_⟩ <;> assumption))
    (first
      | (go_at_call 10; (with_reducible refine (H.of s _ hs5).mono ?_); rintro e w' ⟨rfl, hb⟩; have hS := kept_call hb (by assumption))
      | (go_at_call 11; (with_reducible refine (refOf s hs5 _).mono ?_); rintro e w' ⟨rfl, rfl⟩)
      | (go_at_call 12; (with_reducible refine (H.more c s _ HC.out hs5).mono ?_); rintro e w' ⟨rfl, hb⟩; have hS := kept_call hb (by assumption))
      | (go_at_call 13; (with_reducible refine (refMore c s HC.out hs5 _).mono ?_); rintro e w' ⟨rfl, rfl⟩)
      | (go_at_call 14; (with_reducible refine (refStep8 n (by omega) _).mono ?_); rintro e w' ⟨rfl, rfl⟩))
  go_wp2_with fail
  go_ret
  have hE : ∀ {W : World} {a : Addr} {v : Value}, W.cell? a = some v ∧ KeptFrom w W → Below w.heap.size w W := fun h => h.2
  exact ⟨rfl, hE (by assumption)⟩

theorem walk (a0 : Int) (a1 : ByteArray) (a2 : Int) (w0 : (Lit.int .u32 a0).wf = true) (w1 : a1.size ≤ maxLen) (w2 : (Lit.int .u8 a2).wf = true) (w : World) :
    Calls Try.prog 3 #[.int .u32 a0, .string a1, .int .u8 a2] w fun e w' => e = .returned (.bool true) ∧ Below w.heap.size w w' := by
  obtain ⟨c, rfl, hc⟩ := nat_of_int (bounds_u32 w0)
  obtain ⟨n, rfl, hn⟩ := nat_of_int (bounds_u8 w2)
  by_cases h : 2000 < a1.size
  · exact long crcHave c a1 n h w1 w
  · exact short crcHave c a1 n (by omega) (by omega) (by omega) w
end Go.Proofs.Ytonbdgliokhaaaa.lawCrcTells

namespace Go.Proofs.Ytonbdgliokhaaaa.lawCrcTells
open Go.ChangeShapes Go.WideShapes Go.ChangeAt Go.RowKit
open Go.ChangeMaps (open_string shut_string)

theorem own : ownKnob Try.prog.godebug = none := by kernel_rfl

set_option maxRecDepth 100000 in
theorem lifted (os : Os) (started : os.Started) (H : Type) (enc : TypeId × Value → H) :
    ReturnsInHanded {} Try.checked os 3 .any (Rows.crcTellsSpec.pre6 enc Try.prog Try.f3 Rows.crcTellsRow.domain false) (Rows.crcTellsSpec.post enc Try.prog Try.f3 false true false false) := by
  refine returnsInHanded_of_change (C := Try.checked) own started (by kernel_rfl) Try.func3
    (ChangeSpec.witness6 (enc := enc) (C := Try.checked) false ⟨#[], #[.int .u32 0, .string ByteArray.empty, .int .u8 0], []⟩ 8 (by kernel_rfl) (by kernel_rfl) (by kernel_rfl) (by kernel_rfl)) ?_
  intro W base args ds gs before hval0 hW hcnd _
  have hval : ∀ (j : Nat) t v, Try.f3.params[j]? = some t → args[j]? = some v → Value.okWide Try.prog W .any base t v := hval0
  have hW' := hW
  obtain ⟨p, q, hA0, hV, rfl, hfz, hnd⟩ := hW
  have hA : DataW.TrodAll enc Try.prog W 0 (fun _ => true) true Try.f3.params.toList args.toList ds p := hA0
  rw [Try.params3] at hA hval
  obtain ⟨v0, vs0, d0, ds0, p0, q0, hargs, rfl, rfl, h0, r0⟩ := trodAll_cons hA
  obtain ⟨v1, vs1, d1, ds1, p1, q1, rfl, rfl, rfl, h1, r1⟩ := trodAll_cons r0
  obtain ⟨v2, vs2, d2, ds2, p2, q2, rfl, rfl, rfl, h2, r2⟩ := trodAll_cons r1
  obtain ⟨rfl, rfl, rfl⟩ := trodAll_nil r2
  obtain rfl : args = #[v0, v1, v2] := by cases args; simp_all
  obtain ⟨rfl, rfl⟩ := trodVars_none hV
  obtain ⟨a0, rfl, rfl, rfl, w0⟩ := open_int Try.underlying22 (hval 0 22 v0 rfl rfl) h0
  obtain ⟨a1, rfl, rfl, rfl, w1⟩ := open_string Try.underlying9 (hval 1 9 v1 rfl rfl) h1
  obtain ⟨a2, rfl, rfl, rfl, w2⟩ := open_int Try.underlying5 (hval 2 5 v2 rfl rfl) h2
  clear hA0 hval0
  simp only [List.append_nil] at hW'
  refine (walk a0 a1 a2 w0 w1 w2 W).mono fun e W' ⟨he, hb⟩ => ?_
  subst he
  exact ⟨_, rfl, _, _, _, [], _, [], hW', trodAll_mk1 (shut_bool Try.underlying4 _), (trodAll_cons_mk (shut_int Try.underlying22 w0) (trodAll_cons_mk (shut_string Try.underlying9 w1) (trodAll_cons_mk (shut_int Try.underlying5 w2) trodAll_mk0))), rfl, hb.frame _, fun h => by cases h⟩

theorem proved : Rows.CrcTellsSaid :=
  OpenClaim.holds_of_wide 3 Try.f3 rfl rfl rfl rfl rfl rfl rfl ⟨rfl, rfl, rfl, rfl, rfl⟩ rfl rfl rfl rfl rfl (by kernel_rfl) Try.func3 (by kernel_rfl)
    (of_decide_eq_true (by kernel_rfl)) (by unfold Func.isWrapper; first | (rw [if_pos (by decide +kernel)]; kernel_rfl) | (rw [if_neg (by decide +kernel)]; exact ⟨rfl, rfl⟩))
    (fun os started H enc _ => lifted os started H enc)
#print axioms proved
end Go.Proofs.Ytonbdgliokhaaaa.lawCrcTells
