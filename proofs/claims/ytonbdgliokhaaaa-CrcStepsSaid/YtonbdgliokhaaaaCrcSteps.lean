/-
  One byte more is one entry of the table more: for every byte and every string of 2000 bytes at most; longer ones are let go.
-/
import Derived.Test.YtonbdgliokhaaaaCrcCode
import Derived.Test.YtonbdgliokhaaaaBytes
import Derived.ProofKit
import Derived.OpenShut
import Derived.Deep.RegionHeld3
namespace Go.Proofs.Ytonbdgliokhaaaa.lawCrcSteps
open Go.RowKit CrcMath

set_option maxRecDepth 100000 in
set_option maxHeartbeats 400000 in
theorem long (H : CrcHave) (s : ByteArray) (b : Nat) (h : 2000 < s.size) (hs : s.size ≤ maxLen) (w : World) :
    Calls Try.prog 7 #[.string s, .int .u8 b] w fun e w' => e = .returned (.bool true) ∧ Below w.heap.size w w' := by
  unfold maxLen at hs
  go_enter Try.func7, Try.ntmps7
  go_wp2_with fail
  refine (H.shown _).mono ?_
  rintro e w1 ⟨rfl, hb1⟩
  go_wp2_with fail
  go_ret
  exact ⟨rfl, hb1⟩

set_option maxRecDepth 100000 in
set_option maxHeartbeats 800000 in
theorem core (H : CrcHave) (s : ByteArray) (b : UInt8) (hs : s.size ≤ 2000) (D F j G E : Nat) (w : World)
    (hD : D = cmore 0 s.data.toList) (hj : j < 256) (f1 : bits .xor .u32 IntKind.u32.max (D : Int) = (F : Int)) (f2 : bits .xor .u8 ((F : Int) % 256) (b.toNat : Int) = (j : Int))
    (f3 : bits .xor .u32 ((cstep8 j : Nat) : Int) ((F : Int) / 256) = (G : Int)) (f4 : bits .xor .u32 IntKind.u32.max (G : Int) = (E : Int)) (hF : F < 4294967296)
    (hE : E = cmore 0 (s.data.toList ++ [b])) :
    Calls Try.prog 7 #[.string s, .int .u8 (b.toNat : Int)] w fun e w' => e = .returned (.bool true) ∧ Below w.heap.size w w' := by
  obtain ⟨Z, hz, hst⟩ := tab_zero
  have hts := tab_size
  have HO : Hid (∀ W : World, Calls Try.prog 10 #[.string s] W fun e w' => e = .returned (.int .u32 (D : Int)) ∧ Below W.heap.size W w') := fun W => by
    rw [hD]; exact H.of s W (by omega)
  have HP : Hid (∀ W : World, Calls Try.prog 10 #[.string (s ++ ⟨#[b]⟩)] W fun e w' => e = .returned (.int .u32 (E : Int)) ∧ Below W.heap.size W w') := fun W => by
    have h := H.of (s ++ ⟨#[b]⟩) W (by rw [ByteArray.size_append]; show s.size + 1 ≤ 5000; omega)
    rw [ByteArray.data_append, Array.toList_append] at h
    rw [hE]; exact h
  have HE : Hid (∀ W : World, Calls Try.prog 10 #[.string ⟨#[]⟩] W fun e w' => e = .returned (.int .u32 0) ∧ Below W.heap.size W w') := fun W => by
    have h := H.of ⟨#[]⟩ W (by decide)
    rw [more_nil 0 (by omega)] at h
    exact h
  have hcv : ∀ (g : Nat) (W : World), W.cell? ⟨g, 0, none⟩ = some (.int .u8 (b.toNat : Int)) →
      (convert 32 9 (.slice (some ⟨g, 0, none⟩) 1 1)).run Try.prog W = .ok (.string ⟨#[b]⟩) W := fun g W h => conv_one g W b h
  have HC := Lib.hid hcv
  have HJ := Lib.hid hj
  have tj := Lib.hid (tab_at hj)
  have hF' : (F : Int) ≤ 4294967295 := by omega
  have F1 : Hid (∀ x : Int, x = (D : Int) → bits .xor .u32 IntKind.u32.max x = (F : Int)) := fun x h => by rw [h]; exact f1
  have F2 : Hid (∀ x y : Int, x = (F : Int) % 256 → y = (b.toNat : Int) → bits .xor .u8 x y = (j : Int)) := fun x y h h' => by rw [h, h']; exact f2
  have F3 : Hid (∀ x y : Int, x = ((cstep8 j : Nat) : Int) → y = (F : Int) / 256 → bits .xor .u32 x y = (G : Int)) := fun x y h h' => by rw [h, h']; exact f3
  have F4 : Hid (∀ x : Int, x = (G : Int) → bits .xor .u32 IntKind.u32.max x = (E : Int)) := fun x h => by rw [h]; exact f4
  clear hcv hj hD hE hF f1 f2 f3 f4
  go_enter Try.func7, Try.ntmps7
  go_wp2_with fail
  refine (H.shown _).mono ?_
  rintro e w1 ⟨rfl, hb1⟩
  go_wp2_with fail
  refine (H.table _).mono ?_
  rintro e w2 ⟨rfl, hb2⟩
  go_wp2_with fail
  clear hz hst hts
  refine (HO.out _).mono ?_
  rintro e w3 ⟨rfl, hb3⟩
  have hcell : w3.cell? ⟨w2.heap.size, j, none⟩ = some (.int .u32 ((cstep8 j : Nat) : Int)) := by
    refine cell_later hb3 ?_
    rw [← tj.out]
    exact cell_of_row _ _ j _ _ (0, 0) (heap_alloc_last w2 _)
  have hcv := HC.out
  have hsg : IntKind.u32.signed = false := rfl
  have hj := HJ.out
  have f1 := F1.out
  have f2 := F2.out
  have f3 := F3.out
  have f4 := F4.out
  go_wp2_with fail
  refine (HP.out _).mono ?_
  rintro e w4 ⟨rfl, hb4⟩
  go_wp2_with fail
  refine (HE.out _).mono ?_
  rintro e w5 ⟨rfl, hb5⟩
  go_wp2_with fail
  go_ret
  have hB3 : Below w.heap.size w w3 := below_step (w.heap.size |> fun _ => ((below_step hb1 hb2).alloc (below_step hb1 hb2).size _)) hb3
  exact ⟨rfl, below_step (below_step (hB3.alloc hB3.size _) hb4) hb5⟩

theorem short (H : CrcHave) (s : ByteArray) (b : UInt8) (hs : s.size ≤ 2000) (w : World) :
    Calls Try.prog 7 #[.string s, .int .u8 (b.toNat : Int)] w fun e w' => e = .returned (.bool true) ∧ Below w.heap.size w w' := by
  have hb := UInt8.toNat_lt b
  obtain ⟨F, hF⟩ : ∃ F, F = cfeed 4294967295 s.data.toList := ⟨_, rfl⟩
  have hF32 : F < 4294967296 := by rw [hF]; exact feed_lt _ (by omega)
  have hD : cmore 0 s.data.toList = 4294967295 - F := by rw [hF]; rfl
  have hj : (F % 256) ^^^ b.toNat < 256 := Nat.xor_lt_two_pow (n := 8) (by omega) hb
  have hG : cstep8 ((F % 256) ^^^ b.toNat) ^^^ F / 256 < 4294967296 := Nat.xor_lt_two_pow (n := 32) (step8_lt (by omega)) (by omega)
  refine core H s b hs (4294967295 - F) F ((F % 256) ^^^ b.toNat) (cstep8 ((F % 256) ^^^ b.toNat) ^^^ F / 256) (4294967295 - (cstep8 ((F % 256) ^^^ b.toNat) ^^^ F / 256)) w hD.symm hj ?_ ?_ ?_ ?_ hF32 ?_
  · rw [not_u32 (by omega)]; omega
  · exact u8_xor_nat (F % 256) b.toNat (by omega) hb
  · exact u32_xor_nat _ (F / 256) (step8_lt (by omega)) (by omega)
  · exact not_u32 hG
  · rw [more_snoc, ← hF, step8_byte F b.toNat hb]

theorem walk (a0 : ByteArray) (a1 : Int) (w0 : a0.size ≤ maxLen) (w1 : (Lit.int .u8 a1).wf = true) (w : World) :
    Calls Try.prog 7 #[.string a0, .int .u8 a1] w fun e w' => e = .returned (.bool true) ∧ Below w.heap.size w w' := by
  obtain ⟨b, rfl⟩ := byte_of_int (bounds_u8 w1)
  by_cases h : 2000 < a0.size
  · exact long crcHave a0 b.toNat h w0 w
  · exact short crcHave a0 b (by omega) w
end Go.Proofs.Ytonbdgliokhaaaa.lawCrcSteps

namespace Go.Proofs.Ytonbdgliokhaaaa.lawCrcSteps
open Go.ChangeShapes Go.WideShapes Go.ChangeAt Go.RowKit
open Go.ChangeMaps (open_string shut_string)

theorem own : ownKnob Try.prog.godebug = none := by kernel_rfl

set_option maxRecDepth 100000 in
theorem lifted (os : Os) (started : os.Started) (H : Type) (enc : TypeId × Value → H) :
    ReturnsInHanded {} Try.checked os 7 .any (Rows.crcStepsSpec.pre6 enc Try.prog Try.f7 Rows.crcStepsRow.domain false) (Rows.crcStepsSpec.post enc Try.prog Try.f7 false true false false) := by
  refine returnsInHanded_of_change (C := Try.checked) own started (by kernel_rfl) Try.func7
    (ChangeSpec.witness6 (enc := enc) (C := Try.checked) false ⟨#[], #[.string ByteArray.empty, .int .u8 0], []⟩ 8 (by kernel_rfl) (by kernel_rfl) (by kernel_rfl) (by kernel_rfl)) ?_
  intro W base args ds gs before hval0 hW hcnd _
  have hval : ∀ (j : Nat) t v, Try.f7.params[j]? = some t → args[j]? = some v → Value.okWide Try.prog W .any base t v := hval0
  have hW' := hW
  obtain ⟨p, q, hA0, hV, rfl, hfz, hnd⟩ := hW
  have hA : DataW.TrodAll enc Try.prog W 0 (fun _ => true) true Try.f7.params.toList args.toList ds p := hA0
  rw [Try.params7] at hA hval
  obtain ⟨v0, vs0, d0, ds0, p0, q0, hargs, rfl, rfl, h0, r0⟩ := trodAll_cons hA
  obtain ⟨v1, vs1, d1, ds1, p1, q1, rfl, rfl, rfl, h1, r1⟩ := trodAll_cons r0
  obtain ⟨rfl, rfl, rfl⟩ := trodAll_nil r1
  obtain rfl : args = #[v0, v1] := by cases args; simp_all
  obtain ⟨rfl, rfl⟩ := trodVars_none hV
  obtain ⟨a0, rfl, rfl, rfl, w0⟩ := open_string Try.underlying9 (hval 0 9 v0 rfl rfl) h0
  obtain ⟨a1, rfl, rfl, rfl, w1⟩ := open_int Try.underlying5 (hval 1 5 v1 rfl rfl) h1
  clear hA0 hval0
  simp only [List.append_nil] at hW'
  refine (walk a0 a1 w0 w1 W).mono fun e W' ⟨he, hb⟩ => ?_
  subst he
  exact ⟨_, rfl, _, _, _, [], _, [], hW', trodAll_mk1 (shut_bool Try.underlying4 _), (trodAll_cons_mk (shut_string Try.underlying9 w0) (trodAll_cons_mk (shut_int Try.underlying5 w1) trodAll_mk0)), rfl, hb.frame _, fun h => by cases h⟩

theorem proved : Rows.CrcStepsSaid :=
  OpenClaim.holds_of_wide 7 Try.f7 rfl rfl rfl rfl rfl rfl rfl ⟨rfl, rfl, rfl, rfl, rfl⟩ rfl rfl rfl rfl rfl (by kernel_rfl) Try.func7 (by kernel_rfl)
    (of_decide_eq_true (by kernel_rfl)) (by unfold Func.isWrapper; first | (rw [if_pos (by decide +kernel)]; kernel_rfl) | (rw [if_neg (by decide +kernel)]; exact ⟨rfl, rfl⟩))
    (fun os started H enc _ => lifted os started H enc)
#print axioms proved
end Go.Proofs.Ytonbdgliokhaaaa.lawCrcSteps
