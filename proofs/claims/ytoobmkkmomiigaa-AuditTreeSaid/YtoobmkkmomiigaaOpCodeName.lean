/-
  The walk of op's Name.
-/
import Derived.Test.YtoobmkkmomiigaaOpMath
import Derived.Test.YtoobmkkmomiigaaRows
import Derived.Lib.Bytealg
import Derived.Deep.DeepCutAuto
namespace Go.Proofs.Ytoobmkkmomiigaa
open Go.RowKit OpMath

set_option maxRecDepth 100000 in
theorem code_index (s : ByteArray) (c : Int) (w : World) :
    Calls Try.prog 76 #[.string s, .int .u8 c] w fun e w' => e = .returned (.int .i64 (Lib.indexByte s.data.toList c.toNat.toUInt8)) ∧ w = w' := by
  go_enter Try.func76, Try.ntmps76
  go_wp2
  rw [run_callFunc_extern Try.func77 (by kernel_rfl) (by kernel_rfl) (by kernel_rfl) (e := Extern.BytealgIndexByte.indexByte) (by kernel_rfl), Lib.run_indexByteString]
  simp only [Result.andThen]
  rw [Oper.upon_value]
  go_wp2
  go_ret
  exact ⟨rfl, rfl⟩

theorem code_index2 (s : ByteArray) (c : Int) (w : World) :
    Calls Try.prog 75 #[.string s, .int .u8 c] w fun e w' => e = .returned (.int .i64 (Lib.indexByte s.data.toList c.toNat.toUInt8)) ∧ w = w' := by
  go_enter Try.func75, Try.ntmps75
  go_wp2_with fail
  refine (code_index _ _ _).mono ?_
  rintro e w' ⟨rfl, rfl⟩
  go_wp2_with fail
  go_ret
  exact ⟨rfl, rfl⟩

theorem index_any (l : List UInt8) (c : UInt8) : decide (0 ≤ Lib.indexByte l c) = l.any (· == c) := by
  induction l with
  | nil => rfl
  | cons b l ih =>
    unfold Lib.indexByte
    rw [List.any_cons]
    by_cases hb : (b == c) = true
    · rw [if_pos hb, hb]; rfl
    · rw [if_neg hb, Bool.eq_false_iff.2 hb, Bool.false_or, ← ih]
      have hge := Lib.indexByte_ge l c
      by_cases h : (Lib.indexByte l c == -1) = true
      · rw [if_pos h]
        rw [beq_iff_eq.1 h]
      · rw [if_neg h]
        have hne : Lib.indexByte l c ≠ -1 := fun e => h (by rw [e]; rfl)
        rw [decide_eq_decide]
        omega

theorem hasByte_any (s : ByteArray) (c : Int) (w : World) :
    Calls Try.prog 73 #[.string s, .int .u8 c] w fun e w' => e = .returned (.bool (hasB s c.toNat.toUInt8)) ∧ w = w' := by
  go_enter Try.func73, Try.ntmps73
  go_wp2_with fail
  refine (code_index2 _ _ _).mono ?_
  rintro e w' ⟨rfl, rfl⟩
  go_wp2_with fail
  go_ret
  exact ⟨congrArg (fun b => Ending.returned (.bool b)) (index_any s.data.toList c.toNat.toUInt8), rfl⟩

theorem name_any (s : ByteArray) (hs : s.size ≤ maxLen) (w : World) :
    Calls Try.prog 64 #[.string s] w fun e w' => e = .returned (.bool (nameB s)) ∧ w = w' := by
  have hs' : s.size ≤ 9223372036854775807 := by unfold maxLen at hs; omega
  clear hs
  have HZ : Hid (∀ W : World, Calls Try.prog 73 #[.string s, .int .u8 0] W fun e w' => e = .returned (.bool (hasB s 0)) ∧ W = w') := fun W => hasByte_any s 0 W
  have HL : Hid (∀ W : World, Calls Try.prog 73 #[.string s, .int .u8 47] W fun e w' => e = .returned (.bool (hasB s 47)) ∧ W = w') := fun W => hasByte_any s 47 W
  have HN : Hid (nameB s = (decide (1 ≤ s.size) && decide (s.size ≤ 8) && !(s.toList == [46]) && !(s.toList == [46, 46]) && !hasB s 47 && !hasB s 0)) := rfl
  generalize hasB s 0 = z at HZ HN
  generalize hasB s 47 = l at HL HN
  by_cases h1 : (s.toList == [46]) = true
  · have H1 := Lib.hid h1
    go_enter Try.func64, Try.ntmps64
    go_wp2_with fail
    go_ret
    exact ⟨by rw [HN.out, H1.out]; simp, rfl⟩
  · have h1 : (s.toList == [46]) = false := by simpa using h1
    by_cases h2 : (s.toList == [46, 46]) = true
    · have H2 := Lib.hid h2
      go_enter Try.func64, Try.ntmps64
      go_wp2_with fail
      go_ret
      exact ⟨by rw [HN.out, H2.out]; simp, rfl⟩
    · have h2 : (s.toList == [46, 46]) = false := by simpa using h2
      have H1 := Lib.hid h1
      have H2 := Lib.hid h2
      cases z
      · cases l
        · by_cases h3 : 1 ≤ s.size
          · by_cases h4 : s.size ≤ 8
            · have H3 := Lib.hid (show decide (1 ≤ s.size) = true by simpa using h3)
              have H4 := Lib.hid (show decide (s.size ≤ 8) = true by simpa using h4)
              have d4 : decide ((s.size : Int) ≤ 8) = true := by simp; omega
              clear h4
              go_enter Try.func64, Try.ntmps64
              go_wp2_with fail
              refine (HZ.out _).mono ?_
              rintro e w' ⟨rfl, rfl⟩
              go_wp2_with fail
              refine (HL.out _).mono ?_
              rintro e w' ⟨rfl, rfl⟩
              go_wp2_with fail
              go_ret
              exact ⟨by rw [HN.out, H1.out, H2.out, H3.out, H4.out]; rfl, rfl⟩
            · have d4 : decide ((s.size : Int) ≤ 8) = false := by simp; omega
              have H3 := Lib.hid (show decide (1 ≤ s.size) = true by simpa using h3)
              have H4 := Lib.hid (show decide (s.size ≤ 8) = false by simpa using h4)
              clear h4
              go_enter Try.func64, Try.ntmps64
              go_wp2_with fail
              refine (HZ.out _).mono ?_
              rintro e w' ⟨rfl, rfl⟩
              go_wp2_with fail
              refine (HL.out _).mono ?_
              rintro e w' ⟨rfl, rfl⟩
              go_wp2_with fail
              go_ret
              exact ⟨by rw [HN.out, H3.out, H4.out]; rfl, rfl⟩
          · have d3 : decide (1 ≤ (s.size : Int)) = false := by simp; omega
            have H3 := Lib.hid (show decide (1 ≤ s.size) = false by simpa using h3)
            clear h3
            go_enter Try.func64, Try.ntmps64
            go_wp2_with fail
            refine (HZ.out _).mono ?_
            rintro e w' ⟨rfl, rfl⟩
            go_wp2_with fail
            refine (HL.out _).mono ?_
            rintro e w' ⟨rfl, rfl⟩
            go_wp2_with fail
            go_ret
            exact ⟨by rw [HN.out, H3.out]; rfl, rfl⟩
        · go_enter Try.func64, Try.ntmps64
          go_wp2_with fail
          refine (HZ.out _).mono ?_
          rintro e w' ⟨rfl, rfl⟩
          go_wp2_with fail
          refine (HL.out _).mono ?_
          rintro e w' ⟨rfl, rfl⟩
          go_wp2_with fail
          go_ret
          exact ⟨by rw [HN.out]; simp, rfl⟩
      · go_enter Try.func64, Try.ntmps64
        go_wp2_with fail
        refine (HZ.out _).mono ?_
        rintro e w' ⟨rfl, rfl⟩
        go_wp2_with fail
        go_ret
        exact ⟨by rw [HN.out]; simp, rfl⟩

end Go.Proofs.Ytoobmkkmomiigaa

/-
  The walks of op's has, and of kept.
-/
namespace Go.Proofs.Ytoobmkkmomiigaa
open Go.RowKit OpMath

/-- Has a kind a field? -/
def hasF (k f : Int) : Bool :=
  if f = 1 then decide (1 ≤ k ∧ k ≤ 7)
  else if f = 2 then decide (4 ≤ k ∧ k ≤ 10)
  else if f = 4 then decide (k = 7)
  else if f = 8 then decide (1 ≤ k ∧ k ≤ 7)
  else if f = 16 then decide (k = 7)
  else if f = 32 then decide (8 ≤ k ∧ k ≤ 10)
  else decide (k = 3 ∨ k = 8)

end Go.Proofs.Ytoobmkkmomiigaa
