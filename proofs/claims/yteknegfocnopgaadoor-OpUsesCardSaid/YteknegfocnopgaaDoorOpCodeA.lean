/-
  The walks of op's small functions: a byte in a text, a name, a kind's fields.
-/
import Derived.Test.YteknegfocnopgaaDoorOpMath
import Derived.Test.YteknegfocnopgaaDoorOpTab
import Derived.Test.YteknegfocnopgaaDoorRows
import Derived.Lib.Bytealg
import Derived.Test.YteknegfocnopgaaDoorStampCodeMay
import Derived.Deep.DeepCutAuto
namespace Go.Proofs.YteknegfocnopgaaDoor
open Go.RowKit OpMath

theorem code_index (s : ByteArray) (c : Int) (w : World) :
    Calls Tryd.prog 60 #[.string s, .int .u8 c] w fun e w' => e = .returned (.int .i64 (Lib.indexByte s.data.toList c.toNat.toUInt8)) ∧ w = w' := by
  go_enter Tryd.func60, Tryd.ntmps60
  go_wp2
  rw [run_callFunc_extern Tryd.func62 (by kernel_rfl) (by kernel_rfl) (by kernel_rfl) (e := Extern.BytealgIndexByte.indexByte) (by kernel_rfl), Lib.run_indexByteString]
  simp only [Result.andThen]
  rw [Oper.upon_value]
  go_wp2
  go_ret
  exact ⟨rfl, rfl⟩

theorem code_index2 (s : ByteArray) (c : Int) (w : World) :
    Calls Tryd.prog 50 #[.string s, .int .u8 c] w fun e w' => e = .returned (.int .i64 (Lib.indexByte s.data.toList c.toNat.toUInt8)) ∧ w = w' := by
  go_enter Tryd.func50, Tryd.ntmps50
  go_wp2_with fail
  refine (code_index _ _ _).mono ?_
  rintro e w' ⟨rfl, rfl⟩
  go_wp2_with fail
  go_ret
  exact ⟨rfl, rfl⟩

theorem index_any (l : List UInt8) (c : UInt8) : decide (0 ≤ Lib.indexByte l c) = l.any (· == c) := by
  induction l with
  | nil => rfl
  | cons b l ih =>
    unfold Lib.indexByte
    rw [List.any_cons]
    by_cases hb : (b == c) = true
    · rw [if_pos hb, hb]; rfl
    · rw [if_neg hb, Bool.eq_false_iff.2 hb, Bool.false_or, ← ih]
      have hge := Lib.indexByte_ge l c
      by_cases h : (Lib.indexByte l c == -1) = true
      · rw [if_pos h]
        rw [beq_iff_eq.1 h]
      · rw [if_neg h]
        have hne : Lib.indexByte l c ≠ -1 := fun e => h (by rw [e]; rfl)
        rw [decide_eq_decide]
        omega

theorem hasByte_any (s : ByteArray) (c : Int) (w : World) :
    Calls Tryd.prog 29 #[.string s, .int .u8 c] w fun e w' => e = .returned (.bool (hasB s c.toNat.toUInt8)) ∧ w = w' := by
  go_enter Tryd.func29, Tryd.ntmps29
  go_wp2_with fail
  refine (code_index2 _ _ _).mono ?_
  rintro e w' ⟨rfl, rfl⟩
  go_wp2_with fail
  go_ret
  exact ⟨congrArg (fun b => Ending.returned (.bool b)) (index_any s.data.toList c.toNat.toUInt8), rfl⟩

theorem name_any (s : ByteArray) (hs : s.size ≤ maxLen) (w : World) :
    Calls Tryd.prog 12 #[.string s] w fun e w' => e = .returned (.bool (nameB s)) ∧ w = w' := by
  have hs' : s.size ≤ 9223372036854775807 := by unfold maxLen at hs; omega
  clear hs
  have HZ : Hid (∀ W : World, Calls Tryd.prog 29 #[.string s, .int .u8 0] W fun e w' => e = .returned (.bool (hasB s 0)) ∧ W = w') := fun W => hasByte_any s 0 W
  have HL : Hid (∀ W : World, Calls Tryd.prog 29 #[.string s, .int .u8 47] W fun e w' => e = .returned (.bool (hasB s 47)) ∧ W = w') := fun W => hasByte_any s 47 W
  have HN : Hid (nameB s = (decide (1 ≤ s.size) && decide (s.size ≤ 8) && !(s.toList == [46]) && !(s.toList == [46, 46]) && !hasB s 47 && !hasB s 0)) := rfl
  generalize hasB s 0 = z at HZ HN
  generalize hasB s 47 = l at HL HN
  by_cases h1 : (s.toList == [46]) = true
  · have H1 := Lib.hid h1
    go_enter Tryd.func12, Tryd.ntmps12
    go_wp2_with fail
    go_ret
    exact ⟨by rw [HN.out, H1.out]; simp, rfl⟩
  · have h1 : (s.toList == [46]) = false := by simpa using h1
    by_cases h2 : (s.toList == [46, 46]) = true
    · have H2 := Lib.hid h2
      go_enter Tryd.func12, Tryd.ntmps12
      go_wp2_with fail
      go_ret
      exact ⟨by rw [HN.out, H2.out]; simp, rfl⟩
    · have h2 : (s.toList == [46, 46]) = false := by simpa using h2
      have H1 := Lib.hid h1
      have H2 := Lib.hid h2
      cases z
      · cases l
        · by_cases h3 : 1 ≤ s.size
          · by_cases h4 : s.size ≤ 8
            · have H3 := Lib.hid (show decide (1 ≤ s.size) = true by simpa using h3)
              have H4 := Lib.hid (show decide (s.size ≤ 8) = true by simpa using h4)
              have d4 : decide ((s.size : Int) ≤ 8) = true := by simp; omega
              clear h4
              go_enter Tryd.func12, Tryd.ntmps12
              go_wp2_with fail
              refine (HZ.out _).mono ?_
              rintro e w' ⟨rfl, rfl⟩
              go_wp2_with fail
              refine (HL.out _).mono ?_
              rintro e w' ⟨rfl, rfl⟩
              go_wp2_with fail
              go_ret
              exact ⟨by rw [HN.out, H1.out, H2.out, H3.out, H4.out]; rfl, rfl⟩
            · have d4 : decide ((s.size : Int) ≤ 8) = false := by simp; omega
              have H3 := Lib.hid (show decide (1 ≤ s.size) = true by simpa using h3)
              have H4 := Lib.hid (show decide (s.size ≤ 8) = false by simpa using h4)
              clear h4
              go_enter Tryd.func12, Tryd.ntmps12
              go_wp2_with fail
              refine (HZ.out _).mono ?_
              rintro e w' ⟨rfl, rfl⟩
              go_wp2_with fail
              refine (HL.out _).mono ?_
              rintro e w' ⟨rfl, rfl⟩
              go_wp2_with fail
              go_ret
              exact ⟨by rw [HN.out, H3.out, H4.out]; rfl, rfl⟩
          · have d3 : decide (1 ≤ (s.size : Int)) = false := by simp; omega
            have H3 := Lib.hid (show decide (1 ≤ s.size) = false by simpa using h3)
            clear h3
            go_enter Tryd.func12, Tryd.ntmps12
            go_wp2_with fail
            refine (HZ.out _).mono ?_
            rintro e w' ⟨rfl, rfl⟩
            go_wp2_with fail
            refine (HL.out _).mono ?_
            rintro e w' ⟨rfl, rfl⟩
            go_wp2_with fail
            go_ret
            exact ⟨by rw [HN.out, H3.out]; rfl, rfl⟩
        · go_enter Tryd.func12, Tryd.ntmps12
          go_wp2_with fail
          refine (HZ.out _).mono ?_
          rintro e w' ⟨rfl, rfl⟩
          go_wp2_with fail
          refine (HL.out _).mono ?_
          rintro e w' ⟨rfl, rfl⟩
          go_wp2_with fail
          go_ret
          exact ⟨by rw [HN.out]; simp, rfl⟩
      · go_enter Tryd.func12, Tryd.ntmps12
        go_wp2_with fail
        refine (HZ.out _).mono ?_
        rintro e w' ⟨rfl, rfl⟩
        go_wp2_with fail
        go_ret
        exact ⟨by rw [HN.out]; simp, rfl⟩

end Go.Proofs.YteknegfocnopgaaDoor

/-
  The walks of op's has, and of kept.
-/
namespace Go.Proofs.YteknegfocnopgaaDoor
open Go.RowKit OpMath

/-- Has a kind a field? -/
def hasF (k f : Int) : Bool :=
  if f = 1 then decide (1 ≤ k ∧ k ≤ 7)
  else if f = 2 then decide (4 ≤ k ∧ k ≤ 10)
  else if f = 4 then decide (k = 7)
  else if f = 8 then decide (1 ≤ k ∧ k ≤ 7)
  else if f = 16 then decide (k = 7)
  else if f = 32 then decide (8 ≤ k ∧ k ≤ 10)
  else decide (k = 3 ∨ k = 8)

theorem has_bits (i : Nat) (x f : Int) (hf : f = 1 ∨ f = 2 ∨ f = 4 ∨ f = 8 ∨ f = 16 ∨ f = 32 ∨ f = 64) (hx : tabL[i]? = some x) : (bits BinOp.and IntKind.i64 x f != 0) = hasF (i : Int) f := by
  have hi : i < 11 := by
    by_cases h : i < 11
    · exact h
    · rw [List.getElem?_eq_none (by show 11 ≤ i; omega)] at hx
      cases hx
  have hi2 : i = 0 ∨ i = 1 ∨ i = 2 ∨ i = 3 ∨ i = 4 ∨ i = 5 ∨ i = 6 ∨ i = 7 ∨ i = 8 ∨ i = 9 ∨ i = 10 := by omega
  rcases hi2 with rfl | rfl | rfl | rfl | rfl | rfl | rfl | rfl | rfl | rfl | rfl <;> obtain rfl := Option.some.inj hx <;> rcases hf with rfl | rfl | rfl | rfl | rfl | rfl | rfl <;> decide

theorem has_any (k f : Int) (hf : f = 1 ∨ f = 2 ∨ f = 4 ∨ f = 8 ∨ f = 16 ∨ f = 32 ∨ f = 64) (w : World) [T : Tab w] :
    Calls Tryd.prog 43 #[.int .i64 k, .int .i64 f] w fun e w' => e = .returned (.bool (hasF k f)) ∧ w = w' := by
  by_cases h0 : 0 ≤ k
  · by_cases h1 : k < 11
    · obtain ⟨i, rfl⟩ : ∃ i : Nat, k = (i : Int) := ⟨k.toNat, by omega⟩
      obtain ⟨x, hx⟩ : ∃ x, tabL[i]? = some x := ⟨tabL[i]'(by show i < 11; omega), List.getElem?_eq_getElem _⟩
      have hc := T.at i hx
      have HX := Lib.hid hx
      clear hx
      go_enter Tryd.func43, Tryd.ntmps43
      go_wp2_with fail
      go_ret
      exact ⟨congrArg (fun b => Ending.returned (.bool b)) (has_bits i x f hf HX.out), rfl⟩
    · have d1 : decide (k < 11) = false := by simp; omega
      have H1 := Lib.hid h1
      clear h1
      go_enter Tryd.func43, Tryd.ntmps43
      go_wp2_with fail
      go_ret
      exact ⟨by
        have : hasF k f = false := by
          have := H1.out
          unfold hasF
          rcases hf with rfl | rfl | rfl | rfl | rfl | rfl | rfl <;> simp <;> omega
        rw [this]; rfl, rfl⟩
  · have d0 : decide (0 ≤ k) = false := by simp; omega
    have H0 := Lib.hid h0
    clear h0
    go_enter Tryd.func43, Tryd.ntmps43
    go_wp2_with fail
    go_ret
    exact ⟨by
      have : hasF k f = false := by
        have := H0.out
        unfold hasF
        rcases hf with rfl | rfl | rfl | rfl | rfl | rfl | rfl <;> simp <;> omega
      rw [this]; rfl, rfl⟩


theorem keptText (k f : Int) (s : ByteArray) (b : Bool) (H : Hid (∀ (W : World) [Tab W], Calls Tryd.prog 43 #[.int .i64 k, .int .i64 f] W fun e w' => e = .returned (.bool b) ∧ W = w')) (w : World) [Tab w] :
    Calls Tryd.prog 52 #[.int .i64 k, .int .i64 f, .string s] w fun e w' => e = .returned (.string (if b then s else ⟨#[]⟩)) ∧ Below w.heap.size w w' := by
  cases b
  all_goals
    go_enter Tryd.func52, Tryd.ntmps52
    go_wp2_with fail
    refine (H.out _).mono ?_
    rintro e w' ⟨rfl, rfl⟩
    go_wp2_with fail
    go_ret
    exact ⟨rfl, Below.refl _ _⟩

theorem keptInt (k f : Int) (n : Int) (b : Bool) (H : Hid (∀ (W : World) [Tab W], Calls Tryd.prog 43 #[.int .i64 k, .int .i64 f] W fun e w' => e = .returned (.bool b) ∧ W = w')) (w : World) [Tab w] :
    Calls Tryd.prog 53 #[.int .i64 k, .int .i64 f, .int .i64 n] w fun e w' => e = .returned (.int .i64 (if b then n else 0)) ∧ Below w.heap.size w w' := by
  cases b
  all_goals
    go_enter Tryd.func53, Tryd.ntmps53
    go_wp2_with fail
    refine (H.out _).mono ?_
    rintro e w' ⟨rfl, rfl⟩
    go_wp2_with fail
    go_ret
    exact ⟨rfl, Below.refl _ _⟩

theorem keptStamp (k f t r : Int) (b : Bool) (H : Hid (∀ (W : World) [Tab W], Calls Tryd.prog 43 #[.int .i64 k, .int .i64 f] W fun e w' => e = .returned (.bool b) ∧ W = w')) (w : World) [Tab w] :
    Calls Tryd.prog 51 #[.int .i64 k, .int .i64 f, .agg #[.int .i64 t, .int .i64 r]] w fun e w' => e = .returned (.agg #[.int .i64 (if b then t else 0), .int .i64 (if b then r else 0)]) ∧ Below w.heap.size w w' := by
  cases b
  all_goals
    go_enter Tryd.func51, Tryd.ntmps51
    go_wp2_with fail
    refine (H.out _).mono ?_
    rintro e w' ⟨rfl, rfl⟩
    go_wp2_with fail
  · exact bodyPost_ret (v := .agg #[.int .i64 0, .int .i64 0]) (by simp [results, Tryd.results51, go_sem]) rfl ⟨rfl, (((Below.refl _ w).alloc (Nat.le_refl _) _).alloc (by simp) _).alloc (by rw [World.size_alloc, World.size_alloc]; omega) _⟩
  · exact bodyPost_ret (v := .agg #[.int .i64 t, .int .i64 r]) (by simp [results, Tryd.results51, go_sem]) rfl ⟨rfl, ((Below.refl _ w).alloc (Nat.le_refl _) _).alloc (by simp) _⟩

end Go.Proofs.YteknegfocnopgaaDoor

/-
  The walks of op's mayStamps, mayNames, mayRest.
-/
namespace Go.Proofs.YteknegfocnopgaaDoor
open Go.RowKit OpMath StampMath PackMath

set_option maxRecDepth 100000 in
set_option maxHeartbeats 1600000 in
theorem mayStamps_core (o : Opn) (m0 m1 m2 m3 : Bool) (hz : (o.st = 0 → m0 = (o.sr == 0)))
    (M0 : Hid (∀ W : World, Calls Tryd.prog 54 #[.agg #[.int .i64 o.st, .int .i64 o.sr]] W fun e w' => e = .returned (.bool m0) ∧ Below W.heap.size W w'))
    (M1 : Hid (∀ W : World, Calls Tryd.prog 54 #[.agg #[.int .i64 o.pt, .int .i64 o.pr]] W fun e w' => e = .returned (.bool m1) ∧ Below W.heap.size W w'))
    (M2 : Hid (∀ W : World, Calls Tryd.prog 54 #[.agg #[.int .i64 o.it, .int .i64 o.ir]] W fun e w' => e = .returned (.bool m2) ∧ Below W.heap.size W w'))
    (M3 : Hid (∀ W : World, Calls Tryd.prog 54 #[.agg #[.int .i64 o.tt, .int .i64 o.tr]] W fun e w' => e = .returned (.bool m3) ∧ Below W.heap.size W w')) (w : World) :
    Calls Tryd.prog 32 #[.agg #[.int .i64 o.st, .int .i64 o.sr, .int .i64 o.k, .int .i64 o.pt, .int .i64 o.pr, .int .i64 o.it, .int .i64 o.ir, .int .i64 o.tt, .int .i64 o.tr, .string o.name, .string o.new, .int .i64 o.off, .string o.data]] w fun e w' => e = .returned (.bool (!(o.st == 0) && m0 && m1 && m2 && m3)) ∧ Below w.heap.size w w' := by
  have HZ := Lib.hid hz
  clear hz
  have hcase : (o.st = 0 ∧ o.sr = 0) ∨ (o.st = 0 ∧ o.sr ≠ 0) ∨ o.st ≠ 0 := by omega
  rcases hcase with ⟨a, b⟩ | ⟨a, b⟩ | a
  · have d1 : (o.st == 0) = true := by simp [a]
    have d2 : (o.sr == 0) = true := by simp [b]
    have D1 := Lib.hid d1
    clear a b
    go_enter Tryd.func32, Tryd.ntmps32
    go_wp2_with fail
    go_ret
    exact ⟨by rw [D1.out]; rfl, (Below.refl _ _).alloc (Nat.le_refl _) _⟩
  · have d1 : (o.st == 0) = true := by simp [a]
    have d2 : (o.sr == 0) = false := by simp [b]
    have D1 := Lib.hid d1
    have e0 : m0 = false := by rw [HZ.out a, d2]
    clear a b
    subst e0
    go_enter Tryd.func32, Tryd.ntmps32
    go_wp2_with fail
    refine (M0.out _).mono ?_
    rintro e w1 ⟨rfl, hb1⟩
    go_wp2_with fail
    go_ret
    exact ⟨by rw [D1.out]; rfl, below_step ((Below.refl _ _).alloc (Nat.le_refl _) _) hb1⟩
  · have d1 : (o.st == 0) = false := by simp [a]
    have D1 := Lib.hid d1
    clear a
    cases m0
    · go_enter Tryd.func32, Tryd.ntmps32
      go_wp2_with fail
      refine (M0.out _).mono ?_
      rintro e w1 ⟨rfl, hb1⟩
      go_wp2_with fail
      go_ret
      exact ⟨by rw [D1.out]; rfl, below_step ((Below.refl _ _).alloc (Nat.le_refl _) _) hb1⟩
    · go_enter Tryd.func32, Tryd.ntmps32
      have hh0 : Held w [(w.heap.size, (.cells (opA o) 25))] (w.alloc (.cells (opA o) 25)) := (Held.refl w).alloc (.cells (opA o) 25) rfl
      go_wp2_with fail
      refine (M0.out _).mono ?_
      rintro e w1 ⟨rfl, hb1⟩
      have B1 : Below (w.alloc (.cells (opA o) 25)).heap.size (w.alloc (.cells (opA o) 25)) w1 := hb1
      have HH1 := hh0.step B1
      clear hh0 hb1 B1
      have hc1 := op_cells (HH1.at 0 rfl)
      cases m1
      · go_wp2_with fail
        refine (M1.out _).mono ?_
        rintro e w2 ⟨rfl, hb⟩
        have HH2 := HH1.step hb
        go_wp2_with fail
        go_ret
        exact ⟨by rw [D1.out]; rfl, HH2.below⟩
      · go_wp2_with fail
        refine (M1.out _).mono ?_
        rintro e w2 ⟨rfl, hb⟩
        have HH2 := HH1.step hb
        clear hb HH1 hc1
        have hc2 := op_cells (HH2.at 0 rfl)
        cases m2
        · go_wp2_with fail
          refine (M2.out _).mono ?_
          rintro e w3 ⟨rfl, hb⟩
          have HH3 := HH2.step hb
          go_wp2_with fail
          go_ret
          exact ⟨by rw [D1.out]; rfl, HH3.below⟩
        · go_wp2_with fail
          refine (M2.out _).mono ?_
          rintro e w3 ⟨rfl, hb⟩
          have HH3 := HH2.step hb
          clear hb HH2 hc2
          have hc3 := op_cells (HH3.at 0 rfl)
          go_wp2_with fail
          refine (M3.out _).mono ?_
          rintro e w4 ⟨rfl, hb⟩
          have HH4 := HH3.step hb
          go_wp2_with fail
          go_ret
          exact ⟨by rw [D1.out]; cases m3 <;> rfl, HH4.below⟩

end Go.Proofs.YteknegfocnopgaaDoor

/-
  The walks of op's mayNames and mayRest.
-/
namespace Go.Proofs.YteknegfocnopgaaDoor
open Go.RowKit OpMath StampMath PackMath

/-- What the code asks of the offset and the data. -/
def restB (o : Opn) : Bool :=
  if o.k = 3 then decide (1 ≤ o.data.size) && decide (o.data.size ≤ 32) && !hasB o.data 0
  else if o.k = 8 then !(o.data.toList == []) && decide (0 ≤ o.off) && decide (o.off ≤ 64 - (o.data.size : Int))
  else if o.k = 9 then decide (0 ≤ o.off) && decide (o.off ≤ 64)
  else if o.k = 10 then decide (0 ≤ o.off) && decide (o.off ≤ 4095)
  else true

/-- What the code asks of the names. -/
def namesB (o : Opn) : Bool := (nameB o.name == hasF o.k 8) && (nameB o.new == hasF o.k 16)

set_option maxRecDepth 100000 in
set_option maxHeartbeats 1600000 in
theorem mayRest_any (o : Opn) (hd : o.data.size ≤ maxLen) (ho : IsI64 o.off) (w : World) :
    Calls Tryd.prog 34 #[.agg #[.int .i64 o.st, .int .i64 o.sr, .int .i64 o.k, .int .i64 o.pt, .int .i64 o.pr, .int .i64 o.it, .int .i64 o.ir, .int .i64 o.tt, .int .i64 o.tr, .string o.name, .string o.new, .int .i64 o.off, .string o.data]] w fun e w' => e = .returned (.bool (restB o)) ∧ Below w.heap.size w w' := by
  have hd' : o.data.size ≤ 9223372036854775807 := by unfold maxLen at hd; omega
  have ho1 := ho.1
  have ho2 := ho.2
  clear hd ho
  have HB : Hid (∀ W : World, Calls Tryd.prog 29 #[.string o.data, .int .u8 0] W fun e w' => e = .returned (.bool (hasB o.data 0)) ∧ W = w') := fun W => hasByte_any o.data 0 W
  have R : Hid (restB o = if o.k = 3 then decide (1 ≤ o.data.size) && decide (o.data.size ≤ 32) && !hasB o.data 0
    else if o.k = 8 then !(o.data.toList == []) && decide (0 ≤ o.off) && decide (o.off ≤ 64 - (o.data.size : Int))
    else if o.k = 9 then decide (0 ≤ o.off) && decide (o.off ≤ 64)
    else if o.k = 10 then decide (0 ≤ o.off) && decide (o.off ≤ 4095)
    else true) := rfl
  generalize hasB o.data 0 = hz at HB R
  by_cases h3 : o.k = 3
  · have d3 : (o.k == 3) = true := by simp [h3]
    have RB := Lib.hid (R.out.trans (if_pos h3))
    clear R h3
    by_cases h1 : 1 ≤ o.data.size
    · have T1 := Lib.hid (show decide (1 ≤ o.data.size) = true by simpa using h1)
      by_cases h2 : o.data.size ≤ 32
      · have T2 := Lib.hid (show decide (o.data.size ≤ 32) = true by simpa using h2)
        go_enter Tryd.func34, Tryd.ntmps34
        go_wp2_with fail
        refine (HB.out _).mono ?_
        rintro e w' ⟨rfl, rfl⟩
        go_wp2_with fail
        go_ret
        exact ⟨by rw [RB.out, T1.out, T2.out]; cases hz <;> rfl, (Below.refl _ _).alloc (Nat.le_refl _) _⟩
      · have T2 := Lib.hid (show decide (o.data.size ≤ 32) = false by simpa using h2)
        have f2 : decide ((o.data.size : Int) ≤ 32) = false := by simp; omega
        clear h2
        go_enter Tryd.func34, Tryd.ntmps34
        go_wp2_with fail
        go_ret
        exact ⟨by rw [RB.out, T1.out, T2.out]; rfl, (Below.refl _ _).alloc (Nat.le_refl _) _⟩
    · have T1 := Lib.hid (show decide (1 ≤ o.data.size) = false by simpa using h1)
      have f1 : decide (1 ≤ (o.data.size : Int)) = false := by simp; omega
      clear h1
      go_enter Tryd.func34, Tryd.ntmps34
      go_wp2_with fail
      go_ret
      exact ⟨by rw [RB.out, T1.out]; rfl, (Below.refl _ _).alloc (Nat.le_refl _) _⟩
  · have d3 : (o.k == 3) = false := by simp [h3]
    have R3 := Lib.hid (R.out.trans (if_neg h3))
    clear R h3 HB
    by_cases h8 : o.k = 8
    · have d8 : (o.k == 8) = true := by simp [h8]
      have RB := Lib.hid (R3.out.trans (if_pos h8))
      clear R3 h8
      by_cases h1 : (o.data.toList == []) = true
      · have T1 := Lib.hid h1
        go_enter Tryd.func34, Tryd.ntmps34
        go_wp2_with fail
        go_ret
        exact ⟨by rw [RB.out, T1.out]; rfl, (Below.refl _ _).alloc (Nat.le_refl _) _⟩
      · have h1 : (o.data.toList == []) = false := by simpa using h1
        have T1 := Lib.hid h1
        by_cases h2 : 0 ≤ o.off
        · have T2 := Lib.hid (show decide (0 ≤ o.off) = true by simpa using h2)
          by_cases h4 : o.off ≤ 64 - (o.data.size : Int)
          · have T4 := Lib.hid (show decide (o.off ≤ 64 - (o.data.size : Int)) = true by simpa using h4)
            go_enter Tryd.func34, Tryd.ntmps34
            go_wp2_with fail
            go_ret
            exact ⟨by rw [RB.out, T1.out, T2.out, T4.out]; rfl, (Below.refl _ _).alloc (Nat.le_refl _) _⟩
          · have T4 := Lib.hid (show decide (o.off ≤ 64 - (o.data.size : Int)) = false by simpa using h4)
            have f4 : decide (o.off ≤ 64 - (o.data.size : Int)) = false := by simp; omega
            clear h4
            go_enter Tryd.func34, Tryd.ntmps34
            go_wp2_with fail
            go_ret
            exact ⟨by rw [RB.out, T1.out, T2.out, T4.out]; rfl, (Below.refl _ _).alloc (Nat.le_refl _) _⟩
        · have T2 := Lib.hid (show decide (0 ≤ o.off) = false by simpa using h2)
          have f2 : decide (0 ≤ o.off) = false := by simp; omega
          clear h2
          go_enter Tryd.func34, Tryd.ntmps34
          go_wp2_with fail
          go_ret
          exact ⟨by rw [RB.out, T1.out, T2.out]; rfl, (Below.refl _ _).alloc (Nat.le_refl _) _⟩
    · have d8 : (o.k == 8) = false := by simp [h8]
      have R8 := Lib.hid (R3.out.trans (if_neg h8))
      clear R3 h8
      by_cases h9 : o.k = 9
      · have d9 : (o.k == 9) = true := by simp [h9]
        have RB := Lib.hid (R8.out.trans (if_pos h9))
        clear R8 h9
        by_cases h2 : 0 ≤ o.off
        · have T2 := Lib.hid (show decide (0 ≤ o.off) = true by simpa using h2)
          by_cases h4 : o.off ≤ 64
          · have T4 := Lib.hid (show decide (o.off ≤ 64) = true by simpa using h4)
            go_enter Tryd.func34, Tryd.ntmps34
            go_wp2_with fail
            go_ret
            exact ⟨by rw [RB.out, T2.out, T4.out]; rfl, (Below.refl _ _).alloc (Nat.le_refl _) _⟩
          · have T4 := Lib.hid (show decide (o.off ≤ 64) = false by simpa using h4)
            have f4 : decide (o.off ≤ 64) = false := by simp; omega
            clear h4
            go_enter Tryd.func34, Tryd.ntmps34
            go_wp2_with fail
            go_ret
            exact ⟨by rw [RB.out, T2.out, T4.out]; rfl, (Below.refl _ _).alloc (Nat.le_refl _) _⟩
        · have T2 := Lib.hid (show decide (0 ≤ o.off) = false by simpa using h2)
          have f2 : decide (0 ≤ o.off) = false := by simp; omega
          clear h2
          go_enter Tryd.func34, Tryd.ntmps34
          go_wp2_with fail
          go_ret
          exact ⟨by rw [RB.out, T2.out]; rfl, (Below.refl _ _).alloc (Nat.le_refl _) _⟩
      · have d9 : (o.k == 9) = false := by simp [h9]
        have R9 := Lib.hid (R8.out.trans (if_neg h9))
        clear R8 h9
        by_cases h10 : o.k = 10
        · have d10 : (o.k == 10) = true := by simp [h10]
          have RB := Lib.hid (R9.out.trans (if_pos h10))
          clear R9 h10
          by_cases h2 : 0 ≤ o.off
          · have T2 := Lib.hid (show decide (0 ≤ o.off) = true by simpa using h2)
            by_cases h4 : o.off ≤ 4095
            · have T4 := Lib.hid (show decide (o.off ≤ 4095) = true by simpa using h4)
              go_enter Tryd.func34, Tryd.ntmps34
              go_wp2_with fail
              go_ret
              exact ⟨by rw [RB.out, T2.out, T4.out]; rfl, (Below.refl _ _).alloc (Nat.le_refl _) _⟩
            · have T4 := Lib.hid (show decide (o.off ≤ 4095) = false by simpa using h4)
              have f4 : decide (o.off ≤ 4095) = false := by simp; omega
              clear h4
              go_enter Tryd.func34, Tryd.ntmps34
              go_wp2_with fail
              go_ret
              exact ⟨by rw [RB.out, T2.out, T4.out]; rfl, (Below.refl _ _).alloc (Nat.le_refl _) _⟩
          · have T2 := Lib.hid (show decide (0 ≤ o.off) = false by simpa using h2)
            have f2 : decide (0 ≤ o.off) = false := by simp; omega
            clear h2
            go_enter Tryd.func34, Tryd.ntmps34
            go_wp2_with fail
            go_ret
            exact ⟨by rw [RB.out, T2.out]; rfl, (Below.refl _ _).alloc (Nat.le_refl _) _⟩
        · have d10 : (o.k == 10) = false := by simp [h10]
          have RB := Lib.hid (R9.out.trans (if_neg h10))
          clear R9 h10
          go_enter Tryd.func34, Tryd.ntmps34
          go_wp2_with fail
          go_ret
          exact ⟨by rw [RB.out]; rfl, (Below.refl _ _).alloc (Nat.le_refl _) _⟩

set_option maxRecDepth 100000 in
set_option maxHeartbeats 1600000 in
theorem mayNames_core (o : Opn) (b1 b2 f1 f2 : Bool)
    (N1 : Hid (∀ (W : World) [Tab W], Calls Tryd.prog 12 #[.string o.name] W fun e w' => e = .returned (.bool b1) ∧ Below W.heap.size W w'))
    (N2 : Hid (∀ (W : World) [Tab W], Calls Tryd.prog 12 #[.string o.new] W fun e w' => e = .returned (.bool b2) ∧ Below W.heap.size W w'))
    (F1 : Hid (∀ (W : World) [Tab W], Calls Tryd.prog 43 #[.int .i64 o.k, .int .i64 8] W fun e w' => e = .returned (.bool f1) ∧ Below W.heap.size W w'))
    (F2 : Hid (∀ (W : World) [Tab W], Calls Tryd.prog 43 #[.int .i64 o.k, .int .i64 16] W fun e w' => e = .returned (.bool f2) ∧ Below W.heap.size W w')) (w : World) [Tab w] :
    Calls Tryd.prog 33 #[.agg #[.int .i64 o.st, .int .i64 o.sr, .int .i64 o.k, .int .i64 o.pt, .int .i64 o.pr, .int .i64 o.it, .int .i64 o.ir, .int .i64 o.tt, .int .i64 o.tr, .string o.name, .string o.new, .int .i64 o.off, .string o.data]] w fun e w' => e = .returned (.bool ((b1 == f1) && (b2 == f2))) ∧ Below w.heap.size w w' := by
  have hh0 : (w.alloc (.cells (opA o) 25)).heap[w.heap.size]? = some (.cells (opA o) 25 (0, 0)) := heap_alloc_new w _
  have hB0 : Below w.heap.size w (w.alloc (.cells (opA o) 25)) := (Below.refl _ _).alloc (Nat.le_refl _) _
  go_enter Tryd.func33, Tryd.ntmps33
  go_upto_region 1 with fail
  have iw0 : Tab (w.alloc (.cells (opA o) 25)) := inferInstance
  change Code.wp _ _ _ _ (w.alloc (.cells (opA o) 25))
  generalize w.alloc (.cells (opA o) 25) = w0 at hh0 hB0 iw0 ⊢
  obtain ⟨l0, l1, l2, l3, l4, l5, l6, l7, l8, l9, l10, l11, l12⟩ := op_cells hh0
  have q2 := later_cell l2
  have q9 := later_cell l9
  have q10 := later_cell l10
  clear l0 l1 l2 l3 l4 l5 l6 l7 l8 l9 l10 l11 l12
  cases b1 <;> cases f1 <;> cases b2 <;> cases f2
  all_goals
    refine wp_region_later (by kernel_rfl) (by kernel_rfl) ?_
    repeat (go_big_quiet_step (first | (with_reducible exact later_call (N1.out _)) | (with_reducible exact later_call (N2.out _)) | (with_reducible exact later_call (F1.out _)) | (with_reducible exact later_call (F2.out _))))
    refine wpQuiet_nil ?_
    intro _ hw'
    obtain ⟨y1, rfl⟩ := hw'
    go_wp2_with fail
    go_ret
    exact ⟨rfl, below_step hB0 (later_below w0 y1)⟩

theorem mayNames_any (o : Opn) (hn : o.name.size ≤ maxLen) (hm : o.new.size ≤ maxLen) (w : World) [Tab w] :
    Calls Tryd.prog 33 #[.agg #[.int .i64 o.st, .int .i64 o.sr, .int .i64 o.k, .int .i64 o.pt, .int .i64 o.pr, .int .i64 o.it, .int .i64 o.ir, .int .i64 o.tt, .int .i64 o.tr, .string o.name, .string o.new, .int .i64 o.off, .string o.data]] w fun e w' => e = .returned (.bool (namesB o)) ∧ Below w.heap.size w w' :=
  mayNames_core o (nameB o.name) (nameB o.new) (hasF o.k 8) (hasF o.k 16) (fun W _ => (name_any o.name hn W).mono fun _ _ ⟨he, hw⟩ => ⟨he, hw ▸ Below.refl _ _⟩) (fun W _ => (name_any o.new hm W).mono fun _ _ ⟨he, hw⟩ => ⟨he, hw ▸ Below.refl _ _⟩)
    (fun W _ => (has_any o.k 8 (by omega) W).mono fun _ _ ⟨he, hw⟩ => ⟨he, hw ▸ Below.refl _ _⟩) (fun W _ => (has_any o.k 16 (by omega) W).mono fun _ _ ⟨he, hw⟩ => ⟨he, hw ▸ Below.refl _ _⟩) w

end Go.Proofs.YteknegfocnopgaaDoor
