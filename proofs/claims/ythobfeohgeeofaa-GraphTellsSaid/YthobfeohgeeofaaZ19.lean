/-
  The landed graph's Under: upwards by Parent, to the end.
-/
import Derived.Test.YthobfeohgeeofaaZ18
import Derived.Test.YthobfeohgeeofaaZ18
import Derived.Test.YthobfeohgeeofaaZ04
import Derived.Test.YthobfeohgeeofaaZ03
import Derived.Deep.Cut
import Derived.Test.YthobfeohgeeofaaZ02
import Derived.Test.YthobfeohgeeofaaRows
import Derived.Lib.Bytealg
import Derived.Deep.DeepCutAuto
namespace Go.Proofs.Ythobfeohgeeofaa
open Go.RowKit StampMath GraphMath

theorem under_here (g : Gr) (a : St) : underG g a a = true := by
  unfold underG
  rw [underN_step, if_pos rfl]

theorem under_end {g : Gr} {a b : St} (hq : a ≠ b) (hp : parentG g a = none) : underG g a b = false := by
  unfold underG
  rw [underN_step, if_neg hq, hp]

theorem rank_up {g : Gr} {f : St → Nat} (hf : ∀ e ∈ g.E, g.isDir e.ino → f e.dir < f e.ino) {a p : St} (hp : parentG g a = some p) : f p < f a := by
  obtain ⟨e, he, h1, h2, h3⟩ := parent_of hp
  have := hf e he (by rw [h1]; exact h3)
  rwa [h1, h2] at this

/-- The two boxes that the walk of Under holds. -/
structure VBox (w W : World) (cur dir : St) : Prop where
  b : W.heap[w.heap.size]? = some (.cells #[.int .i64 cur.1, .int .i64 cur.2] 24 (0, 0))
  c : W.heap[w.heap.size + 1]? = some (.cells #[.int .i64 dir.1, .int .i64 dir.2] 24 (0, 0))
  low : Below w.heap.size w W

theorem VBox.step {w W W' : World} {cur dir : St} (h : VBox w W cur dir) (hb : Below W.heap.size W W') : VBox w W' cur dir :=
  ⟨(hb.block _ (heap_lt h.b)).trans h.b, (hb.block _ (heap_lt h.c)).trans h.c, below_step h.low hb⟩

theorem VBox.set {w W : World} {cur dir : St} (h : VBox w W cur dir) (up : St) :
    VBox w ((W.setCell ⟨w.heap.size, 0, none⟩ (.int .i64 up.1)).setCell ⟨w.heap.size, 1, none⟩ (.int .i64 up.2)) up dir :=
  ⟨box_set h.b, (heap_setCell_other _ _ _ _ (by dsimp only; omega)).trans ((heap_setCell_other _ _ _ _ (by dsimp only; omega)).trans h.c),
    (h.low.setCell (Nat.le_refl _) _).setCell (Nat.le_refl _) _⟩

set_option maxRecDepth 100000 in
set_option maxHeartbeats 1600000 in
theorem under_code (a : Addr) (S : Nat → Prop) (g : Gr) (id dir : St) (w : World) (h : GIn w S a g) (hg : g.ok) :
    Calls Try.prog 22 #[.pointer (some a), .agg (stA id), .agg (stA dir)] w fun e w' => e = .returned (.bool (underG g id dir)) ∧ Below w.heap.size w w' := by
  obtain ⟨f, hf⟩ := hg.rank
  have HP : Hid (∀ (x : St) (W : World), Below w.heap.size w W → Calls Try.prog 17 #[.pointer (some a), .agg #[.int .i64 x.1, .int .i64 x.2]] W fun e w' => e = .returned (.tuple #[.agg #[.int .i64 ((parentG g x).getD (0, 0)).1, .int .i64 ((parentG g x).getD (0, 0)).2], .bool (parentG g x).isSome]) ∧ Below W.heap.size W w') := fun x W hW =>
    parent_code a S g x W (h.keep fun i hi => hW.block i (h.lt i hi)) hg
  have HUp : Hid (∀ x p, parentG g x = some p → f p < f x) := fun x p hp => rank_up hf hp
  have HSt : Hid (∀ x p, parentG g x = some p → x ≠ dir → underG g x dir = underG g p dir) := fun x p hp hq => hg.under_step hp hq
  have HEnd : Hid (∀ x, parentG g x = none → x ≠ dir → underG g x dir = false) := fun x hp hq => under_end hq hp
  obtain ⟨b0, rfl⟩ : ∃ b0, a = ⟨b0, 0, none⟩ := by obtain ⟨b, _, _, rfl, _⟩ := h; exact ⟨b, rfl⟩
  clear h hf
  have hb0 : VBox w ((w.alloc (.cells #[.int .i64 id.1, .int .i64 id.2] 24)).alloc (.cells #[.int .i64 dir.1, .int .i64 dir.2] 24)) id dir :=
    ⟨heap_alloc2_old w _ _, heap_alloc2_new w _ _, ((Below.refl _ _).alloc (Nat.le_refl _) _).alloc (by simp) _⟩
  unfold stA
  go_enter Try.func22, Try.ntmps22
  go_wp2_with fail
  go_loopg [7] (f id + 2) (fun gk u wr => ∃ (b : Bool) (cur : St), u = .bool b ∧ gk = (if b = true then f cur + 2 else 1) ∧ Hid (if b = true then underG g cur dir = underG g id dir else underG g id dir = false) ∧ VBox w wr cur dir)
  case atStart => exact ⟨true, id, rfl, rfl, rfl, hb0⟩
  case round =>
    obtain ⟨b, cur, rfl, hgk, hun, hH⟩ := hrel
    clear hb0
    cases b with
    | false =>
      have HU : Hid (underG g id dir = false) := hun.out
      clear hun hgk
      go_wp2_with fail
      go_ret
      exact ⟨by rw [HU.out]; rfl, hH.low⟩
    | true =>
      have hgk' : gk = f cur + 2 := hgk
      have HU : Hid (underG g cur dir = underG g id dir) := hun.out
      clear hun hgk
      obtain ⟨c3, c4⟩ := two_cells hH.b
      obtain ⟨c5, c6⟩ := two_cells hH.c
      obtain ⟨f0, f1⟩ := two_free hH.b
      by_cases hq : cur = dir
      · have hv := eqSt_yes hq
        have HT : Hid (underG g id dir = true) := by rw [← HU.out, hq]; exact under_here g dir
        subst hq
        go_wp2_with fail
        go_ret
        exact ⟨by rw [HT.out]; rfl, hH.low⟩
      · have hv := eqSt_no hq
        have HPc := Lib.hid (HP.out cur)
        cases hpar : parentG g cur with
        | none =>
          have HF : Hid (underG g id dir = false) := by rw [← HU.out]; exact HEnd.out cur hpar hq
          rw [hpar] at HPc
          have HQ : Hid (∀ (W : World), Below w.heap.size w W → Calls Try.prog 17 #[.pointer (some ⟨b0, 0, none⟩), .agg #[.int .i64 cur.1, .int .i64 cur.2]] W fun e w' => e = .returned (.tuple #[.agg #[.int .i64 0, .int .i64 0], .bool false]) ∧ Below W.heap.size W w') := HPc
          clear HPc hpar HU hq
          go_wp2_with fail
          refine (HQ.out _ hH.low).mono ?_
          rintro e w1 ⟨rfl, hb1⟩
          have hH1 := hH.step hb1
          clear hH hb1 c3 c4 c5 c6 f0 f1 hv
          obtain ⟨c3, c4⟩ := two_cells hH1.b
          obtain ⟨f0, f1⟩ := two_free hH1.b
          go_wp2_with fail
          go_roundg 1
          case measure => omega
          case rel => exact ⟨false, (0, 0), rfl, rfl, HF.out, hH1.set (0, 0)⟩
        | some up =>
          have HS : Hid (underG g up dir = underG g id dir) := by rw [← HU.out]; exact (HSt.out cur up hpar hq).symm
          have hr := HUp.out cur up hpar
          rw [hpar] at HPc
          have HQ : Hid (∀ (W : World), Below w.heap.size w W → Calls Try.prog 17 #[.pointer (some ⟨b0, 0, none⟩), .agg #[.int .i64 cur.1, .int .i64 cur.2]] W fun e w' => e = .returned (.tuple #[.agg #[.int .i64 up.1, .int .i64 up.2], .bool true]) ∧ Below W.heap.size W w') := HPc
          clear HPc hpar HU hq
          go_wp2_with fail
          refine (HQ.out _ hH.low).mono ?_
          rintro e w1 ⟨rfl, hb1⟩
          have hH1 := hH.step hb1
          clear hH hb1 c3 c4 c5 c6 f0 f1 hv
          obtain ⟨c3, c4⟩ := two_cells hH1.b
          obtain ⟨f0, f1⟩ := two_free hH1.b
          go_wp2_with fail
          go_roundg (f up + 2)
          case measure => omega
          case rel => exact ⟨true, up, rfl, rfl, HS.out, hH1.set up⟩

end Go.Proofs.Ythobfeohgeeofaa

/-
  The walk of op's Name.
-/
namespace Go.Proofs.Ythobfeohgeeofaa
open Go.RowKit OpMath

set_option maxRecDepth 100000 in
theorem code_index (s : ByteArray) (c : Int) (w : World) :
    Calls Try.prog 106 #[.string s, .int .u8 c] w fun e w' => e = .returned (.int .i64 (Lib.indexByte s.data.toList c.toNat.toUInt8)) ∧ w = w' := by
  go_enter Try.func106, Try.ntmps106
  go_wp2
  rw [run_callFunc_extern Try.func109 (by kernel_rfl) (by kernel_rfl) (by kernel_rfl) (e := Extern.BytealgIndexByte.indexByte) (by kernel_rfl), Lib.run_indexByteString]
  simp only [Result.andThen]
  rw [Oper.upon_value]
  go_wp2
  go_ret
  exact ⟨rfl, rfl⟩

theorem code_index2 (s : ByteArray) (c : Int) (w : World) :
    Calls Try.prog 97 #[.string s, .int .u8 c] w fun e w' => e = .returned (.int .i64 (Lib.indexByte s.data.toList c.toNat.toUInt8)) ∧ w = w' := by
  go_enter Try.func97, Try.ntmps97
  go_wp2_with fail
  refine (code_index _ _ _).mono ?_
  rintro e w' ⟨rfl, rfl⟩
  go_wp2_with fail
  go_ret
  exact ⟨rfl, rfl⟩

theorem index_any (l : List UInt8) (c : UInt8) : decide (0 ≤ Lib.indexByte l c) = l.any (· == c) := by
  induction l with
  | nil => rfl
  | cons b l ih =>
    unfold Lib.indexByte
    rw [List.any_cons]
    by_cases hb : (b == c) = true
    · rw [if_pos hb, hb]; rfl
    · rw [if_neg hb, Bool.eq_false_iff.2 hb, Bool.false_or, ← ih]
      have hge := Lib.indexByte_ge l c
      by_cases h : (Lib.indexByte l c == -1) = true
      · rw [if_pos h]
        rw [beq_iff_eq.1 h]
      · rw [if_neg h]
        have hne : Lib.indexByte l c ≠ -1 := fun e => h (by rw [e]; rfl)
        rw [decide_eq_decide]
        omega

theorem hasByte_any (s : ByteArray) (c : Int) (w : World) :
    Calls Try.prog 76 #[.string s, .int .u8 c] w fun e w' => e = .returned (.bool (hasB s c.toNat.toUInt8)) ∧ w = w' := by
  go_enter Try.func76, Try.ntmps76
  go_wp2_with fail
  refine (code_index2 _ _ _).mono ?_
  rintro e w' ⟨rfl, rfl⟩
  go_wp2_with fail
  go_ret
  exact ⟨congrArg (fun b => Ending.returned (.bool b)) (index_any s.data.toList c.toNat.toUInt8), rfl⟩

theorem name_any (s : ByteArray) (hs : s.size ≤ maxLen) (w : World) :
    Calls Try.prog 65 #[.string s] w fun e w' => e = .returned (.bool (nameB s)) ∧ w = w' := by
  have hs' : s.size ≤ 9223372036854775807 := by unfold maxLen at hs; omega
  clear hs
  have HZ : Hid (∀ W : World, Calls Try.prog 76 #[.string s, .int .u8 0] W fun e w' => e = .returned (.bool (hasB s 0)) ∧ W = w') := fun W => hasByte_any s 0 W
  have HL : Hid (∀ W : World, Calls Try.prog 76 #[.string s, .int .u8 47] W fun e w' => e = .returned (.bool (hasB s 47)) ∧ W = w') := fun W => hasByte_any s 47 W
  have HN : Hid (nameB s = (decide (1 ≤ s.size) && decide (s.size ≤ 8) && !(s.toList == [46]) && !(s.toList == [46, 46]) && !hasB s 47 && !hasB s 0)) := rfl
  generalize hasB s 0 = z at HZ HN
  generalize hasB s 47 = l at HL HN
  by_cases h1 : (s.toList == [46]) = true
  · have H1 := Lib.hid h1
    go_enter Try.func65, Try.ntmps65
    go_wp2_with fail
    go_ret
    exact ⟨by rw [HN.out, H1.out]; simp, rfl⟩
  · have h1 : (s.toList == [46]) = false := by simpa using h1
    by_cases h2 : (s.toList == [46, 46]) = true
    · have H2 := Lib.hid h2
      go_enter Try.func65, Try.ntmps65
      go_wp2_with fail
      go_ret
      exact ⟨by rw [HN.out, H2.out]; simp, rfl⟩
    · have h2 : (s.toList == [46, 46]) = false := by simpa using h2
      have H1 := Lib.hid h1
      have H2 := Lib.hid h2
      cases z
      · cases l
        · by_cases h3 : 1 ≤ s.size
          · by_cases h4 : s.size ≤ 8
            · have H3 := Lib.hid (show decide (1 ≤ s.size) = true by simpa using h3)
              have H4 := Lib.hid (show decide (s.size ≤ 8) = true by simpa using h4)
              have d4 : decide ((s.size : Int) ≤ 8) = true := by simp; omega
              clear h4
              go_enter Try.func65, Try.ntmps65
              go_wp2_with fail
              refine (HZ.out _).mono ?_
              rintro e w' ⟨rfl, rfl⟩
              go_wp2_with fail
              refine (HL.out _).mono ?_
              rintro e w' ⟨rfl, rfl⟩
              go_wp2_with fail
              go_ret
              exact ⟨by rw [HN.out, H1.out, H2.out, H3.out, H4.out]; rfl, rfl⟩
            · have d4 : decide ((s.size : Int) ≤ 8) = false := by simp; omega
              have H3 := Lib.hid (show decide (1 ≤ s.size) = true by simpa using h3)
              have H4 := Lib.hid (show decide (s.size ≤ 8) = false by simpa using h4)
              clear h4
              go_enter Try.func65, Try.ntmps65
              go_wp2_with fail
              refine (HZ.out _).mono ?_
              rintro e w' ⟨rfl, rfl⟩
              go_wp2_with fail
              refine (HL.out _).mono ?_
              rintro e w' ⟨rfl, rfl⟩
              go_wp2_with fail
              go_ret
              exact ⟨by rw [HN.out, H3.out, H4.out]; rfl, rfl⟩
          · have d3 : decide (1 ≤ (s.size : Int)) = false := by simp; omega
            have H3 := Lib.hid (show decide (1 ≤ s.size) = false by simpa using h3)
            clear h3
            go_enter Try.func65, Try.ntmps65
            go_wp2_with fail
            refine (HZ.out _).mono ?_
            rintro e w' ⟨rfl, rfl⟩
            go_wp2_with fail
            refine (HL.out _).mono ?_
            rintro e w' ⟨rfl, rfl⟩
            go_wp2_with fail
            go_ret
            exact ⟨by rw [HN.out, H3.out]; rfl, rfl⟩
        · go_enter Try.func65, Try.ntmps65
          go_wp2_with fail
          refine (HZ.out _).mono ?_
          rintro e w' ⟨rfl, rfl⟩
          go_wp2_with fail
          refine (HL.out _).mono ?_
          rintro e w' ⟨rfl, rfl⟩
          go_wp2_with fail
          go_ret
          exact ⟨by rw [HN.out]; simp, rfl⟩
      · go_enter Try.func65, Try.ntmps65
        go_wp2_with fail
        refine (HZ.out _).mono ?_
        rintro e w' ⟨rfl, rfl⟩
        go_wp2_with fail
        go_ret
        exact ⟨by rw [HN.out]; simp, rfl⟩

end Go.Proofs.Ythobfeohgeeofaa

/-
  The walks of op's has, and of kept.
-/
namespace Go.Proofs.Ythobfeohgeeofaa
open Go.RowKit OpMath

/-- Has a kind a field? -/
def hasF (k f : Int) : Bool :=
  if f = 1 then decide (1 ≤ k ∧ k ≤ 7)
  else if f = 2 then decide (4 ≤ k ∧ k ≤ 10)
  else if f = 4 then decide (k = 7)
  else if f = 8 then decide (1 ≤ k ∧ k ≤ 7)
  else if f = 16 then decide (k = 7)
  else if f = 32 then decide (8 ≤ k ∧ k ≤ 10)
  else decide (k = 3 ∨ k = 8)

end Go.Proofs.Ythobfeohgeeofaa
