/-
  What may be has no field that its kind hasn't: with one of the others turned it may not be: for all operations and stamps.
-/
import Derived.Test.YteknegfocnopgaaDoorOpHave
import Derived.Test.YteknegfocnopgaaDoorOpFieldsA
import Derived.Test.YteknegfocnopgaaDoorOpFieldsB
import Derived.OpenShut
namespace Go.Proofs.YteknegfocnopgaaDoor.lawOpFields
open Go.RowKit OpMath StampMath PackMath

theorem may_no {o : Opn} (h : MayParts o → False) : mayO o = false := by
  cases hm : mayO o with
  | false => rfl
  | true => exact (h (may_parts hm)).elim

theorem off_bounds {o : Opn} (P : MayParts o) : 0 ≤ o.off ∧ o.off ≤ 4095 := by
  have k1 := P.k1
  have k10 := P.k10
  have e := congrArg Opn.off P.bare
  have hd := P.data
  simp only [bareO] at e
  unfold dataB at hd
  by_cases h8 : 8 ≤ o.k
  · rw [if_neg (by omega)] at hd
    by_cases c8 : o.k = 8
    · rw [if_pos c8] at hd
      simp only [Bool.and_eq_true, decide_eq_true_eq] at hd
      omega
    · rw [if_neg c8] at hd
      by_cases c9 : o.k = 9
      · rw [if_pos c9] at hd
        simp only [Bool.and_eq_true, decide_eq_true_eq] at hd
        omega
      · rw [if_neg c9, if_pos (by omega)] at hd
        simp only [Bool.and_eq_true, decide_eq_true_eq] at hd
        omega
  · rw [if_neg h8] at e
    omega

theorem slash_no (s : ByteArray) : nameB (s ++ ⟨#[47]⟩) = false := by
  have h : hasB (s ++ ⟨#[47]⟩) 47 = true := by
    unfold hasB
    rw [ByteArray.data_append]
    simp
  unfold nameB
  rw [h]
  simp

theorem walk0 (H : OpHave) (o : Opn) (t r : Int) (ok : Ok64 o) (z1 : o.name.size ≤ maxLen) (z2 : o.new.size ≤ maxLen) (z3 : o.data.size ≤ maxLen) (ht : (Lit.int .i64 t).wf = true) (hr : (Lit.int .i64 r).wf = true) (w : World) [Tab w] :
    Calls Tryd.prog 5 #[.agg #[.int .i64 o.st, .int .i64 o.sr, .int .i64 o.k, .int .i64 o.pt, .int .i64 o.pr, .int .i64 o.it, .int .i64 o.ir, .int .i64 o.tt, .int .i64 o.tr, .string o.name, .string o.new, .int .i64 o.off, .string o.data], .agg #[.int .i64 t, .int .i64 r]] w fun e w' => e = .returned (.bool true) ∧ Below w.heap.size w w' := by
  have S : Hid (∀ (W : World) [Tab W], Calls Tryd.prog 9 #[] W fun e w' => e = .returned (.bool true) ∧ Below W.heap.size W w') := fun W => H.shown W
  have M := fun (W : World) [Tab W] => H.may o W ok z1 z2 z3
  cases hm : mayO o with
  | false => rw [hm] at M; exact notMay o t r w S M
  | true =>
    rw [hm] at M
    by_cases hz : t = 0 ∧ r = 0
    · obtain ⟨rfl, rfl⟩ := hz
      exact zeroStamp o w S M
    · have P := may_parts hm
      obtain ⟨s1, s2, s3⟩ := may_sizes hm
      obtain ⟨b0, b1⟩ := off_bounds P
      have it : IsI64 t := bounds_i64 ht
      have ir : IsI64 r := bounds_i64 hr
      have hml : (64 : Nat) + 1 ≤ maxLen := by unfold maxLen; omega
      have ze : (⟨#[]⟩ : ByteArray).size = 0 := rfl
      have zx : ∀ (b : ByteArray) (c : UInt8), (b ++ ⟨#[c]⟩ : ByteArray).size = b.size + 1 := fun b c => by rw [ByteArray.size_append]; rfl
      have Ma : Hid ((o.k == 7) = false → ∀ (W : World) [Tab W], Calls Tryd.prog 14 #[.agg #[.int .i64 o.st, .int .i64 o.sr, .int .i64 o.k, .int .i64 o.pt, .int .i64 o.pr, .int .i64 o.it, .int .i64 o.ir, .int .i64 t, .int .i64 r, .string o.name, .string o.new, .int .i64 o.off, .string o.data]] W fun e w' => e = .returned (.bool false) ∧ Below W.heap.size W w') := fun q W _ => by
        have n : mayO { o with tt := t, tr := r } = false := may_no fun p => by
          have e1 := congrArg Opn.tt p.bare
          have e2 := congrArg Opn.tr p.bare
          simp only [bareO] at e1 e2
          rw [beq_eq_false_iff_ne] at q
          rw [if_neg q] at e1 e2
          exact hz ⟨e1.symm, e2.symm⟩
        rw [← n]
        exact H.may { o with tt := t, tr := r } W ⟨ok.st, ok.sr, ok.k, ok.pt, ok.pr, ok.it, ok.ir, it, ir, ok.off⟩ z1 z2 z3
      have Mb : Hid (decide (4 ≤ o.k) = false → ∀ (W : World) [Tab W], Calls Tryd.prog 14 #[.agg #[.int .i64 o.st, .int .i64 o.sr, .int .i64 o.k, .int .i64 o.pt, .int .i64 o.pr, .int .i64 t, .int .i64 r, .int .i64 o.tt, .int .i64 o.tr, .string o.name, .string o.new, .int .i64 o.off, .string o.data]] W fun e w' => e = .returned (.bool false) ∧ Below W.heap.size W w') := fun q W _ => by
        have n : mayO { o with it := t, ir := r } = false := may_no fun p => by
          have e1 := congrArg Opn.it p.bare
          have e2 := congrArg Opn.ir p.bare
          simp only [bareO] at e1 e2
          rw [decide_eq_false_iff_not] at q
          rw [if_neg q] at e1 e2
          exact hz ⟨e1.symm, e2.symm⟩
        rw [← n]
        exact H.may { o with it := t, ir := r } W ⟨ok.st, ok.sr, ok.k, ok.pt, ok.pr, it, ir, ok.tt, ok.tr, ok.off⟩ z1 z2 z3
      have Mc : Hid ((o.k == 3) = false ∧ (o.k == 8) = false → ∀ (W : World) [Tab W], Calls Tryd.prog 14 #[.agg #[.int .i64 o.st, .int .i64 o.sr, .int .i64 o.k, .int .i64 o.pt, .int .i64 o.pr, .int .i64 o.it, .int .i64 o.ir, .int .i64 o.tt, .int .i64 o.tr, .string o.name, .string o.new, .int .i64 o.off, .string (o.data ++ ⟨#[120]⟩)]] W fun e w' => e = .returned (.bool false) ∧ Below W.heap.size W w') := fun q W _ => by
        have n : mayO { o with data := (o.data ++ ⟨#[120]⟩) } = false := may_no fun p => by
          have e1 := congrArg (fun x => ByteArray.size (Opn.data x)) p.bare
          simp only [bareO] at e1
          rw [beq_eq_false_iff_ne, beq_eq_false_iff_ne] at q
          rw [if_neg (by omega), zx, ze] at e1
          omega
        rw [← n]
        exact H.may { o with data := (o.data ++ ⟨#[120]⟩) } W ⟨ok.st, ok.sr, ok.k, ok.pt, ok.pr, ok.it, ok.ir, ok.tt, ok.tr, ok.off⟩ z1 z2 (by show (o.data ++ ⟨#[120]⟩ : ByteArray).size ≤ _; rw [zx]; omega)
      have Md : Hid (True → ∀ (W : World) [Tab W], Calls Tryd.prog 14 #[.agg #[.int .i64 o.st, .int .i64 o.sr, .int .i64 o.k, .int .i64 o.pt, .int .i64 o.pr, .int .i64 o.it, .int .i64 o.ir, .int .i64 o.tt, .int .i64 o.tr, .string o.name, .string o.new, .int .i64 (o.off + 1 + 4095), .string o.data]] W fun e w' => e = .returned (.bool false) ∧ Below W.heap.size W w') := fun _ W _ => by
        have n : mayO { o with off := (o.off + 1 + 4095) } = false := may_no fun p => by
          have := (off_bounds p).2
          simp only at this
          omega
        rw [← n]
        exact H.may { o with off := (o.off + 1 + 4095) } W ⟨ok.st, ok.sr, ok.k, ok.pt, ok.pr, ok.it, ok.ir, ok.tt, ok.tr, by unfold IsI64; show _ ≤ o.off + 1 + 4095 ∧ o.off + 1 + 4095 ≤ _; omega⟩ z1 z2 z3
      have Me : Hid (True → ∀ (W : World) [Tab W], Calls Tryd.prog 14 #[.agg #[.int .i64 o.st, .int .i64 o.sr, .int .i64 o.k, .int .i64 o.pt, .int .i64 o.pr, .int .i64 o.it, .int .i64 o.ir, .int .i64 o.tt, .int .i64 o.tr, .string o.name, .string (o.new ++ ⟨#[47]⟩), .int .i64 o.off, .string o.data]] W fun e w' => e = .returned (.bool false) ∧ Below W.heap.size W w') := fun _ W _ => by
        have n : mayO { o with new := (o.new ++ ⟨#[47]⟩) } = false := may_no fun p => by
          by_cases h7 : o.k = 7
          · rcases p.new with h | h
            · exact h h7
            · simp only at h
              rw [slash_no] at h
              cases h
          · have e1 := congrArg (fun x => ByteArray.size (Opn.new x)) p.bare
            simp only [bareO] at e1
            rw [if_neg h7, zx, ze] at e1
            omega
        rw [← n]
        exact H.may { o with new := (o.new ++ ⟨#[47]⟩) } W ⟨ok.st, ok.sr, ok.k, ok.pt, ok.pr, ok.it, ok.ir, ok.tt, ok.tr, ok.off⟩ z1 (by show (o.new ++ ⟨#[47]⟩ : ByteArray).size ≤ _; rw [zx]; omega) z3
      have Mf : Hid (True → ∀ (W : World) [Tab W], Calls Tryd.prog 14 #[.agg #[.int .i64 0, .int .i64 0, .int .i64 o.k, .int .i64 o.pt, .int .i64 o.pr, .int .i64 o.it, .int .i64 o.ir, .int .i64 o.tt, .int .i64 o.tr, .string o.name, .string o.new, .int .i64 o.off, .string o.data]] W fun e w' => e = .returned (.bool false) ∧ Below W.heap.size W w') := fun _ W _ => by
        have n : mayO { o with st := 0, sr := 0 } = false := may_no fun p => p.st0 rfl
        rw [← n]
        exact H.may { o with st := 0, sr := 0 } W ⟨by unfold IsI64; show _ ≤ (0 : Int) ∧ (0 : Int) ≤ _; omega, by unfold IsI64; show _ ≤ (0 : Int) ∧ (0 : Int) ≤ _; omega, ok.k, ok.pt, ok.pr, ok.it, ok.ir, ok.tt, ok.tr, ok.off⟩ z1 z2 z3
      have hk : Hid (((o.k == 7) = false ∧ decide (4 ≤ o.k) = false ∧ (o.k == 3) = false ∧ (o.k == 8) = false) ∨ ((o.k == 7) = false ∧ decide (4 ≤ o.k) = false ∧ (o.k == 3) = true) ∨ ((o.k == 7) = false ∧ decide (4 ≤ o.k) = true ∧ (o.k == 3) = false ∧ (o.k == 8) = false) ∨ ((o.k == 7) = true ∧ decide (4 ≤ o.k) = true ∧ (o.k == 3) = false ∧ (o.k == 8) = false) ∨ ((o.k == 7) = false ∧ decide (4 ≤ o.k) = true ∧ (o.k == 3) = false ∧ (o.k == 8) = true)) := by
        have k1 := P.k1
        have k10 := P.k10
        show _ ∨ _
        simp only [beq_eq_false_iff_ne, decide_eq_false_iff_not, decide_eq_true_eq, beq_iff_eq, ne_eq]
        omega
      by_cases ht0 : t = 0
      · exact coreB o t r w b0 b1 s3 s2 hk (beq_iff_eq.2 ht0) (beq_eq_false_iff_ne.2 fun h => hz ⟨ht0, h⟩) S M Ma Mb Mc Md Me Mf
      · exact coreA o t r w b0 b1 s3 s2 hk (beq_eq_false_iff_ne.2 ht0) S M Ma Mb Mc Md Me Mf

end Go.Proofs.YteknegfocnopgaaDoor.lawOpFields
