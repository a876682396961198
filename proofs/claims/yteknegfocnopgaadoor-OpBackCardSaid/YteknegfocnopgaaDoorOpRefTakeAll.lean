/-
  The contract of the document's own Take (operations), from its two walks.
-/
import Derived.Test.YteknegfocnopgaaDoorOpRefTake
namespace Go.Proofs.YteknegfocnopgaaDoor
open Go.RowKit OpMath StampMath PackMath

/-- An integer, two texts, four stamps: what is taken, the rest, the error. -/
def intP (l : List UInt8) : Int × List UInt8 × Int := match takeL l with | none => (0, [], 2) | some (m, t) => (unzig m, t, 0)
def textP (l : List UInt8) : List UInt8 × List UInt8 × Int := match textL l 64 with | none => ([], [], 2) | some (a, b) => (a, b, 0)
def stampsP (l : List UInt8) : List UInt8 × Int := match stampsN 4 l with | none => ([], 2) | some (_, u) => (u, 0)

theorem intP_len (l : List UInt8) : (intP l).2.1.length ≤ l.length := by
  unfold intP
  cases h : takeL l with
  | none => exact Nat.zero_le _
  | some p => exact takeL_len h

theorem text_lens {l : List UInt8} {most : Int} {a b : List UInt8} (h : textL l most = some (a, b)) : a.length ≤ l.length ∧ b.length ≤ l.length ∧ (a.length : Int) ≤ most := by
  obtain ⟨h1, h2, h3⟩ := text_textL h
  refine ⟨h3, ?_, h2⟩
  rw [← h1]; simp; omega

theorem textP_len (l : List UInt8) : (textP l).2.1.length ≤ l.length := by
  unfold textP
  cases h : textL l 64 with
  | none => exact Nat.zero_le _
  | some p => exact (text_lens h).2.1

theorem stampsN_len : ∀ (n : Nat) (l : List UInt8) (xs : List (Int × Int)) (u : List UInt8), stampsN n l = some (xs, u) → xs.length = n ∧ u.length ≤ l.length
  | 0, l, xs, u, h => by
    simp only [stampsN, Option.some.injEq, Prod.mk.injEq] at h
    obtain ⟨rfl, rfl⟩ := h
    exact ⟨rfl, Nat.le_refl _⟩
  | n + 1, l, xs, u, h => by
    cases hs : stampL l with
    | none => rw [stampsN_none hs] at h; cases h
    | some p =>
      obtain ⟨t, r, v⟩ := p
      rw [stampsN_some hs] at h
      cases hn : stampsN n v with
      | none => rw [hn] at h; cases h
      | some y =>
        obtain ⟨ys, z⟩ := y
        rw [hn] at h
        simp only [Option.map_some, Option.some.injEq, Prod.mk.injEq] at h
        obtain ⟨rfl, rfl⟩ := h
        have h1 := stampsN_len n v ys z hn
        have h2 := (stampL_very hs).2.2.2.2
        refine ⟨by simp [h1.1], by omega⟩

theorem stampsP_len (l : List UInt8) : (stampsP l).1.length ≤ l.length := by
  unfold stampsP
  cases h : stampsN 4 l with
  | none => exact Nat.zero_le _
  | some p => exact (stampsN_len 4 l _ _ h).2

/-- The operation with which a list begins, and the rest. -/
def takeO (l : List UInt8) : Option (Opn × List UInt8) :=
  match takeL l with
  | none => none
  | some (k, l1) => match stampsN 4 l1 with
    | some ([(st, sr), (pt, pr), (it, ir), (tt, tr)], l2) => match textL l2 64 with
      | none => none
      | some (a, l3) => match textL l3 64 with
        | none => none
        | some (b, l4) => match takeL l4 with
          | none => none
          | some (f, l5) => match textL l5 64 with
            | none => none
            | some (d, l6) => if mayO ⟨st, sr, unzig k, pt, pr, it, ir, tt, tr, ⟨a.toArray⟩, ⟨b.toArray⟩, unzig f, ⟨d.toArray⟩⟩ then some (⟨st, sr, unzig k, pt, pr, it, ir, tt, tr, ⟨a.toArray⟩, ⟨b.toArray⟩, unzig f, ⟨d.toArray⟩⟩, l6) else none
    | _ => none

/-- The three results. -/
def opRes : Option (Opn × List UInt8) → Value
  | none => .tuple #[.agg (opA zO), .string ⟨#[]⟩, .int .i64 2]
  | some (o, l) => .tuple #[.agg (opA o), .string ⟨l.toArray⟩, .int .i64 0]

theorem intP_calls (s : ByteArray) (hs : s.size ≤ 4000) (W : World) : Calls Tryd.prog 26 #[.string s] W fun e w' => e = .returned (.tuple #[.int .i64 (intP s.data.toList).1, .string ⟨(intP s.data.toList).2.1.toArray⟩, .int .i64 (intP s.data.toList).2.2]) ∧ Below W.heap.size W w' := by
  cases h : takeL s.data.toList with
  | none => simp only [intP, h]; exact refTakeInt_none s hs h W
  | some p => obtain ⟨m, t⟩ := p; simp only [intP, h]; exact refTakeInt_some s hs m t h W

theorem textP_calls (s : ByteArray) (hs : s.size ≤ 4000) (W : World) : Calls Tryd.prog 28 #[.string s, .int .i64 64] W fun e w' => e = .returned (.tuple #[.string ⟨(textP s.data.toList).1.toArray⟩, .string ⟨(textP s.data.toList).2.1.toArray⟩, .int .i64 (textP s.data.toList).2.2]) ∧ Below W.heap.size W w' := by
  have H := refTakeText_any s hs 64 (by unfold IsI64; omega) W
  cases h : textL s.data.toList 64 with
  | none => rw [h] at H; simp only [textP, h]; exact H
  | some p => obtain ⟨a, b⟩ := p; rw [h] at H; simp only [textP, h]; exact H

theorem stampsP_calls (s : ByteArray) (hs : s.size ≤ 4000) (W : World) : Calls Tryd.prog 27 #[.string s, .int .i64 4] W fun e w' => (∃ (A : Option Addr) (n c : Nat), e = .returned (.tuple #[.slice A n c, .string ⟨(stampsP s.data.toList).1.toArray⟩, .int .i64 (stampsP s.data.toList).2])) ∧ Below W.heap.size W w' := by
  refine (refStamps s hs W).mono ?_
  intro e w' h
  cases hs : stampsN 4 s.data.toList with
  | none => rw [hs] at h; simp only [stampsP, hs]; exact ⟨⟨none, 0, 0, h.1⟩, h.2⟩
  | some p =>
    obtain ⟨xs, u⟩ := p
    rw [hs] at h
    obtain ⟨A, c, rfl, _, _, _, hB⟩ := h
    simp only [stampsP, hs]
    exact ⟨⟨A, _, c, rfl⟩, hB⟩

theorem size_mk (l : List UInt8) : (⟨l.toArray⟩ : ByteArray).size = l.length := rfl

theorem refOpTake (s : ByteArray) (hs : s.size ≤ 4000) (w : World) : Calls Tryd.prog 11 #[.string s] w fun e w' => e = .returned (opRes (takeO s.data.toList)) ∧ Below w.heap.size w w' := by
  have hl0 : s.data.toList.length = s.size := by simp
  obtain ⟨l, hl⟩ : ∃ l, l = s.data.toList := ⟨_, rfl⟩
  have hl1 : l.length ≤ 4000 := by rw [hl, hl0]; exact hs
  have n1 := intP_len l
  have n2 := stampsP_len (intP l).2.1
  have n3 := textP_len (stampsP (intP l).2.1).1
  have n4 := textP_len (textP (stampsP (intP l).2.1).1).2.1
  have n5 := intP_len (textP (textP (stampsP (intP l).2.1).1).2.1).2.1
  have fail := fun h => takeFail s ⟨(intP l).2.1.toArray⟩ ⟨(stampsP (intP l).2.1).1.toArray⟩ ⟨(textP (stampsP (intP l).2.1).1).2.1.toArray⟩ ⟨(textP (textP (stampsP (intP l).2.1).1).2.1).2.1.toArray⟩ ⟨(intP (textP (textP (stampsP (intP l).2.1).1).2.1).2.1).2.1.toArray⟩ _ _ _ _ _ _
    (intP l).2.2 (stampsP (intP l).2.1).2 (textP (stampsP (intP l).2.1).1).2.2 (textP (textP (stampsP (intP l).2.1).1).2.1).2.2 (intP (textP (textP (stampsP (intP l).2.1).1).2.1).2.1).2.2 (textP (intP (textP (textP (stampsP (intP l).2.1).1).2.1).2.1).2.1).2.2 w h
    (fun W => by have H := intP_calls s hs W; rw [← hl] at H; exact H)
    (fun W => textP_calls ⟨(stampsP (intP l).2.1).1.toArray⟩ (by rw [size_mk]; omega) W)
    (fun W => textP_calls ⟨(textP (stampsP (intP l).2.1).1).2.1.toArray⟩ (by rw [size_mk]; omega) W)
    (fun W => intP_calls ⟨(textP (textP (stampsP (intP l).2.1).1).2.1).2.1.toArray⟩ (by rw [size_mk]; omega) W)
    (fun W => textP_calls ⟨(intP (textP (textP (stampsP (intP l).2.1).1).2.1).2.1).2.1.toArray⟩ (by rw [size_mk]; omega) W)
    (fun W => stampsP_calls ⟨(intP l).2.1.toArray⟩ (by rw [size_mk]; omega) W)
  rw [← hl]
  cases h1 : takeL l with
  | none =>
    rw [show takeO l = none by simp [takeO, h1]]
    exact fail (Or.inl (by simp [intP, h1]))
  | some p1 =>
    obtain ⟨k, l1⟩ := p1
    have i1 : intP l = (unzig k, l1, 0) := by simp [intP, h1]
    rw [i1] at fail n1 n2 n3 n4 n5
    cases h2 : stampsN 4 l1 with
    | none =>
      rw [show takeO l = none by simp [takeO, h1, h2]]
      exact fail (Or.inr (Or.inl ⟨rfl, by simp [stampsP, h2]⟩))
    | some p2 =>
      obtain ⟨xs, l2⟩ := p2
      have i2 : stampsP l1 = (l2, 0) := by simp [stampsP, h2]
      obtain ⟨hx, _⟩ := stampsN_len 4 l1 xs l2 h2
      match xs, hx, h2 with
      | [(st, sr), (pt, pr), (it, ir), (tt, tr)], _, h2 =>
      rw [i2] at fail n2 n3 n4 n5
      cases h3 : textL l2 64 with
      | none =>
        rw [show takeO l = none by simp [takeO, h1, h2, h3]]
        exact fail (Or.inr (Or.inr (Or.inl ⟨rfl, rfl, by simp [textP, h3]⟩)))
      | some p3 =>
        obtain ⟨a, l3⟩ := p3
        have i3 : textP l2 = (a, l3, 0) := by simp [textP, h3]
        rw [i3] at fail n3 n4 n5
        cases h4 : textL l3 64 with
        | none =>
          rw [show takeO l = none by simp [takeO, h1, h2, h3, h4]]
          exact fail (Or.inr (Or.inr (Or.inr (Or.inl ⟨rfl, rfl, rfl, by simp [textP, h4]⟩))))
        | some p4 =>
          obtain ⟨b, l4⟩ := p4
          have i4 : textP l3 = (b, l4, 0) := by simp [textP, h4]
          rw [i4] at fail n4 n5
          cases h5 : takeL l4 with
          | none =>
            rw [show takeO l = none by simp [takeO, h1, h2, h3, h4, h5]]
            exact fail (Or.inr (Or.inr (Or.inr (Or.inr (Or.inl ⟨rfl, rfl, rfl, rfl, by simp [intP, h5]⟩)))))
          | some p5 =>
            obtain ⟨f, l5⟩ := p5
            have i5 : intP l4 = (unzig f, l5, 0) := by simp [intP, h5]
            rw [i5] at fail n5
            cases h6 : textL l5 64 with
            | none =>
              rw [show takeO l = none by simp [takeO, h1, h2, h3, h4, h5, h6]]
              exact fail (Or.inr (Or.inr (Or.inr (Or.inr (Or.inr ⟨rfl, rfl, rfl, rfl, rfl, by simp [textP, h6]⟩)))))
            | some p6 =>
              obtain ⟨d, l6⟩ := p6
              clear fail
              simp only at n1 n2 n3 n4 n5
              have e3 := text_lens h3
              have e4 := text_lens h4
              have e6 := text_lens h6
              obtain ⟨o, ho⟩ : ∃ o : Opn, o = ⟨st, sr, unzig k, pt, pr, it, ir, tt, tr, ⟨a.toArray⟩, ⟨b.toArray⟩, unzig f, ⟨d.toArray⟩⟩ := ⟨_, rfl⟩
              have hT : takeO l = if mayO o then some (o, l6) else none := by rw [ho]; simp [takeO, h1, h2, h3, h4, h5, h6]
              have G := takeGood s ⟨l1.toArray⟩ ⟨l2.toArray⟩ ⟨l3.toArray⟩ ⟨l4.toArray⟩ ⟨l5.toArray⟩ ⟨l6.toArray⟩ o (mayO o) w
                (fun W => by have H := refTakeInt_some s hs k l1 (by rw [← hl]; exact h1) W; rw [ho]; exact H)
                (fun W => by have H := refTakeText_any ⟨l2.toArray⟩ (by rw [size_mk]; omega) 64 (by unfold IsI64; omega) W; rw [show textL (⟨l2.toArray⟩ : ByteArray).data.toList 64 = _ from h3] at H; rw [ho]; exact H)
                (fun W => by have H := refTakeText_any ⟨l3.toArray⟩ (by rw [size_mk]; omega) 64 (by unfold IsI64; omega) W; rw [show textL (⟨l3.toArray⟩ : ByteArray).data.toList 64 = _ from h4] at H; rw [ho]; exact H)
                (fun W => by have H := refTakeInt_some ⟨l4.toArray⟩ (by rw [size_mk]; omega) f l5 h5 W; rw [ho]; exact H)
                (fun W => by have H := refTakeText_any ⟨l5.toArray⟩ (by rw [size_mk]; omega) 64 (by unfold IsI64; omega) W; rw [show textL (⟨l5.toArray⟩ : ByteArray).data.toList 64 = _ from h6] at H; rw [ho]; exact H)
                (fun W => refOpMay o (by rw [ho]; show a.length ≤ 5000; omega) (by rw [ho]; show b.length ≤ 5000; omega) (by rw [ho]; show d.length ≤ 5000; omega) W)
                (fun W => by
                  have H := refStamps ⟨l1.toArray⟩ (by rw [size_mk]; omega) W
                  rw [show stampsN 4 (⟨l1.toArray⟩ : ByteArray).data.toList = _ from h2] at H
                  refine H.mono ?_
                  rintro e w' ⟨A, c, rfl, hp, _, _, hB⟩
                  rw [ho]
                  exact ⟨A, c, rfl, hp, hB⟩)
              rw [hT]
              refine G.mono ?_
              rintro e w' ⟨rfl, hB⟩
              refine ⟨?_, hB⟩
              cases mayO o <;> rfl

end Go.Proofs.YteknegfocnopgaaDoor
