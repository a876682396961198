/-
  Plain mathematics of layer 5: what is taken from what was put, and back. It needs no program.
-/
import Derived.Test.YteknegfocnopgaaDoorOpRefTakeAll
namespace Go.Proofs.YteknegfocnopgaaDoor
open Go.RowKit OpMath StampMath PackMath

theorem textL_most (t s : List UInt8) (most : Int) (h : (t.length : Int) ≤ most) (hm : most ≤ 9223372036854775807) : textL (numL t.length ++ t ++ s) most = some (t, s) := by
  unfold textL
  rw [List.append_assoc, takeL_numL _ (IsU64.small (by omega))]
  simp only
  rw [if_neg (by rw [List.length_append]; omega)]
  simp

theorem textL_textB (t : ByteArray) (u : List UInt8) (h : t.size ≤ 64) : textL (textB t ++ u) 64 = some (t.data.toList, u) := by
  have e : t.data.toList.length = t.size := by simp
  unfold textB
  rw [← e]
  exact textL_most _ _ _ (by omega) (by omega)

theorem stampsN_put {n : Nat} {t r : Int} (ht : IsI64 t) (hr : IsI64 r) (hm : mayB t r = true) (s : List UInt8) : stampsN (n + 1) (putL t r ++ s) = (stampsN n s).map fun p => ((t, r) :: p.1, p.2) :=
  stampsN_some (by rw [stampL_putL t r ht hr s, if_pos hm])

/-- What may be, in parts. -/
structure MayParts (o : Opn) : Prop where
  k1 : 1 ≤ o.k
  k10 : o.k ≤ 10
  bare : bareO o = o
  st0 : o.st ≠ 0
  st : mayB o.st o.sr = true
  pt : mayB o.pt o.pr = true
  it : mayB o.it o.ir = true
  tt : mayB o.tt o.tr = true
  name : 7 < o.k ∨ nameB o.name = true
  new : o.k ≠ 7 ∨ nameB o.new = true
  data : dataB o = true

theorem may_parts {o : Opn} (h : mayO o = true) : MayParts o := by
  unfold mayO at h
  simp only [Bool.and_eq_true, decide_eq_true_eq, Bool.or_eq_true, Bool.not_eq_true', beq_eq_false_iff_ne, ne_eq] at h
  obtain ⟨⟨⟨⟨⟨⟨h1, h2⟩, h3⟩, h4⟩, h5⟩, ⟨⟨⟨⟨h6, h7⟩, h8⟩, h9⟩, h10⟩⟩, h11⟩ := h
  exact ⟨h1, h2, h3, h4, h5, h6, h7, h8, h9, h10, h11⟩

theorem parts_may {o : Opn} (h : MayParts o) : mayO o = true := by
  obtain ⟨h1, h2, h3, h4, h5, h6, h7, h8, h9, h10, h11⟩ := h
  unfold mayO
  simp only [Bool.and_eq_true, decide_eq_true_eq, Bool.or_eq_true, Bool.not_eq_true', beq_eq_false_iff_ne, ne_eq]
  exact ⟨⟨⟨⟨⟨⟨h1, h2⟩, h3⟩, h4⟩, h5⟩, ⟨⟨⟨⟨h6, h7⟩, h8⟩, h9⟩, h10⟩⟩, h11⟩

theorem name_size {s : ByteArray} (h : nameB s = true) : 1 ≤ s.size ∧ s.size ≤ 8 := by
  unfold nameB at h
  simp only [Bool.and_eq_true, decide_eq_true_eq] at h
  exact ⟨h.1.1.1.1.1, h.1.1.1.1.2⟩

theorem may_sizes {o : Opn} (h : mayO o = true) : o.name.size ≤ 8 ∧ o.new.size ≤ 8 ∧ o.data.size ≤ 64 := by
  have H := may_parts h
  have hz : (⟨#[]⟩ : ByteArray).size = 0 := rfl
  refine ⟨?_, ?_, ?_⟩
  · have e := congrArg Opn.name H.bare
    simp only [bareO] at e
    rcases H.name with h7 | hn
    · rw [if_neg (by omega)] at e
      rw [← e, hz]; omega
    · exact (name_size hn).2
  · have e := congrArg Opn.new H.bare
    simp only [bareO] at e
    rcases H.new with h7 | hn
    · rw [if_neg h7] at e
      rw [← e, hz]; omega
    · exact (name_size hn).2
  · have e := congrArg Opn.data H.bare
    have hd := H.data
    simp only [bareO] at e
    unfold dataB at hd
    by_cases h3 : o.k = 3
    · rw [if_pos h3] at hd
      simp only [Bool.and_eq_true, decide_eq_true_eq] at hd
      omega
    · rw [if_neg h3] at hd
      by_cases h8 : o.k = 8
      · rw [if_pos h8] at hd
        simp only [Bool.and_eq_true, decide_eq_true_eq] at hd
        omega
      · rw [if_neg (by omega)] at e
        rw [← e, hz]; omega

theorem putO_flat (o : Opn) (s : List UInt8) : putO o ++ s = numL (zig o.k) ++ (putL o.st o.sr ++ (putL o.pt o.pr ++ (putL o.it o.ir ++ (putL o.tt o.tr ++ (textB o.name ++ (textB o.new ++ (numL (zig o.off) ++ (textB o.data ++ s)))))))) := by
  unfold putO
  simp only [List.append_assoc]

theorem byte_eta (b : ByteArray) : (⟨b.data.toList.toArray⟩ : ByteArray) = b := by cases b; simp

/-- What may be is taken as it was put, whatever stands behind. -/
theorem takeO_putO (o : Opn) (hk : Ok64 o) (hm : mayO o = true) (s : List UInt8) : takeO (putO o ++ s) = some (o, s) := by
  have H := may_parts hm
  obtain ⟨z1, z2, z3⟩ := may_sizes hm
  rw [putO_flat]
  unfold takeO
  rw [takeL_numL _ (zig_u64 hk.k)]
  simp only
  rw [stampsN_put hk.st hk.sr H.st, stampsN_put hk.pt hk.pr H.pt, stampsN_put hk.it hk.ir H.it, stampsN_put hk.tt hk.tr H.tt]
  simp only [stampsN, Option.map_some]
  rw [textL_textB _ _ (by omega)]
  simp only
  rw [textL_textB _ _ (by omega)]
  simp only
  rw [takeL_numL _ (zig_u64 hk.off)]
  simp only
  rw [textL_textB _ _ (by omega)]
  simp only [unzig_zig, byte_eta]
  exact if_pos hm

theorem unzig_i64 {m : Nat} (h : IsU64 m) : IsI64 (unzig m) := by
  unfold unzig
  split
  · exact half_i64' h
  · exact half_i64 h

theorem stampsN_very : ∀ (n : Nat) (l : List UInt8) (xs : List (Int × Int)) (u : List UInt8), stampsN n l = some (xs, u) → (xs.flatMap fun p => putL p.1 p.2) ++ u = l ∧ ∀ p ∈ xs, IsI64 p.1 ∧ IsI64 p.2
  | 0, l, xs, u, h => by
    simp only [stampsN, Option.some.injEq, Prod.mk.injEq] at h
    obtain ⟨rfl, rfl⟩ := h
    exact ⟨rfl, fun p hp => by cases hp⟩
  | n + 1, l, xs, u, h => by
    cases hs : stampL l with
    | none => rw [stampsN_none hs] at h; cases h
    | some p =>
      obtain ⟨t, r, v⟩ := p
      rw [stampsN_some hs] at h
      cases hn : stampsN n v with
      | none => rw [hn] at h; cases h
      | some y =>
        obtain ⟨ys, z⟩ := y
        rw [hn] at h
        simp only [Option.map_some, Option.some.injEq, Prod.mk.injEq] at h
        obtain ⟨rfl, rfl⟩ := h
        obtain ⟨h1, h2⟩ := stampsN_very n v ys z hn
        obtain ⟨g1, _, g3, g4, _⟩ := stampL_very hs
        refine ⟨by rw [List.flatMap_cons, List.append_assoc, h1]; exact g1, ?_⟩
        intro p hp
        rcases List.mem_cons.1 hp with rfl | hp
        · exact ⟨g3, g4⟩
        · exact h2 p hp

/-- What is taken has the very bytes, and may be. -/
theorem takeO_very {l u : List UInt8} {o : Opn} (h : takeO l = some (o, u)) : putO o ++ u = l ∧ mayO o = true ∧ Ok64 o := by
  unfold takeO at h
  cases h1 : takeL l with
  | none => rw [h1] at h; cases h
  | some p1 =>
    obtain ⟨k, l1⟩ := p1
    rw [h1] at h
    simp only at h
    cases h2 : stampsN 4 l1 with
    | none => rw [h2] at h; cases h
    | some p2 =>
      obtain ⟨xs, l2⟩ := p2
      obtain ⟨hx, _⟩ := stampsN_len 4 l1 xs l2 h2
      match xs, hx, h2 with
      | [(st, sr), (pt, pr), (it, ir), (tt, tr)], _, h2 =>
      obtain ⟨v2, w2⟩ := stampsN_very 4 l1 _ l2 h2
      rw [h2] at h
      simp only at h
      cases h3 : textL l2 64 with
      | none => rw [h3] at h; cases h
      | some p3 =>
        obtain ⟨a, l3⟩ := p3
        rw [h3] at h
        simp only at h
        cases h4 : textL l3 64 with
        | none => rw [h4] at h; cases h
        | some p4 =>
          obtain ⟨b, l4⟩ := p4
          rw [h4] at h
          simp only at h
          cases h5 : takeL l4 with
          | none => rw [h5] at h; cases h
          | some p5 =>
            obtain ⟨f, l5⟩ := p5
            rw [h5] at h
            simp only at h
            cases h6 : textL l5 64 with
            | none => rw [h6] at h; cases h
            | some p6 =>
              obtain ⟨d, l6⟩ := p6
              rw [h6] at h
              simp only at h
              by_cases hm : mayO ⟨st, sr, unzig k, pt, pr, it, ir, tt, tr, ⟨a.toArray⟩, ⟨b.toArray⟩, unzig f, ⟨d.toArray⟩⟩ = true
              · rw [if_pos hm, Option.some.injEq, Prod.mk.injEq] at h
                obtain ⟨rfl, rfl⟩ := h
                have q1 := w2 (st, sr) (by simp)
                have q2 := w2 (pt, pr) (by simp)
                have q3 := w2 (it, ir) (by simp)
                have q4 := w2 (tt, tr) (by simp)
                refine ⟨?_, hm, ⟨q1.1, q1.2, unzig_i64 (takeL_u64 h1), q2.1, q2.2, q3.1, q3.2, q4.1, q4.2, unzig_i64 (takeL_u64 h5)⟩⟩
                rw [putO_flat]
                have t3 := (text_textL h3).1
                have t4 := (text_textL h4).1
                have t6 := (text_textL h6).1
                have f1 := numL_takeL h1
                have f5 := numL_takeL h5
                simp only [List.flatMap_cons, List.flatMap_nil, List.append_nil, List.append_assoc] at v2
                have x3 : textB ⟨a.toArray⟩ ++ l3 = l2 := t3
                have x4 : textB ⟨b.toArray⟩ ++ l4 = l3 := t4
                have x6 : textB ⟨d.toArray⟩ ++ l6 = l5 := t6
                show numL (zig (unzig k)) ++ (putL st sr ++ (putL pt pr ++ (putL it ir ++ (putL tt tr ++ (textB ⟨a.toArray⟩ ++ (textB ⟨b.toArray⟩ ++ (numL (zig (unzig f)) ++ (textB ⟨d.toArray⟩ ++ l6)))))))) = l
                rw [x6, zig_unzig, zig_unzig, f5, x4, x3, v2, f1]
              · rw [if_neg hm] at h; cases h

end Go.Proofs.YteknegfocnopgaaDoor
