/-
  Plain mathematics of layer 6: records, one behind the other; what is cut off, and what is turned. It needs no program.
-/
import Derived.Test.YtckobhfomphcpaaCrcMath
import Derived.Test.YtckobhfomphcpaaPackTakeMath
namespace Go.Proofs.Ytckobhfomphcpaa.FrameMath
open Go.RowKit CrcMath PackMath

/-- A checksum's four bytes, the highest first. -/
def be4 (c : Nat) : List UInt8 := [UInt8.ofNat (c / 16777216), UInt8.ofNat (c / 65536 % 256), UInt8.ofNat (c / 256 % 256), UInt8.ofNat (c % 256)]

theorem be4_len (c : Nat) : (be4 c).length = 4 := rfl

theorem be4_inj {a b : Nat} (ha : a < 2 ^ 32) (hb : b < 2 ^ 32) (h : be4 a = be4 b) : a = b := by
  unfold be4 at h
  simp only [List.cons.injEq, and_true] at h
  have k : ∀ {x y : Nat}, x < 256 → y < 256 → UInt8.ofNat x = UInt8.ofNat y → x = y := fun {x y} hx hy e => by
    have := congrArg UInt8.toNat e
    rw [UInt8.toNat_ofNat_of_lt' hx, UInt8.toNat_ofNat_of_lt' hy] at this
    exact this
  have h1 := k (by omega) (by omega) h.1
  have h2 := k (by omega) (by omega) h.2.1
  have h3 := k (by omega) (by omega) h.2.2.1
  have h4 := k (by omega) (by omega) h.2.2.2
  omega

/-- A text, its length ahead of it. -/
def textN (b : List UInt8) : List UInt8 := numL b.length ++ b

/-- A body's record. -/
def recL (b : List UInt8) : List UInt8 := textN b ++ be4 (cmore 0 (textN b))

theorem recL_len (b : List UInt8) : (recL b).length = (numL b.length).length + b.length + 4 := by
  unfold recL textN
  rw [List.length_append, List.length_append, be4_len]

theorem recL_lens (b : List UInt8) : b.length + 5 ≤ (recL b).length ∧ (recL b).length ≤ b.length + 14 := by
  have h := numL_length b.length
  rw [recL_len]
  omega

/-- The body whose record a list begins with, and the rest. -/
def takeR (l : List UInt8) : Option (List UInt8 × List UInt8) :=
  match textL l 65536 with
  | none => none
  | some (b, r) => if 4 ≤ r.length ∧ r.take 4 = be4 (cmore 0 (textN b)) then some (b, r.drop 4) else none

theorem takeR_none {l : List UInt8} (h : textL l 65536 = none) : takeR l = none := by unfold takeR; rw [h]
theorem takeR_yes {l b r : List UInt8} (h : textL l 65536 = some (b, r)) (k : 4 ≤ r.length ∧ r.take 4 = be4 (cmore 0 (textN b))) : takeR l = some (b, r.drop 4) := by unfold takeR; rw [h]; exact if_pos k
theorem takeR_no {l b r : List UInt8} (h : textL l 65536 = some (b, r)) (k : ¬ (4 ≤ r.length ∧ r.take 4 = be4 (cmore 0 (textN b)))) : takeR l = none := by unfold takeR; rw [h]; exact if_neg k

theorem textL_textN (b s : List UInt8) (h : b.length ≤ 65536) : textL (textN b ++ s) 65536 = some (b, s) := by
  unfold textL textN
  rw [List.append_assoc, takeL_numL _ (IsU64.small (by omega))]
  simp only
  rw [if_neg (by rw [List.length_append]; omega)]
  simp

/-- A record is found, whatever stands behind. -/
theorem takeR_recL (b s : List UInt8) (h : b.length ≤ 65536) : takeR (recL b ++ s) = some (b, s) := by
  have e : textL (recL b ++ s) 65536 = some (b, be4 (cmore 0 (textN b)) ++ s) := by
    unfold recL
    rw [List.append_assoc]
    exact textL_textN b _ h
  rw [takeR_yes e ⟨by rw [List.length_append, be4_len]; omega, by rw [List.take_append_of_le_length (by rw [be4_len]; omega), List.take_of_length_le (by rw [be4_len]; omega)]⟩]
  rw [List.drop_append_of_le_length (by rw [be4_len]; omega), List.drop_of_length_le (by rw [be4_len]; omega), List.nil_append]

/-- What is found has the very bytes. -/
theorem takeR_very {l b r : List UInt8} (h : takeR l = some (b, r)) : recL b ++ r = l ∧ b.length ≤ 65536 := by
  cases ht : textL l 65536 with
  | none => rw [takeR_none ht] at h; cases h
  | some x =>
    obtain ⟨b', r'⟩ := x
    by_cases hk : 4 ≤ r'.length ∧ r'.take 4 = be4 (cmore 0 (textN b'))
    · rw [takeR_yes ht hk, Option.some.injEq, Prod.mk.injEq] at h
      obtain ⟨rfl, rfl⟩ := h
      obtain ⟨t1, t2, t3⟩ := text_textL ht
      refine ⟨?_, by omega⟩
      unfold recL
      rw [List.append_assoc, ← hk.2, List.take_append_drop]
      exact t1
    · rw [takeR_no ht hk] at h; cases h

/-- A begin of a record that isn't all of it is none. -/
theorem takeR_cut {b p q : List UInt8} (h : p ++ q = recL b) (hb : b.length ≤ 65536) (hq : q ≠ []) : takeR p = none := by
  cases ht : takeR p with
  | none => rfl
  | some x =>
    obtain ⟨b', r'⟩ := x
    obtain ⟨e, hl⟩ := takeR_very ht
    have h1 := takeR_recL b' (r' ++ q) hl
    rw [← List.append_assoc, e, h] at h1
    have h2 := takeR_recL b [] hb
    rw [List.append_nil, h1, Option.some.injEq, Prod.mk.injEq] at h2
    exact absurd (List.append_eq_nil_iff.1 h2.2).2 hq

/-- A record of which a byte is another one, that is no byte of its length, isn't found. -/
theorem takeR_turned (b s : List UInt8) (hb : b.length ≤ 65536) (j : Nat) (hj : (numL b.length).length ≤ j) (hj2 : j < (recL b).length) (v : UInt8) (hv : v ≠ (recL b)[j]) : takeR ((recL b).set j v ++ s) = none := by
  have hlen := recL_len b
  by_cases hin : j < (numL b.length).length + b.length
  · -- a byte of the body
    have e : (recL b).set j v = textN (b.set (j - (numL b.length).length) v) ++ be4 (cmore 0 (textN b)) := by
      unfold recL textN
      rw [List.set_append_left _ _ (by rw [List.length_append]; exact hin), List.set_append_right _ _ hj, List.length_set]
    have ht : textL ((recL b).set j v ++ s) 65536 = some (b.set (j - (numL b.length).length) v, be4 (cmore 0 (textN b)) ++ s) := by
      rw [e, List.append_assoc]
      exact textL_textN _ _ (by rw [List.length_set]; exact hb)
    refine takeR_no ht fun hk => ?_
    have h4 := hk.2
    rw [List.take_append_of_le_length (by rw [be4_len]; omega), List.take_of_length_le (by rw [be4_len]; omega)] at h4
    have hc := be4_inj (more_lt _ _) (more_lt _ _) h4
    have hset : textN (b.set (j - (numL b.length).length) v) = (textN b).set j v := by
      unfold textN
      rw [List.set_append_right _ _ hj, List.length_set]
    rw [hset] at hc
    have hjt : j < (textN b).length := by unfold textN; rw [List.length_append]; exact hin
    have := (more_set (textN b) j hjt v).1 hc.symm
    refine hv ?_
    rw [this]
    exact (List.getElem_append_left (as := textN b) (bs := be4 (cmore 0 (textN b))) hjt).symm
  · -- a byte of the checksum
    have hnl : (textN b).length = (numL b.length).length + b.length := by unfold textN; rw [List.length_append]
    have e : (recL b).set j v = textN b ++ (be4 (cmore 0 (textN b))).set (j - (textN b).length) v := by
      unfold recL
      rw [List.set_append_right _ _ (by omega)]
    have ht : textL ((recL b).set j v ++ s) 65536 = some (b, (be4 (cmore 0 (textN b))).set (j - (textN b).length) v ++ s) := by
      rw [e, List.append_assoc]
      exact textL_textN _ _ hb
    refine takeR_no ht fun hk => ?_
    have h4 := hk.2
    have l4 : ((be4 (cmore 0 (textN b))).set (j - (textN b).length) v).length = 4 := by rw [List.length_set, be4_len]
    rw [List.take_append_of_le_length (by omega), List.take_of_length_le (by omega)] at h4
    have hj4 : j - (textN b).length < (be4 (cmore 0 (textN b))).length := by rw [be4_len]; omega
    have h5 : ((be4 (cmore 0 (textN b))).set (j - (textN b).length) v)[j - (textN b).length]'(by rw [List.length_set]; exact hj4) = v := List.getElem_set_self _
    refine hv ?_
    rw [← h5]
    have h6 : (recL b)[j] = (be4 (cmore 0 (textN b)))[j - (textN b).length]'hj4 :=
      List.getElem_append_right (as := textN b) (bs := be4 (cmore 0 (textN b))) (by omega)
    rw [h6]
    exact List.getElem_of_eq h4 _

/-- All records with which a list begins, and what is behind; f is more than there are. -/
def allF : Nat → List UInt8 → List (List UInt8) × List UInt8
  | 0, l => ([], l)
  | f + 1, l => match takeR l with
    | none => ([], l)
    | some (b, r) => (b :: (allF f r).1, (allF f r).2)

theorem allF_none {f : Nat} {l : List UInt8} (h : takeR l = none) : allF f l = ([], l) := by
  cases f with
  | zero => rfl
  | succ f => unfold allF; rw [h]
theorem allF_some {f : Nat} {l b r : List UInt8} (h : takeR l = some (b, r)) : allF (f + 1) l = (b :: (allF f r).1, (allF f r).2) := by rw [allF, h]

theorem takeR_less {l b r : List UInt8} (h : takeR l = some (b, r)) : r.length + b.length + 5 ≤ l.length := by
  have e := congrArg List.length (takeR_very h).1
  have k := (recL_lens b).1
  rw [List.length_append] at e
  omega

/-- More fuel than bytes makes no difference. -/
theorem allF_more : ∀ (f g : Nat) (l : List UInt8), l.length ≤ f → l.length ≤ g → allF f l = allF g l := by
  intro f
  induction f with
  | zero =>
    intro g l hf hg
    have hl : takeR l = none := by
      cases h : takeR l with
      | none => rfl
      | some x => have := takeR_less (b := x.1) (r := x.2) h; omega
    rw [allF_none hl, allF_none hl]
  | succ f ih =>
    intro g l hf hg
    cases h : takeR l with
    | none => rw [allF_none h, allF_none h]
    | some x =>
      obtain ⟨b, r⟩ := x
      have hl := takeR_less h
      obtain ⟨g', rfl⟩ : ∃ g', g = g' + 1 := ⟨g - 1, by omega⟩
      rw [allF_some h, allF_some h, ih g' r (by omega) (by omega)]

/-- All records with which a list begins, and what is behind. -/
def allR (l : List UInt8) : List (List UInt8) × List UInt8 := allF l.length l

theorem allR_none {l : List UInt8} (h : takeR l = none) : allR l = ([], l) := allF_none h
theorem allR_some {l b r : List UInt8} (h : takeR l = some (b, r)) : allR l = (b :: (allR r).1, (allR r).2) := by
  have hl := takeR_less h
  obtain ⟨n, hn⟩ : ∃ n, l.length = n + 1 := ⟨l.length - 1, by omega⟩
  unfold allR
  rw [hn, allF_some h, allF_more n r.length r (by omega) (Nat.le_refl _)]

/-- Records, one behind the other. -/
def recs (bs : List (List UInt8)) : List UInt8 := bs.flatMap recL

theorem recs_cons (b : List UInt8) (bs : List (List UInt8)) : recs (b :: bs) = recL b ++ recs bs := rfl
theorem recs_append (a b : List (List UInt8)) : recs (a ++ b) = recs a ++ recs b := List.flatMap_append

/-- What was laid is found, and what is found behind it. -/
theorem allR_recs : ∀ (bs : List (List UInt8)) (s : List UInt8), (∀ b ∈ bs, b.length ≤ 65536) → allR (recs bs ++ s) = (bs ++ (allR s).1, (allR s).2)
  | [], s, _ => rfl
  | b :: bs, s, h => by
    have ih := allR_recs bs s fun x hx => h x (List.mem_cons_of_mem _ hx)
    rw [recs_cons, List.append_assoc, allR_some (takeR_recL b _ (h b (List.mem_cons_self ..))), ih]
    rfl

/-- What is found, laid again, is what it was found in; behind it is none. -/
theorem allF_very : ∀ (f : Nat) (l : List UInt8), l.length ≤ f → recs (allF f l).1 ++ (allF f l).2 = l ∧ takeR (allF f l).2 = none ∧ ∀ b ∈ (allF f l).1, b.length ≤ 65536 := by
  intro f
  induction f with
  | zero =>
    intro l hl
    have h : takeR l = none := by
      cases h : takeR l with
      | none => rfl
      | some x => have := takeR_less (b := x.1) (r := x.2) h; omega
    rw [allF_none h]
    exact ⟨rfl, h, fun b hb => by cases hb⟩
  | succ f ih =>
    intro l hl
    cases h : takeR l with
    | none => rw [allF_none h]; exact ⟨rfl, h, fun b hb => by cases hb⟩
    | some x =>
      obtain ⟨b, r⟩ := x
      have h5 := takeR_less h
      obtain ⟨i1, i2, i3⟩ := ih r (by omega)
      obtain ⟨v1, v2⟩ := takeR_very h
      rw [allF_some h]
      refine ⟨by rw [recs_cons, List.append_assoc, i1, v1], i2, fun y hy => ?_⟩
      rcases List.mem_cons.1 hy with rfl | hy
      · exact v2
      · exact i3 y hy

theorem allR_very (l : List UInt8) : recs (allR l).1 ++ (allR l).2 = l ∧ takeR (allR l).2 = none ∧ ∀ b ∈ (allR l).1, b.length ≤ 65536 := allF_very l.length l (Nat.le_refl _)

theorem allR_len (l : List UInt8) : (allR l).2.length ≤ l.length := by
  have e := congrArg List.length (allR_very l).1
  rw [List.length_append] at e
  omega

theorem recs_len : ∀ (bs : List (List UInt8)) (n : Nat), (∀ b ∈ bs, b.length ≤ n) → (recs bs).length ≤ bs.length * (n + 14)
  | [], n, _ => Nat.zero_le _
  | b :: bs, n, h => by
    have ih := recs_len bs n fun x hx => h x (List.mem_cons_of_mem _ hx)
    have h1 := (recL_lens b).2
    have h2 := h b (List.mem_cons_self ..)
    rw [recs_cons, List.length_append, List.length_cons, Nat.add_mul]
    omega

/-- Where the first j records end. -/
def endOf (bs : List (List UInt8)) (j : Nat) : Nat := (recs (bs.take j)).length

theorem endOf_zero (bs : List (List UInt8)) : endOf bs 0 = 0 := by unfold endOf; rw [List.take_zero]; rfl
theorem endOf_all (bs : List (List UInt8)) : endOf bs bs.length = (recs bs).length := by unfold endOf; rw [List.take_of_length_le (Nat.le_refl _)]
theorem endOf_succ (bs : List (List UInt8)) {j : Nat} (h : j < bs.length) : endOf bs (j + 1) = endOf bs j + (recL bs[j]).length := by
  unfold endOf
  rw [List.take_succ_eq_append_getElem h, recs_append, List.length_append]
  show _ + (recL bs[j] ++ []).length = _
  rw [List.append_nil]
theorem endOf_mono (bs : List (List UInt8)) {i j : Nat} (h : i ≤ j) (hj : j ≤ bs.length) : endOf bs i ≤ endOf bs j := by
  induction j with
  | zero => rw [show i = 0 by omega]; exact Nat.le_refl _
  | succ j ih =>
    by_cases e : i = j + 1
    · rw [e]; exact Nat.le_refl _
    · have := ih (by omega) (by omega)
      rw [endOf_succ bs (by omega)]
      omega

theorem recs_split (bs : List (List UInt8)) {j : Nat} (h : j < bs.length) : recs bs = recs (bs.take j) ++ (recL bs[j] ++ recs (bs.drop (j + 1))) := by
  have e : bs = bs.take j ++ bs[j] :: bs.drop (j + 1) := by rw [← List.drop_eq_getElem_cons h, List.take_append_drop]
  have h2 := congrArg recs e
  rw [recs_append, recs_cons] at h2
  exact h2

/-- Cut off anywhere: those that are whole are found. -/
theorem allR_cut (bs : List (List UInt8)) (hb : ∀ b ∈ bs, b.length ≤ 65536) (k j : Nat) (hj : j ≤ bs.length) (h1 : endOf bs j ≤ k) (h2 : j < bs.length → k < endOf bs (j + 1)) (hk : k ≤ (recs bs).length) :
    (allR ((recs bs).take k)).1 = bs.take j ∧ (allR ((recs bs).take k)).2.length = k - endOf bs j := by
  have ht : ∀ b ∈ bs.take j, b.length ≤ 65536 := fun b h => hb b (List.mem_of_mem_take h)
  by_cases hl : j < bs.length
  · have hs := recs_split bs hl
    have h3 := h2 hl
    rw [endOf_succ bs hl] at h3
    have hlen : (recs (bs.take j)).length = endOf bs j := rfl
    have e : (recs bs).take k = recs (bs.take j) ++ (recL bs[j]).take (k - endOf bs j) := by
      rw [hs, List.take_append, List.take_of_length_le (by omega), hlen, List.take_append_of_le_length (by omega)]
    have hn : takeR ((recL bs[j]).take (k - endOf bs j)) = none := by
      refine takeR_cut (List.take_append_drop (k - endOf bs j) _) (hb _ (List.getElem_mem _)) fun e => ?_
      have := congrArg List.length e
      rw [List.length_drop, List.length_nil] at this
      omega
    rw [e, allR_recs _ _ ht, allR_none hn, List.append_nil]
    refine ⟨rfl, ?_⟩
    show ((recL bs[j]).take _).length = _
    rw [List.length_take]
    omega
  · have hj2 : j = bs.length := by omega
    subst hj2
    rw [endOf_all] at h1 ⊢
    have hk2 : k = (recs bs).length := by omega
    have h := allR_recs bs [] hb
    rw [List.append_nil, show allR [] = ([], []) from rfl, List.append_nil] at h
    rw [hk2, List.take_of_length_le (Nat.le_refl _), h, List.take_of_length_le (Nat.le_refl _)]
    refine ⟨rfl, ?_⟩
    show (0 : Nat) = _
    omega

/-- Turned anywhere but in a length: those ahead are found. -/
theorem allR_turned (bs : List (List UInt8)) (hb : ∀ b ∈ bs, b.length ≤ 65536) (k j : Nat) (hj : j < bs.length) (h1 : endOf bs j + (numL bs[j].length).length ≤ k) (h2 : k < endOf bs (j + 1)) (hk : k < (recs bs).length) (v : UInt8) (hv : v ≠ (recs bs)[k]) :
    (allR ((recs bs).set k v)).1 = bs.take j ∧ (allR ((recs bs).set k v)).2.length = (recs bs).length - endOf bs j := by
  have ht : ∀ b ∈ bs.take j, b.length ≤ 65536 := fun b h => hb b (List.mem_of_mem_take h)
  have hs := recs_split bs hj
  rw [endOf_succ bs hj] at h2
  have hlen : (recs (bs.take j)).length = endOf bs j := rfl
  have e : (recs bs).set k v = recs (bs.take j) ++ ((recL bs[j]).set (k - endOf bs j) v ++ recs (bs.drop (j + 1))) := by
    rw [hs, List.set_append_right _ _ (by omega), hlen, List.set_append_left _ _ (by omega)]
  have hv2 : v ≠ (recL bs[j])[k - endOf bs j]'(by omega) := by
    intro h
    refine hv (h.trans ?_)
    have e2 : (recs bs)[k]? = some ((recL bs[j])[k - endOf bs j]'(by omega)) := by
      rw [hs, List.getElem?_append_right (by omega), hlen, List.getElem?_append_left (by omega), List.getElem?_eq_getElem (by omega)]
    rw [List.getElem?_eq_getElem hk, Option.some.injEq] at e2
    exact e2.symm
  have hn := takeR_turned bs[j] (recs (bs.drop (j + 1))) (hb _ (List.getElem_mem _)) (k - endOf bs j) (by omega) (by omega) v hv2
  have hl2 := congrArg List.length e
  rw [List.length_set, List.length_append, hlen] at hl2
  rw [e, allR_recs _ _ ht, allR_none hn, List.append_nil]
  refine ⟨rfl, ?_⟩
  show (_ ++ _ : List UInt8).length = _
  omega

end Go.Proofs.Ytckobhfomphcpaa.FrameMath
