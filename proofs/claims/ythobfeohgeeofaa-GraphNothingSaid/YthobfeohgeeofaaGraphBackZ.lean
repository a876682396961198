/-
  Plain mathematics of layer 9: what is tied is untied again, and then all is as it was. It needs no program.
-/
import Derived.Test.YthobfeohgeeofaaZ02
namespace Go.Proofs.Ythobfeohgeeofaa.GraphMath
open StampMath

/-- Is it the entry nm of d? -/
def atB (d : St) (nm : ByteArray) (e : Ent) : Bool := decide (e.dir = d) && decide (e.name = nm)

theorem atB_iff (d : St) (nm : ByteArray) (e : Ent) : atB d nm e = true ↔ e.dir = d ∧ e.name = nm := by
  unfold atB
  rw [Bool.and_eq_true, decide_eq_true_iff, decide_eq_true_iff]

theorem why_zero {nameOk : Bool} {g : Gr} {e : Ent} (h : whyG nameOk g e = 0) : nameOk = true ∧ lookE g.E e.dir e.name = none := by
  unfold whyG at h
  cases nameOk
  · rw [if_pos rfl] at h; cases h
  refine ⟨rfl, ?_⟩
  rw [if_neg (by decide)] at h
  cases ha : getG g e.dir with
  | none => rw [ha] at h; cases h
  | some a =>
    cases hx : getG g e.ino with
    | none => rw [ha, hx] at h; cases h
    | some x =>
      rw [ha, hx] at h
      dsimp only at h
      by_cases hk : a.kind ≠ 1
      · rw [if_pos hk] at h; cases h
      rw [if_neg hk] at h
      cases hq : lookE g.E e.dir e.name with
      | none => rfl
      | some z => rw [hq, if_pos (show (some z).isSome = true from rfl)] at h; cases h

theorem tie_ok_iff (nameOk : Bool) (g : Gr) (e : Ent) : (tieG nameOk g e).2 = 0 ↔ whyG nameOk g e = 0 := by
  unfold tieG
  by_cases h : whyG nameOk g e = 0
  · rw [if_pos h]; exact ⟨fun _ => h, fun _ => rfl⟩
  · rw [if_neg h]

theorem filter_all {E : List Ent} {d : St} {nm : ByteArray} (h : ∀ e ∈ E, ¬ (e.dir = d ∧ e.name = nm)) : (E.filter fun e => !(decide (e.dir = d) && decide (e.name = nm))) = E := by
  rw [List.filter_eq_self]
  intro e he
  have := h e he
  cases hq : (decide (e.dir = d) && decide (e.name = nm)) with
  | false => rfl
  | true =>
    rw [Bool.and_eq_true, decide_eq_true_iff, decide_eq_true_iff] at hq
    exact absurd hq this

/-- What was tied is untied again. -/
theorem tie_untie {nameOk : Bool} {g : Gr} {e : Ent} (h : (tieG nameOk g e).2 = 0) : untieG (tieG nameOk g e).1 e.dir e.name = (g, e.ino, 0) := by
  have hw := (tie_ok_iff nameOk g e).1 h
  have hn := look_none (why_zero hw).2
  unfold tieG
  rw [if_pos hw]
  have ht : ∀ a ∈ g.E.takeWhile (fun a => aheadE a e), ¬ (a.dir = e.dir ∧ a.name = e.name) := fun a ha => hn a ((List.takeWhile_prefix _).subset ha)
  have hd : ∀ a ∈ g.E.dropWhile (fun a => aheadE a e), ¬ (a.dir = e.dir ∧ a.name = e.name) := fun a ha => hn a ((List.dropWhile_suffix _).subset ha)
  have hlook : lookE (putIn (fun a => aheadE a e) g.E e) e.dir e.name = some e.ino := by
    unfold lookE putIn
    rw [List.find?_append]
    have h1 : (g.E.takeWhile (fun a => aheadE a e)).find? (fun a => decide (a.dir = e.dir) && decide (a.name = e.name)) = none := by
      rw [List.find?_eq_none]
      intro a ha q
      rw [Bool.and_eq_true, decide_eq_true_iff, decide_eq_true_iff] at q
      exact ht a ha q
    rw [h1, List.find?_cons_of_pos (by simp)]
    rfl
  unfold untieG
  dsimp only
  rw [hlook]
  dsimp only
  have hf : ((putIn (fun a => aheadE a e) g.E e).filter fun a => !(decide (a.dir = e.dir) && decide (a.name = e.name))) = g.E := by
    unfold putIn
    rw [List.filter_append, List.filter_cons, filter_all ht, filter_all hd]
    rw [if_neg (by simp), List.takeWhile_append_dropWhile]
  rw [hf]

/-- With an error nothing changes. -/
theorem make_err (g : Gr) (id : St) (kind : Int) (h : (makeG g id kind).2 ≠ 0) : (makeG g id kind).1 = g := by
  unfold makeG at h ⊢
  split
  · rfl
  · split
    · rfl
    · split
      · rfl
      · rename_i h1 h2 h3
        rw [if_neg h1, if_neg h2, if_neg h3] at h
        exact absurd rfl h

theorem tie_err (nameOk : Bool) (g : Gr) (e : Ent) (h : (tieG nameOk g e).2 ≠ 0) : (tieG nameOk g e).1 = g := by
  have hw : ¬ whyG nameOk g e = 0 := fun q => h ((tie_ok_iff nameOk g e).2 q)
  unfold tieG
  rw [if_neg hw]

theorem untie_err (g : Gr) (d : St) (nm : ByteArray) (h : (untieG g d nm).2.2 ≠ 0) : (untieG g d nm).1 = g := by
  unfold untieG at h ⊢
  cases hl : lookE g.E d nm with
  | none => rfl
  | some id => rw [hl] at h; exact absurd rfl h

theorem drop_err (g : Gr) (id : St) (h : (dropG g id).2 ≠ 0) : (dropG g id).1 = g := by
  unfold dropG at h ⊢
  cases hg : getG g id with
  | none => rfl
  | some x =>
    rw [hg] at h
    dsimp only at h ⊢
    by_cases h1 : id = (0, 0)
    · rw [if_pos h1]
    · rw [if_neg h1] at h ⊢
      by_cases h2 : 0 < x.links ∨ 0 < (listE g.E id).length
      · rw [if_pos h2]
      · rw [if_neg h2] at h
        exact absurd rfl h

theorem set_err (g : Gr) (id : St) (mode : Int) (data : ByteArray) (h : (setG g id mode data).2 ≠ 0) : (setG g id mode data).1 = g := by
  unfold setG at h ⊢
  cases hg : getG g id with
  | none => rfl
  | some x => rw [hg] at h; exact absurd rfl h

end Go.Proofs.Ythobfeohgeeofaa.GraphMath
