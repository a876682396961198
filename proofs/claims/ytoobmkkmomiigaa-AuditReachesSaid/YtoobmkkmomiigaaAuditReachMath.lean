/-
  Plain mathematics of what is reached, as the landed audit goes through it: each Id's entries by their directory. It needs no program.
-/
import Derived.Test.YtoobmkkmomiigaaAuditMath
namespace Go.Proofs.Ytoobmkkmomiigaa.GraphMath
open StampMath OpMath

/-- Is an entry one that leads from a directory to an inode? -/
def okE (N : List Ino) (e : Ent) : Bool := decide (kindI N e.dir = some 1) && (kindI N e.ino).isSome

/-- What is right below an Id. -/
def belowL (N : List Ino) (E : List Ent) (s : St) : List St := (E.filter fun e => okE N e && decide (e.dir = s)).map (·.ino)

theorem belowL_snoc (N : List Ino) (E : List Ent) (k : Nat) (hk : k < E.length) (s : St) : belowL N (E.take (k + 1)) s = belowL N (E.take k) s ++ if okE N E[k] = true ∧ E[k].dir = s then [E[k].ino] else [] := by
  rw [List.take_succ_eq_append_getElem hk]
  unfold belowL
  rw [List.filter_append, List.map_append]
  congr 1
  by_cases h : okE N E[k] = true ∧ E[k].dir = s
  · rw [if_pos h, List.filter_cons, if_pos (by rw [h.1, decide_eq_true h.2]; rfl)]
    rfl
  · rw [if_neg h, List.filter_cons, if_neg fun q => h (by simpa using q)]
    rfl

theorem belowL_len (N : List Ino) (E : List Ent) (s : St) : (belowL N E s).length ≤ E.length := by
  unfold belowL
  rw [List.length_map]
  exact List.length_filter_le _ _

theorem belowL_reached {N : List Ino} {E : List Ent} {s t : St} (h : Reached N E s) (ht : t ∈ belowL N E s) : Reached N E t := by
  obtain ⟨e, he, rfl⟩ := List.mem_map.1 ht
  obtain ⟨h1, h2⟩ := List.mem_filter.1 he
  simp only [okE, Bool.and_eq_true, decide_eq_true_eq] at h2
  obtain ⟨⟨h3, h4⟩, h5⟩ := h2
  obtain ⟨n, hn⟩ := h
  exact ⟨n + 1, .step h1 (by rw [h5]; exact hn) h3 h4⟩

theorem reached_closed {N : List Ino} {E : List Ent} {F : List St} (h0 : (0, 0) ∈ F) (h1 : ∀ s ∈ F, ∀ t ∈ belowL N E s, t ∈ F) {s : St} (h : Reached N E s) : s ∈ F := by
  obtain ⟨n, h⟩ := h
  induction h with
  | root _ => exact h0
  | @step n e he _ hk hi ih =>
    refine h1 _ ih _ (List.mem_map.2 ⟨e, List.mem_filter.2 ⟨he, ?_⟩, rfl⟩)
    simp [okE, hk, hi]

theorem reached_none {N : List Ino} {E : List Ent} (h : kindI N (0, 0) = none) {s : St} : ¬ Reached N E s := by
  rintro ⟨n, hn⟩
  induction hn with
  | root h2 => rw [h] at h2; cases h2
  | step _ _ _ _ ih => exact ih

theorem reached_root {N : List Ino} {E : List Ent} (h : (kindI N (0, 0)).isSome) : Reached N E (0, 0) := ⟨0, .root h⟩

theorem found_few {N : List Ino} {E : List Ent} {F : List St} (hn : F.Nodup) (h : ∀ s ∈ F, Reached N E s) : F.length ≤ N.length := by
  have := nodup_le hn (M := N.map (·.id)) fun s hs => by
    obtain ⟨x, hx, hxe⟩ := (h s hs).ino
    rw [← hxe]
    exact List.mem_map_of_mem hx
  simpa using this

end Go.Proofs.Ytoobmkkmomiigaa.GraphMath
