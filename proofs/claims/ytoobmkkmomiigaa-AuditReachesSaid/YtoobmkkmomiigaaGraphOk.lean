/-
  Plain mathematics of layer 9: what is true of a graph, whatever was done. It needs no program.
-/
import Derived.Test.YtoobmkkmomiigaaGraphMath
namespace Go.Proofs.Ytoobmkkmomiigaa.GraphMath
open StampMath

/-- A directory's entry: of an inode that is one. -/
def Gr.isDir (g : Gr) (id : St) : Prop := ∃ x ∈ g.I, x.id = id ∧ x.kind = 1

/-- What is true of a graph, whatever was done. -/
structure Gr.ok (g : Gr) : Prop where
  sortI : g.I.Pairwise fun a b => lessS a.id b.id = true
  sortE : g.E.Pairwise fun a b => aheadE a b = true
  few : g.I.length ≤ 40
  links0 : ∀ x ∈ g.I, x.links = 0
  kinds : ∀ x ∈ g.I, 1 ≤ x.kind ∧ x.kind ≤ 3
  may : ∀ x ∈ g.I, mayB x.id.1 x.id.2 = true
  root : ∃ x ∈ g.I, x.id = (0, 0) ∧ x.kind = 1
  dirs : ∀ e ∈ g.E, g.isDir e.dir
  inos : ∀ e ∈ g.E, ∃ x ∈ g.I, x.id = e.ino
  noRoot : ∀ e ∈ g.E, e.ino ≠ (0, 0)
  six : ∀ id, linksE g.E id ≤ 6
  one : ∀ id, g.isDir id → linksE g.E id ≤ 1
  rank : ∃ f : St → Nat, ∀ e ∈ g.E, g.isDir e.ino → f e.dir < f e.ino

theorem lessS_irrefl (a : St) : lessS a a = false := by
  rw [Bool.eq_false_iff]
  intro h
  have := (lessB_iff _ _ _ _).1 h
  omega

theorem lessS_trans {a b c : St} (h1 : lessS a b = true) (h2 : lessS b c = true) : lessS a c = true := by
  have h1 := (lessB_iff _ _ _ _).1 h1
  have h2 := (lessB_iff _ _ _ _).1 h2
  exact (lessB_iff _ _ _ _).2 (by omega)

theorem lessS_total {a b : St} (h : lessS a b = false) (hne : a ≠ b) : lessS b a = true := by
  have h1 : ¬ (a.1 < b.1 ∨ a.1 = b.1 ∧ a.2 < b.2) := fun q => by rw [show lessS a b = true from (lessB_iff _ _ _ _).2 q] at h; cases h
  refine (lessB_iff _ _ _ _).2 ?_
  have h2 : ¬ (a.1 = b.1 ∧ a.2 = b.2) := fun q => hne (Prod.ext q.1 q.2)
  omega

/-- No two inodes of one number. -/
theorem Gr.ok.ids {g : Gr} (h : g.ok) {x y : Ino} (hx : x ∈ g.I) (hy : y ∈ g.I) (he : x.id = y.id) : x = y := by
  have hp := h.sortI
  obtain ⟨i, hi, rfl⟩ := List.getElem_of_mem hx
  obtain ⟨j, hj, rfl⟩ := List.getElem_of_mem hy
  rcases Nat.lt_trichotomy i j with h1 | h1 | h1
  · have := List.pairwise_iff_getElem.1 hp i j hi hj h1
    rw [he, lessS_irrefl] at this
    cases this
  · subst h1; rfl
  · have := List.pairwise_iff_getElem.1 hp j i hj hi h1
    rw [he, lessS_irrefl] at this
    cases this

theorem find_id {I : List Ino} (hid : ∀ x ∈ I, ∀ y ∈ I, x.id = y.id → x = y) {x : Ino} (hx : x ∈ I) : I.find? (fun y => decide (y.id = x.id)) = some x := by
  cases h : I.find? (fun y => decide (y.id = x.id)) with
  | none =>
    have := List.find?_eq_none.1 h x hx
    simp at this
  | some y =>
    have h1 := List.find?_some h
    have h2 := List.mem_of_find?_eq_some h
    simp at h1
    exact congrArg some (hid y h2 x hx h1)

theorem Gr.ok.get {g : Gr} (h : g.ok) {x : Ino} (hx : x ∈ g.I) : getG g x.id = some { x with links := (linksE g.E x.id : Int) } := by
  unfold getG
  rw [find_id (fun a ha b hb => h.ids ha hb) hx]
  rfl

theorem get_none {g : Gr} {id : St} (h : getG g id = none) : ∀ x ∈ g.I, x.id ≠ id := by
  intro x hx e
  unfold getG at h
  rw [Option.map_eq_none_iff] at h
  have := List.find?_eq_none.1 h x hx
  simp [e] at this

theorem get_some {g : Gr} {id : St} {y : Ino} (h : getG g id = some y) : ∃ x ∈ g.I, x.id = id ∧ y = { x with links := (linksE g.E id : Int) } := by
  unfold getG at h
  rw [Option.map_eq_some_iff] at h
  obtain ⟨x, hx, rfl⟩ := h
  have h1 := List.find?_some hx
  simp at h1
  exact ⟨x, List.mem_of_find?_eq_some hx, h1, rfl⟩

theorem Gr.ok.inodes {g : Gr} (h : g.ok) : inodesG g = g.I.map fun x => { x with links := (linksE g.E x.id : Int) } := by
  unfold inodesG
  apply List.map_congr_left
  intro x hx
  rw [h.get hx]
  rfl

theorem new_okG : newG.ok where
  sortI := by unfold newG; exact List.pairwise_singleton ..
  sortE := List.Pairwise.nil
  few := by unfold newG; decide
  links0 := by intro x hx; simp [newG] at hx; subst hx; rfl
  kinds := by intro x hx; simp [newG] at hx; subst hx; exact ⟨by decide, by decide⟩
  may := by intro x hx; simp [newG] at hx; subst hx; decide
  root := ⟨⟨(0, 0), 1, 0, 0, ⟨#[]⟩⟩, by simp [newG], rfl, rfl⟩
  dirs := by intro e he; simp [newG] at he
  inos := by intro e he; simp [newG] at he
  noRoot := by intro e he; simp [newG] at he
  six := fun id => by simp [newG, linksE]
  one := fun id _ => by simp [newG, linksE]
  rank := ⟨fun _ => 0, by intro e he; simp [newG] at he⟩

end Go.Proofs.Ytoobmkkmomiigaa.GraphMath
