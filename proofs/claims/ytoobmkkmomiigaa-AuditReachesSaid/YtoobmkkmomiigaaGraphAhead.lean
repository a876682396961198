/-
  Plain mathematics of layer 9: entries in their order. It needs no program.
-/
import Derived.Test.YtoobmkkmomiigaaGraphKeep
namespace Go.Proofs.Ytoobmkkmomiigaa.GraphMath
open StampMath

theorem bytes_irrefl : ∀ (a : List UInt8), ¬ a < a
  | [] => by simp
  | x :: l => by
    rw [List.cons_lt_cons_iff]
    rintro (h | ⟨_, h⟩)
    · exact absurd h (UInt8.lt_irrefl x)
    · exact bytes_irrefl l h

theorem bytes_trans : ∀ {a b c : List UInt8}, a < b → b < c → a < c
  | _, [], _, h, _ => by simp at h
  | [], _ :: _, [], _, h => by simp at h
  | [], _ :: _, _ :: _, _, _ => by simp
  | _ :: _, _ :: _, [], _, h => by simp at h
  | x :: a, y :: b, z :: c, h1, h2 => by
    rw [List.cons_lt_cons_iff] at h1 h2 ⊢
    rcases h1 with h1 | ⟨rfl, h1⟩
    · rcases h2 with h2 | ⟨rfl, _⟩
      · exact Or.inl (UInt8.lt_trans h1 h2)
      · exact Or.inl h1
    · rcases h2 with h2 | ⟨rfl, h2⟩
      · exact Or.inl h2
      · exact Or.inr ⟨rfl, bytes_trans h1 h2⟩

theorem bytes_total : ∀ {a b : List UInt8}, ¬ a < b → a ≠ b → b < a
  | [], [], _, h => absurd rfl h
  | [], _ :: _, h, _ => absurd (by simp) h
  | _ :: _, [], _, _ => by simp
  | x :: a, y :: b, h, hne => by
    rw [List.cons_lt_cons_iff] at h ⊢
    by_cases hxy : x = y
    · subst hxy
      exact Or.inr ⟨rfl, bytes_total (fun q => h (Or.inr ⟨rfl, q⟩)) (fun q => hne (by rw [q]))⟩
    · refine Or.inl ?_
      have h1 : ¬ x < y := fun q => h (Or.inl q)
      rw [UInt8.lt_iff_toNat_lt] at h1 ⊢
      have h2 : x.toNat ≠ y.toNat := fun q => hxy (UInt8.toNat_inj.1 q)
      omega

theorem aheadE_iff (a b : Ent) : aheadE a b = true ↔ lessS a.dir b.dir = true ∨ (a.dir = b.dir ∧ a.name.data.toList < b.name.data.toList) := by
  unfold aheadE
  rw [Bool.or_eq_true, Bool.and_eq_true, decide_eq_true_iff, decide_eq_true_iff]

theorem aheadE_trans {a b c : Ent} (h1 : aheadE a b = true) (h2 : aheadE b c = true) : aheadE a c = true := by
  rw [aheadE_iff] at h1 h2 ⊢
  rcases h1 with h1 | ⟨e1, h1⟩
  · rcases h2 with h2 | ⟨e2, _⟩
    · exact Or.inl (lessS_trans h1 h2)
    · exact Or.inl (e2 ▸ h1)
  · rcases h2 with h2 | ⟨e2, h2⟩
    · exact Or.inl (e1 ▸ h2)
    · exact Or.inr ⟨e1.trans e2, bytes_trans h1 h2⟩

theorem aheadE_total {a b : Ent} (h : aheadE a b = false) (hne : ¬ (a.dir = b.dir ∧ a.name = b.name)) : aheadE b a = true := by
  have h1 : ¬ (lessS a.dir b.dir = true ∨ (a.dir = b.dir ∧ a.name.data.toList < b.name.data.toList)) := fun q => by
    rw [(aheadE_iff a b).2 q] at h
    cases h
  rw [aheadE_iff]
  by_cases hd : a.dir = b.dir
  · refine Or.inr ⟨hd.symm, bytes_total (fun q => h1 (Or.inr ⟨hd, q⟩)) fun q => hne ⟨hd, ?_⟩⟩
    exact ByteArray.ext (Array.toList_inj.1 q)
  · refine Or.inl (lessS_total ?_ hd)
    cases hl : lessS a.dir b.dir with
    | false => rfl
    | true => exact absurd (Or.inl hl) h1

theorem look_none {E : List Ent} {d : St} {nm : ByteArray} (h : lookE E d nm = none) : ∀ e ∈ E, ¬ (e.dir = d ∧ e.name = nm) := by
  intro e he q
  unfold lookE at h
  rw [Option.map_eq_none_iff] at h
  have := List.find?_eq_none.1 h e he
  simp [q.1, q.2] at this

theorem putIn_perm {α : Type} (f : α → Bool) (l : List α) (x : α) : (putIn f l x).Perm (x :: l) := by
  unfold putIn
  refine List.perm_middle.trans ?_
  rw [List.takeWhile_append_dropWhile]

theorem linksE_put (f : Ent → Bool) (E : List Ent) (e : Ent) (id : St) : linksE (putIn f E e) id = linksE E id + if e.ino = id then 1 else 0 := by
  unfold linksE
  rw [((putIn_perm f E e).filter _).length_eq, List.filter_cons]
  by_cases h : e.ino = id
  · rw [if_pos h]; simp [h]
  · rw [if_neg h]; simp [h]

/-- id leads to d, upwards. -/
inductive Leads (g : Gr) : St → St → Prop
  | here (id : St) : Leads g id id
  | up (e : Ent) (d : St) : e ∈ g.E → g.isDir e.ino → Leads g e.dir d → Leads g e.ino d

/-- All of a kept graph is kept behind a Tie, if what is tied doesn't lead back. -/
theorem Gr.ok.tie_of {g : Gr} (h : g.ok) (e : Ent) (hd : g.isDir e.dir) (hi : ∃ x ∈ g.I, x.id = e.ino) (hr : e.ino ≠ (0, 0)) (hnew : lookE g.E e.dir e.name = none) (h6 : linksE g.E e.ino < 6) (h1 : g.isDir e.ino → linksE g.E e.ino = 0) (hl : g.isDir e.ino → ¬ Leads g e.dir e.ino) :
    (⟨g.I, putIn (fun a => aheadE a e) g.E e⟩ : Gr).ok := by
  have hm : ∀ a, a ∈ putIn (fun a => aheadE a e) g.E e ↔ a = e ∨ a ∈ g.E := fun a => putIn_mem
  exact {
    sortI := h.sortI
    sortE := putIn_sorted (r := aheadE) (fun p q => aheadE_trans p q) (fun a ha q => aheadE_total q (look_none hnew a ha)) h.sortE
    few := h.few
    links0 := h.links0
    kinds := h.kinds
    may := h.may
    root := h.root
    dirs := fun a ha => by rcases (hm a).1 ha with rfl | ha; exact hd; exact h.dirs a ha
    inos := fun a ha => by rcases (hm a).1 ha with rfl | ha; exact hi; exact h.inos a ha
    noRoot := fun a ha => by rcases (hm a).1 ha with rfl | ha; exact hr; exact h.noRoot a ha
    six := fun id => by
      show linksE (putIn (fun a => aheadE a e) g.E e) id ≤ 6
      rw [linksE_put]
      have := h.six id
      by_cases q : e.ino = id
      · rw [if_pos q]; rw [q] at h6; omega
      · rw [if_neg q]; omega
    one := fun id hid => by
      show linksE (putIn (fun a => aheadE a e) g.E e) id ≤ 1
      rw [linksE_put]
      have := h.one id hid
      by_cases q : e.ino = id
      · rw [if_pos q]; subst q; have := h1 hid; omega
      · rw [if_neg q]; omega
    rank := by
      obtain ⟨f, hf⟩ := h.rank
      by_cases hx : g.isDir e.ino
      · classical
        refine ⟨fun y => f y + if Leads g y e.ino then f e.dir + 1 else 0, fun a ha hda => ?_⟩
        dsimp only
        rcases (hm a).1 ha with rfl | ha
        · rw [if_neg (hl hx), if_pos (Leads.here _)]
          omega
        · have q := hf a ha hda
          by_cases hu : Leads g a.dir e.ino
          · rw [if_pos hu, if_pos (Leads.up a _ ha hda hu)]
            omega
          · rw [if_neg hu]
            omega
      · refine ⟨f, fun a ha hda => ?_⟩
        rcases (hm a).1 ha with rfl | ha
        · exact absurd hda hx
        · exact hf a ha hda }

end Go.Proofs.Ytoobmkkmomiigaa.GraphMath
