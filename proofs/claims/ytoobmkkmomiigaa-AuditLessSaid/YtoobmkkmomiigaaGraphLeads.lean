/-
  Plain mathematics of layer 9: what the document's Under finds; Tie keeps what is true of a graph. It needs no program.
-/
import Derived.Test.YtoobmkkmomiigaaGraphAhead
namespace Go.Proofs.Ytoobmkkmomiigaa.GraphMath
open StampMath

theorem nodup_le {α : Type} [DecidableEq α] : ∀ {L M : List α}, L.Nodup → (∀ x ∈ L, x ∈ M) → L.length ≤ M.length
  | [], _, _, _ => Nat.zero_le _
  | a :: L, M, hn, hs => by
    rw [List.nodup_cons] at hn
    have ha := hs a (List.mem_cons_self ..)
    have := nodup_le (L := L) (M := M.erase a) hn.2 fun x hx => (List.mem_erase_of_ne (fun e : x = a => hn.1 (by rw [← e]; exact hx))).2 (hs x (List.mem_cons_of_mem _ hx))
    rw [List.length_erase_of_mem ha] at this
    have hp := List.length_pos_of_mem ha
    rw [List.length_cons]
    omega

theorem Gr.ok.getDir {g : Gr} (h : g.ok) {id : St} (hd : g.isDir id) : ∃ x, getG g id = some x ∧ x.kind = 1 := by
  obtain ⟨x, hx, rfl, hk⟩ := hd
  exact ⟨_, h.get hx, hk⟩

theorem getDir_of {g : Gr} {id : St} {x : Ino} (h : getG g id = some x) (hk : x.kind = 1) : g.isDir id := by
  obtain ⟨y, hy, hi, rfl⟩ := get_some h
  exact ⟨y, hy, hi, hk⟩

theorem Gr.ok.parent {g : Gr} (h : g.ok) {e : Ent} (he : e ∈ g.E) (hd : g.isDir e.ino) : parentG g e.ino = some e.dir := by
  obtain ⟨x, hx, hk⟩ := h.getDir hd
  unfold parentG
  rw [hx]
  dsimp only
  rw [if_pos hk]
  have hone := h.one e.ino hd
  unfold linksE at hone
  have hmem : e ∈ g.E.filter fun a => decide (a.ino = e.ino) := List.mem_filter.2 ⟨he, by simp⟩
  cases hf : g.E.find? (fun a => decide (a.ino = e.ino)) with
  | none =>
    have := List.find?_eq_none.1 hf e he
    simp at this
  | some a =>
    have hmem2 : a ∈ g.E.filter fun b => decide (b.ino = e.ino) := List.mem_filter.2 ⟨List.mem_of_find?_eq_some hf, List.find?_some (p := fun b : Ent => decide (b.ino = e.ino)) hf⟩
    cases hl : g.E.filter fun b => decide (b.ino = e.ino) with
    | nil => rw [hl] at hmem; cases hmem
    | cons b t =>
      rw [hl] at hone hmem hmem2
      have ht : t = [] := List.eq_nil_of_length_eq_zero (by rw [List.length_cons] at hone; omega)
      subst ht
      rw [List.mem_singleton] at hmem hmem2
      rw [hmem2, hmem]
      rfl

theorem parent_of {g : Gr} {id up : St} (h : parentG g id = some up) : ∃ e ∈ g.E, e.ino = id ∧ e.dir = up ∧ g.isDir id := by
  unfold parentG at h
  cases hg : getG g id with
  | none => rw [hg] at h; cases h
  | some x =>
    rw [hg] at h
    dsimp only at h
    by_cases hk : x.kind = 1
    · rw [if_pos hk, Option.map_eq_some_iff] at h
      obtain ⟨e, he, rfl⟩ := h
      have h1 := List.find?_some he
      simp at h1
      exact ⟨e, List.mem_of_find?_eq_some he, h1, rfl, getDir_of hg hk⟩
    · rw [if_neg hk] at h
      cases h

theorem underN_step (g : Gr) (n : Nat) (a b : St) : underN g (n + 1) a b = if a = b then true else match parentG g a with
    | none => false
    | some up => underN g n up b := rfl

theorem under_leads (g : Gr) : ∀ (n : Nat) {a b : St}, underN g n a b = true → Leads g a b
  | 0, _, _, h => by cases h
  | n + 1, a, b, h => by
    rw [underN_step] at h
    by_cases hab : a = b
    · subst hab; exact Leads.here _
    · rw [if_neg hab] at h
      cases hp : parentG g a with
      | none => rw [hp] at h; cases h
      | some up =>
        rw [hp] at h
        obtain ⟨e, he, rfl, rfl, hd⟩ := parent_of hp
        exact Leads.up e b he hd (under_leads g n h)

theorem under_more (g : Gr) : ∀ (n : Nat) {a b : St}, underN g n a b = true → underN g (n + 1) a b = true
  | 0, _, _, h => by cases h
  | n + 1, a, b, h => by
    rw [underN_step] at h ⊢
    by_cases hab : a = b
    · rw [if_pos hab]
    · rw [if_neg hab] at h ⊢
      cases hp : parentG g a with
      | none => rw [hp] at h; cases h
      | some up =>
        rw [hp] at h
        exact under_more g n h

theorem under_mono (g : Gr) {n m : Nat} (hnm : n ≤ m) {a b : St} (h : underN g n a b = true) : underN g m a b = true := by
  induction hnm with
  | refl => exact h
  | step _ ih => exact under_more g _ ih

/-- What leads there is found. -/
theorem Gr.ok.leads {g : Gr} (h : g.ok) {a b : St} : underG g a b = true ↔ Leads g a b := by
  constructor
  · exact under_leads g _
  · intro hl
    obtain ⟨f, hf⟩ := h.rank
    have key : ∃ L : List St, L.Nodup ∧ (∀ x ∈ L, g.isDir x ∧ f x ≤ f a) ∧ underN g (L.length + 1) a b = true := by
      induction hl with
      | here id => exact ⟨[], List.nodup_nil, fun x hx => (by cases hx), by rw [underN_step, if_pos rfl]⟩
      | up e d he hd _ ih =>
        obtain ⟨L, h1, h2, h3⟩ := ih
        have hlt := hf e he hd
        refine ⟨e.ino :: L, List.nodup_cons.2 ⟨fun q => by have := (h2 _ q).2; omega, h1⟩, fun x hx => ?_, ?_⟩
        · rcases List.mem_cons.1 hx with rfl | hx
          · exact ⟨hd, Nat.le_refl _⟩
          · exact ⟨(h2 x hx).1, by have := (h2 x hx).2; omega⟩
        · rw [underN_step]
          by_cases hq : e.ino = d
          · rw [if_pos hq]
          · rw [if_neg hq, h.parent he hd]
            exact h3
    obtain ⟨L, h1, h2, h3⟩ := key
    have hlen : L.length ≤ g.I.length := by
      have := nodup_le (L := L) (M := g.I.map fun x => x.id) h1 fun x hx => by
        obtain ⟨y, hy, hi, _⟩ := (h2 x hx).1
        exact List.mem_map.2 ⟨y, hy, hi⟩
      rwa [List.length_map] at this
    exact under_mono g (by omega) h3

theorem Gr.ok.tie {g : Gr} (h : g.ok) (nameOk : Bool) (e : Ent) : (tieG nameOk g e).1.ok := by
  unfold tieG
  by_cases hw : whyG nameOk g e = 0
  · rw [if_pos hw]
    unfold whyG at hw
    by_cases hn : nameOk = false
    · rw [if_pos hn] at hw; cases hw
    rw [if_neg hn] at hw
    cases ha : getG g e.dir with
    | none => rw [ha] at hw; cases hw
    | some a =>
      cases hx : getG g e.ino with
      | none => rw [ha, hx] at hw; cases hw
      | some x =>
        rw [ha, hx] at hw
        dsimp only at hw
        by_cases hk : a.kind ≠ 1
        · rw [if_pos hk] at hw; cases hw
        rw [if_neg hk] at hw
        by_cases hlk : (lookE g.E e.dir e.name).isSome = true
        · rw [if_pos hlk] at hw; cases hw
        rw [if_neg hlk] at hw
        by_cases hu : x.kind = 1 ∧ (e.ino = (0, 0) ∨ underG g e.dir e.ino = true)
        · rw [if_pos hu] at hw; cases hw
        rw [if_neg hu] at hw
        by_cases hls : x.kind = 1 ∧ 0 < x.links ∨ 6 ≤ x.links
        · rw [if_pos hls] at hw; cases hw
        obtain ⟨y, hy, hyi, hxe⟩ := get_some hx
        have hxl : x.links = (linksE g.E e.ino : Int) := by rw [hxe]
        have hkind : g.isDir e.ino → x.kind = 1 := fun hd => by
          obtain ⟨z, hz, hzk⟩ := h.getDir hd
          rw [hx] at hz
          rw [Option.some.inj hz]
          exact hzk
        have hlook : lookE g.E e.dir e.name = none := by
          cases hq : lookE g.E e.dir e.name with
          | none => rfl
          | some z => rw [hq] at hlk; exact absurd rfl hlk
        refine h.tie_of e (getDir_of ha (by omega)) ⟨y, hy, hyi⟩ (fun q => hu ⟨hkind (by rw [q]; exact h.root), Or.inl q⟩) hlook (by omega) (fun hd => by have := hkind hd; omega) fun hd hle => hu ⟨hkind hd, Or.inr (h.leads.2 hle)⟩
  · rw [if_neg hw]
    exact h

end Go.Proofs.Ytoobmkkmomiigaa.GraphMath
