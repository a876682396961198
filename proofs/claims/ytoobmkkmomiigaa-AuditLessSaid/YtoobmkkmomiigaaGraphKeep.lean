/-
  Plain mathematics of layer 9: Make, Set, Drop and Untie keep what is true of a graph. It needs no program.
-/
import Derived.Test.YtoobmkkmomiigaaGraphOk
namespace Go.Proofs.Ytoobmkkmomiigaa.GraphMath
open StampMath

theorem putIn_mem {α : Type} {f : α → Bool} {l : List α} {x y : α} : y ∈ putIn f l x ↔ y = x ∨ y ∈ l := by
  unfold putIn
  rw [List.mem_append, List.mem_cons]
  constructor
  · rintro (h | h | h)
    · exact Or.inr ((List.takeWhile_prefix f).subset h)
    · exact Or.inl h
    · exact Or.inr ((List.dropWhile_suffix f).subset h)
  · rintro (h | h)
    · exact Or.inr (Or.inl h)
    · rw [← List.takeWhile_append_dropWhile (p := f) (l := l), List.mem_append] at h
      rcases h with h | h
      · exact Or.inl h
      · exact Or.inr (Or.inr h)

theorem putIn_len {α : Type} (f : α → Bool) (l : List α) (x : α) : (putIn f l x).length = l.length + 1 := by
  unfold putIn
  have h := congrArg List.length (List.takeWhile_append_dropWhile (p := f) (l := l))
  rw [List.length_append] at h
  rw [List.length_append, List.length_cons]
  omega

theorem all_take {α : Type} {f : α → Bool} : ∀ {l : List α} {a : α}, a ∈ l.takeWhile f → f a = true
  | b :: l, a, h => by
    rw [List.takeWhile_cons] at h
    by_cases hb : f b = true
    · rw [if_pos hb, List.mem_cons] at h
      rcases h with rfl | h
      · exact hb
      · exact all_take h
    · rw [if_neg hb] at h
      cases h

theorem putIn_sorted {α : Type} {r : α → α → Bool} {l : List α} {x : α} (trans : ∀ {a b c}, r a b = true → r b c = true → r a c = true) (tot : ∀ a ∈ l, r a x = false → r x a = true) (h : l.Pairwise fun a b => r a b = true) :
    (putIn (fun a => r a x) l x).Pairwise fun a b => r a b = true := by
  unfold putIn
  have hs := h
  rw [← List.takeWhile_append_dropWhile (p := fun a => r a x) (l := l), List.pairwise_append] at hs
  obtain ⟨h1, h2, h3⟩ := hs
  have hx : ∀ c ∈ l.dropWhile (fun a => r a x), r x c = true := by
    cases hd : l.dropWhile (fun a => r a x) with
    | nil => intro c hc; cases hc
    | cons b t =>
      have hb : r b x = false := by
        have := List.head?_dropWhile_not (fun a => r a x) l
        rw [hd] at this
        simpa using this
      have hbl : b ∈ l := (List.dropWhile_suffix _).subset (by rw [hd]; exact List.mem_cons_self ..)
      have hxb := tot b hbl hb
      rw [hd, List.pairwise_cons] at h2
      intro c hc
      rcases List.mem_cons.1 hc with rfl | hc
      · exact hxb
      · exact trans hxb (h2.1 c hc)
  rw [List.pairwise_append, List.pairwise_cons]
  refine ⟨h1, ⟨hx, h2⟩, fun a ha b hb => ?_⟩
  have hax : r a x = true := all_take (f := fun a => r a x) ha
  rcases List.mem_cons.1 hb with rfl | hb
  · exact hax
  · exact trans hax (hx b hb)

theorem Gr.ok.make {g : Gr} (h : g.ok) (id : St) (kind : Int) : (makeG g id kind).1.ok := by
  unfold makeG
  by_cases h1 : mayB id.1 id.2 = false ∨ kind < 1 ∨ 3 < kind
  · rw [if_pos h1]; exact h
  rw [if_neg h1]
  by_cases h2 : (getG g id).isSome = true
  · rw [if_pos h2]; exact h
  rw [if_neg h2]
  by_cases h3 : 40 ≤ g.I.length
  · rw [if_pos h3]; exact h
  rw [if_neg h3]
  have hn : getG g id = none := by cases hg : getG g id with
    | none => rfl
    | some y => rw [hg] at h2; exact absurd rfl h2
  have hnew := get_none hn
  have hmy : mayB id.1 id.2 = true := by cases hm : mayB id.1 id.2 with
    | false => exact absurd (Or.inl hm) h1
    | true => rfl
  have hk : 1 ≤ kind ∧ kind ≤ 3 := by omega
  have noE : ∀ e ∈ g.E, e.ino ≠ id ∧ e.dir ≠ id := fun e he => ⟨fun q => by
      obtain ⟨x, hx, hxe⟩ := h.inos e he
      exact hnew x hx (hxe.trans q), fun q => by
      obtain ⟨x, hx, hxe, _⟩ := h.dirs e he
      exact hnew x hx (hxe.trans q)⟩
  have no0 : linksE g.E id = 0 := by
    unfold linksE
    rw [List.length_eq_zero_iff, List.filter_eq_nil_iff]
    intro e he
    simp [(noE e he).1]
  exact {
    sortI := putIn_sorted (r := fun a b : Ino => lessS a.id b.id) (x := ⟨id, kind, 0, 0, ⟨#[]⟩⟩) (fun p q => lessS_trans p q) (fun a ha q => lessS_total q (hnew a ha)) h.sortI
    sortE := h.sortE
    few := by dsimp only; rw [putIn_len]; omega
    links0 := fun x hx => by rcases putIn_mem.1 hx with rfl | hx; rfl; exact h.links0 x hx
    kinds := fun x hx => by rcases putIn_mem.1 hx with rfl | hx; exact hk; exact h.kinds x hx
    may := fun x hx => by rcases putIn_mem.1 hx with rfl | hx; exact hmy; exact h.may x hx
    root := by obtain ⟨x, hx, p, q⟩ := h.root; exact ⟨x, putIn_mem.2 (Or.inr hx), p, q⟩
    dirs := fun e he => by obtain ⟨x, hx, p, q⟩ := h.dirs e he; exact ⟨x, putIn_mem.2 (Or.inr hx), p, q⟩
    inos := fun e he => by obtain ⟨x, hx, p⟩ := h.inos e he; exact ⟨x, putIn_mem.2 (Or.inr hx), p⟩
    noRoot := h.noRoot
    six := h.six
    one := fun i hi => by
      obtain ⟨x, hx, p, q⟩ := hi
      rcases putIn_mem.1 hx with rfl | hx
      · dsimp only at p ⊢; rw [← p, no0]; omega
      · exact h.one i ⟨x, hx, p, q⟩
    rank := by
      obtain ⟨f, hf⟩ := h.rank
      refine ⟨f, fun e he hd => hf e he ?_⟩
      obtain ⟨x, hx, p, q⟩ := hd
      rcases putIn_mem.1 hx with rfl | hx
      · exact absurd p.symm (noE e he).1
      · exact ⟨x, hx, p, q⟩ }

theorem Gr.ok.set {g : Gr} (h : g.ok) (id : St) (mode : Int) (data : ByteArray) : (setG g id mode data).1.ok := by
  unfold setG
  cases hg : getG g id with
  | none => exact h
  | some y =>
    let s : Ino → Ino := fun x => if x.id = id then { x with mode := mode, data := data } else x
    have sid : ∀ x : Ino, (s x).id = x.id := fun x => by show (if x.id = id then _ else x : Ino).id = x.id; split <;> rfl
    have sk : ∀ x : Ino, (s x).kind = x.kind := fun x => by show (if x.id = id then _ else x : Ino).kind = x.kind; split <;> rfl
    have sl : ∀ x : Ino, (s x).links = x.links := fun x => by show (if x.id = id then _ else x : Ino).links = x.links; split <;> rfl
    have hm : ∀ x, x ∈ g.I.map s ↔ ∃ y ∈ g.I, s y = x := fun x => List.mem_map
    have hdir : ∀ i, (⟨g.I.map s, g.E⟩ : Gr).isDir i ↔ g.isDir i := fun i => by
      constructor
      · rintro ⟨x, hx, p, q⟩
        obtain ⟨y, hy, rfl⟩ := (hm x).1 hx
        exact ⟨y, hy, by rw [← sid y]; exact p, by rw [← sk y]; exact q⟩
      · rintro ⟨x, hx, p, q⟩
        exact ⟨s x, (hm _).2 ⟨x, hx, rfl⟩, by rw [sid]; exact p, by rw [sk]; exact q⟩
    show (⟨g.I.map s, g.E⟩ : Gr).ok
    exact {
      sortI := by rw [List.pairwise_map]; exact h.sortI.imp fun q => by rw [sid, sid]; exact q
      sortE := h.sortE
      few := by dsimp only; rw [List.length_map]; exact h.few
      links0 := fun x hx => by obtain ⟨y, hy, rfl⟩ := (hm x).1 hx; rw [sl]; exact h.links0 y hy
      kinds := fun x hx => by obtain ⟨y, hy, rfl⟩ := (hm x).1 hx; rw [sk]; exact h.kinds y hy
      may := fun x hx => by obtain ⟨y, hy, rfl⟩ := (hm x).1 hx; rw [sid]; exact h.may y hy
      root := (hdir (0, 0)).2 h.root
      dirs := fun e he => (hdir _).2 (h.dirs e he)
      inos := fun e he => by obtain ⟨x, hx, p⟩ := h.inos e he; exact ⟨s x, (hm _).2 ⟨x, hx, rfl⟩, by rw [sid]; exact p⟩
      noRoot := h.noRoot
      six := h.six
      one := fun i hi => h.one i ((hdir i).1 hi)
      rank := by obtain ⟨f, hf⟩ := h.rank; exact ⟨f, fun e he hd => hf e he ((hdir _).1 hd)⟩ }

theorem linksE_filter (E : List Ent) (p : Ent → Bool) (id : St) : linksE (E.filter p) id ≤ linksE E id := by
  unfold linksE
  rw [List.filter_filter]
  exact (List.Sublist.length_le (by
    induction E with
    | nil => exact List.Sublist.refl _
    | cons e l ih =>
      rw [List.filter_cons, List.filter_cons]
      by_cases h1 : decide (e.ino = id) = true
      · by_cases h2 : p e = true
        · simp only [h1, h2, Bool.and_self, if_true]; exact ih.cons_cons _
        · simp only [h1, h2, Bool.true_and, if_true]; exact ih.cons _
      · simp only [h1, Bool.false_and]; exact ih))

theorem Gr.ok.untie {g : Gr} (h : g.ok) (d : St) (nm : ByteArray) : (untieG g d nm).1.ok := by
  unfold untieG
  cases hl : lookE g.E d nm with
  | none => exact h
  | some id =>
    exact {
      sortI := h.sortI
      sortE := h.sortE.filter _
      few := h.few
      links0 := h.links0
      kinds := h.kinds
      may := h.may
      root := h.root
      dirs := fun e he => h.dirs e ((List.mem_filter.1 he).1)
      inos := fun e he => h.inos e ((List.mem_filter.1 he).1)
      noRoot := fun e he => h.noRoot e ((List.mem_filter.1 he).1)
      six := fun i => Nat.le_trans (linksE_filter _ _ _) (h.six i)
      one := fun i hi => Nat.le_trans (linksE_filter _ _ _) (h.one i hi)
      rank := by obtain ⟨f, hf⟩ := h.rank; exact ⟨f, fun e he hd => hf e ((List.mem_filter.1 he).1) hd⟩ }

theorem Gr.ok.drop {g : Gr} (h : g.ok) (id : St) : (dropG g id).1.ok := by
  unfold dropG
  cases hg : getG g id with
  | none => exact h
  | some y =>
    dsimp only
    by_cases h1 : id = (0, 0)
    · rw [if_pos h1]; exact h
    rw [if_neg h1]
    by_cases h2 : 0 < y.links ∨ 0 < (listE g.E id).length
    · rw [if_pos h2]; exact h
    rw [if_neg h2]
    obtain ⟨x, hx, hxi, rfl⟩ := get_some hg
    have hno : ∀ e ∈ g.E, e.ino ≠ id ∧ e.dir ≠ id := fun e he => ⟨fun q => h2 (Or.inl (by
        have : 0 < linksE g.E id := List.length_pos_of_mem (a := e) (List.mem_filter.2 ⟨he, by simp [q]⟩)
        dsimp only; omega)), fun q => h2 (Or.inr (List.length_pos_of_mem (a := e) (List.mem_filter.2 ⟨he, by simp [q]⟩)))⟩
    have hm : ∀ z, z ∈ g.I.filter (fun x => !decide (x.id = id)) ↔ z ∈ g.I ∧ z.id ≠ id := fun z => by simp
    have hdir : ∀ i, i ≠ id → ((⟨g.I.filter (fun x => !decide (x.id = id)), g.E⟩ : Gr).isDir i ↔ g.isDir i) := fun i hi => by
      constructor
      · rintro ⟨z, hz, p, q⟩; exact ⟨z, ((hm z).1 hz).1, p, q⟩
      · rintro ⟨z, hz, p, q⟩; exact ⟨z, (hm z).2 ⟨hz, by rw [p]; exact hi⟩, p, q⟩
    exact {
      sortI := h.sortI.filter _
      sortE := h.sortE
      few := Nat.le_trans (List.length_filter_le _ _) h.few
      links0 := fun z hz => h.links0 z ((hm z).1 hz).1
      kinds := fun z hz => h.kinds z ((hm z).1 hz).1
      may := fun z hz => h.may z ((hm z).1 hz).1
      root := (hdir (0, 0) (Ne.symm h1)).2 h.root
      dirs := fun e he => (hdir _ (hno e he).2).2 (h.dirs e he)
      inos := fun e he => by obtain ⟨z, hz, p⟩ := h.inos e he; exact ⟨z, (hm z).2 ⟨hz, by rw [p]; exact (hno e he).1⟩, p⟩
      noRoot := h.noRoot
      six := h.six
      one := fun i hi => by obtain ⟨z, hz, p, q⟩ := hi; exact h.one i ⟨z, ((hm z).1 hz).1, p, q⟩
      rank := by obtain ⟨f, hf⟩ := h.rank; exact ⟨f, fun e he hd => hf e he (by obtain ⟨z, hz, p, q⟩ := hd; exact ⟨z, ((hm z).1 hz).1, p, q⟩)⟩ }

end Go.Proofs.Ytoobmkkmomiigaa.GraphMath
