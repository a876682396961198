/-
  Plain mathematics of layer 9: Make, Set, Drop and Untie keep what is true of a graph. It needs no program.
-/
import Derived.Test.YthobfeohgeeofaaZ01
import Derived.Test.YthobfeohgeeofaaZ00
namespace Go.Proofs.Ythobfeohgeeofaa.GraphMath
open StampMath

theorem putIn_mem {α : Type} {f : α → Bool} {l : List α} {x y : α} : y ∈ putIn f l x ↔ y = x ∨ y ∈ l := by
  unfold putIn
  rw [List.mem_append, List.mem_cons]
  constructor
  · rintro (h | h | h)
    · exact Or.inr ((List.takeWhile_prefix f).subset h)
    · exact Or.inl h
    · exact Or.inr ((List.dropWhile_suffix f).subset h)
  · rintro (h | h)
    · exact Or.inr (Or.inl h)
    · rw [← List.takeWhile_append_dropWhile (p := f) (l := l), List.mem_append] at h
      rcases h with h | h
      · exact Or.inl h
      · exact Or.inr (Or.inr h)

theorem putIn_len {α : Type} (f : α → Bool) (l : List α) (x : α) : (putIn f l x).length = l.length + 1 := by
  unfold putIn
  have h := congrArg List.length (List.takeWhile_append_dropWhile (p := f) (l := l))
  rw [List.length_append] at h
  rw [List.length_append, List.length_cons]
  omega

theorem all_take {α : Type} {f : α → Bool} : ∀ {l : List α} {a : α}, a ∈ l.takeWhile f → f a = true
  | b :: l, a, h => by
    rw [List.takeWhile_cons] at h
    by_cases hb : f b = true
    · rw [if_pos hb, List.mem_cons] at h
      rcases h with rfl | h
      · exact hb
      · exact all_take h
    · rw [if_neg hb] at h
      cases h

theorem putIn_sorted {α : Type} {r : α → α → Bool} {l : List α} {x : α} (trans : ∀ {a b c}, r a b = true → r b c = true → r a c = true) (tot : ∀ a ∈ l, r a x = false → r x a = true) (h : l.Pairwise fun a b => r a b = true) :
    (putIn (fun a => r a x) l x).Pairwise fun a b => r a b = true := by
  unfold putIn
  have hs := h
  rw [← List.takeWhile_append_dropWhile (p := fun a => r a x) (l := l), List.pairwise_append] at hs
  obtain ⟨h1, h2, h3⟩ := hs
  have hx : ∀ c ∈ l.dropWhile (fun a => r a x), r x c = true := by
    cases hd : l.dropWhile (fun a => r a x) with
    | nil => intro c hc; cases hc
    | cons b t =>
      have hb : r b x = false := by
        have := List.head?_dropWhile_not (fun a => r a x) l
        rw [hd] at this
        simpa using this
      have hbl : b ∈ l := (List.dropWhile_suffix _).subset (by rw [hd]; exact List.mem_cons_self ..)
      have hxb := tot b hbl hb
      rw [hd, List.pairwise_cons] at h2
      intro c hc
      rcases List.mem_cons.1 hc with rfl | hc
      · exact hxb
      · exact trans hxb (h2.1 c hc)
  rw [List.pairwise_append, List.pairwise_cons]
  refine ⟨h1, ⟨hx, h2⟩, fun a ha b hb => ?_⟩
  have hax : r a x = true := all_take (f := fun a => r a x) ha
  rcases List.mem_cons.1 hb with rfl | hb
  · exact hax
  · exact trans hax (hx b hb)

theorem Gr.ok.make {g : Gr} (h : g.ok) (id : St) (kind : Int) : (makeG g id kind).1.ok := by
  unfold makeG
  by_cases h1 : mayB id.1 id.2 = false ∨ kind < 1 ∨ 3 < kind
  · rw [if_pos h1]; exact h
  rw [if_neg h1]
  by_cases h2 : (getG g id).isSome = true
  · rw [if_pos h2]; exact h
  rw [if_neg h2]
  by_cases h3 : 40 ≤ g.I.length
  · rw [if_pos h3]; exact h
  rw [if_neg h3]
  have hn : getG g id = none := by cases hg : getG g id with
    | none => rfl
    | some y => rw [hg] at h2; exact absurd rfl h2
  have hnew := get_none hn
  have hmy : mayB id.1 id.2 = true := by cases hm : mayB id.1 id.2 with
    | false => exact absurd (Or.inl hm) h1
    | true => rfl
  have hk : 1 ≤ kind ∧ kind ≤ 3 := by omega
  have noE : ∀ e ∈ g.E, e.ino ≠ id ∧ e.dir ≠ id := fun e he => ⟨fun q => by
      obtain ⟨x, hx, hxe⟩ := h.inos e he
      exact hnew x hx (hxe.trans q), fun q => by
      obtain ⟨x, hx, hxe, _⟩ := h.dirs e he
      exact hnew x hx (hxe.trans q)⟩
  have no0 : linksE g.E id = 0 := by
    unfold linksE
    rw [List.length_eq_zero_iff, List.filter_eq_nil_iff]
    intro e he
    simp [(noE e he).1]
  exact {
    sortI := putIn_sorted (r := fun a b : Ino => lessS a.id b.id) (x := ⟨id, kind, 0, 0, ⟨#[]⟩⟩) (fun p q => lessS_trans p q) (fun a ha q => lessS_total q (hnew a ha)) h.sortI
    sortE := h.sortE
    few := by dsimp only; rw [putIn_len]; omega
    links0 := fun x hx => by rcases putIn_mem.1 hx with rfl | hx; rfl; exact h.links0 x hx
    kinds := fun x hx => by rcases putIn_mem.1 hx with rfl | hx; exact hk; exact h.kinds x hx
    may := fun x hx => by rcases putIn_mem.1 hx with rfl | hx; exact hmy; exact h.may x hx
    root := by obtain ⟨x, hx, p, q⟩ := h.root; exact ⟨x, putIn_mem.2 (Or.inr hx), p, q⟩
    dirs := fun e he => by obtain ⟨x, hx, p, q⟩ := h.dirs e he; exact ⟨x, putIn_mem.2 (Or.inr hx), p, q⟩
    inos := fun e he => by obtain ⟨x, hx, p⟩ := h.inos e he; exact ⟨x, putIn_mem.2 (Or.inr hx), p⟩
    noRoot := h.noRoot
    six := h.six
    one := fun i hi => by
      obtain ⟨x, hx, p, q⟩ := hi
      rcases putIn_mem.1 hx with rfl | hx
      · dsimp only at p ⊢; rw [← p, no0]; omega
      · exact h.one i ⟨x, hx, p, q⟩
    rank := by
      obtain ⟨f, hf⟩ := h.rank
      refine ⟨f, fun e he hd => hf e he ?_⟩
      obtain ⟨x, hx, p, q⟩ := hd
      rcases putIn_mem.1 hx with rfl | hx
      · exact absurd p.symm (noE e he).1
      · exact ⟨x, hx, p, q⟩ }

theorem Gr.ok.set {g : Gr} (h : g.ok) (id : St) (mode : Int) (data : ByteArray) : (setG g id mode data).1.ok := by
  unfold setG
  cases hg : getG g id with
  | none => exact h
  | some y =>
    let s : Ino → Ino := fun x => if x.id = id then { x with mode := mode, data := data } else x
    have sid : ∀ x : Ino, (s x).id = x.id := fun x => by show (if x.id = id then _ else x : Ino).id = x.id; split <;> rfl
    have sk : ∀ x : Ino, (s x).kind = x.kind := fun x => by show (if x.id = id then _ else x : Ino).kind = x.kind; split <;> rfl
    have sl : ∀ x : Ino, (s x).links = x.links := fun x => by show (if x.id = id then _ else x : Ino).links = x.links; split <;> rfl
    have hm : ∀ x, x ∈ g.I.map s ↔ ∃ y ∈ g.I, s y = x := fun x => List.mem_map
    have hdir : ∀ i, (⟨g.I.map s, g.E⟩ : Gr).isDir i ↔ g.isDir i := fun i => by
      constructor
      · rintro ⟨x, hx, p, q⟩
        obtain ⟨y, hy, rfl⟩ := (hm x).1 hx
        exact ⟨y, hy, by rw [← sid y]; exact p, by rw [← sk y]; exact q⟩
      · rintro ⟨x, hx, p, q⟩
        exact ⟨s x, (hm _).2 ⟨x, hx, rfl⟩, by rw [sid]; exact p, by rw [sk]; exact q⟩
    show (⟨g.I.map s, g.E⟩ : Gr).ok
    exact {
      sortI := by rw [List.pairwise_map]; exact h.sortI.imp fun q => by rw [sid, sid]; exact q
      sortE := h.sortE
      few := by dsimp only; rw [List.length_map]; exact h.few
      links0 := fun x hx => by obtain ⟨y, hy, rfl⟩ := (hm x).1 hx; rw [sl]; exact h.links0 y hy
      kinds := fun x hx => by obtain ⟨y, hy, rfl⟩ := (hm x).1 hx; rw [sk]; exact h.kinds y hy
      may := fun x hx => by obtain ⟨y, hy, rfl⟩ := (hm x).1 hx; rw [sid]; exact h.may y hy
      root := (hdir (0, 0)).2 h.root
      dirs := fun e he => (hdir _).2 (h.dirs e he)
      inos := fun e he => by obtain ⟨x, hx, p⟩ := h.inos e he; exact ⟨s x, (hm _).2 ⟨x, hx, rfl⟩, by rw [sid]; exact p⟩
      noRoot := h.noRoot
      six := h.six
      one := fun i hi => h.one i ((hdir i).1 hi)
      rank := by obtain ⟨f, hf⟩ := h.rank; exact ⟨f, fun e he hd => hf e he ((hdir _).1 hd)⟩ }

theorem linksE_filter (E : List Ent) (p : Ent → Bool) (id : St) : linksE (E.filter p) id ≤ linksE E id := by
  unfold linksE
  rw [List.filter_filter]
  exact (List.Sublist.length_le (by
    induction E with
    | nil => exact List.Sublist.refl _
    | cons e l ih =>
      rw [List.filter_cons, List.filter_cons]
      by_cases h1 : decide (e.ino = id) = true
      · by_cases h2 : p e = true
        · simp only [h1, h2, Bool.and_self, if_true]; exact ih.cons_cons _
        · simp only [h1, h2, Bool.true_and, if_true]; exact ih.cons _
      · simp only [h1, Bool.false_and]; exact ih))

theorem Gr.ok.untie {g : Gr} (h : g.ok) (d : St) (nm : ByteArray) : (untieG g d nm).1.ok := by
  unfold untieG
  cases hl : lookE g.E d nm with
  | none => exact h
  | some id =>
    exact {
      sortI := h.sortI
      sortE := h.sortE.filter _
      few := h.few
      links0 := h.links0
      kinds := h.kinds
      may := h.may
      root := h.root
      dirs := fun e he => h.dirs e ((List.mem_filter.1 he).1)
      inos := fun e he => h.inos e ((List.mem_filter.1 he).1)
      noRoot := fun e he => h.noRoot e ((List.mem_filter.1 he).1)
      six := fun i => Nat.le_trans (linksE_filter _ _ _) (h.six i)
      one := fun i hi => Nat.le_trans (linksE_filter _ _ _) (h.one i hi)
      rank := by obtain ⟨f, hf⟩ := h.rank; exact ⟨f, fun e he hd => hf e ((List.mem_filter.1 he).1) hd⟩ }

theorem Gr.ok.drop {g : Gr} (h : g.ok) (id : St) : (dropG g id).1.ok := by
  unfold dropG
  cases hg : getG g id with
  | none => exact h
  | some y =>
    dsimp only
    by_cases h1 : id = (0, 0)
    · rw [if_pos h1]; exact h
    rw [if_neg h1]
    by_cases h2 : 0 < y.links ∨ 0 < (listE g.E id).length
    · rw [if_pos h2]; exact h
    rw [if_neg h2]
    obtain ⟨x, hx, hxi, rfl⟩ := get_some hg
    have hno : ∀ e ∈ g.E, e.ino ≠ id ∧ e.dir ≠ id := fun e he => ⟨fun q => h2 (Or.inl (by
        have : 0 < linksE g.E id := List.length_pos_of_mem (a := e) (List.mem_filter.2 ⟨he, by simp [q]⟩)
        dsimp only; omega)), fun q => h2 (Or.inr (List.length_pos_of_mem (a := e) (List.mem_filter.2 ⟨he, by simp [q]⟩)))⟩
    have hm : ∀ z, z ∈ g.I.filter (fun x => !decide (x.id = id)) ↔ z ∈ g.I ∧ z.id ≠ id := fun z => by simp
    have hdir : ∀ i, i ≠ id → ((⟨g.I.filter (fun x => !decide (x.id = id)), g.E⟩ : Gr).isDir i ↔ g.isDir i) := fun i hi => by
      constructor
      · rintro ⟨z, hz, p, q⟩; exact ⟨z, ((hm z).1 hz).1, p, q⟩
      · rintro ⟨z, hz, p, q⟩; exact ⟨z, (hm z).2 ⟨hz, by rw [p]; exact hi⟩, p, q⟩
    exact {
      sortI := h.sortI.filter _
      sortE := h.sortE
      few := Nat.le_trans (List.length_filter_le _ _) h.few
      links0 := fun z hz => h.links0 z ((hm z).1 hz).1
      kinds := fun z hz => h.kinds z ((hm z).1 hz).1
      may := fun z hz => h.may z ((hm z).1 hz).1
      root := (hdir (0, 0) (Ne.symm h1)).2 h.root
      dirs := fun e he => (hdir _ (hno e he).2).2 (h.dirs e he)
      inos := fun e he => by obtain ⟨z, hz, p⟩ := h.inos e he; exact ⟨z, (hm z).2 ⟨hz, by rw [p]; exact (hno e he).1⟩, p⟩
      noRoot := h.noRoot
      six := h.six
      one := fun i hi => by obtain ⟨z, hz, p, q⟩ := hi; exact h.one i ⟨z, ((hm z).1 hz).1, p, q⟩
      rank := by obtain ⟨f, hf⟩ := h.rank; exact ⟨f, fun e he hd => hf e he (by obtain ⟨z, hz, p, q⟩ := hd; exact ⟨z, ((hm z).1 hz).1, p, q⟩)⟩ }

end Go.Proofs.Ythobfeohgeeofaa.GraphMath

/-
  Plain mathematics of layer 9: entries in their order. It needs no program.
-/
namespace Go.Proofs.Ythobfeohgeeofaa.GraphMath
open StampMath

theorem bytes_irrefl : ∀ (a : List UInt8), ¬ a < a
  | [] => by simp
  | x :: l => by
    rw [List.cons_lt_cons_iff]
    rintro (h | ⟨_, h⟩)
    · exact absurd h (UInt8.lt_irrefl x)
    · exact bytes_irrefl l h

theorem bytes_trans : ∀ {a b c : List UInt8}, a < b → b < c → a < c
  | _, [], _, h, _ => by simp at h
  | [], _ :: _, [], _, h => by simp at h
  | [], _ :: _, _ :: _, _, _ => by simp
  | _ :: _, _ :: _, [], _, h => by simp at h
  | x :: a, y :: b, z :: c, h1, h2 => by
    rw [List.cons_lt_cons_iff] at h1 h2 ⊢
    rcases h1 with h1 | ⟨rfl, h1⟩
    · rcases h2 with h2 | ⟨rfl, _⟩
      · exact Or.inl (UInt8.lt_trans h1 h2)
      · exact Or.inl h1
    · rcases h2 with h2 | ⟨rfl, h2⟩
      · exact Or.inl h2
      · exact Or.inr ⟨rfl, bytes_trans h1 h2⟩

theorem bytes_total : ∀ {a b : List UInt8}, ¬ a < b → a ≠ b → b < a
  | [], [], _, h => absurd rfl h
  | [], _ :: _, h, _ => absurd (by simp) h
  | _ :: _, [], _, _ => by simp
  | x :: a, y :: b, h, hne => by
    rw [List.cons_lt_cons_iff] at h ⊢
    by_cases hxy : x = y
    · subst hxy
      exact Or.inr ⟨rfl, bytes_total (fun q => h (Or.inr ⟨rfl, q⟩)) (fun q => hne (by rw [q]))⟩
    · refine Or.inl ?_
      have h1 : ¬ x < y := fun q => h (Or.inl q)
      rw [UInt8.lt_iff_toNat_lt] at h1 ⊢
      have h2 : x.toNat ≠ y.toNat := fun q => hxy (UInt8.toNat_inj.1 q)
      omega

theorem aheadE_iff (a b : Ent) : aheadE a b = true ↔ lessS a.dir b.dir = true ∨ (a.dir = b.dir ∧ a.name.data.toList < b.name.data.toList) := by
  unfold aheadE
  rw [Bool.or_eq_true, Bool.and_eq_true, decide_eq_true_iff, decide_eq_true_iff]

theorem aheadE_trans {a b c : Ent} (h1 : aheadE a b = true) (h2 : aheadE b c = true) : aheadE a c = true := by
  rw [aheadE_iff] at h1 h2 ⊢
  rcases h1 with h1 | ⟨e1, h1⟩
  · rcases h2 with h2 | ⟨e2, _⟩
    · exact Or.inl (lessS_trans h1 h2)
    · exact Or.inl (e2 ▸ h1)
  · rcases h2 with h2 | ⟨e2, h2⟩
    · exact Or.inl (e1 ▸ h2)
    · exact Or.inr ⟨e1.trans e2, bytes_trans h1 h2⟩

theorem aheadE_total {a b : Ent} (h : aheadE a b = false) (hne : ¬ (a.dir = b.dir ∧ a.name = b.name)) : aheadE b a = true := by
  have h1 : ¬ (lessS a.dir b.dir = true ∨ (a.dir = b.dir ∧ a.name.data.toList < b.name.data.toList)) := fun q => by
    rw [(aheadE_iff a b).2 q] at h
    cases h
  rw [aheadE_iff]
  by_cases hd : a.dir = b.dir
  · refine Or.inr ⟨hd.symm, bytes_total (fun q => h1 (Or.inr ⟨hd, q⟩)) fun q => hne ⟨hd, ?_⟩⟩
    exact ByteArray.ext (Array.toList_inj.1 q)
  · refine Or.inl (lessS_total ?_ hd)
    cases hl : lessS a.dir b.dir with
    | false => rfl
    | true => exact absurd (Or.inl hl) h1

theorem look_none {E : List Ent} {d : St} {nm : ByteArray} (h : lookE E d nm = none) : ∀ e ∈ E, ¬ (e.dir = d ∧ e.name = nm) := by
  intro e he q
  unfold lookE at h
  rw [Option.map_eq_none_iff] at h
  have := List.find?_eq_none.1 h e he
  simp [q.1, q.2] at this

theorem putIn_perm {α : Type} (f : α → Bool) (l : List α) (x : α) : (putIn f l x).Perm (x :: l) := by
  unfold putIn
  refine List.perm_middle.trans ?_
  rw [List.takeWhile_append_dropWhile]

theorem linksE_put (f : Ent → Bool) (E : List Ent) (e : Ent) (id : St) : linksE (putIn f E e) id = linksE E id + if e.ino = id then 1 else 0 := by
  unfold linksE
  rw [((putIn_perm f E e).filter _).length_eq, List.filter_cons]
  by_cases h : e.ino = id
  · rw [if_pos h]; simp [h]
  · rw [if_neg h]; simp [h]

/-- id leads to d, upwards. -/
inductive Leads (g : Gr) : St → St → Prop
  | here (id : St) : Leads g id id
  | up (e : Ent) (d : St) : e ∈ g.E → g.isDir e.ino → Leads g e.dir d → Leads g e.ino d

/-- All of a kept graph is kept behind a Tie, if what is tied doesn't lead back. -/
theorem Gr.ok.tie_of {g : Gr} (h : g.ok) (e : Ent) (hd : g.isDir e.dir) (hi : ∃ x ∈ g.I, x.id = e.ino) (hr : e.ino ≠ (0, 0)) (hnew : lookE g.E e.dir e.name = none) (h6 : linksE g.E e.ino < 6) (h1 : g.isDir e.ino → linksE g.E e.ino = 0) (hl : g.isDir e.ino → ¬ Leads g e.dir e.ino) :
    (⟨g.I, putIn (fun a => aheadE a e) g.E e⟩ : Gr).ok := by
  have hm : ∀ a, a ∈ putIn (fun a => aheadE a e) g.E e ↔ a = e ∨ a ∈ g.E := fun a => putIn_mem
  exact {
    sortI := h.sortI
    sortE := putIn_sorted (r := aheadE) (fun p q => aheadE_trans p q) (fun a ha q => aheadE_total q (look_none hnew a ha)) h.sortE
    few := h.few
    links0 := h.links0
    kinds := h.kinds
    may := h.may
    root := h.root
    dirs := fun a ha => by rcases (hm a).1 ha with rfl | ha; exact hd; exact h.dirs a ha
    inos := fun a ha => by rcases (hm a).1 ha with rfl | ha; exact hi; exact h.inos a ha
    noRoot := fun a ha => by rcases (hm a).1 ha with rfl | ha; exact hr; exact h.noRoot a ha
    six := fun id => by
      show linksE (putIn (fun a => aheadE a e) g.E e) id ≤ 6
      rw [linksE_put]
      have := h.six id
      by_cases q : e.ino = id
      · rw [if_pos q]; rw [q] at h6; omega
      · rw [if_neg q]; omega
    one := fun id hid => by
      show linksE (putIn (fun a => aheadE a e) g.E e) id ≤ 1
      rw [linksE_put]
      have := h.one id hid
      by_cases q : e.ino = id
      · rw [if_pos q]; subst q; have := h1 hid; omega
      · rw [if_neg q]; omega
    rank := by
      obtain ⟨f, hf⟩ := h.rank
      by_cases hx : g.isDir e.ino
      · classical
        refine ⟨fun y => f y + if Leads g y e.ino then f e.dir + 1 else 0, fun a ha hda => ?_⟩
        dsimp only
        rcases (hm a).1 ha with rfl | ha
        · rw [if_neg (hl hx), if_pos (Leads.here _)]
          omega
        · have q := hf a ha hda
          by_cases hu : Leads g a.dir e.ino
          · rw [if_pos hu, if_pos (Leads.up a _ ha hda hu)]
            omega
          · rw [if_neg hu]
            omega
      · refine ⟨f, fun a ha hda => ?_⟩
        rcases (hm a).1 ha with rfl | ha
        · exact absurd hda hx
        · exact hf a ha hda }

end Go.Proofs.Ythobfeohgeeofaa.GraphMath

/-
  Plain mathematics of layer 9: what the document's Under finds; Tie keeps what is true of a graph. It needs no program.
-/
namespace Go.Proofs.Ythobfeohgeeofaa.GraphMath
open StampMath

theorem nodup_le {α : Type} [DecidableEq α] : ∀ {L M : List α}, L.Nodup → (∀ x ∈ L, x ∈ M) → L.length ≤ M.length
  | [], _, _, _ => Nat.zero_le _
  | a :: L, M, hn, hs => by
    rw [List.nodup_cons] at hn
    have ha := hs a (List.mem_cons_self ..)
    have := nodup_le (L := L) (M := M.erase a) hn.2 fun x hx => (List.mem_erase_of_ne (fun e : x = a => hn.1 (by rw [← e]; exact hx))).2 (hs x (List.mem_cons_of_mem _ hx))
    rw [List.length_erase_of_mem ha] at this
    have hp := List.length_pos_of_mem ha
    rw [List.length_cons]
    omega

theorem Gr.ok.getDir {g : Gr} (h : g.ok) {id : St} (hd : g.isDir id) : ∃ x, getG g id = some x ∧ x.kind = 1 := by
  obtain ⟨x, hx, rfl, hk⟩ := hd
  exact ⟨_, h.get hx, hk⟩

theorem getDir_of {g : Gr} {id : St} {x : Ino} (h : getG g id = some x) (hk : x.kind = 1) : g.isDir id := by
  obtain ⟨y, hy, hi, rfl⟩ := get_some h
  exact ⟨y, hy, hi, hk⟩

theorem Gr.ok.parent {g : Gr} (h : g.ok) {e : Ent} (he : e ∈ g.E) (hd : g.isDir e.ino) : parentG g e.ino = some e.dir := by
  obtain ⟨x, hx, hk⟩ := h.getDir hd
  unfold parentG
  rw [hx]
  dsimp only
  rw [if_pos hk]
  have hone := h.one e.ino hd
  unfold linksE at hone
  have hmem : e ∈ g.E.filter fun a => decide (a.ino = e.ino) := List.mem_filter.2 ⟨he, by simp⟩
  cases hf : g.E.find? (fun a => decide (a.ino = e.ino)) with
  | none =>
    have := List.find?_eq_none.1 hf e he
    simp at this
  | some a =>
    have hmem2 : a ∈ g.E.filter fun b => decide (b.ino = e.ino) := List.mem_filter.2 ⟨List.mem_of_find?_eq_some hf, List.find?_some (p := fun b : Ent => decide (b.ino = e.ino)) hf⟩
    cases hl : g.E.filter fun b => decide (b.ino = e.ino) with
    | nil => rw [hl] at hmem; cases hmem
    | cons b t =>
      rw [hl] at hone hmem hmem2
      have ht : t = [] := List.eq_nil_of_length_eq_zero (by rw [List.length_cons] at hone; omega)
      subst ht
      rw [List.mem_singleton] at hmem hmem2
      rw [hmem2, hmem]
      rfl

theorem parent_of {g : Gr} {id up : St} (h : parentG g id = some up) : ∃ e ∈ g.E, e.ino = id ∧ e.dir = up ∧ g.isDir id := by
  unfold parentG at h
  cases hg : getG g id with
  | none => rw [hg] at h; cases h
  | some x =>
    rw [hg] at h
    dsimp only at h
    by_cases hk : x.kind = 1
    · rw [if_pos hk, Option.map_eq_some_iff] at h
      obtain ⟨e, he, rfl⟩ := h
      have h1 := List.find?_some he
      simp at h1
      exact ⟨e, List.mem_of_find?_eq_some he, h1, rfl, getDir_of hg hk⟩
    · rw [if_neg hk] at h
      cases h

theorem underN_step (g : Gr) (n : Nat) (a b : St) : underN g (n + 1) a b = if a = b then true else match parentG g a with
    | none => false
    | some up => underN g n up b := rfl

theorem under_leads (g : Gr) : ∀ (n : Nat) {a b : St}, underN g n a b = true → Leads g a b
  | 0, _, _, h => by cases h
  | n + 1, a, b, h => by
    rw [underN_step] at h
    by_cases hab : a = b
    · subst hab; exact Leads.here _
    · rw [if_neg hab] at h
      cases hp : parentG g a with
      | none => rw [hp] at h; cases h
      | some up =>
        rw [hp] at h
        obtain ⟨e, he, rfl, rfl, hd⟩ := parent_of hp
        exact Leads.up e b he hd (under_leads g n h)

theorem under_more (g : Gr) : ∀ (n : Nat) {a b : St}, underN g n a b = true → underN g (n + 1) a b = true
  | 0, _, _, h => by cases h
  | n + 1, a, b, h => by
    rw [underN_step] at h ⊢
    by_cases hab : a = b
    · rw [if_pos hab]
    · rw [if_neg hab] at h ⊢
      cases hp : parentG g a with
      | none => rw [hp] at h; cases h
      | some up =>
        rw [hp] at h
        exact under_more g n h

theorem under_mono (g : Gr) {n m : Nat} (hnm : n ≤ m) {a b : St} (h : underN g n a b = true) : underN g m a b = true := by
  induction hnm with
  | refl => exact h
  | step _ ih => exact under_more g _ ih

/-- What leads there is found. -/
theorem Gr.ok.leads {g : Gr} (h : g.ok) {a b : St} : underG g a b = true ↔ Leads g a b := by
  constructor
  · exact under_leads g _
  · intro hl
    obtain ⟨f, hf⟩ := h.rank
    have key : ∃ L : List St, L.Nodup ∧ (∀ x ∈ L, g.isDir x ∧ f x ≤ f a) ∧ underN g (L.length + 1) a b = true := by
      induction hl with
      | here id => exact ⟨[], List.nodup_nil, fun x hx => (by cases hx), by rw [underN_step, if_pos rfl]⟩
      | up e d he hd _ ih =>
        obtain ⟨L, h1, h2, h3⟩ := ih
        have hlt := hf e he hd
        refine ⟨e.ino :: L, List.nodup_cons.2 ⟨fun q => by have := (h2 _ q).2; omega, h1⟩, fun x hx => ?_, ?_⟩
        · rcases List.mem_cons.1 hx with rfl | hx
          · exact ⟨hd, Nat.le_refl _⟩
          · exact ⟨(h2 x hx).1, by have := (h2 x hx).2; omega⟩
        · rw [underN_step]
          by_cases hq : e.ino = d
          · rw [if_pos hq]
          · rw [if_neg hq, h.parent he hd]
            exact h3
    obtain ⟨L, h1, h2, h3⟩ := key
    have hlen : L.length ≤ g.I.length := by
      have := nodup_le (L := L) (M := g.I.map fun x => x.id) h1 fun x hx => by
        obtain ⟨y, hy, hi, _⟩ := (h2 x hx).1
        exact List.mem_map.2 ⟨y, hy, hi⟩
      rwa [List.length_map] at this
    exact under_mono g (by omega) h3

theorem Gr.ok.tie {g : Gr} (h : g.ok) (nameOk : Bool) (e : Ent) : (tieG nameOk g e).1.ok := by
  unfold tieG
  by_cases hw : whyG nameOk g e = 0
  · rw [if_pos hw]
    unfold whyG at hw
    by_cases hn : nameOk = false
    · rw [if_pos hn] at hw; cases hw
    rw [if_neg hn] at hw
    cases ha : getG g e.dir with
    | none => rw [ha] at hw; cases hw
    | some a =>
      cases hx : getG g e.ino with
      | none => rw [ha, hx] at hw; cases hw
      | some x =>
        rw [ha, hx] at hw
        dsimp only at hw
        by_cases hk : a.kind ≠ 1
        · rw [if_pos hk] at hw; cases hw
        rw [if_neg hk] at hw
        by_cases hlk : (lookE g.E e.dir e.name).isSome = true
        · rw [if_pos hlk] at hw; cases hw
        rw [if_neg hlk] at hw
        by_cases hu : x.kind = 1 ∧ (e.ino = (0, 0) ∨ underG g e.dir e.ino = true)
        · rw [if_pos hu] at hw; cases hw
        rw [if_neg hu] at hw
        by_cases hls : x.kind = 1 ∧ 0 < x.links ∨ 6 ≤ x.links
        · rw [if_pos hls] at hw; cases hw
        obtain ⟨y, hy, hyi, hxe⟩ := get_some hx
        have hxl : x.links = (linksE g.E e.ino : Int) := by rw [hxe]
        have hkind : g.isDir e.ino → x.kind = 1 := fun hd => by
          obtain ⟨z, hz, hzk⟩ := h.getDir hd
          rw [hx] at hz
          rw [Option.some.inj hz]
          exact hzk
        have hlook : lookE g.E e.dir e.name = none := by
          cases hq : lookE g.E e.dir e.name with
          | none => rfl
          | some z => rw [hq] at hlk; exact absurd rfl hlk
        refine h.tie_of e (getDir_of ha (by omega)) ⟨y, hy, hyi⟩ (fun q => hu ⟨hkind (by rw [q]; exact h.root), Or.inl q⟩) hlook (by omega) (fun hd => by have := hkind hd; omega) fun hd hle => hu ⟨hkind hd, Or.inr (h.leads.2 hle)⟩
  · rw [if_neg hw]
    exact h

end Go.Proofs.Ythobfeohgeeofaa.GraphMath

/-
  What the calls on stamps answer, as values. It needs no program.
-/
namespace Go.Proofs.Ythobfeohgeeofaa
open Go.RowKit StampMath PackMath

/-- What the next stamp of a time is. -/
def nextV (t r : Int) : Value :=
  if r < 0 ∨ 7 < r ∨ t < 0 then .tuple #[.agg #[.int .i64 0, .int .i64 0], .int .i64 1]
  else if 1073741824 ≤ t then .tuple #[.agg #[.int .i64 0, .int .i64 0], .int .i64 14]
  else .tuple #[.agg #[.int .i64 (t + 1), .int .i64 r], .int .i64 0]

/-- The bytes of a stamp. -/
def putL (t r : Int) : List UInt8 := numL (zig t) ++ numL (zig r)

theorem putL_str (t r : Int) : (⟨(numL (zig t)).toArray⟩ : ByteArray) ++ ⟨(numL (zig r)).toArray⟩ = ⟨(putL t r).toArray⟩ := by
  rw [mk_append_data]; rfl

/-- The stamp that may be with which a list begins. -/
def stampL (l : List UInt8) : Option (Int × Int × List UInt8) :=
  match takeL l with
  | none => none
  | some (m, t) => match takeL t with
    | none => none
    | some (k, u) => if mayB (unzig m) (unzig k) then some (unzig m, unzig k, u) else none

/-- The three results. -/
def stampRes : Option (Int × Int × List UInt8) → Value
  | some (t, r, u) => .tuple #[.agg #[.int .i64 t, .int .i64 r], .string ⟨u.toArray⟩, .int .i64 0]
  | none => .tuple #[.agg #[.int .i64 0, .int .i64 0], .string ⟨#[]⟩, .int .i64 2]

theorem stampL_none1 {l : List UInt8} (h : takeL l = none) : stampL l = none := by unfold stampL; rw [h]
theorem stampL_none2 {l t : List UInt8} {m : Nat} (h : takeL l = some (m, t)) (h2 : takeL t = none) : stampL l = none := by unfold stampL; rw [h]; simp only; rw [h2]
theorem stampL_may {l t u : List UInt8} {m k : Nat} (h : takeL l = some (m, t)) (h2 : takeL t = some (k, u)) : stampL l = if mayB (unzig m) (unzig k) then some (unzig m, unzig k, u) else none := by unfold stampL; rw [h]; simp only; rw [h2]

theorem putL_len (t r : Int) : (putL t r).length ≤ 20 := by
  have h1 := (numL_length (zig t)).2
  have h2 := (numL_length (zig r)).2
  unfold putL
  rw [List.length_append]
  omega

/-- What was put is taken, if it may be. -/
theorem stampL_putL (t r : Int) (ht : IsI64 t) (hr : IsI64 r) (s : List UInt8) : stampL (putL t r ++ s) = if mayB t r then some (t, r, s) else none := by
  unfold putL
  rw [List.append_assoc, stampL_may (takeL_numL _ (zig_u64 ht) _) (takeL_numL _ (zig_u64 hr) _), unzig_zig, unzig_zig]

/-- What is taken has the very bytes, and may be. -/
theorem stampL_very {l u : List UInt8} {t r : Int} (h : stampL l = some (t, r, u)) : putL t r ++ u = l ∧ mayB t r = true ∧ IsI64 t ∧ IsI64 r ∧ u.length ≤ l.length := by
  cases h1 : takeL l with
  | none => rw [stampL_none1 h1] at h; cases h
  | some x =>
    obtain ⟨m, v⟩ := x
    cases h2 : takeL v with
    | none => rw [stampL_none2 h1 h2] at h; cases h
    | some y =>
      obtain ⟨k, v'⟩ := y
      rw [stampL_may h1 h2] at h
      by_cases hm : mayB (unzig m) (unzig k) = true
      · rw [if_pos hm] at h
        simp only [Option.some.injEq, Prod.mk.injEq] at h
        obtain ⟨rfl, rfl, rfl⟩ := h
        have e : putL (unzig m) (unzig k) ++ v' = l := by
          unfold putL
          rw [zig_unzig, zig_unzig, List.append_assoc, numL_takeL h2, numL_takeL h1]
        exact ⟨e, hm, unzig_i64 (takeL_u64 h1), unzig_i64 (takeL_u64 h2), by rw [← e]; simp⟩
      · rw [if_neg hm] at h; cases h

end Go.Proofs.Ythobfeohgeeofaa

/-
  Plain mathematics of layer 5: operations, kind by kind. It needs no program.
-/
namespace Go.Proofs.Ythobfeohgeeofaa.OpMath
open Go.RowKit StampMath PackMath

/-- An operation: its stamp, its kind, three stamps, two names, a number, bytes. -/
structure Opn where
  st : Int
  sr : Int
  k : Int
  pt : Int
  pr : Int
  it : Int
  ir : Int
  tt : Int
  tr : Int
  name : ByteArray
  new : ByteArray
  off : Int
  data : ByteArray
deriving DecidableEq

/-- An operation as cells. -/
def opA (o : Opn) : Array Value := #[.int .i64 o.st, .int .i64 o.sr, .int .i64 o.k, .int .i64 o.pt, .int .i64 o.pr, .int .i64 o.it, .int .i64 o.ir, .int .i64 o.tt, .int .i64 o.tr, .string o.name, .string o.new, .int .i64 o.off, .string o.data]

theorem opA_size (o : Opn) : (opA o).size = 13 := rfl

theorem op_cells {w : World} {g : Nat} {o : Opn} {T : TypeId} (h : w.heap[g]? = some (.cells (opA o) T (0, 0))) :
    w.cell? ⟨g, 0, none⟩ = some (.int .i64 o.st) ∧ w.cell? ⟨g, 1, none⟩ = some (.int .i64 o.sr) ∧ w.cell? ⟨g, 2, none⟩ = some (.int .i64 o.k) ∧ w.cell? ⟨g, 3, none⟩ = some (.int .i64 o.pt) ∧ w.cell? ⟨g, 4, none⟩ = some (.int .i64 o.pr) ∧
    w.cell? ⟨g, 5, none⟩ = some (.int .i64 o.it) ∧ w.cell? ⟨g, 6, none⟩ = some (.int .i64 o.ir) ∧ w.cell? ⟨g, 7, none⟩ = some (.int .i64 o.tt) ∧ w.cell? ⟨g, 8, none⟩ = some (.int .i64 o.tr) ∧
    w.cell? ⟨g, 9, none⟩ = some (.string o.name) ∧ w.cell? ⟨g, 10, none⟩ = some (.string o.new) ∧ w.cell? ⟨g, 11, none⟩ = some (.int .i64 o.off) ∧ w.cell? ⟨g, 12, none⟩ = some (.string o.data) :=
  ⟨cell_of_row _ _ 0 _ _ (0, 0) h, cell_of_row _ _ 1 _ _ (0, 0) h, cell_of_row _ _ 2 _ _ (0, 0) h, cell_of_row _ _ 3 _ _ (0, 0) h, cell_of_row _ _ 4 _ _ (0, 0) h, cell_of_row _ _ 5 _ _ (0, 0) h, cell_of_row _ _ 6 _ _ (0, 0) h,
    cell_of_row _ _ 7 _ _ (0, 0) h, cell_of_row _ _ 8 _ _ (0, 0) h, cell_of_row _ _ 9 _ _ (0, 0) h, cell_of_row _ _ 10 _ _ (0, 0) h, cell_of_row _ _ 11 _ _ (0, 0) h, cell_of_row _ _ 12 _ _ (0, 0) h⟩

/-- An operation with the fields that its kind has, alone. -/
def bareO (o : Opn) : Opn where
  st := o.st
  sr := o.sr
  k := o.k
  pt := if o.k ≤ 7 then o.pt else 0
  pr := if o.k ≤ 7 then o.pr else 0
  it := if 4 ≤ o.k then o.it else 0
  ir := if 4 ≤ o.k then o.ir else 0
  tt := if o.k = 7 then o.tt else 0
  tr := if o.k = 7 then o.tr else 0
  name := if o.k ≤ 7 then o.name else ⟨#[]⟩
  new := if o.k = 7 then o.new else ⟨#[]⟩
  off := if 8 ≤ o.k then o.off else 0
  data := if o.k = 3 ∨ o.k = 8 then o.data else ⟨#[]⟩

/-- The kind of inode that it makes. -/
def makesO (o : Opn) : Int := if 1 ≤ o.k ∧ o.k ≤ 3 then o.k else 0

/-- The inodes that it names. -/
def usesO (o : Opn) : List (Int × Int) := (if 1 ≤ o.k ∧ o.k ≤ 7 then [(o.pt, o.pr)] else []) ++ (if 4 ≤ o.k ∧ o.k ≤ 10 then [(o.it, o.ir)] else []) ++ (if o.k = 7 then [(o.tt, o.tr)] else [])

/-- Has a text a byte? -/
def hasB (s : ByteArray) (c : UInt8) : Bool := s.data.toList.any (· == c)

/-- Is it a name? -/
def nameB (s : ByteArray) : Bool := decide (1 ≤ s.size) && decide (s.size ≤ 8) && !(s.toList == [46]) && !(s.toList == [46, 46]) && !hasB s 47 && !hasB s 0

theorem any_next (s : ByteArray) (c : UInt8) (k : Nat) (h : k < s.size) : (s.data.toList.take (k + 1)).any (· == c) = ((s.data.toList.take k).any (· == c) || s[k] == c) := by
  rw [take_next s k h, List.any_append]
  simp

theorem any_all (s : ByteArray) (c : UInt8) (k : Nat) (h : s.size ≤ k) : (s.data.toList.take k).any (· == c) = hasB s c := by
  rw [List.take_of_length_le (by simpa using h)]; rfl

theorem any_some (s : ByteArray) (c : UInt8) (k : Nat) (h : k < s.size) (hc : s[k] = c) : hasB s c = true := by
  unfold hasB
  rw [List.any_eq_true]
  exact ⟨s[k], by rw [← data_get h]; exact List.getElem_mem _, by rw [hc]; exact beq_self_eq_true c⟩

/-- A text as bytes. -/
def textB (s : ByteArray) : List UInt8 := numL s.size ++ s.data.toList

theorem textB_len (s : ByteArray) : (textB s).length ≤ s.size + 10 := by
  have h := (numL_length s.size).2
  unfold textB
  rw [List.length_append]
  have e : s.data.toList.length = s.size := by simp
  omega

/-- An operation as bytes. -/
def putO (o : Opn) : List UInt8 :=
  numL (zig o.k) ++ putL o.st o.sr ++ putL o.pt o.pr ++ putL o.it o.ir ++ putL o.tt o.tr ++ textB o.name ++ textB o.new ++ numL (zig o.off) ++ textB o.data

/-- All numbers are integers of 64 bits. -/
structure Ok64 (o : Opn) : Prop where
  st : IsI64 o.st
  sr : IsI64 o.sr
  k : IsI64 o.k
  pt : IsI64 o.pt
  pr : IsI64 o.pr
  it : IsI64 o.it
  ir : IsI64 o.ir
  tt : IsI64 o.tt
  tr : IsI64 o.tr
  off : IsI64 o.off

theorem str_add (P : Program) (a b : List UInt8) (h : a.length + b.length ≤ 100000) (W : World) : (Op.stringOp .add ⟨a.toArray⟩ ⟨b.toArray⟩).run P W = .ok (.string ⟨(a ++ b).toArray⟩) W := by
  rw [run_string_add_sum W _ _ (by show a.length + b.length ≤ _; omega), mk_append_data]

/-- What is asked of its bytes and its number, by its kind. -/
def dataB (o : Opn) : Bool :=
  if o.k = 3 then decide (1 ≤ o.data.size) && decide (o.data.size ≤ 32) && !hasB o.data 0
  else if o.k = 8 then decide (0 ≤ o.off) && decide (1 ≤ o.data.size) && decide (o.data.size ≤ 64) && decide (o.off ≤ 64 - (o.data.size : Int))
  else if o.k = 9 then decide (0 ≤ o.off) && decide (o.off ≤ 64)
  else if o.k = 10 then decide (0 ≤ o.off) && decide (o.off ≤ 4095)
  else true

/-- May it be? -/
def mayO (o : Opn) : Bool :=
  decide (1 ≤ o.k) && decide (o.k ≤ 10) && decide (bareO o = o) && !(o.st == 0) && mayB o.st o.sr && (mayB o.pt o.pr && mayB o.it o.ir && mayB o.tt o.tr && (decide (7 < o.k) || nameB o.name) && (!(o.k == 7) || nameB o.new)) && dataB o

end Go.Proofs.Ythobfeohgeeofaa.OpMath
