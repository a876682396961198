/-
  Plain mathematics of layer 10: which inodes are reached; faults; what is true of what has none. It needs no program.
-/
import Derived.Test.YtoobmkkmomiigaaGraphLeads
import Derived.Test.YtoobmkkmomiigaaOpMath
namespace Go.Proofs.Ytoobmkkmomiigaa.GraphMath
open StampMath OpMath

/-- An inode's kind, as the first one with its number says. -/
def kindI (N : List Ino) (id : St) : Option Int := (N.find? fun x => decide (x.id = id)).map (·.kind)

theorem kindI_some {N : List Ino} {id : St} (h : (kindI N id).isSome) : ∃ x ∈ N, x.id = id := by
  unfold kindI at h
  cases hq : N.find? (fun x => decide (x.id = id)) with
  | none => rw [hq] at h; cases h
  | some x => exact ⟨x, List.mem_of_find?_eq_some hq, by simpa using List.find?_some hq⟩

theorem kindI_of {N : List Ino} {x : Ino} (h : x ∈ N) : (kindI N x.id).isSome := by
  unfold kindI
  cases hq : N.find? (fun y => decide (y.id = x.id)) with
  | none => have := List.find?_eq_none.1 hq x h; simp at this
  | some y => rfl

theorem kindI_none {N : List Ino} {id : St} (h : ∀ x ∈ N, x.id ≠ id) : kindI N id = none := by
  unfold kindI
  rw [List.find?_eq_none.2 (fun x hx => by simpa using h x hx)]
  rfl

/-- Reached in so many steps. -/
inductive ReachedN (N : List Ino) (E : List Ent) : Nat → St → Prop
  | root : (kindI N (0, 0)).isSome → ReachedN N E 0 (0, 0)
  | step {n : Nat} {e : Ent} : e ∈ E → ReachedN N E n e.dir → kindI N e.dir = some 1 → (kindI N e.ino).isSome → ReachedN N E (n + 1) e.ino

def Reached (N : List Ino) (E : List Ent) (s : St) : Prop := ∃ n, ReachedN N E n s

theorem Reached.ino {N : List Ino} {E : List Ent} {s : St} (h : Reached N E s) : ∃ x ∈ N, x.id = s := by
  obtain ⟨n, h⟩ := h
  cases h with
  | root h => exact kindI_some h
  | step _ _ _ h => exact kindI_some h

theorem Reached.mono {N : List Ino} {E E' : List Ent} (hE : ∀ e ∈ E, e ∈ E') {s : St} (h : Reached N E s) : Reached N E' s := by
  obtain ⟨n, h⟩ := h
  refine ⟨n, ?_⟩
  induction h with
  | root h => exact .root h
  | step h1 _ h3 h4 ih => exact .step (hE _ h1) ih h3 h4

/-- Strictly rising stamps. -/
def Rising (l : List St) : Prop := l.Pairwise fun a b => lessS a b = true

theorem Rising.nodup {l : List St} (h : Rising l) : l.Nodup := h.imp fun hab e => by rw [e, lessS_irrefl] at hab; cases hab

/-- Rising lists of the same stamps are the same. -/
theorem rising_same : ∀ {a b : List St}, Rising a → Rising b → (∀ s, s ∈ a ↔ s ∈ b) → a = b
  | [], [], _, _, _ => rfl
  | [], y :: b, _, _, h => by have := (h y).2 (by simp); cases this
  | x :: a, [], _, _, h => by have := (h x).1 (by simp); cases this
  | x :: a, y :: b, ha, hb, h => by
    obtain ⟨a1, a2⟩ := List.pairwise_cons.1 ha
    obtain ⟨b1, b2⟩ := List.pairwise_cons.1 hb
    have hxy : x = y := by
      rcases List.mem_cons.1 ((h x).1 (by simp)) with e | hx
      · exact e
      · rcases List.mem_cons.1 ((h y).2 (by simp)) with e | hy
        · exact e.symm
        · have := lessS_trans (a1 y hy) (b1 x hx)
          rw [lessS_irrefl] at this
          cases this
    subst hxy
    congr 1
    refine rising_same a2 b2 fun s => ⟨fun hs => ?_, fun hs => ?_⟩
    · rcases List.mem_cons.1 ((h s).1 (by simp [hs])) with e | hq
      · have := a1 s hs
        rw [e, lessS_irrefl] at this
        cases this
      · exact hq
    · rcases List.mem_cons.1 ((h s).2 (by simp [hs])) with e | hq
      · have := b1 s hs
        rw [e, lessS_irrefl] at this
        cases this
      · exact hq

/-- What Reach answers. -/
def IsReach (N : List Ino) (E : List Ent) (l : List St) : Prop := Rising l ∧ ∀ s, s ∈ l ↔ Reached N E s

/-! ### faults: none of each kind -/

def orderOk (N : List Ino) (E : List Ent) : Prop := (N.Pairwise fun a b => lessS a.id b.id = true) ∧ E.Pairwise fun a b => aheadE a b = true
def shapeOk (N : List Ino) (E : List Ent) : Prop := (∀ x ∈ N, mayB x.id.1 x.id.2 = true ∧ 1 ≤ x.kind ∧ x.kind ≤ 3) ∧ (∀ e ∈ E, nameB e.name = true) ∧ kindI N (0, 0) = some 1
def lostOk (N : List Ino) (E : List Ent) : Prop := ∀ e ∈ E, kindI N e.dir = some 1 ∧ (kindI N e.ino).isSome
def countOk (N : List Ino) (E : List Ent) : Prop := ∀ x ∈ N, x.links = (linksE E x.id : Int)
def manyOk1 (E : List Ent) (x : Ino) : Prop := if x.id = (0, 0) then linksE E x.id = 0 else 1 ≤ linksE E x.id ∧ linksE E x.id ≤ (if x.kind = 1 then 1 else 6)
def manyOk (N : List Ino) (E : List Ent) : Prop := ∀ x ∈ N, manyOk1 E x
def apartOk (N : List Ino) (E : List Ent) : Prop := ∀ x ∈ N, Reached N E x.id
def boundOk1 (x : Ino) : Prop := 0 ≤ x.mode ∧ x.mode ≤ 4095 ∧ (x.kind = 1 → x.data.size = 0) ∧ (x.kind = 2 → x.data.size ≤ 64) ∧ (x.kind = 3 → 1 ≤ x.data.size ∧ x.data.size ≤ 32)
def boundsOk (N : List Ino) : Prop := (∀ x ∈ N, boundOk1 x) ∧ N.length ≤ 40

/-- The fault of a number. -/
def faultOf (N : List Ino) (E : List Ent) (k : Int) : Prop :=
  (k = 1 ∧ ¬ orderOk N E) ∨ (k = 2 ∧ ¬ shapeOk N E) ∨ (k = 3 ∧ ¬ lostOk N E) ∨ (k = 4 ∧ ¬ countOk N E) ∨ (k = 5 ∧ ¬ manyOk N E) ∨ (k = 6 ∧ ¬ apartOk N E) ∨ (k = 7 ∧ ¬ boundsOk N)

/-- What Check answers. -/
def IsCheck (N : List Ino) (E : List Ent) (l : List Int) : Prop := (l.Pairwise fun a b => a < b) ∧ ∀ k, k ∈ l ↔ faultOf N E k

structure fineP (N : List Ino) (E : List Ent) : Prop where
  order : orderOk N E
  shape : shapeOk N E
  lost : lostOk N E
  count : countOk N E
  many : manyOk N E
  apart : apartOk N E
  bounds : boundsOk N

theorem fineP_iff {N : List Ino} {E : List Ent} {l : List Int} (h : IsCheck N E l) : l = [] ↔ fineP N E := by
  constructor
  · intro e
    subst e
    have hn : ∀ k, ¬ faultOf N E k := fun k hk => by have := (h.2 k).2 hk; cases this
    refine ⟨?_, ?_, ?_, ?_, ?_, ?_, ?_⟩
    · exact Classical.byContradiction fun q => hn 1 (.inl ⟨rfl, q⟩)
    · exact Classical.byContradiction fun q => hn 2 (.inr (.inl ⟨rfl, q⟩))
    · exact Classical.byContradiction fun q => hn 3 (.inr (.inr (.inl ⟨rfl, q⟩)))
    · exact Classical.byContradiction fun q => hn 4 (.inr (.inr (.inr (.inl ⟨rfl, q⟩))))
    · exact Classical.byContradiction fun q => hn 5 (.inr (.inr (.inr (.inr (.inl ⟨rfl, q⟩)))))
    · exact Classical.byContradiction fun q => hn 6 (.inr (.inr (.inr (.inr (.inr (.inl ⟨rfl, q⟩))))))
    · exact Classical.byContradiction fun q => hn 7 (.inr (.inr (.inr (.inr (.inr (.inr ⟨rfl, q⟩))))))
  · intro hf
    cases l with
    | nil => rfl
    | cons k l =>
      rcases (h.2 k).1 (by simp) with ⟨_, q⟩ | ⟨_, q⟩ | ⟨_, q⟩ | ⟨_, q⟩ | ⟨_, q⟩ | ⟨_, q⟩ | ⟨_, q⟩
      · exact absurd hf.order q
      · exact absurd hf.shape q
      · exact absurd hf.lost q
      · exact absurd hf.count q
      · exact absurd hf.many q
      · exact absurd hf.apart q
      · exact absurd hf.bounds q

/-! ### one less (P10.3) -/

theorem fineP.root {N : List Ino} {E : List Ent} (h : fineP N E) : ∃ x ∈ N, x.id = (0, 0) := kindI_some (by rw [h.shape.2.2]; rfl)

theorem fineP.ids {N : List Ino} {E : List Ent} (h : fineP N E) : Rising (N.map (·.id)) := by
  unfold Rising
  rw [List.pairwise_map]
  exact h.order.1

theorem fineP.nonempty {N : List Ino} {E : List Ent} (h : fineP N E) : 0 < N.length := by
  obtain ⟨x, hx, _⟩ := h.root
  exact List.length_pos_of_mem hx

theorem ids_apart {N : List Ino} (h : Rising (N.map (·.id))) {i : Nat} (hi : i < N.length) : ∀ x ∈ N.take i ++ N.drop (i + 1), x.id ≠ N[i].id := by
  intro x hx e
  have hn := h.nodup
  rw [List.Nodup, List.pairwise_map] at hn
  have hp := List.pairwise_iff_getElem.1 hn
  rcases List.mem_append.1 hx with hx | hx
  · obtain ⟨j, hj, rfl⟩ := List.getElem_of_mem hx
    rw [List.length_take] at hj
    rw [List.getElem_take] at e
    exact hp j i (by omega) hi (by omega) e
  · obtain ⟨j, hj, rfl⟩ := List.getElem_of_mem hx
    rw [List.length_drop] at hj
    rw [List.getElem_drop] at e
    exact hp i (i + 1 + j) hi (by omega) (by omega) e.symm

theorem links_pos {E : List Ent} {id : St} (h : 1 ≤ linksE E id) : ∃ e ∈ E, e.ino = id := by
  unfold linksE at h
  obtain ⟨e, he⟩ := List.exists_mem_of_length_pos (show 0 < (E.filter fun e => decide (e.ino = id)).length by omega)
  obtain ⟨h1, h2⟩ := List.mem_filter.1 he
  exact ⟨e, h1, by simpa using h2⟩

theorem fineP.less_ino {N : List Ino} {E : List Ent} (h : fineP N E) {i : Nat} (hi : i < N.length) : ¬ fineP (N.take i ++ N.drop (i + 1)) E := by
  intro h2
  have ha := ids_apart h.ids hi
  by_cases h0 : N[i].id = (0, 0)
  · obtain ⟨x, hx, e⟩ := h2.root
    exact ha x hx (by rw [e, h0])
  · have hm := h.many N[i] (List.getElem_mem hi)
    unfold manyOk1 at hm
    rw [if_neg h0] at hm
    obtain ⟨e, he, hei⟩ := links_pos hm.1
    have hl := (h2.lost e he).2
    obtain ⟨x, hx, hxe⟩ := kindI_some hl
    exact ha x hx (by rw [hxe, hei])

theorem links_cut (E : List Ent) {k : Nat} (hk : k < E.length) : linksE E E[k].ino = linksE (E.take k ++ E.drop (k + 1)) E[k].ino + 1 := by
  have hs : E = E.take k ++ E[k] :: E.drop (k + 1) := by simp
  obtain ⟨A, hA⟩ : ∃ A, A = E.take k := ⟨_, rfl⟩
  obtain ⟨C, hC⟩ : ∃ C, C = E.drop (k + 1) := ⟨_, rfl⟩
  obtain ⟨x, hx⟩ : ∃ x, x = E[k] := ⟨_, rfl⟩
  rw [← hA, ← hC, ← hx] at hs ⊢
  rw [hs]
  unfold linksE
  rw [List.filter_append, List.filter_append, List.filter_cons]
  simp
  omega

theorem fineP.less_ent {N : List Ino} {E : List Ent} (h : fineP N E) {k : Nat} (hk : k < E.length) : ¬ fineP N (E.take k ++ E.drop (k + 1)) := by
  intro h2
  obtain ⟨x, hx, hxe⟩ := kindI_some (h.lost E[k] (List.getElem_mem hk)).2
  have h3 := h.count x hx
  have h4 := h2.count x hx
  have h5 := links_cut E hk
  rw [hxe] at h3 h4
  omega

theorem fineP.alone {N : List Ino} (h : fineP N []) : N.length = 1 := by
  have h0 : ∀ x ∈ N, x.id = (0, 0) := fun x hx => Classical.byContradiction fun q => by
    have hm := h.many x hx
    unfold manyOk1 at hm
    rw [if_neg q] at hm
    have := hm.1
    simp [linksE] at this
  have hn := h.ids.nodup
  have hp := h.nonempty
  match N, hp with
  | [x], _ => rfl
  | x :: y :: l, _ =>
    simp only [List.map_cons, List.nodup_cons, List.mem_cons] at hn
    exact absurd (Or.inl (by rw [h0 x (by simp), h0 y (by simp)])) hn.1

/-! ### a tree (P10.2) -/

/-- All is reached: what is reached are the inodes. -/
theorem fineP.reach {N : List Ino} {E : List Ent} (h : fineP N E) {l : List St} (hl : IsReach N E l) : l = N.map (·.id) :=
  rising_same hl.1 h.ids fun s => by
    rw [hl.2]
    constructor
    · intro hs
      obtain ⟨x, hx, rfl⟩ := hs.ino
      exact List.mem_map_of_mem hx
    · intro hs
      obtain ⟨x, hx, rfl⟩ := List.mem_map.1 hs
      exact h.apart x hx

theorem sum_links : ∀ {ids : List St} (_ : ids.Nodup) {E : List Ent} (_ : ∀ e ∈ E, e.ino ∈ ids), (ids.map fun id => linksE E id).sum = E.length
  | ids, hn, [], _ => by
    have : ∀ l : List St, (l.map fun id => linksE [] id).sum = 0 := fun l => by
      induction l with
      | nil => rfl
      | cons x l ih => rw [List.map_cons, List.sum_cons, ih]; rfl
    exact this ids
  | ids, hn, e :: E, h => by
    have ih := sum_links hn (E := E) fun x hx => h x (by simp [hx])
    have h1 : ∀ l : List St, l.Nodup → (l.map fun id => linksE (e :: E) id).sum = (l.map fun id => linksE E id).sum + if e.ino ∈ l then 1 else 0 := fun l hl => by
      induction l with
      | nil => rfl
      | cons x l ih =>
        obtain ⟨a1, a2⟩ := List.nodup_cons.1 hl
        have h2 : linksE (e :: E) x = linksE E x + if e.ino = x then 1 else 0 := by
          unfold linksE
          rw [List.filter_cons]
          by_cases q : e.ino = x <;> simp [q]
        rw [List.map_cons, List.sum_cons, List.map_cons, List.sum_cons, ih a2, h2]
        by_cases q : e.ino = x
        · subst q
          simp [a1]
          omega
        · by_cases q2 : e.ino ∈ l
          · simp [q, q2]; omega
          · simp [q, q2]
    rw [h1 ids hn, ih, if_pos (h e (by simp)), List.length_cons]

/-- Links together are as many as entries. -/
theorem fineP.links {N : List Ino} {E : List Ent} (h : fineP N E) : (N.map fun x => x.links).sum = (E.length : Int) := by
  have h1 := sum_links (ids := N.map (·.id)) h.ids.nodup (E := E) fun e he => by
    obtain ⟨x, hx, hxe⟩ := kindI_some (h.lost e he).2
    rw [← hxe]
    exact List.mem_map_of_mem hx
  rw [List.map_map] at h1
  rw [← h1]
  have h2 : ∀ l : List Ino, (∀ x ∈ l, x.links = (linksE E x.id : Int)) → (l.map fun x => x.links).sum = (((l.map ((fun id => linksE E id) ∘ fun x => x.id)).sum : Nat) : Int) := fun l hl => by
    induction l with
    | nil => rfl
    | cons x l ih =>
      rw [List.map_cons, List.sum_cons, List.map_cons, List.sum_cons, ih (fun y hy => hl y (by simp [hy])), hl x (by simp)]
      simp
  exact h2 N h.count

/-- One step upwards, as the law has it: the last entry's directory. -/
def upL (E : List Ent) (id : St) : St := E.foldl (fun s e => if e.ino = id then e.dir else s) id

/-- So many steps upwards, as long as it isn't the root. -/
def climb (E : List Ent) : Nat → St → St
  | 0, s => s
  | n + 1, s => if s = (0, 0) then s else climb E n (upL E s)

theorem upL_one {E : List Ent} {e : Ent} (he : e ∈ E) (h : ∀ f ∈ E, f.ino = e.ino → f.dir = e.dir) : upL E e.ino = e.dir := by
  have h1 : ∀ (l : List Ent) (s : St), (∀ f ∈ l, f.ino = e.ino → f.dir = e.dir) → (s = e.dir ∨ ∃ f ∈ l, f.ino = e.ino) → l.foldl (fun s f => if f.ino = e.ino then f.dir else s) s = e.dir := fun l => by
    induction l with
    | nil =>
      intro s _ h2
      rcases h2 with h2 | ⟨f, hf, _⟩
      · exact h2
      · cases hf
    | cons f l ih =>
      intro s h1 h2
      rw [List.foldl_cons]
      refine ih _ (fun g hg => h1 g (by simp [hg])) ?_
      by_cases q : f.ino = e.ino
      · rw [if_pos q]
        exact Or.inl (h1 f (by simp) q)
      · rw [if_neg q]
        rcases h2 with h2 | ⟨g, hg, hge⟩
        · exact Or.inl h2
        · rcases List.mem_cons.1 hg with e1 | hg
          · subst e1
            exact absurd hge q
          · exact Or.inr ⟨g, hg, hge⟩
  exact h1 E e.ino h (Or.inr ⟨e, he, rfl⟩)

theorem links_two {E : List Ent} {id : St} (h : linksE E id ≤ 1) {e f : Ent} (he : e ∈ E) (hf : f ∈ E) (h1 : e.ino = id) (h2 : f.ino = id) : e = f := by
  unfold linksE at h
  have m1 : e ∈ E.filter fun e => decide (e.ino = id) := List.mem_filter.2 ⟨he, by simpa using h1⟩
  have m2 : f ∈ E.filter fun e => decide (e.ino = id) := List.mem_filter.2 ⟨hf, by simpa using h2⟩
  generalize (E.filter fun e => decide (e.ino = id)) = L at h m1 m2
  match L, h, m1, m2 with
  | [], _, m1, _ => cases m1
  | [x], _, m1, m2 => rw [List.mem_singleton.1 m1, List.mem_singleton.1 m2]
  | _ :: _ :: _, h, _, _ => simp at h

theorem kind_first {N : List Ino} (h : Rising (N.map (·.id))) {x : Ino} (hx : x ∈ N) : kindI N x.id = some x.kind := by
  have hid : ∀ a ∈ N, ∀ b ∈ N, a.id = b.id → a = b := by
    intro a ha b hb e
    have hn := h.nodup
    rw [List.Nodup, List.pairwise_map] at hn
    obtain ⟨i, hi, rfl⟩ := List.getElem_of_mem ha
    obtain ⟨j, hj, rfl⟩ := List.getElem_of_mem hb
    have hp := List.pairwise_iff_getElem.1 hn
    rcases Nat.lt_trichotomy i j with q | q | q
    · exact absurd e (hp i j hi hj q)
    · subst q; rfl
    · exact absurd e.symm (hp j i hj hi q)
  unfold kindI
  rw [find_id hid hx]
  rfl

/-- A path down from the root, by its directories. -/
theorem fineP.path {N : List Ino} {E : List Ent} (h : fineP N E) : ∀ {m : Nat} {s : St}, ReachedN N E m s → kindI N s = some 1 → ∃ p : Nat → St, p 0 = (0, 0) ∧ p m = s ∧ (∀ i, i ≤ m → (kindI N (p i)).isSome) ∧ ∀ i, i < m → p (i + 1) ≠ (0, 0) ∧ upL E (p (i + 1)) = p i
  | 0, s, hr, hk => by
    cases hr with
    | root h0 => exact ⟨fun _ => (0, 0), rfl, rfl, fun i _ => h0, fun i hi => absurd hi (by omega)⟩
  | m + 1, s, hr, hk => by
    cases hr with
    | @step _ e h1 h2 h3 h4 =>
      obtain ⟨p, p1, p2, p3, p4⟩ := h.path h2 h3
      obtain ⟨x, hx, hxe⟩ := kindI_some h4
      have hm := h.many x hx
      have hkx : x.kind = 1 := by
        have := kind_first h.ids hx
        rw [hxe, hk] at this
        exact (Option.some.inj this).symm
      have hpos : 1 ≤ linksE E x.id := by
        unfold linksE
        exact List.length_pos_of_mem (List.mem_filter.2 ⟨h1, by simpa using hxe.symm⟩)
      unfold manyOk1 at hm
      have hne : x.id ≠ (0, 0) := fun q => by rw [if_pos q] at hm; omega
      rw [if_neg hne, if_pos hkx] at hm
      refine ⟨fun i => if i = m + 1 then e.ino else p i, by show (if 0 = m + 1 then e.ino else p 0) = _; rw [if_neg (by omega)]; exact p1, by show (if m + 1 = m + 1 then e.ino else p (m + 1)) = _; rw [if_pos rfl], fun i hi => ?_, fun i hi => ?_⟩
      · by_cases q : i = m + 1
        · simp only [if_pos q]; exact h4
        · simp only [if_neg q]; exact p3 i (by omega)
      · by_cases q : i = m
        · subst q
          simp only [if_true, if_neg (show ¬ i = i + 1 by omega)]
          refine ⟨by rw [← hxe]; exact hne, ?_⟩
          rw [p2]
          exact upL_one h1 fun f hf hfe => by rw [links_two hm.2 hf h1 (hfe.trans hxe.symm) hxe.symm]
        · simp only [if_neg (show ¬ i + 1 = m + 1 by omega), if_neg (show ¬ i = m + 1 by omega)]
          exact p4 i (by omega)

theorem climb_path {E : List Ent} {p : Nat → St} (h0 : p 0 = (0, 0)) : ∀ (m n : Nat), m ≤ n → (∀ i, i < m → p (i + 1) ≠ (0, 0) ∧ upL E (p (i + 1)) = p i) → climb E n (p m) = (0, 0)
  | 0, n, _, _ => by
    cases n with
    | zero => exact h0
    | succ n => unfold climb; rw [if_pos h0]; exact h0
  | m + 1, 0, hmn, _ => absurd hmn (by omega)
  | m + 1, n + 1, hmn, h => by
    obtain ⟨h1, h2⟩ := h m (by omega)
    unfold climb
    rw [if_neg h1, h2]
    exact climb_path h0 m n (by omega) fun i hi => h i (by omega)

/-- Upwards from a directory the root is reached, in fewer steps than there are inodes. -/
theorem fineP.climb {N : List Ino} {E : List Ent} (h : fineP N E) {x : Ino} (hx : x ∈ N) (hk : x.kind = 1) : climb E N.length x.id = (0, 0) := by
  obtain ⟨m, hm⟩ := h.apart x hx
  have hkx : kindI N x.id = some 1 := by rw [kind_first h.ids hx, hk]
  obtain ⟨p, p1, p2, p3, p4⟩ := h.path hm hkx
  -- no two of them are the same
  have inj : ∀ (i j : Nat), i < j → j ≤ m → p i ≠ p j := by
    intro i
    induction i with
    | zero =>
      intro j hij hj e
      obtain ⟨q1, _⟩ := p4 (j - 1) (by omega)
      rw [show j - 1 + 1 = j by omega] at q1
      exact q1 (by rw [← e, p1])
    | succ i ih =>
      intro j hij hj e
      obtain ⟨_, q2⟩ := p4 i (by omega)
      obtain ⟨_, r2⟩ := p4 (j - 1) (by omega)
      rw [show j - 1 + 1 = j by omega] at r2
      exact ih (j - 1) (by omega) (by omega) (by rw [← q2, ← r2, e])
  have hlen : m + 1 ≤ N.length := by
    have hn : ((List.range (m + 1)).map p).Nodup := by
      rw [List.Nodup, List.pairwise_map, List.pairwise_iff_getElem]
      intro i j hi hj hij
      rw [List.length_range] at hi hj
      simp only [List.getElem_range]
      exact inj i j hij (by omega)
    have := nodup_le hn (M := N.map (·.id)) fun s hs => by
      obtain ⟨i, hi, rfl⟩ := List.mem_map.1 hs
      obtain ⟨y, hy, hye⟩ := kindI_some (p3 i (by have := List.mem_range.1 hi; omega))
      rw [← hye]
      exact List.mem_map_of_mem hy
    simpa using this
  rw [← p2]
  exact climb_path p1 m N.length (by omega) p4

/-! ### with an entry more no less is reached (P10.1) -/

theorem IsReach.more {N : List Ino} {E : List Ent} {x : Ent} {a b : List St} (ha : IsReach N E a) (hb : IsReach N (E ++ [x]) b) : (∀ s ∈ a, s ∈ b) ∧ a.length ≤ b.length := by
  have h1 : ∀ s ∈ a, s ∈ b := fun s hs => (hb.2 s).2 (((ha.2 s).1 hs).mono fun e he => by simp [he])
  exact ⟨h1, nodup_le ha.1.nodup h1⟩

/-! ### graphs (P9.5) -/

theorem Gr.ok.kindI {g : Gr} (h : g.ok) {x : Ino} (hx : x ∈ g.I) : GraphMath.kindI (inodesG g) x.id = some x.kind := by
  rw [h.inodes]
  unfold GraphMath.kindI
  rw [List.find?_map]
  rw [show ((fun y : Ino => decide (y.id = x.id)) ∘ fun y : Ino => { y with links := (linksE g.E y.id : Int) }) = fun y : Ino => decide (y.id = x.id) from rfl, find_id (fun a ha b hb e => h.ids ha hb e) hx]
  rfl

/-- A graph whose names may be has none of the first four faults. -/
theorem Gr.ok.audit {g : Gr} (h : g.ok) (hn : ∀ e ∈ g.E, nameB e.name = true) : orderOk (inodesG g) g.E ∧ shapeOk (inodesG g) g.E ∧ lostOk (inodesG g) g.E ∧ countOk (inodesG g) g.E := by
  refine ⟨⟨?_, h.sortE⟩, ⟨?_, hn, ?_⟩, ?_, ?_⟩
  · rw [h.inodes, List.pairwise_map]
    exact h.sortI
  · intro x hx
    rw [h.inodes] at hx
    obtain ⟨y, hy, rfl⟩ := List.mem_map.1 hx
    exact ⟨h.may y hy, h.kinds y hy⟩
  · obtain ⟨x, hx, h0, h1⟩ := h.root
    rw [← h0, h.kindI hx, h1]
  · intro e he
    obtain ⟨x, hx, hxe, hk⟩ := h.dirs e he
    obtain ⟨y, hy, hye⟩ := h.inos e he
    refine ⟨by rw [← hxe, h.kindI hx, hk], by rw [← hye, h.kindI hy]; rfl⟩
  · intro x hx
    rw [h.inodes] at hx
    obtain ⟨y, hy, rfl⟩ := List.mem_map.1 hx
    rfl

/-- Names may be, whatever is tied. -/
theorem names_tie {g : Gr} (hn : ∀ e ∈ g.E, nameB e.name = true) (x : Ent) : ∀ e ∈ (tieG (nameB x.name) g x).1.E, nameB e.name = true := by
  intro e he
  unfold tieG at he
  by_cases hw : whyG (nameB x.name) g x = 0
  · rw [if_pos hw] at he
    have hnx : nameB x.name = true := by
      cases hq : nameB x.name with
      | true => rfl
      | false => unfold whyG at hw; rw [if_pos hq] at hw; cases hw
    rcases List.mem_cons.1 ((putIn_perm _ _ _).mem_iff.1 he) with rfl | he
    · exact hnx
    · exact hn e he
  · rw [if_neg hw] at he
    exact hn e he

theorem names_make {g : Gr} (hn : ∀ e ∈ g.E, nameB e.name = true) (id : St) (kind : Int) : ∀ e ∈ (makeG g id kind).1.E, nameB e.name = true := by
  intro e he
  unfold makeG at he
  split at he
  · exact hn e he
  · split at he
    · exact hn e he
    · split at he
      · exact hn e he
      · exact hn e he

end Go.Proofs.Ytoobmkkmomiigaa.GraphMath
