/-
  Plain mathematics of layer 15: a directory's home, and what a path and two points behind it lead to. It needs no program.
-/
import Derived.Test.YtbkijfhfjhpebaaGreatDoorZ00
import Derived.Laws.AppendOwnNone
import Derived.Test.YtbkijfhfjhpebaaGreatDoorRows
import Derived.ProofKit
import Derived.Laws.StructEq
import Derived.Deep.QuietTactic
import Derived.BigQuiet
import Derived.Deep.Cut
import Derived.Deep.DeepCutAuto
import Derived.Lib.AppendZeros
import Derived.Lib.SplitLaws
import Derived.Shelf.SlicesE.DeleteFunc
import Derived.Shelf.Lays
import Derived.Shelf.SlGeneric
import Derived.Shelf.SlLaysH
import Derived.Shelf.SlLaysH0
import Derived.Test.YtbkijfhfjhpebaaGreatDoorProg
namespace Go.Proofs.YtbkijfhfjhpebaaGreatDoor.GraphMath
open OpMath

/-- The names down to a directory, by so many steps. -/
def homeL (g : Gr) : Nat → St → List ByteArray
  | 0, _ => []
  | n + 1, id => if id = (0, 0) then [] else match g.E.find? fun e => decide (e.ino = id) with
    | none => []
    | some e => homeL g n e.dir ++ [e.name]

/-- A slash, and the names with slashes between. -/
def slashes (l : List ByteArray) : Bs := if l = [] then [47] else l.flatMap fun a => 47 :: a.data.toList

/-- A directory's home. -/
def homeG (g : Gr) (id : St) : Option Bs := if kindG g id = 1 then some (slashes (homeL g g.I.length id)) else none

/-- Down to it are so many steps. -/
inductive Down (g : Gr) : Nat → St → List ByteArray → Prop
  | root : Down g 0 (0, 0) []
  | step {n : Nat} {e : Ent} {l : List ByteArray} : e ∈ g.E → g.isDir e.ino → Down g n e.dir l → Down g (n + 1) e.ino (l ++ [e.name])

theorem Gr.ok.entry_one {g : Gr} (h : g.ok) {e : Ent} (he : e ∈ g.E) (hd : g.isDir e.ino) : g.E.find? (fun x => decide (x.ino = e.ino)) = some e := by
  cases hf : g.E.find? (fun x => decide (x.ino = e.ino)) with
  | none => exact absurd (List.find?_eq_none.1 hf e he) (by simp)
  | some x => rw [links_two (h.one e.ino hd) (List.mem_of_find?_eq_some hf) he (by simpa using List.find?_some hf) rfl]

theorem Down.home {g : Gr} (h : g.ok) {n : Nat} {id : St} {l : List ByteArray} (hd : Down g n id l) : ∀ m, n ≤ m → homeL g m id = l := by
  induction hd with
  | root =>
    intro m _
    cases m with
    | zero => rfl
    | succ m => exact if_pos rfl
  | @step n e l he hi _ ih =>
    intro m hm
    obtain ⟨m, rfl⟩ : ∃ k, m = k + 1 := ⟨m - 1, by omega⟩
    unfold homeL
    rw [if_neg (h.noRoot e he), h.entry_one he hi]
    dsimp only
    rw [ih m (by omega)]

/-- A directory of a graph that is fine lies so many steps down. -/
theorem Gr.fine.down {g : Gr} (h : g.fine) : ∀ x ∈ g.I, x.kind = 1 → ∃ n l, Down g n x.id l := by
  obtain ⟨f, hf⟩ := h.ok.rank
  have H : ∀ k, ∀ x ∈ g.I, x.kind = 1 → f x.id < k → ∃ n l, Down g n x.id l := by
    intro k
    induction k with
    | zero => intro _ _ _ q; omega
    | succ k ih =>
      intro x hx hk hlt
      by_cases h0 : x.id = (0, 0)
      · rw [h0]; exact ⟨0, [], .root⟩
      · obtain ⟨e, he, hie⟩ := links_pos (h.held x hx h0)
        have hd : g.isDir e.ino := ⟨x, hx, hie.symm, hk⟩
        have := hf e he hd
        obtain ⟨y, hy, hyd, hyk⟩ := h.ok.dirs e he
        rw [hie] at this
        obtain ⟨n, l, q⟩ := ih y hy hyk (by rw [hyd]; omega)
        rw [hyd] at q
        rw [← hie]
        exact ⟨n + 1, _, .step he hd q⟩
  intro x hx hk
  exact H (f x.id + 1) x hx hk (by omega)

/-- The inodes on the way down. -/
theorem Down.few {g : Gr} (h : g.ok) {n : Nat} {id : St} {l : List ByteArray} (hd : Down g n id l) : n + 1 ≤ g.I.length := by
  obtain ⟨f, hf⟩ := h.rank
  have H : ∀ {n : Nat} {id : St} {l : List ByteArray}, Down g n id l → ∃ L : List St, L.length = n + 1 ∧ L.Nodup ∧ (∀ s ∈ L, s ∈ g.I.map (·.id)) ∧ (∀ s ∈ L, s = id ∨ f s < f id) := by
    intro n id l hd
    induction hd with
    | root =>
      obtain ⟨x, hx, h0, _⟩ := h.root
      refine ⟨[(0, 0)], rfl, by simp, fun s hs => ?_, fun s hs => .inl (List.mem_singleton.1 hs)⟩
      rw [List.mem_singleton.1 hs, ← h0]
      exact List.mem_map.2 ⟨x, hx, rfl⟩
    | @step n e l he hi _ ih =>
      obtain ⟨L, h1, h2, h3, h4⟩ := ih
      have hlt := hf e he hi
      refine ⟨e.ino :: L, by rw [List.length_cons, h1], List.nodup_cons.2 ⟨fun hm => ?_, h2⟩, fun s hs => ?_, fun s hs => ?_⟩
      · rcases h4 _ hm with q | q
        · rw [q] at hlt; omega
        · omega
      · rcases List.mem_cons.1 hs with q | q
        · obtain ⟨x, hx, hxe⟩ := h.inos e he
          rw [q, ← hxe]
          exact List.mem_map.2 ⟨x, hx, rfl⟩
        · exact h3 s q
      · rcases List.mem_cons.1 hs with q | q
        · exact .inl q
        · rcases h4 s q with r | r
          · rw [r]; exact .inr hlt
          · exact .inr (by omega)
  obtain ⟨L, h1, h2, h3, _⟩ := H hd
  have := nodup_le h2 h3
  rw [List.length_map] at this
  omega

/-- What a directory's home is. -/
theorem Gr.fine.home {g : Gr} (h : g.fine) {id : St} (hk : kindG g id = 1) : ∃ n, Down g n id (homeL g g.I.length id) ∧ homeG g id = some (slashes (homeL g g.I.length id)) := by
  obtain ⟨x, hx, h1, h2⟩ := kindG_some (g := g) (id := id) (by rw [hk]; decide)
  obtain ⟨n, l, hd⟩ := h.down x hx (h2.trans hk)
  rw [h1] at hd
  have := hd.few h.ok
  refine ⟨n, ?_, if_pos hk⟩
  rw [hd.home h.ok _ (by omega)]
  exact hd

/-! ### a directory is found by its home -/

theorem Gr.ok.look_entry {g : Gr} (h : g.ok) {e : Ent} (he : e ∈ g.E) : lookE g.E e.dir e.name = some e.ino := (look_iff h).2 he

theorem bytes_list (a : ByteArray) : bytes a.data.toList = a := by
  cases a
  rfl

theorem Down.find {g : Gr} (h : g.fine) (f : Bool) (k : Nat) {n : Nat} {id : St} {l : List ByteArray} (hd : Down g n id l) : ∀ m, ∃ s : Spt, s.ino = id ∧ s.there = true ∧ goS g f k (l.map (·.data.toList) ++ m) (startS (0, 0) [47]) = goS g f k m s := by
  have one : ∀ (k : Nat) (s : Spt) (a : Bs) (m : List Bs) (s' : Spt), symS g s = false → stepS g s a = .ok s' → goS g f k (a :: m) s = goS g f k m s' := by
    intro k s a m s' h1 h2
    cases k with
    | zero =>
      show downS g f 0 _ (a :: m) s = _
      unfold downS
      rw [if_neg (by rw [h1]; decide), h2]
      rfl
    | succ k =>
      show downS g f (k + 1) _ (a :: m) s = _
      unfold downS
      rw [if_neg (by rw [h1]; decide), h2]
      rfl
  induction hd with
  | root => intro m; exact ⟨_, rfl, rfl, rfl⟩
  | @step n e l he hi _ ih =>
    intro m
    obtain ⟨s, h1, h2, h3⟩ := ih (e.name.data.toList :: m)
    have hk : kindG g s.ino = 1 := by rw [h1]; exact h.ok.kindDir (h.ok.dirs e he)
    have hst : stepS g s e.name.data.toList = .ok ⟨e.dir, e.name, e.ino, true⟩ := by
      unfold stepS
      rw [if_neg (by rw [h2]; decide), if_neg (by rw [hk]; decide), if_neg, bytes_list, h1, h.ok.look_entry he]
      · rfl
      · intro q
        have := h.names e he
        unfold nameB at this
        simp only [Bool.and_eq_true, Bool.not_eq_true'] at this
        have := this.1.1.2
        rw [ByteArray.toList_eq, q] at this
        exact absurd this (by decide)
    refine ⟨⟨e.dir, e.name, e.ino, true⟩, rfl, rfl, ?_⟩
    rw [List.map_append, List.append_assoc]
    show goS g f k (l.map (·.data.toList) ++ e.name.data.toList :: m) _ = _
    rw [h3, one k s _ m _ (by unfold symS; rw [hk, Bool.and_eq_false_iff]; exact .inr (by decide)) hst]

theorem name_part {a : ByteArray} (h : nameB a = true) : isPart a.data.toList = true ∧ (47 : UInt8) ∉ a.data.toList ∧ a.data.toList.length ≤ 8 ∧ (0 : UInt8) ∉ a.data.toList := by
  unfold nameB at h
  simp only [Bool.and_eq_true, Bool.not_eq_true', decide_eq_true_iff, ByteArray.toList_eq] at h
  obtain ⟨⟨⟨⟨⟨h1, h2⟩, h3⟩, h4⟩, h5⟩, h6⟩ := h
  have hl : a.data.toList.length = a.size := by simp
  have no : ∀ c, hasB a c = false → c ∉ a.data.toList := fun c hc hm => by
    unfold hasB at hc
    rw [List.any_eq_false] at hc
    exact hc c hm (beq_self_eq_true c)
  refine ⟨?_, no 47 h5, by rw [hl]; exact h2, no 0 h6⟩
  unfold isPart
  rw [h3]
  have : (a.data.toList == []) = false := by
    rw [beq_eq_false_iff_ne]
    intro q
    rw [q] at hl
    simp at hl
    omega
  rw [this]
  rfl

theorem Down.names {g : Gr} (h : g.fine) {n : Nat} {id : St} {l : List ByteArray} (hd : Down g n id l) : ∀ a ∈ l, nameB a = true := by
  induction hd with
  | root => intro a ha; cases ha
  | step he _ _ ih =>
    intro a ha
    rcases List.mem_append.1 ha with q | q
    · exact ih a q
    · rw [List.mem_singleton.1 q]
      exact h.names _ he

theorem parts_slashes : ∀ (l : List ByteArray), (∀ a ∈ l, nameB a = true) → partsP (slashes l) = l.map (·.data.toList)
  | [], _ => by decide
  | a :: t, h => by
    unfold slashes
    rw [if_neg (by simp)]
    have H : ∀ (t : List ByteArray) (b : Bs), (47 : UInt8) ∉ b → isPart b = true → (∀ a ∈ t, nameB a = true) → partsP (b ++ t.flatMap fun a => 47 :: a.data.toList) = b :: t.map (·.data.toList) := by
      intro t
      induction t with
      | nil =>
        intro b h1 h2 _
        rw [List.flatMap_nil, List.append_nil, parts_one h1 h2]
        rfl
      | cons c t ih =>
        intro b h1 h2 h3
        obtain ⟨c1, c2, _, _⟩ := name_part (h3 c List.mem_cons_self)
        rw [List.flatMap_cons, List.cons_append, parts_slash, parts_one h1 h2, ih _ c2 c1 (fun a ha => h3 a (List.mem_cons_of_mem _ ha))]
        rfl
    obtain ⟨c1, c2, _, _⟩ := name_part (h a List.mem_cons_self)
    rw [List.flatMap_cons, List.cons_append]
    show partsP ([] ++ 47 :: (a.data.toList ++ _)) = _
    rw [parts_slash, parts_none (by simp) (by decide), List.nil_append, H t _ c2 c1 (fun b hb => h b (List.mem_cons_of_mem _ hb))]
    rfl

theorem slashes_ne (l : List ByteArray) : ∃ r, slashes l = 47 :: r := by
  cases l with
  | nil => exact ⟨[], rfl⟩
  | cons a t => exact ⟨_, rfl⟩

theorem err_slashes {l : List ByteArray} (h : ∀ a ∈ l, nameB a = true) (hl : (slashes l).length ≤ 128) : errP (slashes l) = 0 := by
  obtain ⟨r, hr⟩ := slashes_ne l
  refine err_of (by rw [hr]; simp) hl ?_ ?_
  · rw [parts_slashes l h]
    intro a ha
    obtain ⟨b, hb, rfl⟩ := List.mem_map.1 ha
    exact (name_part (h b hb)).2.2.1
  · unfold slashes
    split
    · decide
    · intro q
      obtain ⟨a, ha, hx⟩ := List.mem_flatMap.1 q
      rcases List.mem_cons.1 hx with e | e
      · cases e
      · exact (name_part (h a ha)).2.2.2 e

theorem start_root (a : St) (r : Bs) : startS a (47 :: r) = startS (0, 0) [47] := rfl

theorem go_end (g : Gr) (f : Bool) (k : Nat) (s : Spt) (h : symS g s = false) : goS g f k [] s = .ok (s, k) := by
  cases k <;>
    · show downS g f _ _ [] s = _
      unfold downS
      rw [h, Bool.false_and]
      rfl

/-- P15.4: a directory is found by its home. -/
theorem Gr.fine.find_home {g : Gr} (h : g.fine) {id a : St} (hk : kindG g id = 1) (ha : kindG g a ≠ 0) (f : Bool) {p : Bs} (hp : homeG g id = some p) (hl : p.length ≤ 128) :
    (findG g a p f).2 = 0 ∧ (findG g a p f).1.there = true ∧ (findG g a p f).1.ino = id := by
  obtain ⟨n, hd, hh⟩ := h.home hk
  rw [hh] at hp
  cases hp
  have hn := hd.names h
  obtain ⟨r, hr⟩ := slashes_ne (homeL g g.I.length id)
  obtain ⟨s, h1, h2, h3⟩ := hd.find h f 40 []
  have hs : symS g s = false := by unfold symS; rw [h1, hk, Bool.and_eq_false_iff]; exact .inr (by decide)
  unfold findG
  rw [if_neg (by rw [err_slashes hn hl]; decide), if_neg ha, parts_slashes _ hn, hr, start_root]
  rw [List.append_nil] at h3
  rw [h3, go_end g f 40 s hs]
  exact ⟨rfl, h2, h1⟩

/-- The begin of a home is the parent's. -/
theorem slashes_begin (l : List ByteArray) (a : ByteArray) : (slashes l).length ≤ (slashes (l ++ [a])).length ∧ (slashes (l ++ [a])).take (slashes l).length = slashes l := by
  have e : slashes (l ++ [a]) = (l.flatMap fun a => 47 :: a.data.toList) ++ (47 :: a.data.toList) := by
    unfold slashes
    rw [if_neg (by simp), List.flatMap_append]
    simp
  rw [e]
  unfold slashes
  split
  · rename_i h
    rw [h]
    exact ⟨by simp, by simp⟩
  · exact ⟨by simp, by simp⟩

/-- P15.4, of a parent's home. -/
theorem Gr.fine.home_up {g : Gr} (h : g.fine) {id : St} (hk : kindG g id = 1) : ∃ p q, homeG g id = some p ∧ homeG g ((parentG g id).getD (0, 0)) = some q ∧ q.length ≤ p.length ∧ p.take q.length = q ∧
    (id = (0, 0) ∨ (parentG g id).isSome = true) ∧ (id = (0, 0) → parentG g id = none) ∧ kindG g ((parentG g id).getD (0, 0)) = 1 := by
  obtain ⟨n, hd, hh⟩ := h.home hk
  have key : ∀ {n : Nat} {id : St} {l : List ByteArray}, Down g n id l → id = (0, 0) ∧ parentG g id = none ∧ l = [] ∨ ∃ d l' a, parentG g id = some d ∧ id ≠ (0, 0) ∧ l = l' ++ [a] ∧ Down g (n - 1) d l' := by
    intro n id l hd
    cases hd with
    | root =>
      refine .inl ⟨rfl, ?_, rfl⟩
      cases hp : parentG g (0, 0) with
      | none => rfl
      | some d =>
        obtain ⟨e, he, h3, _, _⟩ := parent_of hp
        exact absurd h3 (h.ok.noRoot e he)
    | @step m e l' he hi hd' => exact .inr ⟨e.dir, l', e.name, h.ok.parent he hi, h.ok.noRoot e he, rfl, hd'⟩
  rcases key hd with ⟨h1, h2, h3⟩ | ⟨d, l', a, h1, h2, h3, h4⟩
  · rw [h2]
    refine ⟨_, _, hh, ?_, Nat.le_refl _, List.take_length, .inl h1, fun _ => rfl, h.ok.kind_root⟩
    show homeG g (0, 0) = _
    rw [← h1]
    exact hh
  · rw [h1]
    have hkd : kindG g d = 1 := by
      obtain ⟨e, he, _, h5, _⟩ := parent_of h1
      rw [← h5]
      exact h.ok.kindDir (h.ok.dirs e he)
    obtain ⟨m, hm, hq⟩ := h.home hkd
    have := hm.home h.ok g.I.length (by have := hm.few h.ok; omega)
    have e2 := h4.home h.ok g.I.length (by have := h4.few h.ok; omega)
    rw [e2] at hq
    have := slashes_begin l' a
    rw [← h3] at this
    exact ⟨_, _, hh, hq, this.1, this.2, .inr rfl, fun q => absurd q h2, hkd⟩

/-- P15.2: two points behind a path. -/
theorem Gr.fine.find_up {g : Gr} (h : g.fine) {p : Bs} (hp : p ≠ []) (hl : p.length ≤ 100) :
    ((findG g (0, 0) p true).2 ≠ 0 → (findG g (0, 0) (p ++ [47, 46, 46]) true).2 ≠ 0) ∧
    ((findG g (0, 0) p true).2 = 0 → (findG g (0, 0) p true).1.there = false → (findG g (0, 0) (p ++ [47, 46, 46]) true).2 = 3) ∧
    ((findG g (0, 0) p true).2 = 0 → (findG g (0, 0) p true).1.there = true → kindG g (findG g (0, 0) p true).1.ino ≠ 1 → (findG g (0, 0) (p ++ [47, 46, 46]) true).2 = 6) ∧
    ((findG g (0, 0) p true).2 = 0 → (findG g (0, 0) p true).1.there = true → kindG g (findG g (0, 0) p true).1.ino = 1 → (findG g (0, 0) (p ++ [47, 46, 46]) true) = (⟨(0, 0), ⟨#[]⟩, (parentG g (findG g (0, 0) p true).1.ino).getD (0, 0), true⟩, 0)) := by
  have hroot : ¬ kindG g (0, 0) = 0 := by rw [h.ok.kind_root]; decide
  have hst : startS (0, 0) (p ++ [47, 46, 46]) = startS (0, 0) p := by
    unfold startS
    cases p with
    | nil => exact absurd rfl hp
    | cons x r => rfl
  unfold findG
  rw [err_up hp hl, parts_up, hst, if_neg hroot, if_neg hroot]
  by_cases he : errP p ≠ 0
  · rw [if_pos he, if_pos he]
    exact ⟨fun q => q, fun q => absurd q he, fun q => absurd q he, fun q => absurd q he⟩
  · rw [if_neg he, if_neg he]
    have := go_more g true [[46, 46]] (by simp) 40 (partsP p) (startS (0, 0) p)
    cases hg : goS g true 40 (partsP p) (startS (0, 0) p) with
    | error e =>
      rw [hg] at this
      rw [this]
      have ne := go_err g true 40 (partsP p) (startS (0, 0) p) e hg
      exact ⟨fun q => q, fun q => absurd q ne, fun q => absurd q ne, fun q => absurd q ne⟩
    | ok q =>
      obtain ⟨s, k⟩ := q
      rw [hg] at this
      rw [this]
      obtain ⟨fit, hsym⟩ := go_fit h.ok true 40 _ _ s k ((err_zero (Classical.byContradiction he)).2.2.1) (start_fit h.ok (by rw [h.ok.kind_root]; decide) p) hg
      have hs := hsym rfl
      have one : goS g true k [[46, 46]] s = match stepS g s [46, 46] with
          | .error e => .error e
          | .ok s' => goS g true k [] s' := by
        cases k <;>
          · show downS g true _ _ [[46, 46]] s = _
            unfold downS
            rw [if_neg (by rw [hs]; decide)]
            cases stepS g s [46, 46] <;> rfl
      rw [one]
      unfold stepS
      refine ⟨fun q => absurd rfl q, fun _ ht => ?_, fun _ ht hk => ?_, fun _ ht hk => ?_⟩
      · rw [if_pos ht]
      · rw [if_neg (by rw [show s.there = true from ht]; decide), if_pos hk]
      · rw [if_neg (by rw [show s.there = true from ht]; decide), if_neg (by rw [show kindG g s.ino = 1 from hk]; decide), if_pos rfl]
        obtain ⟨_, _, _, _, _, _, _, _, hu⟩ := h.home_up (show kindG g s.ino = 1 from hk)
        dsimp only
        rw [go_end]
        unfold symS
        rw [Bool.and_eq_false_iff]
        exact .inr (by rw [hu]; decide)

end Go.Proofs.YtbkijfhfjhpebaaGreatDoor.GraphMath

/-
  A slice of structs of k cells that is only read; one that was appended to. It needs no program.
-/
namespace Go.Proofs.YtbkijfhfjhpebaaGreatDoor
open Go.RowKit

/-- The slice with address A and length n reads as rows of k cells, and lies below block B. -/
def TabIn (k : Nat) (W : World) (B : Nat) (A : Option Addr) (n : Nat) (rows : List (Array Value)) : Prop :=
  rows.length = n ∧ (0 < n → ∃ g o, A = some ⟨g, o, none⟩ ∧ g < B ∧ ∀ j (h : j < rows.length) i v, rows[j][i]? = some v → W.cell? ⟨g, o + j * k + i, none⟩ = some v)

theorem TabIn.below {k : Nat} {W W' : World} {B : Nat} {A : Option Addr} {n : Nat} {rows : List (Array Value)} (h : TabIn k W B A n rows) (hb : Below B W W') : TabIn k W' B A n rows :=
  ⟨h.1, fun hn => by
    obtain ⟨g, o, e, hg, hc⟩ := h.2 hn
    exact ⟨g, o, e, hg, fun j hj i v hv => (hb.cell (p := ⟨g, o + j * k + i, none⟩) hg).trans (hc j hj i v hv)⟩⟩

theorem TabIn.more {k : Nat} {W : World} {B B' : Nat} {A : Option Addr} {n : Nat} {rows : List (Array Value)} (h : TabIn k W B A n rows) (hB : B ≤ B') : TabIn k W B' A n rows :=
  ⟨h.1, fun hn => by
    obtain ⟨g, o, e, hg, hc⟩ := h.2 hn
    exact ⟨g, o, e, by omega, hc⟩⟩

theorem TabIn.take {k : Nat} {W : World} {B : Nat} {A : Option Addr} {n : Nat} {rows : List (Array Value)} (h : TabIn k W B A n rows) {m : Nat} (hm : m ≤ n) : TabIn k W B A m (rows.take m) :=
  ⟨by rw [List.length_take, h.1]; omega, fun hn => by
    obtain ⟨g, o, e, hg, hc⟩ := h.2 (by omega)
    refine ⟨g, o, e, hg, fun j hj i v hv => ?_⟩
    rw [List.length_take] at hj
    rw [List.getElem_take] at hv
    exact hc j (by omega) i v hv⟩

theorem TabIn.nil (k : Nat) (W : World) (B : Nat) (A : Option Addr) : TabIn k W B A 0 [] := ⟨rfl, fun h => absurd h (by omega)⟩

/-- The cells of rows, one behind the other. -/
def flat (rows : List (Array Value)) : List Value := rows.flatMap Array.toList

theorem flat_nil : flat [] = [] := rfl
theorem flat_append (a b : List (Array Value)) : flat (a ++ b) = flat a ++ flat b := by simp [flat]
theorem flat_one (r : Array Value) : flat [r] = r.toList := by simp [flat]

theorem flat_len {k : Nat} : ∀ {rows : List (Array Value)}, (∀ r ∈ rows, r.size = k) → (flat rows).length = rows.length * k
  | [], _ => by simp [flat]
  | r :: l, h => by
    have h1 := h r (List.mem_cons_self ..)
    have h2 := flat_len (rows := l) fun x hx => h x (List.mem_cons_of_mem _ hx)
    unfold flat at h2 ⊢
    rw [List.flatMap_cons, List.length_append, h2, Array.length_toList, h1, List.length_cons, Nat.add_mul]
    omega

theorem flat_at {k : Nat} : ∀ {rows : List (Array Value)}, (∀ r ∈ rows, r.size = k) → ∀ (j : Nat) (hj : j < rows.length) (i : Nat), i < k → (flat rows)[j * k + i]? = rows[j][i]?
  | r :: l, h, 0, _, i, hi => by
    have h1 := h r (List.mem_cons_self ..)
    unfold flat
    rw [List.flatMap_cons, List.getElem?_append_left (by rw [Array.length_toList]; omega)]
    simp
  | r :: l, h, j + 1, hj, i, hi => by
    have h1 := h r (List.mem_cons_self ..)
    have h2 := flat_at (rows := l) (fun x hx => h x (List.mem_cons_of_mem _ hx)) j (by simpa using hj) i hi
    unfold flat at h2 ⊢
    rw [List.flatMap_cons, List.getElem?_append_right (by rw [Array.length_toList, h1, Nat.add_mul]; omega), Array.length_toList, h1]
    rw [show (j + 1) * k + i - k = j * k + i by rw [Nat.add_mul]; omega, h2]
    rfl
  | [], _, _, hj, _, _ => absurd hj (by simp)

theorem flat_out {k : Nat} {rows : List (Array Value)} (h : ∀ r ∈ rows, r.size = k) {p : Nat} {v : Value} (hp : (flat rows)[p]? = some v) : ∃ j i, ∃ hj : j < rows.length, p = j * k + i ∧ rows[j][i]? = some v := by
  have hl := flat_len h
  have hlt := (List.getElem?_eq_some_iff.1 hp).1
  rw [hl] at hlt
  have hk : 0 < k := by
    rcases Nat.eq_zero_or_pos k with h0 | h0
    · subst h0; omega
    · exact h0
  have hj : p / k < rows.length := (Nat.div_lt_iff_lt_mul hk).2 hlt
  have hi := Nat.mod_lt p hk
  have hpe : p = p / k * k + p % k := by rw [Nat.mul_comm]; exact (Nat.div_add_mod p k).symm
  refine ⟨p / k, p % k, hj, hpe, ?_⟩
  rw [← flat_at h _ hj _ hi, ← hpe]
  exact hp

theorem tab_add (g o i : Nat) : Addr.add ⟨g, o, none⟩ i = ⟨g, o + i, none⟩ := by
  unfold Addr.add
  split <;> simp_all

/-- What was appended to reads so. -/
theorem tab_own {k : Nat} {W : World} {base : Nat} {e : TypeId} {v : Value} {n : Nat} {rows : List (Array Value)} (hk : ∀ r ∈ rows, r.size = k) (hn : rows.length = n) (h : W.ownsRow base e k v n (flat rows)) :
    ∃ (A : Option Addr) (c : Nat), v = .slice A n c ∧ TabIn k W W.heap.size A n rows ∧ n ≤ c ∧ c ≤ maxLen ∧ (A = Option.none → c = 0) := by
  rcases h.2 with ⟨rfl, h0⟩ | ⟨g, cap, cur, rfl, hb, hg, hnc, hcm, _, _⟩
  · exact ⟨Option.none, 0, by rw [h0], ⟨hn, fun hn' => by omega⟩, by omega, by decide, fun _ => rfl⟩
  · refine ⟨some ⟨g, 0, Option.none⟩, cap, rfl, ⟨hn, fun _ => ⟨g, 0, rfl, (Array.getElem?_eq_some_iff.1 hg).1, fun j hj i u hu => ?_⟩⟩, hnc, hcm, fun h => by cases h⟩
    have hi : i < k := by
      have := (Array.getElem?_eq_some_iff.1 hu).1
      rw [hk _ (List.getElem_mem hj)] at this
      exact this
    have q := h.cells (g := g) rfl (j * k + i) u (by rw [flat_at hk j hj i hi]; exact hu)
    rw [tab_add] at q
    rw [show (0 : Nat) + j * k + i = 0 + (j * k + i) by omega]
    exact q

theorem flat_cells {rows : List (Array Value)} (hk : ∀ r ∈ rows, ∀ u ∈ r.toList, u.oneCell' = true) : ∀ u ∈ flat rows, u.oneCell' = true := by
  intro u hu
  obtain ⟨r, hr, hu⟩ := List.mem_flatMap.1 hu
  exact hk r hr u hu

end Go.Proofs.YtbkijfhfjhpebaaGreatDoor

/-
  Rows of inodes and of entries in memory; two stamps, two inodes, two entries held against each other, as the walk meets it.
-/
namespace Go.Proofs.YtbkijfhfjhpebaaGreatDoor
open Go.RowKit StampMath GraphMath

/-- The slice reads as entries. -/
def EntsIn (W : World) (B : Nat) (A : Option Addr) (n : Nat) (E : List Ent) : Prop := TabIn 5 W B A n (E.map entA)
/-- The slice reads as inodes. -/
def InosIn (W : World) (B : Nat) (A : Option Addr) (n : Nat) (I : List Ino) : Prop := TabIn 6 W B A n (I.map inoA)

theorem EntsIn.len {W : World} {B : Nat} {A : Option Addr} {n : Nat} {E : List Ent} (h : EntsIn W B A n E) : E.length = n := by have := h.1; rwa [List.length_map] at this
theorem InosIn.len {W : World} {B : Nat} {A : Option Addr} {n : Nat} {I : List Ino} (h : InosIn W B A n I) : I.length = n := by have := h.1; rwa [List.length_map] at this

/-- An entry's cells at ⟨g, p⟩. -/
def EntAt (W : World) (g p : Nat) (e : Ent) : Prop :=
  W.cell? ⟨g, p, none⟩ = some (.int .i64 e.dir.1) ∧ W.cell? ⟨g, p + 1, none⟩ = some (.int .i64 e.dir.2) ∧ W.cell? ⟨g, p + 2, none⟩ = some (.string e.name) ∧ W.cell? ⟨g, p + 3, none⟩ = some (.int .i64 e.ino.1) ∧ W.cell? ⟨g, p + 4, none⟩ = some (.int .i64 e.ino.2)

/-- An inode's cells at ⟨g, p⟩. -/
def InoAt (W : World) (g p : Nat) (x : Ino) : Prop :=
  W.cell? ⟨g, p, none⟩ = some (.int .i64 x.id.1) ∧ W.cell? ⟨g, p + 1, none⟩ = some (.int .i64 x.id.2) ∧ W.cell? ⟨g, p + 2, none⟩ = some (.int .i64 x.kind) ∧ W.cell? ⟨g, p + 3, none⟩ = some (.int .i64 x.links) ∧ W.cell? ⟨g, p + 4, none⟩ = some (.int .i64 x.mode) ∧ W.cell? ⟨g, p + 5, none⟩ = some (.string x.data)

theorem EntsIn.row {W : World} {B : Nat} {A : Option Addr} {n : Nat} {E : List Ent} (h : EntsIn W B A n E) (hn : 0 < n) : ∃ g o, A = some ⟨g, o, none⟩ ∧ g < B ∧ ∀ k (hk : k < E.length), EntAt W g (o + k * 5) E[k] := by
  obtain ⟨g, o, e, hg, hc⟩ := h.2 hn
  refine ⟨g, o, e, hg, fun k hk => ?_⟩
  have hk' : k < (E.map entA).length := by simpa using hk
  have he : (E.map entA)[k] = entA E[k] := by simp
  exact ⟨hc k hk' 0 _ (by rw [he]; rfl), hc k hk' 1 _ (by rw [he]; rfl), hc k hk' 2 _ (by rw [he]; rfl), hc k hk' 3 _ (by rw [he]; rfl), hc k hk' 4 _ (by rw [he]; rfl)⟩

theorem InosIn.row {W : World} {B : Nat} {A : Option Addr} {n : Nat} {I : List Ino} (h : InosIn W B A n I) (hn : 0 < n) : ∃ g o, A = some ⟨g, o, none⟩ ∧ g < B ∧ ∀ k (hk : k < I.length), InoAt W g (o + k * 6) I[k] := by
  obtain ⟨g, o, e, hg, hc⟩ := h.2 hn
  refine ⟨g, o, e, hg, fun k hk => ?_⟩
  have hk' : k < (I.map inoA).length := by simpa using hk
  have he : (I.map inoA)[k] = inoA I[k] := by simp
  exact ⟨hc k hk' 0 _ (by rw [he]; rfl), hc k hk' 1 _ (by rw [he]; rfl), hc k hk' 2 _ (by rw [he]; rfl), hc k hk' 3 _ (by rw [he]; rfl), hc k hk' 4 _ (by rw [he]; rfl), hc k hk' 5 _ (by rw [he]; rfl)⟩

theorem EntAt.below {W W' : World} {B g p : Nat} {e : Ent} (h : EntAt W g p e) (hb : Below B W W') (hg : g < B) : EntAt W' g p e :=
  ⟨(hb.cell (p := ⟨g, p, none⟩) hg).trans h.1, (hb.cell (p := ⟨g, p + 1, none⟩) hg).trans h.2.1, (hb.cell (p := ⟨g, p + 2, none⟩) hg).trans h.2.2.1, (hb.cell (p := ⟨g, p + 3, none⟩) hg).trans h.2.2.2.1, (hb.cell (p := ⟨g, p + 4, none⟩) hg).trans h.2.2.2.2⟩

theorem InoAt.below {W W' : World} {B g p : Nat} {x : Ino} (h : InoAt W g p x) (hb : Below B W W') (hg : g < B) : InoAt W' g p x :=
  ⟨(hb.cell (p := ⟨g, p, none⟩) hg).trans h.1, (hb.cell (p := ⟨g, p + 1, none⟩) hg).trans h.2.1, (hb.cell (p := ⟨g, p + 2, none⟩) hg).trans h.2.2.1, (hb.cell (p := ⟨g, p + 3, none⟩) hg).trans h.2.2.2.1, (hb.cell (p := ⟨g, p + 4, none⟩) hg).trans h.2.2.2.2.1, (hb.cell (p := ⟨g, p + 5, none⟩) hg).trans h.2.2.2.2.2⟩

theorem bytes_same {a b : ByteArray} (h : a.toList = b.toList) : a = b := by
  rw [ByteArray.toList_eq, ByteArray.toList_eq] at h
  apply ByteArray.ext
  exact Array.toList_inj.1 h

theorem run_eqSt (a b c d : Int) (W : World) : (Op.equalIn 10000 24 (.agg #[.int .i64 a, .int .i64 b]) (.agg #[.int .i64 c, .int .i64 d])).run Tryz.prog W = .ok (decide ((a, b) = (c, d))) W := by
  go_simp
  by_cases h1 : a = c
  · by_cases h2 : b = d
    · simp [h1, h2]
    · simp [h1, h2]
  · simp [h1]

theorem eqSt_yes {a c : St} (h : a = c) (W : World) : (Op.equalIn 10000 24 (.agg #[.int .i64 a.1, .int .i64 a.2]) (.agg #[.int .i64 c.1, .int .i64 c.2])).run Tryz.prog W = .ok true W := by
  rw [run_eqSt, decide_eq_true (by rw [h])]

theorem eqSt_no {a c : St} (h : ¬ a = c) (W : World) : (Op.equalIn 10000 24 (.agg #[.int .i64 a.1, .int .i64 a.2]) (.agg #[.int .i64 c.1, .int .i64 c.2])).run Tryz.prog W = .ok false W := by
  rw [run_eqSt, decide_eq_false (fun e => h (Prod.ext (congrArg Prod.fst e) (congrArg Prod.snd e)))]

/-- An inode's six cells. -/
theorem ino_cells {w : World} {g : Nat} {x : Ino} {T : TypeId} (h : w.heap[g]? = some (.cells (inoA x) T (0, 0))) : InoAt w g 0 x :=
  ⟨cell_of_row _ _ 0 _ _ (0, 0) h, cell_of_row _ _ 1 _ _ (0, 0) h, cell_of_row _ _ 2 _ _ (0, 0) h, cell_of_row _ _ 3 _ _ (0, 0) h, cell_of_row _ _ 4 _ _ (0, 0) h, cell_of_row _ _ 5 _ _ (0, 0) h⟩

theorem ino_free {w : World} {g : Nat} {x : Ino} {T : TypeId} (h : w.heap[g]? = some (.cells (inoA x) T (0, 0))) :
    w.frozen? ⟨g, 0, none⟩ = false ∧ w.frozen? ⟨g, 1, none⟩ = false ∧ w.frozen? ⟨g, 2, none⟩ = false ∧ w.frozen? ⟨g, 3, none⟩ = false ∧ w.frozen? ⟨g, 4, none⟩ = false ∧ w.frozen? ⟨g, 5, none⟩ = false :=
  ⟨frozen_of_row _ _ 0 _ _ h, frozen_of_row _ _ 1 _ _ h, frozen_of_row _ _ 2 _ _ h, frozen_of_row _ _ 3 _ _ h, frozen_of_row _ _ 4 _ _ h, frozen_of_row _ _ 5 _ _ h⟩

theorem two_cells {w : World} {g : Nat} {a b : Value} {T : TypeId} (h : w.heap[g]? = some (.cells #[a, b] T (0, 0))) : w.cell? ⟨g, 0, none⟩ = some a ∧ w.cell? ⟨g, 1, none⟩ = some b :=
  ⟨cell_of_row _ _ 0 _ _ (0, 0) h, cell_of_row _ _ 1 _ _ (0, 0) h⟩

theorem two_free {w : World} {g : Nat} {a b : Value} {T : TypeId} (h : w.heap[g]? = some (.cells #[a, b] T (0, 0))) : w.frozen? ⟨g, 0, none⟩ = false ∧ w.frozen? ⟨g, 1, none⟩ = false :=
  ⟨frozen_of_row _ _ 0 _ _ h, frozen_of_row _ _ 1 _ _ h⟩

theorem below_six {B : Nat} {w W : World} (h : Below B w W) {g : Nat} (hg : B ≤ g) (a b c d e f : Value) :
    Below B w ((((((W.setCell ⟨g, 0, none⟩ a).setCell ⟨g, 1, none⟩ b).setCell ⟨g, 2, none⟩ c).setCell ⟨g, 3, none⟩ d).setCell ⟨g, 4, none⟩ e).setCell ⟨g, 5, none⟩ f) :=
  (((((h.setCell hg _).setCell hg _).setCell hg _).setCell hg _).setCell hg _).setCell hg _

theorem ino_put {W : World} {g : Nat} {z : Ino} {T : TypeId} (h : W.heap[g]? = some (.cells (inoA z) T (0, 0))) (y : Ino) :
    ((((((W.setCell ⟨g, 0, none⟩ (.int .i64 y.id.1)).setCell ⟨g, 1, none⟩ (.int .i64 y.id.2)).setCell ⟨g, 2, none⟩ (.int .i64 y.kind)).setCell ⟨g, 3, none⟩ (.int .i64 y.links)).setCell ⟨g, 4, none⟩ (.int .i64 y.mode)).setCell ⟨g, 5, none⟩ (.string y.data)).heap[g]? = some (.cells (inoA y) T (0, 0)) := by
  rw [heap_setCell_same _ _ _ _ _ _ (heap_setCell_same _ _ _ _ _ _ (heap_setCell_same _ _ _ _ _ _ (heap_setCell_same _ _ _ _ _ _ (heap_setCell_same _ _ _ _ _ _ (heap_setCell_same _ _ _ _ _ _ h)))))]
  rfl

theorem new_behind {W W' : World} {o : Obj} (hb : Below (W.alloc o).drew.heap.size (W.alloc o).drew W') : W'.heap[W.heap.size]? = some o ∧ Below W.heap.size W W' :=
  ⟨(hb.block _ (heap_lt (heap_alloc_new W o))).trans (heap_alloc_new W o), below_step (((Below.refl _ W).alloc (Nat.le_refl _) o).drew) hb⟩

/-- An entry's five cells. -/
theorem ent_cells {w : World} {g : Nat} {x : Ent} {T : TypeId} (h : w.heap[g]? = some (.cells (entA x) T (0, 0))) : EntAt w g 0 x :=
  ⟨cell_of_row _ _ 0 _ _ (0, 0) h, cell_of_row _ _ 1 _ _ (0, 0) h, cell_of_row _ _ 2 _ _ (0, 0) h, cell_of_row _ _ 3 _ _ (0, 0) h, cell_of_row _ _ 4 _ _ (0, 0) h⟩

end Go.Proofs.YtbkijfhfjhpebaaGreatDoor

/-
  A slice of structs appended to one of the call's own, whatever its address; parts of such a slice. It needs no program.
-/
namespace Go.Proofs.YtbkijfhfjhpebaaGreatDoor
open Go.RowKit

theorem wpList_append_tab {P : Program} {w : World} {ops : Array Oper} {rest : List Oper} {o : Oper} {a : Act} {Q : Exit → Act → World → Prop} (hgd : o.guard = none) (s x : Operand) (t : TypeId)
    (ho : o.op = .call { callee := .builtin .append, args := #[s, x], argTypes := #[t, t] })
    (base : Nat) (e : TypeId) (i : TypeInfo) (z : Value) (k bytes : Nat) (ht : P.underlying t = some (.slice e)) (hi : P.info? e = some i) (hz : i.zero = some z)
    (hsize : i.size = k) (hby : i.bytes = bytes) (hzs : z.cells.size = k) (hk : 0 < k)
    (v : Value) (n : Nat) (rows : List (Array Value)) (hs : a.eval s = v) (hown : w.ownsRow base e k v n (flat rows))
    (A : Option Addr) (m c B : Nat) (ys : List (Array Value)) (hx : a.eval x = .slice A m c) (hr : TabIn k w B A m ys) (hA : A = none → c = 0)
    (hyk : ∀ r ∈ ys, r.size = k) (hy1 : ∀ r ∈ ys, ∀ u ∈ r.toList, u.oneCell' = true)
    (h63 : n + m ≤ maxLen) (hbytes : (n + m) * bytes ≤ 140737488355328) (hbase : base ≤ w.heap.size)
    (h : ∀ v' w', w'.ownsRow base e k v' (n + m) (flat (rows ++ ys)) → w.grownBy w' v.ownBlock → wpList P ops Q rest (a.put o.dst v') w') : wpList P ops Q (o :: rest) a w := by
  cases A with
  | none =>
    have hm : m = 0 := by
      rcases Nat.eq_zero_or_pos m with h0 | h0
      · exact h0
      · obtain ⟨g, o', e', _⟩ := hr.2 h0
        cases e'
    subst hm
    have hy : ys = [] := List.eq_nil_of_length_eq_zero hr.1
    subst hy
    rw [hA rfl] at hx
    refine wpList_append_own_none hgd s x t ho base e i k ht hi v n (flat rows) hs hown hx (h v w ?_ (World.grownBy.refl w _))
    rw [List.append_nil]
    exact hown
  | some ad =>
    refine wpList_append_own w hgd s x t ho base e i z k bytes ht hi hz hsize hby hzs hk v n (flat rows) hs hown ad m c (flat ys) hx (by rw [flat_len hyk, hr.1]) ?_ (flat_cells hy1) h63 hbytes hbase fun v' w' h2 h3 _ => h v' w' (by rw [flat_append]; exact h2) h3
    intro j u hu
    obtain ⟨jj, i', hj, rfl, hv⟩ := flat_out hyk hu
    obtain ⟨g, o', e', _, hc⟩ := hr.2 (by have := hr.1; omega)
    injection e' with e'
    subst e'
    rw [tab_add, ← Nat.add_assoc]
    exact hc jj hj i' u hv

theorem TabIn.drop {k : Nat} {W : World} {B : Nat} {g o n : Nat} {rows : List (Array Value)} (h : TabIn k W B (some ⟨g, o, none⟩) n rows) {m : Nat} (hm : m ≤ n) : TabIn k W B (some ⟨g, o + m * k, none⟩) (n - m) (rows.drop m) :=
  ⟨by rw [List.length_drop, h.1], fun hn => by
    obtain ⟨g', o', e, hg, hc⟩ := h.2 (by omega)
    injection e with e
    injection e with e1 e2
    subst e1 e2
    refine ⟨g, o + m * k, rfl, hg, fun j hj i v hv => ?_⟩
    rw [List.length_drop] at hj
    rw [List.getElem_drop] at hv
    have q := hc (m + j) (by omega) i v hv
    rw [show o + m * k + j * k + i = o + (m + j) * k + i by rw [Nat.add_mul]; omega]
    exact q⟩

theorem grownBy_set (W : World) (b i : Nat) (v : Value) : W.grownBy (W.setCell ⟨b, i, none⟩ v) (some b) :=
  ⟨rfl, rfl, rfl, by simp, fun k _ hk => heap_setCell_other _ _ _ _ (fun e => hk (by dsimp only at e; rw [e]))⟩

/-- A row is kept where a block below it is written. -/
theorem own_set2 {W : World} {base : Nat} {e : TypeId} {k : Nat} {v : Value} {n : Nat} {xs : List Value} (h : W.ownsRow base e k v n xs) {b : Nat} (hb : b < base) (x y : Value) : ((W.setCell ⟨b, 0, none⟩ x).setCell ⟨b, 1, none⟩ y).ownsRow base e k v n xs := by
  have hne : v.ownBlock = none ∨ v.ownBlock ≠ some b := Or.inr fun e => by have := (h.lt b e).1; omega
  exact (h.kept (grownBy_set W b 0 x) hne).kept (grownBy_set _ b 1 y) hne

/-- A slice of no elements, newly made, is owned. -/
theorem own_empty (w : World) (base : Nat) (e : TypeId) (k : Nat) (hb : base ≤ w.heap.size) : (w.alloc (.cells #[] e)).ownsRow base e k (.slice (some ⟨w.heap.size, 0, none⟩) 0 0) 0 (flat []) :=
  ⟨by simp [flat], Or.inr ⟨w.heap.size, 0, #[], rfl, hb, heap_alloc_new w _, Nat.le_refl _, by decide, by simp, by simp [flat]⟩⟩

theorem take_while_at {α : Type} {f : α → Bool} : ∀ {l : List α} {k : Nat}, k ≤ l.length → (∀ j (h : j < l.length), j < k → f l[j] = true) → (∀ h : k < l.length, f l[k] = false) → l.take k = l.takeWhile f ∧ l.drop k = l.dropWhile f
  | [], k, hk, _, _ => by simp at hk; subst hk; simp
  | a :: l, 0, _, _, h2 => by
    have := h2 (by simp)
    simp at this
    simp [this]
  | a :: l, k + 1, hk, h1, h2 => by
    have ha := h1 0 (by simp) (by omega)
    simp at ha
    obtain ⟨i1, i2⟩ := take_while_at (l := l) (k := k) (by simpa using hk) (fun j hj hjk => by have := h1 (j + 1) (by simpa using hj) (by omega); simpa using this) (fun hkl => by have := h2 (by simpa using hkl); simpa using this)
    simp [ha, i1, i2]

end Go.Proofs.YtbkijfhfjhpebaaGreatDoor

/-
  Slices of entries and of inodes that a call makes of its own. It needs no program's function.
-/
namespace Go.Proofs.YtbkijfhfjhpebaaGreatDoor
open Go.RowKit StampMath GraphMath

theorem ent_infos : (Tryz.prog.info? 70).map (fun i => (i.zero, i.size, i.bytes)) = some (some (.agg #[.int .i64 0, .int .i64 0, .string ⟨#[]⟩, .int .i64 0, .int .i64 0]), 5, 48) := by kernel_rfl
theorem ino_infos : (Tryz.prog.info? 32).map (fun i => (i.zero, i.size, i.bytes)) = some (some (.agg #[.int .i64 0, .int .i64 0, .int .i64 0, .int .i64 0, .int .i64 0, .string ⟨#[]⟩]), 6, 56) := by kernel_rfl

/-- A new block holds its row. -/
theorem row_there (w : World) (T : TypeId) (r : Array Value) : ∀ j u, r.toList[j]? = some u → (w.alloc (.cells r T)).cell? (Addr.add ⟨w.heap.size, 0, none⟩ j) = some u := by
  intro j u hj
  rw [tab_add]
  rw [Nat.zero_add, cell_of_row _ _ j _ _ (0, 0) (heap_alloc_new w _)]
  simpa using hj

theorem ent_one (e : Ent) : ∀ u ∈ (entA e).toList, u.oneCell' = true := by
  intro u hu
  simp [entA] at hu
  rcases hu with rfl | rfl | rfl | rfl | rfl <;> rfl

theorem ino_one (x : Ino) : ∀ u ∈ (inoA x).toList, u.oneCell' = true := by
  intro u hu
  simp [inoA] at hu
  rcases hu with rfl | rfl | rfl | rfl | rfl | rfl <;> rfl

theorem ents_own {W : World} {base : Nat} {v : Value} {n : Nat} {E : List Ent} (hn : E.length = n) (h : W.ownsRow base 70 5 v n (flat (E.map entA))) :
    ∃ (A : Option Addr) (c : Nat), v = .slice A n c ∧ EntsIn W W.heap.size A n E ∧ n ≤ c ∧ c ≤ maxLen ∧ (A = Option.none → c = 0) :=
  tab_own (k := 5) (fun r hr => by obtain ⟨e, _, rfl⟩ := List.mem_map.1 hr; rfl) (by simpa using hn) h

theorem inos_own {W : World} {base : Nat} {v : Value} {n : Nat} {I : List Ino} (hn : I.length = n) (h : W.ownsRow base 32 6 v n (flat (I.map inoA))) :
    ∃ (A : Option Addr) (c : Nat), v = .slice A n c ∧ InosIn W W.heap.size A n I ∧ n ≤ c ∧ c ≤ maxLen ∧ (A = Option.none → c = 0) :=
  tab_own (k := 6) (fun r hr => by obtain ⟨e, _, rfl⟩ := List.mem_map.1 hr; rfl) (by simpa using hn) h

theorem flat_ent (E : List Ent) (e : Ent) : flat (E.map entA) ++ (entA e).toList = flat ((E ++ [e]).map entA) := by simp [flat]
theorem flat_ino (I : List Ino) (x : Ino) : flat (I.map inoA) ++ (inoA x).toList = flat ((I ++ [x]).map inoA) := by simp [flat]

/-- Entries are answered. -/
def EntsPost (E : List Ent) (w : World) (e : Ending) (w' : World) : Prop :=
  ∃ (A : Option Addr) (c : Nat), e = .returned (.slice A E.length c) ∧ EntsIn w' w'.heap.size A E.length E ∧ E.length ≤ c ∧ c ≤ maxLen ∧ (A = none → c = 0) ∧ Below w.heap.size w w'

/-- Inodes are answered. -/
def InosPost (I : List Ino) (w : World) (e : Ending) (w' : World) : Prop :=
  ∃ (A : Option Addr) (c : Nat), e = .returned (.slice A I.length c) ∧ InosIn w' w'.heap.size A I.length I ∧ I.length ≤ c ∧ c ≤ maxLen ∧ (A = none → c = 0) ∧ Below w.heap.size w w'

/-- New entries are answered: a slice of its own, that may be written. -/
def EntsNew (E : List Ent) (w : World) (e : Ending) (w' : World) : Prop :=
  ∃ v, e = .returned v ∧ w'.ownsRow w.heap.size 70 5 v E.length (flat (E.map entA)) ∧ Below w.heap.size w w'

/-- New inodes are answered: a slice of its own, that may be written. -/
def InosNew (I : List Ino) (w : World) (e : Ending) (w' : World) : Prop :=
  ∃ v, e = .returned v ∧ w'.ownsRow w.heap.size 32 6 v I.length (flat (I.map inoA)) ∧ Below w.heap.size w w'

end Go.Proofs.YtbkijfhfjhpebaaGreatDoor

/-
  What the statements of layer 9 need of the package's own calls: whatever a graph is in memory.
-/
namespace Go.Proofs.YtbkijfhfjhpebaaGreatDoor
open Go.RowKit StampMath GraphMath OpMath

/-- A graph in memory: at an address, in some blocks; and what the calls do. -/
structure GraphHave where
  rep : World → (Nat → Prop) → Addr → Gr → Prop
  lt : ∀ {W : World} {S : Nat → Prop} {a : Addr} {g : Gr}, rep W S a g → ∀ i, S i → i < W.heap.size
  keep : ∀ {W W' : World} {S : Nat → Prop} {a : Addr} {g : Gr}, rep W S a g → (∀ i, S i → W'.heap[i]? = W.heap[i]?) → rep W' S a g
  new : ∀ (w : World), Calls Tryz.prog 18 #[] w fun e w' => ∃ a S, e = .returned (.pointer (some a)) ∧ rep w' S a newG ∧ (∀ i, S i → w.heap.size ≤ i) ∧ Below w.heap.size w w'
  get : ∀ (a : Addr) (S : Nat → Prop) (g : Gr) (id : St) (w : World), rep w S a g → g.ok → Calls Tryz.prog 12 #[.pointer (some a), .agg (stA id)] w fun e w' => e = .returned (.tuple #[.agg (inoA ((getG g id).getD noIno)), .bool (getG g id).isSome]) ∧ Below w.heap.size w w'
  look : ∀ (a : Addr) (S : Nat → Prop) (g : Gr) (d : St) (nm : ByteArray) (w : World), rep w S a g → g.ok → nm.size ≤ maxLen → Calls Tryz.prog 15 #[.pointer (some a), .agg (stA d), .string nm] w fun e w' => e = .returned (.tuple #[.agg (stA ((lookE g.E d nm).getD (0, 0))), .bool (lookE g.E d nm).isSome]) ∧ Below w.heap.size w w'
  list : ∀ (a : Addr) (S : Nat → Prop) (g : Gr) (d : St) (w : World), rep w S a g → g.ok → Calls Tryz.prog 153 #[.pointer (some a), .agg (stA d)] w (EntsNew (listE g.E d) w)
  inodes : ∀ (a : Addr) (S : Nat → Prop) (g : Gr) (w : World), rep w S a g → g.ok → Calls Tryz.prog 11 #[.pointer (some a)] w (InosNew (inodesG g) w)
  entries : ∀ (a : Addr) (S : Nat → Prop) (g : Gr) (w : World), rep w S a g → g.ok → Calls Tryz.prog 46 #[.pointer (some a)] w (EntsNew g.E w)
  parent : ∀ (a : Addr) (S : Nat → Prop) (g : Gr) (d : St) (w : World), rep w S a g → g.ok → Calls Tryz.prog 19 #[.pointer (some a), .agg (stA d)] w fun e w' => e = .returned (.tuple #[.agg (stA ((parentG g d).getD (0, 0))), .bool (parentG g d).isSome]) ∧ Below w.heap.size w w'
  under : ∀ (a : Addr) (S : Nat → Prop) (g : Gr) (id d : St) (w : World), rep w S a g → g.ok → Calls Tryz.prog 150 #[.pointer (some a), .agg (stA id), .agg (stA d)] w fun e w' => e = .returned (.bool (underG g id d)) ∧ Below w.heap.size w w'
  make : ∀ (a : Addr) (S : Nat → Prop) (g : Gr) (id : St) (kind : Int) (w : World), rep w S a g → g.ok → Calls Tryz.prog 124 #[.pointer (some a), .agg (stA id), .int .i64 kind] w fun e w' => ∃ S', e = .returned (.int .i64 (makeG g id kind).2) ∧ rep w' S' a (makeG g id kind).1 ∧ (∀ i, S' i → S i ∨ w.heap.size ≤ i) ∧ But S w w'
  tie : ∀ (a : Addr) (S : Nat → Prop) (g : Gr) (x : Ent) (w : World), rep w S a g → g.ok → x.name.size ≤ maxLen → Calls Tryz.prog 87 #[.pointer (some a), .agg (entA x)] w fun e w' => ∃ S', e = .returned (.int .i64 (tieG (nameB x.name) g x).2) ∧ rep w' S' a (tieG (nameB x.name) g x).1 ∧ (∀ i, S' i → S i ∨ w.heap.size ≤ i) ∧ But S w w'
  untie : ∀ (a : Addr) (S : Nat → Prop) (g : Gr) (d : St) (nm : ByteArray) (w : World), rep w S a g → g.ok → nm.size ≤ maxLen → Calls Tryz.prog 129 #[.pointer (some a), .agg (stA d), .string nm] w fun e w' => ∃ S', e = .returned (.tuple #[.agg (stA (untieG g d nm).2.1), .int .i64 (untieG g d nm).2.2]) ∧ rep w' S' a (untieG g d nm).1 ∧ (∀ i, S' i → S i ∨ w.heap.size ≤ i) ∧ But S w w'
  drop : ∀ (a : Addr) (S : Nat → Prop) (g : Gr) (id : St) (w : World), rep w S a g → g.ok → Calls Tryz.prog 130 #[.pointer (some a), .agg (stA id)] w fun e w' => ∃ S', e = .returned (.int .i64 (dropG g id).2) ∧ rep w' S' a (dropG g id).1 ∧ (∀ i, S' i → S i ∨ w.heap.size ≤ i) ∧ But S w w'
  set : ∀ (a : Addr) (S : Nat → Prop) (g : Gr) (id : St) (mode : Int) (data : ByteArray) (w : World), rep w S a g → g.ok → Calls Tryz.prog 126 #[.pointer (some a), .agg (stA id), .int .i64 mode, .string data] w fun e w' => ∃ S', e = .returned (.int .i64 (setG g id mode data).2) ∧ rep w' S' a (setG g id mode data).1 ∧ (∀ i, S' i → S i ∨ w.heap.size ≤ i) ∧ But S w w'
  copy : ∀ (a : Addr) (S : Nat → Prop) (g : Gr) (w : World), rep w S a g → g.ok → Calls Tryz.prog 37 #[.pointer (some a)] w fun e w' => ∃ b T, e = .returned (.pointer (some b)) ∧ rep w' T b g ∧ (∀ i, T i → w.heap.size ≤ i) ∧ Below w.heap.size w w'
  nilGet : ∀ (id : St) (w : World), Calls Tryz.prog 12 #[.pointer none, .agg (stA id)] w fun e w' => e = .returned (.tuple #[.agg (inoA noIno), .bool false]) ∧ Below w.heap.size w w'
  nilLook : ∀ (d : St) (nm : ByteArray) (w : World), Calls Tryz.prog 15 #[.pointer none, .agg (stA d), .string nm] w fun e w' => e = .returned (.tuple #[.agg (stA (0, 0)), .bool false]) ∧ Below w.heap.size w w'
  nilInodes : ∀ (w : World), Calls Tryz.prog 11 #[.pointer none] w (InosNew [] w)
  nilEntries : ∀ (w : World), Calls Tryz.prog 46 #[.pointer none] w (EntsNew [] w)
  nilMake : ∀ (w : World), Calls Tryz.prog 124 #[.pointer none, .agg (stA (1, 0)), .int .i64 1] w fun e w' => e = .returned (.int .i64 3) ∧ Below w.heap.size w w'
  nilTie : ∀ (w : World), Calls Tryz.prog 87 #[.pointer none, .agg (entA ⟨(0, 0), ⟨#[97]⟩, (0, 0)⟩)] w fun e w' => e = .returned (.int .i64 3) ∧ Below w.heap.size w w'
  nilDrop : ∀ (id : St) (w : World), Calls Tryz.prog 130 #[.pointer none, .agg (stA id)] w fun e w' => e = .returned (.int .i64 3) ∧ Below w.heap.size w w'
  nilSet : ∀ (id : St) (w : World), Calls Tryz.prog 126 #[.pointer none, .agg (stA id), .int .i64 1, .string ⟨#[]⟩] w fun e w' => e = .returned (.int .i64 3) ∧ Below w.heap.size w w'
  nilCopy : ∀ (w : World), Calls Tryz.prog 37 #[.pointer none] w fun e w' => e = .returned (.pointer none) ∧ Below w.heap.size w w'

/-- A graph that lies in blocks of P alone. -/
def GraphAt (H : GraphHave) (P : Nat → Prop) (W : World) (a : Addr) (g : Gr) : Prop := (∃ S, H.rep W S a g ∧ ∀ i, S i → P i) ∧ g.ok

theorem GraphAt.keep {H : GraphHave} {P : Nat → Prop} {W W' : World} {a : Addr} {g : Gr} (h : GraphAt H P W a g) (hb : ∀ i, P i → i < W.heap.size → W'.heap[i]? = W.heap[i]?) : GraphAt H P W' a g := by
  obtain ⟨⟨S, h1, h2⟩, h3⟩ := h
  exact ⟨⟨S, H.keep h1 fun i hi => hb i (h2 i hi) (H.lt h1 i hi), h2⟩, h3⟩

theorem GraphAt.below {H : GraphHave} {P : Nat → Prop} {W W' : World} {a : Addr} {g : Gr} (h : GraphAt H P W a g) (hb : Below W.heap.size W W') : GraphAt H P W' a g := h.keep fun i _ hi => hb.block i hi

/-- One graph, all of it made since w. -/
def Graph1 (H : GraphHave) (w W : World) (a : Addr) (g : Gr) : Prop := GraphAt H (fun i => w.heap.size ≤ i) W a g ∧ Below w.heap.size w W

theorem Graph1.ok {H : GraphHave} {w W : World} {a : Addr} {g : Gr} (h : Graph1 H w W a g) : g.ok := h.1.2
theorem Graph1.step {H : GraphHave} {w W W' : World} {a : Addr} {g : Gr} (h : Graph1 H w W a g) (hb : Below W.heap.size W W') : Graph1 H w W' a g := ⟨h.1.below hb, below_step h.2 hb⟩

theorem Graph1.new {H : GraphHave} {w W : World} (hB : Below w.heap.size w W) :
    Calls Tryz.prog 18 #[] W fun e w' => ∃ a, e = .returned (.pointer (some a)) ∧ Graph1 H w w' a newG := by
  refine (H.new W).mono ?_
  rintro e w' ⟨a, S, he, h1, h2, h3⟩
  exact ⟨a, he, ⟨⟨S, h1, fun i hi => Nat.le_trans hB.size (h2 i hi)⟩, new_okG⟩, below_step hB h3⟩

theorem Graph1.mut {H : GraphHave} {w W w' : World} {a : Addr} {g : Gr} {S S' : Nat → Prop} (hB : Below w.heap.size w W) (hS : ∀ i, S i → w.heap.size ≤ i) (h1 : H.rep w' S' a g) (h2 : ∀ i, S' i → S i ∨ W.heap.size ≤ i) (h3 : But S W w') (hg : g.ok) : Graph1 H w w' a g :=
  ⟨⟨⟨S', h1, fun i hi => (h2 i hi).elim (hS i) (Nat.le_trans hB.size)⟩, hg⟩, hB.trans (h3.below hS hB.size)⟩

theorem Graph1.make {H : GraphHave} {w W : World} {a : Addr} {g : Gr} (h : Graph1 H w W a g) (id : St) (kind : Int) :
    Calls Tryz.prog 124 #[.pointer (some a), .agg (stA id), .int .i64 kind] W fun e w' => e = .returned (.int .i64 (makeG g id kind).2) ∧ Graph1 H w w' a (makeG g id kind).1 := by
  obtain ⟨⟨⟨S, h1, h2⟩, h3⟩, hB⟩ := h
  refine (H.make a S g id kind W h1 h3).mono ?_
  rintro e w' ⟨S', he, k1, k2, k3⟩
  exact ⟨he, Graph1.mut hB h2 k1 k2 k3 (h3.make id kind)⟩

theorem Graph1.tie {H : GraphHave} {w W : World} {a : Addr} {g : Gr} (h : Graph1 H w W a g) (x : Ent) (hx : x.name.size ≤ maxLen) :
    Calls Tryz.prog 87 #[.pointer (some a), .agg (entA x)] W fun e w' => e = .returned (.int .i64 (tieG (nameB x.name) g x).2) ∧ Graph1 H w w' a (tieG (nameB x.name) g x).1 := by
  obtain ⟨⟨⟨S, h1, h2⟩, h3⟩, hB⟩ := h
  refine (H.tie a S g x W h1 h3 hx).mono ?_
  rintro e w' ⟨S', he, k1, k2, k3⟩
  exact ⟨he, Graph1.mut hB h2 k1 k2 k3 (h3.tie _ x)⟩

theorem Graph1.untie {H : GraphHave} {w W : World} {a : Addr} {g : Gr} (h : Graph1 H w W a g) (d : St) (nm : ByteArray) (hn : nm.size ≤ maxLen) :
    Calls Tryz.prog 129 #[.pointer (some a), .agg (stA d), .string nm] W fun e w' => e = .returned (.tuple #[.agg (stA (untieG g d nm).2.1), .int .i64 (untieG g d nm).2.2]) ∧ Graph1 H w w' a (untieG g d nm).1 := by
  obtain ⟨⟨⟨S, h1, h2⟩, h3⟩, hB⟩ := h
  refine (H.untie a S g d nm W h1 h3 hn).mono ?_
  rintro e w' ⟨S', he, k1, k2, k3⟩
  exact ⟨he, Graph1.mut hB h2 k1 k2 k3 (h3.untie d nm)⟩

theorem Graph1.drop {H : GraphHave} {w W : World} {a : Addr} {g : Gr} (h : Graph1 H w W a g) (id : St) :
    Calls Tryz.prog 130 #[.pointer (some a), .agg (stA id)] W fun e w' => e = .returned (.int .i64 (dropG g id).2) ∧ Graph1 H w w' a (dropG g id).1 := by
  obtain ⟨⟨⟨S, h1, h2⟩, h3⟩, hB⟩ := h
  refine (H.drop a S g id W h1 h3).mono ?_
  rintro e w' ⟨S', he, k1, k2, k3⟩
  exact ⟨he, Graph1.mut hB h2 k1 k2 k3 (h3.drop id)⟩

theorem Graph1.set {H : GraphHave} {w W : World} {a : Addr} {g : Gr} (h : Graph1 H w W a g) (id : St) (mode : Int) (data : ByteArray) :
    Calls Tryz.prog 126 #[.pointer (some a), .agg (stA id), .int .i64 mode, .string data] W fun e w' => e = .returned (.int .i64 (setG g id mode data).2) ∧ Graph1 H w w' a (setG g id mode data).1 := by
  obtain ⟨⟨⟨S, h1, h2⟩, h3⟩, hB⟩ := h
  refine (H.set a S g id mode data W h1 h3).mono ?_
  rintro e w' ⟨S', he, k1, k2, k3⟩
  exact ⟨he, Graph1.mut hB h2 k1 k2 k3 (h3.set id mode data)⟩

theorem Graph1.get {H : GraphHave} {w W : World} {a : Addr} {g : Gr} (h : Graph1 H w W a g) (id : St) :
    Calls Tryz.prog 12 #[.pointer (some a), .agg (stA id)] W fun e w' => e = .returned (.tuple #[.agg (inoA ((getG g id).getD noIno)), .bool (getG g id).isSome]) ∧ Graph1 H w w' a g := by
  have h0 := h
  obtain ⟨⟨⟨S, h1, h2⟩, h3⟩, hB⟩ := h
  refine (H.get a S g id W h1 h3).mono ?_
  rintro e w' ⟨he, hb⟩
  exact ⟨he, h0.step hb⟩

theorem Graph1.look {H : GraphHave} {w W : World} {a : Addr} {g : Gr} (h : Graph1 H w W a g) (d : St) (nm : ByteArray) (hn : nm.size ≤ maxLen) :
    Calls Tryz.prog 15 #[.pointer (some a), .agg (stA d), .string nm] W fun e w' => e = .returned (.tuple #[.agg (stA ((lookE g.E d nm).getD (0, 0))), .bool (lookE g.E d nm).isSome]) ∧ Graph1 H w w' a g := by
  have h0 := h
  obtain ⟨⟨⟨S, h1, h2⟩, h3⟩, hB⟩ := h
  refine (H.look a S g d nm W h1 h3 hn).mono ?_
  rintro e w' ⟨he, hb⟩
  exact ⟨he, h0.step hb⟩

theorem Graph1.parent {H : GraphHave} {w W : World} {a : Addr} {g : Gr} (h : Graph1 H w W a g) (d : St) :
    Calls Tryz.prog 19 #[.pointer (some a), .agg (stA d)] W fun e w' => e = .returned (.tuple #[.agg (stA ((parentG g d).getD (0, 0))), .bool (parentG g d).isSome]) ∧ Graph1 H w w' a g := by
  have h0 := h
  obtain ⟨⟨⟨S, h1, h2⟩, h3⟩, hB⟩ := h
  refine (H.parent a S g d W h1 h3).mono ?_
  rintro e w' ⟨he, hb⟩
  exact ⟨he, h0.step hb⟩

theorem Graph1.under {H : GraphHave} {w W : World} {a : Addr} {g : Gr} (h : Graph1 H w W a g) (id d : St) :
    Calls Tryz.prog 150 #[.pointer (some a), .agg (stA id), .agg (stA d)] W fun e w' => e = .returned (.bool (underG g id d)) ∧ Graph1 H w w' a g := by
  have h0 := h
  obtain ⟨⟨⟨S, h1, h2⟩, h3⟩, hB⟩ := h
  refine (H.under a S g id d W h1 h3).mono ?_
  rintro e w' ⟨he, hb⟩
  exact ⟨he, h0.step hb⟩

/-- Entries are told: to be read, below the world's end. -/
theorem Graph1.entries {H : GraphHave} {w W : World} {a : Addr} {g : Gr} (h : Graph1 H w W a g) :
    Calls Tryz.prog 46 #[.pointer (some a)] W fun e w' => EntsPost g.E W e w' ∧ Graph1 H w w' a g := by
  have h0 := h
  obtain ⟨⟨⟨S, h1, h2⟩, h3⟩, hB⟩ := h
  refine (H.entries a S g W h1 h3).mono ?_
  rintro e w' ⟨v, rfl, hown, hb⟩
  obtain ⟨B, c, rfl, q1, q2, q3⟩ := ents_own rfl hown
  exact ⟨⟨B, c, rfl, q1, q2, q3.1, q3.2, hb⟩, h0.step hb⟩

theorem Graph1.list {H : GraphHave} {w W : World} {a : Addr} {g : Gr} (h : Graph1 H w W a g) (d : St) :
    Calls Tryz.prog 153 #[.pointer (some a), .agg (stA d)] W fun e w' => EntsPost (listE g.E d) W e w' ∧ Graph1 H w w' a g := by
  have h0 := h
  obtain ⟨⟨⟨S, h1, h2⟩, h3⟩, hB⟩ := h
  refine (H.list a S g d W h1 h3).mono ?_
  rintro e w' ⟨v, rfl, hown, hb⟩
  obtain ⟨B, c, rfl, q1, q2, q3⟩ := ents_own rfl hown
  exact ⟨⟨B, c, rfl, q1, q2, q3.1, q3.2, hb⟩, h0.step hb⟩

theorem Graph1.inodes {H : GraphHave} {w W : World} {a : Addr} {g : Gr} (h : Graph1 H w W a g) :
    Calls Tryz.prog 11 #[.pointer (some a)] W fun e w' => InosPost (inodesG g) W e w' ∧ Graph1 H w w' a g := by
  have h0 := h
  obtain ⟨⟨⟨S, h1, h2⟩, h3⟩, hB⟩ := h
  refine (H.inodes a S g W h1 h3).mono ?_
  rintro e w' ⟨v, rfl, hown, hb⟩
  obtain ⟨B, c, rfl, q1, q2, q3⟩ := inos_own rfl hown
  exact ⟨⟨B, c, rfl, q1, q2, q3.1, q3.2, hb⟩, h0.step hb⟩

end Go.Proofs.YtbkijfhfjhpebaaGreatDoor

/-
  A graph in memory beside blocks that are set apart; what each call leaves of both. A copy.
-/
namespace Go.Proofs.YtbkijfhfjhpebaaGreatDoor
open Go.RowKit StampMath GraphMath OpMath

/-- A graph, made since w, outside the blocks N, which are there. -/
structure GX (H : GraphHave) (w W : World) (N : Nat → Prop) (a : Addr) (g : Gr) : Prop where
  at' : ∃ S, H.rep W S a g ∧ (∀ i, S i → w.heap.size ≤ i) ∧ ∀ i, N i → ¬ S i
  ok : g.ok
  lt : ∀ i, N i → i < W.heap.size
  below : Below w.heap.size w W

/-- The blocks N are as they were. -/
def Same (N : Nat → Prop) (W W' : World) : Prop := W.heap.size ≤ W'.heap.size ∧ ∀ i, N i → W'.heap[i]? = W.heap[i]?

theorem Same.below {N : Nat → Prop} {W W' : World} (hN : ∀ i, N i → i < W.heap.size) (hb : Below W.heap.size W W') : Same N W W' := ⟨hb.size, fun i hi => hb.block i (hN i hi)⟩

theorem GX.step {H : GraphHave} {w W W' : World} {N : Nat → Prop} {a : Addr} {g : Gr} (h : GX H w W N a g) (hb : Below W.heap.size W W') : GX H w W' N a g := by
  obtain ⟨⟨S, h1, h2, h3⟩, h4, h5, h6⟩ := h
  exact ⟨⟨S, H.keep h1 fun i hi => hb.block i (H.lt h1 i hi), h2, h3⟩, h4, fun i hi => Nat.lt_of_lt_of_le (h5 i hi) hb.size, below_step h6 hb⟩

/-- Fewer blocks are set apart. -/
theorem GX.less {H : GraphHave} {w W : World} {N N' : Nat → Prop} {a : Addr} {g : Gr} (h : GX H w W N a g) (hN : ∀ i, N' i → N i) : GX H w W N' a g := by
  obtain ⟨⟨S, h1, h2, h3⟩, h4, h5, h6⟩ := h
  exact ⟨⟨S, h1, h2, fun i hi => h3 i (hN i hi)⟩, h4, fun i hi => h5 i (hN i hi), h6⟩

/-- What a call makes is set apart, too. -/
theorem GX.grow {H : GraphHave} {w W W' : World} {N : Nat → Prop} {a : Addr} {g : Gr} (h : GX H w W N a g) (hb : Below W.heap.size W W') : GX H w W' (fun i => N i ∨ (W.heap.size ≤ i ∧ i < W'.heap.size)) a g := by
  obtain ⟨⟨S, h1, h2, h3⟩, h4, h5, h6⟩ := h
  refine ⟨⟨S, H.keep h1 fun i hi => hb.block i (H.lt h1 i hi), h2, fun i hi hs => ?_⟩, h4, fun i hi => ?_, below_step h6 hb⟩
  · rcases hi with hi | hi
    · exact h3 i hi hs
    · have := H.lt h1 i hs; omega
  · rcases hi with hi | hi
    · exact Nat.lt_of_lt_of_le (h5 i hi) hb.size
    · exact hi.2

/-- A block that is set apart is written. -/
theorem GX.put {H : GraphHave} {w W W' : World} {N T : Nat → Prop} {a : Addr} {g : Gr} (h : GX H w W N a g) (hb : But T W W') (hT : ∀ i, T i → N i ∧ w.heap.size ≤ i) : GX H w W' N a g := by
  obtain ⟨⟨S, h1, h2, h3⟩, h4, h5, h6⟩ := h
  exact ⟨⟨S, H.keep h1 fun i hi => hb.block i (H.lt h1 i hi) fun ht => h3 i (hT i ht).1 hi, h2, h3⟩, h4, fun i hi => Nat.lt_of_lt_of_le (h5 i hi) hb.size, h6.trans (hb.below (fun i hi => (hT i hi).2) h6.size)⟩

theorem GX.new {H : GraphHave} {w W : World} (hB : Below w.heap.size w W) (N : Nat → Prop) (hN : ∀ i, N i → i < W.heap.size) :
    Calls Tryz.prog 18 #[] W fun e w' => ∃ a, e = .returned (.pointer (some a)) ∧ GX H w w' N a newG ∧ Below W.heap.size W w' := by
  refine (H.new W).mono ?_
  rintro e w' ⟨a, S, he, h1, h2, h3⟩
  exact ⟨a, he, ⟨⟨S, h1, fun i hi => Nat.le_trans hB.size (h2 i hi), fun i hi hs => by have := hN i hi; have := h2 i hs; omega⟩, new_okG, fun i hi => Nat.lt_of_lt_of_le (hN i hi) h3.size, below_step hB h3⟩, h3⟩

theorem GX.mut {H : GraphHave} {w W W' : World} {N S S' : Nat → Prop} {a : Addr} {g' : Gr} (h2 : ∀ i, S i → w.heap.size ≤ i) (h3 : ∀ i, N i → ¬ S i) (h5 : ∀ i, N i → i < W.heap.size) (h6 : Below w.heap.size w W)
    (k1 : H.rep W' S' a g') (k2 : ∀ i, S' i → S i ∨ W.heap.size ≤ i) (k3 : But S W W') (hg : g'.ok) : GX H w W' N a g' ∧ Same N W W' :=
  ⟨⟨⟨S', k1, fun i hi => (k2 i hi).elim (h2 i) (Nat.le_trans h6.size), fun i hi hs => (k2 i hs).elim (h3 i hi) fun q => by have := h5 i hi; omega⟩, hg, fun i hi => Nat.lt_of_lt_of_le (h5 i hi) k3.size, h6.trans (k3.below h2 h6.size)⟩,
    k3.size, fun i hi => k3.block i (h5 i hi) (h3 i hi)⟩

theorem GX.make {H : GraphHave} {w W : World} {N : Nat → Prop} {a : Addr} {g : Gr} (h : GX H w W N a g) (id : St) (kind : Int) :
    Calls Tryz.prog 124 #[.pointer (some a), .agg (stA id), .int .i64 kind] W fun e w' => e = .returned (.int .i64 (makeG g id kind).2) ∧ GX H w w' N a (makeG g id kind).1 ∧ Same N W w' := by
  obtain ⟨⟨S, h1, h2, h3⟩, h4, h5, h6⟩ := h
  refine (H.make a S g id kind W h1 h4).mono ?_
  rintro e w' ⟨S', he, k1, k2, k3⟩
  exact ⟨he, GX.mut h2 h3 h5 h6 k1 k2 k3 (h4.make id kind)⟩

theorem GX.tie {H : GraphHave} {w W : World} {N : Nat → Prop} {a : Addr} {g : Gr} (h : GX H w W N a g) (x : Ent) (hx : x.name.size ≤ maxLen) :
    Calls Tryz.prog 87 #[.pointer (some a), .agg (entA x)] W fun e w' => e = .returned (.int .i64 (tieG (nameB x.name) g x).2) ∧ GX H w w' N a (tieG (nameB x.name) g x).1 ∧ Same N W w' := by
  obtain ⟨⟨S, h1, h2, h3⟩, h4, h5, h6⟩ := h
  refine (H.tie a S g x W h1 h4 hx).mono ?_
  rintro e w' ⟨S', he, k1, k2, k3⟩
  exact ⟨he, GX.mut h2 h3 h5 h6 k1 k2 k3 (h4.tie _ x)⟩

theorem GX.untie {H : GraphHave} {w W : World} {N : Nat → Prop} {a : Addr} {g : Gr} (h : GX H w W N a g) (d : St) (nm : ByteArray) (hn : nm.size ≤ maxLen) :
    Calls Tryz.prog 129 #[.pointer (some a), .agg (stA d), .string nm] W fun e w' => e = .returned (.tuple #[.agg (stA (untieG g d nm).2.1), .int .i64 (untieG g d nm).2.2]) ∧ GX H w w' N a (untieG g d nm).1 ∧ Same N W w' := by
  obtain ⟨⟨S, h1, h2, h3⟩, h4, h5, h6⟩ := h
  refine (H.untie a S g d nm W h1 h4 hn).mono ?_
  rintro e w' ⟨S', he, k1, k2, k3⟩
  exact ⟨he, GX.mut h2 h3 h5 h6 k1 k2 k3 (h4.untie d nm)⟩

theorem GX.drop {H : GraphHave} {w W : World} {N : Nat → Prop} {a : Addr} {g : Gr} (h : GX H w W N a g) (id : St) :
    Calls Tryz.prog 130 #[.pointer (some a), .agg (stA id)] W fun e w' => e = .returned (.int .i64 (dropG g id).2) ∧ GX H w w' N a (dropG g id).1 ∧ Same N W w' := by
  obtain ⟨⟨S, h1, h2, h3⟩, h4, h5, h6⟩ := h
  refine (H.drop a S g id W h1 h4).mono ?_
  rintro e w' ⟨S', he, k1, k2, k3⟩
  exact ⟨he, GX.mut h2 h3 h5 h6 k1 k2 k3 (h4.drop id)⟩

/-- A copy: each of the two beside the other one's blocks, and N. -/
theorem GX.copy {H : GraphHave} {w W : World} {N : Nat → Prop} {a : Addr} {g : Gr} (h : GX H w W N a g) :
    Calls Tryz.prog 37 #[.pointer (some a)] W fun e w' => ∃ b S T, e = .returned (.pointer (some b)) ∧ (GX H w w' (fun i => N i ∨ T i) a g ∧ H.rep w' T b g ∧ (∀ i, T i → W.heap.size ≤ i)) ∧ (GX H w w' (fun i => N i ∨ S i) b g ∧ H.rep w' S a g ∧ (∀ i, S i → w.heap.size ≤ i) ∧ (∀ i, N i → ¬ S i)) ∧ Below W.heap.size W w' := by
  obtain ⟨⟨S, h1, h2, h3⟩, h4, h5, h6⟩ := h
  refine (H.copy a S g W h1 h4).mono ?_
  rintro e w' ⟨b, T, he, k1, k2, k3⟩
  have r1 := H.keep h1 fun i hi => k3.block i (H.lt h1 i hi)
  refine ⟨b, S, T, he, ⟨⟨⟨S, r1, h2, fun i hi hs => ?_⟩, h4, fun i hi => ?_, below_step h6 k3⟩, k1, k2⟩, ⟨⟨⟨T, k1, fun i hi => Nat.le_trans h6.size (k2 i hi), fun i hi ht => ?_⟩, h4, fun i hi => ?_, below_step h6 k3⟩, r1, h2, h3⟩, k3⟩
  · rcases hi with hi | hi
    · exact h3 i hi hs
    · have := k2 i hi; have := H.lt h1 i hs; omega
  · rcases hi with hi | hi
    · exact Nat.lt_of_lt_of_le (h5 i hi) k3.size
    · exact H.lt k1 i hi
  · rcases hi with hi | hi
    · have := k2 i ht; have := h5 i hi; omega
    · have := k2 i ht; have := H.lt h1 i hi; omega
  · rcases hi with hi | hi
    · exact Nat.lt_of_lt_of_le (h5 i hi) k3.size
    · exact H.lt r1 i hi

theorem GX.get {H : GraphHave} {w W : World} {N : Nat → Prop} {a : Addr} {g : Gr} (h : GX H w W N a g) (id : St) :
    Calls Tryz.prog 12 #[.pointer (some a), .agg (stA id)] W fun e w' => e = .returned (.tuple #[.agg (inoA ((getG g id).getD noIno)), .bool (getG g id).isSome]) ∧ GX H w w' N a g ∧ Below W.heap.size W w' := by
  have h0 := h
  obtain ⟨⟨S, h1, h2, h3⟩, h4, h5, h6⟩ := h
  refine (H.get a S g id W h1 h4).mono ?_
  rintro e w' ⟨he, hb⟩
  exact ⟨he, h0.step hb, hb⟩

theorem GX.look {H : GraphHave} {w W : World} {N : Nat → Prop} {a : Addr} {g : Gr} (h : GX H w W N a g) (d : St) (nm : ByteArray) (hn : nm.size ≤ maxLen) :
    Calls Tryz.prog 15 #[.pointer (some a), .agg (stA d), .string nm] W fun e w' => e = .returned (.tuple #[.agg (stA ((lookE g.E d nm).getD (0, 0))), .bool (lookE g.E d nm).isSome]) ∧ GX H w w' N a g ∧ Below W.heap.size W w' := by
  have h0 := h
  obtain ⟨⟨S, h1, h2, h3⟩, h4, h5, h6⟩ := h
  refine (H.look a S g d nm W h1 h4 hn).mono ?_
  rintro e w' ⟨he, hb⟩
  exact ⟨he, h0.step hb, hb⟩

theorem GX.parent {H : GraphHave} {w W : World} {N : Nat → Prop} {a : Addr} {g : Gr} (h : GX H w W N a g) (d : St) :
    Calls Tryz.prog 19 #[.pointer (some a), .agg (stA d)] W fun e w' => e = .returned (.tuple #[.agg (stA ((parentG g d).getD (0, 0))), .bool (parentG g d).isSome]) ∧ GX H w w' N a g ∧ Below W.heap.size W w' := by
  have h0 := h
  obtain ⟨⟨S, h1, h2, h3⟩, h4, h5, h6⟩ := h
  refine (H.parent a S g d W h1 h4).mono ?_
  rintro e w' ⟨he, hb⟩
  exact ⟨he, h0.step hb, hb⟩

theorem GX.under {H : GraphHave} {w W : World} {N : Nat → Prop} {a : Addr} {g : Gr} (h : GX H w W N a g) (id d : St) :
    Calls Tryz.prog 150 #[.pointer (some a), .agg (stA id), .agg (stA d)] W fun e w' => e = .returned (.bool (underG g id d)) ∧ GX H w w' N a g ∧ Below W.heap.size W w' := by
  have h0 := h
  obtain ⟨⟨S, h1, h2, h3⟩, h4, h5, h6⟩ := h
  refine (H.under a S g id d W h1 h4).mono ?_
  rintro e w' ⟨he, hb⟩
  exact ⟨he, h0.step hb, hb⟩

/-- Entries are told: a slice of its own. -/
theorem GX.entries {H : GraphHave} {w W : World} {N : Nat → Prop} {a : Addr} {g : Gr} (h : GX H w W N a g) :
    Calls Tryz.prog 46 #[.pointer (some a)] W fun e w' => EntsNew g.E W e w' ∧ GX H w w' N a g := by
  have h0 := h
  obtain ⟨⟨S, h1, h2, h3⟩, h4, h5, h6⟩ := h
  refine (H.entries a S g W h1 h4).mono ?_
  rintro e w' ⟨v, rfl, hown, hb⟩
  exact ⟨⟨v, rfl, hown, hb⟩, h0.step hb⟩

theorem GX.list {H : GraphHave} {w W : World} {N : Nat → Prop} {a : Addr} {g : Gr} (h : GX H w W N a g) (d : St) :
    Calls Tryz.prog 153 #[.pointer (some a), .agg (stA d)] W fun e w' => EntsNew (listE g.E d) W e w' ∧ GX H w w' N a g := by
  have h0 := h
  obtain ⟨⟨S, h1, h2, h3⟩, h4, h5, h6⟩ := h
  refine (H.list a S g d W h1 h4).mono ?_
  rintro e w' ⟨v, rfl, hown, hb⟩
  exact ⟨⟨v, rfl, hown, hb⟩, h0.step hb⟩

theorem GX.inodes {H : GraphHave} {w W : World} {N : Nat → Prop} {a : Addr} {g : Gr} (h : GX H w W N a g) :
    Calls Tryz.prog 11 #[.pointer (some a)] W fun e w' => InosNew (inodesG g) W e w' ∧ GX H w w' N a g := by
  have h0 := h
  obtain ⟨⟨S, h1, h2, h3⟩, h4, h5, h6⟩ := h
  refine (H.inodes a S g W h1 h4).mono ?_
  rintro e w' ⟨v, rfl, hown, hb⟩
  exact ⟨⟨v, rfl, hown, hb⟩, h0.step hb⟩

end Go.Proofs.YtbkijfhfjhpebaaGreatDoor

/-
  Plain mathematics of layer 11: a graph that is fine is so behind any operation. It needs no program.
-/
namespace Go.Proofs.YtbkijfhfjhpebaaGreatDoor.GraphMath
open StampMath OpMath ExtentMath

theorem mayO_parts {o : Opn} (h : mayO o = true) : 1 ≤ o.k ∧ o.k ≤ 10 ∧ bareO o = o ∧ o.st ≠ 0 ∧ mayB o.st o.sr = true ∧ (o.k ≤ 7 → nameB o.name = true) ∧ (o.k = 7 → nameB o.new = true) ∧ dataB o = true := by
  unfold mayO at h
  simp only [Bool.and_eq_true, decide_eq_true_iff, Bool.not_eq_true', beq_eq_false_iff_ne, Bool.or_eq_true] at h
  obtain ⟨⟨⟨⟨⟨⟨h1, h2⟩, h3⟩, h4⟩, h5⟩, ⟨⟨_, h6⟩, h7⟩⟩, h8⟩ := h
  refine ⟨h1, h2, h3, h4, h5, fun q => ?_, fun q => ?_, h8⟩
  · rcases h6 with h6 | h6
    · omega
    · exact h6
  · rcases h7 with h7 | h7
    · exact absurd q h7
    · exact h7

theorem bare_data {o : Opn} (h : bareO o = o) (hk : o.k ≠ 3) (hk8 : o.k ≠ 8) : o.data.size = 0 := by
  have e : (bareO o).data = ⟨#[]⟩ := if_neg (by omega)
  rw [h] at e
  rw [e]
  rfl

/-- A new inode's bounds. -/
theorem made_bound {o : Opn} (h : mayO o = true) (hk : o.k ≤ 3) : boundOk1 ⟨oSt o, o.k, 0, 0, o.data⟩ := by
  obtain ⟨h1, _, h3, _, _, _, _, h8⟩ := mayO_parts h
  unfold boundOk1
  dsimp only
  by_cases q : o.k = 3
  · unfold dataB at h8
    rw [if_pos q] at h8
    simp only [Bool.and_eq_true, decide_eq_true_iff] at h8
    exact ⟨by omega, by omega, fun r => by omega, fun r => by omega, fun _ => ⟨by omega, by omega⟩⟩
  · have := bare_data h3 q (by omega)
    exact ⟨by omega, by omega, fun _ => this, fun _ => by omega, fun r => absurd r q⟩

theorem why_zero_of {g : Gr} {e : Ent} {X : Ino} (hn : nameB e.name = true) (hd : kindG g e.dir = 1) (hx : getG g e.ino = some X) (hl : lookE g.E e.dir e.name = none)
    (hu : X.kind = 1 → e.ino ≠ (0, 0) ∧ underG g e.dir e.ino = false) (hf : ¬ (X.kind = 1 ∧ 0 < X.links ∨ 6 ≤ X.links)) : whyG (nameB e.name) g e = 0 := by
  obtain ⟨A, hA, hk⟩ : ∃ A, getG g e.dir = some A ∧ A.kind = 1 := by
    unfold kindG at hd
    cases hq : getG g e.dir with
    | none => rw [hq] at hd; exact absurd hd (by decide)
    | some A => exact ⟨A, rfl, by rw [hq] at hd; exact hd⟩
  have hk' : ¬ A.kind ≠ 1 := fun q => q hk
  have hl' : ¬ (lookE g.E e.dir e.name).isSome = true := by rw [hl]; simp
  have h8 : ¬ (X.kind = 1 ∧ (e.ino = (0, 0) ∨ underG g e.dir e.ino = true)) := by
    rintro ⟨q, r⟩
    obtain ⟨u1, u2⟩ := hu q
    rcases r with r | r
    · exact u1 r
    · rw [u2] at r; cases r
  unfold whyG
  rw [if_neg (by simp [hn])]
  simp only [hA, hx]
  rw [if_neg hk', if_neg hl', if_neg h8, if_neg hf]

theorem tie_I {g : Gr} {b : Bool} {e : Ent} : (tieG b g e).1.I = g.I := by
  unfold tieG
  split <;> rfl

theorem Gr.ok.tieFine {g : Gr} (h : g.ok) (hn : ∀ e ∈ g.E, nameB e.name = true) (hb : ∀ x ∈ g.I, boundOk1 x) (e : Ent) (hh : ∀ x ∈ g.I, x.id ≠ (0, 0) → x.id ≠ e.ino → 1 ≤ linksE g.E x.id) (hw : whyG (nameB e.name) g e = 0) : (tieG (nameB e.name) g e).1.fine := by
  have hE : (tieG (nameB e.name) g e).1.E = putIn (fun a => aheadE a e) g.E e := by unfold tieG; rw [if_pos hw]
  refine ⟨h.tie _ e, names_tie hn e, ?_, by rw [tie_I]; exact hb⟩
  intro x hx h0
  rw [tie_I] at hx
  rw [hE, linksE_put]
  by_cases q : x.id = e.ino
  · rw [if_pos q.symm]; omega
  · have := hh x hx h0 q; omega

theorem set_mem {g : Gr} {id : St} {mode : Int} {data : ByteArray} {x : Ino} (h : x ∈ (setG g id mode data).1.I) : ∃ y ∈ g.I, x = if y.id = id then { y with mode := mode, data := data } else y := by
  unfold setG at h
  cases hq : getG g id with
  | none =>
    rw [hq] at h
    exact ⟨x, h, by rw [if_neg (get_none hq x h)]⟩
  | some X =>
    rw [hq] at h
    obtain ⟨y, hy, rfl⟩ := List.mem_map.1 h
    exact ⟨y, hy, rfl⟩

theorem Gr.fine.set {g : Gr} (h : g.fine) (id : St) (mode : Int) (data : ByteArray) (hb : ∀ x ∈ g.I, x.id = id → boundOk1 { x with mode := mode, data := data }) : (setG g id mode data).1.fine := by
  refine ⟨h.ok.set id mode data, by rw [set_ents]; exact h.names, ?_, ?_⟩
  · rw [set_ents]
    intro x hx h0
    obtain ⟨y, hy, rfl⟩ := set_mem hx
    by_cases q : y.id = id
    · rw [if_pos q] at h0 ⊢; exact h.held y hy h0
    · rw [if_neg q] at h0 ⊢; exact h.held y hy h0
  · intro x hx
    obtain ⟨y, hy, rfl⟩ := set_mem hx
    by_cases q : y.id = id
    · rw [if_pos q]; exact hb y hy q
    · rw [if_neg q]; exact h.bound y hy

theorem leads_end {g : Gr} {a d : St} (h : Leads g a d) : a = d ∨ ∃ e ∈ g.E, e.dir = d := by
  induction h with
  | here => exact Or.inl rfl
  | up e d he _ _ ih =>
    rcases ih with ih | ih
    · exact Or.inr ⟨e, he, ih⟩
    · exact Or.inr ih

/-! ### Mkdir, Create, Symlink, Link -/

theorem makesW_zero {g : Gr} {o : Opn} (h : makesW g o = 0) : kindG g (oAt o) = 1 ∧ lookE g.E (oAt o) o.name = none ∧ (o.k ≠ 4 → kindG g (oSt o) = 0 ∧ g.I.length < 40) ∧ (o.k = 4 → kindG g (oIno o) ≠ 0 ∧ kindG g (oIno o) ≠ 1 ∧ linksG g (oIno o) < 6) := by
  unfold makesW at h
  by_cases c1 : kindG g (oAt o) = 0 ∨ (o.k = 4 ∧ kindG g (oIno o) = 0)
  · rw [if_pos c1] at h; cases h
  rw [if_neg c1] at h
  by_cases c2 : kindG g (oAt o) ≠ 1
  · rw [if_pos c2] at h; cases h
  rw [if_neg c2] at h
  by_cases c3 : o.k = 4 ∧ kindG g (oIno o) = 1
  · rw [if_pos c3] at h; cases h
  rw [if_neg c3] at h
  by_cases c4 : (lookE g.E (oAt o) o.name).isSome = true ∨ (o.k ≠ 4 ∧ kindG g (oSt o) ≠ 0)
  · rw [if_pos c4] at h; cases h
  rw [if_neg c4] at h
  by_cases c5 : o.k ≠ 4 ∧ 40 ≤ g.I.length
  · rw [if_pos c5] at h; cases h
  rw [if_neg c5] at h
  by_cases c6 : o.k = 4 ∧ 6 ≤ linksG g (oIno o)
  · rw [if_pos c6] at h; cases h
  refine ⟨by omega, ?_, fun q => ⟨?_, ?_⟩, fun q => ⟨?_, ?_, ?_⟩⟩
  · cases hq : lookE g.E (oAt o) o.name with
    | none => rfl
    | some _ => exact absurd (Or.inl (by rw [hq]; rfl)) c4
  · exact Classical.byContradiction fun r => c4 (Or.inr ⟨q, r⟩)
  · exact Classical.byContradiction fun r => c5 ⟨q, by omega⟩
  · exact fun r => c1 (Or.inr ⟨q, r⟩)
  · exact fun r => c3 ⟨q, r⟩
  · exact Classical.byContradiction fun r => c6 ⟨q, by omega⟩

theorem make_zero {g : Gr} (h : g.ok) {o : Opn} (hm : mayO o = true) (hk : o.k ≤ 3) (hs : kindG g (oSt o) = 0) (hl : g.I.length < 40) :
    makeG g (oSt o) o.k = (⟨putIn (fun x => lessS x.id (oSt o)) g.I ⟨oSt o, o.k, 0, 0, ⟨#[]⟩⟩, g.E⟩, 0) := by
  obtain ⟨h1, _, _, _, h5, _⟩ := mayO_parts hm
  have c1 : ¬ (mayB (oSt o).1 (oSt o).2 = false ∨ o.k < 1 ∨ 3 < o.k) := by
    rintro (q | q | q)
    · rw [show mayB (oSt o).1 (oSt o).2 = true from h5] at q; cases q
    · omega
    · omega
  have c2 : ¬ (getG g (oSt o)).isSome = true := by rw [getG_zero h hs]; simp
  unfold makeG
  rw [if_neg c1, if_neg c2, if_neg (by omega)]

/-- The graph between Make and Tie. -/
def between (g : Gr) (o : Opn) : Gr := (setG (makeG g (oSt o) o.k).1 (oSt o) 0 o.data).1

theorem between_get {g : Gr} (h : g.ok) {o : Opn} (hm : mayO o = true) (hk : o.k ≤ 3) (hs : kindG g (oSt o) = 0) (hl : g.I.length < 40) (k : St) :
    getG (between g o) k = if k = oSt o then some ⟨oSt o, o.k, 0, 0, o.data⟩ else getG g k := by
  have h0 : (makeG g (oSt o) o.k).2 = 0 := by rw [make_zero h hm hk hs hl]
  unfold between
  rw [set_get, make_get h h0]
  by_cases q : k = oSt o
  · rw [if_pos q, if_pos q]; simp [q]
  · rw [if_neg q, if_neg q]
    cases getG g k <;> simp [q]

theorem between_mem {g : Gr} (h : g.ok) {o : Opn} (hm : mayO o = true) (hk : o.k ≤ 3) (hs : kindG g (oSt o) = 0) (hl : g.I.length < 40) {x : Ino} (hx : x ∈ (between g o).I) :
    x = ⟨oSt o, o.k, 0, 0, o.data⟩ ∨ (x ∈ g.I ∧ x.id ≠ oSt o) := by
  unfold between at hx
  obtain ⟨y, hy, hxy⟩ := set_mem hx
  rw [make_zero h hm hk hs hl] at hy
  rcases putIn_mem.1 hy with q | q
  · subst q
    rw [if_pos rfl] at hxy
    exact Or.inl hxy
  · have := kindG_zero h hs y q
    rw [if_neg this] at hxy
    exact Or.inr ⟨by rw [hxy]; exact q, by rw [hxy]; exact this⟩

theorem between_E (g : Gr) (o : Opn) : (between g o).E = g.E := by
  unfold between
  rw [set_ents, make_ents]

theorem between_ok {g : Gr} (h : g.ok) (o : Opn) : (between g o).ok := (h.make _ _).set _ _ _

theorem between_why {g : Gr} (h : g.ok) {o : Opn} (hm : mayO o = true) (hk : o.k ≤ 3) (hw : makesW g o = 0) : whyG (nameB o.name) (between g o) ⟨oAt o, o.name, oSt o⟩ = 0 := by
  obtain ⟨w1, w2, w3, _⟩ := makesW_zero hw
  obtain ⟨hs, hl⟩ := w3 (by omega)
  obtain ⟨_, _, _, h4, _, h6, _⟩ := mayO_parts hm
  have hget := between_get h hm hk hs hl
  have hne : oAt o ≠ oSt o := fun q => by rw [q, hs] at w1; cases w1
  refine why_zero_of (e := ⟨oAt o, o.name, oSt o⟩) (h6 (by omega)) ?_ (by rw [hget, if_pos rfl]) (by rw [between_E]; exact w2) (fun _ => ⟨fun q => h4 (congrArg Prod.fst q), ?_⟩) (by dsimp only; omega)
  · show kindG (between g o) (oAt o) = 1
    unfold kindG at w1 ⊢
    rw [hget, if_neg hne]
    exact w1
  · rw [Bool.eq_false_iff]
    intro q
    rcases leads_end ((between_ok h o).leads.1 q) with r | ⟨e, he, r⟩
    · exact hne r
    · rw [between_E] at he
      obtain ⟨y, hy, hyi, _⟩ := h.dirs e he
      exact kindG_zero h hs y hy (hyi.trans r)

theorem makes_fine {g : Gr} (h : g.fine) {o : Opn} (hm : mayO o = true) (hk : o.k ≤ 3) (hw : makesW g o = 0) : (tie1 (between g o) (oAt o) o.name (oSt o)).fine := by
  obtain ⟨w1, w2, w3, _⟩ := makesW_zero hw
  obtain ⟨hs, hl⟩ := w3 (by omega)
  unfold tie1
  refine (between_ok h.ok o).tieFine (by rw [between_E]; exact h.names) (fun x hx => ?_) ⟨oAt o, o.name, oSt o⟩ (fun x hx h0 hne => ?_) (between_why h.ok hm hk hw)
  · rcases between_mem h.ok hm hk hs hl hx with q | q
    · rw [q]; exact made_bound hm hk
    · exact h.bound x q.1
  · rcases between_mem h.ok hm hk hs hl hx with q | q
    · exact absurd (by rw [q]) hne
    · rw [between_E]; exact h.held x q.1 h0

theorem link_why {g : Gr} (h : g.ok) {o : Opn} (hm : mayO o = true) (hk : o.k = 4) (hw : makesW g o = 0) : whyG (nameB o.name) g ⟨oAt o, o.name, oIno o⟩ = 0 := by
  obtain ⟨w1, w2, _, w4⟩ := makesW_zero hw
  obtain ⟨k0, k1, k6⟩ := w4 hk
  obtain ⟨_, _, _, _, _, h6, _⟩ := mayO_parts hm
  obtain ⟨X, hX⟩ := h.there k0
  have e1 : X.kind ≠ 1 := by unfold kindG at k1; rw [hX] at k1; exact k1
  have e2 : X.links < 6 := by unfold linksG at k6; rw [hX] at k6; exact k6
  exact why_zero_of (e := ⟨oAt o, o.name, oIno o⟩) (h6 (by omega)) w1 hX w2 (fun q => absurd q e1) (by omega)

theorem link_fine {g : Gr} (h : g.fine) {o : Opn} (hm : mayO o = true) (hk : o.k = 4) (hw : makesW g o = 0) : (tie1 g (oAt o) o.name (oIno o)).fine :=
  h.ok.tieFine h.names h.bound ⟨oAt o, o.name, oIno o⟩ (fun x hx h0 _ => h.held x hx h0) (link_why h.ok hm hk hw)

/-! ### Unlink, Rmdir -/

/-- All entries but one. -/
def without (E : List Ent) (d : St) (nm : ByteArray) : List Ent := E.filter fun e => !(decide (e.dir = d) && decide (e.name = nm))

theorem untie_eq {g : Gr} {d : St} {nm : ByteArray} {id : St} (hl : lookE g.E d nm = some id) : untieG g d nm = (⟨g.I, without g.E d nm⟩, id, 0) := by unfold untieG; rw [hl]; rfl

theorem links_without {g : Gr} (h : g.ok) {d : St} {nm : ByteArray} {id : St} (hl : lookE g.E d nm = some id) (k : St) : linksE (without g.E d nm) k = linksE g.E k - if k = id then 1 else 0 := by
  have := untie_links h hl k
  change ((linksE (without g.E d nm) k : Nat) : Int) = _ at this
  by_cases q : k = id
  · rw [if_pos q] at this ⊢; omega
  · rw [if_neg q] at this ⊢; omega

theorem list_without {E : List Ent} {d : St} {nm : ByteArray} {id : St} (h : listE E id = []) : listE (without E d nm) id = [] := by
  unfold listE without at *
  rw [List.filter_eq_nil_iff] at h ⊢
  exact fun e he => h e (List.mem_filter.1 he).1

theorem look_pos {g : Gr} (h : g.ok) {d : St} {nm : ByteArray} {id : St} (hl : lookE g.E d nm = some id) : 1 ≤ linksE g.E id := by
  unfold linksE
  exact List.length_pos_of_mem (List.mem_filter.2 ⟨(look_iff h).1 hl, by simp⟩)

theorem gone_eq {g : Gr} (h : g.ok) {d : St} {nm : ByteArray} {id : St} (hl : lookE g.E d nm = some id) (he : listE g.E id = []) :
    goneG g d nm = ⟨if linksE g.E id = 1 then g.I.filter (fun x => !decide (x.id = id)) else g.I, without g.E d nm⟩ := by
  have hp := look_pos h hl
  have hw := links_without h hl id
  rw [if_pos rfl] at hw
  unfold goneG
  rw [untie_eq hl]
  dsimp only
  by_cases q : linksE g.E id = 1
  · have h0 : linksE (without g.E d nm) id = 0 := by omega
    rw [if_pos h0, if_pos q]
    have hok : (⟨g.I, without g.E d nm⟩ : Gr).ok := by have := h.untie d nm; rwa [untie_eq hl] at this
    obtain ⟨x, hx, hxi⟩ := h.inos _ ((look_iff h).1 hl)
    have hg : getG ⟨g.I, without g.E d nm⟩ id = some { x with links := (linksE (without g.E d nm) id : Int) } := (get_iff hok).2 ⟨x, hx, hxi, rfl⟩
    have hr : ¬ id = (0, 0) := h.noRoot _ ((look_iff h).1 hl)
    have hc : ¬ (0 < ((linksE (without g.E d nm) id : Nat) : Int) ∨ 0 < (listE (without g.E d nm) id).length) := by
      rw [list_without he, h0]
      simp
    unfold dropG
    rw [hg]
    dsimp only
    rw [if_neg hr, if_neg hc]
  · rw [if_neg q, if_neg (by omega)]

theorem Gr.fine.gone {g : Gr} (h : g.fine) {d : St} {nm : ByteArray} {id : St} (hl : lookE g.E d nm = some id) (he : listE g.E id = []) : (goneG g d nm).fine := by
  have hok : (goneG g d nm).ok := by
    unfold goneG
    split
    · exact (h.ok.untie d nm).drop _
    · exact h.ok.untie d nm
  have hp := look_pos h.ok hl
  rw [gone_eq h.ok hl he] at hok ⊢
  have hsub : ∀ x, x ∈ (if linksE g.E id = 1 then g.I.filter (fun x => !decide (x.id = id)) else g.I) → x ∈ g.I ∧ (linksE g.E id = 1 → x.id ≠ id) := by
    intro x hx
    by_cases q : linksE g.E id = 1
    · rw [if_pos q] at hx
      obtain ⟨h1, h2⟩ := List.mem_filter.1 hx
      exact ⟨h1, fun _ => by simpa using h2⟩
    · rw [if_neg q] at hx
      exact ⟨hx, fun r => absurd r q⟩
  refine ⟨hok, fun e he' => h.names e (List.mem_filter.1 he').1, fun x hx h0 => ?_, fun x hx => h.bound x (hsub x hx).1⟩
  obtain ⟨hx1, hx2⟩ := hsub x hx
  show 1 ≤ linksE (without g.E d nm) x.id
  rw [links_without h.ok hl]
  by_cases q : x.id = id
  · rw [if_pos q, q]
    have : linksE g.E id ≠ 1 := fun r => hx2 r q
    omega
  · rw [if_neg q]
    exact h.held x hx1 h0

end Go.Proofs.YtbkijfhfjhpebaaGreatDoor.GraphMath

/-
  Plain mathematics of layer 11: Rename, and what is done to data; the invariant. It needs no program.
-/
namespace Go.Proofs.YtbkijfhfjhpebaaGreatDoor.GraphMath
open StampMath OpMath ExtentMath

theorem renamesW_zero {g : Gr} {o : Opn} (h : renamesW g o = 0) : lookE g.E (oAt o) o.name = some (oIno o) ∧ kindG g (oTo o) = 1 ∧
    (targetG g o ≠ some (oIno o) → (kindG g (oIno o) = 1 → underG g (oTo o) (oIno o) = false) ∧ ∀ t, targetG g o = some t → (kindG g t = 1 → kindG g (oIno o) = 1 ∧ listE g.E t = []) ∧ (kindG g (oIno o) = 1 → kindG g t = 1)) := by
  unfold renamesW at h
  by_cases c1 : lookE g.E (oAt o) o.name ≠ some (oIno o) ∨ kindG g (oTo o) = 0
  · rw [if_pos c1] at h; cases h
  rw [if_neg c1] at h
  by_cases c2 : kindG g (oTo o) ≠ 1
  · rw [if_pos c2] at h; cases h
  rw [if_neg c2] at h
  refine ⟨Classical.byContradiction fun q => c1 (Or.inl q), by omega, fun hne => ?_⟩
  rw [if_neg hne] at h
  by_cases c4 : kindG g (oIno o) = 1 ∧ underG g (oTo o) (oIno o) = true
  · rw [if_pos c4] at h; cases h
  rw [if_neg c4] at h
  by_cases c5 : ((targetG g o).isSome = true ∧ kindG g ((targetG g o).getD (0, 0)) = 1) ∧ kindG g (oIno o) ≠ 1
  · rw [if_pos c5] at h; cases h
  rw [if_neg c5] at h
  by_cases c6 : (targetG g o).isSome = true ∧ kindG g (oIno o) = 1 ∧ ¬ ((targetG g o).isSome = true ∧ kindG g ((targetG g o).getD (0, 0)) = 1)
  · rw [if_pos c6] at h; cases h
  rw [if_neg c6] at h
  by_cases c7 : ((targetG g o).isSome = true ∧ kindG g ((targetG g o).getD (0, 0)) = 1) ∧ 0 < (listE g.E ((targetG g o).getD (0, 0))).length
  · rw [if_pos c7] at h; cases h
  refine ⟨fun q => ?_, fun t ht => ?_⟩
  · rw [Bool.eq_false_iff]
    exact fun r => c4 ⟨q, r⟩
  · rw [ht] at c5 c6 c7
    refine ⟨fun q => ⟨?_, ?_⟩, fun q => ?_⟩
    · exact Classical.byContradiction fun r => c5 ⟨⟨rfl, q⟩, r⟩
    · have : ¬ 0 < (listE g.E t).length := fun r => c7 ⟨⟨rfl, q⟩, r⟩
      exact List.length_eq_zero_iff.1 (by omega)
    · exact Classical.byContradiction fun r => c6 ⟨rfl, q, fun s => r s.2⟩

theorem leads_mono {g g' : Gr} (hE : ∀ e ∈ g'.E, e ∈ g.E) (hD : ∀ d, g'.isDir d → g.isDir d) {a b : St} (h : Leads g' a b) : Leads g a b := by
  induction h with
  | here => exact Leads.here _
  | up e d he hd _ ih => exact Leads.up e d (hE e he) (hD _ hd) ih

/-- The graph whose target is gone. -/
def cleared (g : Gr) (o : Opn) : Gr := if (targetG g o).isSome then goneG g (oTo o) o.new else g

theorem mem_without {E : List Ent} {d : St} {nm : ByteArray} {e : Ent} : e ∈ without E d nm ↔ e ∈ E ∧ ¬ (e.dir = d ∧ e.name = nm) := by
  unfold without
  rw [List.mem_filter]
  refine and_congr_right fun _ => ?_
  rw [Bool.not_eq_true', Bool.and_eq_false_iff, decide_eq_false_iff_not, decide_eq_false_iff_not]
  by_cases a : e.dir = d
  · simp [a]
  · simp [a]

theorem look_without (E : List Ent) (d : St) (nm : ByteArray) : lookE (without E d nm) d nm = none := by
  unfold lookE
  rw [List.find?_eq_none.2]
  · rfl
  · intro e he
    have := (mem_without.1 he).2
    simpa using this

/-- A directory has no entry in itself. -/
theorem Gr.ok.not_self {g : Gr} (h : g.ok) {e : Ent} (he : e ∈ g.E) : e.dir ≠ e.ino := fun q => by
  obtain ⟨f, hf⟩ := h.rank
  have hd := h.dirs e he
  have := hf e he (by rw [← q]; exact hd)
  rw [q] at this
  omega

/-- What is so of the graph whose target is gone. -/
structure Cleared (g : Gr) (o : Opn) (c : Gr) : Prop where
  fine : c.fine
  ents : c.E = without g.E (oTo o) o.new
  sub : ∀ x ∈ c.I, x ∈ g.I
  stays : ∀ x ∈ g.I, targetG g o ≠ some x.id → x ∈ c.I

theorem cleared_is {g : Gr} (h : g.fine) {o : Opn} (ht : ∀ t, targetG g o = some t → listE g.E t = []) : Cleared g o (cleared g o) := by
  unfold cleared
  cases hq : targetG g o with
  | none =>
    rw [if_neg (by simp)]
    refine ⟨h, ?_, fun x hx => hx, fun x hx _ => hx⟩
    unfold without
    rw [filter_all (look_none hq)]
  | some t =>
    rw [if_pos (show (some t).isSome = true from rfl)]
    have hl := ht t hq
    refine ⟨h.gone hq hl, by rw [gone_eq h.ok hq hl], fun x hx => ?_, fun x hx hne => ?_⟩
    · rw [gone_eq h.ok hq hl] at hx
      dsimp only at hx
      split at hx
      · exact (List.mem_filter.1 hx).1
      · exact hx
    · rw [gone_eq h.ok hq hl]
      dsimp only
      have hxt : x.id ≠ t := fun q => hne (by rw [q]; exact hq)
      split
      · exact List.mem_filter.2 ⟨hx, by simpa using hxt⟩
      · exact hx

/-- The graph between Untie and Tie of a Rename. -/
def loosed (g : Gr) (o : Opn) : Gr := (untieG (cleared g o) (oAt o) o.name).1

structure Loosed (g : Gr) (o : Opn) (c : Gr) : Prop where
  ok : c.ok
  names : ∀ e ∈ c.E, nameB e.name = true
  bound : ∀ x ∈ c.I, boundOk1 x
  held : ∀ x ∈ c.I, x.id ≠ (0, 0) → x.id ≠ oIno o → 1 ≤ linksE c.E x.id
  why : whyG (nameB o.new) c ⟨oTo o, o.new, oIno o⟩ = 0
  ents : c.E = without (without g.E (oTo o) o.new) (oAt o) o.name
  inos : c.I = (cleared g o).I
  other : targetG g o ≠ some (oTo o)
  apart : ¬ (oAt o = oTo o ∧ o.name = o.new)

theorem rename_lists {g : Gr} (h : g.ok) {o : Opn} (hw : renamesW g o = 0) (hne : targetG g o ≠ some (oIno o)) : ∀ t, targetG g o = some t → listE g.E t = [] := by
  intro t ht
  obtain ⟨_, _, w3⟩ := renamesW_zero hw
  by_cases q : kindG g t = 1
  · exact (((w3 hne).2 t ht).1 q).2
  · unfold listE
    rw [List.filter_eq_nil_iff]
    intro e he
    have hd := h.kindDir (h.dirs e he)
    simp only [decide_eq_true_eq]
    exact fun r => q (by rw [← r]; exact hd)

theorem loosed_is {g : Gr} (h : g.fine) {o : Opn} (hm : mayO o = true) (hk : o.k = 7) (hw : renamesW g o = 0) (hne : targetG g o ≠ some (oIno o)) : Loosed g o (loosed g o) := by
  obtain ⟨w1, w2, w3⟩ := renamesW_zero hw
  obtain ⟨w4, w5⟩ := w3 hne
  have hc := cleared_is h (rename_lists h.ok hw hne)
  have hmem : (⟨oAt o, o.name, oIno o⟩ : Ent) ∈ g.E := (look_iff h.ok).1 w1
  have hpl : ¬ (oAt o = oTo o ∧ o.name = o.new) := fun q => hne (by unfold targetG; rw [← q.1, ← q.2]; exact w1)
  have hlook : lookE (cleared g o).E (oAt o) o.name = some (oIno o) := by
    rw [look_iff hc.fine.ok, hc.ents, mem_without]
    exact ⟨hmem, hpl⟩
  have hto : targetG g o ≠ some (oTo o) := fun q => by
    have := h.ok.not_self ((look_iff h.ok).1 q)
    exact this rfl
  obtain ⟨T, hT, hTi, hTk⟩ := kindG_dir w2
  obtain ⟨X, hX, hXi'⟩ := h.ok.inos _ hmem
  have hXi : X.id = oIno o := hXi'
  have hTc := hc.stays T hT (by rw [hTi]; exact hto)
  have hXc := hc.stays X hX (by rw [hXi]; exact hne)
  have e2 : loosed g o = ⟨(cleared g o).I, without (cleared g o).E (oAt o) o.name⟩ := by unfold loosed; rw [untie_eq hlook]
  have hok : (loosed g o).ok := hc.fine.ok.untie _ _
  have hlk := links_without hc.fine.ok hlook (oIno o)
  rw [if_pos rfl] at hlk
  have hxk : kindG g (oIno o) = X.kind := by rw [← hXi, h.ok.kindG hX]
  refine ⟨hok, ?_, ?_, ?_, ?_, ?_, by rw [e2], hto, hpl⟩
  · rw [e2]; exact fun e he => hc.fine.names e (mem_without.1 he).1
  · rw [e2]; exact hc.fine.bound
  · rw [e2]
    intro x hx h0 hx1
    show 1 ≤ linksE (without (cleared g o).E (oAt o) o.name) x.id
    rw [links_without hc.fine.ok hlook, if_neg hx1]
    exact hc.fine.held x hx h0
  · refine why_zero_of (X := { X with links := (linksE (loosed g o).E (oIno o) : Int) }) (e := ⟨oTo o, o.new, oIno o⟩) ((mayO_parts hm).2.2.2.2.2.2.1 hk) ?_ ((get_iff hok).2 ⟨X, by rw [e2]; exact hXc, hXi, rfl⟩) ?_ (fun q => ⟨h.ok.noRoot ⟨oAt o, o.name, oIno o⟩ hmem, ?_⟩) ?_
    · show kindG (loosed g o) (oTo o) = 1
      rw [← hTi, hok.kindG (by rw [e2]; exact hTc), hTk]
    · show lookE (loosed g o).E (oTo o) o.new = none
      rw [e2]
      dsimp only
      rw [hc.ents]
      unfold lookE
      rw [List.find?_eq_none.2]
      · rfl
      · intro e he
        have := (mem_without.1 (mem_without.1 he).1).2
        simpa using this
    · show underG (loosed g o) (oTo o) (oIno o) = false
      rw [Bool.eq_false_iff]
      intro r
      have hlg := hok.leads.1 r
      have hlg2 : Leads g (oTo o) (oIno o) := leads_mono (fun e he => by
        rw [e2] at he
        have := (mem_without.1 he).1
        rw [hc.ents] at this
        exact (mem_without.1 this).1) (fun d hd => by
        obtain ⟨y, hy, hy1, hy2⟩ := hd
        rw [e2] at hy
        exact ⟨y, hc.sub y hy, hy1, hy2⟩) hlg
      have := w4 (by rw [hxk]; exact q)
      rw [h.ok.leads.2 hlg2] at this
      cases this
    · dsimp only
      have h6 := hc.fine.ok.six (oIno o)
      have e3 : linksE (loosed g o).E (oIno o) = linksE (cleared g o).E (oIno o) - 1 := by rw [e2]; exact hlk
      have h1 : X.kind = 1 → linksE (cleared g o).E (oIno o) ≤ 1 := fun q => hc.fine.ok.one _ ⟨X, hXc, hXi, q⟩
      rintro (⟨q, r⟩ | q)
      · have := h1 q; omega
      · have := look_pos hc.fine.ok hlook; omega
  · rw [e2]
    dsimp only
    rw [hc.ents]

theorem rename_fine {g : Gr} (h : g.fine) {o : Opn} (hm : mayO o = true) (hk : o.k = 7) (hw : renamesW g o = 0) (hne : targetG g o ≠ some (oIno o)) : (tie1 (loosed g o) (oTo o) o.new (oIno o)).fine := by
  have hl := loosed_is h hm hk hw hne
  exact hl.ok.tieFine hl.names hl.bound ⟨oTo o, o.new, oIno o⟩ hl.held hl.why

/-! ### Write, Trunc, Setattr -/

theorem bytes_size (l : List UInt8) : (bytes l).size = l.length := rfl

theorem data_len (d : ByteArray) : d.data.toList.length = d.size := by simp

/-- What is so of an operation that can be done, from Unlink on, but Rename. -/
theorem whyA_rest {g : Gr} {o : Opn} (h : whyA g o = 0) (h4 : 4 < o.k) (h7 : o.k ≠ 7) : (o.k ≤ 6 → lookE g.E (oAt o) o.name = some (oIno o)) ∧ kindG g (oIno o) ≠ 0 ∧ (o.k = 5 ∨ o.k = 8 ∨ o.k = 9 → kindG g (oIno o) ≠ 1) ∧ (o.k = 6 → kindG g (oIno o) = 1 ∧ listE g.E (oIno o) = []) ∧ (o.k = 8 ∨ o.k = 9 → kindG g (oIno o) ≠ 3) := by
  unfold whyA at h
  by_cases c0 : mayO o = false
  · rw [if_pos c0] at h; cases h
  rw [if_neg c0, if_neg (by omega), if_neg h7] at h
  by_cases c1 : (o.k ≤ 6 ∧ lookE g.E (oAt o) o.name ≠ some (oIno o)) ∨ kindG g (oIno o) = 0
  · rw [if_pos c1] at h; cases h
  rw [if_neg c1] at h
  by_cases c2 : (o.k = 5 ∨ o.k = 8 ∨ o.k = 9) ∧ kindG g (oIno o) = 1
  · rw [if_pos c2] at h; cases h
  rw [if_neg c2] at h
  by_cases c3 : o.k = 6 ∧ kindG g (oIno o) ≠ 1
  · rw [if_pos c3] at h; cases h
  rw [if_neg c3] at h
  by_cases c4 : o.k = 6 ∧ 0 < (listE g.E (oIno o)).length
  · rw [if_pos c4] at h; cases h
  rw [if_neg c4] at h
  by_cases c5 : (o.k = 8 ∨ o.k = 9) ∧ kindG g (oIno o) = 3
  · rw [if_pos c5] at h; cases h
  refine ⟨fun q => Classical.byContradiction fun r => c1 (Or.inl ⟨q, r⟩), fun q => c1 (Or.inr q), fun q r => c2 ⟨q, r⟩, fun q => ⟨Classical.byContradiction fun r => c3 ⟨q, r⟩, List.length_eq_zero_iff.1 (Nat.eq_zero_of_not_pos fun r => c4 ⟨q, r⟩)⟩, fun q r => c5 ⟨q, r⟩⟩

theorem whyA_may {g : Gr} {o : Opn} (h : whyA g o = 0) : mayO o = true := by
  unfold whyA at h
  cases hq : mayO o with
  | true => rfl
  | false => rw [if_pos hq] at h; cases h

theorem whyA_makes {g : Gr} {o : Opn} (h : whyA g o = 0) (h4 : o.k ≤ 4) : makesW g o = 0 := by
  have hm := whyA_may h
  unfold whyA at h
  rwa [if_neg (by rw [hm]; simp), if_pos h4] at h

theorem whyA_renames {g : Gr} {o : Opn} (h : whyA g o = 0) (h7 : o.k = 7) : renamesW g o = 0 := by
  have hm := whyA_may h
  unfold whyA at h
  rwa [if_neg (by rw [hm]; simp), if_neg (by omega), if_pos h7] at h

/-- A file or a symbolic link has nothing below it. -/
theorem Gr.ok.list_none {g : Gr} (h : g.ok) {id : St} (hk : GraphMath.kindG g id ≠ 1) : listE g.E id = [] := by
  unfold listE
  rw [List.filter_eq_nil_iff]
  intro e he
  have hd := h.kindDir (h.dirs e he)
  simp only [decide_eq_true_eq]
  exact fun r => hk (by rw [← r]; exact hd)

theorem Gr.fine.made {g : Gr} (h : g.fine) {o : Opn} (hw : whyA g o = 0) : (madeA g o).fine := by
  have hm := whyA_may hw
  obtain ⟨p1, p2, p3, _, _, _, _, p8⟩ := mayO_parts hm
  unfold madeA
  by_cases k3 : o.k ≤ 3
  · rw [if_pos k3]
    exact makes_fine h hm k3 (whyA_makes hw (by omega))
  rw [if_neg k3]
  by_cases k4 : o.k = 4
  · rw [if_pos k4]
    exact link_fine h hm k4 (whyA_makes hw (by omega))
  rw [if_neg k4]
  by_cases k6 : o.k ≤ 6
  · rw [if_pos k6]
    obtain ⟨r1, r2, r3, r4, _⟩ := whyA_rest hw (by omega) (by omega)
    refine h.gone (r1 k6) ?_
    by_cases q : o.k = 6
    · exact (r4 q).2
    · exact h.ok.list_none (r3 (Or.inl (by omega)))
  rw [if_neg k6]
  by_cases k7 : o.k = 7
  · rw [if_pos k7]
    by_cases ht : targetG g o = some (oIno o)
    · rw [if_pos ht]; exact h
    · rw [if_neg ht]
      exact rename_fine h hm k7 (whyA_renames hw k7) ht
  rw [if_neg k7]
  obtain ⟨_, r2, r3, _, r5⟩ := whyA_rest hw (by omega) k7
  have hino : ∀ x ∈ g.I, x.id = oIno o → inoG g (oIno o) = { x with links := (linksE g.E x.id : Int) } ∧ kindG g (oIno o) = x.kind := fun x hx e => by
    unfold inoG
    rw [← e, h.ok.get hx, h.ok.kindG hx]
    exact ⟨rfl, rfl⟩
  unfold dataB at p8
  by_cases k8 : o.k = 8
  · rw [if_pos k8]
    rw [if_neg (by omega), if_pos k8] at p8
    simp only [Bool.and_eq_true, decide_eq_true_iff] at p8
    refine h.set _ _ _ fun x hx e => ?_
    obtain ⟨e1, e2⟩ := hino x hx e
    have hb := h.bound x hx
    have hk := h.ok.kinds x hx
    have := r3 (Or.inr (Or.inl k8))
    have := r5 (Or.inl k8)
    have hk2 : x.kind = 2 := by omega
    unfold boundOk1 at hb ⊢
    rw [e1]
    dsimp only
    refine ⟨hb.1, hb.2.1, fun q => by omega, fun _ => ?_, fun q => by omega⟩
    rw [bytes_size, wL_len, data_len, data_len]
    have := hb.2.2.2.1 hk2
    omega
  rw [if_neg k8]
  by_cases k9 : o.k = 9
  · rw [if_pos k9]
    rw [if_neg (by omega), if_neg k8, if_pos k9] at p8
    simp only [Bool.and_eq_true, decide_eq_true_iff] at p8
    refine h.set _ _ _ fun x hx e => ?_
    obtain ⟨e1, e2⟩ := hino x hx e
    have hb := h.bound x hx
    have hk := h.ok.kinds x hx
    have := r3 (Or.inr (Or.inr k9))
    have := r5 (Or.inr k9)
    have hk2 : x.kind = 2 := by omega
    unfold boundOk1 at hb ⊢
    rw [e1]
    dsimp only
    refine ⟨hb.1, hb.2.1, fun q => by omega, fun _ => ?_, fun q => by omega⟩
    rw [bytes_size]
    unfold tL
    rw [bld_len]
    omega
  · rw [if_neg k9]
    rw [if_neg (by omega), if_neg k8, if_neg k9, if_pos (by omega)] at p8
    simp only [Bool.and_eq_true, decide_eq_true_iff] at p8
    refine h.set _ _ _ fun x hx e => ?_
    obtain ⟨e1, e2⟩ := hino x hx e
    have hb := h.bound x hx
    unfold boundOk1 at hb ⊢
    rw [e1]
    dsimp only
    exact ⟨p8.1, p8.2, hb.2.2⟩

/-- The invariant. -/
theorem Gr.fine.does {g : Gr} (h : g.fine) (o : Opn) : (doA g o).1.fine := by
  unfold doA
  by_cases q : whyA g o = 0
  · rw [if_pos q]; exact h.made q
  · rw [if_neg q]; exact h

end Go.Proofs.YtbkijfhfjhpebaaGreatDoor.GraphMath

/-
  Plain mathematics of layer 11's statements: what is made, moved, set, gone. It needs no program.
-/
namespace Go.Proofs.YtbkijfhfjhpebaaGreatDoor.GraphMath
open StampMath OpMath ExtentMath

/-! ### graphs that tell the same are the same -/

theorem sorted_same {α : Type} {r : α → α → Bool} (irr : ∀ x, r x x = false) (tr : ∀ x y z, r x y = true → r y z = true → r x z = true) :
    ∀ {l m : List α}, l.Pairwise (fun a b => r a b = true) → m.Pairwise (fun a b => r a b = true) → (∀ x, x ∈ l ↔ x ∈ m) → l = m
  | [], [], _, _, _ => rfl
  | [], b :: m, _, _, h => absurd ((h b).2 (List.mem_cons_self ..)) (by simp)
  | a :: l, [], _, _, h => absurd ((h a).1 (List.mem_cons_self ..)) (by simp)
  | a :: l, b :: m, hl, hm, h => by
    obtain ⟨hl1, hl2⟩ := List.pairwise_cons.1 hl
    obtain ⟨hm1, hm2⟩ := List.pairwise_cons.1 hm
    have hab : a = b := by
      rcases List.mem_cons.1 ((h a).1 (List.mem_cons_self ..)) with q | q
      · exact q
      rcases List.mem_cons.1 ((h b).2 (List.mem_cons_self ..)) with q2 | q2
      · exact q2.symm
      have := tr _ _ _ (hm1 a q) (hl1 b q2)
      rw [irr] at this
      cases this
    subst hab
    have ha : a ∉ l := fun q => by have := hl1 a q; rw [irr] at this; cases this
    have hb : a ∉ m := fun q => by have := hm1 a q; rw [irr] at this; cases this
    rw [sorted_same irr tr hl2 hm2 fun x => ⟨fun q => ?_, fun q => ?_⟩]
    · rcases List.mem_cons.1 ((h x).1 (List.mem_cons_of_mem _ q)) with e | e
      · subst e; exact absurd q ha
      · exact e
    · rcases List.mem_cons.1 ((h x).2 (List.mem_cons_of_mem _ q)) with e | e
      · subst e; exact absurd q hb
      · exact e

theorem aheadE_self (e : Ent) : aheadE e e = false := by
  rw [Bool.eq_false_iff]
  intro h
  rcases (aheadE_iff _ _).1 h with q | ⟨_, q⟩
  · rw [lessS_irrefl] at q; cases q
  · exact bytes_irrefl _ q

theorem Gr.ok.same {g g' : Gr} (h : g.ok) (h' : g'.ok) (hI : ∀ k, getG g k = getG g' k) (hE : ∀ d nm, lookE g.E d nm = lookE g'.E d nm) : g = g' := by
  have one : ∀ {a b : Gr}, a.ok → b.ok → (∀ k, getG a k = getG b k) → ∀ x ∈ a.I, x ∈ b.I := fun {a b} ha hb hg x hx => by
    have h1 := ha.get hx
    rw [hg] at h1
    obtain ⟨y, hy, h2, h3⟩ := (get_iff hb).1 h1
    have l1 := ha.links0 x hx
    have l2 := hb.links0 y hy
    have : x = y := by
      obtain ⟨i, k, l, m, d⟩ := x
      obtain ⟨i', k', l', m', d'⟩ := y
      simp only [Ino.mk.injEq] at h3 l1 l2 ⊢
      exact ⟨h3.1, h3.2.1, by rw [l1, l2], h3.2.2.2.1, h3.2.2.2.2⟩
    rw [this]
    exact hy
  have e1 : g.I = g'.I := sorted_same (r := fun a b => lessS a.id b.id) (fun x => lessS_irrefl _) (fun _ _ _ => lessS_trans) h.sortI h'.sortI fun x => ⟨one h h' hI x, one h' h (fun k => (hI k).symm) x⟩
  have e2 : g.E = g'.E := sorted_same (r := aheadE) aheadE_self (fun _ _ _ => aheadE_trans) h.sortE h'.sortE fun e => by
    have a := look_iff (d := e.dir) (nm := e.name) (id := e.ino) h
    have b := look_iff (d := e.dir) (nm := e.name) (id := e.ino) h'
    rw [← hE] at b
    exact a.symm.trans b
  cases g
  cases g'
  simp only at e1 e2
  rw [e1, e2]

theorem tie_lookE {g : Gr} (h : g.ok) {b : Bool} {e : Ent} (h1 : (tieG b g e).2 = 0) (d : St) (nm : ByteArray) : lookE (tieG b g e).1.E d nm = if d = e.dir ∧ nm = e.name then some e.ino else lookE g.E d nm := by
  have := tie_look h h1 (d, nm)
  rw [look_pairsE, look_pairsE] at this
  rw [this]
  by_cases q : d = e.dir ∧ nm = e.name
  · rw [if_pos q, if_pos (by rw [q.1, q.2])]
  · rw [if_neg q, if_neg fun r => q ⟨congrArg Prod.fst r, congrArg Prod.snd r⟩]

/-! ### Mkdir, Create, Symlink -/

theorem makes_all {g : Gr} (h : g.fine) {o : Opn} (hw : whyA g o = 0) (hk : o.k ≤ 3) :
    lookE (madeA g o).E (oAt o) o.name = some (oSt o) ∧ getG (madeA g o) (oSt o) = some ⟨oSt o, o.k, 1, 0, o.data⟩ ∧ whyA (madeA g o) o = 4 ∧ (dropG (untieG (madeA g o) (oAt o) o.name).1 (oSt o)).1 = g := by
  have hm := whyA_may hw
  have hmk := whyA_makes hw (by omega)
  obtain ⟨w1, w2, w3, _⟩ := makesW_zero hmk
  obtain ⟨hs, hl⟩ := w3 (by omega)
  obtain ⟨_, _, _, h4, _⟩ := mayO_parts hm
  have e : madeA g o = (tieG (nameB o.name) (between g o) ⟨oAt o, o.name, oSt o⟩).1 := by unfold madeA; rw [if_pos hk]; rfl
  have hbo := between_ok h.ok o
  have hz : (tieG (nameB o.name) (between g o) ⟨oAt o, o.name, oSt o⟩).2 = 0 := (tie_ok_iff _ _ _).2 (between_why h.ok hm hk hmk)
  have hne : oAt o ≠ oSt o := fun q => by rw [q, hs] at w1; cases w1
  have g1 : lookE (madeA g o).E (oAt o) o.name = some (oSt o) := by rw [e, tie_lookE hbo hz, if_pos ⟨rfl, rfl⟩]
  have g2 : getG (madeA g o) (oSt o) = some ⟨oSt o, o.k, 1, 0, o.data⟩ := by
    rw [e, tie_get hz, between_get h.ok hm hk hs hl, if_pos rfl, Option.map_some, if_pos rfl]
    rfl
  refine ⟨g1, g2, ?_, ?_⟩
  · have k1 : kindG (madeA g o) (oAt o) = 1 := by
      unfold kindG at w1 ⊢
      rw [e, tie_get hz, between_get h.ok hm hk hs hl, if_neg hne]
      cases hq : getG g (oAt o) with
      | none => rw [hq] at w1; exact absurd w1 (by decide)
      | some x =>
        rw [hq] at w1
        rw [Option.map_some, if_neg (show ¬ oAt o = oSt o from hne)]
        exact w1
    unfold whyA
    rw [if_neg (by rw [hm]; simp), if_pos (by omega)]
    unfold makesW
    rw [if_neg (by rw [k1]; omega), if_neg (by omega), if_neg (by omega), if_pos (Or.inl (by rw [g1]; rfl))]
  · have u : (untieG (madeA g o) (oAt o) o.name).1 = between g o := by
      rw [e]
      have := tie_untie hz
      rw [show untieG (tieG (nameB o.name) (between g o) ⟨oAt o, o.name, oSt o⟩).1 (oAt o) o.name = (between g o, oSt o, 0) from this]
    rw [u]
    have hr : ¬ oSt o = (0, 0) := fun q => h4 (congrArg Prod.fst q)
    have hlst : listE (between g o).E (oSt o) = [] := by
      rw [between_E]
      unfold listE
      rw [List.filter_eq_nil_iff]
      intro x hx
      obtain ⟨y, hy, hyi, _⟩ := h.ok.dirs x hx
      simp only [decide_eq_true_eq]
      exact fun r => kindG_zero h.ok hs y hy (hyi.trans r)
    have hd : (dropG (between g o) (oSt o)).2 = 0 := by
      unfold dropG
      rw [between_get h.ok hm hk hs hl, if_pos rfl]
      dsimp only
      rw [if_neg hr, if_neg (by rw [hlst]; simp)]
    refine (hbo.drop _).same h.ok (fun k => ?_) fun d nm => by rw [drop_ents, between_E]
    rw [drop_get hbo hd, between_get h.ok hm hk hs hl]
    by_cases q : k = oSt o
    · rw [if_pos q, q, getG_zero h.ok hs]
    · rw [if_neg q, if_neg q]

/-! ### Rename -/

theorem without_len {g : Gr} (h : g.ok) {d : St} {nm : ByteArray} {id : St} (hl : lookE g.E d nm = some id) : (without g.E d nm).length + 1 = g.E.length := by
  have h3 : ∀ l : List Ent, l.length = (l.filter (atB d nm)).length + (without l d nm).length := by
    intro l
    unfold without
    induction l with
    | nil => rfl
    | cons e l ih =>
      by_cases q : atB d nm e = true
      · have q' : (!(decide (e.dir = d) && decide (e.name = nm))) = false := by unfold atB at q; rw [q]; rfl
        rw [List.filter_cons_of_pos q, List.filter_cons_of_neg (by rw [q']; simp)]
        simp only [List.length_cons]
        omega
      · have q' : (!(decide (e.dir = d) && decide (e.name = nm))) = true := by unfold atB at q; rw [Bool.not_eq_true] at q; rw [q]; rfl
        rw [List.filter_cons_of_neg q, List.filter_cons_of_pos (p := fun e : Ent => !(decide (e.dir = d) && decide (e.name = nm))) q']
        simp only [List.length_cons]
        omega
  have h1 : g.E.filter (atB d nm) = [⟨d, nm, id⟩] := sorted_same (r := aheadE) aheadE_self (fun _ _ _ => aheadE_trans) (h.sortE.filter _) (List.pairwise_singleton _ _) fun e => by
    rw [List.mem_filter, List.mem_singleton, atB_iff]
    constructor
    · rintro ⟨q1, q2, q3⟩
      have := (look_iff h (d := e.dir) (nm := e.name) (id := e.ino)).2 q1
      rw [q2, q3, hl] at this
      have e3 := Option.some.inj this
      obtain ⟨a, b, c⟩ := e
      simp only at q2 q3 e3
      rw [q2, q3, ← e3]
    · intro q
      subst q
      exact ⟨(look_iff h).1 hl, rfl, rfl⟩
  have := h3 g.E
  rw [h1] at this
  simp only [List.length_singleton] at this
  omega

theorem tie_len {g : Gr} {b : Bool} {e : Ent} (h : (tieG b g e).2 = 0) : (tieG b g e).1.E.length = g.E.length + 1 := by
  have := (tie_ok_iff b g e).1 h
  unfold tieG
  rw [if_pos this]
  exact putIn_len _ _ _

theorem moves_all {g : Gr} (h : g.fine) {o : Opn} (hw : whyA g o = 0) (hk : o.k = 7) :
    getG (madeA g o) (oIno o) = getG g (oIno o) ∧ (getG g (oIno o)).isSome = true ∧ lookE (madeA g o).E (oTo o) o.new = some (oIno o) ∧
    (targetG g o = some (oIno o) → (lookE (madeA g o).E (oAt o) o.name).isSome = true ∧ (madeA g o).E.length = g.E.length) ∧
    (targetG g o ≠ some (oIno o) → lookE (madeA g o).E (oAt o) o.name = none ∧ ((targetG g o).isSome = true → (madeA g o).E.length + 1 = g.E.length) ∧ (targetG g o = none → (madeA g o).E.length = g.E.length)) := by
  have hm := whyA_may hw
  have hr := whyA_renames hw hk
  obtain ⟨w1, w2, w3⟩ := renamesW_zero hr
  have hmem : (⟨oAt o, o.name, oIno o⟩ : Ent) ∈ g.E := (look_iff h.ok).1 w1
  obtain ⟨X, hX, hXi'⟩ := h.ok.inos _ hmem
  have hXi : X.id = oIno o := hXi'
  have hget : getG g (oIno o) = some { X with links := (linksE g.E (oIno o) : Int) } := (get_iff h.ok).2 ⟨X, hX, hXi, rfl⟩
  have hsome : (getG g (oIno o)).isSome = true := by rw [hget]; rfl
  by_cases ht : targetG g o = some (oIno o)
  · have e : madeA g o = g := by unfold madeA; rw [if_neg (by omega), if_neg (by omega), if_neg (by omega), if_pos hk, if_pos ht]
    rw [e]
    exact ⟨rfl, hsome, ht, fun _ => ⟨by rw [w1]; rfl, rfl⟩, fun q => absurd ht q⟩
  · have e : madeA g o = (tieG (nameB o.new) (loosed g o) ⟨oTo o, o.new, oIno o⟩).1 := by unfold madeA; rw [if_neg (by omega), if_neg (by omega), if_neg (by omega), if_pos hk, if_neg ht]; rfl
    have hL := loosed_is h hm hk hr ht
    have hC := cleared_is h (rename_lists h.ok hr ht)
    have hz : (tieG (nameB o.new) (loosed g o) ⟨oTo o, o.new, oIno o⟩).2 = 0 := (tie_ok_iff _ _ _).2 hL.why
    have hlook : lookE (cleared g o).E (oAt o) o.name = some (oIno o) := by
      rw [look_iff hC.fine.ok, hC.ents, mem_without]
      exact ⟨hmem, hL.apart⟩
    have hXc := hC.stays X hX (by rw [hXi]; exact ht)
    have hlinks : linksE (cleared g o).E (oIno o) = linksE g.E (oIno o) := by
      rw [hC.ents]
      cases hq : targetG g o with
      | none =>
        unfold without
        rw [filter_all (look_none hq)]
      | some t =>
        rw [links_without h.ok hq, if_neg fun r => ht (by rw [hq, r])]
        omega
    have hcget : getG (cleared g o) (oIno o) = getG g (oIno o) := by
      rw [hget, get_iff hC.fine.ok]
      exact ⟨X, hXc, hXi, by rw [hlinks]⟩
    have hget' : getG (madeA g o) (oIno o) = getG g (oIno o) := by
      rw [e, tie_get hz]
      unfold loosed
      rw [untie_get hC.fine.ok hlook, hcget, hget]
      simp
    have hlen1 : (loosed g o).E.length + 1 = (cleared g o).E.length := by
      unfold loosed
      rw [untie_eq hlook]
      exact without_len hC.fine.ok hlook
    have hlen : (madeA g o).E.length = (cleared g o).E.length := by rw [e, tie_len hz]; exact hlen1
    refine ⟨hget', hsome, ?_, fun q => absurd q ht, fun _ => ⟨?_, fun q => ?_, fun q => ?_⟩⟩
    · rw [e, tie_lookE hL.ok hz, if_pos ⟨rfl, rfl⟩]
    · rw [e, tie_lookE hL.ok hz, if_neg hL.apart, hL.ents]
      exact look_without _ _ _
    · obtain ⟨t, hq⟩ := Option.isSome_iff_exists.1 q
      rw [hlen, hC.ents]
      exact without_len h.ok hq
    · rw [hlen, hC.ents]
      unfold without
      rw [filter_all (look_none q)]

/-! ### Write, Trunc, Setattr -/

/-- The mode and the data that an operation gives. -/
def setM (x : Ino) (o : Opn) : Int := if o.k = 10 then o.off else x.mode
def setD (x : Ino) (o : Opn) : ByteArray := if o.k = 8 then bytes (wL x.data.data.toList o.data.data.toList o.off.toNat) else if o.k = 9 then bytes (tL x.data.data.toList o.off.toNat) else x.data

theorem sets_is {g : Gr} {o : Opn} (hm : mayO o = true) (hk : 8 ≤ o.k) : madeA g o = (setG g (oIno o) (setM (inoG g (oIno o)) o) (setD (inoG g (oIno o)) o)).1 := by
  obtain ⟨_, h10, _⟩ := mayO_parts hm
  unfold madeA setM setD
  rw [if_neg (by omega), if_neg (by omega), if_neg (by omega), if_neg (by omega)]
  by_cases k8 : o.k = 8
  · rw [if_pos k8, if_neg (by omega), if_pos k8]
  rw [if_neg k8, if_neg k8]
  by_cases k9 : o.k = 9
  · rw [if_pos k9, if_neg (by omega), if_pos k9]
  rw [if_neg k9, if_pos (by omega), if_neg k9]

theorem sets_get {g : Gr} {o : Opn} (hm : mayO o = true) (hk : 8 ≤ o.k) (k : St) : getG (madeA g o) k = (getG g k).map fun x => if k = oIno o then { x with mode := setM x o, data := setD x o } else x := by
  rw [sets_is hm hk, set_get]
  cases hq : getG g k with
  | none => rfl
  | some x =>
    rw [Option.map_some, Option.map_some]
    by_cases q : k = oIno o
    · rw [if_pos q, if_pos q]
      unfold inoG
      rw [← q, hq]
      rfl
    · rw [if_neg q, if_neg q]

theorem sets_kind {g : Gr} {o : Opn} (hm : mayO o = true) (hk : 8 ≤ o.k) (k : St) : kindG (madeA g o) k = kindG g k := by
  unfold kindG
  rw [sets_get hm hk]
  cases getG g k with
  | none => rfl
  | some x =>
    rw [Option.map_some]
    by_cases q : k = oIno o
    · rw [if_pos q]; rfl
    · rw [if_neg q]

/-- Why can't data be set? Kinds alone tell. -/
theorem whyA_sets (g : Gr) {o : Opn} (hk : 8 ≤ o.k) : whyA g o = if mayO o = false then 1 else if kindG g (oIno o) = 0 then 3 else if (o.k = 8 ∨ o.k = 9) ∧ kindG g (oIno o) = 1 then 5 else if (o.k = 8 ∨ o.k = 9) ∧ kindG g (oIno o) = 3 then 8 else 0 := by
  unfold whyA
  by_cases c0 : mayO o = false
  · rw [if_pos c0, if_pos c0]
  rw [if_neg c0, if_neg c0, if_neg (by omega), if_neg (by omega)]
  by_cases c1 : kindG g (oIno o) = 0
  · rw [if_pos (Or.inr c1), if_pos c1]
  rw [if_neg (fun q => q.elim (fun q => by have := q.1; omega) c1), if_neg c1]
  by_cases c2 : (o.k = 8 ∨ o.k = 9) ∧ kindG g (oIno o) = 1
  · rw [if_pos ⟨Or.inr c2.1, c2.2⟩, if_pos c2]
  rw [if_neg (fun q => c2 ⟨q.1.elim (fun q => by omega) id, q.2⟩), if_neg c2, if_neg (fun q => by have := q.1; omega), if_neg (fun q => by have := q.1; omega)]

theorem sets_why {g g' : Gr} (h : ∀ k, kindG g' k = kindG g k) {o : Opn} (hk : 8 ≤ o.k) : whyA g' o = whyA g o := by
  rw [whyA_sets _ hk, whyA_sets _ hk, h]

theorem does_kind {g : Gr} {o : Opn} (hk : 8 ≤ o.k) (k : St) : kindG (doA g o).1 k = kindG g k := by
  unfold doA
  by_cases q : whyA g o = 0
  · rw [if_pos q]; exact sets_kind (whyA_may q) hk k
  · rw [if_neg q]

/-- Two operations on data of unlike inodes make the same in both orders. -/
theorem sets_apart {g : Gr} (h : g.fine) {o x : Opn} (ho : 8 ≤ o.k) (hx : 8 ≤ x.k) (hne : oIno o ≠ oIno x) :
    (doA g o).2 = (doA (doA g x).1 o).2 ∧ (doA (doA g o).1 x).2 = (doA g x).2 ∧ (doA (doA g o).1 x).1 = (doA (doA g x).1 o).1 := by
  have e1 := sets_why (o := o) (does_kind (g := g) hx) ho
  have e2 := sets_why (o := x) (does_kind (g := g) ho) hx
  have r : ∀ (γ : Gr) (p : Opn), (doA γ p).2 = whyA γ p := fun γ p => by unfold doA; split <;> simp_all
  rw [r, r, r, r, e1, e2]
  refine ⟨rfl, rfl, ?_⟩
  by_cases qo : whyA g o = 0
  · by_cases qx : whyA g x = 0
    · have a1 : (doA g o).1 = madeA g o := by unfold doA; rw [if_pos qo]
      have a2 : (doA g x).1 = madeA g x := by unfold doA; rw [if_pos qx]
      have a3 : (doA (doA g o).1 x).1 = madeA (madeA g o) x := by rw [a1] at e2 ⊢; unfold doA; rw [if_pos (e2.trans qx)]
      have a4 : (doA (doA g x).1 o).1 = madeA (madeA g x) o := by rw [a2] at e1 ⊢; unfold doA; rw [if_pos (e1.trans qo)]
      have f3 := ((h.does o).does x).ok
      have f4 := ((h.does x).does o).ok
      rw [a3] at f3 ⊢
      rw [a4] at f4 ⊢
      have mo := whyA_may qo
      have mx := whyA_may qx
      refine f3.same f4 (fun k => ?_) fun d nm => ?_
      · rw [sets_get mx hx, sets_get mo ho, sets_get mo ho, sets_get mx hx]
        cases getG g k with
        | none => rfl
        | some y =>
          simp only [Option.map_some]
          by_cases p : k = oIno o
          · have p' : ¬ k = oIno x := fun s => hne (p.symm.trans s)
            rw [if_pos p, if_neg p', if_neg p', if_pos p]
          · by_cases p' : k = oIno x
            · simp only [if_neg p, if_pos p']
            · simp only [if_neg p, if_neg p']
      · rw [sets_is mx hx, sets_is mo ho, sets_is mo ho, sets_is mx hx, set_ents, set_ents, set_ents, set_ents]
    · have a2 : (doA g x).1 = g := by unfold doA; rw [if_neg qx]
      have a3 : (doA (doA g o).1 x).1 = (doA g o).1 := by
        have : ¬ whyA (doA g o).1 x = 0 := by rw [e2]; exact qx
        unfold doA at this ⊢
        rw [if_neg this]
      rw [a3, a2]
  · have a1 : (doA g o).1 = g := by unfold doA; rw [if_neg qo]
    have a4 : (doA (doA g x).1 o).1 = (doA g x).1 := by
      have : ¬ whyA (doA g x).1 o = 0 := by rw [e1]; exact qo
      unfold doA at this ⊢
      rw [if_neg this]
    rw [a4, a1]

theorem set_read {x : Ino} {o : Opn} (hm : mayO o = true) (hk : o.k = 8) : rR (setD x o) o.off (o.data.size : Int) = o.data := by
  obtain ⟨_, _, _, _, _, _, _, h8⟩ := mayO_parts hm
  unfold dataB at h8
  rw [if_neg (by omega), if_pos hk] at h8
  simp only [Bool.and_eq_true, decide_eq_true_iff] at h8
  unfold rR setD
  rw [if_neg (by omega), if_pos hk]
  have e : (bytes (wL x.data.data.toList o.data.data.toList o.off.toNat)).data.toList = wL x.data.data.toList o.data.data.toList o.off.toNat := by unfold bytes; simp
  have e2 : ((o.data.size : Int)).toNat = o.data.data.toList.length := by rw [data_len]; simp
  rw [e, e2, read_wrote]

theorem set_size {x : Ino} {o : Opn} (hm : mayO o = true) (hk : o.k = 9) : ((setD x o).size : Int) = o.off := by
  obtain ⟨_, _, _, _, _, _, _, h8⟩ := mayO_parts hm
  unfold dataB at h8
  rw [if_neg (by omega), if_neg (by omega), if_pos hk] at h8
  simp only [Bool.and_eq_true, decide_eq_true_iff] at h8
  unfold setD
  rw [if_neg (by omega), if_pos hk, bytes_size, tL_len]
  omega

/-! ### Unlink, Rmdir -/

theorem gone_all {g : Gr} (h : g.fine) {o : Opn} (hw : whyA g o = 0) (hk : o.k = 5 ∨ o.k = 6) :
    listE g.E (oIno o) = [] ∧ lookE (madeA g o).E (oAt o) o.name = none ∧ (getG (madeA g o) (oIno o)).isSome = decide (1 < ((getG g (oIno o)).getD noIno).links) ∧
    (∀ y, getG (madeA g o) (oIno o) = some y → y.links = ((getG g (oIno o)).getD noIno).links - 1) ∧ (((getG g (oIno o)).getD noIno).kind = 1 ↔ o.k = 6) := by
  obtain ⟨r1, r2, r3, r4, _⟩ := whyA_rest hw (by omega) (by omega)
  have hl := r1 (by omega)
  have he : listE g.E (oIno o) = [] := by
    by_cases q : o.k = 6
    · exact (r4 q).2
    · exact h.ok.list_none (r3 (Or.inl (by omega)))
  have e : madeA g o = goneG g (oAt o) o.name := by unfold madeA; rw [if_neg (by omega), if_neg (by omega), if_pos (by omega)]
  have hf := h.gone hl he
  rw [e]
  rw [gone_eq h.ok hl he] at hf ⊢
  have hp := look_pos h.ok hl
  obtain ⟨X, hX, hXi'⟩ := h.ok.inos _ ((look_iff h.ok).1 hl)
  have hXi : X.id = oIno o := hXi'
  have hget : getG g (oIno o) = some { X with links := (linksE g.E (oIno o) : Int) } := (get_iff h.ok).2 ⟨X, hX, hXi, rfl⟩
  have hkind : kindG g (oIno o) = X.kind := by rw [← hXi, h.ok.kindG hX]
  have hlw := links_without h.ok hl (oIno o)
  rw [if_pos rfl] at hlw
  refine ⟨he, look_without _ _ _, ?_, ?_, ?_⟩
  · rw [hget]
    dsimp only [Option.getD_some]
    by_cases q : linksE g.E (oIno o) = 1
    · have : getG ⟨if linksE g.E (oIno o) = 1 then g.I.filter (fun x => !decide (x.id = oIno o)) else g.I, without g.E (oAt o) o.name⟩ (oIno o) = none := by
        rw [if_pos q]
        unfold getG
        rw [List.find?_eq_none.2]
        · rfl
        · intro x hx
          have := (List.mem_filter.1 hx).2
          simpa using this
      rw [this, q]
      rfl
    · have : getG ⟨if linksE g.E (oIno o) = 1 then g.I.filter (fun x => !decide (x.id = oIno o)) else g.I, without g.E (oAt o) o.name⟩ (oIno o) = some { X with links := (linksE (without g.E (oAt o) o.name) (oIno o) : Int) } := (get_iff hf.ok).2 ⟨X, by rw [if_neg q]; exact hX, hXi, rfl⟩
      rw [this]
      have : 1 < (linksE g.E (oIno o) : Int) := by omega
      simp [this]
  · intro y hy
    obtain ⟨x, hx, hxi, rfl⟩ := (get_iff hf.ok).1 hy
    rw [hget]
    dsimp only [Option.getD_some]
    omega
  · rw [hget]
    show X.kind = 1 ↔ o.k = 6
    rw [← hkind]
    constructor
    · intro q
      exact Classical.byContradiction fun s => r3 (Or.inl (by omega)) q
    · exact fun q => (r4 q).1

end Go.Proofs.YtbkijfhfjhpebaaGreatDoor.GraphMath

/-
  A slice of operations that is only read. It needs no program's function.
-/
namespace Go.Proofs.YtbkijfhfjhpebaaGreatDoor
open Go.RowKit StampMath GraphMath OpMath PackMath

/-- An operation as an argument. -/
structure OpFit (o : Opn) : Prop where
  ok : Ok64 o
  name : o.name.size ≤ maxLen
  new : o.new.size ≤ maxLen
  data : o.data.size ≤ maxLen

/-- The slice reads as operations, and lies below block B. -/
def OpsIn (W : World) (B : Nat) (A : Option Addr) (n : Nat) (l : List Opn) : Prop := TabIn 13 W B A n (l.map opA)

theorem OpsIn.len {W : World} {B : Nat} {A : Option Addr} {n : Nat} {l : List Opn} (h : OpsIn W B A n l) : l.length = n := by have := h.1; rwa [List.length_map] at this

/-- An operation's cells at ⟨g, p⟩. -/
def OpAt (W : World) (g p : Nat) (o : Opn) : Prop :=
  W.cell? ⟨g, p, none⟩ = some (.int .i64 o.st) ∧ W.cell? ⟨g, p + 1, none⟩ = some (.int .i64 o.sr) ∧ W.cell? ⟨g, p + 2, none⟩ = some (.int .i64 o.k) ∧ W.cell? ⟨g, p + 3, none⟩ = some (.int .i64 o.pt) ∧ W.cell? ⟨g, p + 4, none⟩ = some (.int .i64 o.pr) ∧
  W.cell? ⟨g, p + 5, none⟩ = some (.int .i64 o.it) ∧ W.cell? ⟨g, p + 6, none⟩ = some (.int .i64 o.ir) ∧ W.cell? ⟨g, p + 7, none⟩ = some (.int .i64 o.tt) ∧ W.cell? ⟨g, p + 8, none⟩ = some (.int .i64 o.tr) ∧
  W.cell? ⟨g, p + 9, none⟩ = some (.string o.name) ∧ W.cell? ⟨g, p + 10, none⟩ = some (.string o.new) ∧ W.cell? ⟨g, p + 11, none⟩ = some (.int .i64 o.off) ∧ W.cell? ⟨g, p + 12, none⟩ = some (.string o.data)

theorem OpsIn.row {W : World} {B : Nat} {A : Option Addr} {n : Nat} {l : List Opn} (h : OpsIn W B A n l) (hn : 0 < n) : ∃ g o, A = some ⟨g, o, none⟩ ∧ g < B ∧ ∀ k (hk : k < l.length), OpAt W g (o + k * 13) l[k] := by
  obtain ⟨g, o, e, hg, hc⟩ := h.2 hn
  refine ⟨g, o, e, hg, fun k hk => ?_⟩
  have hk' : k < (l.map opA).length := by simpa using hk
  have he : (l.map opA)[k] = opA l[k] := by simp
  exact ⟨hc k hk' 0 _ (by rw [he]; rfl), hc k hk' 1 _ (by rw [he]; rfl), hc k hk' 2 _ (by rw [he]; rfl), hc k hk' 3 _ (by rw [he]; rfl), hc k hk' 4 _ (by rw [he]; rfl), hc k hk' 5 _ (by rw [he]; rfl), hc k hk' 6 _ (by rw [he]; rfl), hc k hk' 7 _ (by rw [he]; rfl), hc k hk' 8 _ (by rw [he]; rfl), hc k hk' 9 _ (by rw [he]; rfl), hc k hk' 10 _ (by rw [he]; rfl), hc k hk' 11 _ (by rw [he]; rfl), hc k hk' 12 _ (by rw [he]; rfl)⟩

theorem OpAt.below {W W' : World} {B g p : Nat} {o : Opn} (h : OpAt W g p o) (hb : Below B W W') (hg : g < B) : OpAt W' g p o := by
  obtain ⟨h0, h1, h2, h3, h4, h5, h6, h7, h8, h9, h10, h11, h12⟩ := h
  have c : ∀ (i : Nat) (v : Value), W.cell? ⟨g, i, none⟩ = some v → W'.cell? ⟨g, i, none⟩ = some v := fun i v q => (hb.cell (p := ⟨g, i, none⟩) hg).trans q
  exact ⟨c _ _ h0, c _ _ h1, c _ _ h2, c _ _ h3, c _ _ h4, c _ _ h5, c _ _ h6, c _ _ h7, c _ _ h8, c _ _ h9, c _ _ h10, c _ _ h11, c _ _ h12⟩

end Go.Proofs.YtbkijfhfjhpebaaGreatDoor

/-
  Inodes and entries that a call of audit is given.
-/
namespace Go.Proofs.YtbkijfhfjhpebaaGreatDoor
open Go.RowKit StampMath GraphMath OpMath

/-- Inodes and entries that are given. -/
structure Given (w : World) (A : Option Addr) (n : Nat) (N : List Ino) (A' : Option Addr) (m : Nat) (E : List Ent) : Prop where
  inos : InosIn w w.heap.size A n N
  ents : EntsIn w w.heap.size A' m E
  fewI : n ≤ 1000
  fewE : m ≤ 1000
  datas : ∀ x ∈ N, x.data.size ≤ maxLen
  names : ∀ e ∈ E, e.name.size ≤ maxLen

theorem Given.below {w W : World} {A : Option Addr} {n : Nat} {N : List Ino} {A' : Option Addr} {m : Nat} {E : List Ent} (h : Given w A n N A' m E) (hb : Below w.heap.size w W) : Given W A n N A' m E :=
  ⟨(h.inos.below hb).more hb.size, (h.ents.below hb).more hb.size, h.fewI, h.fewE, h.datas, h.names⟩

end Go.Proofs.YtbkijfhfjhpebaaGreatDoor

/-
  A region that draws its order, whose own operations only read, and whose callees may make memory but turn nothing that is there: one walk, in the text's order. It needs no program.
-/
namespace Go.Proofs.YtbkijfhfjhpebaaGreatDoor
open Go.RowKit

open Classical in
/-- A world in which all that was there in w reads as before: x, if it is one. -/
noncomputable def later (w x : World) : World := if Below w.heap.size w x then x else w

theorem later_below (w x : World) : Below w.heap.size w (later w x) := by
  unfold later
  split
  · assumption
  · exact Below.refl _ _

theorem later_of {w x : World} (h : Below w.heap.size w x) : later w x = x := by
  unfold later
  rw [if_pos h]

theorem later_cell {w : World} {a : Addr} {v : Value} (h : w.cell? a = some v) (x : World) : (later w x).cell? a = some v := cell_later (later_below w x) h

/-- The walk of the lexical order serves every order. -/
theorem wp_region_later {P : Program} {id : Nat} {Q : Exit → Act → World → Prop} {a : Act} {w : World} {l : List Oper} (hm : P.follows .mixedOrders = true) (hB : Region.lexB .any l.toArray = true)
    (h : wpQuiet P l.toArray (fun w' => ∃ x, w' = later w x) (fun a' => ∀ w', (∃ x, w' = later w x) → Q .normal a' w') l a) : (Code.region id l.toArray true).wp P Q a w :=
  wp_region_quiet (C := fun w' => ∃ x, w' = later w x) hm hB ⟨w.drew, (later_of (Below.refl _ _).drew).symm⟩ (by simpa using h)

/-- A callee's contract, met in such a world. -/
theorem later_call {P : Program} {f : FuncId} {args : Array Value} {w x : World} {v : Value} (h : Calls P f args (later w x) fun e w' => e = .returned v ∧ Below (later w x).heap.size (later w x) w') :
    Calls P f args (later w x) fun e w'' => e = .returned v ∧ ∃ y, w'' = later w y :=
  h.mono fun _ w' ⟨he, hb⟩ => ⟨he, w', (later_of (below_step (later_below w x) hb)).symm⟩

end Go.Proofs.YtbkijfhfjhpebaaGreatDoor

/-
  Blocks that lie in memory while calls go by: a list of them, and that nothing older has turned. It needs no program.
-/
namespace Go.Proofs.YtbkijfhfjhpebaaGreatDoor
open Go.RowKit

/-- These blocks lie there, and below w's end all is as it was in w. -/
def Held (w : World) (L : List (Nat × Obj)) (W : World) : Prop := (∀ p ∈ L, W.heap[p.1]? = some p.2) ∧ Below w.heap.size w W

theorem Held.refl (w : World) : Held w [] w := ⟨fun _ h => (by cases h), Below.refl _ _⟩

theorem Held.below {w W : World} {L : List (Nat × Obj)} (h : Held w L W) : Below w.heap.size w W := h.2

theorem Held.step {w W W' : World} {L : List (Nat × Obj)} (h : Held w L W) (hb : Below W.heap.size W W') : Held w L W' :=
  ⟨fun p hp => (hb.block _ (heap_lt (h.1 p hp))).trans (h.1 p hp), below_step h.2 hb⟩

theorem Held.alloc {w W : World} {L : List (Nat × Obj)} (h : Held w L W) (o : Obj) {g : Nat} (hg : W.heap.size = g) : Held w ((g, o) :: L) (W.alloc o) := by
  refine ⟨fun p hp => ?_, h.2.alloc h.2.size o⟩
  rcases List.mem_cons.1 hp with rfl | hp
  · subst hg; exact heap_alloc_new W o
  · rw [heap_alloc_old _ _ (heap_lt (h.1 p hp))]; exact h.1 p hp

theorem Held.drewN {w W : World} {L : List (Nat × Obj)} (h : Held w L W) (n : Nat) : Held w L (W.drewN n) := ⟨h.1, below_drewN' h.2 n⟩

theorem Held.drew {w W : World} {L : List (Nat × Obj)} (h : Held w L W) : Held w L W.drew := ⟨h.1, h.2.drew⟩

theorem Held.head {w W : World} {L : List (Nat × Obj)} {p : Nat × Obj} (h : Held w (p :: L) W) : W.heap[p.1]? = some p.2 := h.1 p (List.mem_cons_self ..)

theorem Held.tail {w W : World} {L : List (Nat × Obj)} {p : Nat × Obj} (h : Held w (p :: L) W) : Held w L W := ⟨fun q hq => h.1 q (List.mem_cons_of_mem _ hq), h.2⟩

theorem Held.at {w W : World} {L : List (Nat × Obj)} (h : Held w L W) (i : Nat) {p : Nat × Obj} (hp : L[i]? = some p) : W.heap[p.1]? = some p.2 := h.1 p (List.mem_of_getElem? hp)

/-- Behind a store into another block, which was made since. -/
theorem Held.set {w W : World} {L : List (Nat × Obj)} (h : Held w L W) {b : Nat} (hL : ∀ p ∈ L, p.1 < b) (hw : w.heap.size ≤ b) (i : Nat) (v : Value) : Held w L (W.setCell ⟨b, i, none⟩ v) :=
  ⟨fun p hp => (heap_setCell_other _ _ _ _ (by have := hL p hp; dsimp only; omega)).trans (h.1 p hp), h.2.setCell hw v⟩

/-- Behind a step that turns one block at most, which lies at or beyond B, where all that is held lies below. -/
theorem Held.grown {w W W' : World} {L : List (Nat × Obj)} {row : Option Nat} {B : Nat} (h : Held w L W) (hg : W.grownBy W' row) (hB : ∀ q, row = some q → B ≤ q) (hL : ∀ p ∈ L, p.1 < B) (hw : w.heap.size ≤ B := by simp) : Held w L W' :=
  ⟨fun p hp => (hg.block p.1 (heap_lt (h.1 p hp)) fun e => by have h1 := hB _ e.symm; have h2 := hL p hp; omega).trans (h.1 p hp), h.2.grown hg h.2.size fun q hq => Nat.le_trans hw (hB q hq)⟩

end Go.Proofs.YtbkijfhfjhpebaaGreatDoor

/-
  The package's table of fields, as it lies in memory: worlds in which it does, and that what is below a world's end stays.
-/
namespace Go.Proofs.YtbkijfhfjhpebaaGreatDoor
open Go.RowKit

/-- The numbers of the table. -/
def tabL : List Int := [0, 9, 9, 73, 11, 11, 11, 31, 98, 34, 34]

/-- The table lies in this world. -/
class Tab (W : World) : Prop where
  cells : Hid (∀ (i : Nat) (x : Int), tabL[i]? = some x → W.cell? ⟨1, i, none⟩ = some (.int .i64 x))

theorem Tab.at {W : World} (T : Tab W) (i : Nat) {x : Int} (h : tabL[i]? = some x) : W.cell? ⟨1, i, none⟩ = some (.int .i64 x) := T.cells.out i x h

theorem tab_below {B : Nat} {W W' : World} (T : Tab W) (hB : W.heap.size ≤ B) (h : Below B W W') : Tab W' :=
  ⟨Lib.hid fun i _ hx => (h.cell (p := ⟨1, i, none⟩) (Nat.lt_of_lt_of_le (World.block_lt_of_cell? _ _ (T.at i hx)) hB)).trans (T.at i hx)⟩

theorem tab_step {W W' : World} [T : Tab W] (h : Below W.heap.size W W') : Tab W' := tab_below T (Nat.le_refl _) h

theorem tab_held {w W : World} {L : List (Nat × Obj)} [T : Tab w] (h : Held w L W) : Tab W := tab_step h.below

theorem tab_kept {w W : World} [T : Tab w] (h : KeptFrom w W) : Tab W := tab_step (kept_below h)

instance tabAlloc {W : World} [T : Tab W] (o : Obj) : Tab (W.alloc o) := tab_step ((Below.refl _ W).alloc (Nat.le_refl _) o)

instance tabDrew {W : World} [T : Tab W] : Tab W.drew := tab_step ((Below.refl _ W).drew)

instance tabDrewN {W : World} [T : Tab W] (n : Nat) : Tab (W.drewN n) := tab_step (below_drewN' (Below.refl _ W) n)

instance tabLater {w : World} [T : Tab w] (x : World) : Tab (later w x) := tab_step (later_below w x)

end Go.Proofs.YtbkijfhfjhpebaaGreatDoor

/-
  What the statements of layer 11 need of the package's own calls, and of audit, op and extent, beside those of graphs; an operation done to a graph that lies beside blocks set apart.
-/
namespace Go.Proofs.YtbkijfhfjhpebaaGreatDoor
open Go.RowKit StampMath GraphMath OpMath PackMath ExtentMath

structure ApplyHave (H : GraphHave) : Prop where
  why : ∀ (a : Addr) (S : Nat → Prop) (g : Gr) (o : Opn) (w : World) [Tab w], H.rep w S a g → g.fine → OpFit o → Calls Tryz.prog 63 #[.pointer (some a), .agg (opA o)] w fun e w' => e = .returned (.int .i64 (whyA g o)) ∧ Below w.heap.size w w'
  does : ∀ (a : Addr) (S : Nat → Prop) (g : Gr) (o : Opn) (w : World) [Tab w], H.rep w S a g → ¬ S 1 → g.fine → OpFit o → Calls Tryz.prog 39 #[.pointer (some a), .agg (opA o)] w fun e w' => ∃ S', e = .returned (.int .i64 (doA g o).2) ∧ H.rep w' S' a (doA g o).1 ∧ (∀ i, S' i → S i ∨ w.heap.size ≤ i) ∧ But S w w'
  nilDo : ∀ (o : Opn) (w : World) [Tab w], OpFit o → Calls Tryz.prog 39 #[.pointer none, .agg (opA o)] w fun e w' => e = .returned (.int .i64 1) ∧ Below w.heap.size w w'
  may : ∀ (o : Opn) (w : World) [Tab w], OpFit o → Calls Tryz.prog 58 #[.agg (opA o)] w fun e w' => e = .returned (.bool (mayO o)) ∧ Below w.heap.size w w'
  makes : ∀ (o : Opn) (w : World) [Tab w], OpFit o → Calls Tryz.prog 125 #[.agg (opA o)] w fun e w' => e = .returned (.int .i64 (makesO o)) ∧ Below w.heap.size w w'

theorem Tab.lt {w : World} (T : Tab w) : 1 < w.heap.size := World.block_lt_of_cell? _ _ (T.at 0 (x := 0) rfl)

theorem GX.tab {H : GraphHave} {w W : World} {N : Nat → Prop} {a : Addr} {g : Gr} (h : GX H w W N a g) (T : Tab w) : Tab W := tab_below T (Nat.le_refl _) h.below

/-- A graph that is fine, made since w, outside the blocks N, which are there. -/
structure FX (H : GraphHave) (w W : World) (N : Nat → Prop) (a : Addr) (g : Gr) : Prop where
  gx : GX H w W N a g
  fine : g.fine

theorem FX.step {H : GraphHave} {w W W' : World} {N : Nat → Prop} {a : Addr} {g : Gr} (h : FX H w W N a g) (hb : Below W.heap.size W W') : FX H w W' N a g := ⟨h.gx.step hb, h.fine⟩

theorem FX.below {H : GraphHave} {w W : World} {N : Nat → Prop} {a : Addr} {g : Gr} (h : FX H w W N a g) : Below w.heap.size w W := h.gx.below

theorem FX.why {H : GraphHave} (P : ApplyHave H) {w W : World} {N : Nat → Prop} {a : Addr} {g : Gr} (h : FX H w W N a g) (T : Tab w) (o : Opn) (ho : OpFit o) :
    Calls Tryz.prog 63 #[.pointer (some a), .agg (opA o)] W fun e w' => e = .returned (.int .i64 (whyA g o)) ∧ FX H w w' N a g ∧ Below W.heap.size W w' := by
  have := h.gx.tab T
  obtain ⟨S, h1, _⟩ := h.gx.at'
  refine (P.why a S g o W h1 h.fine ho).mono ?_
  rintro e w' ⟨he, hb⟩
  exact ⟨he, h.step hb, hb⟩

theorem FX.does {H : GraphHave} (P : ApplyHave H) {w W : World} {N : Nat → Prop} {a : Addr} {g : Gr} (h : FX H w W N a g) (T : Tab w) (o : Opn) (ho : OpFit o) :
    Calls Tryz.prog 39 #[.pointer (some a), .agg (opA o)] W fun e w' => e = .returned (.int .i64 (doA g o).2) ∧ FX H w w' N a (doA g o).1 ∧ Same N W w' := by
  have := h.gx.tab T
  have hf := h.fine
  obtain ⟨⟨⟨S, h1, h2, h3⟩, h4, h5, h6⟩, _⟩ := h
  refine (P.does a S g o W h1 (fun q => by have := h2 _ q; have := T.lt; omega) hf ho).mono ?_
  rintro e w' ⟨S', he, k1, k2, k3⟩
  have r := GX.mut h2 h3 h5 h6 k1 k2 k3 (hf.does o).ok
  exact ⟨he, ⟨r.1, hf.does o⟩, r.2⟩

end Go.Proofs.YtbkijfhfjhpebaaGreatDoor

/-
  The graph behind a list of operations. It needs no program.
-/
namespace Go.Proofs.YtbkijfhfjhpebaaGreatDoor
open StampMath GraphMath OpMath

/-- The graph behind operations, from a graph on, and from the root alone. -/
def runG (g : Gr) (l : List Opn) : Gr := l.foldl (fun g o => (doA g o).1) g
def runA (l : List Opn) : Gr := runG newG l

theorem runG_next (g : Gr) {l : List Opn} {k : Nat} (h : k < l.length) : runG g (l.take (k + 1)) = (doA (runG g (l.take k)) l[k]).1 := by
  unfold runG
  rw [List.take_succ_eq_append_getElem h, List.foldl_append]
  rfl

theorem runA_next {l : List Opn} {k : Nat} (h : k < l.length) : runA (l.take (k + 1)) = (doA (runA (l.take k)) l[k]).1 := runG_next newG h

theorem runG_fine {g : Gr} (h : g.fine) : ∀ l : List Opn, (runG g l).fine
  | [] => h
  | o :: l => runG_fine (h.does o) l

theorem runA_fine (l : List Opn) : (runA l).fine := runG_fine new_fine l

end Go.Proofs.YtbkijfhfjhpebaaGreatDoor

/-
  Plain mathematics of layer 13: operations sorted by their stamps, with one more, how many aren't above a stamp; whoever has the same ones has the same list. It needs no program.
-/
namespace Go.Proofs.YtbkijfhfjhpebaaGreatDoor.GraphMath
open StampMath OpMath ExtentMath

/-- Is an operation ahead of a stamp? -/
def beforeO (s : St) (a : Opn) : Bool := lessS (oSt a) s

/-- The stamps rise. -/
def Rises (x : List Opn) : Prop := x.Pairwise fun a b => lessS (oSt a) (oSt b) = true

/-- Has one of them a stamp? -/
def hasO (x : List Opn) (s : St) : Bool := x.any fun b => decide (oSt b = s)

def placeO (x : List Opn) (s : St) : Nat := (x.takeWhile (beforeO s)).length

/-- fold.Put. -/
def putO (x : List Opn) (o : Opn) : List Opn × Nat × Bool :=
  if mayO o = false then (x, 0, false)
  else if hasO x (oSt o) = true then (x, placeO x (oSt o), false)
  else (putIn (beforeO (oSt o)) x o, placeO x (oSt o), true)

def putsO (x l : List Opn) : List Opn := l.foldl (fun x o => (putO x o).1) x

/-- fold.Sort. -/
def sortO (l : List Opn) : List Opn := putsO [] l

/-- fold.Below. -/
def belowO (x : List Opn) (s : St) : Nat := (x.takeWhile fun a => !lessS s (oSt a)).length

theorem hasO_iff {x : List Opn} {s : St} : hasO x s = true ↔ ∃ b ∈ x, oSt b = s := by
  unfold hasO
  rw [List.any_eq_true]
  simp only [decide_eq_true_iff]

theorem Rises.one {x : List Opn} (h : Rises x) {a b : Opn} (ha : a ∈ x) (hb : b ∈ x) (e : oSt a = oSt b) : a = b := by
  obtain ⟨i, hi, rfl⟩ := List.getElem_of_mem ha
  obtain ⟨j, hj, rfl⟩ := List.getElem_of_mem hb
  rcases Nat.lt_trichotomy i j with q | q | q
  · have := List.pairwise_iff_getElem.1 h i j hi hj q
    rw [e, lessS_irrefl] at this
    cases this
  · subst q; rfl
  · have := List.pairwise_iff_getElem.1 h j i hj hi q
    rw [e, lessS_irrefl] at this
    cases this

theorem put_mem {x : List Opn} {o a : Opn} : a ∈ (putO x o).1 ↔ a ∈ x ∨ (a = o ∧ mayO o = true ∧ hasO x (oSt o) = false) := by
  unfold putO
  by_cases hm : mayO o = false
  · rw [if_pos hm, hm]; simp
  rw [if_neg hm]
  have hm' : mayO o = true := by cases h : mayO o <;> simp_all
  by_cases hh : hasO x (oSt o) = true
  · rw [if_pos hh, hh]; simp
  rw [if_neg hh]
  have hh' : hasO x (oSt o) = false := by cases h : hasO x (oSt o) <;> simp_all
  rw [hm', hh']
  show a ∈ putIn _ x o ↔ _
  rw [putIn_mem]
  constructor
  · rintro (q | q)
    · exact Or.inr ⟨q, rfl, rfl⟩
    · exact Or.inl q
  · rintro (q | ⟨q, _⟩)
    · exact Or.inr q
    · exact Or.inl q

theorem put_rises {x : List Opn} (h : Rises x) (o : Opn) : Rises (putO x o).1 := by
  unfold putO
  by_cases hm : mayO o = false
  · rw [if_pos hm]; exact h
  rw [if_neg hm]
  by_cases hh : hasO x (oSt o) = true
  · rw [if_pos hh]; exact h
  rw [if_neg hh]
  refine putIn_sorted (r := fun a b : Opn => lessS (oSt a) (oSt b)) (fun p q => lessS_trans p q) (fun a ha q => lessS_total q fun e => hh (hasO_iff.2 ⟨a, ha, e⟩)) h

theorem put_may {x : List Opn} (h : ∀ a ∈ x, mayO a = true) (o : Opn) : ∀ a ∈ (putO x o).1, mayO a = true := by
  intro a ha
  rcases put_mem.1 ha with q | ⟨rfl, q, _⟩
  · exact h a q
  · exact q

theorem puts_snoc (x : List Opn) {l : List Opn} {k : Nat} (h : k < l.length) : putsO x (l.take (k + 1)) = (putO (putsO x (l.take k)) l[k]).1 := by
  unfold putsO
  rw [List.take_succ_eq_append_getElem h, List.foldl_append]
  rfl

theorem puts_rises : ∀ (l : List Opn) {x : List Opn}, Rises x → Rises (putsO x l)
  | [], _, h => h
  | o :: l, _, h => puts_rises l (put_rises h o)

theorem puts_may : ∀ (l : List Opn) {x : List Opn}, (∀ a ∈ x, mayO a = true) → ∀ a ∈ putsO x l, mayO a = true
  | [], _, h => h
  | o :: l, _, h => puts_may l (put_may h o)

theorem puts_sub : ∀ (l : List Opn) {x : List Opn}, ∀ a ∈ putsO x l, a ∈ x ∨ a ∈ l
  | [], _, _, h => Or.inl h
  | o :: l, x, a, h => by
    rcases puts_sub l a h with q | q
    · rcases put_mem.1 q with r | ⟨rfl, _⟩
      · exact Or.inl r
      · exact Or.inr (List.mem_cons_self ..)
    · exact Or.inr (List.mem_cons_of_mem _ q)

theorem put_len (x : List Opn) (o : Opn) : (putO x o).1.length ≤ x.length + 1 := by
  unfold putO
  split
  · exact Nat.le_succ _
  · split
    · exact Nat.le_succ _
    · exact Nat.le_of_eq (putIn_len _ _ _)

theorem puts_len : ∀ (l x : List Opn), (putsO x l).length ≤ x.length + l.length
  | [], _ => Nat.le_refl _
  | o :: l, x => by
    have h1 := puts_len l (putO x o).1
    have h2 := put_len x o
    show (putsO (putO x o).1 l).length ≤ _
    rw [List.length_cons]
    omega

theorem sort_rises (l : List Opn) : Rises (sortO l) := puts_rises l List.Pairwise.nil
theorem sort_may (l : List Opn) : ∀ a ∈ sortO l, mayO a = true := puts_may l fun _ h => nomatch h
theorem sort_sub {l : List Opn} : ∀ a ∈ sortO l, a ∈ l := fun a h => (puts_sub l a h).resolve_left fun q => nomatch q
theorem sort_len (l : List Opn) : (sortO l).length ≤ l.length := by have := puts_len l []; simpa [sortO] using this

/-- Where a stamp tells which it is, all that may be are there. -/
theorem puts_all : ∀ (l : List Opn) {x : List Opn}, (∀ a, a ∈ x ∨ a ∈ l → ∀ b, b ∈ x ∨ b ∈ l → oSt a = oSt b → a = b) → ∀ a, a ∈ putsO x l ↔ a ∈ x ∨ (a ∈ l ∧ mayO a = true)
  | [], x, _, a => ⟨Or.inl, fun q => q.elim id fun q => nomatch q.1⟩
  | o :: l, x, h, a => by
    have hx : ∀ a, a ∈ (putO x o).1 → a ∈ x ∨ a ∈ o :: l := fun a ha => (put_mem.1 ha).elim Or.inl fun q => Or.inr (by rw [q.1]; exact List.mem_cons_self ..)
    show a ∈ putsO (putO x o).1 l ↔ _
    rw [puts_all l (fun a ha b hb => h a (ha.elim (hx a) fun q => Or.inr (List.mem_cons_of_mem _ q)) b (hb.elim (hx b) fun q => Or.inr (List.mem_cons_of_mem _ q))) a, put_mem]
    constructor
    · rintro ((q | ⟨rfl, q, _⟩) | ⟨q1, q2⟩)
      · exact Or.inl q
      · exact Or.inr ⟨List.mem_cons_self .., q⟩
      · exact Or.inr ⟨List.mem_cons_of_mem _ q1, q2⟩
    · rintro (q | ⟨q1, q2⟩)
      · exact Or.inl (Or.inl q)
      · rcases List.mem_cons.1 q1 with rfl | q1
        · cases hh : hasO x (oSt a) with
          | false => exact Or.inl (Or.inr ⟨rfl, q2, rfl⟩)
          | true =>
            obtain ⟨b, hb, e⟩ := hasO_iff.1 hh
            have := h b (Or.inl hb) a (Or.inr (List.mem_cons_self ..)) e
            subst this
            exact Or.inl (Or.inl hb)
        · exact Or.inr ⟨q1, q2⟩

theorem rises_same {x y : List Opn} (hx : Rises x) (hy : Rises y) (h : ∀ a, a ∈ x ↔ a ∈ y) : x = y :=
  sorted_same (r := fun a b : Opn => lessS (oSt a) (oSt b)) (fun _ => lessS_irrefl _) (fun _ _ _ => lessS_trans) hx hy h

theorem nil_or {p : Opn} {l : List Opn} (h : p ∈ [] ∨ p ∈ l) : p ∈ l := h.resolve_left List.not_mem_nil

/-- THE THEOREM's: the same operations make the same list. -/
theorem sort_converges {a b : List Opn} (h1 : ∀ x ∈ a, ∀ y ∈ a, oSt x = oSt y → x = y) (h : ∀ x, x ∈ b ↔ x ∈ a) : sortO b = sortO a := by
  refine rises_same (sort_rises b) (sort_rises a) fun x => ?_
  unfold sortO
  rw [puts_all b (fun p hp q hq => h1 p ((h p).1 (nil_or hp)) q ((h q).1 (nil_or hq))),
    puts_all a (fun p hp q hq => h1 p (nil_or hp) q (nil_or hq))]
  exact or_congr_right (and_congr_left fun _ => h x)

/-- What is sorted is sorted as it is. -/
theorem sort_self {x : List Opn} (h : Rises x) (hm : ∀ a ∈ x, mayO a = true) : sortO x = x := by
  refine rises_same (sort_rises x) h fun a => ?_
  unfold sortO
  rw [puts_all x fun p hp q hq => h.one (nil_or hp) (nil_or hq)]
  constructor
  · rintro (q | q)
    · exact nomatch q
    · exact q.1
  · exact fun q => Or.inr ⟨q, hm a q⟩

theorem sort_twice (l : List Opn) : sortO (sortO l) = sortO l := sort_self (sort_rises l) (sort_may l)

theorem sort_part {l y : List Opn} (h : y.Sublist (sortO l)) : sortO y = y := sort_self (List.Pairwise.sublist h (sort_rises l)) fun a ha => sort_may l a (h.subset ha)

/-! ### places -/

theorem run_append (g : Gr) (x y : List Opn) : runG g (x ++ y) = runG (runG g x) y := by
  unfold runG
  rw [List.foldl_append]

theorem take_len {α : Type} (f : α → Bool) (x : List α) : x.take (x.takeWhile f).length = x.takeWhile f := by
  have h := List.takeWhile_prefix f (l := x)
  exact (List.prefix_iff_eq_take.1 h).symm

theorem drop_len {α : Type} (f : α → Bool) (x : List α) : x.drop (x.takeWhile f).length = x.dropWhile f := by
  have h := List.takeWhile_append_dropWhile (p := f) (l := x)
  have h2 := congrArg (List.drop (x.takeWhile f).length) h
  rw [List.drop_left] at h2
  exact h2.symm

theorem place_le (x : List Opn) (s : St) : placeO x s ≤ x.length := (List.takeWhile_prefix _).length_le
theorem below_le (x : List Opn) (s : St) : belowO x s ≤ x.length := (List.takeWhile_prefix _).length_le

/-- Where the prefix ends: all ahead of it is so, and the next one isn't. -/
theorem while_at {α : Type} (f : α → Bool) (x : List α) : (∀ i (h : i < x.length), i < (x.takeWhile f).length → f x[i] = true) ∧ (∀ h : (x.takeWhile f).length < x.length, f x[(x.takeWhile f).length] = false) := by
  constructor
  · intro i h hi
    have hp := List.takeWhile_prefix f (l := x)
    have e : (x.takeWhile f)[i] = x[i] := hp.getElem hi
    rw [← e]
    exact all_take (List.getElem_mem hi)
  · intro h
    have e := drop_len f x
    have h0 := List.head?_dropWhile_not f x
    rw [← e] at h0
    rw [List.head?_drop, List.getElem?_eq_getElem h] at h0
    simpa using h0

theorem while_is {α : Type} {f : α → Bool} {x : List α} {k : Nat} (hk : k ≤ x.length) (h1 : ∀ i (h : i < x.length), i < k → f x[i] = true) (h2 : ∀ h : k < x.length, f x[k] = false) : (x.takeWhile f).length = k := by
  obtain ⟨w1, w2⟩ := while_at f x
  have hl := (List.takeWhile_prefix f (l := x)).length_le
  rcases Nat.lt_trichotomy (x.takeWhile f).length k with q | q | q
  · have hx : (x.takeWhile f).length < x.length := by omega
    have := w2 hx
    rw [h1 _ hx q] at this
    cases this
  · exact q
  · have hx : k < x.length := by omega
    have := w1 k hx q
    rw [h2 hx] at this
    cases this

/-- Of operations that rise: the one with a stamp stands at its place. -/
theorem place_has {x : List Opn} (h : Rises x) {s : St} : hasO x s = true ↔ ∃ hp : placeO x s < x.length, oSt (x[placeO x s]) = s := by
  rw [hasO_iff]
  constructor
  · rintro ⟨b, hb, rfl⟩
    obtain ⟨i, hi, rfl⟩ := List.getElem_of_mem hb
    have : placeO x (oSt x[i]) = i := while_is (Nat.le_of_lt hi) (fun j hj hji => List.pairwise_iff_getElem.1 h j i hj hi hji) (fun _ => lessS_irrefl _)
    exact ⟨by rw [this]; exact hi, by congr 2⟩
  · rintro ⟨hp, e⟩
    exact ⟨_, List.getElem_mem hp, e⟩

theorem putIn_place {x : List Opn} {o : Opn} : putIn (beforeO (oSt o)) x o = x.take (placeO x (oSt o)) ++ o :: x.drop (placeO x (oSt o)) := by
  unfold putIn placeO
  rw [take_len, drop_len]

/-- One above all is put last. -/
theorem put_last {x : List Opn} {o : Opn} (hp : (putO x o).2.1 = x.length) (hi : (putO x o).2.2 = true) : (putO x o).1 = x ++ [o] ∧ mayO o = true := by
  unfold putO at hp hi ⊢
  by_cases hm : mayO o = false
  · rw [if_pos hm] at hi; cases hi
  rw [if_neg hm] at hp hi ⊢
  by_cases hh : hasO x (oSt o) = true
  · rw [if_pos hh] at hi; cases hi
  rw [if_neg hh] at hp hi ⊢
  refine ⟨?_, by cases h : mayO o <;> simp_all⟩
  show putIn _ x o = _
  have hp' : placeO x (oSt o) = x.length := hp
  rw [putIn_place, hp', List.take_length, List.drop_length]

theorem lessS_le {a b : St} (h : lessS a b = true) : lessS b a = false := by
  rw [Bool.eq_false_iff]
  intro q
  have := lessS_trans h q
  rw [lessS_irrefl] at this
  cases this

theorem below_own {x : List Opn} (h : Rises x) {i : Nat} (hi : i < x.length) : belowO x (oSt x[i]) = i + 1 := by
  refine while_is (by omega) (fun j hj hji => ?_) fun hj => ?_
  · rw [Bool.not_eq_true']
    by_cases q : j = i
    · subst q; exact lessS_irrefl _
    · exact lessS_le (List.pairwise_iff_getElem.1 h j i hj hi (by omega))
  · rw [Bool.not_eq_false']
    exact List.pairwise_iff_getElem.1 h i (i + 1) hi hj (by omega)

theorem below_zero {x : List Opn} (hm : ∀ a ∈ x, mayO a = true) : belowO x (0, 0) = 0 := by
  refine while_is (Nat.zero_le _) (fun j _ hj => by omega) fun hj => ?_
  rw [Bool.not_eq_false']
  obtain ⟨_, _, _, h0, hb, _⟩ := mayO_parts (hm _ (List.getElem_mem hj))
  refine (lessB_iff _ _ _ _).2 (Or.inl ?_)
  show (0 : Int) < (x[0]).st
  unfold mayB at hb
  rw [if_neg h0] at hb
  simp only [Bool.and_eq_true, decide_eq_true_iff] at hb
  omega

/-! ### idle ones -/

/-- Those that are done, from a graph on. -/
def doneO : Gr → List Opn → List Opn
  | _, [] => []
  | g, o :: l => if (doA g o).2 = 0 then o :: doneO (doA g o).1 l else doneO (doA g o).1 l

theorem does_err {g : Gr} {o : Opn} (h : (doA g o).2 ≠ 0) : (doA g o).1 = g := by
  unfold doA at h ⊢
  by_cases q : whyA g o = 0
  · rw [if_pos q] at h; exact absurd rfl h
  · rw [if_neg q]

theorem done_run : ∀ (l : List Opn) (g : Gr), runG g (doneO g l) = runG g l
  | [], _ => rfl
  | o :: l, g => by
    unfold doneO
    by_cases q : (doA g o).2 = 0
    · rw [if_pos q]
      exact done_run l (doA g o).1
    · rw [if_neg q, show runG g (o :: l) = runG (doA g o).1 l from rfl, does_err q]
      exact done_run l g

theorem done_sub : ∀ (l : List Opn) (g : Gr), (doneO g l).Sublist l
  | [], _ => List.Sublist.refl _
  | o :: l, g => by
    unfold doneO
    by_cases q : (doA g o).2 = 0
    · rw [if_pos q]; exact (done_sub l _).cons_cons o
    · rw [if_neg q]; exact (done_sub l _).cons o

theorem done_snoc (g : Gr) : ∀ (l : List Opn) (o : Opn), doneO g (l ++ [o]) = if (doA (runG g l) o).2 = 0 then doneO g l ++ [o] else doneO g l
  | [], o => by
    show (if (doA g o).2 = 0 then [o] else []) = _
    rfl
  | a :: l, o => by
    rw [List.cons_append]
    unfold doneO
    rw [done_snoc _ l o]
    rw [show runG g (a :: l) = runG (doA g a).1 l from rfl]
    by_cases q : (doA g a).2 = 0
    · rw [if_pos q, if_pos q]; split <;> rfl
    · rw [if_neg q, if_neg q]

theorem sort_done (l : List Opn) : sortO (doneO newG (sortO l)) = doneO newG (sortO l) := sort_part (done_sub _ _)

/-! ### distinct ones -/

/-- Those whose stamp no one ahead of them has. -/
def distO : List Opn → List Opn → List Opn
  | _, [] => []
  | p, o :: l => if hasO p (oSt o) = true then distO (p ++ [o]) l else o :: distO (p ++ [o]) l

theorem dist_snoc : ∀ (l p : List Opn) (o : Opn), distO p (l ++ [o]) = if hasO (p ++ l) (oSt o) = true then distO p l else distO p l ++ [o]
  | [], p, o => by
    rw [List.append_nil]
    show (if hasO p (oSt o) = true then distO (p ++ [o]) [] else o :: distO (p ++ [o]) []) = _
    split <;> rfl
  | a :: l, p, o => by
    rw [List.cons_append]
    unfold distO
    rw [dist_snoc l (p ++ [a]) o, List.append_assoc]
    by_cases q : hasO p (oSt a) = true
    · rw [if_pos q, if_pos q]; rfl
    · rw [if_neg q, if_neg q]
      show (a :: if hasO (p ++ a :: l) (oSt o) = true then _ else _) = if hasO (p ++ a :: l) (oSt o) = true then _ else _
      split <;> rfl

theorem dist_not : ∀ (l p : List Opn), ∀ a ∈ distO p l, hasO p (oSt a) = false
  | [], _, _, h => nomatch h
  | o :: l, p, a, h => by
    have key : a ∈ distO (p ++ [o]) l → hasO p (oSt a) = false := fun q => by
      have := dist_not l (p ++ [o]) a q
      unfold hasO at this ⊢
      rw [List.any_append, Bool.or_eq_false_iff] at this
      exact this.1
    unfold distO at h
    by_cases q : hasO p (oSt o) = true
    · rw [if_pos q] at h; exact key h
    · rw [if_neg q] at h
      rcases List.mem_cons.1 h with rfl | h
      · cases e : hasO p (oSt a) <;> simp_all
      · exact key h

theorem dist_apart : ∀ (l p : List Opn), (distO p l).Pairwise fun a b => oSt a ≠ oSt b
  | [], _ => List.Pairwise.nil
  | o :: l, p => by
    unfold distO
    by_cases q : hasO p (oSt o) = true
    · rw [if_pos q]; exact dist_apart l _
    · rw [if_neg q, List.pairwise_cons]
      refine ⟨fun b hb e => ?_, dist_apart l _⟩
      have := dist_not l (p ++ [o]) b hb
      have h2 : hasO (p ++ [o]) (oSt b) = true := hasO_iff.2 ⟨o, by simp, e⟩
      rw [h2] at this
      cases this

theorem dist_one {l : List Opn} : ∀ x ∈ distO [] l, ∀ y ∈ distO [] l, oSt x = oSt y → x = y := by
  intro x hx y hy e
  obtain ⟨i, hi, rfl⟩ := List.getElem_of_mem hx
  obtain ⟨j, hj, rfl⟩ := List.getElem_of_mem hy
  have hp := List.pairwise_iff_getElem.1 (dist_apart l [])
  rcases Nat.lt_trichotomy i j with q | q | q
  · exact absurd e (hp i j hi hj q)
  · subst q; rfl
  · exact absurd e.symm (hp j i hj hi q)

theorem dist_len : ∀ (l p : List Opn), (distO p l).length ≤ l.length
  | [], _ => Nat.le_refl _
  | o :: l, p => by
    unfold distO
    have := dist_len l (p ++ [o])
    split <;> (simp only [List.length_cons]; omega)

theorem dist_sub : ∀ (l p : List Opn), ∀ a ∈ distO p l, a ∈ l
  | [], _, _, h => nomatch h
  | o :: l, p, a, h => by
    unfold distO at h
    by_cases q : hasO p (oSt o) = true
    · rw [if_pos q] at h; exact List.mem_cons_of_mem _ (dist_sub l _ a h)
    · rw [if_neg q] at h
      rcases List.mem_cons.1 h with rfl | h
      · exact List.mem_cons_self ..
      · exact List.mem_cons_of_mem _ (dist_sub l _ a h)

end Go.Proofs.YtbkijfhfjhpebaaGreatDoor.GraphMath

/-
  What the statements of layer 13 need of the package's own calls, beside those of graphs and of apply.
-/
namespace Go.Proofs.YtbkijfhfjhpebaaGreatDoor
open Go.RowKit StampMath GraphMath OpMath PackMath

/-- Operations are answered: to be read. -/
def OpsPost (x : List Opn) (w : World) (e : Ending) (w' : World) : Prop :=
  ∃ (A : Option Addr) (c : Nat), e = .returned (.slice A x.length c) ∧ OpsIn w' w'.heap.size A x.length x ∧ x.length ≤ c ∧ c ≤ maxLen ∧ (A = none → c = 0) ∧ Below w.heap.size w w'

structure FoldHave (H : GraphHave) : Prop where
  sort : ∀ (A : Option Addr) (n c : Nat) (l : List Opn) (w : World) [Tab w], n ≤ 1000 → (∀ o ∈ l, OpFit o) → OpsIn w w.heap.size A n l → Calls Tryz.prog 38 #[.slice A n c] w (OpsPost (sortO l) w)
  of : ∀ (A : Option Addr) (n c : Nat) (l : List Opn) (w : World) [Tab w], n ≤ 1000 → (∀ o ∈ l, OpFit o) → OpsIn w w.heap.size A n l → Calls Tryz.prog 10 #[.slice A n c] w fun e w' => ∃ b T, e = .returned (.pointer (some b)) ∧ H.rep w' T b (runA (sortO l)) ∧ (∀ i, T i → w.heap.size ≤ i) ∧ Below w.heap.size w w'
  on : ∀ (a : Addr) (S : Nat → Prop) (g : Gr) (A : Option Addr) (n c : Nat) (l : List Opn) (w : World) [Tab w], H.rep w S a g → ¬ S 1 → g.fine → n ≤ 1000 → (∀ o ∈ l, OpFit o) → OpsIn w w.heap.size A n l → Calls Tryz.prog 20 #[.pointer (some a), .slice A n c] w fun e w' => ∃ b T, e = .returned (.pointer (some b)) ∧ H.rep w' T b (runG g (sortO l)) ∧ (∀ i, T i → w.heap.size ≤ i) ∧ Below w.heap.size w w'
  nilOn : ∀ (A : Option Addr) (n c : Nat) (l : List Opn) (w : World) [Tab w], n ≤ 1000 → (∀ o ∈ l, OpFit o) → OpsIn w w.heap.size A n l → Calls Tryz.prog 20 #[.pointer none, .slice A n c] w fun e w' => e = .returned (.pointer none) ∧ Below w.heap.size w w'

theorem FX.of {H : GraphHave} (P : FoldHave H) (A : Option Addr) (n c : Nat) (l : List Opn) (w : World) (T : Tab w) (hn : n ≤ 1000) (hl : ∀ o ∈ l, OpFit o) (h : OpsIn w w.heap.size A n l) :
    Calls Tryz.prog 10 #[.slice A n c] w fun e w' => ∃ a, e = .returned (.pointer (some a)) ∧ FX H w w' (fun _ => False) a (runA (sortO l)) ∧ Below w.heap.size w w' := by
  refine (P.of A n c l w hn hl h).mono ?_
  rintro e w' ⟨b, S, he, h1, h2, hb⟩
  exact ⟨b, he, ⟨⟨⟨S, h1, h2, fun _ h => h.elim⟩, (runA_fine _).ok, fun _ h => h.elim, hb⟩, runA_fine _⟩, hb⟩

theorem FX.on {H : GraphHave} (P : FoldHave H) {w W : World} {N : Nat → Prop} {a : Addr} {g : Gr} (h : FX H w W N a g) (T : Tab w) (A : Option Addr) (n c : Nat) (l : List Opn) (hn : n ≤ 1000) (hl : ∀ o ∈ l, OpFit o) (hi : OpsIn W W.heap.size A n l) :
    Calls Tryz.prog 20 #[.pointer (some a), .slice A n c] W fun e w' => ∃ b, e = .returned (.pointer (some b)) ∧ FX H W w' (fun _ => False) b (runG g (sortO l)) ∧ Below W.heap.size W w' := by
  have := h.gx.tab T
  obtain ⟨S, h1, h2, _⟩ := h.gx.at'
  refine (P.on a S g A n c l W h1 (fun q => by have := h2 _ q; have := T.lt; omega) h.fine hn hl hi).mono ?_
  rintro e w' ⟨b, S', he, k1, k2, hb⟩
  exact ⟨b, he, ⟨⟨⟨S', k1, k2, fun _ h => h.elim⟩, (runG_fine h.fine _).ok, fun _ h => h.elim, hb⟩, runG_fine h.fine _⟩, hb⟩

end Go.Proofs.YtbkijfhfjhpebaaGreatDoor

/-
  A slice of strings that is only read; one that was appended to. It needs no program.
-/
namespace Go.Proofs.YtbkijfhfjhpebaaGreatDoor
open Go.RowKit

/-- Strings as cells. -/
def strV (xs : List (List UInt8)) : List Value := xs.map fun x => .string ⟨x.toArray⟩

theorem strV_len (xs : List (List UInt8)) : (strV xs).length = xs.length := by simp [strV]
theorem strV_nil : strV [] = [] := rfl
theorem strV_snoc (xs : List (List UInt8)) (x : List UInt8) : strV xs ++ [.string ⟨x.toArray⟩] = strV (xs ++ [x]) := by simp [strV]
theorem strV_at {xs : List (List UInt8)} {j : Nat} (h : j < xs.length) : (strV xs)[j]? = some (.string ⟨xs[j].toArray⟩) := by
  unfold strV
  rw [List.getElem?_map, List.getElem?_eq_getElem h]
  rfl

/-- The slice with address A and length n reads as the strings xs, and lies below block B. -/
def StrsIn (W : World) (B : Nat) (A : Option Addr) (n : Nat) (xs : List (List UInt8)) : Prop :=
  xs.length = n ∧ (0 < n → ∃ g o, A = some ⟨g, o, none⟩ ∧ g < B ∧ ∀ j (h : j < xs.length), W.cell? ⟨g, o + j, none⟩ = some (.string ⟨xs[j].toArray⟩))

theorem StrsIn.below {W W' : World} {B : Nat} {A : Option Addr} {n : Nat} {xs : List (List UInt8)} (h : StrsIn W B A n xs) (hb : Below B W W') : StrsIn W' B A n xs :=
  ⟨h.1, fun hn => by
    obtain ⟨g, o, e, hg, hc⟩ := h.2 hn
    exact ⟨g, o, e, hg, fun j hj => (hb.cell (p := ⟨g, o + j, none⟩) hg).trans (hc j hj)⟩⟩

theorem StrsIn.more {W : World} {B B' : Nat} {A : Option Addr} {n : Nat} {xs : List (List UInt8)} (h : StrsIn W B A n xs) (hB : B ≤ B') : StrsIn W B' A n xs :=
  ⟨h.1, fun hn => by
    obtain ⟨g, o, e, hg, hc⟩ := h.2 hn
    exact ⟨g, o, e, by omega, hc⟩⟩

/-- A begin of such a slice. -/
theorem StrsIn.take {W : World} {B : Nat} {A : Option Addr} {n : Nat} {xs : List (List UInt8)} (h : StrsIn W B A n xs) {k : Nat} (hk : k ≤ n) : StrsIn W B A k (xs.take k) :=
  ⟨by rw [List.length_take, h.1]; omega, fun hn => by
    obtain ⟨g, o, e, hg, hc⟩ := h.2 (by omega)
    refine ⟨g, o, e, hg, fun j hj => ?_⟩
    rw [List.length_take] at hj
    rw [List.getElem_take]
    exact hc j (by omega)⟩

theorem StrsIn.none (W : World) (B : Nat) (A : Option Addr) : StrsIn W B A 0 [] := ⟨rfl, fun h => absurd h (by omega)⟩

/-- What was appended to reads so. -/
theorem strs_own {W : World} {base : Nat} {e : TypeId} {v : Value} {n : Nat} {xs : List (List UInt8)} (h : W.ownsRow base e 1 v n (strV xs)) :
    ∃ (A : Option Addr) (c : Nat), v = .slice A n c ∧ StrsIn W W.heap.size A n xs ∧ n ≤ c ∧ c ≤ maxLen ∧ (A = Option.none → c = 0) := by
  have hl : xs.length = n := by have := h.1; rw [strV_len] at this; omega
  rcases h.2 with ⟨rfl, h0⟩ | ⟨g, cap, cur, rfl, hb, hg, hnc, hcm, _, _⟩
  · exact ⟨Option.none, 0, by rw [h0], ⟨hl, fun hn => by omega⟩, by omega, by decide, fun _ => rfl⟩
  · refine ⟨some ⟨g, 0, Option.none⟩, cap, rfl, ⟨hl, fun _ => ⟨g, 0, rfl, (Array.getElem?_eq_some_iff.1 hg).1, fun j hj => ?_⟩⟩, hnc, hcm, fun h => by cases h⟩
    have q := h.cells (g := g) rfl _ _ (strV_at hj)
    have e : (⟨g, 0, Option.none⟩ : Addr).add j = ⟨g, 0 + j, Option.none⟩ := by
      unfold Addr.add
      split <;> simp_all
    rw [e] at q
    exact q

/-- A new cell with a string. -/
theorem str_there (w : World) (T : TypeId) (x : List UInt8) : ∀ j u, (strV [x])[j]? = some u → (w.alloc (.cells #[.string ⟨x.toArray⟩] T)).cell? (Addr.add ⟨w.heap.size, 0, none⟩ j) = some u := by
  intro j u hj
  have h0 : j = 0 := by
    by_cases e : j = 0
    · exact e
    · rw [List.getElem?_eq_none (by simp [strV]; omega)] at hj
      cases hj
  subst h0
  simp [strV] at hj
  subst hj
  exact cell_of_row _ _ 0 _ _ (0, 0) (heap_alloc_new w _)

theorem str_one (x : List UInt8) : ∀ u ∈ strV [x], u.oneCell' = true := by
  intro u hu
  simp [strV] at hu
  subst hu
  rfl

/-- Are two lists the same? -/
def sameS (xs ys : List (List UInt8)) : Bool := decide (xs = ys)

theorem sameS_no_len {xs ys : List (List UInt8)} (h : xs.length ≠ ys.length) : sameS xs ys = false := decide_eq_false fun e => h (by rw [e])
theorem sameS_no {xs ys : List (List UInt8)} {k : Nat} (h1 : k < xs.length) (h2 : k < ys.length) (h : ¬ xs[k] = ys[k]) : sameS xs ys = false :=
  decide_eq_false fun e => h (by subst e; rfl)
theorem sameS_yes {xs ys : List (List UInt8)} (hl : xs.length = ys.length) (h : ∀ k (h1 : k < xs.length) (h2 : k < ys.length), xs[k] = ys[k]) : sameS xs ys = true :=
  decide_eq_true (List.ext_getElem hl h)
theorem sameS_self (xs : List (List UInt8)) : sameS xs xs = true := decide_eq_true rfl

end Go.Proofs.YtbkijfhfjhpebaaGreatDoor

/-
  What the statements of layer 15 need of the landed code: contracts of path's calls over whatever a graph is in memory.
-/
namespace Go.Proofs.YtbkijfhfjhpebaaGreatDoor
open Go.RowKit StampMath GraphMath OpMath

/-- A spot's cells. -/
def sptA (s : Spt) : Array Value := #[.int .i64 s.at_.1, .int .i64 s.at_.2, .string s.name, .int .i64 s.ino.1, .int .i64 s.ino.2, .bool s.there]

/-- A directory's home as a text; nothing of what is none. -/
def homeS (g : Gr) (id : St) : ByteArray := GraphMath.bytes ((homeG g id).getD [])

def SplitPost (p : Bs) (w : World) (e : Ending) (w' : World) : Prop :=
  ∃ (A : Option Addr) (n c : Nat), e = .returned (.tuple #[.slice A n c, .int .i64 (errP p)]) ∧ StrsIn w' w'.heap.size A n (if errP p = 0 then partsP p else []) ∧ n ≤ c ∧ c ≤ maxLen ∧ (A = none → c = 0) ∧ Below w.heap.size w w'

structure PathHave (H : GraphHave) : Prop where
  split : ∀ (p : ByteArray) (w : World), p.size ≤ 2000 → Calls Tryz.prog 16 #[.string p] w (SplitPost p.data.toList w)
  find : ∀ (a : Addr) (S : Nat → Prop) (g : Gr) (at_ : St) (p : ByteArray) (f : Bool) (w : World), H.rep w S a g → g.fine → p.size ≤ 2000 → Calls Tryz.prog 14 #[.pointer (some a), .agg (stA at_), .string p, .bool f] w fun e w' => e = .returned (.tuple #[.agg (sptA (findG g at_ p.data.toList f).1), .int .i64 (findG g at_ p.data.toList f).2]) ∧ Below w.heap.size w w'
  nilFind : ∀ (at_ : St) (p : ByteArray) (f : Bool) (w : World), p.size ≤ 2000 → Calls Tryz.prog 14 #[.pointer none, .agg (stA at_), .string p, .bool f] w fun e w' => e = .returned (.tuple #[.agg (sptA noSpt), .int .i64 (if errP p.data.toList ≠ 0 then errP p.data.toList else 3)]) ∧ Below w.heap.size w w'
  home : ∀ (a : Addr) (S : Nat → Prop) (g : Gr) (id : St) (w : World), H.rep w S a g → g.fine → Calls Tryz.prog 13 #[.pointer (some a), .agg (stA id)] w fun e w' => e = .returned (.tuple #[.string (homeS g id), .bool (homeG g id).isSome]) ∧ Below w.heap.size w w'
  nilHome : ∀ (id : St) (w : World), Calls Tryz.prog 13 #[.pointer none, .agg (stA id)] w fun e w' => e = .returned (.tuple #[.string ⟨#[]⟩, .bool false]) ∧ Below w.heap.size w w'

end Go.Proofs.YtbkijfhfjhpebaaGreatDoor

/-
  path's calls over a graph that is fine, made since a world: it stays as it is.
-/
namespace Go.Proofs.YtbkijfhfjhpebaaGreatDoor
open Go.RowKit StampMath GraphMath OpMath

variable {H : GraphHave} {w W : World} {N : Nat → Prop} {a : Addr} {g : Gr}

theorem FX.find (P : PathHave H) (h : FX H w W N a g) (at_ : St) (p : ByteArray) (f : Bool) (hp : p.size ≤ 2000) :
    Calls Tryz.prog 14 #[.pointer (some a), .agg (stA at_), .string p, .bool f] W fun e w' => e = .returned (.tuple #[.agg (sptA (findG g at_ p.data.toList f).1), .int .i64 (findG g at_ p.data.toList f).2]) ∧ FX H w w' N a g ∧ Below W.heap.size W w' := by
  obtain ⟨S, h1, _⟩ := h.gx.at'
  refine (P.find a S g at_ p f W h1 h.fine hp).mono ?_
  rintro e w' ⟨he, hb⟩
  exact ⟨he, h.step hb, hb⟩

theorem FX.home (P : PathHave H) (h : FX H w W N a g) (id : St) :
    Calls Tryz.prog 13 #[.pointer (some a), .agg (stA id)] W fun e w' => e = .returned (.tuple #[.string (homeS g id), .bool (homeG g id).isSome]) ∧ FX H w w' N a g ∧ Below W.heap.size W w' := by
  obtain ⟨S, h1, _⟩ := h.gx.at'
  refine (P.home a S g id W h1 h.fine).mono ?_
  rintro e w' ⟨he, hb⟩
  exact ⟨he, h.step hb, hb⟩

end Go.Proofs.YtbkijfhfjhpebaaGreatDoor

/-
  Slices of operations that a call makes of its own; parts of a slice of operations. It needs no program's function.
-/
namespace Go.Proofs.YtbkijfhfjhpebaaGreatDoor
open Go.RowKit StampMath GraphMath OpMath PackMath

theorem op_infos : (Tryz.prog.info? 56).map (fun i => (i.zero, i.size, i.bytes)) = some (some (.agg #[.int .i64 0, .int .i64 0, .int .i64 0, .int .i64 0, .int .i64 0, .int .i64 0, .int .i64 0, .int .i64 0, .int .i64 0, .string ⟨#[]⟩, .string ⟨#[]⟩, .int .i64 0, .string ⟨#[]⟩]), 13, 128) := by kernel_rfl

theorem op_cells1 (o : Opn) : ∀ u ∈ (opA o).toList, u.oneCell' = true := by
  intro u hu
  simp [opA] at hu
  rcases hu with rfl | rfl | rfl | rfl | rfl | rfl | rfl | rfl | rfl | rfl | rfl | rfl | rfl <;> rfl

theorem op_rows (Y : List Opn) : (∀ r ∈ Y.map opA, r.size = 13) ∧ ∀ r ∈ Y.map opA, ∀ u ∈ r.toList, u.oneCell' = true :=
  ⟨fun r hr => by obtain ⟨e, _, rfl⟩ := List.mem_map.1 hr; rfl, fun r hr => by obtain ⟨e, _, rfl⟩ := List.mem_map.1 hr; exact op_cells1 e⟩

theorem ops_own {W : World} {base : Nat} {v : Value} {n : Nat} {l : List Opn} (hn : l.length = n) (h : W.ownsRow base 56 13 v n (flat (l.map opA))) :
    ∃ (A : Option Addr) (c : Nat), v = .slice A n c ∧ OpsIn W W.heap.size A n l ∧ n ≤ c ∧ c ≤ maxLen ∧ (A = Option.none → c = 0) :=
  tab_own (k := 13) (fun r hr => by obtain ⟨e, _, rfl⟩ := List.mem_map.1 hr; rfl) (by simpa using hn) h

theorem flat_op (l : List Opn) (o : Opn) : flat (l.map opA) ++ (opA o).toList = flat ((l ++ [o]).map opA) := by simp [flat]

/-- The begin of a slice of operations. -/
theorem ops_take {W : World} {B : Nat} {A : Option Addr} {n : Nat} {l : List Opn} (h : OpsIn W B A n l) {k : Nat} (hk : k ≤ n) : OpsIn W B A k (l.take k) := by
  refine ⟨by rw [List.length_map, List.length_take]; have := h.len; omega, fun hp => ?_⟩
  obtain ⟨g, o, e, hg, hc⟩ := h.2 (by omega)
  refine ⟨g, o, e, hg, fun j hj i v hv => ?_⟩
  have hj' : j < (l.map opA).length := by
    rw [List.length_map, List.length_take] at hj
    rw [List.length_map]
    omega
  refine hc j hj' i v ?_
  rw [← hv]
  congr 1
  simp

/-- The end of a slice of operations. -/
theorem ops_drop {W : World} {B g o n : Nat} {l : List Opn} (h : OpsIn W B (some ⟨g, o, none⟩) n l) {k : Nat} (hk : k ≤ n) : OpsIn W B (some ⟨g, o + k * 13, none⟩) (n - k) (l.drop k) := by
  have := TabIn.drop (k := 13) h hk
  rwa [← List.map_drop] at this

theorem ops_none {W : World} {B : Nat} (A : Option Addr) : OpsIn W B A 0 [] := ⟨rfl, fun h => absurd h (Nat.lt_irrefl 0)⟩

/-- A block of rows, as a slice. -/
theorem tab_of_cells {k : Nat} {W : World} {g : Nat} {cs : Array Value} {T : TypeId} {rows : List (Array Value)} (hk : ∀ r ∈ rows, r.size = k) (hg : W.heap[g]? = some (.cells cs T (0, 0))) (hc : cs.toList = flat rows) : TabIn k W W.heap.size (some ⟨g, 0, none⟩) rows.length rows := by
  refine ⟨rfl, fun _ => ⟨g, 0, rfl, heap_lt hg, fun j hj i v hv => ?_⟩⟩
  have hi : i < k := by
    have := (Array.getElem?_eq_some_iff.1 hv).1
    rw [hk _ (List.getElem_mem hj)] at this
    exact this
  have e : cs[j * k + i]? = some v := by
    rw [← Array.getElem?_toList, hc, flat_at hk j hj i hi]
    exact hv
  rw [Nat.zero_add, cell_of_row _ _ (j * k + i) _ _ (0, 0) hg]
  exact e

theorem ops_of_cells {W : World} {g : Nat} {cs : Array Value} {T : TypeId} {l : List Opn} (hg : W.heap[g]? = some (.cells cs T (0, 0))) (hc : cs.toList = flat (l.map opA)) : OpsIn W W.heap.size (some ⟨g, 0, none⟩) l.length l := by
  have := tab_of_cells (rows := l.map opA) (k := 13) (op_rows l).1 hg hc
  rwa [List.length_map] at this

end Go.Proofs.YtbkijfhfjhpebaaGreatDoor

/-
  The head of layer 15's statements: the document's example; few.
-/
namespace Go.Proofs.YtbkijfhfjhpebaaGreatDoor
open Go.RowKit StampMath GraphMath OpMath PackMath

/-- The example's operation. -/
def phA : Opn := ⟨1, 0, 3, 0, 0, 0, 0, 0, 0, ⟨#[97]⟩, ⟨#[]⟩, 0, ⟨#[97]⟩⟩

set_option maxRecDepth 100000 in
theorem ph_find : findG (runA (sortO [phA])) (0, 0) [97, 47, 98] false = (noSpt, 9) ∧ findG (runA (sortO [phA])) (0, 0) [47, 46, 47, 97] false = (⟨(0, 0), ⟨#[97]⟩, (1, 0), true⟩, 0) := by decide +kernel

theorem ph_fit : ∀ o ∈ [phA], OpFit o := by
  intro o ho
  rw [List.mem_singleton.1 ho]
  exact ⟨by constructor <;> simp [phA, IsI64], by decide, by decide, by decide⟩

set_option maxRecDepth 100000 in
set_option maxHeartbeats 1600000 in
theorem PathHave.shown {H : GraphHave} (P : FoldHave H) (Q : PathHave H) (w : World) (T : Tab w) :
    Calls Tryz.prog 8 #[] w fun e w' => e = .returned (.bool true) ∧ Below w.heap.size w w' := by
  have HR := Lib.hid ph_find
  obtain ⟨g3, hg3⟩ : ∃ g, g = w.heap.size := ⟨_, rfl⟩
  have B3 := Lib.hid (heap_alloc_new w (.cells #[.int .i64 1, .int .i64 0, .int .i64 3, .int .i64 0, .int .i64 0, .int .i64 0, .int .i64 0, .int .i64 0, .int .i64 0, .string ⟨#[97]⟩, .string ⟨#[]⟩, .int .i64 0, .string ⟨#[97]⟩] 56))
  have h3 : Below w.heap.size w (w.alloc (.cells #[.int .i64 1, .int .i64 0, .int .i64 3, .int .i64 0, .int .i64 0, .int .i64 0, .int .i64 0, .int .i64 0, .int .i64 0, .string ⟨#[97]⟩, .string ⟨#[]⟩, .int .i64 0, .string ⟨#[97]⟩] 56)) := (Below.refl _ _).alloc (Nat.le_refl _) _
  have O3 := Lib.hid (ops_of_cells (l := [phA]) B3.out rfl)
  clear B3
  have S3 := Lib.hid h3
  clear h3
  go_enter Tryz.func8, Tryz.ntmps8
  go_wp2_with fail
  rw [← hg3] at O3 ⊢
  generalize w.alloc (.cells #[.int .i64 1, .int .i64 0, .int .i64 3, .int .i64 0, .int .i64 0, .int .i64 0, .int .i64 0, .int .i64 0, .int .i64 0, .string ⟨#[97]⟩, .string ⟨#[]⟩, .int .i64 0, .string ⟨#[97]⟩] 56) = w3 at O3 S3 ⊢
  clear hg3
  have T3 := tab_below T (Nat.le_refl _) S3.out
  refine (FX.of P _ 1 1 [phA] w3 T3 (by omega) ph_fit O3.out).mono ?_
  rintro e w4 ⟨a, rfl, g4, hb4⟩
  obtain ⟨S4, r4, _⟩ := g4.gx.at'
  have F4 : Hid (∀ W, Below w4.heap.size w4 W → Calls Tryz.prog 14 #[.pointer (some a), .agg #[.int .i64 0, .int .i64 0], .string ⟨#[97, 47, 98]⟩, .bool false] W fun e w' => e = .returned (.tuple #[.agg #[.int .i64 0, .int .i64 0, .string ⟨#[]⟩, .int .i64 0, .int .i64 0, .bool false], .int .i64 9]) ∧ Below W.heap.size W w') := Lib.hid fun W hW => by
    have := Q.find a S4 _ (0, 0) ⟨#[97, 47, 98]⟩ false W (H.keep r4 fun i hi => hW.block i (H.lt r4 i hi)) g4.fine (by decide)
    rw [show (⟨#[97, 47, 98]⟩ : ByteArray).data.toList = [97, 47, 98] from rfl, HR.out.1] at this
    exact this
  have F5 : Hid (∀ W, Below w4.heap.size w4 W → Calls Tryz.prog 14 #[.pointer (some a), .agg #[.int .i64 0, .int .i64 0], .string ⟨#[47, 46, 47, 97]⟩, .bool false] W fun e w' => e = .returned (.tuple #[.agg #[.int .i64 0, .int .i64 0, .string ⟨#[97]⟩, .int .i64 1, .int .i64 0, .bool true], .int .i64 0]) ∧ Below W.heap.size W w') := Lib.hid fun W hW => by
    have := Q.find a S4 _ (0, 0) ⟨#[47, 46, 47, 97]⟩ false W (H.keep r4 fun i hi => hW.block i (H.lt r4 i hi)) g4.fine (by decide)
    rw [show (⟨#[47, 46, 47, 97]⟩ : ByteArray).data.toList = [47, 46, 47, 97] from rfl, HR.out.2] at this
    exact this
  have H4 := Lib.hid (below_step S3.out hb4)
  clear g4 r4 T3 O3 S3 hb4 HR
  go_wp2_with fail
  refine (F4.out _ (Below.refl _ _)).mono ?_
  rintro e w5 ⟨rfl, hb5⟩
  have B5 := Lib.hid hb5
  clear hb5 F4
  go_wp2_with fail
  refine (F5.out _ (below_step B5.out ((Below.refl _ _).alloc (Nat.le_refl _) _))).mono ?_
  rintro e w6 ⟨rfl, hb6⟩
  have B6 := Lib.hid (below_step H4.out (below_step (below_step B5.out ((Below.refl _ _).alloc (Nat.le_refl _) _)) hb6))
  clear hb6 F5 B5 H4
  go_wp2_with fail
  go_ret
  exact ⟨rfl, below_step B6.out ((Below.refl _ _).alloc (Nat.le_refl _) _)⟩

set_option maxRecDepth 100000 in
theorem fewH_any (A : Option Addr) (n c : Nat) (w : World) :
    Calls Tryz.prog 9 #[.slice A n c] w fun e w' => e = .returned (.bool (decide (n ≤ 60))) ∧ Below w.heap.size w w' := by
  have hd : decide (n ≤ 60) = decide ((n : Int) ≤ 60) := by rw [decide_eq_decide]; omega
  rw [hd]
  go_enter Tryz.func9, Tryz.ntmps9
  go_wp2_with fail
  go_ret
  exact ⟨rfl, Below.refl _ _⟩

end Go.Proofs.YtbkijfhfjhpebaaGreatDoor

/-
  A slice of strings appended to one of the call's own, whatever its address. It needs no program.
-/
namespace Go.Proofs.YtbkijfhfjhpebaaGreatDoor
open Go.RowKit

theorem strV_append (xs ys : List (List UInt8)) : strV xs ++ strV ys = strV (xs ++ ys) := by simp [strV]
theorem strV_one (xs : List (List UInt8)) : ∀ u ∈ strV xs, u.oneCell' = true := by
  intro u hu
  obtain ⟨x, _, rfl⟩ := List.mem_map.1 hu
  rfl

theorem wpList_append_strs {P : Program} {w : World} {ops : Array Oper} {rest : List Oper} {o : Oper} {a : Act} {Q : Exit → Act → World → Prop} (hgd : o.guard = none) (s x : Operand) (t : TypeId)
    (ho : o.op = .call { callee := .builtin .append, args := #[s, x], argTypes := #[t, t] })
    (base : Nat) (e : TypeId) (i : TypeInfo) (z : Value) (bytes : Nat) (ht : P.underlying t = some (.slice e)) (hi : P.info? e = some i) (hz : i.zero = some z)
    (hsize : i.size = 1) (hby : i.bytes = bytes) (hzs : z.cells.size = 1)
    (v : Value) (n : Nat) (xs : List (List UInt8)) (hs : a.eval s = v) (hown : w.ownsRow base e 1 v n (strV xs))
    (A : Option Addr) (m c B : Nat) (ys : List (List UInt8)) (hx : a.eval x = .slice A m c) (hr : StrsIn w B A m ys) (hA : A = none → c = 0)
    (h63 : n + m ≤ maxLen) (hbytes : (n + m) * bytes ≤ 140737488355328) (hbase : base ≤ w.heap.size)
    (h : ∀ v' w', w'.ownsRow base e 1 v' (n + m) (strV (xs ++ ys)) → w.grownBy w' v.ownBlock → wpList P ops Q rest (a.put o.dst v') w') : wpList P ops Q (o :: rest) a w := by
  cases A with
  | none =>
    have hm : m = 0 := by
      rcases Nat.eq_zero_or_pos m with h0 | h0
      · exact h0
      · obtain ⟨g, o', e', _⟩ := hr.2 h0
        cases e'
    subst hm
    have hy : ys = [] := List.eq_nil_of_length_eq_zero hr.1
    subst hy
    rw [hA rfl] at hx
    refine wpList_append_own_none hgd s x t ho base e i 1 ht hi v n (strV xs) hs hown hx (h v w ?_ (World.grownBy.refl w _))
    rw [List.append_nil]
    exact hown
  | some ad =>
    refine wpList_append_own w hgd s x t ho base e i z 1 bytes ht hi hz hsize hby hzs (by omega) v n (strV xs) hs hown ad m c (strV ys) hx (by rw [strV_len, hr.1, Nat.mul_one]) ?_ (strV_one ys) h63 hbytes hbase fun v' w' h2 h3 _ => h v' w' (by rw [← strV_append]; exact h2) h3
    intro j u hu
    have hj : j < ys.length := by
      have := (List.getElem?_eq_some_iff.1 hu).1
      rw [strV_len] at this
      exact this
    obtain ⟨g, o', e', _, hc⟩ := hr.2 (by have := hr.1; omega)
    injection e' with e'
    subst e'
    rw [strV_at hj, Option.some.injEq] at hu
    rw [← hu]
    have ea : (⟨g, o', none⟩ : Addr).add j = ⟨g, o' + j, none⟩ := by
      unfold Addr.add
      split <;> simp_all
    rw [ea]
    exact hc j hj

end Go.Proofs.YtbkijfhfjhpebaaGreatDoor

/-
  The library's Grow and Concat, of two slices of strings.
-/
namespace Go.Proofs.YtbkijfhfjhpebaaGreatDoor
open Go.RowKit

theorem path_str_infos : (Tryz.prog.info? 9).map (fun i => (i.zero, i.size, i.bytes)) = some (some (.string ⟨#[]⟩), 1, 16) := by kernel_rfl

/-- A slice of strings outside block b. -/
def StrsOff (b : Nat) (W : World) (A : Option Addr) (n : Nat) (xs : List (List UInt8)) : Prop :=
  xs.length = n ∧ (0 < n → ∃ g o, A = some ⟨g, o, none⟩ ∧ g < W.heap.size ∧ g ≠ b ∧ ∀ j (h : j < xs.length), W.cell? ⟨g, o + j, none⟩ = some (.string ⟨xs[j].toArray⟩))

theorem StrsOff.is {b : Nat} {W : World} {A : Option Addr} {n : Nat} {xs : List (List UInt8)} (h : StrsOff b W A n xs) : StrsIn W W.heap.size A n xs :=
  ⟨h.1, fun hn => by
    obtain ⟨g, o, e, hg, _, hc⟩ := h.2 hn
    exact ⟨g, o, e, hg, hc⟩⟩

theorem StrsOff.of {b : Nat} {W : World} {A : Option Addr} {n : Nat} {xs : List (List UInt8)} (h : StrsIn W W.heap.size A n xs) (hb : W.heap.size ≤ b) : StrsOff b W A n xs :=
  ⟨h.1, fun hn => by
    obtain ⟨g, o, e, hg, hc⟩ := h.2 hn
    exact ⟨g, o, e, hg, by omega, hc⟩⟩

theorem StrsOff.below {b : Nat} {W W' : World} {A : Option Addr} {n : Nat} {xs : List (List UInt8)} (h : StrsOff b W A n xs) (hb : Below W.heap.size W W') : StrsOff b W' A n xs :=
  ⟨h.1, fun hn => by
    obtain ⟨g, o, e, hg, hne, hc⟩ := h.2 hn
    exact ⟨g, o, e, Nat.lt_of_lt_of_le hg hb.size, hne, fun j hj => (hb.cell (p := ⟨g, o + j, none⟩) hg).trans (hc j hj)⟩⟩

/-- A string row of the call's own, read; in a block that is new. -/
theorem strs_new {W : World} {base : Nat} {e : TypeId} {v : Value} {n : Nat} {xs : List (List UInt8)} (h : W.ownsRow base e 1 v n (strV xs)) :
    ∃ (A : Option Addr) (c : Nat), v = .slice A n c ∧ StrsIn W W.heap.size A n xs ∧ n ≤ c ∧ c ≤ maxLen ∧ (A = none → c = 0) ∧ ∀ b, b < base → StrsOff b W A n xs := by
  have hl : xs.length = n := by have := h.1; rw [strV_len] at this; omega
  rcases h.2 with ⟨rfl, h0⟩ | ⟨g, cap, cur, rfl, hb, hg, hnc, hcm, _, _⟩
  · exact ⟨none, 0, by rw [h0], ⟨hl, fun hn => by omega⟩, by omega, by decide, fun _ => rfl, fun b _ => ⟨hl, fun hn => by omega⟩⟩
  · have hq : ∀ j (hj : j < xs.length), W.cell? ⟨g, 0 + j, none⟩ = some (.string ⟨xs[j].toArray⟩) := fun j hj => by
      have q := h.cells (g := g) rfl _ _ (strV_at hj)
      have e : (⟨g, 0, none⟩ : Addr).add j = ⟨g, 0 + j, none⟩ := by
        unfold Addr.add
        split <;> simp_all
      rw [e] at q
      exact q
    have hgl : g < W.heap.size := (Array.getElem?_eq_some_iff.1 hg).1
    exact ⟨some ⟨g, 0, none⟩, cap, rfl, ⟨hl, fun _ => ⟨g, 0, rfl, hgl, hq⟩⟩, hnc, hcm, (fun h => by cases h), fun b hb' => ⟨hl, fun _ => ⟨g, 0, rfl, hgl, by omega, hq⟩⟩⟩

set_option maxRecDepth 100000 in
theorem grow_strs (n : Nat) (hn : n ≤ 5000) (w : World) :
    Calls Tryz.prog 103 #[.slice none 0 0, .int .i64 n] w fun e w' => ∃ v, e = .returned v ∧ w'.ownsRow w.heap.size 9 1 v 0 (strV []) ∧ Below w.heap.size w w' := by
  by_cases h0 : n = 0
  · subst h0
    go_enter Tryz.func103, Tryz.ntmps103
    go_wp2_with fail
    go_ret
    exact ⟨_, rfl, ⟨rfl, .inl ⟨rfl, rfl⟩⟩, Below.refl _ _⟩
  have h0 : 0 < n := Nat.pos_of_ne_zero h0
  obtain ⟨i0, hi0, hz0, hz1, hz2⟩ := info_parts path_str_infos
  have hr : ∀ ty, (Builtin.append_ #[46, 3] ty #[.slice none 0 0, .int .i64 n]).run Tryz.prog w = _ := fun ty => Lib.run_append_nil_zeros w 46 3 ty 9 i0 _ .i64 .i64 Tryz.underlying46 Tryz.underlying3 hi0 hz0 n h0 (by omega) (by omega) (by rw [hz2]; omega)
  have hcge := grownCap_ge w n 0 9
  have hcle := grownCap_le_maxLen w n 0 9 (by unfold maxLen; omega)
  have hown : Hid ((w.drew.alloc (.cells (Builtin.zeroCells (Value.string ⟨#[]⟩).cells n ++ Builtin.zeroCells (Value.string ⟨#[]⟩).cells (grownCap w n 0 9 - n)) 9)).ownsRow w.heap.size 9 1 (.slice (some ⟨w.heap.size, 0, none⟩) 0 (grownCap w n 0 9)) 0 [] ∧ Below w.heap.size w (w.drew.alloc (.cells (Builtin.zeroCells (Value.string ⟨#[]⟩).cells n ++ Builtin.zeroCells (Value.string ⟨#[]⟩).cells (grownCap w n 0 9 - n)) 9))) := by
    refine ⟨World.ownsRow_made w.drew _ _ (Nat.le_refl _) hcle ?_, ((Below.refl _ w).drew).alloc (Nat.le_refl _) _⟩
    simp only [Array.size_append, size_zeroCells, Value.cells]
    rw [← Nat.add_mul]
    simp
    omega
  generalize w.drew.alloc (.cells (Builtin.zeroCells (Value.string ⟨#[]⟩).cells n ++ Builtin.zeroCells (Value.string ⟨#[]⟩).cells (grownCap w n 0 9 - n)) 9) = w1 at hr hown
  generalize grownCap w n 0 9 = cp at hr hcge hown
  have h0z : (0 : Int) < (n : Int) := by omega
  have HR := Lib.hid hr
  clear hr hcle
  go_enter Tryz.func103, Tryz.ntmps103
  go_wp2_with (at_builtin; refine Lib.wpList_append_run _ rfl (.tmp 20) (.tmp 21) _ _ rfl _ _ rfl rfl _ _ (HR.out _) ?_)
  go_wp2_with fail
  go_ret
  exact ⟨_, rfl, hown.out.1, hown.out.2⟩

set_option maxRecDepth 100000 in
set_option maxHeartbeats 3200000 in
theorem concat_strs (w : World) (g : Nat) (A1 : Option Addr) (n1 c1 : Nat) (x1 : List (List UInt8)) (A2 : Option Addr) (n2 c2 : Nat) (x2 : List (List UInt8))
    (h0 : w.cell? ⟨g, 0, none⟩ = some (.slice A1 n1 c1)) (h1 : w.cell? ⟨g, 1, none⟩ = some (.slice A2 n2 c2))
    (o1 : StrsIn w w.heap.size A1 n1 x1) (o2 : StrsIn w w.heap.size A2 n2 x2) (d1 : A1 = none → c1 = 0) (d2 : A2 = none → c2 = 0) (hs : n1 + n2 ≤ 5000) :
    Calls Tryz.prog 73 #[.slice (some ⟨g, 0, none⟩) 2 2] w fun e w' => ∃ (A : Option Addr) (c : Nat), e = .returned (.slice A (n1 + n2 : Nat) c) ∧ StrsIn w' w'.heap.size A (n1 + n2) (x1 ++ x2) ∧ n1 + n2 ≤ c ∧ c ≤ maxLen ∧ (A = none → c = 0) ∧ (∀ b, b < w.heap.size → StrsOff b w' A (n1 + n2) (x1 ++ x2)) ∧ Below w.heap.size w w' := by
  obtain ⟨i0, hi0, hz0, hz1, hz2⟩ := info_parts path_str_infos
  have hg := World.block_lt_of_cell? _ _ h0
  have e0 : ∀ W, Below w.heap.size w W → W.cell? ⟨g, 0, none⟩ = some (.slice A1 n1 c1) := fun W hW => (hW.cell (p := ⟨g, 0, none⟩) hg).trans h0
  have e1 : ∀ W, Below w.heap.size w W → W.cell? ⟨g, 1, none⟩ = some (.slice A2 n2 c2) := fun W hW => (hW.cell (p := ⟨g, 1, none⟩) hg).trans h1
  have E0 := Lib.hid e0
  have E1 := Lib.hid e1
  have O1 := Lib.hid o1
  have O2 := Lib.hid o2
  have hz : ((n1 : Int) + (n2 : Int)) = ((n1 + n2 : Nat) : Int) := by omega
  have HG := Lib.hid (grow_strs (n1 + n2) hs w)
  have s1 : ¬ (n1 : Int) < 0 := by omega
  have s2 : ¬ (n1 : Int) + (n2 : Int) < 0 := by omega
  have hn1 : (n1 : Int) ≤ 5000 := by omega
  have hn2 : (n2 : Int) ≤ 5000 := by omega
  rw [← hz] at HG
  clear e0 e1 o1 o2 hz
  go_enter Tryz.func73, Tryz.ntmps73
  go_wp2_with fail
  refine wp_loop_rounds 3 ?_
  rw [rounds_succ]
  go_wp2_with fail
  rw [rounds_succ]
  go_wp2_with fail
  rw [rounds_succ]
  go_wp2_with fail
  refine HG.out.mono ?_
  rintro e w2 ⟨v2, rfl, hown2, hb2⟩
  have B2 := Lib.hid hb2
  have W2 := Lib.hid hown2
  clear hb2 hown2 h0 h1 s1 s2 HG
  have h0 := E0.out _ B2.out
  have t1 := O1.out.below B2.out
  have k1 : 0 + n1 ≤ maxLen := by unfold maxLen; omega
  have l2 := B2.out.size
  have T1 := Lib.hid t1
  clear t1
  go_wp2_with fail
  refine wp_loop_rounds 3 ?_
  rw [rounds_succ]
  go_wp2_with (at_builtin; refine wpList_append_strs rfl (.tmp 31) (.tmp 32) 46 rfl w.heap.size 9 i0 _ 16 Tryz.underlying46 hi0 hz0 hz1 hz2 rfl _ 0 [] rfl W2.out A1 n1 c1 w.heap.size x1 rfl T1.out d1 k1 (by omega) l2 ?_; intro v3 w3 hown3 hg3)
  rw [List.nil_append, Nat.zero_add] at hown3
  have B3 := Lib.hid (B2.out.grown hg3 l2 fun q hq => (W2.out.lt q hq).1)
  have W3 := Lib.hid hown3
  clear hown3 hg3 W2 T1 k1 l2 h0
  have h1 := E1.out _ B3.out
  have T2 := Lib.hid (O2.out.below B3.out)
  have k2 : n1 + n2 ≤ maxLen := by unfold maxLen; omega
  have l3 := B3.out.size
  go_wp2_with fail
  rw [rounds_succ]
  go_wp2_with (at_builtin; refine wpList_append_strs rfl (.tmp 31) (.tmp 32) 46 rfl w.heap.size 9 i0 _ 16 Tryz.underlying46 hi0 hz0 hz1 hz2 rfl _ _ _ rfl W3.out A2 n2 c2 w.heap.size x2 rfl T2.out d2 k2 (by omega) l3 ?_; intro v4 w4 hown4 hg4)
  have B4 := Lib.hid (B3.out.grown hg4 l3 fun q hq => (W3.out.lt q hq).1)
  obtain ⟨B, cB, rfl, q1, q2, q3, q4, q5⟩ := strs_new hown4
  have HF : Hid (StrsIn w4 w4.heap.size B (n1 + n2) (x1 ++ x2) ∧ n1 + n2 ≤ cB ∧ cB ≤ maxLen ∧ (B = none → cB = 0) ∧ (∀ b, b < w.heap.size → StrsOff b w4 B (n1 + n2) (x1 ++ x2)) ∧ Below w.heap.size w w4) := ⟨q1, q2, q3, q4, q5, B4.out⟩
  clear hown4 hg4 W3 T2 k2 l3 h1 q1 q2 q3 q4 q5
  go_wp2_with fail
  rw [rounds_succ]
  go_wp2_with fail
  go_ret
  exact ⟨B, cB, rfl, HF.out⟩

end Go.Proofs.YtbkijfhfjhpebaaGreatDoor

/-
  Plain mathematics of the landed path: the way down as a loop; a home, from below; a path's parts by the library's Split. It needs no program.
-/
namespace Go.Proofs.YtbkijfhfjhpebaaGreatDoor.GraphMath
open OpMath

/-! ### the way down -/

/-- What comes of a link that is followed: k links more may be. -/
def linkS (g : Gr) (f : Bool) (k : Nat) (s : Spt) (l : List Bs) : Except Int (Spt × Nat) :=
  match k with
  | 0 => .error 9
  | k + 1 => if errP (dataG g s.ino) ≠ 0 then .error (errP (dataG g s.ino)) else goS g f k (partsP (dataG g s.ino) ++ l) (startS s.at_ (dataG g s.ino))

theorem goS_link {g : Gr} {f : Bool} {k : Nat} {s : Spt} {l : List Bs} (h : symS g s = true) (h2 : f = true ∨ l ≠ []) : goS g f k l s = linkS g f k s l := by
  have e : ∀ J, downS g f k J l s = J s l := by
    intro J
    cases l with
    | nil =>
      unfold downS
      rw [h, Bool.true_and, if_pos (h2.resolve_right (by simp))]
    | cons a r =>
      unfold downS
      rw [if_pos h]
  cases k with
  | zero => exact e _
  | succ k => exact e _

theorem goS_end {g : Gr} {f : Bool} {k : Nat} {s : Spt} (h : (symS g s && f) = false) : goS g f k [] s = .ok (s, k) := by
  have e : ∀ J, downS g f k J [] s = .ok (s, k) := by
    intro J
    unfold downS
    rw [h]
    rfl
  cases k with
  | zero => exact e _
  | succ k => exact e _

theorem goS_step {g : Gr} {f : Bool} {k : Nat} {s : Spt} {a : Bs} {r : List Bs} (h : symS g s = false) : goS g f k (a :: r) s = match stepS g s a with
    | .error e => .error e
    | .ok s' => goS g f k r s' := by
  cases k with
  | zero =>
    show downS g f 0 _ (a :: r) s = _
    unfold downS
    rw [if_neg (by rw [h]; decide)]
    rfl
  | succ k =>
    show downS g f (k + 1) _ (a :: r) s = _
    unfold downS
    rw [if_neg (by rw [h]; decide)]
    rfl

/-- The inode that was come to; none where nothing is. -/
def inoH (g : Gr) (s : Spt) : Ino := if s.there = true then inoG g s.ino else noIno

theorem get_of_kind {g : Gr} {id : St} (h : kindG g id ≠ 0) : (getG g id).isSome = true ∧ (inoG g id).id = id := by
  unfold kindG at h
  unfold inoG
  cases hg : getG g id with
  | none => rw [hg] at h; exact absurd rfl h
  | some x =>
    refine ⟨rfl, ?_⟩
    show x.id = id
    unfold getG at hg
    cases hf : g.I.find? (fun x => decide (x.id = id)) with
    | none => rw [hf] at hg; cases hg
    | some y =>
      rw [hf] at hg
      have hy := List.find?_some hf
      rw [← Option.some.inj hg]
      simpa using hy

theorem sym_inoH (g : Gr) (s : Spt) : symS g s = decide ((inoH g s).kind = 3) := by
  unfold symS inoH
  by_cases h : s.there = true
  · rw [if_pos h, h, Bool.true_and]; rfl
  · rw [if_neg h]
    have : s.there = false := by simpa using h
    rw [this]; rfl

/-- A step of the landed code: from the inode that was come to. -/
theorem step_inoH {g : Gr} {s : Spt} (hs : s.fit g) {a : Bs} : stepS g s a = if s.there = false then .error 3 else if (inoH g s).kind ≠ 1 then .error 6 else if a = [46, 46] then .ok ⟨(0, 0), ⟨#[]⟩, (parentG g (inoH g s).id).getD (0, 0), true⟩ else .ok ⟨(inoH g s).id, bytes a, (lookE g.E (inoH g s).id (bytes a)).getD (0, 0), (lookE g.E (inoH g s).id (bytes a)).isSome⟩ := by
  unfold stepS
  by_cases h : s.there = false
  · rw [if_pos h, if_pos h]
  · have ht : s.there = true := by simpa using h
    have hk := hs.is ht
    have e : inoH g s = inoG g s.ino := if_pos ht
    rw [if_neg h, if_neg h, e, (get_of_kind hk).2]
    rfl

/-- A directory other than the root has a parent. -/
theorem Gr.fine.parent_there {g : Gr} (h : g.fine) {d : St} (hk : kindG g d = 1) (h0 : d ≠ (0, 0)) : (parentG g d).isSome = true := by
  obtain ⟨x, hx, h1, h2⟩ := kindG_some (g := g) (id := d) (by rw [hk]; decide)
  obtain ⟨e, he, hie⟩ := links_pos (h.held x hx (by rw [h1]; exact h0))
  have hd : g.isDir e.ino := ⟨x, hx, hie.symm, h2.trans hk⟩
  have hone := h.ok.entry_one he hd
  have hg := h.ok.get hx
  unfold parentG
  rw [← h1, hg]
  dsimp only
  rw [if_pos (h2.trans hk), ← hie, hone]
  rfl

theorem Gr.ok.no_parent {g : Gr} (h : g.ok) : parentG g (0, 0) = none := by
  unfold parentG
  cases getG g (0, 0) with
  | none => rfl
  | some x =>
    dsimp only
    split
    · cases hf : g.E.find? (fun e => decide (e.ino = (0, 0))) with
      | none => rfl
      | some e => exact absurd (by simpa using List.find?_some hf) (h.noRoot e (List.mem_of_find?_eq_some hf))
    · rfl

/-! ### a home, from below -/

/-- The names, a slash ahead of each. -/
def hangL (l : List ByteArray) : Bs := l.flatMap fun a => 47 :: a.data.toList

theorem hang_cons (a : ByteArray) (l : List ByteArray) : bytes (hangL (a :: l)) = (⟨#[47]⟩ : ByteArray) ++ a ++ bytes (hangL l) := by
  apply ByteArray.ext
  apply Array.toList_inj.1
  rw [ByteArray.data_append, ByteArray.data_append]
  simp [bytes, hangL, List.flatMap_cons]

theorem hang_size {l : List ByteArray} {k : Nat} (h : ∀ a ∈ l, a.size ≤ k) : (bytes (hangL l)).size ≤ l.length * (k + 1) := by
  show (hangL l).length ≤ _
  induction l with
  | nil => simp [hangL]
  | cons a r ih =>
    have e : hangL (a :: r) = (47 :: a.data.toList) ++ hangL r := rfl
    have := ih fun b hb => h b (List.mem_cons_of_mem _ hb)
    have h2 : a.data.toList.length ≤ k := h a List.mem_cons_self
    rw [e, List.length_append, List.length_cons, List.length_cons, Nat.succ_mul]
    omega

theorem Down.zero {g : Gr} (h : g.ok) {n : Nat} {id : St} {l : List ByteArray} (hd : Down g n id l) (h0 : id = (0, 0)) : n = 0 ∧ l = [] := by
  cases hd with
  | root => exact ⟨rfl, rfl⟩
  | step he _ _ => exact absurd h0 (h.noRoot _ he)

theorem Down.up {g : Gr} (h : g.ok) {n : Nat} {id : St} {l : List ByteArray} (hd : Down g n id l) (h0 : id ≠ (0, 0)) :
    ∃ n' l' e, n = n' + 1 ∧ l = l' ++ [e.name] ∧ g.E.find? (fun x => decide (x.ino = id)) = some e ∧ Down g n' e.dir l' := by
  cases hd with
  | root => exact absurd rfl h0
  | @step n' e l' he hi hd' => exact ⟨n', l', e, rfl, rfl, h.entry_one he hi, hd'⟩

theorem Down.size {g : Gr} (h : ∀ e ∈ g.E, nameB e.name = true) {n : Nat} {id : St} {l : List ByteArray} (hd : Down g n id l) : l.length = n ∧ ∀ a ∈ l, nameB a = true := by
  induction hd with
  | root => exact ⟨rfl, fun a ha => by cases ha⟩
  | @step n e l he _ _ ih =>
    refine ⟨by simp [ih.1], fun a ha => ?_⟩
    rcases List.mem_append.1 ha with q | q
    · exact ih.2 a q
    · rw [List.mem_singleton.1 q]; exact h e he

/-! ### parts by the library's Split -/

theorem isPre_one (a : List UInt8) : ([47] : List UInt8).isPrefixOf a = decide (a.head? = some 47) := by
  cases a with
  | nil => rfl
  | cons x r =>
    show ((47 : UInt8) == x && ([] : List UInt8).isPrefixOf r) = _
    rw [show ([] : List UInt8).isPrefixOf r = true by cases r <;> rfl, Bool.and_true, List.head?_cons]
    by_cases h : x = 47
    · rw [h]; rfl
    · rw [beq_eq_false_iff_ne.2 fun e => h e.symm, decide_eq_false fun e => h (Option.some.inj e)]

theorem byte_none : ∀ {a : List UInt8}, (47 : UInt8) ∉ a → Lib.indexByte a 47 = -1
  | [], _ => rfl
  | x :: r, h => by
    unfold Lib.indexByte
    rw [if_neg (fun e => h (by rw [beq_iff_eq.1 e]; exact List.mem_cons_self)), byte_none fun e => h (List.mem_cons_of_mem _ e)]
    rfl

theorem byte_at : ∀ {a b : List UInt8}, (47 : UInt8) ∉ a → Lib.indexByte (a ++ 47 :: b) 47 = a.length
  | [], b, _ => by unfold Lib.indexByte; rfl
  | x :: r, b, h => by
    have ih := byte_at (b := b) fun e => h (List.mem_cons_of_mem _ e)
    rw [List.cons_append]
    unfold Lib.indexByte
    rw [if_neg (fun e => h (by rw [beq_iff_eq.1 e]; exact List.mem_cons_self)), ih, if_neg (by rw [beq_iff_eq]; omega)]
    simp

theorem split_pieces : ∀ (n : Nat) (p : Bs), p.length ≤ n → ∀ k, Lib.count p [47] = k → Lib.splitK [47] 0 k p = pieces p
  | 0, p, h, k, hk => by
    have : p = [] := List.eq_nil_of_length_eq_zero (by omega)
    subst this
    have : k = 0 := by rw [← hk, Lib.count_one]; rfl
    subst this
    rfl
  | n + 1, p, h, k, hk => by
    rw [Lib.count_one] at hk
    rcases slash_cut p with hp | ⟨a, b, h1, h2, h3⟩
    · have : k = 0 := by rw [← hk]; exact List.count_eq_zero.2 hp
      subst this
      rw [pieces_one p hp]
      rfl
    · have hc : k = b.count 47 + 1 := by
        rw [← hk, h1, List.count_append, List.count_cons_self, List.count_eq_zero.2 h2]
        omega
      subst hc
      have hi : Lib.index p [47] = a.length := by rw [Lib.index_one, h1]; exact byte_at h2
      unfold Lib.splitK
      rw [if_neg (by rw [hi, beq_iff_eq]; omega), hi, Int.toNat_natCast]
      have e1 : p.take (a.length + 0) = a := by rw [h1]; simp
      have e2 : p.drop (a.length + [(47 : UInt8)].length) = b := by rw [h1]; simp
      rw [e1, e2, split_pieces n b (by omega) _ (Lib.count_one _ _), h1, pieces_slash, pieces_one a h2]
      rfl

theorem splitB_pieces (p : ByteArray) : (Lib.splitB ⟨#[47]⟩ 0 (Lib.countB p ⟨#[47]⟩) p).map (·.data.toList) = pieces p.data.toList := by
  rw [Lib.splitB_data]
  exact split_pieces _ _ (Nat.le_refl _) _ rfl

end Go.Proofs.YtbkijfhfjhpebaaGreatDoor.GraphMath

/-
  The landed path: which parts are none, which are too long; is a path from the root; the root.
-/
namespace Go.Proofs.YtbkijfhfjhpebaaGreatDoor
open Go.RowKit StampMath GraphMath OpMath

/-- Is it no part? -/
def noPart (a : ByteArray) : Bool := !isPart a.data.toList

set_option maxRecDepth 100000 in
theorem isNothing_code (s : ByteArray) (w : World) : Calls Tryz.prog 32 #[.string s] w fun e w' => e = .returned (.bool (noPart s)) ∧ w = w' := by
  have hq : ((s.toList == []) = true ∧ noPart s = true) ∨ ((s.toList == []) = false ∧ (s.toList == [46]) = noPart s) := by
    unfold noPart isPart
    rw [ByteArray.toList_eq]
    cases h : (s.data.toList == []) with
    | true => exact .inl ⟨rfl, rfl⟩
    | false =>
      refine .inr ⟨rfl, ?_⟩
      cases s.data.toList == [46] <;> rfl
  rcases hq with ⟨h1, h2⟩ | ⟨h1, h2⟩
  · rw [h2]
    have h3 : decide ((s.toList == []) = false) = false := by rw [h1]; rfl
    clear h2
    go_enter Tryz.func32, Tryz.ntmps32
    go_wp2_with fail
    go_ret
    exact ⟨rfl, rfl⟩
  · obtain ⟨b, hb⟩ : ∃ b, b = noPart s := ⟨_, rfl⟩
    rw [← hb] at h2 ⊢
    clear hb
    go_enter Tryz.func32, Tryz.ntmps32
    go_wp2_with fail
    go_ret
    exact ⟨rfl, rfl⟩

set_option maxRecDepth 100000 in
theorem isLong_code (s : ByteArray) (w : World) : Calls Tryz.prog 34 #[.string s] w fun e w' => e = .returned (.bool (decide (8 < s.data.toList.length))) ∧ w = w' := by
  have hz : (8 : Int) < (s.size : Int) ↔ 8 < s.data.toList.length := by
    rw [show s.size = s.data.toList.length from rfl]; omega
  go_enter Tryz.func34, Tryz.ntmps34
  go_wp2_with fail
  go_ret
  exact ⟨by congr 2, rfl⟩

end Go.Proofs.YtbkijfhfjhpebaaGreatDoor

/-
  Closures of the library's functions, laid at this program (made by the kit's lay-plain.mjs).
-/
namespace Go.Proofs
open Go.Shelf
def Tryz.splitS_ren : Go.Shelf.Ren := ⟨fun | 146 => 31 | 221 => 54 | 268 => 75 | 138 => 76 | 143 => 77 | 195 => 104 | 197 => 105 | 218 => 106 | 219 => 107 | 260 => 141 | 217 => 55 | 225 => 142 | 224 => 143 | 267 => 144 | 266 => 78 | 314 => 164 | n => n, fun | 9 => 9 | 31 => 46 | 3 => 3 | 4 => 4 | 0 => 0 | 105 => 149 | 21 => 21 | 5 => 5 | 46 => 114 | 119 => 190 | 139 => 193 | 138 => 192 | 146 => 194 | 51 => 141 | n => n, fun | 1 => 0 | 3 => 2 | 4 => 3 | n => n⟩
theorem Tryz.splitS : Go.Proofs.Lays.n146 Tryz.prog Tryz.splitS_ren := {
  mixed := by kernel_rfl
  f138 := Tryz.func76.trans (congrArg some (by kernel_rfl))
  f143 := Tryz.func77.trans (congrArg some (by kernel_rfl))
  f146 := Tryz.func31.trans (congrArg some (by kernel_rfl))
  f195 := Tryz.func104.trans (congrArg some (by kernel_rfl))
  f197 := Tryz.func105.trans (congrArg some (by kernel_rfl))
  f217 := Tryz.func55.trans (congrArg some (by kernel_rfl))
  f218 := Tryz.func106.trans (congrArg some (by kernel_rfl))
  f219 := Tryz.func107.trans (congrArg some (by kernel_rfl))
  f221 := Tryz.func54.trans (congrArg some (by kernel_rfl))
  f224 := Tryz.func143.trans (congrArg some (by kernel_rfl))
  f225 := Tryz.func142.trans (congrArg some (by kernel_rfl))
  f260 := Tryz.func141.trans (congrArg some (by kernel_rfl))
  f266 := Tryz.func78.trans (congrArg some (by kernel_rfl))
  f267 := Tryz.func144.trans (congrArg some (by kernel_rfl))
  f268 := Tryz.func75.trans (congrArg some (by kernel_rfl))
  f314 := Tryz.func164.trans (congrArg some (by kernel_rfl))
  t0 := Tryz.underlying0
  a0 := Tryz.isAgg0
  z0 := Tryz.sizeOf0
  v0 := Tryz.zeroValue0
  t3 := Tryz.underlying3
  a3 := Tryz.isAgg3
  z3 := Tryz.sizeOf3
  v3 := Tryz.zeroValue3
  t4 := Tryz.underlying4
  a4 := Tryz.isAgg4
  z4 := Tryz.sizeOf4
  v4 := Tryz.zeroValue4
  t5 := Tryz.underlying5
  a5 := Tryz.isAgg5
  z5 := Tryz.sizeOf5
  v5 := Tryz.zeroValue5
  t9 := Tryz.underlying9
  a9 := Tryz.isAgg9
  z9 := Tryz.sizeOf9
  v9 := Tryz.zeroValue9
  t21 := Tryz.underlying21
  a21 := Tryz.isAgg21
  z21 := Tryz.sizeOf21
  v21 := Tryz.zeroValue21
  t31 := Tryz.underlying46
  a31 := Tryz.isAgg46
  z31 := Tryz.sizeOf46
  v31 := Tryz.zeroValue46
  t46 := Tryz.underlying114
  a46 := Tryz.isAgg114
  z46 := Tryz.sizeOf114
  v46 := Tryz.zeroValue114
  t51 := Tryz.underlying141
  a51 := Tryz.isAgg141
  z51 := Tryz.sizeOf141
  v51 := Tryz.zeroValue141
  t105 := Tryz.underlying149
  a105 := Tryz.isAgg149
  z105 := Tryz.sizeOf149
  v105 := Tryz.zeroValue149
  t119 := Tryz.underlying190
  a119 := Tryz.isAgg190
  z119 := Tryz.sizeOf190
  t138 := Tryz.underlying192
  a138 := Tryz.isAgg192
  z138 := Tryz.sizeOf192
  v138 := Tryz.zeroValue192
  t139 := Tryz.underlying193
  a139 := Tryz.isAgg193
  z139 := Tryz.sizeOf193
  v139 := Tryz.zeroValue193
  t146 := Tryz.underlying194
  a146 := Tryz.isAgg194
  z146 := Tryz.sizeOf194
  v146 := Tryz.zeroValue194
  g1 := by kernel_rfl
  g3 := by kernel_rfl
  g4 := by kernel_rfl }
def Tryz.hasP_ren : Go.Shelf.Ren := ⟨fun | 99 => 49 | 206 => 72 | n => n, fun | 9 => 9 | 4 => 4 | 3 => 3 | n => n, fun | n => n⟩
theorem Tryz.hasP : Go.Proofs.Lays.n99 Tryz.prog Tryz.hasP_ren := {
  mixed := by kernel_rfl
  f99 := Tryz.func49.trans (congrArg some (by kernel_rfl))
  f206 := Tryz.func72.trans (congrArg some (by kernel_rfl))
  t3 := Tryz.underlying3
  a3 := Tryz.isAgg3
  z3 := Tryz.sizeOf3
  v3 := Tryz.zeroValue3
  t4 := Tryz.underlying4
  a4 := Tryz.isAgg4
  z4 := Tryz.sizeOf4
  v4 := Tryz.zeroValue4
  t9 := Tryz.underlying9
  a9 := Tryz.isAgg9
  z9 := Tryz.sizeOf9
  v9 := Tryz.zeroValue9 }
def Tryz.idxB_ren : Go.Shelf.Ren := ⟨fun | 137 => 35 | 217 => 55 | 266 => 78 | n => n, fun | 9 => 9 | 5 => 5 | 3 => 3 | n => n, fun | n => n⟩
theorem Tryz.idxB : Go.Proofs.Lays.n137 Tryz.prog Tryz.idxB_ren := {
  mixed := by kernel_rfl
  f137 := Tryz.func35.trans (congrArg some (by kernel_rfl))
  f217 := Tryz.func55.trans (congrArg some (by kernel_rfl))
  f266 := Tryz.func78.trans (congrArg some (by kernel_rfl))
  t3 := Tryz.underlying3
  a3 := Tryz.isAgg3
  z3 := Tryz.sizeOf3
  v3 := Tryz.zeroValue3
  t5 := Tryz.underlying5
  a5 := Tryz.isAgg5
  z5 := Tryz.sizeOf5
  v5 := Tryz.zeroValue5
  t9 := Tryz.underlying9
  a9 := Tryz.isAgg9
  z9 := Tryz.sizeOf9
  v9 := Tryz.zeroValue9 }
def Tryz.delS_ren : Go.Shelf.Ren := ⟨fun | 10 => 30 | 6 => 53 | n => n, fun | 22 => 46 | 23 => 9 | 25 => 50 | 3 => 3 | 4 => 4 | 0 => 0 | n => n, fun | n => n⟩
theorem Tryz.delS : Go.Proofs.SlLaysH.n10 Tryz.prog Tryz.delS_ren := {
  mixed := by kernel_rfl
  f6 := ⟨Tryz.f53.name, by decide, Tryz.func53.trans (congrArg some (by kernel_rfl))⟩
  f10 := ⟨Tryz.f30.name, by decide, Tryz.func30.trans (congrArg some (by kernel_rfl))⟩
  t0 := Tryz.underlying0
  a0 := Tryz.isAgg0
  z0 := Tryz.sizeOf0
  v0 := Tryz.zeroValue0
  t3 := Tryz.underlying3
  a3 := Tryz.isAgg3
  z3 := Tryz.sizeOf3
  v3 := Tryz.zeroValue3
  t4 := Tryz.underlying4
  a4 := Tryz.isAgg4
  z4 := Tryz.sizeOf4
  v4 := Tryz.zeroValue4
  t22 := Tryz.underlying46
  a22 := Tryz.isAgg46
  z22 := Tryz.sizeOf46
  v22 := Tryz.zeroValue46
  a23 := Tryz.isAgg9
  z23 := Tryz.sizeOf9
  t25 := Tryz.underlying50
  a25 := Tryz.isAgg50
  z25 := Tryz.sizeOf50
  v25 := Tryz.zeroValue50 }
def Tryz.conS_ren : Go.Shelf.Ren := ⟨fun | 8 => 33 | 6 => 53 | n => n, fun | 22 => 46 | 23 => 9 | 25 => 50 | 4 => 4 | 3 => 3 | 0 => 0 | n => n, fun | n => n⟩
theorem Tryz.conS : Go.Proofs.SlLaysH.n8 Tryz.prog Tryz.conS_ren := {
  mixed := by kernel_rfl
  f6 := ⟨Tryz.f53.name, by decide, Tryz.func53.trans (congrArg some (by kernel_rfl))⟩
  f8 := ⟨Tryz.f33.name, by decide, Tryz.func33.trans (congrArg some (by kernel_rfl))⟩
  t0 := Tryz.underlying0
  a0 := Tryz.isAgg0
  z0 := Tryz.sizeOf0
  v0 := Tryz.zeroValue0
  t3 := Tryz.underlying3
  a3 := Tryz.isAgg3
  z3 := Tryz.sizeOf3
  v3 := Tryz.zeroValue3
  t4 := Tryz.underlying4
  a4 := Tryz.isAgg4
  z4 := Tryz.sizeOf4
  v4 := Tryz.zeroValue4
  t22 := Tryz.underlying46
  a22 := Tryz.isAgg46
  z22 := Tryz.sizeOf46
  v22 := Tryz.zeroValue46
  a23 := Tryz.isAgg9
  z23 := Tryz.sizeOf9
  t25 := Tryz.underlying50
  a25 := Tryz.isAgg50
  z25 := Tryz.sizeOf50
  v25 := Tryz.zeroValue50 }
def Tryz.idxE_ren : Go.Shelf.Ren := ⟨fun | 6 => 47 | n => n, fun | 22 => 91 | 23 => 70 | 25 => 94 | 3 => 3 | 0 => 0 | 4 => 4 | n => n, fun | n => n⟩
theorem Tryz.idxE : Go.Proofs.SlLaysH0.n6 Tryz.prog Tryz.idxE_ren := {
  mixed := by kernel_rfl
  f6 := ⟨Tryz.f47.name, by decide, Tryz.func47.trans (congrArg some (by kernel_rfl))⟩
  t0 := Tryz.underlying0
  a0 := Tryz.isAgg0
  z0 := Tryz.sizeOf0
  v0 := Tryz.zeroValue0
  t3 := Tryz.underlying3
  a3 := Tryz.isAgg3
  z3 := Tryz.sizeOf3
  v3 := Tryz.zeroValue3
  t4 := Tryz.underlying4
  a4 := Tryz.isAgg4
  z4 := Tryz.sizeOf4
  v4 := Tryz.zeroValue4
  t22 := Tryz.underlying91
  a22 := Tryz.isAgg91
  z22 := Tryz.sizeOf91
  v22 := Tryz.zeroValue91
  t25 := Tryz.underlying94
  a25 := Tryz.isAgg94
  z25 := Tryz.sizeOf94
  v25 := Tryz.zeroValue94 }
end Go.Proofs
