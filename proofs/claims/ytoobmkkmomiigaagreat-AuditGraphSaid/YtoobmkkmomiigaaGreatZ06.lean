/-
  The shapes of a graph's maps: places as keys.
-/
import Derived.Test.YtoobmkkmomiigaaGreatZ02
import Derived.Test.YtoobmkkmomiigaaGreatZ00
import Derived.Test.YtoobmkkmomiigaaGreatZ01
import Derived.Test.YtoobmkkmomiigaaGreatZ01
import Derived.Test.YtoobmkkmomiigaaGreatRows
import Derived.Test.YtoobmkkmomiigaaGreatZ03
import Derived.Shelf.SlGeneric
import Derived.Shelf.SlLaysF0
import Derived.Test.YtoobmkkmomiigaaGreatProg
import Derived.Shelf.SlSortCmp.WholeK
import Derived.Shelf.SlSortCmp.NoneTotal
import Derived.Deep.Cut
namespace Go.Proofs.YtoobmkkmomiigaaGreat
open Go.RowKit StampMath GraphMath

def inoV (x : Ino) : Value := .agg (inoA x)
def plV (p : St × ByteArray) : Value := .agg #[.int .i64 p.1.1, .int .i64 p.1.2, .string p.2]

theorem plV_inj (x y : St × ByteArray) (h : plV x = plV y) : x = y := by
  unfold plV at h
  simp at h
  exact Prod.ext (Prod.ext h.1 h.2.1) h.2.2

theorem run_eqPl (a b : Int) (s : ByteArray) (c d : Int) (u : ByteArray) (W : World) : (Op.equalIn 10000 53 (.agg #[.int .i64 a, .int .i64 b, .string s]) (.agg #[.int .i64 c, .int .i64 d, .string u])).run Tryz.prog W = .ok (decide (((a, b), s) = ((c, d), u))) W := by
  go_simp
  by_cases h1 : a = c
  · by_cases h2 : b = d
    · by_cases h3 : s = u
      · simp [h1, h2, h3]
      · simp [h1, h2, h3]
        intro h4
        exact h3 (bytes_same h4)
    · simp [h1, h2]
  · simp [h1]

theorem checkKey_pl (w : World) (em : Bool) (n : Nat) (p : St × ByteArray) : (Instr.checkKey em (n + 3) 53 (plV p)).run Tryz.prog w = .ok () w := by
  refine checkKey_struct (n := n + 2) Tryz.underlying53 w em _ fun f hf => ?_
  simp at hf
  rcases hf with rfl | rfl
  · exact ⟨by decide, .agg (stA p.1), by unfold stA; go_simp, checkKey_st w em n p.1⟩
  · exact ⟨by decide, .string p.2, by go_simp, checkKey_string Tryz.underlying9 w em (n + 1) p.2⟩

theorem plShape : KShape Tryz.prog 53 plV :=
  KShape.of_equal (by kernel_rfl) plV_inj (fun w x y => run_eqPl x.1.1 x.1.2 x.2 y.1.1 y.1.2 y.2 w) (fun w em x => checkKey_pl w em 9997 x) (fun x => by
    unfold plV
    show Instr.sameBits (9999 + 1) _ _ = true
    simp [Instr.sameBits, MapKept.bytes_beq])

end Go.Proofs.YtoobmkkmomiigaaGreat

/-
  A graph as two maps: what stands in them, and what each call makes of them. It needs no program.
-/
namespace Go.Proofs.YtoobmkkmomiigaaGreat
open StampMath GraphMath

def pairsI (g : Gr) : List (St × Ino) := (inodesG g).map fun x => (x.id, x)
def pairsE (g : Gr) : List ((St × ByteArray) × St) := g.E.map fun e => ((e.dir, e.name), e.ino)

section
variable {K V : Type} [DecidableEq K]

omit [DecidableEq K] in
theorem nodup_of_keys {L : List (K × V)} (h : (L.map Prod.fst).Nodup) : L.Nodup := by
  unfold List.Nodup at h ⊢
  rw [List.pairwise_map] at h
  exact h.imp fun q e => q (by rw [e])

omit [DecidableEq K] in
theorem perm_by {L M : List (K × V)} (hL : (L.map Prod.fst).Nodup) (hM : (M.map Prod.fst).Nodup) (h : ∀ k v, (k, v) ∈ L ↔ (k, v) ∈ M) : L.Perm M :=
  (List.perm_ext_iff_of_nodup (nodup_of_keys hL) (nodup_of_keys hM)).2 fun p => h p.1 p.2

theorem mem_offL {L : List (K × V)} {x k : K} {v : V} : (k, v) ∈ offL L x ↔ (k, v) ∈ L ∧ k ≠ x := by
  unfold offL
  simp

theorem keys_offL {L : List (K × V)} (h : (L.map Prod.fst).Nodup) (x : K) : ((offL L x).map Prod.fst).Nodup :=
  List.Pairwise.sublist (List.Sublist.map _ List.filter_sublist) h

theorem keys_put {L : List (K × V)} (h : (L.map Prod.fst).Nodup) (x : K) (v : V) : (((x, v) :: offL L x).map Prod.fst).Nodup := by
  rw [List.map_cons, List.nodup_cons]
  refine ⟨fun hm => ?_, keys_offL h x⟩
  obtain ⟨⟨k, u⟩, hp, rfl⟩ := List.mem_map.1 hm
  exact (mem_offL.1 hp).2 rfl

/-- A map with one thing more is this one. -/
theorem put_perm {L M : List (K × V)} (hL : (L.map Prod.fst).Nodup) (hM : (M.map Prod.fst).Nodup) {x : K} {v : V} (h : ∀ k, lookL M k = if k = x then some v else lookL L k) : ((x, v) :: offL L x).Perm M := by
  refine perm_by (keys_put hL x v) hM fun k u => ?_
  rw [List.mem_cons, mem_offL, ← mem_lookL hM, h k, ← mem_lookL hL]
  by_cases hk : k = x
  · subst hk
    simp [eq_comm]
  · simp [hk]

/-- A map with one thing less is this one. -/
theorem off_perm {L M : List (K × V)} (hL : (L.map Prod.fst).Nodup) (hM : (M.map Prod.fst).Nodup) {x : K} (h : ∀ k, lookL M k = if k = x then none else lookL L k) : (offL L x).Perm M := by
  refine perm_by (keys_offL hL x) hM fun k u => ?_
  rw [mem_offL, ← mem_lookL hM, h k, ← mem_lookL hL]
  by_cases hk : k = x
  · simp [hk]
  · simp [hk]
end

theorem look_pairsI {g : Gr} (h : g.ok) (id : St) : lookL (pairsI g) id = getG g id := by
  unfold lookL pairsI
  rw [h.inodes, List.map_map, List.find?_map, Option.map_map]
  unfold getG
  cases hq : g.I.find? (fun x => decide (x.id = id)) with
  | none =>
    rw [show (g.I.find? ((fun p => decide (p.1 = id)) ∘ (fun x : Ino => (x.id, x)) ∘ fun x => { x with links := (linksE g.E x.id : Int) })) = g.I.find? (fun x => decide (x.id = id)) from rfl, hq]
    rfl
  | some x =>
    rw [show (g.I.find? ((fun p => decide (p.1 = id)) ∘ (fun x : Ino => (x.id, x)) ∘ fun x => { x with links := (linksE g.E x.id : Int) })) = g.I.find? (fun x => decide (x.id = id)) from rfl, hq]
    have := List.find?_some hq
    simp at this
    simp [this]

theorem look_pairsE (g : Gr) (d : St) (nm : ByteArray) : lookL (pairsE g) (d, nm) = lookE g.E d nm := by
  unfold lookL pairsE lookE
  rw [List.find?_map, Option.map_map]
  congr 1
  refine congrArg (fun f => List.find? f g.E) (funext fun e => ?_)
  by_cases h1 : e.dir = d
  · by_cases h2 : e.name = nm
    · simp [h1, h2]
    · simp [h1, h2]
  · simp [h1]

theorem keys_pairsI {g : Gr} (h : g.ok) : ((pairsI g).map Prod.fst).Nodup := by
  unfold pairsI
  rw [List.map_map, h.inodes, List.map_map]
  unfold List.Nodup
  rw [List.pairwise_map]
  exact h.sortI.imp fun {x y} q (e : x.id = y.id) => by
    rw [e, lessS_irrefl] at q
    cases q

theorem keys_pairsE {g : Gr} (h : g.ok) : ((pairsE g).map Prod.fst).Nodup := by
  unfold pairsE
  rw [List.map_map]
  unfold List.Nodup
  rw [List.pairwise_map]
  refine h.sortE.imp fun {x y} q e => ?_
  have e1 : x.dir = y.dir := congrArg (fun p => p.1) e
  have e2 : x.name = y.name := congrArg (fun p => p.2) e
  rcases (aheadE_iff x y).1 q with q | ⟨_, q⟩
  · rw [e1, lessS_irrefl] at q
    cases q
  · rw [e2] at q
    exact bytes_irrefl _ q

theorem get_iff {g : Gr} (h : g.ok) {k : St} {v : Ino} : getG g k = some v ↔ ∃ x ∈ g.I, x.id = k ∧ v = { x with links := (linksE g.E k : Int) } := by
  constructor
  · exact get_some
  · rintro ⟨x, hx, rfl, rfl⟩
    exact h.get hx

theorem look_iff {g : Gr} (h : g.ok) {d : St} {nm : ByteArray} {id : St} : lookE g.E d nm = some id ↔ (⟨d, nm, id⟩ : Ent) ∈ g.E := by
  rw [← look_pairsE, mem_lookL (keys_pairsE h)]
  unfold pairsE
  rw [List.mem_map]
  constructor
  · rintro ⟨e, he, q⟩
    have : e = ⟨d, nm, id⟩ := by
      obtain ⟨a, b, c⟩ := e
      simp only [Prod.mk.injEq] at q
      obtain ⟨⟨rfl, rfl⟩, rfl⟩ := q
      rfl
    rw [← this]
    exact he
  · intro he
    exact ⟨_, he, rfl⟩

/-- No entry is of what isn't there. -/
theorem links_none {g : Gr} (h : g.ok) {id : St} (hn : getG g id = none) : linksE g.E id = 0 := by
  unfold linksE
  rw [List.filter_eq_nil_iff.2 (fun e he q => ?_)]
  · rfl
  · obtain ⟨x, hx, e1⟩ := h.inos e he
    exact get_none hn x hx (e1.trans (by simpa using q))

/-! ### Make -/
theorem make_get {g : Gr} (h : g.ok) {id : St} {kind : Int} (h1 : (makeG g id kind).2 = 0) (k : St) :
    getG (makeG g id kind).1 k = if k = id then some ⟨id, kind, 0, 0, ⟨#[]⟩⟩ else getG g k := by
  have hok := h.make id kind
  unfold makeG at h1 hok ⊢
  by_cases c1 : mayB id.1 id.2 = false ∨ kind < 1 ∨ 3 < kind
  · rw [if_pos c1] at h1; cases h1
  rw [if_neg c1] at h1 hok ⊢
  by_cases c2 : (getG g id).isSome = true
  · rw [if_pos c2] at h1; cases h1
  rw [if_neg c2] at h1 hok ⊢
  by_cases c3 : 40 ≤ g.I.length
  · rw [if_pos c3] at h1; cases h1
  rw [if_neg c3] at hok ⊢
  have hn : getG g id = none := by cases hq : getG g id with | none => rfl | some _ => rw [hq] at c2; simp at c2
  refine Option.ext fun v => ?_
  rw [get_iff hok]
  simp only [putIn_mem]
  by_cases hk : k = id
  · subst hk
    rw [if_pos rfl]
    constructor
    · rintro ⟨x, rfl | hx, e1, rfl⟩
      · simp [links_none h hn]
      · exact absurd e1 (get_none hn x hx)
    · intro e
      injection e with e
      exact ⟨_, Or.inl rfl, rfl, by rw [← e]; simp [links_none h hn]⟩
  · rw [if_neg hk, get_iff h]
    constructor
    · rintro ⟨x, rfl | hx, e1, rfl⟩
      · exact absurd e1.symm hk
      · exact ⟨x, hx, e1, rfl⟩
    · rintro ⟨x, hx, e1, rfl⟩
      exact ⟨x, Or.inr hx, e1, rfl⟩

theorem make_ents (g : Gr) (id : St) (kind : Int) : (makeG g id kind).1.E = g.E := by
  unfold makeG
  split <;> try rfl
  split <;> try rfl
  split <;> rfl

/-! ### Tie -/
theorem tie_get {g : Gr} {b : Bool} {e : Ent} (h1 : (tieG b g e).2 = 0) (k : St) :
    getG (tieG b g e).1 k = (getG g k).map fun x => if k = e.ino then { x with links := x.links + 1 } else x := by
  unfold tieG at h1 ⊢
  by_cases c : whyG b g e = 0
  · rw [if_pos c]
    unfold getG
    simp only [linksE_put, Option.map_map]
    congr 1
    funext x
    by_cases hk : k = e.ino
    · subst hk
      simp
    · have hk' : ¬ e.ino = k := fun q => hk q.symm
      simp [hk, hk']
  · rw [if_neg c] at h1
    exact absurd h1 c

theorem tie_look {g : Gr} (h : g.ok) {b : Bool} {e : Ent} (h1 : (tieG b g e).2 = 0) (p : St × ByteArray) :
    lookL (pairsE (tieG b g e).1) p = if p = (e.dir, e.name) then some e.ino else lookL (pairsE g) p := by
  have hok := h.tie b e
  unfold tieG at h1 hok ⊢
  by_cases c : whyG b g e = 0
  · rw [if_pos c] at hok ⊢
    have hn : lookE g.E e.dir e.name = none := by
      cases hq : lookE g.E e.dir e.name with
      | none => rfl
      | some y =>
        unfold whyG at c
        split at c
        · cases c
        · split at c
          · split at c
            · cases c
            · rw [hq] at c
              simp at c
          · cases c
    obtain ⟨d, nm⟩ := p
    rw [look_pairsE, look_pairsE]
    refine Option.ext fun id => ?_
    rw [look_iff hok, putIn_mem]
    by_cases hp : (d, nm) = (e.dir, e.name)
    · rw [if_pos hp]
      simp only [Prod.mk.injEq] at hp
      obtain ⟨rfl, rfl⟩ := hp
      constructor
      · rintro (q | q)
        · rw [← q]
        · exact absurd ⟨rfl, rfl⟩ (look_none hn _ q)
      · intro q
        injection q with q
        exact Or.inl (by rw [← q])
    · rw [if_neg hp, look_iff h]
      constructor
      · rintro (q | q)
        · exact absurd (by rw [← q]) hp
        · exact q
      · exact Or.inr
  · rw [if_neg c] at h1
    exact absurd h1 c

/-! ### Untie -/
theorem untie_look {g : Gr} (h : g.ok) {d : St} {nm : ByteArray} {id : St} (h1 : lookE g.E d nm = some id) (p : St × ByteArray) :
    lookL (pairsE (untieG g d nm).1) p = if p = (d, nm) then none else lookL (pairsE g) p := by
  have hok := h.untie d nm
  unfold untieG at hok ⊢
  rw [h1] at hok ⊢
  simp only at hok ⊢
  obtain ⟨d', nm'⟩ := p
  rw [look_pairsE, look_pairsE]
  refine Option.ext fun u => ?_
  rw [look_iff hok, List.mem_filter]
  by_cases hp : (d', nm') = (d, nm)
  · rw [if_pos hp]
    simp only [Prod.mk.injEq] at hp
    obtain ⟨rfl, rfl⟩ := hp
    simp
  · rw [if_neg hp, look_iff h]
    have : (!(decide (d' = d) && decide (nm' = nm))) = true := by
      by_cases a : d' = d
      · by_cases c : nm' = nm
        · exact absurd (by rw [a, c]) hp
        · simp [c]
      · simp [a]
    constructor
    · exact fun q => q.1
    · exact fun q => ⟨q, this⟩

theorem untie_links {g : Gr} (h : g.ok) {d : St} {nm : ByteArray} {id : St} (h1 : lookE g.E d nm = some id) (k : St) :
    (linksE (g.E.filter fun e => !(decide (e.dir = d) && decide (e.name = nm))) k : Int) = (linksE g.E k : Int) - if k = id then 1 else 0 := by
  have hm := (look_iff h).1 h1
  have hnd : g.E.Nodup := by
    have q := keys_pairsE h
    unfold pairsE at q
    rw [List.map_map] at q
    unfold List.Nodup at q ⊢
    rw [List.pairwise_map] at q
    exact q.imp fun r e => r (by rw [e])
  have hu : ∀ e ∈ g.E, (!(decide (e.dir = d) && decide (e.name = nm))) = !decide (e = ⟨d, nm, id⟩) := by
    intro e he
    by_cases q : e = ⟨d, nm, id⟩
    · subst q; simp
    · have : ¬ (e.dir = d ∧ e.name = nm) := by
        rintro ⟨rfl, rfl⟩
        refine q ?_
        have r := (look_iff h (d := e.dir) (nm := e.name) (id := e.ino)).2 he
        rw [h1] at r
        injection r with r
        rw [r]
      simp only [q, decide_false, Bool.not_false, Bool.not_eq_true', Bool.and_eq_false_iff, decide_eq_false_iff_not]
      by_cases a : e.dir = d
      · exact Or.inr fun c => this ⟨a, c⟩
      · exact Or.inl a
  rw [List.filter_congr hu]
  obtain ⟨A, B, hE⟩ := List.append_of_mem hm
  rw [hE] at hnd ⊢
  have hA : ∀ e ∈ A, (!decide (e = (⟨d, nm, id⟩ : Ent))) = true := fun e he => by
    have := (List.nodup_append.1 hnd).2.2 e he ⟨d, nm, id⟩ (List.mem_cons_self ..)
    simp [this]
  have hB : ∀ e ∈ B, (!decide (e = (⟨d, nm, id⟩ : Ent))) = true := fun e he => by
    have q := (List.nodup_cons.1 (List.nodup_append.1 hnd).2.1).1
    have : e ≠ ⟨d, nm, id⟩ := fun r => q (r ▸ he)
    simp [this]
  rw [List.filter_append, List.filter_eq_self.2 hA, List.filter_cons_of_neg (by simp), List.filter_eq_self.2 hB]
  unfold linksE
  simp only [List.filter_append, List.filter_cons, List.length_append]
  by_cases hk : k = id
  · subst hk
    simp
    omega
  · have hk' : ¬ id = k := fun q => hk q.symm
    simp [hk, hk']

theorem untie_get {g : Gr} (h : g.ok) {d : St} {nm : ByteArray} {id : St} (h1 : lookE g.E d nm = some id) (k : St) :
    getG (untieG g d nm).1 k = (getG g k).map fun x => if k = id then { x with links := x.links - 1 } else x := by
  unfold untieG
  rw [h1]
  unfold getG
  simp only [untie_links h h1, Option.map_map]
  congr 1
  funext x
  by_cases hk : k = id
  · simp [hk]
  · simp [hk]

/-! ### Drop -/
theorem drop_get {g : Gr} (h : g.ok) {id : St} (h1 : (dropG g id).2 = 0) (k : St) : getG (dropG g id).1 k = if k = id then none else getG g k := by
  have hok := h.drop id
  cases hq : getG g id with
  | none =>
    unfold dropG at h1
    rw [hq] at h1
    cases h1
  | some x =>
    unfold dropG at h1 hok ⊢
    rw [hq] at h1 hok ⊢
    simp only at h1 hok ⊢
    by_cases c1 : id = (0, 0)
    · rw [if_pos c1] at h1; cases h1
    rw [if_neg c1] at h1 hok ⊢
    by_cases c2 : 0 < x.links ∨ 0 < (listE g.E id).length
    · rw [if_pos c2] at h1; cases h1
    rw [if_neg c2] at hok ⊢
    refine Option.ext fun v => ?_
    rw [get_iff hok]
    simp only [List.mem_filter]
    by_cases hk : k = id
    · subst hk
      rw [if_pos rfl]
      constructor
      · rintro ⟨y, ⟨_, hy⟩, e1, _⟩
        simp [e1] at hy
      · intro q; cases q
    · rw [if_neg hk, get_iff h]
      constructor
      · rintro ⟨y, ⟨hy, _⟩, e1, rfl⟩
        exact ⟨y, hy, e1, rfl⟩
      · rintro ⟨y, hy, e1, rfl⟩
        refine ⟨y, ⟨hy, ?_⟩, e1, rfl⟩
        have : ¬ y.id = id := fun q => hk (e1.symm.trans q)
        simp [this]

theorem drop_ents (g : Gr) (id : St) : (dropG g id).1.E = g.E := by
  unfold dropG
  split
  · rfl
  · split
    · rfl
    · split <;> rfl

/-! ### Set -/
theorem set_get {g : Gr} {id : St} {mode : Int} {data : ByteArray} (k : St) :
    getG (setG g id mode data).1 k = (getG g k).map fun x => if k = id then { x with mode := mode, data := data } else x := by
  have hx : ∀ {x : Ino} {s : St}, g.I.find? (fun x => decide (x.id = s)) = some x → x.id = s := fun h => by
    have := List.find?_some h
    simpa using this
  cases hq : getG g id with
  | none =>
    unfold setG
    rw [hq]
    cases hk : getG g k with
    | none => rfl
    | some x =>
      have : ¬ k = id := fun q => by rw [q, hq] at hk; cases hk
      simp [this]
  | some y =>
    unfold setG
    rw [hq]
    unfold getG
    simp only [List.find?_map, Option.map_map]
    have e : ((fun x : Ino => decide (x.id = k)) ∘ fun x => if x.id = id then { x with mode := mode, data := data } else x) = fun x => decide (x.id = k) := by
      funext x
      simp only [Function.comp]
      split <;> rfl
    rw [e]
    cases hf : g.I.find? (fun x => decide (x.id = k)) with
    | none => rfl
    | some x =>
      have hxk := hx hf
      simp only [Option.map_some, Function.comp, Option.some.injEq]
      by_cases hk : k = id
      · have : x.id = id := hxk.trans hk
        simp [hk, this]
      · have : ¬ x.id = id := fun r => hk (hxk.symm.trans r)
        simp [hk, this]

theorem set_ents (g : Gr) (id : St) (mode : Int) (data : ByteArray) : (setG g id mode data).1.E = g.E := by
  unfold setG
  split <;> rfl

end Go.Proofs.YtoobmkkmomiigaaGreat

/-
  Entries are few. It needs no program.
-/
namespace Go.Proofs.YtoobmkkmomiigaaGreat
open StampMath GraphMath

/-- Entries are few. -/
theorem ents_few : ∀ (ids : List St) (E : List Ent), (∀ e ∈ E, e.ino ∈ ids) → (∀ id, linksE E id ≤ 6) → E.length ≤ 6 * ids.length
  | [], E, h, _ => by
    cases E with
    | nil => simp
    | cons e l => exact absurd (h e (List.mem_cons_self ..)) (by simp)
  | d :: ids, E, h, h6 => by
    have h1 : (E.filter fun e => decide (e.ino = d)).length ≤ 6 := h6 d
    have h2 := ents_few ids (E.filter fun e => !decide (e.ino = d)) (fun e he => by
      have hm := List.mem_filter.1 he
      have hne : ¬ e.ino = d := by simpa using hm.2
      rcases List.mem_cons.1 (h e hm.1) with q | q
      · exact absurd q hne
      · exact q) (fun id => by
      refine Nat.le_trans ?_ (h6 id)
      unfold linksE
      exact (List.filter_sublist.filter _).length_le)
    have h3 : ∀ l : List Ent, l.length = (l.filter fun e => decide (e.ino = d)).length + (l.filter fun e => !decide (e.ino = d)).length := by
      intro l
      induction l with
      | nil => rfl
      | cons e l ih =>
        by_cases q : e.ino = d
        · simp [q]; omega
        · simp [q]; omega
    rw [h3 E, List.length_cons]
    omega

theorem GraphMath.Gr.ok.entsFew {g : Gr} (h : g.ok) : g.E.length ≤ 240 := by
  have h1 := ents_few (g.I.map fun x => x.id) g.E (fun e he => by
    obtain ⟨x, hx, e1⟩ := h.inos e he
    exact List.mem_map.2 ⟨x, hx, e1⟩) h.six
  rw [List.length_map] at h1
  have := h.few
  omega

end Go.Proofs.YtoobmkkmomiigaaGreat

/-
  The code of package graph (as it landed): a graph in memory is a block of two maps; root, Get.
-/
namespace Go.Proofs.YtoobmkkmomiigaaGreat
open Go.RowKit StampMath GraphMath

/-- A graph in memory. -/
def GIn (W : World) (S : Nat → Prop) (a : Addr) (g : Gr) : Prop :=
  ∃ b bi be, a = ⟨b, 0, none⟩ ∧ b ≠ bi ∧ b ≠ be ∧ bi ≠ be ∧ W.heap[b]? = some (.cells #[.map (some bi), .map (some be)] 48 (0, 0)) ∧
    KMap stV inoV W bi (pairsI g) ∧ KMap plV stV W be (pairsE g) ∧ ∀ i, S i ↔ i = b ∨ i = bi ∨ i = be

theorem GIn.lt {W : World} {S : Nat → Prop} {a : Addr} {g : Gr} (h : GIn W S a g) : ∀ i, S i → i < W.heap.size := by
  obtain ⟨b, bi, be, rfl, _, _, _, hb, hi, he, hS⟩ := h
  intro i hs
  rcases (hS i).1 hs with rfl | rfl | rfl
  · exact heap_lt hb
  · exact hi.lt
  · exact he.lt

theorem GIn.keep {W W' : World} {S : Nat → Prop} {a : Addr} {g : Gr} (h : GIn W S a g) (hk : ∀ i, S i → W'.heap[i]? = W.heap[i]?) : GIn W' S a g := by
  obtain ⟨b, bi, be, rfl, h1, h2, h3, hb, hi, he, hS⟩ := h
  exact ⟨b, bi, be, rfl, h1, h2, h3, (hk b ((hS b).2 (.inl rfl))).trans hb, hi.kept (hk bi ((hS bi).2 (.inr (.inl rfl)))), he.kept (hk be ((hS be).2 (.inr (.inr rfl)))), hS⟩

theorem zeroIno (w : World) : (zeroValue 41).run Tryz.prog w = .ok (inoV noIno) w := by kernel_rfl
theorem zeroSt (w : World) : (zeroValue 31).run Tryz.prog w = .ok (stV (0, 0)) w := by kernel_rfl

theorem root_any (w : World) : Calls Tryz.prog 13 #[] w fun e w' => e = .returned (.agg #[.int .i64 0, .int .i64 0]) ∧ Below w.heap.size w w' := by
  go_enter Tryz.func13, Tryz.ntmps13
  go_wp2_with fail
  obtain ⟨z0, z1⟩ := two_cells (heap_alloc_new w (.cells #[.int .i64 0, .int .i64 0] 31))
  exact bodyPost_ret (v := .agg #[.int .i64 0, .int .i64 0]) (by simp [results, Tryz.results13, go_sem, z0, z1]) rfl ⟨rfl, (Below.refl _ _).alloc (Nat.le_refl _) _⟩

set_option maxRecDepth 100000 in
theorem get_code (a : Addr) (S : Nat → Prop) (g : Gr) (id : St) (w : World) (h : GIn w S a g) (hg : g.ok) :
    Calls Tryz.prog 15 #[.pointer (some a), .agg (stA id)] w fun e w' => e = .returned (.tuple #[.agg (inoA ((getG g id).getD noIno)), .bool (getG g id).isSome]) ∧ Below w.heap.size w w' := by
  obtain ⟨b, bi, be, rfl, h1, h2, h3, hb, hi, he, hS⟩ := h
  obtain ⟨c0, c1⟩ := two_cells hb
  obtain ⟨ok, hok⟩ : ∃ ok, ok = (getG g id).isSome := ⟨_, rfl⟩
  obtain ⟨v, hv⟩ : ∃ v, v = (getG g id).getD noIno := ⟨_, rfl⟩
  rw [← hok, ← hv]
  have hlook : ∀ W : World, Hid (Below w.heap.size w W) → (Instr.lookup 45 (.map (some bi)) (.agg #[.int .i64 id.1, .int .i64 id.2]) true).run Tryz.prog W = .ok (.tuple #[.agg #[.int .i64 v.id.1, .int .i64 v.id.2, .int .i64 v.kind, .int .i64 v.links, .int .i64 v.mode, .string v.data], .bool ok]) W := fun W hW => by
    have hl := (hi.kept (hW.out.block bi hi.lt)).look stShape Tryz.underlying45 (zeroIno W) id true
    rw [look_pairsI hg, if_pos rfl, show ((getG g id).map inoV).getD (inoV noIno) = inoV v by rw [hv]; cases getG g id <;> rfl, ← hok] at hl
    exact hl
  have hlt := heap_lt hb
  have HL := Lib.hid hlook
  clear hi he hb hS hlook hok hv
  unfold stA
  go_enter Tryz.func15, Tryz.ntmps15
  go_wp2_with fail
  have hbW : Below w.heap.size w ((w.alloc (.cells #[.int .i64 id.1, .int .i64 id.2] 31)).alloc (.cells #[.int .i64 0, .int .i64 0, .int .i64 0, .int .i64 0, .int .i64 0, .string ⟨#[]⟩] 41)) := ((Below.refl _ _).alloc (Nat.le_refl _) _).alloc (by simp) _
  have hb1 := (hbW.alloc hbW.size (.cells #[.int .i64 0, .int .i64 0, .int .i64 0, .int .i64 0, .int .i64 0, .string ⟨#[]⟩] 41)).drew
  have d0 := (hb1.cell (p := ⟨b, 0, none⟩) hlt).trans c0
  have hl := HL.out _ hb1
  have c0w := (hbW.cell (p := ⟨b, 0, none⟩) hlt).trans c0
  have hl0 := HL.out _ hbW.drew
  have HB := Lib.hid hbW
  clear hbW hb1
  go_region
  all_goals clear d0 hl c0w hl0
  all_goals go_wp2_with fail
  all_goals exact bodyPost_ret (v := .tuple #[.agg (inoA v), .bool ok]) (by simp [results, Tryz.results15, go_sem, inoA]) rfl ⟨rfl, by
    repeat (first | exact Below.refl _ _ | apply Below.drew | refine Below.alloc ?_ (by simp <;> omega) _)⟩

end Go.Proofs.YtoobmkkmomiigaaGreat

/-
  The walk of the landed order of entries, with what it leaves.
-/
namespace Go.Proofs.YtoobmkkmomiigaaGreat
open Go.RowKit StampMath GraphMath

set_option maxRecDepth 100000 in
set_option maxHeartbeats 1600000 in
theorem ahead_grown (x y : Ent) (w : World) :
    Calls Tryz.prog 62 #[.agg (entA x), .agg (entA y)] w fun e w' => e = .returned (.int .i64 (aheadI x y)) ∧ Grown w w' := by
  have hv : or2 (cmp x.dir.1 x.dir.2 y.dir.1 y.dir.2) (cmpB x.name.data.toList y.name.data.toList) = aheadI x y := rfl
  obtain ⟨⟨xd1, xd2⟩, xn, ⟨xi1, xi2⟩⟩ := x
  obtain ⟨⟨yd1, yd2⟩, yn, ⟨yi1, yi2⟩⟩ := y
  unfold entA
  obtain ⟨c, hc⟩ : ∃ c, c = cmp xd1 xd2 yd1 yd2 := ⟨_, rfl⟩
  obtain ⟨k, hk⟩ : ∃ k, k = cmpB xn.data.toList yn.data.toList := ⟨_, rfl⟩
  simp only [← hc, ← hk] at hv
  have HC : Hid (∀ W : World, Calls Tryz.prog 29 #[.agg #[.int .i64 xd1, .int .i64 xd2], .agg #[.int .i64 yd1, .int .i64 yd2]] W fun e w' => e = .returned (.int .i64 c) ∧ Grown W w') := fun W => by rw [hc]; exact compare_grown _ _ _ _ W
  have HK : Hid (∀ W : World, Calls Tryz.prog 65 #[.string xn, .string yn] W fun e w' => e = .returned (.int .i64 k) ∧ W = w') := fun W => by rw [hk]; exact compareStr _ _ W
  have HV := Lib.hid hv
  clear hv hc hk
  go_enter Tryz.func62, Tryz.ntmps62
  go_wp2_with fail
  have hS0 : (((w.alloc (.cells #[.int .i64 xd1, .int .i64 xd2, .string xn, .int .i64 xi1, .int .i64 xi2] 34)).alloc (.cells #[.int .i64 yd1, .int .i64 yd2, .string yn, .int .i64 yi1, .int .i64 yi2] 34)).drew.cell? ⟨w.heap.size, 0, none⟩ = some (.int .i64 xd1) ∧ ((w.alloc (.cells #[.int .i64 xd1, .int .i64 xd2, .string xn, .int .i64 xi1, .int .i64 xi2] 34)).alloc (.cells #[.int .i64 yd1, .int .i64 yd2, .string yn, .int .i64 yi1, .int .i64 yi2] 34)).drew.cell? ⟨w.heap.size, 1, none⟩ = some (.int .i64 xd2) ∧ ((w.alloc (.cells #[.int .i64 xd1, .int .i64 xd2, .string xn, .int .i64 xi1, .int .i64 xi2] 34)).alloc (.cells #[.int .i64 yd1, .int .i64 yd2, .string yn, .int .i64 yi1, .int .i64 yi2] 34)).drew.cell? ⟨w.heap.size, 2, none⟩ = some (.string xn) ∧ ((w.alloc (.cells #[.int .i64 xd1, .int .i64 xd2, .string xn, .int .i64 xi1, .int .i64 xi2] 34)).alloc (.cells #[.int .i64 yd1, .int .i64 yd2, .string yn, .int .i64 yi1, .int .i64 yi2] 34)).drew.cell? ⟨w.heap.size + 1, 0, none⟩ = some (.int .i64 yd1) ∧ ((w.alloc (.cells #[.int .i64 xd1, .int .i64 xd2, .string xn, .int .i64 xi1, .int .i64 xi2] 34)).alloc (.cells #[.int .i64 yd1, .int .i64 yd2, .string yn, .int .i64 yi1, .int .i64 yi2] 34)).drew.cell? ⟨w.heap.size + 1, 1, none⟩ = some (.int .i64 yd2) ∧ ((w.alloc (.cells #[.int .i64 xd1, .int .i64 xd2, .string xn, .int .i64 xi1, .int .i64 xi2] 34)).alloc (.cells #[.int .i64 yd1, .int .i64 yd2, .string yn, .int .i64 yi1, .int .i64 yi2] 34)).drew.cell? ⟨w.heap.size + 1, 2, none⟩ = some (.string yn)) ∧ Grown w ((w.alloc (.cells #[.int .i64 xd1, .int .i64 xd2, .string xn, .int .i64 xi1, .int .i64 xi2] 34)).alloc (.cells #[.int .i64 yd1, .int .i64 yd2, .string yn, .int .i64 yi1, .int .i64 yi2] 34)).drew := by
    refine ⟨⟨?_, ?_, ?_, ?_, ?_, ?_⟩, (((Grown.refl _).alloc _).alloc _).drew⟩
    · exact cell_of_row _ _ 0 _ _ (0, 0) (heap_alloc2_old w _ _)
    · exact cell_of_row _ _ 1 _ _ (0, 0) (heap_alloc2_old w _ _)
    · exact cell_of_row _ _ 2 _ _ (0, 0) (heap_alloc2_old w _ _)
    · exact cell_of_row _ _ 0 _ _ (0, 0) (heap_alloc2_new w _ _)
    · exact cell_of_row _ _ 1 _ _ (0, 0) (heap_alloc2_new w _ _)
    · exact cell_of_row _ _ 2 _ _ (0, 0) (heap_alloc2_new w _ _)
  go_region_held3 (fun W => (W.cell? ⟨w.heap.size, 0, none⟩ = some (.int .i64 xd1) ∧ W.cell? ⟨w.heap.size, 1, none⟩ = some (.int .i64 xd2) ∧ W.cell? ⟨w.heap.size, 2, none⟩ = some (.string xn) ∧ W.cell? ⟨w.heap.size + 1, 0, none⟩ = some (.int .i64 yd1) ∧ W.cell? ⟨w.heap.size + 1, 1, none⟩ = some (.int .i64 yd2) ∧ W.cell? ⟨w.heap.size + 1, 2, none⟩ = some (.string yn)) ∧ Grown w W) (first | assumption | exact cells6_alloc _ (by assumption) | (refine ⟨⟨?_, ?_, ?_, ?_, ?_, ?_⟩, ?_⟩ <;> assumption))
    (first
      | (go_at_call 29; (with_reducible refine (HC.out _).mono ?_); rintro e w' ⟨rfl, hg⟩; have hS := cells6_later hg ‹(_ ∧ _ ∧ _ ∧ _ ∧ _ ∧ _) ∧ Grown w _›)
      | (go_at_call 65; (with_reducible refine (HK.out _).mono ?_); rintro e w' ⟨rfl, rfl⟩; have hS := ‹(_ ∧ _ ∧ _ ∧ _ ∧ _ ∧ _) ∧ Grown w _›)
      | (go_at_call 58; refine (or_any _ c k _ ?_ ?_).mono ?_; exact (cell_two _ _ _ _).1; exact (cell_two _ _ _ _).2; rintro e w' ⟨rfl, rfl⟩; have hS := ‹(_ ∧ _ ∧ _ ∧ _ ∧ _ ∧ _) ∧ Grown w _›))
  have hB := (show Grown w _ from And.right ‹(_ ∧ _ ∧ _ ∧ _ ∧ _ ∧ _) ∧ Grown w _›)
  clear hS0
  go_wp2_with fail
  go_ret
  exact ⟨by rw [← HV.out]; rfl, hB⟩

end Go.Proofs.YtoobmkkmomiigaaGreat

/-
  Closures of the library's functions, laid at this program (made by the kit's lay-plain.mjs).
-/
namespace Go.Proofs
open Go.Shelf
def Tryz.sortIno_ren : Go.Shelf.Ren := ⟨fun | 6 => 56 | 15 => 72 | 14 => 71 | 28 => 86 | 29 => 87 | 20 => 78 | 21 => 79 | 22 => 80 | 23 => 81 | 24 => 82 | 25 => 83 | 26 => 84 | 27 => 85 | 46 => 97 | 47 => 98 | 48 => 99 | 49 => 100 | 50 => 101 | 57 => 106 | n => n, fun | 22 => 36 | 24 => 41 | 25 => 66 | 3 => 3 | 39 => 106 | 0 => 0 | 53 => 118 | 55 => 120 | 4 => 4 | 46 => 112 | 45 => 111 | 50 => 96 | 5 => 5 | 9 => 9 | 66 => 126 | 70 => 130 | 76 => 134 | 77 => 135 | n => n, fun | n => n⟩
theorem Tryz.sortIno : Go.Proofs.SlLaysF0.n6 Tryz.prog Tryz.sortIno_ren := {
  mixed := by kernel_rfl
  f6 := ⟨Tryz.f56.name, by decide, Tryz.func56.trans (congrArg some (by kernel_rfl))⟩
  f14 := ⟨Tryz.f71.name, by decide, Tryz.func71.trans (congrArg some (by kernel_rfl))⟩
  f15 := Tryz.func72.trans (congrArg some (by kernel_rfl))
  f20 := ⟨Tryz.f78.name, by decide, Tryz.func78.trans (congrArg some (by kernel_rfl))⟩
  f21 := ⟨Tryz.f79.name, by decide, Tryz.func79.trans (congrArg some (by kernel_rfl))⟩
  f22 := ⟨Tryz.f80.name, by decide, Tryz.func80.trans (congrArg some (by kernel_rfl))⟩
  f23 := ⟨Tryz.f81.name, by decide, Tryz.func81.trans (congrArg some (by kernel_rfl))⟩
  f24 := ⟨Tryz.f82.name, by decide, Tryz.func82.trans (congrArg some (by kernel_rfl))⟩
  f25 := ⟨Tryz.f83.name, by decide, Tryz.func83.trans (congrArg some (by kernel_rfl))⟩
  f26 := ⟨Tryz.f84.name, by decide, Tryz.func84.trans (congrArg some (by kernel_rfl))⟩
  f27 := ⟨Tryz.f85.name, by decide, Tryz.func85.trans (congrArg some (by kernel_rfl))⟩
  f28 := Tryz.func86.trans (congrArg some (by kernel_rfl))
  f29 := Tryz.func87.trans (congrArg some (by kernel_rfl))
  f46 := ⟨Tryz.f97.name, by decide, Tryz.func97.trans (congrArg some (by kernel_rfl))⟩
  f47 := Tryz.func98.trans (congrArg some (by kernel_rfl))
  f48 := Tryz.func99.trans (congrArg some (by kernel_rfl))
  f49 := ⟨Tryz.f100.name, by decide, Tryz.func100.trans (congrArg some (by kernel_rfl))⟩
  f50 := ⟨Tryz.f101.name, by decide, Tryz.func101.trans (congrArg some (by kernel_rfl))⟩
  f57 := ⟨Tryz.f106.name, by decide, Tryz.func106.trans (congrArg some (by kernel_rfl))⟩
  t0 := Tryz.underlying0
  a0 := Tryz.isAgg0
  z0 := Tryz.sizeOf0
  v0 := Tryz.zeroValue0
  t3 := Tryz.underlying3
  a3 := Tryz.isAgg3
  z3 := Tryz.sizeOf3
  v3 := Tryz.zeroValue3
  t4 := Tryz.underlying4
  a4 := Tryz.isAgg4
  z4 := Tryz.sizeOf4
  v4 := Tryz.zeroValue4
  t5 := Tryz.underlying5
  a5 := Tryz.isAgg5
  z5 := Tryz.sizeOf5
  v5 := Tryz.zeroValue5
  t9 := Tryz.underlying9
  a9 := Tryz.isAgg9
  z9 := Tryz.sizeOf9
  v9 := Tryz.zeroValue9
  t22 := Tryz.underlying36
  a22 := Tryz.isAgg36
  z22 := Tryz.sizeOf36
  v22 := Tryz.zeroValue36
  t25 := Tryz.underlying66
  a25 := Tryz.isAgg66
  z25 := Tryz.sizeOf66
  v25 := Tryz.zeroValue66
  t39 := Tryz.underlying106
  a39 := Tryz.isAgg106
  z39 := Tryz.sizeOf106
  v39 := Tryz.zeroValue106
  t45 := Tryz.underlying111
  a45 := Tryz.isAgg111
  z45 := Tryz.sizeOf111
  v45 := Tryz.zeroValue111
  t46 := Tryz.underlying112
  a46 := Tryz.isAgg112
  z46 := Tryz.sizeOf112
  v46 := Tryz.zeroValue112
  t50 := Tryz.underlying96
  a50 := Tryz.isAgg96
  z50 := Tryz.sizeOf96
  v50 := Tryz.zeroValue96
  t53 := Tryz.underlying118
  a53 := Tryz.isAgg118
  z53 := Tryz.sizeOf118
  v53 := Tryz.zeroValue118
  t55 := Tryz.underlying120
  a55 := Tryz.isAgg120
  z55 := Tryz.sizeOf120
  v55 := Tryz.zeroValue120
  t66 := Tryz.underlying126
  a66 := Tryz.isAgg126
  z66 := Tryz.sizeOf126
  v66 := Tryz.zeroValue126
  t70 := Tryz.underlying130
  a70 := Tryz.isAgg130
  z70 := Tryz.sizeOf130
  v70 := Tryz.zeroValue130
  t76 := Tryz.underlying134
  a76 := Tryz.isAgg134
  z76 := Tryz.sizeOf134
  v76 := Tryz.zeroValue134
  t77 := Tryz.underlying135
  a77 := Tryz.isAgg135
  z77 := Tryz.sizeOf135
  v77 := Tryz.zeroValue135 }
def Tryz.sortEnt_ren : Go.Shelf.Ren := ⟨fun | 6 => 61 | 15 => 72 | 14 => 75 | 28 => 86 | 29 => 87 | 20 => 88 | 21 => 89 | 22 => 90 | 23 => 91 | 24 => 92 | 25 => 93 | 26 => 94 | 27 => 95 | 46 => 102 | 47 => 98 | 48 => 99 | 49 => 103 | 50 => 104 | 57 => 107 | n => n, fun | 22 => 24 | 24 => 34 | 25 => 76 | 3 => 3 | 39 => 106 | 0 => 0 | 53 => 118 | 55 => 120 | 4 => 4 | 46 => 112 | 45 => 111 | 50 => 96 | 5 => 5 | 9 => 9 | 66 => 126 | 70 => 130 | 76 => 134 | 77 => 135 | n => n, fun | n => n⟩
theorem Tryz.sortEnt : Go.Proofs.SlLaysF0.n6 Tryz.prog Tryz.sortEnt_ren := {
  mixed := by kernel_rfl
  f6 := ⟨Tryz.f61.name, by decide, Tryz.func61.trans (congrArg some (by kernel_rfl))⟩
  f14 := ⟨Tryz.f75.name, by decide, Tryz.func75.trans (congrArg some (by kernel_rfl))⟩
  f15 := Tryz.func72.trans (congrArg some (by kernel_rfl))
  f20 := ⟨Tryz.f88.name, by decide, Tryz.func88.trans (congrArg some (by kernel_rfl))⟩
  f21 := ⟨Tryz.f89.name, by decide, Tryz.func89.trans (congrArg some (by kernel_rfl))⟩
  f22 := ⟨Tryz.f90.name, by decide, Tryz.func90.trans (congrArg some (by kernel_rfl))⟩
  f23 := ⟨Tryz.f91.name, by decide, Tryz.func91.trans (congrArg some (by kernel_rfl))⟩
  f24 := ⟨Tryz.f92.name, by decide, Tryz.func92.trans (congrArg some (by kernel_rfl))⟩
  f25 := ⟨Tryz.f93.name, by decide, Tryz.func93.trans (congrArg some (by kernel_rfl))⟩
  f26 := ⟨Tryz.f94.name, by decide, Tryz.func94.trans (congrArg some (by kernel_rfl))⟩
  f27 := ⟨Tryz.f95.name, by decide, Tryz.func95.trans (congrArg some (by kernel_rfl))⟩
  f28 := Tryz.func86.trans (congrArg some (by kernel_rfl))
  f29 := Tryz.func87.trans (congrArg some (by kernel_rfl))
  f46 := ⟨Tryz.f102.name, by decide, Tryz.func102.trans (congrArg some (by kernel_rfl))⟩
  f47 := Tryz.func98.trans (congrArg some (by kernel_rfl))
  f48 := Tryz.func99.trans (congrArg some (by kernel_rfl))
  f49 := ⟨Tryz.f103.name, by decide, Tryz.func103.trans (congrArg some (by kernel_rfl))⟩
  f50 := ⟨Tryz.f104.name, by decide, Tryz.func104.trans (congrArg some (by kernel_rfl))⟩
  f57 := ⟨Tryz.f107.name, by decide, Tryz.func107.trans (congrArg some (by kernel_rfl))⟩
  t0 := Tryz.underlying0
  a0 := Tryz.isAgg0
  z0 := Tryz.sizeOf0
  v0 := Tryz.zeroValue0
  t3 := Tryz.underlying3
  a3 := Tryz.isAgg3
  z3 := Tryz.sizeOf3
  v3 := Tryz.zeroValue3
  t4 := Tryz.underlying4
  a4 := Tryz.isAgg4
  z4 := Tryz.sizeOf4
  v4 := Tryz.zeroValue4
  t5 := Tryz.underlying5
  a5 := Tryz.isAgg5
  z5 := Tryz.sizeOf5
  v5 := Tryz.zeroValue5
  t9 := Tryz.underlying9
  a9 := Tryz.isAgg9
  z9 := Tryz.sizeOf9
  v9 := Tryz.zeroValue9
  t22 := Tryz.underlying24
  a22 := Tryz.isAgg24
  z22 := Tryz.sizeOf24
  v22 := Tryz.zeroValue24
  t25 := Tryz.underlying76
  a25 := Tryz.isAgg76
  z25 := Tryz.sizeOf76
  v25 := Tryz.zeroValue76
  t39 := Tryz.underlying106
  a39 := Tryz.isAgg106
  z39 := Tryz.sizeOf106
  v39 := Tryz.zeroValue106
  t45 := Tryz.underlying111
  a45 := Tryz.isAgg111
  z45 := Tryz.sizeOf111
  v45 := Tryz.zeroValue111
  t46 := Tryz.underlying112
  a46 := Tryz.isAgg112
  z46 := Tryz.sizeOf112
  v46 := Tryz.zeroValue112
  t50 := Tryz.underlying96
  a50 := Tryz.isAgg96
  z50 := Tryz.sizeOf96
  v50 := Tryz.zeroValue96
  t53 := Tryz.underlying118
  a53 := Tryz.isAgg118
  z53 := Tryz.sizeOf118
  v53 := Tryz.zeroValue118
  t55 := Tryz.underlying120
  a55 := Tryz.isAgg120
  z55 := Tryz.sizeOf120
  v55 := Tryz.zeroValue120
  t66 := Tryz.underlying126
  a66 := Tryz.isAgg126
  z66 := Tryz.sizeOf126
  v66 := Tryz.zeroValue126
  t70 := Tryz.underlying130
  a70 := Tryz.isAgg130
  z70 := Tryz.sizeOf130
  v70 := Tryz.zeroValue130
  t76 := Tryz.underlying134
  a76 := Tryz.isAgg134
  z76 := Tryz.sizeOf134
  v76 := Tryz.zeroValue134
  t77 := Tryz.underlying135
  a77 := Tryz.isAgg135
  z77 := Tryz.sizeOf135
  v77 := Tryz.zeroValue135 }
end Go.Proofs

/-
  A row of the call's own, sorted by slices.SortFunc: it holds the same elements in order, and is the call's own still.
-/
namespace Go.Proofs.YtoobmkkmomiigaaGreat
open Go.RowKit Go.Shelf Go.Sort

section
variable {α : Type} [Inhabited α]

theorem flatK_flat (encA : α → Array Value) {k : Nat} (hk : ∀ x, (encA x).size = k) (xs : List α) : flatK (fun x => (encA x).toList) k xs.toArray = (flat (xs.map encA)).toArray := by
  have hk' : ∀ r ∈ xs.map encA, r.size = k := fun r hr => by
    obtain ⟨x, _, rfl⟩ := List.mem_map.1 hr
    exact hk x
  have hl := flat_len hk'
  rw [List.length_map] at hl
  refine ext_get! (by simp [hl]) fun t ht => ?_
  have ht' : t < xs.length * k := by simpa using ht
  rw [get_flatK _ _ _ _ (by simpa using ht')]
  have k0 : 0 < k := by
    rcases Nat.eq_zero_or_pos k with h | h
    · subst h; simp at ht'
    · exact h
  have hd : t / k < xs.length := (Nat.div_lt_iff_lt_mul k0).2 ht'
  have hm := Nat.mod_lt t k0
  have e := flat_at hk' (t / k) (by simpa using hd) (t % k) hm
  rw [show t / k * k + t % k = t by rw [Nat.mul_comm]; exact Nat.div_add_mod t k] at e
  have hs : t % k < (encA xs[t / k]).size := by rw [hk]; exact hm
  have hf : t < (flat (xs.map encA)).length := by rw [hl]; exact ht'
  rw [List.getElem?_eq_getElem hf, List.getElem_map, Array.getElem?_eq_getElem hs] at e
  have e' := Option.some.inj e
  rw [getElem!_pos ((flat (xs.map encA)).toArray) t (by simpa using hf), List.getElem_toArray, e', getElem!_pos xs.toArray (t / k) (by simpa using hd), List.getElem_toArray, getElem!_pos _ _ (by simpa using hs), Array.getElem_toList]

theorem perm_of {d d' : Array α} (h : PermIn 0 d.size d d') : d'.toList.Perm d.toList := by
  obtain ⟨hs, _, hp⟩ := h
  rw [Array.extract_size] at hp
  have e : d'.extract 0 d.size = d' := by rw [← hs]; exact Array.extract_size
  rwa [e] at hp

theorem sorted_of {lt : α → α → Bool} {d : Array α} (h : SortedIn lt 0 d.size d) : d.toList.Pairwise fun x y => lt y x = false := by
  rw [List.pairwise_iff_getElem]
  intro i j hi hj hij
  have q := h i j (Nat.zero_le _) hij (by simpa using hj)
  rwa [getElem!_pos d j (by simpa using hj), getElem!_pos d i (by simpa using hi)] at q
end

/-- A row that lies in a block of the call's own holds these cells, none of them frozen. -/
theorem own_holds {w : World} {g : Nat} {e : TypeId} {cur : Array Value} {F : Array Value} (hg : w.heap[g]? = some (.cells cur e (0, 0))) (hF : cur.toList.take F.size = F.toList) : Holds id w g 0 F := by
  intro j hj
  refine ⟨?_, ?_⟩
  · have e1 : (cur.toList.take F.size)[j]? = F.toList[j]? := by rw [hF]
    rw [List.getElem?_take_of_lt hj] at e1
    simp only [World.cell?, hg, Nat.zero_add, Option.isSome_none, Bool.false_eq_true, if_false, id]
    rw [getElem!_pos F j hj]
    simpa [hj] using e1
  · simp only [World.frozen?, hg]
    simp

theorem putCells_take (F cur : Array Value) (h : F.size ≤ cur.size) : (putCells id 0 F cur).toList.take F.size = F.toList := by
  apply List.ext_getElem?
  intro j
  by_cases hj : j < F.size
  · rw [List.getElem?_take_of_lt hj]
    have hc : j < cur.size := by omega
    simp [putCells, hj, hc]
  · rw [List.getElem?_eq_none (by simp; omega), List.getElem?_eq_none (by simp; omega)]

theorem sort_own {P : Program} {ρ : Ren} {α : Type} [Inhabited α] (L : SlLaysF0.n6 P ρ) (k : Nat) (aE : ∀ w, (isAgg (ρ.t 24)).run P w = .ok true w) (zE : ∀ w, (Go.sizeOf (ρ.t 24)).run P w = .ok k w) (encA : α → Array Value) (hk : ∀ x, (encA x).size = k) (h1 : ∀ x, ∀ v ∈ (encA x).toList, v.oneCell' = true)
    (cf : α → α → Int) (hO : SWO (ltOf cf)) (g : Nat) (cb : Array Value) (eg : ∀ args w, (callFunc g args).run P w = .ok (.enter g args) w)
    (hc : ∀ (W : World) (x y : α), Calls P g (#[.agg (encA x), .agg (encA y)] ++ cb) W fun e W' => e = .returned (.int .i64 (cf x y)) ∧ ∃ q os', W' = grow (W.drewN q) os')
    {w : World} {base : Nat} {e : TypeId} {v : Value} {n : Nat} {xs : List α} (hn : xs.length = n) (h : w.ownsRow base e k v n (flat (xs.map encA))) (hsz : n < 4611686018427387904) :
    Calls P (ρ.f 6) #[v, .func (.func g) #[] cb] w fun r w' => r = .returned (.tuple #[]) ∧ ∃ ys : List α, ys.Perm xs ∧ (ys.Pairwise fun x y => ltOf cf y x = false) ∧ w'.ownsRow base e k v n (flat (ys.map encA)) ∧ But (fun i => v.ownBlock = some i) w w' := by
  subst hn
  obtain ⟨hl, h⟩ := h
  rcases h with ⟨rfl, h0⟩ | ⟨b, cap, cur, rfl, hb, hg, hc1, hc2, hcs, ht⟩
  · refine (AnyF.slices_SortFunc_none (P := P) (ρ := ρ) { L with } none 0 (.func (.func g) #[] cb) w).mono ?_
    rintro r w' ⟨rfl, rfl⟩
    have hx : xs = [] := List.length_eq_zero_iff.1 h0
    subst hx
    exact ⟨rfl, [], List.Perm.refl _, List.Pairwise.nil, ⟨hl, Or.inl ⟨rfl, rfl⟩⟩, But.refl _ _⟩
  · have hk' : ∀ (l : List α), ∀ r ∈ l.map encA, r.size = k := fun l r hr => by
      obtain ⟨x, _, rfl⟩ := List.mem_map.1 hr
      exact hk x
    have fl : ∀ l : List α, (flat (l.map encA)).length = l.length * k := fun l => by have := flat_len (hk' l); rwa [List.length_map] at this
    have hH : HoldsK (fun x => (encA x).toList) k w b 0 xs.toArray := by
      unfold HoldsK
      rw [flatK_flat encA hk]
      exact own_holds hg (by simpa [fl] using ht)
    have hcmp : CmpLays P g cb (fun x => (encA x).toList) k cf b 0 xs.toArray.size w := fun m os dk _ x y => hc _ x y
    have hs := AnyQ.slices_SortFunc L k aE zE (fun x => (encA x).toList) (fun x => by simpa using hk x) h1 cf hO g cb b 0 cap xs.toArray w eg hcmp hH (heap_lt hg) (by simpa using hsz)
    rw [List.size_toArray] at hs
    refine hs.mono ?_
    rintro r w' ⟨rfl, d', q, os, hp, hsd, rfl⟩
    refine ⟨rfl, d'.toList, ?_, ?_, ?_, ?_⟩
    · simpa using perm_of (d := xs.toArray) (by simpa using hp)
    · refine sorted_of ?_
      have hd : d'.size = xs.length := by simpa using hp.1
      rw [hd]
      exact hsd
    · have hd : d'.size = xs.length := by simpa using hp.1
      have hF : flatK (fun x => (encA x).toList) k d' = (flat (d'.toList.map encA)).toArray := by
        have := flatK_flat encA hk d'.toList
        rwa [Array.toArray_toList] at this
      have hle : (flatK (fun x => (encA x).toList) k d').size ≤ cur.size := by
        rw [size_flatK, hcs, hd]
        exact Nat.mul_le_mul_right k hc1
      refine ⟨by rw [fl, Array.length_toList, hd], Or.inr ⟨b, cap, putCells id 0 (flatK (fun x => (encA x).toList) k d') cur, rfl, hb, ?_, hc1, hc2, by simpa [putCells] using hcs, ?_⟩⟩
      · unfold sortWorldK
        rw [heap_grow_old _ _ (by rw [size_putRowK]; exact heap_lt hg)]
        simp [putRowK, putRow, mapBlock, Array.getElem?_modify, hg, onCells]
      · have e2 := putCells_take _ cur hle
        rw [size_flatK, hd] at e2
        rw [e2, hF]
    · unfold sortWorldK
      refine ⟨rfl, rfl, rfl, ?_, fun i hi hne => ?_⟩
      · rw [size_grow, size_putRowK]
        exact Nat.le_add_right _ _
      · rw [heap_grow_old _ _ (by rw [size_putRowK]; exact hi)]
        have hib : b ≠ i := fun q => hne (by rw [← q]; rfl)
        simp [putRowK, putRow, mapBlock, Array.getElem?_modify, hib]

end Go.Proofs.YtoobmkkmomiigaaGreat

/-
  The landed graph's sorted (made by gen_graphsorted.py), at Entries' closure; Entries.
-/
namespace Go.Proofs.YtoobmkkmomiigaaGreat
open Go.RowKit StampMath GraphMath

def entOf (p : (St × ByteArray) × St) : Ent := ⟨p.1.1, p.1.2, p.2⟩

theorem allClo (e : St) (W : World) :
    Calls Tryz.prog 31 #[.agg #[.int .i64 e.1, .int .i64 e.2]] W fun x W' => x = .returned (.bool true) ∧ Below W.heap.size W W' := by
  go_enter Tryz.func31, Tryz.ntmps31
  go_wp2_with fail
  go_ret
  exact ⟨rfl, (Below.refl _ _).alloc (Nat.le_refl _) _⟩

set_option maxRecDepth 100000 in
set_option maxHeartbeats 1600000 in
theorem sortedAll_code (a : Addr) (S : Nat → Prop) (g : Gr) (q : St → Bool) (hq : ∀ x, q x = true) (w : World) (h : GIn w S a g) (hg : g.ok) :
    Calls Tryz.prog 30 #[.pointer (some a), .func (.func 31) #[] #[]] w (EntsNew (g.E.filter fun e => q e.dir) w) := by
  have HC : Hid (∀ (e : St) (W : World), Below w.heap.size w W → Calls Tryz.prog 31 #[.agg #[.int .i64 e.1, .int .i64 e.2]] W fun x W' => x = .returned (.bool (q e)) ∧ Below W.heap.size W W') := fun e W hW => by rw [hq]; exact allClo e W
  clear hq
  obtain ⟨b, bi, be, rfl, h1, h2, h3, hb, hi, he, hS⟩ := h
  obtain ⟨c0, c1⟩ := two_cells hb
  obtain ⟨i0, hi0, hz0, hz1, hz2⟩ := info_parts ent_infos
  have HE := Lib.hid he
  have hlt := heap_lt hb
  have hltE := he.lt
  clear hi he hb hS
  have hlen : Hid ((pairsE g).length ≤ 1000) := by
    show (pairsE g).length ≤ 1000
    unfold pairsE
    rw [List.length_map]
    exact Nat.le_trans hg.entsFew (by decide)
  have hgE := Lib.hid (hg.sortE.filter fun e => q e.dir)
  go_enter Tryz.func30, Tryz.ntmps30
  go_wp2_with (at_range; refine wpList_k_range (by rfl) _ _ (by rfl) Tryz.underlying46 be _ (by rfl) HE.out ?_; intro w1 HR1 HB1 HS1)
  go_frame
  go_loopg [5] ((pairsE g).length + 1) (fun gk l wr => ∃ (done todo : List ((St × ByteArray) × St)), gk = todo.length + 1 ∧ Hid (KRange plV stV wr be w.heap.size (pairsE g) todo) ∧ Hid ((done ++ todo).Perm (pairsE g)) ∧ wr.ownsRow (w.heap.size + 1) 34 5 l ((done.map entOf).filter fun e => q e.dir).length (flat (((done.map entOf).filter fun e => q e.dir).map entA)) ∧ Hid (Below w.heap.size w wr) ∧ w.heap.size + 1 ≤ wr.heap.size)
  case atStart => exact ⟨[], pairsE g, rfl, HR1, List.Perm.refl _, World.ownsRow_nil _ _ _ _, HB1, by rw [HS1.out]; omega⟩
  case round =>
    obtain ⟨done, todo, rfl, hR, hP, hown, hB, hs1⟩ := hrel
    clear HR1 HB1 HS1
    go_wp2_with (refine wpList_k_next (by rfl) _ (by rfl) be w.heap.size _ _ (by rfl) hR.out ?_ ?_)
    · intro h0
      have hdone : ((done.map entOf).filter fun e => q e.dir).Perm (g.E.filter fun e => q e.dir) := by
        refine List.Perm.filter _ ?_
        have h5 := hP.out
        rw [h0, List.append_nil] at h5
        have h6 := h5.map entOf
        unfold pairsE at h6
        rwa [List.map_map, show entOf ∘ (fun e : Ent => ((e.dir, e.name), e.ino)) = id from rfl, List.map_id] at h6
      have h1000 : ((done.map entOf).filter fun e => q e.dir).length < 4611686018427387904 := by
        have h5 := hlen.out
        have h6 := hP.out.length_eq
        have h7 := List.length_filter_le (fun e : Ent => q e.dir) (done.map entOf)
        simp only [List.length_append, List.length_map] at h6 h7
        omega
      generalize ((done.map entOf).filter fun e => q e.dir) = fs at hdone h1000 hown ⊢
      have HD := Lib.hid hdone
      clear hdone
      have hs := sort_own (w := wr) Tryz.sortEnt 5 Tryz.isAgg34 Tryz.sizeOf34 entA (fun _ => rfl) ent_one aheadI swo_ents 62 #[] (enters_of Tryz.func62 (by kernel_rfl) rfl)
        (fun W x y => (ahead_grown x y W).mono fun _ _ h => ⟨h.1, h.2.grow⟩) (by simp) hown h1000
      change Calls Tryz.prog 61 _ _ _ at hs
      have hrow := hown.lt
      clear hown
      have HS := Lib.hid hs
      clear hs
      go_wp2_with fail
      refine (HS.out).mono ?_
      rintro e w2 ⟨rfl, ys, hp, hsd, hown2, hbut⟩
      have hys : ys = g.E.filter fun e => q e.dir := sorted_ents hgE.out (hp.trans HD.out) hsd
      have hl : fs.length = (g.E.filter fun e => q e.dir).length := HD.out.length_eq
      rw [hys, hl] at hown2
      clear hp hsd hys
      go_wp2_with fail
      go_ret
      refine ⟨_, rfl, ?_, ?_⟩
      · exact own_lower hown2 (Nat.le_succ _)
      · exact hB.out.trans (hbut.below (fun i hi => Nat.le_of_succ_le (hrow i hi).1) (by omega))
    · intro t r nm t' r' todo' w2 hp hR2 hB2 hs2 hen
      simp only [plV, stV, stA] at hen ⊢
      have hown2 := own_iter hown hB2.out (by omega)
      have h1000 : ((done.map entOf).filter fun e => q e.dir).length ≤ 1000 := by
        have h5 := hlen.out
        have h6 := hP.out.length_eq
        have h7 := List.length_filter_le (fun e : Ent => q e.dir) (done.map entOf)
        simp only [List.length_append, List.length_map] at h6 h7
        omega
      have hfs : ∀ b : Bool, q (t, r) = b → ((done ++ [(((t, r), nm), (t', r'))]).map entOf).filter (fun e => q e.dir) = ((done.map entOf).filter fun e => q e.dir) ++ (if b = true then [⟨(t, r), nm, (t', r')⟩] else []) := by
        intro b hb
        rw [List.map_append, List.filter_append]
        congr 1
        simp only [List.map_cons, List.map_nil, entOf, List.filter_cons, List.filter_nil, hb]
      have HF := Lib.hid hfs
      clear hfs
      have e2 : Below w.heap.size wr w2 := hB2.out.below (fun i hi => by omega) (by omega)
      have hb2 := hB.out.trans e2
      have hP2 : Hid ((done ++ [(((t, r), nm), (t', r'))] ++ todo').Perm (pairsE g)) := by
        have e1 : (done ++ todo).Perm (done ++ ((((t, r), nm), (t', r')) :: todo')) := hp.out.append_left _
        show (done ++ [(((t, r), nm), (t', r'))] ++ todo').Perm _
        rw [List.append_assoc]
        exact e1.symm.trans hP.out
      have hlen2 := hp.out.length_eq
      simp only [List.length_cons] at hlen2
      generalize ((done.map entOf).filter fun e => q e.dir) = fs at hown2 h1000 HF
      have hm : fs.length + 1 ≤ maxLen := by unfold maxLen; omega
      have hs2' : w.heap.size + 1 ≤ w2.heap.size := by rw [hs2.out]; exact hs1
      clear hown hB hB2 hs2 hP hp hR e2
      go_upto_region 7 with fail
      obtain ⟨z, hz⟩ : ∃ z, z = w2.heap.size := ⟨_, rfl⟩
      have k0 : ((w2.alloc (.cells #[.int .i64 t, .int .i64 r, .string nm] 53)).alloc (.cells #[.int .i64 t', .int .i64 r'] 31)).heap[z]? = some (.cells #[.int .i64 t, .int .i64 r, .string nm] 53 (0, 0)) := by rw [hz]; exact heap_alloc2_old w2 _ _
      have k1 : ((w2.alloc (.cells #[.int .i64 t, .int .i64 r, .string nm] 53)).alloc (.cells #[.int .i64 t', .int .i64 r'] 31)).heap[z + 1]? = some (.cells #[.int .i64 t', .int .i64 r'] 31 (0, 0)) := by rw [hz]; exact heap_alloc2_new w2 _ _
      have hbA : Below w2.heap.size w2 ((w2.alloc (.cells #[.int .i64 t, .int .i64 r, .string nm] 53)).alloc (.cells #[.int .i64 t', .int .i64 r'] 31)) := ((Below.refl _ _).alloc (Nat.le_refl _) _).alloc (by simp) _
      rw [← hz]
      generalize ((w2.alloc (.cells #[.int .i64 t, .int .i64 r, .string nm] 53)).alloc (.cells #[.int .i64 t', .int .i64 r'] 31)) = w3 at k0 k1 hbA ⊢
      have hz3 := hbA.size
      have hown3 := own_call hown2 hbA
      have hR3 := hR2.out.kept (hbA.block _ (by omega)) (hbA.block _ (by omega))
      have hb3 := below_step hb2 hbA
      clear hown2 hR2 hb2 hbA hen hz
      have x0 := cell_of_row _ _ 0 _ _ (0, 0) k0
      have x1 := cell_of_row _ _ 1 _ _ (0, 0) k0
      go_wp2_with fail
      refine (HC.out (t, r) w3 hb3).mono ?_
      rintro e w4 ⟨rfl, hb4⟩
      have l0 := (hb4.block _ (heap_lt k0)).trans k0
      have l1 := (hb4.block _ (heap_lt k1)).trans k1
      have hz4 := hb4.size
      have hown4 := own_call hown3 hb4
      have hR4 := hR3.kept (hb4.block _ (by omega)) (hb4.block _ (by omega))
      have hb5 := below_step hb3 hb4
      have HR4 := Lib.hid hR4
      have HB5 := Lib.hid hb5
      have HL0 := Lib.hid l0
      clear hown3 hR3 hb3 hb4 x0 x1 k0 k1 hR4 hb5
      obtain ⟨qb, hqb⟩ : ∃ qb, qb = q (t, r) := ⟨_, rfl⟩
      have hF := HF.out qb hqb.symm
      rw [← hqb]
      clear hqb HF
      cases qb with
      | false =>
        rw [if_neg (by decide), List.append_nil] at hF
        have HF := Lib.hid hF
        clear hF
        go_wp2_with fail
        go_roundg (todo'.length + 1)
        case measure => omega
        case rel => exact ⟨done ++ [(((t, r), nm), (t', r'))], todo', rfl, HR4.out, hP2.out, by rw [HF.out]; exact hown4, HB5.out, by omega⟩
      | true =>
        rw [if_pos rfl] at hF
        have HF := Lib.hid hF
        clear hF
        have x0 := cell_of_row _ _ 0 _ _ (0, 0) HL0.out
        have x1 := cell_of_row _ _ 1 _ _ (0, 0) HL0.out
        have x2 := cell_of_row _ _ 2 _ _ (0, 0) HL0.out
        obtain ⟨y0, y1⟩ := two_cells l1
        have HW := Lib.hid (row_there w4 34 (entA ⟨(t, r), nm, (t', r')⟩))
        go_wp2_with (at_builtin; refine wpList_append_own _ rfl (.tmp 24) (.tmp 31) 24 rfl (w.heap.size + 1) 34 i0 _ 5 48 Tryz.underlying24 hi0 hz0 hz1 hz2 rfl (by decide) _ _ _ rfl (hown4.alloc _) ⟨w4.heap.size, 0, none⟩ 1 1 (entA ⟨(t, r), nm, (t', r')⟩).toList rfl rfl HW.out (ent_one _) hm (by omega) (by simp; omega) ?_; intro v2 w5 hown5 hg5 _)
        have hbw : Below (w.heap.size + 1) w4 w5 := (((Below.refl w4.heap.size w4).alloc (Nat.le_refl _) _).mono (by omega)).grown hg5 (by simp; omega) (fun j hj => (hown4.lt j hj).1)
        go_roundg (todo'.length + 1)
        case measure => omega
        case rel =>
          refine ⟨done ++ [(((t, r), nm), (t', r'))], todo', rfl, HR4.out.kept (hbw.block _ (by omega)) (hbw.block _ (by omega)), hP2.out, ?_, HB5.out.trans (hbw.mono (by omega)), by have := hbw.size; omega⟩
          rw [HF.out, List.length_append]
          show w5.ownsRow _ _ 5 v2 (fs.length + 1) _
          rw [← flat_ent]
          exact hown5

set_option maxRecDepth 100000 in
theorem entries_code (a : Addr) (S : Nat → Prop) (g : Gr) (w : World) (h : GIn w S a g) (hg : g.ok) :
    Calls Tryz.prog 10 #[.pointer (some a)] w (EntsNew g.E w) := by
  have hs := sortedAll_code a S g (fun _ => true) (fun _ => rfl) w h hg
  rw [show (g.E.filter fun e => (fun _ : St => true) e.dir) = g.E from List.filter_eq_self.2 fun _ _ => rfl] at hs
  have HS := Lib.hid hs
  clear h hs
  go_enter Tryz.func10, Tryz.ntmps10
  go_wp2_with fail
  refine (HS.out).mono ?_
  rintro e w2 ⟨v, rfl, hown, hb⟩
  go_wp2_with fail
  go_ret
  exact ⟨v, rfl, hown, hb⟩

end Go.Proofs.YtoobmkkmomiigaaGreat
