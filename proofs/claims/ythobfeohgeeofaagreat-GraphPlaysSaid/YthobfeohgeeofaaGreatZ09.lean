/-
  Maps whose keys and elements are of any shape: what lies in one as a list of pairs, in no order; each operation on one, and going through it.
-/
import Derived.Test.YthobfeohgeeofaaGreatZ00
import Derived.Maps.RangeWalk
import Derived.WideKeyRuns
import Derived.Test.YthobfeohgeeofaaGreatZ04
import Derived.Test.YthobfeohgeeofaaGreatRows
import Derived.Test.YthobfeohgeeofaaGreatZ01
import Derived.Deep.RegionHeld3
import Derived.Deep.LoopGhost
import Derived.Sort.Grow
import Derived.Sort.Statements
import Derived.Shelf.SlSortCmp.Insertion
import Derived.Shelf.SlGeneric
import Derived.Shelf.SlLaysF0
import Derived.Shelf.SlLaysW
import Derived.Test.YthobfeohgeeofaaGreatProg
import Derived.Shelf.SlSortCmp.WholeK
import Derived.Shelf.SlSortCmp.NoneTotal
import Derived.Deep.Cut
import Derived.Sort.MapsRangeIn
import Derived.RangeFuncSeq
import Derived.RangeFuncNested
import Derived.RangeFuncBound
import Derived.RangeFuncBox
import Derived.RangeFuncLeaves
import Derived.Shelf.Abstract
import Derived.WalkKit
import Derived.OwnWalkIn
import Derived.TacticsInMore
import Derived.LoopNIn
import Derived.LoopIn
import Derived.Sort.LoopGhostIn
import Derived.Sort.QuietIn
import Derived.Maps.Own
import Derived.Maps.OwnOps
namespace Go.Proofs.YthobfeohgeeofaaGreat
open Go.RowKit Go.MapKept
open Go.ChangeMaps (setBlock)

/-- What a key's type must give: equal keys are found, others aren't. -/
structure KShape (P : Program) (k : TypeId) {K : Type} (ek : K → Value) : Prop where
  inj : ∀ x y, ek x = ek y → x = y
  check : ∀ (w : World) (em : Bool) (x : K), (Instr.checkKey em 10000 k (ek x)).run P w = .ok () w
  find : ∀ (w : World) (x : K) (es : List MapEntry), (∀ e ∈ es, ∃ y, e.key = ek y) →
    ((Instr.findKey k (ek x) es).run P w = .ok none w ∧ ∀ e ∈ es, e.key ≠ ek x) ∨ ∃ j e, (Instr.findKey k (ek x) es).run P w = .ok (some (j, e.val)) w ∧ es[j]? = some e ∧ e.key = ek x
  stays : ∀ (w : World) (x : K), (Instr.keyThatStays (ek x) (ek x)).run P w = .ok (ek x) w

theorem findAsking_by {P : Program} {k : TypeId} {K : Type} [DecidableEq K] {ek : K → Value} (w : World) (heq : ∀ x y, (Op.equal k (ek x) (ek y)).run P w = .ok (decide (x = y)) w) (x : K) :
    ∀ (es : List MapEntry) (i : Nat), (∀ e ∈ es, ∃ y, e.key = ek y) →
      ((Instr.findAsking k (ek x) es i).run P w = .ok none w ∧ ∀ e ∈ es, ∀ y, e.key = ek y → x ≠ y) ∨
      ∃ j e, (Instr.findAsking k (ek x) es i).run P w = .ok (some (i + j, e.val)) w ∧ es[j]? = some e ∧ e.key = ek x
  | [], i, _ => Or.inl ⟨by simp [Instr.findAsking], by simp⟩
  | e :: es, i, hall => by
    obtain ⟨y, hy⟩ := hall e (by simp)
    have hr := heq x y
    rw [← hy] at hr
    by_cases hxy : x = y
    · right
      rw [decide_eq_true hxy] at hr
      exact ⟨0, e, by simp [Instr.findAsking, hr], rfl, by rw [hy, hxy]⟩
    · rw [decide_eq_false hxy] at hr
      rcases findAsking_by w heq x es (i + 1) (fun z hz => hall z (by simp [hz])) with ⟨h1, h2⟩ | ⟨j, e', h1, h2, h3⟩
      · left
        refine ⟨by simp [Instr.findAsking, hr, h1], fun z hz v hv => ?_⟩
        rcases List.mem_cons.1 hz with rfl | hz
        · intro e2
          subst e2
          have h5 := heq x x
          rw [hv, h5, decide_eq_true rfl] at hr
          cases hr
        · exact h2 z hz v hv
      · right
        exact ⟨j + 1, e', by simp [Instr.findAsking, hr, h1, Nat.add_assoc, Nat.add_comm 1 j], by simpa using h2, h3⟩

/-- A struct's or an array's: told by how two of them are held equal. -/
theorem KShape.of_equal {P : Program} {k : TypeId} {K : Type} [DecidableEq K] {ek : K → Value} (hwide : (match P.underlying k with | some (.array _ _) | some (.struct _) => true | _ => false) = true)
    (inj : ∀ x y, ek x = ek y → x = y) (heq : ∀ w x y, (Op.equal k (ek x) (ek y)).run P w = .ok (decide (x = y)) w)
    (check : ∀ (w : World) (em : Bool) (x : K), (Instr.checkKey em 10000 k (ek x)).run P w = .ok () w) (bits : ∀ x, Instr.sameBits 10000 (ek x) (ek x) = true) : KShape P k ek where
  inj := inj
  check := check
  find := fun w x es hall => by
    rw [run_findKey_eq w hwide]
    rcases findAsking_by w (heq w) x es 0 hall with ⟨h1, h2⟩ | ⟨j, e, h1, h2, h3⟩
    · exact Or.inl ⟨h1, fun e he e1 => h2 e he x e1 rfl⟩
    · exact Or.inr ⟨j, e, by simpa using h1, h2, h3⟩
  stays := fun w x => by simp [Instr.keyThatStays, bits x]

theorem checkKey_struct {P : Program} {t : TypeId} {fs : Array Field} (hu : P.underlying t = some (.struct fs)) (w : World) (em : Bool) (n : Nat) (cs : Array Value)
    (each : ∀ f ∈ fs.toList, f.name ≠ "_" ∧ ∃ v, (part f.type cs f.offset).run P w = .ok v w ∧ (Instr.checkKey em n f.type v).run P w = .ok () w) : (Instr.checkKey em (n + 1) t (.agg cs)).run P w = .ok () w := by
  rw [Instr.checkKey]
  simp only [Sem.run_bind, run_underlying hu, Result.andThen_ok]
  rw [← Array.forIn_toList]
  generalize fs.toList = L at each
  induction L with
  | nil => simp
  | cons f L ih =>
    obtain ⟨hn, a, p1, p2⟩ := each f (by simp)
    simp only [List.forIn_cons, Sem.run_bind, hn, ne_eq, not_false_eq_true, if_true, Result.andThen_ok, p1, p2, Sem.run_pure]
    exact ih (fun y hy => each y (by simp [hy]))

theorem checkKey_int {P : Program} {t : TypeId} {q q' : IntKind} (hu : P.underlying t = some (.int q)) (w : World) (em : Bool) (n : Nat) (x : Int) : (Instr.checkKey em (n + 1) t (.int q' x)).run P w = .ok () w := by
  rw [Instr.checkKey]
  simp [run_underlying hu]

theorem checkKey_string {P : Program} {t : TypeId} (hu : P.underlying t = some .string) (w : World) (em : Bool) (n : Nat) (x : ByteArray) : (Instr.checkKey em (n + 1) t (.string x)).run P w = .ok () w := by
  rw [Instr.checkKey]
  simp [run_underlying hu]

section
variable {K V : Type}

/-- What stands at a key. -/
def lookL [DecidableEq K] (L : List (K × V)) (x : K) : Option V := (L.find? fun p => decide (p.1 = x)).map Prod.snd

/-- All but what stands at a key. -/
def offL [DecidableEq K] (L : List (K × V)) (x : K) : List (K × V) := L.filter fun p => !decide (p.1 = x)

theorem mem_lookL [DecidableEq K] {L : List (K × V)} (hn : (L.map Prod.fst).Nodup) {x : K} {v : V} : lookL L x = some v ↔ (x, v) ∈ L := by
  induction L with
  | nil => simp [lookL]
  | cons p l ih =>
    simp only [List.map_cons, List.nodup_cons] at hn
    unfold lookL
    rw [List.find?_cons]
    by_cases h : p.1 = x
    · subst h
      simp only [decide_true, Option.map_some, Option.some.injEq, List.mem_cons]
      constructor
      · intro h; exact Or.inl (Prod.ext rfl h.symm)
      · rintro (h | h)
        · rw [← h]
        · exact absurd (List.mem_map_of_mem (f := Prod.fst) h) hn.1
    · simp only [h, decide_false, List.mem_cons]
      rw [show (Option.map Prod.snd (l.find? fun p => decide (p.1 = x))) = lookL l x from rfl, ih hn.2]
      constructor
      · exact Or.inr
      · rintro (h1 | h1)
        · exact absurd (by rw [← h1]) h
        · exact h1

theorem nodup_perm_keys {L L' : List (K × V)} (hp : L.Perm L') (hn : (L.map Prod.fst).Nodup) : (L'.map Prod.fst).Nodup := (hp.map _).nodup_iff.1 hn

theorem lookL_perm [DecidableEq K] {L L' : List (K × V)} (hp : L.Perm L') (hn : (L.map Prod.fst).Nodup) (x : K) : lookL L x = lookL L' x := by
  have h1 : ∀ v, lookL L x = some v ↔ lookL L' x = some v := fun v => by
    rw [mem_lookL hn, mem_lookL (nodup_perm_keys hp hn)]
    exact hp.mem_iff
  cases h : lookL L x with
  | some v => exact ((h1 v).1 h).symm
  | none =>
    cases h' : lookL L' x with
    | none => rfl
    | some v => rw [(h1 v).2 h'] at h; cases h

theorem lookL_none [DecidableEq K] {L : List (K × V)} {x : K} (h : ∀ p ∈ L, p.1 ≠ x) : lookL L x = none := by
  unfold lookL
  rw [List.find?_eq_none.2 (fun p hp => by simpa using h p hp)]
  rfl

theorem offL_none [DecidableEq K] {L : List (K × V)} {x : K} (h : ∀ p ∈ L, p.1 ≠ x) : offL L x = L := List.filter_eq_self.2 fun p hp => by simpa using h p hp

theorem offL_at [DecidableEq K] {L : List (K × V)} (hn : (L.map Prod.fst).Nodup) {j : Nat} (hj : j < L.length) : offL L L[j].1 = L.take j ++ L.drop (j + 1) := by
  have hs : L = L.take j ++ L[j] :: L.drop (j + 1) := by simp
  obtain ⟨x, hx⟩ : ∃ x, x = L[j].1 := ⟨_, rfl⟩
  obtain ⟨A, hA⟩ : ∃ A, A = L.take j := ⟨_, rfl⟩
  obtain ⟨C, hC⟩ : ∃ C, C = L.drop (j + 1) := ⟨_, rfl⟩
  obtain ⟨p, hp⟩ : ∃ p, p = L[j] := ⟨_, rfl⟩
  rw [← hA, ← hC, ← hp] at hs
  rw [← hp] at hx
  rw [← hp, ← hA, ← hC, ← hx, hs]
  rw [hs] at hn
  simp only [List.map_append, List.map_cons] at hn
  have hn' := List.nodup_append.1 hn
  have h1 : ∀ q ∈ A, q.1 ≠ x := fun q hq e => by
    rw [hx] at e
    exact hn'.2.2 q.1 (List.mem_map_of_mem hq) p.1 (by simp) e
  have h2 : ∀ q ∈ C, q.1 ≠ x := fun q hq e => by
    rw [hx] at e
    have := (List.nodup_cons.1 hn'.2.1).1
    exact this (by rw [← e]; exact List.mem_map_of_mem hq)
  have e1 : offL A x = A := offL_none h1
  have e2 : offL C x = C := offL_none h2
  unfold offL at e1 e2 ⊢
  rw [List.filter_append, List.filter_cons, e1, e2]
  simp [hx]

variable (ek : K → Value) (ev : V → Value)

/-- In the block b lies a map of just these pairs. -/
def KMap (w : World) (b : Nat) (L : List (K × V)) : Prop :=
  ∃ (es : Array MapEntry) (clock : Nat) (M : List (K × V)), w.heap[b]? = some (.map es clock) ∧ Stamped es clock ∧ es.toList.map (fun e => (e.key, e.val)) = M.map (fun p => (ek p.1, ev p.2)) ∧ M.Perm L

/-- .. and in the block r it is gone through; what is still to come. -/
def KRange (w : World) (b r : Nat) (L todo : List (K × V)) : Prop :=
  ∃ (es : Array MapEntry) (clock since : Nat) (seen : Array Nat) (c0 : Nat) (M T : List (K × V)), w.heap[b]? = some (.map es clock) ∧ Stamped es clock ∧ es.toList.map (fun e => (e.key, e.val)) = M.map (fun p => (ek p.1, ev p.2)) ∧ M.Perm L ∧
    w.heap[r]? = some (.mapIter (some b) since seen c0) ∧ (∀ x ∈ es.toList, x.born < since) ∧ since ≤ c0 ∧ since ≤ clock ∧
    (leftOf es seen).toList.map (fun e => (e.key, e.val)) = T.map (fun p => (ek p.1, ev p.2)) ∧ T.Perm todo

variable {ek ev}

theorem KMap.perm {w : World} {b : Nat} {L L' : List (K × V)} (h : KMap ek ev w b L) (hp : L.Perm L') : KMap ek ev w b L' := by
  obtain ⟨es, clock, M, h1, h2, h3, h4⟩ := h
  exact ⟨es, clock, M, h1, h2, h3, h4.trans hp⟩

theorem KMap.kept {w w' : World} {b : Nat} {L : List (K × V)} (h : KMap ek ev w b L) (hb : w'.heap[b]? = w.heap[b]?) : KMap ek ev w' b L := by
  obtain ⟨es, clock, M, h1, h2⟩ := h
  exact ⟨es, clock, M, hb.trans h1, h2⟩

theorem KMap.lt {w : World} {b : Nat} {L : List (K × V)} (h : KMap ek ev w b L) : b < w.heap.size := by
  obtain ⟨es, clock, M, h1, _⟩ := h
  exact (Array.getElem?_eq_some_iff.1 h1).1

theorem KRange.map {w : World} {b r : Nat} {L todo : List (K × V)} (h : KRange ek ev w b r L todo) : KMap ek ev w b L := by
  obtain ⟨es, clock, since, seen, c0, M, T, h1, h2, h3, h4, _⟩ := h
  exact ⟨es, clock, M, h1, h2, h3, h4⟩

theorem KRange.kept {w w' : World} {b r : Nat} {L todo : List (K × V)} (h : KRange ek ev w b r L todo) (hb : w'.heap[b]? = w.heap[b]?) (hr : w'.heap[r]? = w.heap[r]?) : KRange ek ev w' b r L todo := by
  obtain ⟨es, clock, since, seen, c0, M, T, h1, h2, h3, h4, h5, rest⟩ := h
  exact ⟨es, clock, since, seen, c0, M, T, hb.trans h1, h2, h3, h4, hr.trans h5, rest⟩

theorem KRange.ltr {w : World} {b r : Nat} {L todo : List (K × V)} (h : KRange ek ev w b r L todo) : r < w.heap.size := by
  obtain ⟨es, clock, since, seen, c0, M, T, h1, h2, h3, h4, h5, rest⟩ := h
  exact (Array.getElem?_eq_some_iff.1 h5).1

theorem KRange.perm {w : World} {b r : Nat} {L todo todo' : List (K × V)} (h : KRange ek ev w b r L todo) (hp : todo.Perm todo') : KRange ek ev w b r L todo' := by
  obtain ⟨es, clock, since, seen, c0, M, T, h1, h2, h3, h4, h5, h6, h7, h8, h9, h10⟩ := h
  exact ⟨es, clock, since, seen, c0, M, T, h1, h2, h3, h4, h5, h6, h7, h8, h9, h10.trans hp⟩

/-- For the loop's measure. -/
theorem KRange.left_eq {w : World} {b r : Nat} {L todo : List (K × V)} (h : KRange ek ev w b r L todo) : w.rangeLeft b r = todo.length := by
  obtain ⟨es, clock, since, seen, c0, M, T, h1, h2, h3, h4, h5, h6, h7, h8, h9, h10⟩ := h
  simp only [World.rangeLeft, h1, h5]
  have := congrArg List.length h9
  simp only [List.length_map, Array.length_toList] at this
  rw [this, h10.length_eq]

variable {P : Program} {k e : TypeId}

theorem keys_of {es : Array MapEntry} {clock : Nat} {M : List (K × V)} (hs : Stamped es clock) (hM : es.toList.map (fun e => (e.key, e.val)) = M.map (fun p => (ek p.1, ev p.2))) : (M.map Prod.fst).Nodup := by
  have h1 := ((stamped_iff es clock).1 hs).2.2
  have e1 : es.toList.map (·.key) = (M.map Prod.fst).map ek := by
    have := congrArg (List.map Prod.fst) hM
    simpa [List.map_map, Function.comp_def] using this
  have h2 : ((M.map Prod.fst).map ek).Nodup := by rw [← e1]; exact hs.2.2
  rw [List.Nodup, List.pairwise_map] at h2
  exact h2.imp fun h e2 => h (by rw [e2])

theorem KMap.keys {w : World} {b : Nat} {L : List (K × V)} (h : KMap ek ev w b L) : (L.map Prod.fst).Nodup := by
  obtain ⟨es, clock, M, h1, h2, h3, h4⟩ := h
  exact nodup_perm_keys h4 (keys_of h2 h3)

theorem entry_shape {es : Array MapEntry} {M : List (K × V)} (hM : es.toList.map (fun e => (e.key, e.val)) = M.map (fun p => (ek p.1, ev p.2))) {j : Nat} {x : MapEntry} (hx : es.toList[j]? = some x) : ∃ p, M[j]? = some p ∧ x.key = ek p.1 ∧ x.val = ev p.2 := by
  have h1 : (M.map (fun p => (ek p.1, ev p.2)))[j]? = some (x.key, x.val) := by rw [← hM, List.getElem?_map, hx]; rfl
  rw [List.getElem?_map] at h1
  cases hp : M[j]? with
  | none => rw [hp] at h1; cases h1
  | some p =>
    rw [hp] at h1
    have := Option.some.inj h1
    exact ⟨p, rfl, (congrArg Prod.fst this).symm, (congrArg Prod.snd this).symm⟩

theorem all_shape {es : Array MapEntry} {M : List (K × V)} (hM : es.toList.map (fun e => (e.key, e.val)) = M.map (fun p => (ek p.1, ev p.2))) : ∀ x ∈ es.toList, ∃ y, x.key = ek y := fun x hx => by
  obtain ⟨j, hj, rfl⟩ := List.getElem_of_mem hx
  obtain ⟨p, _, h2, _⟩ := entry_shape hM (List.getElem?_eq_getElem hj)
  exact ⟨p.1, h2⟩

/-- 'm[k]' and 'v, ok := m[k]'. -/
theorem KMap.look [DecidableEq K] (S : KShape P k ek) {t : TypeId} {w : World} {b : Nat} {L : List (K × V)} (h : KMap ek ev w b L) (ht : P.underlying t = some (.map k e)) {z : Value} (hz : (zeroValue e).run P w = .ok z w) (x : K) (c : Bool) :
    (Instr.lookup t (.map (some b)) (ek x) c).run P w = .ok (if c then .tuple #[((lookL L x).map ev).getD z, .bool (lookL L x).isSome] else ((lookL L x).map ev).getD z) w := by
  have hk := h.keys
  obtain ⟨es, clock, M, h1, h2, h3, h4⟩ := h
  have hkM := keys_of h2 h3
  rw [← lookL_perm h4 hkM]
  rcases S.find w x es.toList (all_shape h3) with ⟨f1, f2⟩ | ⟨j, e0, f1, f2, f3⟩
  · have hn : lookL M x = none := lookL_none fun p hp e1 => by
      obtain ⟨j, hj, rfl⟩ := List.getElem_of_mem hp
      have hl : j < es.toList.length := by have := congrArg List.length h3; simp only [List.length_map] at this; omega
      obtain ⟨p', q1, q2, _⟩ := entry_shape h3 (List.getElem?_eq_getElem hl)
      rw [List.getElem?_eq_getElem hj] at q1
      have := Option.some.inj q1
      subst this
      exact f2 _ (List.getElem_mem hl) (by rw [q2, e1])
    rw [hn]
    simp [Instr.lookup, run_underlying ht, MapKept.run_getObj_map h1, S.check w, f1, hz, Result.andThen]
  · obtain ⟨p, q1, q2, q3⟩ := entry_shape h3 f2
    have hpx : p.1 = x := S.inj _ _ (q2.symm.trans f3)
    have hm : lookL M x = some p.2 := (mem_lookL hkM).2 (by rw [← hpx]; exact List.mem_of_getElem? q1)
    rw [hm]
    simp [Instr.lookup, run_underlying ht, MapKept.run_getObj_map h1, S.check w, f1, Result.andThen, q3]

theorem setBlock_but {w : World} {b : Nat} {o o' : Obj} (hb : w.heap[b]? = some o) : But (fun i => i = b) w (setBlock w b o') :=
  ⟨rfl, rfl, rfl, by simp [setBlock], fun i _ hi => (heap_set hb).2 i hi⟩

/-- 'm[k] = v'. -/
theorem KMap.store [DecidableEq K] (S : KShape P k ek) {t : TypeId} {w : World} {b : Nat} {L : List (K × V)} (h : KMap ek ev w b L) (ht : P.underlying t = some (.map k e)) (x : K) (v : V) :
    ∃ w', (Instr.mapUpdate t (.map (some b)) (ek x) (ev v)).run P w = .ok () w' ∧ KMap ek ev w' b ((x, v) :: offL L x) ∧ But (fun i => i = b) w w' ∧ w'.heap.size = w.heap.size := by
  obtain ⟨es, clock, M, h1, h2, h3, h4⟩ := h
  have hkM := keys_of h2 h3
  have hlen : M.length = es.toList.length := by have := congrArg List.length h3; simp only [List.length_map] at this; omega
  rcases S.find w x es.toList (all_shape h3) with ⟨f1, f2⟩ | ⟨j, e0, f1, f2, f3⟩
  · refine ⟨setBlock w b (.map (es.push ⟨ek x, ev v, clock⟩) (clock + 1)), ?_, ⟨_, _, M ++ [(x, v)], (heap_set h1).1, stamped_push h2 f2, by simp [h3], ?_⟩, setBlock_but h1, by simp [setBlock]⟩
    · simp [Instr.mapUpdate, run_underlying ht, MapKept.run_getObj_map h1, S.check w, f1, MapKept.run_setObj_map _ h1, Result.andThen, setBlock]
    · have hn : ∀ p ∈ M, p.1 ≠ x := fun p hp e1 => by
        obtain ⟨j, hj, rfl⟩ := List.getElem_of_mem hp
        obtain ⟨p', q1, q2, _⟩ := entry_shape h3 (List.getElem?_eq_getElem (show j < es.toList.length by omega))
        rw [List.getElem?_eq_getElem hj] at q1
        have := Option.some.inj q1
        subst this
        exact f2 _ (List.getElem_mem _) (by rw [q2, e1])
      refine (List.perm_append_singleton _ _).trans (List.Perm.cons _ ?_)
      have e2 : (offL M x).Perm (offL L x) := h4.filter _
      rw [offL_none hn] at e2
      exact e2
  · obtain ⟨p, q1, q2, q3⟩ := entry_shape h3 f2
    have hpx : p.1 = x := S.inj _ _ (q2.symm.trans f3)
    have hj : es[j]? = some e0 := by simpa using f2
    have hjl : j < es.toList.length := (List.getElem?_eq_some_iff.1 f2).1
    have hkeyf : ∀ e', es[j]? = some e' → ({ e' with key := ek x, val := ev v } : MapEntry).key = e'.key := fun e' he' => by rw [hj] at he'; cases he'; exact f3.symm
    have hlist : (es.modify j (fun e' => { e' with key := ek x, val := ev v })).toList = es.toList.set j { e0 with key := ek x, val := ev v } := by rw [Array.toList_modify, ChangeMaps.modify_eq_set _ _ _ _ f2]
    have hjM : j < M.length := by omega
    refine ⟨setBlock w b (.map (es.modify j (fun e' => { e' with key := ek x, val := ev v })) clock), ?_, ⟨_, _, M.set j (x, v), (heap_set h1).1, stamped_modify h2 _ _ (fun _ _ => rfl) (fun e' _ he' => hkeyf e' he'), ?_, ?_⟩, setBlock_but h1, by simp [setBlock]⟩
    · simp [Instr.mapUpdate, run_underlying ht, MapKept.run_getObj_map h1, S.check w, f1, hj, f3, S.stays w, MapKept.run_setObj_map _ h1, Result.andThen, setBlock]
    · rw [hlist, List.map_set, List.map_set, h3]
    · have e1 : M[j] = p := by rw [List.getElem?_eq_getElem hjM] at q1; exact Option.some.inj q1
      have e2 := offL_at hkM hjM
      rw [e1, hpx] at e2
      have e3 : (offL M x).Perm (offL L x) := h4.filter _
      rw [e2] at e3
      rw [List.set_eq_take_append_cons_drop, if_pos hjM]
      exact List.perm_middle.trans (List.Perm.cons _ e3)

/-- 'delete(m, k)'. -/
theorem KMap.drop [DecidableEq K] (S : KShape P k ek) {t : TypeId} {w : World} {b : Nat} {L : List (K × V)} (h : KMap ek ev w b L) (ht : P.underlying t = some (.map k e)) (x : K) (ty : TypeId) :
    ∃ w', (Builtin.delete_ #[t, k] ty #[.map (some b), ek x]).run P w = .ok (.tuple #[]) w' ∧ KMap ek ev w' b (offL L x) ∧ But (fun i => i = b) w w' ∧ w'.heap.size = w.heap.size := by
  obtain ⟨es, clock, M, h1, h2, h3, h4⟩ := h
  have hkM := keys_of h2 h3
  have hlen : M.length = es.toList.length := by have := congrArg List.length h3; simp only [List.length_map] at this; omega
  have e3 : (offL M x).Perm (offL L x) := h4.filter _
  rcases S.find w x es.toList (all_shape h3) with ⟨f1, f2⟩ | ⟨j, e0, f1, f2, f3⟩
  · refine ⟨setBlock w b (.map es clock), ?_, ⟨es, clock, M, (heap_set h1).1, h2, h3, ?_⟩, setBlock_but h1, by simp [setBlock]⟩
    · simp [Builtin.delete_, run_underlying ht, MapKept.run_getObj_map h1, S.check w, f1, MapKept.run_setObj_map _ h1, Result.andThen, setBlock]
    · have hn : ∀ p ∈ M, p.1 ≠ x := fun p hp e1 => by
        obtain ⟨j, hj, rfl⟩ := List.getElem_of_mem hp
        obtain ⟨p', q1, q2, _⟩ := entry_shape h3 (List.getElem?_eq_getElem (show j < es.toList.length by omega))
        rw [List.getElem?_eq_getElem hj] at q1
        have := Option.some.inj q1
        subst this
        exact f2 _ (List.getElem_mem _) (by rw [q2, e1])
      rwa [offL_none hn] at e3
  · obtain ⟨p, q1, q2, q3⟩ := entry_shape h3 f2
    have hpx : p.1 = x := S.inj _ _ (q2.symm.trans f3)
    have hjl : j < es.toList.length := (List.getElem?_eq_some_iff.1 f2).1
    have hjs : j < es.size := by simpa using hjl
    have hjM : j < M.length := by omega
    have hsub : (es.eraseIdxIfInBounds j).toList = es.toList.eraseIdx j := by
      unfold Array.eraseIdxIfInBounds
      rw [dif_pos hjs]
      simp
    refine ⟨setBlock w b (.map (es.eraseIdxIfInBounds j) clock), ?_, ⟨_, clock, M.eraseIdx j, (heap_set h1).1, stamped_erase h2 j, ?_, ?_⟩, setBlock_but h1, by simp [setBlock]⟩
    · simp [Builtin.delete_, run_underlying ht, MapKept.run_getObj_map h1, S.check w, f1, MapKept.run_setObj_map _ h1, Result.andThen, setBlock]
    · rw [hsub, ChangeMaps.map_eraseIdx, ChangeMaps.map_eraseIdx, h3]
    · have e1 : M[j] = p := by rw [List.getElem?_eq_getElem hjM] at q1; exact Option.some.inj q1
      have e2 := offL_at hkM hjM
      rw [e1, hpx] at e2
      rw [List.eraseIdx_eq_take_drop_succ, ← e2]
      exact e3

/-- 'len(m)'. -/
theorem KMap.len {t : TypeId} {w : World} {b : Nat} {L : List (K × V)} (h : KMap ek ev w b L) (ht : P.underlying t = some (.map k e)) (ty : TypeId) : (Builtin.len_ #[t] ty #[.map (some b)]).run P w = .ok (.int .i64 (L.length : Int)) w := by
  obtain ⟨es, clock, M, h1, h2, h3, h4⟩ := h
  have e1 : es.size = L.length := by
    have := congrArg List.length h3
    simp only [List.length_map, Array.length_toList] at this
    rw [this, h4.length_eq]
  rw [← e1]
  simp [Builtin.len_, run_underlying ht, MapKept.run_getObj_map h1, goInt, Result.andThen]

/-- 'make(map[K]V)'. -/
theorem KMap.made (w : World) : KMap ek ev (w.alloc (.map #[] 0)) w.heap.size [] :=
  ⟨#[], 0, [], (MapKept.heap_alloc w _).1, stamped_empty 0, rfl, List.Perm.nil⟩

/-- 'range m'. -/
theorem KMap.range {t : TypeId} {w : World} {b : Nat} {L : List (K × V)} (h : KMap ek ev w b L) (ht : P.underlying t = some (.map k e)) :
    ∃ w', (Instr.range t (.map (some b))).run P w = .ok (.pointer (some ⟨w.heap.size, 0, none⟩)) w' ∧ KRange ek ev w' b w.heap.size L L ∧ Below w.heap.size w w' ∧ w'.heap.size = w.heap.size + 1 := by
  have hlt := h.lt
  obtain ⟨es, clock, M, h1, h2, h3, h4⟩ := h
  refine ⟨_, run_range_map w t k e b es clock ht h1, ⟨es, clock, clock, #[], clock, M, M, ((MapKept.heap_alloc w _).2 b hlt).trans h1, h2, h3, h4, (MapKept.heap_alloc w _).1, h2.1, Nat.le_refl _, Nat.le_refl _, ?_, h4⟩, (Below.refl _ _).alloc (Nat.le_refl _) _, by simp⟩
  rw [← h3]
  unfold leftOf
  rw [show (es.filter fun e => !(#[] : Array Nat).contains e.born) = es from Array.filter_eq_self.2 fun x _ => by simp]

/-- The step. -/
theorem KRange.next {w : World} {b r : Nat} {L todo : List (K × V)} (h : KRange ek ev w b r L todo) (ty : TypeId) :
    (todo = [] ∧ (Instr.next (.pointer (some ⟨r, 0, none⟩)) false ty).run P w = .ok (.tuple #[.bool false]) w) ∨
    ∃ p todo' w', todo.Perm (p :: todo') ∧ (Instr.next (.pointer (some ⟨r, 0, none⟩)) false ty).run P w = .ok (.tuple #[.bool true, ek p.1, ev p.2]) w' ∧
      KRange ek ev w' b r L todo' ∧ But (fun i => i = r) w w' ∧ w'.heap.size = w.heap.size ∧ (Instr.entry (.pointer (some ⟨r, 0, none⟩))).run P w' = .ok (.tuple #[ek p.1, ev p.2]) w' := by
  obtain ⟨es, clock, since, seen, c0, M, T, h1, h2, h3, h4, h5, h6, h7, h8, h9, h10⟩ := h
  have hne : r ≠ b := fun e1 => by rw [e1, h1] at h5; cases h5
  rcases run_next_at (P := P) w ty r b since c0 seen es clock h5 h1 h6 h7 with ⟨h0, hrun⟩ | ⟨x, hx, w1, hal, hrun⟩
  · refine Or.inl ⟨?_, hrun⟩
    have : T.length = 0 := by
      have := congrArg List.length h9
      simp only [List.length_map, Array.length_toList] at this
      omega
    rw [List.length_eq_zero_iff.1 this] at h10
    exact h10.nil_eq.symm
  · obtain ⟨hem, hes⟩ := mem_left hx
    obtain ⟨j, hj, hjx⟩ := List.getElem_of_mem hx
    have hTl : T.length = (leftOf es seen).toList.length := by have := congrArg List.length h9; simp only [List.length_map] at this; omega
    obtain ⟨p, q1, q2, q3⟩ := entry_shape h9 (show (leftOf es seen).toList[j]? = some x by rw [List.getElem?_eq_getElem hj, hjx])
    have hr1 : w1.heap[r]? = some (.mapIter (some b) since seen c0) := by rcases hal with rfl | rfl <;> exact h5
    have hb1 : w1.heap[b]? = some (.map es clock) := by rcases hal with rfl | rfl <;> exact h1
    have hset := heap_set (o' := .mapIter (some b) since (seen.push x.born) clock) hr1
    have hb' : (setBlock w1 r (.mapIter (some b) since (seen.push x.born) clock)).heap[b]? = some (.map es clock) := (hset.2 b (fun e1 => hne e1.symm)).trans hb1
    have hborn : ((leftOf es seen).toList.map (·.born)).Nodup := by
      have hsl : (leftOf es seen).toList.Sublist es.toList := by
        unfold leftOf
        rw [Array.toList_filter]
        exact List.filter_sublist
      exact (hsl.map _).nodup h2.2.1
    have hleft : (leftOf es (seen.push x.born)).toList = (leftOf es seen).toList.take j ++ (leftOf es seen).toList.drop (j + 1) := by
      have e1 : (leftOf es (seen.push x.born)).toList = (leftOf es seen).toList.filter (fun y => !(y.born == x.born)) := by
        unfold leftOf
        rw [Array.toList_filter, Array.toList_filter, List.filter_filter]
        refine List.filter_congr fun y _ => ?_
        rw [contains_push]
        cases seen.contains y.born <;> cases (y.born == x.born) <;> rfl
      have e2 := offL_at (L := (leftOf es seen).toList.map fun y => (y.born, y)) (by rw [List.map_map]; exact hborn) (j := j) (by simpa using hj)
      unfold offL at e2
      rw [List.filter_map, ← List.map_take, ← List.map_drop, ← List.map_append] at e2
      have e3 := congrArg (List.map Prod.snd) e2
      simp only [List.map_map, Function.comp_def, List.map_id'] at e3
      rw [e1, ← e3]
      refine List.filter_congr fun y _ => ?_
      simp only [List.getElem_map, hjx]
      by_cases hq : y.born = x.born <;> simp [hq]
    have hjT : j < T.length := by omega
    have hTj : T[j] = p := by rw [List.getElem?_eq_getElem hjT] at q1; exact Option.some.inj q1
    have hTs : T.Perm (p :: (T.take j ++ T.drop (j + 1))) := by
      have : T = T.take j ++ p :: T.drop (j + 1) := by rw [← hTj]; simp
      exact (List.Perm.of_eq this).trans List.perm_middle
    refine Or.inr ⟨p, T.take j ++ T.drop (j + 1), _, h10.symm.trans hTs, by rw [← q2, ← q3]; exact hrun,
      ⟨es, clock, since, seen.push x.born, clock, M, _, hb', h2, h3, h4, hset.1, h6, h8, h8, ?_, List.Perm.refl _⟩, ?_, ?_, by
        rw [← q2, ← q3]
        exact run_entry_at _ r b since seen es clock x hset.1 hb' hem ((stamped_iff es clock).1 h2).2.1⟩
    · rw [hleft, List.map_append, List.map_append, List.map_take, List.map_drop, List.map_take, List.map_drop, h9]
    · rcases hal with rfl | rfl <;> exact ⟨rfl, rfl, rfl, by simp [setBlock], fun i _ hi => hset.2 i hi⟩
    · rcases hal with rfl | rfl <;> simp [setBlock]

/-! ### at the operation -/

/-- 'v, ok := m[k]'. -/
theorem wpList_k_look_ok [DecidableEq K] (S : KShape P k ek) {w : World} {ops : Array Oper} {rest : List Oper} {o : Oper} {a : Act} {Q : Exit → Act → World → Prop} (hg : o.guard = none) (m x : Operand) (t : TypeId)
    (hop : o.op = Op.lookup t m x true) (ht : P.underlying t = some (.map k e)) (zv : V) (hz : (zeroValue e).run P w = .ok (ev zv) w) (b : Nat) (L : List (K × V)) (hm : a.eval m = .map (some b)) (h : KMap ek ev w b L) (key : K) (hx : a.eval x = ek key)
    (hK : ∀ v, v = (lookL L key).getD zv → wpList P ops Q rest (a.put o.dst (.tuple #[ev v, .bool (lookL L key).isSome])) w) : wpList P ops Q (o :: rest) a w := by
  refine wpList_plain hg fun K' hK' => ?_
  have hrun := h.look S ht hz key true
  rw [if_pos rfl, show ((lookL L key).map ev).getD (ev zv) = ev ((lookL L key).getD zv) by cases lookL L key <;> rfl] at hrun
  unfold Oper.wp
  simp [execOp, hop, hm, hx, hrun, Result.andThen]
  exact hK' _ _ (hK _ rfl)

/-- 'm[k]'. -/
theorem wpList_k_look [DecidableEq K] (S : KShape P k ek) {w : World} {ops : Array Oper} {rest : List Oper} {o : Oper} {a : Act} {Q : Exit → Act → World → Prop} (hg : o.guard = none) (m x : Operand) (t : TypeId)
    (hop : o.op = Op.lookup t m x false) (ht : P.underlying t = some (.map k e)) (zv : V) (hz : (zeroValue e).run P w = .ok (ev zv) w) (b : Nat) (L : List (K × V)) (hm : a.eval m = .map (some b)) (h : KMap ek ev w b L) (key : K) (hx : a.eval x = ek key)
    (hK : ∀ v, v = (lookL L key).getD zv → wpList P ops Q rest (a.put o.dst (ev v)) w) : wpList P ops Q (o :: rest) a w := by
  refine wpList_plain hg fun K' hK' => ?_
  have hrun := h.look S ht hz key false
  rw [if_neg (by decide), show ((lookL L key).map ev).getD (ev zv) = ev ((lookL L key).getD zv) by cases lookL L key <;> rfl] at hrun
  unfold Oper.wp
  simp [execOp, hop, hm, hx, hrun, Result.andThen]
  exact hK' _ _ (hK _ rfl)

/-- 'm[k] = v'. -/
theorem wpList_k_store [DecidableEq K] (S : KShape P k ek) {w : World} {ops : Array Oper} {rest : List Oper} {o : Oper} {a : Act} {Q : Exit → Act → World → Prop} (hg : o.guard = none) (m x v : Operand) (t : TypeId)
    (hop : o.op = Op.mapUpdate t m x v) (ht : P.underlying t = some (.map k e)) (b : Nat) (L : List (K × V)) (hm : a.eval m = .map (some b)) (h : KMap ek ev w b L) (key : K) (hx : a.eval x = ek key) (val : V) (hv : a.eval v = ev val)
    (hK : ∀ w', Hid (KMap ek ev w' b ((key, val) :: offL L key)) → Hid (But (fun i => i = b) w w') → Hid (w'.heap.size = w.heap.size) → wpList P ops Q rest (a.put o.dst undef) w') : wpList P ops Q (o :: rest) a w := by
  refine wpList_plain hg fun K' hK' => ?_
  obtain ⟨w', hrun, r1, r2, r3⟩ := h.store S ht key val
  unfold Oper.wp
  simp [execOp, hop, hm, hx, hv, hrun, Result.andThen]
  exact hK' _ _ (hK w' r1 r2 r3)

/-- 'delete(m, k)'. -/
theorem wpList_k_drop [DecidableEq K] (S : KShape P k ek) {w : World} {ops : Array Oper} {rest : List Oper} {o : Oper} {a : Act} {Q : Exit → Act → World → Prop} (hg : o.guard = none) (m x : Operand) (t : TypeId)
    (hop : o.op = Op.call { callee := Callee.builtin Builtin.delete, args := #[m, x], argTypes := #[t, k] }) (ht : P.underlying t = some (.map k e)) (b : Nat) (L : List (K × V)) (hm : a.eval m = .map (some b)) (h : KMap ek ev w b L) (key : K) (hx : a.eval x = ek key)
    (hK : ∀ w', Hid (KMap ek ev w' b (offL L key)) → Hid (But (fun i => i = b) w w') → Hid (w'.heap.size = w.heap.size) → wpList P ops Q rest (a.put o.dst (.tuple #[])) w') : wpList P ops Q (o :: rest) a w := by
  refine wpList_plain hg fun K' hK' => ?_
  obtain ⟨w', hrun, r1, r2, r3⟩ := h.drop S ht key o.type
  unfold Oper.wp
  simp [execOp, hop, resolve, invoke, builtin, hm, hx, hrun, Result.andThen]
  exact hK' _ _ (hK w' r1 r2 r3)

/-- 'len(m)'. -/
theorem wpList_k_len {w : World} {ops : Array Oper} {rest : List Oper} {o : Oper} {a : Act} {Q : Exit → Act → World → Prop} (hg : o.guard = none) (m : Operand) (t : TypeId)
    (hop : o.op = Op.call { callee := Callee.builtin Builtin.len, args := #[m], argTypes := #[t] }) (ht : P.underlying t = some (.map k e)) (b : Nat) (L : List (K × V)) (hm : a.eval m = .map (some b)) (h : KMap ek ev w b L)
    (hK : wpList P ops Q rest (a.put o.dst (.int .i64 (L.length : Int))) w) : wpList P ops Q (o :: rest) a w := by
  refine wpList_plain hg fun K' hK' => ?_
  have hrun := h.len (P := P) ht o.type
  unfold Oper.wp
  simp [execOp, hop, resolve, invoke, builtin, hm, hrun, Result.andThen]
  exact hK' _ _ hK

/-- 'range m'. -/
theorem wpList_k_range {w : World} {ops : Array Oper} {rest : List Oper} {o : Oper} {a : Act} {Q : Exit → Act → World → Prop} (hg : o.guard = none) (m : Operand) (t : TypeId)
    (hop : o.op = Op.range t m) (ht : P.underlying t = some (.map k e)) (b : Nat) (L : List (K × V)) (hm : a.eval m = .map (some b)) (h : KMap ek ev w b L)
    (hK : ∀ w', Hid (KRange ek ev w' b w.heap.size L L) → Hid (Below w.heap.size w w') → Hid (w'.heap.size = w.heap.size + 1) → wpList P ops Q rest (a.put o.dst (.pointer (some ⟨w.heap.size, 0, none⟩))) w') : wpList P ops Q (o :: rest) a w := by
  refine wpList_plain hg fun K' hK' => ?_
  obtain ⟨w', hrun, r1, r2, r3⟩ := h.range (P := P) ht
  unfold Oper.wp
  simp [execOp, hop, hm, hrun, Result.andThen]
  exact hK' _ _ (hK w' r1 r2 r3)

/-- The step. -/
theorem wpList_k_next {w : World} {ops : Array Oper} {rest : List Oper} {o : Oper} {a : Act} {Q : Exit → Act → World → Prop} (hg : o.guard = none) (it : Operand) (hop : o.op = Op.next it false)
    (b r : Nat) (L todo : List (K × V)) (hit : a.eval it = .pointer (some ⟨r, 0, none⟩)) (h : KRange ek ev w b r L todo)
    (hDone : todo = [] → wpList P ops Q rest (a.put o.dst (.tuple #[.bool false])) w)
    (hMore : ∀ (p : K × V) (todo' : List (K × V)) (w' : World), Hid (todo.Perm (p :: todo')) → Hid (KRange ek ev w' b r L todo') → Hid (But (fun i => i = r) w w') → Hid (w'.heap.size = w.heap.size) →
      (Instr.entry (.pointer (some ⟨r, 0, none⟩))).run P w' = .ok (.tuple #[ek p.1, ev p.2]) w' → wpList P ops Q rest (a.put o.dst (.tuple #[.bool true, ek p.1, ev p.2])) w') :
    wpList P ops Q (o :: rest) a w := by
  refine wpList_plain hg fun K' hK' => ?_
  unfold Oper.wp
  rcases h.next (P := P) o.type with ⟨h0, hrun⟩ | ⟨p, todo', w', hp, hrun, hr, hb, hs, hen⟩
  · simp [execOp, hop, hit, hrun, Result.andThen]
    exact hK' _ _ (hDone h0)
  · simp [execOp, hop, hit, hrun, Result.andThen]
    exact hK' _ _ (hMore p todo' w' hp hr hb hs hen)

end
end Go.Proofs.YthobfeohgeeofaaGreat

/-
  The shapes of a graph's maps: stamps and places as keys.
-/
namespace Go.Proofs.YthobfeohgeeofaaGreat
open Go.RowKit StampMath GraphMath

def stV (x : St) : Value := .agg (stA x)
def inoV (x : Ino) : Value := .agg (inoA x)
def plV (p : St × ByteArray) : Value := .agg #[.int .i64 p.1.1, .int .i64 p.1.2, .string p.2]

theorem stV_inj (x y : St) (h : stV x = stV y) : x = y := by
  unfold stV stA at h
  simp at h
  exact Prod.ext h.1 h.2

theorem plV_inj (x y : St × ByteArray) (h : plV x = plV y) : x = y := by
  unfold plV at h
  simp at h
  exact Prod.ext (Prod.ext h.1 h.2.1) h.2.2

theorem run_eqPl (a b : Int) (s : ByteArray) (c d : Int) (u : ByteArray) (W : World) : (Op.equalIn 10000 55 (.agg #[.int .i64 a, .int .i64 b, .string s]) (.agg #[.int .i64 c, .int .i64 d, .string u])).run Tryz.prog W = .ok (decide (((a, b), s) = ((c, d), u))) W := by
  go_simp
  by_cases h1 : a = c
  · by_cases h2 : b = d
    · by_cases h3 : s = u
      · simp [h1, h2, h3]
      · simp [h1, h2, h3]
        intro h4
        exact h3 (bytes_same h4)
    · simp [h1, h2]
  · simp [h1]

theorem checkKey_st (w : World) (em : Bool) (n : Nat) (x : St) : (Instr.checkKey em (n + 2) 34 (.agg (stA x))).run Tryz.prog w = .ok () w := by
  refine checkKey_struct (n := n + 1) Tryz.underlying34 w em (stA x) fun f hf => ?_
  simp at hf
  rcases hf with rfl | rfl
  · exact ⟨by decide, .int .i64 x.1, by unfold stA; go_simp, checkKey_int Tryz.underlying2 w em n x.1⟩
  · exact ⟨by decide, .int .i64 x.2, by unfold stA; go_simp, checkKey_int Tryz.underlying3 w em n x.2⟩

theorem checkKey_pl (w : World) (em : Bool) (n : Nat) (p : St × ByteArray) : (Instr.checkKey em (n + 3) 55 (plV p)).run Tryz.prog w = .ok () w := by
  refine checkKey_struct (n := n + 2) Tryz.underlying55 w em _ fun f hf => ?_
  simp at hf
  rcases hf with rfl | rfl
  · exact ⟨by decide, .agg (stA p.1), by unfold stA; go_simp, checkKey_st w em n p.1⟩
  · exact ⟨by decide, .string p.2, by go_simp, checkKey_string Tryz.underlying9 w em (n + 1) p.2⟩

theorem stShape : KShape Tryz.prog 34 stV :=
  KShape.of_equal (by kernel_rfl) stV_inj (fun w x y => run_eqSt x.1 x.2 y.1 y.2 w) (fun w em x => checkKey_st w em 9998 x) (fun x => by
    unfold stV stA
    show Instr.sameBits (9999 + 1) _ _ = true
    simp [Instr.sameBits])

theorem plShape : KShape Tryz.prog 55 plV :=
  KShape.of_equal (by kernel_rfl) plV_inj (fun w x y => run_eqPl x.1.1 x.1.2 x.2 y.1.1 y.1.2 y.2 w) (fun w em x => checkKey_pl w em 9997 x) (fun x => by
    unfold plV
    show Instr.sameBits (9999 + 1) _ _ = true
    simp [Instr.sameBits, MapKept.bytes_beq])

end Go.Proofs.YthobfeohgeeofaaGreat

/-
  A graph as two maps: what stands in them, and what each call makes of them. It needs no program.
-/
namespace Go.Proofs.YthobfeohgeeofaaGreat
open StampMath GraphMath

def pairsI (g : Gr) : List (St × Ino) := (inodesG g).map fun x => (x.id, x)
def pairsE (g : Gr) : List ((St × ByteArray) × St) := g.E.map fun e => ((e.dir, e.name), e.ino)

section
variable {K V : Type} [DecidableEq K]

omit [DecidableEq K] in
theorem nodup_of_keys {L : List (K × V)} (h : (L.map Prod.fst).Nodup) : L.Nodup := by
  unfold List.Nodup at h ⊢
  rw [List.pairwise_map] at h
  exact h.imp fun q e => q (by rw [e])

omit [DecidableEq K] in
theorem perm_by {L M : List (K × V)} (hL : (L.map Prod.fst).Nodup) (hM : (M.map Prod.fst).Nodup) (h : ∀ k v, (k, v) ∈ L ↔ (k, v) ∈ M) : L.Perm M :=
  (List.perm_ext_iff_of_nodup (nodup_of_keys hL) (nodup_of_keys hM)).2 fun p => h p.1 p.2

theorem mem_offL {L : List (K × V)} {x k : K} {v : V} : (k, v) ∈ offL L x ↔ (k, v) ∈ L ∧ k ≠ x := by
  unfold offL
  simp

theorem keys_offL {L : List (K × V)} (h : (L.map Prod.fst).Nodup) (x : K) : ((offL L x).map Prod.fst).Nodup :=
  List.Pairwise.sublist (List.Sublist.map _ List.filter_sublist) h

theorem keys_put {L : List (K × V)} (h : (L.map Prod.fst).Nodup) (x : K) (v : V) : (((x, v) :: offL L x).map Prod.fst).Nodup := by
  rw [List.map_cons, List.nodup_cons]
  refine ⟨fun hm => ?_, keys_offL h x⟩
  obtain ⟨⟨k, u⟩, hp, rfl⟩ := List.mem_map.1 hm
  exact (mem_offL.1 hp).2 rfl

/-- A map with one thing more is this one. -/
theorem put_perm {L M : List (K × V)} (hL : (L.map Prod.fst).Nodup) (hM : (M.map Prod.fst).Nodup) {x : K} {v : V} (h : ∀ k, lookL M k = if k = x then some v else lookL L k) : ((x, v) :: offL L x).Perm M := by
  refine perm_by (keys_put hL x v) hM fun k u => ?_
  rw [List.mem_cons, mem_offL, ← mem_lookL hM, h k, ← mem_lookL hL]
  by_cases hk : k = x
  · subst hk
    simp [eq_comm]
  · simp [hk]

/-- A map with one thing less is this one. -/
theorem off_perm {L M : List (K × V)} (hL : (L.map Prod.fst).Nodup) (hM : (M.map Prod.fst).Nodup) {x : K} (h : ∀ k, lookL M k = if k = x then none else lookL L k) : (offL L x).Perm M := by
  refine perm_by (keys_offL hL x) hM fun k u => ?_
  rw [mem_offL, ← mem_lookL hM, h k, ← mem_lookL hL]
  by_cases hk : k = x
  · simp [hk]
  · simp [hk]
end

theorem look_pairsI {g : Gr} (h : g.ok) (id : St) : lookL (pairsI g) id = getG g id := by
  unfold lookL pairsI
  rw [h.inodes, List.map_map, List.find?_map, Option.map_map]
  unfold getG
  cases hq : g.I.find? (fun x => decide (x.id = id)) with
  | none =>
    rw [show (g.I.find? ((fun p => decide (p.1 = id)) ∘ (fun x : Ino => (x.id, x)) ∘ fun x => { x with links := (linksE g.E x.id : Int) })) = g.I.find? (fun x => decide (x.id = id)) from rfl, hq]
    rfl
  | some x =>
    rw [show (g.I.find? ((fun p => decide (p.1 = id)) ∘ (fun x : Ino => (x.id, x)) ∘ fun x => { x with links := (linksE g.E x.id : Int) })) = g.I.find? (fun x => decide (x.id = id)) from rfl, hq]
    have := List.find?_some hq
    simp at this
    simp [this]

theorem look_pairsE (g : Gr) (d : St) (nm : ByteArray) : lookL (pairsE g) (d, nm) = lookE g.E d nm := by
  unfold lookL pairsE lookE
  rw [List.find?_map, Option.map_map]
  congr 1
  refine congrArg (fun f => List.find? f g.E) (funext fun e => ?_)
  by_cases h1 : e.dir = d
  · by_cases h2 : e.name = nm
    · simp [h1, h2]
    · simp [h1, h2]
  · simp [h1]

theorem keys_pairsI {g : Gr} (h : g.ok) : ((pairsI g).map Prod.fst).Nodup := by
  unfold pairsI
  rw [List.map_map, h.inodes, List.map_map]
  unfold List.Nodup
  rw [List.pairwise_map]
  exact h.sortI.imp fun {x y} q (e : x.id = y.id) => by
    rw [e, lessS_irrefl] at q
    cases q

theorem keys_pairsE {g : Gr} (h : g.ok) : ((pairsE g).map Prod.fst).Nodup := by
  unfold pairsE
  rw [List.map_map]
  unfold List.Nodup
  rw [List.pairwise_map]
  refine h.sortE.imp fun {x y} q e => ?_
  have e1 : x.dir = y.dir := congrArg (fun p => p.1) e
  have e2 : x.name = y.name := congrArg (fun p => p.2) e
  rcases (aheadE_iff x y).1 q with q | ⟨_, q⟩
  · rw [e1, lessS_irrefl] at q
    cases q
  · rw [e2] at q
    exact bytes_irrefl _ q

theorem get_iff {g : Gr} (h : g.ok) {k : St} {v : Ino} : getG g k = some v ↔ ∃ x ∈ g.I, x.id = k ∧ v = { x with links := (linksE g.E k : Int) } := by
  constructor
  · exact get_some
  · rintro ⟨x, hx, rfl, rfl⟩
    exact h.get hx

theorem look_iff {g : Gr} (h : g.ok) {d : St} {nm : ByteArray} {id : St} : lookE g.E d nm = some id ↔ (⟨d, nm, id⟩ : Ent) ∈ g.E := by
  rw [← look_pairsE, mem_lookL (keys_pairsE h)]
  unfold pairsE
  rw [List.mem_map]
  constructor
  · rintro ⟨e, he, q⟩
    have : e = ⟨d, nm, id⟩ := by
      obtain ⟨a, b, c⟩ := e
      simp only [Prod.mk.injEq] at q
      obtain ⟨⟨rfl, rfl⟩, rfl⟩ := q
      rfl
    rw [← this]
    exact he
  · intro he
    exact ⟨_, he, rfl⟩

/-- No entry is of what isn't there. -/
theorem links_none {g : Gr} (h : g.ok) {id : St} (hn : getG g id = none) : linksE g.E id = 0 := by
  unfold linksE
  rw [List.filter_eq_nil_iff.2 (fun e he q => ?_)]
  · rfl
  · obtain ⟨x, hx, e1⟩ := h.inos e he
    exact get_none hn x hx (e1.trans (by simpa using q))

/-! ### Make -/
theorem make_get {g : Gr} (h : g.ok) {id : St} {kind : Int} (h1 : (makeG g id kind).2 = 0) (k : St) :
    getG (makeG g id kind).1 k = if k = id then some ⟨id, kind, 0, 0, ⟨#[]⟩⟩ else getG g k := by
  have hok := h.make id kind
  unfold makeG at h1 hok ⊢
  by_cases c1 : mayB id.1 id.2 = false ∨ kind < 1 ∨ 3 < kind
  · rw [if_pos c1] at h1; cases h1
  rw [if_neg c1] at h1 hok ⊢
  by_cases c2 : (getG g id).isSome = true
  · rw [if_pos c2] at h1; cases h1
  rw [if_neg c2] at h1 hok ⊢
  by_cases c3 : 40 ≤ g.I.length
  · rw [if_pos c3] at h1; cases h1
  rw [if_neg c3] at hok ⊢
  have hn : getG g id = none := by cases hq : getG g id with | none => rfl | some _ => rw [hq] at c2; simp at c2
  refine Option.ext fun v => ?_
  rw [get_iff hok]
  simp only [putIn_mem]
  by_cases hk : k = id
  · subst hk
    rw [if_pos rfl]
    constructor
    · rintro ⟨x, rfl | hx, e1, rfl⟩
      · simp [links_none h hn]
      · exact absurd e1 (get_none hn x hx)
    · intro e
      injection e with e
      exact ⟨_, Or.inl rfl, rfl, by rw [← e]; simp [links_none h hn]⟩
  · rw [if_neg hk, get_iff h]
    constructor
    · rintro ⟨x, rfl | hx, e1, rfl⟩
      · exact absurd e1.symm hk
      · exact ⟨x, hx, e1, rfl⟩
    · rintro ⟨x, hx, e1, rfl⟩
      exact ⟨x, Or.inr hx, e1, rfl⟩

theorem make_ents (g : Gr) (id : St) (kind : Int) : (makeG g id kind).1.E = g.E := by
  unfold makeG
  split <;> try rfl
  split <;> try rfl
  split <;> rfl

/-! ### Tie -/
theorem tie_get {g : Gr} {b : Bool} {e : Ent} (h1 : (tieG b g e).2 = 0) (k : St) :
    getG (tieG b g e).1 k = (getG g k).map fun x => if k = e.ino then { x with links := x.links + 1 } else x := by
  unfold tieG at h1 ⊢
  by_cases c : whyG b g e = 0
  · rw [if_pos c]
    unfold getG
    simp only [linksE_put, Option.map_map]
    congr 1
    funext x
    by_cases hk : k = e.ino
    · subst hk
      simp
    · have hk' : ¬ e.ino = k := fun q => hk q.symm
      simp [hk, hk']
  · rw [if_neg c] at h1
    exact absurd h1 c

theorem tie_look {g : Gr} (h : g.ok) {b : Bool} {e : Ent} (h1 : (tieG b g e).2 = 0) (p : St × ByteArray) :
    lookL (pairsE (tieG b g e).1) p = if p = (e.dir, e.name) then some e.ino else lookL (pairsE g) p := by
  have hok := h.tie b e
  unfold tieG at h1 hok ⊢
  by_cases c : whyG b g e = 0
  · rw [if_pos c] at hok ⊢
    have hn : lookE g.E e.dir e.name = none := by
      cases hq : lookE g.E e.dir e.name with
      | none => rfl
      | some y =>
        unfold whyG at c
        split at c
        · cases c
        · split at c
          · split at c
            · cases c
            · rw [hq] at c
              simp at c
          · cases c
    obtain ⟨d, nm⟩ := p
    rw [look_pairsE, look_pairsE]
    refine Option.ext fun id => ?_
    rw [look_iff hok, putIn_mem]
    by_cases hp : (d, nm) = (e.dir, e.name)
    · rw [if_pos hp]
      simp only [Prod.mk.injEq] at hp
      obtain ⟨rfl, rfl⟩ := hp
      constructor
      · rintro (q | q)
        · rw [← q]
        · exact absurd ⟨rfl, rfl⟩ (look_none hn _ q)
      · intro q
        injection q with q
        exact Or.inl (by rw [← q])
    · rw [if_neg hp, look_iff h]
      constructor
      · rintro (q | q)
        · exact absurd (by rw [← q]) hp
        · exact q
      · exact Or.inr
  · rw [if_neg c] at h1
    exact absurd h1 c

/-! ### Untie -/
theorem untie_look {g : Gr} (h : g.ok) {d : St} {nm : ByteArray} {id : St} (h1 : lookE g.E d nm = some id) (p : St × ByteArray) :
    lookL (pairsE (untieG g d nm).1) p = if p = (d, nm) then none else lookL (pairsE g) p := by
  have hok := h.untie d nm
  unfold untieG at hok ⊢
  rw [h1] at hok ⊢
  simp only at hok ⊢
  obtain ⟨d', nm'⟩ := p
  rw [look_pairsE, look_pairsE]
  refine Option.ext fun u => ?_
  rw [look_iff hok, List.mem_filter]
  by_cases hp : (d', nm') = (d, nm)
  · rw [if_pos hp]
    simp only [Prod.mk.injEq] at hp
    obtain ⟨rfl, rfl⟩ := hp
    simp
  · rw [if_neg hp, look_iff h]
    have : (!(decide (d' = d) && decide (nm' = nm))) = true := by
      by_cases a : d' = d
      · by_cases c : nm' = nm
        · exact absurd (by rw [a, c]) hp
        · simp [c]
      · simp [a]
    constructor
    · exact fun q => q.1
    · exact fun q => ⟨q, this⟩

theorem untie_links {g : Gr} (h : g.ok) {d : St} {nm : ByteArray} {id : St} (h1 : lookE g.E d nm = some id) (k : St) :
    (linksE (g.E.filter fun e => !(decide (e.dir = d) && decide (e.name = nm))) k : Int) = (linksE g.E k : Int) - if k = id then 1 else 0 := by
  have hm := (look_iff h).1 h1
  have hnd : g.E.Nodup := by
    have q := keys_pairsE h
    unfold pairsE at q
    rw [List.map_map] at q
    unfold List.Nodup at q ⊢
    rw [List.pairwise_map] at q
    exact q.imp fun r e => r (by rw [e])
  have hu : ∀ e ∈ g.E, (!(decide (e.dir = d) && decide (e.name = nm))) = !decide (e = ⟨d, nm, id⟩) := by
    intro e he
    by_cases q : e = ⟨d, nm, id⟩
    · subst q; simp
    · have : ¬ (e.dir = d ∧ e.name = nm) := by
        rintro ⟨rfl, rfl⟩
        refine q ?_
        have r := (look_iff h (d := e.dir) (nm := e.name) (id := e.ino)).2 he
        rw [h1] at r
        injection r with r
        rw [r]
      simp only [q, decide_false, Bool.not_false, Bool.not_eq_true', Bool.and_eq_false_iff, decide_eq_false_iff_not]
      by_cases a : e.dir = d
      · exact Or.inr fun c => this ⟨a, c⟩
      · exact Or.inl a
  rw [List.filter_congr hu]
  obtain ⟨A, B, hE⟩ := List.append_of_mem hm
  rw [hE] at hnd ⊢
  have hA : ∀ e ∈ A, (!decide (e = (⟨d, nm, id⟩ : Ent))) = true := fun e he => by
    have := (List.nodup_append.1 hnd).2.2 e he ⟨d, nm, id⟩ (List.mem_cons_self ..)
    simp [this]
  have hB : ∀ e ∈ B, (!decide (e = (⟨d, nm, id⟩ : Ent))) = true := fun e he => by
    have q := (List.nodup_cons.1 (List.nodup_append.1 hnd).2.1).1
    have : e ≠ ⟨d, nm, id⟩ := fun r => q (r ▸ he)
    simp [this]
  rw [List.filter_append, List.filter_eq_self.2 hA, List.filter_cons_of_neg (by simp), List.filter_eq_self.2 hB]
  unfold linksE
  simp only [List.filter_append, List.filter_cons, List.length_append]
  by_cases hk : k = id
  · subst hk
    simp
    omega
  · have hk' : ¬ id = k := fun q => hk q.symm
    simp [hk, hk']

theorem untie_get {g : Gr} (h : g.ok) {d : St} {nm : ByteArray} {id : St} (h1 : lookE g.E d nm = some id) (k : St) :
    getG (untieG g d nm).1 k = (getG g k).map fun x => if k = id then { x with links := x.links - 1 } else x := by
  unfold untieG
  rw [h1]
  unfold getG
  simp only [untie_links h h1, Option.map_map]
  congr 1
  funext x
  by_cases hk : k = id
  · simp [hk]
  · simp [hk]

/-! ### Drop -/
theorem drop_get {g : Gr} (h : g.ok) {id : St} (h1 : (dropG g id).2 = 0) (k : St) : getG (dropG g id).1 k = if k = id then none else getG g k := by
  have hok := h.drop id
  cases hq : getG g id with
  | none =>
    unfold dropG at h1
    rw [hq] at h1
    cases h1
  | some x =>
    unfold dropG at h1 hok ⊢
    rw [hq] at h1 hok ⊢
    simp only at h1 hok ⊢
    by_cases c1 : id = (0, 0)
    · rw [if_pos c1] at h1; cases h1
    rw [if_neg c1] at h1 hok ⊢
    by_cases c2 : 0 < x.links ∨ 0 < (listE g.E id).length
    · rw [if_pos c2] at h1; cases h1
    rw [if_neg c2] at hok ⊢
    refine Option.ext fun v => ?_
    rw [get_iff hok]
    simp only [List.mem_filter]
    by_cases hk : k = id
    · subst hk
      rw [if_pos rfl]
      constructor
      · rintro ⟨y, ⟨_, hy⟩, e1, _⟩
        simp [e1] at hy
      · intro q; cases q
    · rw [if_neg hk, get_iff h]
      constructor
      · rintro ⟨y, ⟨hy, _⟩, e1, rfl⟩
        exact ⟨y, hy, e1, rfl⟩
      · rintro ⟨y, hy, e1, rfl⟩
        refine ⟨y, ⟨hy, ?_⟩, e1, rfl⟩
        have : ¬ y.id = id := fun q => hk (e1.symm.trans q)
        simp [this]

theorem drop_ents (g : Gr) (id : St) : (dropG g id).1.E = g.E := by
  unfold dropG
  split
  · rfl
  · split
    · rfl
    · split <;> rfl

/-! ### Set -/
theorem set_get {g : Gr} {id : St} {mode : Int} {data : ByteArray} (k : St) :
    getG (setG g id mode data).1 k = (getG g k).map fun x => if k = id then { x with mode := mode, data := data } else x := by
  have hx : ∀ {x : Ino} {s : St}, g.I.find? (fun x => decide (x.id = s)) = some x → x.id = s := fun h => by
    have := List.find?_some h
    simpa using this
  cases hq : getG g id with
  | none =>
    unfold setG
    rw [hq]
    cases hk : getG g k with
    | none => rfl
    | some x =>
      have : ¬ k = id := fun q => by rw [q, hq] at hk; cases hk
      simp [this]
  | some y =>
    unfold setG
    rw [hq]
    unfold getG
    simp only [List.find?_map, Option.map_map]
    have e : ((fun x : Ino => decide (x.id = k)) ∘ fun x => if x.id = id then { x with mode := mode, data := data } else x) = fun x => decide (x.id = k) := by
      funext x
      simp only [Function.comp]
      split <;> rfl
    rw [e]
    cases hf : g.I.find? (fun x => decide (x.id = k)) with
    | none => rfl
    | some x =>
      have hxk := hx hf
      simp only [Option.map_some, Function.comp, Option.some.injEq]
      by_cases hk : k = id
      · have : x.id = id := hxk.trans hk
        simp [hk, this]
      · have : ¬ x.id = id := fun r => hk (hxk.symm.trans r)
        simp [hk, this]

theorem set_ents (g : Gr) (id : St) (mode : Int) (data : ByteArray) : (setG g id mode data).1.E = g.E := by
  unfold setG
  split <;> rfl

end Go.Proofs.YthobfeohgeeofaaGreat

/-
  The code of package graph (as it landed): a graph in memory is a block of two maps; root, Get.
-/
namespace Go.Proofs.YthobfeohgeeofaaGreat
open Go.RowKit StampMath GraphMath

/-- A graph in memory. -/
def GIn (W : World) (S : Nat → Prop) (a : Addr) (g : Gr) : Prop :=
  ∃ b bi be, a = ⟨b, 0, none⟩ ∧ b ≠ bi ∧ b ≠ be ∧ bi ≠ be ∧ W.heap[b]? = some (.cells #[.map (some bi), .map (some be)] 51 (0, 0)) ∧
    KMap stV inoV W bi (pairsI g) ∧ KMap plV stV W be (pairsE g) ∧ ∀ i, S i ↔ i = b ∨ i = bi ∨ i = be

theorem GIn.lt {W : World} {S : Nat → Prop} {a : Addr} {g : Gr} (h : GIn W S a g) : ∀ i, S i → i < W.heap.size := by
  obtain ⟨b, bi, be, rfl, _, _, _, hb, hi, he, hS⟩ := h
  intro i hs
  rcases (hS i).1 hs with rfl | rfl | rfl
  · exact heap_lt hb
  · exact hi.lt
  · exact he.lt

theorem GIn.keep {W W' : World} {S : Nat → Prop} {a : Addr} {g : Gr} (h : GIn W S a g) (hk : ∀ i, S i → W'.heap[i]? = W.heap[i]?) : GIn W' S a g := by
  obtain ⟨b, bi, be, rfl, h1, h2, h3, hb, hi, he, hS⟩ := h
  exact ⟨b, bi, be, rfl, h1, h2, h3, (hk b ((hS b).2 (.inl rfl))).trans hb, hi.kept (hk bi ((hS bi).2 (.inr (.inl rfl)))), he.kept (hk be ((hS be).2 (.inr (.inr rfl)))), hS⟩

theorem zeroIno (w : World) : (zeroValue 47).run Tryz.prog w = .ok (inoV noIno) w := by kernel_rfl
theorem zeroSt (w : World) : (zeroValue 34).run Tryz.prog w = .ok (stV (0, 0)) w := by kernel_rfl

theorem root_any (w : World) : Calls Tryz.prog 13 #[] w fun e w' => e = .returned (.agg #[.int .i64 0, .int .i64 0]) ∧ Below w.heap.size w w' := by
  go_enter Tryz.func13, Tryz.ntmps13
  go_wp2_with fail
  obtain ⟨z0, z1⟩ := two_cells (heap_alloc_new w (.cells #[.int .i64 0, .int .i64 0] 34))
  exact bodyPost_ret (v := .agg #[.int .i64 0, .int .i64 0]) (by simp [results, Tryz.results13, go_sem, z0, z1]) rfl ⟨rfl, (Below.refl _ _).alloc (Nat.le_refl _) _⟩

set_option maxRecDepth 100000 in
theorem get_code (a : Addr) (S : Nat → Prop) (g : Gr) (id : St) (w : World) (h : GIn w S a g) (hg : g.ok) :
    Calls Tryz.prog 30 #[.pointer (some a), .agg (stA id)] w fun e w' => e = .returned (.tuple #[.agg (inoA ((getG g id).getD noIno)), .bool (getG g id).isSome]) ∧ Below w.heap.size w w' := by
  obtain ⟨b, bi, be, rfl, h1, h2, h3, hb, hi, he, hS⟩ := h
  obtain ⟨c0, c1⟩ := two_cells hb
  obtain ⟨ok, hok⟩ : ∃ ok, ok = (getG g id).isSome := ⟨_, rfl⟩
  obtain ⟨v, hv⟩ : ∃ v, v = (getG g id).getD noIno := ⟨_, rfl⟩
  rw [← hok, ← hv]
  have hlook : ∀ W : World, Hid (Below w.heap.size w W) → (Instr.lookup 48 (.map (some bi)) (.agg #[.int .i64 id.1, .int .i64 id.2]) true).run Tryz.prog W = .ok (.tuple #[.agg #[.int .i64 v.id.1, .int .i64 v.id.2, .int .i64 v.kind, .int .i64 v.links, .int .i64 v.mode, .string v.data], .bool ok]) W := fun W hW => by
    have hl := (hi.kept (hW.out.block bi hi.lt)).look stShape Tryz.underlying48 (zeroIno W) id true
    rw [look_pairsI hg, if_pos rfl, show ((getG g id).map inoV).getD (inoV noIno) = inoV v by rw [hv]; cases getG g id <;> rfl, ← hok] at hl
    exact hl
  have hlt := heap_lt hb
  have HL := Lib.hid hlook
  clear hi he hb hS hlook hok hv
  unfold stA
  go_enter Tryz.func30, Tryz.ntmps30
  go_wp2_with fail
  have hbW : Below w.heap.size w ((w.alloc (.cells #[.int .i64 id.1, .int .i64 id.2] 34)).alloc (.cells #[.int .i64 0, .int .i64 0, .int .i64 0, .int .i64 0, .int .i64 0, .string ⟨#[]⟩] 47)) := ((Below.refl _ _).alloc (Nat.le_refl _) _).alloc (by simp) _
  have hb1 := (hbW.alloc hbW.size (.cells #[.int .i64 0, .int .i64 0, .int .i64 0, .int .i64 0, .int .i64 0, .string ⟨#[]⟩] 47)).drew
  have d0 := (hb1.cell (p := ⟨b, 0, none⟩) hlt).trans c0
  have hl := HL.out _ hb1
  have c0w := (hbW.cell (p := ⟨b, 0, none⟩) hlt).trans c0
  have hl0 := HL.out _ hbW.drew
  have HB := Lib.hid hbW
  clear hbW hb1
  go_region
  all_goals clear d0 hl c0w hl0
  all_goals go_wp2_with fail
  all_goals exact bodyPost_ret (v := .tuple #[.agg (inoA v), .bool ok]) (by simp [results, Tryz.results30, go_sem, inoA]) rfl ⟨rfl, by
    repeat (first | exact Below.refl _ _ | apply Below.drew | refine Below.alloc ?_ (by simp <;> omega) _)⟩

end Go.Proofs.YthobfeohgeeofaaGreat

/-
  The walks of package cmp's functions and of stamp's Compare, with what they leave: the world, so many draws on and so many blocks more.
-/
namespace Go.Proofs.YthobfeohgeeofaaGreat
open Go.RowKit StampMath

theorem nan64 (t : Int) (w : World) : Calls Tryz.prog 72 #[.int .i64 t] w fun e w' => e = .returned (.bool false) ∧ w = w' := by
  go_enter Tryz.func72, Tryz.ntmps72
  go_wp2_with fail
  go_ret
  exact ⟨by simp, rfl⟩

theorem nanInt (t : Int) (w : World) : Calls Tryz.prog 73 #[.int .i64 t] w fun e w' => e = .returned (.bool false) ∧ w = w' := by
  go_enter Tryz.func73, Tryz.ntmps73
  go_wp2_with fail
  go_ret
  exact ⟨by simp, rfl⟩

theorem cell_alloc {W : World} {o : Obj} {a : Addr} {v : Value} (h : W.cell? a = some v) : (W.alloc o).cell? a = some v :=
  (World.cell?_alloc_lt W o a (World.block_lt_of_cell? _ _ h)).trans h

theorem kept_alloc4 {w W : World} {a b c d : Addr} {u v x y : Value} (o : Obj) (h : (W.cell? a = some u ∧ W.cell? b = some v ∧ W.cell? c = some x ∧ W.cell? d = some y) ∧ KeptFrom w W) :
    ((W.alloc o).cell? a = some u ∧ (W.alloc o).cell? b = some v ∧ (W.alloc o).cell? c = some x ∧ (W.alloc o).cell? d = some y) ∧ KeptFrom w (W.alloc o) :=
  ⟨⟨cell_alloc h.1.1, cell_alloc h.1.2.1, cell_alloc h.1.2.2.1, cell_alloc h.1.2.2.2⟩, (kept_below h.2).alloc (kept_below h.2).size o⟩

theorem cell_third (w : World) (o1 o2 : Obj) (a b : Value) (T : TypeId) :
    (((w.alloc o1).alloc o2).alloc (.cells #[a, b] T)).drew.cell? ⟨w.heap.size + 1 + 1, 0, none⟩ = some a ∧ (((w.alloc o1).alloc o2).alloc (.cells #[a, b] T)).drew.cell? ⟨w.heap.size + 1 + 1, 1, none⟩ = some b := by
  have h := heap_alloc_new ((w.alloc o1).alloc o2) (.cells #[a, b] T)
  have e : ((w.alloc o1).alloc o2).heap.size = w.heap.size + 1 + 1 := by simp
  rw [e] at h
  exact ⟨cell_of_row _ _ 0 _ _ (0, 0) h, cell_of_row _ _ 1 _ _ (0, 0) h⟩

/-- Which of two numbers is first. -/
def cmp1 (x y : Int) : Int := if x < y then -1 else if y < x then 1 else 0

set_option maxHeartbeats 400000 in
theorem compare64 (x y : Int) (w : World) : Calls Tryz.prog 61 #[.int .i64 x, .int .i64 y] w fun e w' => e = .returned (.int .i64 (cmp1 x y)) ∧ w = w' := by
  have hcase : (x < y ∧ cmp1 x y = -1) ∨ (¬ x < y ∧ y < x ∧ cmp1 x y = 1) ∨ (¬ x < y ∧ ¬ y < x ∧ cmp1 x y = 0) := by
    unfold cmp1
    by_cases h1 : x < y
    · exact Or.inl ⟨h1, by rw [if_pos h1]⟩
    · by_cases h2 : y < x
      · exact Or.inr (Or.inl ⟨h1, h2, by rw [if_neg h1, if_pos h2]⟩)
      · exact Or.inr (Or.inr ⟨h1, h2, by rw [if_neg h1, if_neg h2]⟩)
  rcases hcase with ⟨h1, h⟩ | ⟨h1, h2, h⟩ | ⟨h1, h2, h⟩
  all_goals
    rw [h]
    clear h
    go_enter Tryz.func61, Tryz.ntmps61
    go_wp2_with fail
    refine (nan64 _ _).mono ?_
    rintro e w' ⟨rfl, rfl⟩
    go_wp2_with fail
    refine (nan64 _ _).mono ?_
    rintro e w' ⟨rfl, rfl⟩
    go_wp2_with fail
    go_ret
    exact ⟨rfl, rfl⟩

set_option maxHeartbeats 400000 in
theorem compareInt (x y : Int) (w : World) : Calls Tryz.prog 62 #[.int .i64 x, .int .i64 y] w fun e w' => e = .returned (.int .i64 (cmp1 x y)) ∧ w = w' := by
  have hcase : (x < y ∧ cmp1 x y = -1) ∨ (¬ x < y ∧ y < x ∧ cmp1 x y = 1) ∨ (¬ x < y ∧ ¬ y < x ∧ cmp1 x y = 0) := by
    unfold cmp1
    by_cases h1 : x < y
    · exact Or.inl ⟨h1, by rw [if_pos h1]⟩
    · by_cases h2 : y < x
      · exact Or.inr (Or.inl ⟨h1, h2, by rw [if_neg h1, if_pos h2]⟩)
      · exact Or.inr (Or.inr ⟨h1, h2, by rw [if_neg h1, if_neg h2]⟩)
  rcases hcase with ⟨h1, h⟩ | ⟨h1, h2, h⟩ | ⟨h1, h2, h⟩
  all_goals
    rw [h]
    clear h
    go_enter Tryz.func62, Tryz.ntmps62
    go_wp2_with fail
    refine (nanInt _ _).mono ?_
    rintro e w' ⟨rfl, rfl⟩
    go_wp2_with fail
    refine (nanInt _ _).mono ?_
    rintro e w' ⟨rfl, rfl⟩
    go_wp2_with fail
    go_ret
    exact ⟨rfl, rfl⟩

/-- The first of two numbers that is not zero. -/
def or2 (a b : Int) : Int := if a = 0 then b else a

theorem or2_cmp (t r t' r' : Int) : or2 (cmp1 t t') (cmp1 r r') = cmp t r t' r' := by
  have h := cmp_cases t r t' r'
  unfold or2 cmp1
  split <;> split <;> (try split) <;> (try split) <;> omega

set_option maxHeartbeats 400000 in
theorem or_any (g : Nat) (a b : Int) (W : World) (h0 : W.cell? ⟨g, 0, none⟩ = some (.int .i64 a)) (h1 : W.cell? ⟨g, 1, none⟩ = some (.int .i64 b)) :
    Calls Tryz.prog 60 #[.slice (some ⟨g, 0, none⟩) 2 2] W fun e w' => e = .returned (.int .i64 (or2 a b)) ∧ W = w' := by
  go_enter Tryz.func60, Tryz.ntmps60
  go_wp2_with fail
  go_loop [8] (fun i => ∃ k : Nat, i = .int .i64 (k : Int) ∧ k ≤ 2 ∧ (0 < k → a = 0) ∧ (1 < k → b = 0)) (fun i => 2 - (intOf i).toNat)
  case atStart => exact ⟨0, rfl, by omega, by omega, by omega⟩
  case round =>
    obtain ⟨k, rfl, hk, ha, hb⟩ := hrel
    have HA := Lib.hid ha
    have HB := Lib.hid hb
    clear ha hb
    have hk3 : k = 0 ∨ k = 1 ∨ k = 2 := by omega
    clear hk
    rcases hk3 with rfl | rfl | rfl
    · by_cases hz : a = 0
      · have hz' : (a == 0) = true := by simp [hz]
        have HZ := Lib.hid hz
        clear hz
        go_wp2_with fail
        exact ⟨⟨1, by go_num, by omega, fun _ => HZ.out, by omega⟩, by simp [intOf]⟩
      · have hz' : (a == 0) = false := by simp [hz]
        have HZ := Lib.hid hz
        clear hz
        go_wp2_with fail
        go_ret
        exact ⟨by rw [or2, if_neg HZ.out]; rfl, rfl⟩
    · by_cases hz : b = 0
      · have hz' : (b == 0) = true := by simp [hz]
        have HZ := Lib.hid hz
        clear hz
        go_wp2_with fail
        exact ⟨⟨2, by go_num, by omega, fun _ => HA.out (by omega), fun _ => HZ.out⟩, by simp [intOf]⟩
      · have hz' : (b == 0) = false := by simp [hz]
        have HZ := Lib.hid hz
        clear hz
        go_wp2_with fail
        go_ret
        exact ⟨by rw [or2, if_pos (HA.out (by omega))]; rfl, rfl⟩
    · go_wp2_with fail
      go_ret
      exact ⟨by rw [or2, if_pos (HA.out (by omega)), HB.out (by omega)]; rfl, rfl⟩

/-- All that was there is as it was; draws and blocks have come. -/
def Grown (w W : World) : Prop := Below w.heap.size w W ∧ w.drawn ≤ W.drawn

theorem Grown.refl (w : World) : Grown w w := ⟨Below.refl _ _, Nat.le_refl _⟩
theorem Grown.alloc {w W : World} (h : Grown w W) (o : Obj) : Grown w (W.alloc o) := ⟨(kept_below h.1).alloc h.1.size o, h.2⟩
theorem Grown.drew {w W : World} (h : Grown w W) : Grown w W.drew := ⟨h.1.drew, Nat.le_trans h.2 (Nat.le_succ _)⟩
theorem Grown.trans {a b c : World} (h : Grown a b) (k : Grown b c) : Grown a c := ⟨below_step h.1 k.1, Nat.le_trans h.2 k.2⟩

theorem Grown.grow {w W : World} (h : Grown w W) : ∃ q os, W = Sort.grow (w.drewN q) os := by
  obtain ⟨hb, hd⟩ := h
  refine ⟨W.drawn - w.drawn, W.heap.extract w.heap.size W.heap.size, ?_⟩
  have hh : W.heap = w.heap ++ W.heap.extract w.heap.size W.heap.size := by
    apply Array.ext_getElem?
    intro i
    have hs := hb.size
    by_cases hi : i < w.heap.size
    · rw [hb.block i hi, Array.getElem?_append_left hi]
    · rw [Array.getElem?_append_right (by omega)]
      simp only [Array.getElem?_extract]
      by_cases hi2 : i < W.heap.size
      · rw [if_pos (by omega), show w.heap.size + (i - w.heap.size) = i by omega]
      · rw [if_neg (by omega), Array.getElem?_eq_none (by omega)]
  have e1 := hb.os
  have e2 := hb.tape
  have e3 := hb.output
  obtain ⟨H, T, D, O, U⟩ := W
  obtain ⟨H', T', D', O', U'⟩ := w
  simp only at hh e1 e2 e3 hd
  subst e1 e2 e3
  have e4 : D' + (D - D') = D := by omega
  unfold Sort.grow World.drewN
  simp only [World.mk.injEq, true_and, and_true]
  exact ⟨hh, e4.symm⟩

theorem grown_alloc4 {w W : World} {a b c d : Addr} {u v x y : Value} (o : Obj) (h : (W.cell? a = some u ∧ W.cell? b = some v ∧ W.cell? c = some x ∧ W.cell? d = some y) ∧ Grown w W) :
    ((W.alloc o).cell? a = some u ∧ (W.alloc o).cell? b = some v ∧ (W.alloc o).cell? c = some x ∧ (W.alloc o).cell? d = some y) ∧ Grown w (W.alloc o) :=
  ⟨⟨cell_alloc h.1.1, cell_alloc h.1.2.1, cell_alloc h.1.2.2.1, cell_alloc h.1.2.2.2⟩, h.2.alloc o⟩

set_option maxHeartbeats 800000 in
theorem compare_grown (t r t' r' : Int) (w : World) :
    Calls Tryz.prog 46 #[.agg #[.int .i64 t, .int .i64 r], .agg #[.int .i64 t', .int .i64 r']] w fun e w' => e = .returned (.int .i64 (cmp t r t' r')) ∧ Grown w w' := by
  have hv := or2_cmp t r t' r'
  obtain ⟨x, hx⟩ : ∃ x, x = cmp1 t t' := ⟨_, rfl⟩
  obtain ⟨y, hy⟩ : ∃ y, y = cmp1 r r' := ⟨_, rfl⟩
  have H1 : Hid (∀ W : World, Calls Tryz.prog 61 #[.int .i64 t, .int .i64 t'] W fun e w' => e = .returned (.int .i64 x) ∧ W = w') := fun W => by rw [hx]; exact compare64 _ _ W
  have H2 : Hid (∀ W : World, Calls Tryz.prog 62 #[.int .i64 r, .int .i64 r'] W fun e w' => e = .returned (.int .i64 y) ∧ W = w') := fun W => by rw [hy]; exact compareInt _ _ W
  rw [← hx, ← hy] at hv
  have HV := Lib.hid hv
  clear hv hx hy
  go_enter Tryz.func46, Tryz.ntmps46
  go_wp2_with fail
  have hS0 : (((w.alloc (.cells #[.int .i64 t, .int .i64 r] 34)).alloc (.cells #[.int .i64 t', .int .i64 r'] 34)).drew.cell? ⟨w.heap.size, 0, none⟩ = some (.int .i64 t) ∧ ((w.alloc (.cells #[.int .i64 t, .int .i64 r] 34)).alloc (.cells #[.int .i64 t', .int .i64 r'] 34)).drew.cell? ⟨w.heap.size, 1, none⟩ = some (.int .i64 r) ∧ ((w.alloc (.cells #[.int .i64 t, .int .i64 r] 34)).alloc (.cells #[.int .i64 t', .int .i64 r'] 34)).drew.cell? ⟨w.heap.size + 1, 0, none⟩ = some (.int .i64 t') ∧ ((w.alloc (.cells #[.int .i64 t, .int .i64 r] 34)).alloc (.cells #[.int .i64 t', .int .i64 r'] 34)).drew.cell? ⟨w.heap.size + 1, 1, none⟩ = some (.int .i64 r')) ∧ Grown w ((w.alloc (.cells #[.int .i64 t, .int .i64 r] 34)).alloc (.cells #[.int .i64 t', .int .i64 r'] 34)).drew := by
    refine ⟨⟨?_, ?_, ?_, ?_⟩, (((Grown.refl _).alloc _).alloc _).drew⟩
    · exact cell_of_row _ _ 0 _ _ (0, 0) (heap_alloc2_old w _ _)
    · exact cell_of_row _ _ 1 _ _ (0, 0) (heap_alloc2_old w _ _)
    · exact cell_of_row _ _ 0 _ _ (0, 0) (heap_alloc2_new w _ _)
    · exact cell_of_row _ _ 1 _ _ (0, 0) (heap_alloc2_new w _ _)
  go_region_held3 (fun W => (W.cell? ⟨w.heap.size, 0, none⟩ = some (.int .i64 t) ∧ W.cell? ⟨w.heap.size, 1, none⟩ = some (.int .i64 r) ∧ W.cell? ⟨w.heap.size + 1, 0, none⟩ = some (.int .i64 t') ∧ W.cell? ⟨w.heap.size + 1, 1, none⟩ = some (.int .i64 r')) ∧ Grown w W) (first | assumption | exact grown_alloc4 _ (by assumption) | (refine ⟨⟨?_, ?_, ?_, ?_⟩, ?_⟩ <;> assumption))
    (first
      | (go_at_call 61; (with_reducible refine (H1.out _).mono ?_); rintro e w' ⟨rfl, rfl⟩; have hS := hS0)
      | (go_at_call 62; (with_reducible refine (H2.out _).mono ?_); rintro e w' ⟨rfl, rfl⟩; have hS := hS0)
      | (go_at_call 60; refine (or_any _ x y _ ?_ ?_).mono ?_; exact (cell_third w _ _ _ _ _).1; exact (cell_third w _ _ _ _ _).2; rintro e w' ⟨rfl, rfl⟩; have hS := ‹(_ ∧ _ ∧ _ ∧ _) ∧ Grown w _›))
  have hB := (show Grown w _ from And.right ‹(_ ∧ _ ∧ _ ∧ _) ∧ Grown w _›)
  clear hS0
  go_wp2_with fail
  go_ret
  exact ⟨by rw [← HV.out]; rfl, hB⟩

end Go.Proofs.YthobfeohgeeofaaGreat

/-
  The order of entries and of inodes as a sort's own: it needs no program.
-/
namespace Go.Proofs.YthobfeohgeeofaaGreat.GraphMath
open StampMath

instance entThere : Inhabited Ent := ⟨⟨(0, 0), ⟨#[]⟩, (0, 0)⟩⟩
instance inoThere : Inhabited Ino := ⟨noIno⟩

theorem sorted_only {α : Type} {r : α → α → Bool} (irr : ∀ x, r x x = false) (tr : ∀ x y z, r x y = true → r y z = true → r x z = true) {l E : List α} (hE : E.Pairwise fun a b => r a b = true) (hp : l.Perm E) (hs : l.Pairwise fun x y => r y x = false) : l = E := by
  have asym : ∀ x y, r x y = true → r y x = false := fun x y h => by
    cases hq : r y x with
    | false => rfl
    | true => have := tr x y x h hq; rw [irr] at this; cases this
  refine List.Perm.eq_of_pairwise (le := fun x y => r y x = false) (fun a b ha hb h1 h2 => ?_) hs (hE.imp fun h => asym _ _ h) hp
  have all : ∀ x ∈ E, ∀ y ∈ E, x = y ∨ r x y = true ∨ r y x = true := by
    intro x hx y hy
    obtain ⟨i, hi, rfl⟩ := List.getElem_of_mem hx
    obtain ⟨j, hj, rfl⟩ := List.getElem_of_mem hy
    have q := List.pairwise_iff_getElem.1 hE
    rcases Nat.lt_trichotomy i j with h | h | h
    · exact Or.inr (Or.inl (q i j hi hj h))
    · subst h; exact Or.inl rfl
    · exact Or.inr (Or.inr (q j i hj hi h))
  rcases all a (hp.mem_iff.1 ha) b hb with h | h | h
  · exact h
  · rw [h] at h2; cases h2
  · rw [h] at h1; cases h1

theorem bytesLess_eq : ∀ (x y : List UInt8), Op.bytesLess x y = decide (x < y)
  | [], [] => by simp [Op.bytesLess]
  | _ :: _, [] => by simp [Op.bytesLess]
  | [], _ :: _ => by simp [Op.bytesLess]
  | a :: x, b :: y => by
    rw [Op.bytesLess, bytesLess_eq x y]
    simp only [List.cons_lt_cons_iff]
    by_cases h1 : a < b <;> by_cases h2 : a = b <;> by_cases h3 : x < y <;> simp [h1, h2, h3]

theorem namesLess_eq (a b : ByteArray) : Op.bytesLess a.toList b.toList = decide (a.data.toList < b.data.toList) := by
  rw [bytesLess_eq, ByteArray.toList_eq, ByteArray.toList_eq]

/-- What package cmp's Compare tells of two strings. -/
def cmpB (a b : List UInt8) : Int := if a < b then -1 else if a = b then 0 else 1

theorem cmpB_lt (a b : List UInt8) : cmpB a b < 0 ↔ a < b := by
  unfold cmpB
  by_cases h : a < b
  · simp [h]
  · rw [if_neg h]
    by_cases h2 : a = b <;> simp [h, h2]

/-- What comparing two entries tells. -/
def aheadI (x y : Ent) : Int := if cmp x.dir.1 x.dir.2 y.dir.1 y.dir.2 = 0 then cmpB x.name.data.toList y.name.data.toList else cmp x.dir.1 x.dir.2 y.dir.1 y.dir.2

theorem cmp_lt (a b : St) : cmp a.1 a.2 b.1 b.2 < 0 ↔ lessS a b = true := by
  show (if lessS a b = true then (-1 : Int) else if lessS b a = true then 1 else 0) < 0 ↔ _
  by_cases h : lessS a b = true
  · simp [h]
  · rw [if_neg h]
    by_cases h2 : lessS b a = true <;> simp [h, h2]

theorem cmp_zero (a b : St) : cmp a.1 a.2 b.1 b.2 = 0 ↔ a = b := by
  show (if lessS a b = true then (-1 : Int) else if lessS b a = true then 1 else 0) = 0 ↔ _
  constructor
  · intro h
    by_cases h1 : lessS a b = true
    · rw [if_pos h1] at h; omega
    · rw [if_neg h1] at h
      by_cases h2 : lessS b a = true
      · rw [if_pos h2] at h; omega
      · by_cases he : a = b
        · exact he
        · exact absurd (lessS_total (Bool.eq_false_iff.2 h1) he) h2
  · rintro rfl
    rw [if_neg (by rw [lessS_irrefl]; simp), if_neg (by rw [lessS_irrefl]; simp)]

theorem aheadI_lt (x y : Ent) : ltOf aheadI x y = aheadE x y := by
  unfold ltOf aheadI
  rw [Bool.eq_iff_iff, decide_eq_true_iff, aheadE_iff]
  by_cases h : x.dir = y.dir
  · rw [if_pos ((cmp_zero _ _).2 h), cmpB_lt, h, lessS_irrefl]
    simp
  · rw [if_neg (fun q => h ((cmp_zero _ _).1 q)), cmp_lt]
    simp [h]

theorem aheadE_irrefl (x : Ent) : aheadE x x = false := by
  rw [Bool.eq_false_iff]
  intro h
  rcases (aheadE_iff x x).1 h with q | ⟨_, q⟩
  · rw [lessS_irrefl] at q; cases q
  · exact bytes_irrefl _ q

theorem aheadE_ntrans {x y z : Ent} (h1 : aheadE x y = false) (h2 : aheadE y z = false) : aheadE x z = false := by
  rw [Bool.eq_false_iff]
  intro h
  by_cases he : x.dir = y.dir ∧ x.name = y.name
  · rw [aheadE_iff, he.1, he.2, ← aheadE_iff, h2] at h
    cases h
  · have := aheadE_trans (aheadE_total h1 he) h
    rw [h2] at this
    cases this

theorem swo_ents : Sort.SWO (ltOf aheadI) where
  irrefl x := by rw [aheadI_lt]; exact aheadE_irrefl x
  trans x y z h1 h2 := by rw [aheadI_lt] at *; exact aheadE_trans h1 h2
  ntrans x y z h1 h2 := by rw [aheadI_lt] at *; exact aheadE_ntrans h1 h2

/-- What comparing two inodes tells. -/
def inoI (x y : Ino) : Int := cmp x.id.1 x.id.2 y.id.1 y.id.2

theorem inoI_lt (x y : Ino) : ltOf inoI x y = lessS x.id y.id := by
  unfold ltOf inoI
  rw [Bool.eq_iff_iff, decide_eq_true_iff, cmp_lt]

theorem swo_inos : Sort.SWO (ltOf inoI) where
  irrefl x := by rw [inoI_lt]; exact lessS_irrefl _
  trans x y z h1 h2 := by rw [inoI_lt] at *; exact lessS_trans h1 h2
  ntrans x y z h1 h2 := by
    rw [inoI_lt] at *
    rw [Bool.eq_false_iff]
    intro h
    by_cases he : x.id = y.id
    · rw [he, h2] at h; cases h
    · have := lessS_trans (lessS_total h1 he) h
      rw [h2] at this; cases this

theorem sorted_ents {l E : List Ent} (hE : E.Pairwise fun a b => aheadE a b = true) (hp : l.Perm E) (hs : l.Pairwise fun x y => ltOf aheadI y x = false) : l = E :=
  sorted_only aheadE_irrefl (fun _ _ _ => aheadE_trans) hE hp (hs.imp fun h => by rwa [aheadI_lt] at h)

theorem sorted_inos {l I : List Ino} (hI : I.Pairwise fun a b => lessS a.id b.id = true) (hp : l.Perm I) (hs : l.Pairwise fun x y => ltOf inoI y x = false) : l = I :=
  sorted_only (r := fun a b => lessS a.id b.id) (fun _ => lessS_irrefl _) (fun _ _ _ => lessS_trans) hI hp (hs.imp fun h => by rwa [inoI_lt] at h)

end Go.Proofs.YthobfeohgeeofaaGreat.GraphMath

/-
  The walk of the landed order of entries, with what it leaves.
-/
namespace Go.Proofs.YthobfeohgeeofaaGreat
open Go.RowKit StampMath GraphMath

theorem nanStr (s : ByteArray) (w : World) : Calls Tryz.prog 95 #[.string s] w fun e w' => e = .returned (.bool false) ∧ w = w' := by
  go_enter Tryz.func95, Tryz.ntmps95
  go_wp2_with fail
  go_ret
  exact ⟨by simp, rfl⟩

set_option maxHeartbeats 400000 in
theorem compareStr (x y : ByteArray) (w : World) : Calls Tryz.prog 75 #[.string x, .string y] w fun e w' => e = .returned (.int .i64 (cmpB x.data.toList y.data.toList)) ∧ w = w' := by
  have hcase : (Op.bytesLess x.toList y.toList = true ∧ cmpB x.data.toList y.data.toList = -1) ∨ (Op.bytesLess x.toList y.toList = false ∧ (x.toList == y.toList) = true ∧ cmpB x.data.toList y.data.toList = 0) ∨ (Op.bytesLess x.toList y.toList = false ∧ (x.toList == y.toList) = false ∧ cmpB x.data.toList y.data.toList = 1) := by
    rw [namesLess_eq, ByteArray.toList_eq, ByteArray.toList_eq]
    unfold cmpB
    by_cases h1 : x.data.toList < y.data.toList
    · exact Or.inl ⟨decide_eq_true h1, by rw [if_pos h1]⟩
    · by_cases h2 : x.data.toList = y.data.toList
      · exact Or.inr (Or.inl ⟨decide_eq_false h1, beq_iff_eq.2 h2, by rw [if_neg h1, if_pos h2]⟩)
      · exact Or.inr (Or.inr ⟨decide_eq_false h1, beq_eq_false_iff_ne.2 h2, by rw [if_neg h1, if_neg h2]⟩)
  rcases hcase with ⟨h1, h⟩ | ⟨h1, h2, h⟩ | ⟨h1, h2, h⟩
  all_goals
    rw [h]
    clear h
    go_enter Tryz.func75, Tryz.ntmps75
    go_wp2_with fail
    refine (nanStr _ _).mono ?_
    rintro e w' ⟨rfl, rfl⟩
    go_wp2_with fail
    refine (nanStr _ _).mono ?_
    rintro e w' ⟨rfl, rfl⟩
    go_wp2_with fail
    go_ret
    exact ⟨rfl, rfl⟩

theorem cells6_alloc {w W : World} {a b c d a' b' : Addr} {u v x y z t : Value} (o : Obj) (h : (W.cell? a = some u ∧ W.cell? b = some v ∧ W.cell? c = some x ∧ W.cell? d = some y ∧ W.cell? a' = some z ∧ W.cell? b' = some t) ∧ Grown w W) :
    ((W.alloc o).cell? a = some u ∧ (W.alloc o).cell? b = some v ∧ (W.alloc o).cell? c = some x ∧ (W.alloc o).cell? d = some y ∧ (W.alloc o).cell? a' = some z ∧ (W.alloc o).cell? b' = some t) ∧ Grown w (W.alloc o) :=
  ⟨⟨cell_alloc h.1.1, cell_alloc h.1.2.1, cell_alloc h.1.2.2.1, cell_alloc h.1.2.2.2.1, cell_alloc h.1.2.2.2.2.1, cell_alloc h.1.2.2.2.2.2⟩, h.2.alloc o⟩

theorem cells6_later {w W W' : World} {a b c d a' b' : Addr} {u v x y z t : Value} (hg : Grown W W') (h : (W.cell? a = some u ∧ W.cell? b = some v ∧ W.cell? c = some x ∧ W.cell? d = some y ∧ W.cell? a' = some z ∧ W.cell? b' = some t) ∧ Grown w W) :
    (W'.cell? a = some u ∧ W'.cell? b = some v ∧ W'.cell? c = some x ∧ W'.cell? d = some y ∧ W'.cell? a' = some z ∧ W'.cell? b' = some t) ∧ Grown w W' :=
  ⟨⟨cell_later hg.1 h.1.1, cell_later hg.1 h.1.2.1, cell_later hg.1 h.1.2.2.1, cell_later hg.1 h.1.2.2.2.1, cell_later hg.1 h.1.2.2.2.2.1, cell_later hg.1 h.1.2.2.2.2.2⟩, h.2.trans hg⟩

theorem cell_two (w : World) (a b : Value) (T : TypeId) :
    (w.alloc (.cells #[a, b] T)).cell? ⟨w.heap.size, 0, none⟩ = some a ∧ (w.alloc (.cells #[a, b] T)).cell? ⟨w.heap.size, 1, none⟩ = some b :=
  ⟨cell_of_row _ _ 0 _ _ (0, 0) (heap_alloc_new w _), cell_of_row _ _ 1 _ _ (0, 0) (heap_alloc_new w _)⟩

set_option maxRecDepth 100000 in
set_option maxHeartbeats 1600000 in
theorem ahead_grown (x y : Ent) (w : World) :
    Calls Tryz.prog 64 #[.agg (entA x), .agg (entA y)] w fun e w' => e = .returned (.int .i64 (aheadI x y)) ∧ Grown w w' := by
  have hv : or2 (cmp x.dir.1 x.dir.2 y.dir.1 y.dir.2) (cmpB x.name.data.toList y.name.data.toList) = aheadI x y := rfl
  obtain ⟨⟨xd1, xd2⟩, xn, ⟨xi1, xi2⟩⟩ := x
  obtain ⟨⟨yd1, yd2⟩, yn, ⟨yi1, yi2⟩⟩ := y
  unfold entA
  obtain ⟨c, hc⟩ : ∃ c, c = cmp xd1 xd2 yd1 yd2 := ⟨_, rfl⟩
  obtain ⟨k, hk⟩ : ∃ k, k = cmpB xn.data.toList yn.data.toList := ⟨_, rfl⟩
  simp only [← hc, ← hk] at hv
  have HC : Hid (∀ W : World, Calls Tryz.prog 46 #[.agg #[.int .i64 xd1, .int .i64 xd2], .agg #[.int .i64 yd1, .int .i64 yd2]] W fun e w' => e = .returned (.int .i64 c) ∧ Grown W w') := fun W => by rw [hc]; exact compare_grown _ _ _ _ W
  have HK : Hid (∀ W : World, Calls Tryz.prog 75 #[.string xn, .string yn] W fun e w' => e = .returned (.int .i64 k) ∧ W = w') := fun W => by rw [hk]; exact compareStr _ _ W
  have HV := Lib.hid hv
  clear hv hc hk
  go_enter Tryz.func64, Tryz.ntmps64
  go_wp2_with fail
  have hS0 : (((w.alloc (.cells #[.int .i64 xd1, .int .i64 xd2, .string xn, .int .i64 xi1, .int .i64 xi2] 36)).alloc (.cells #[.int .i64 yd1, .int .i64 yd2, .string yn, .int .i64 yi1, .int .i64 yi2] 36)).drew.cell? ⟨w.heap.size, 0, none⟩ = some (.int .i64 xd1) ∧ ((w.alloc (.cells #[.int .i64 xd1, .int .i64 xd2, .string xn, .int .i64 xi1, .int .i64 xi2] 36)).alloc (.cells #[.int .i64 yd1, .int .i64 yd2, .string yn, .int .i64 yi1, .int .i64 yi2] 36)).drew.cell? ⟨w.heap.size, 1, none⟩ = some (.int .i64 xd2) ∧ ((w.alloc (.cells #[.int .i64 xd1, .int .i64 xd2, .string xn, .int .i64 xi1, .int .i64 xi2] 36)).alloc (.cells #[.int .i64 yd1, .int .i64 yd2, .string yn, .int .i64 yi1, .int .i64 yi2] 36)).drew.cell? ⟨w.heap.size, 2, none⟩ = some (.string xn) ∧ ((w.alloc (.cells #[.int .i64 xd1, .int .i64 xd2, .string xn, .int .i64 xi1, .int .i64 xi2] 36)).alloc (.cells #[.int .i64 yd1, .int .i64 yd2, .string yn, .int .i64 yi1, .int .i64 yi2] 36)).drew.cell? ⟨w.heap.size + 1, 0, none⟩ = some (.int .i64 yd1) ∧ ((w.alloc (.cells #[.int .i64 xd1, .int .i64 xd2, .string xn, .int .i64 xi1, .int .i64 xi2] 36)).alloc (.cells #[.int .i64 yd1, .int .i64 yd2, .string yn, .int .i64 yi1, .int .i64 yi2] 36)).drew.cell? ⟨w.heap.size + 1, 1, none⟩ = some (.int .i64 yd2) ∧ ((w.alloc (.cells #[.int .i64 xd1, .int .i64 xd2, .string xn, .int .i64 xi1, .int .i64 xi2] 36)).alloc (.cells #[.int .i64 yd1, .int .i64 yd2, .string yn, .int .i64 yi1, .int .i64 yi2] 36)).drew.cell? ⟨w.heap.size + 1, 2, none⟩ = some (.string yn)) ∧ Grown w ((w.alloc (.cells #[.int .i64 xd1, .int .i64 xd2, .string xn, .int .i64 xi1, .int .i64 xi2] 36)).alloc (.cells #[.int .i64 yd1, .int .i64 yd2, .string yn, .int .i64 yi1, .int .i64 yi2] 36)).drew := by
    refine ⟨⟨?_, ?_, ?_, ?_, ?_, ?_⟩, (((Grown.refl _).alloc _).alloc _).drew⟩
    · exact cell_of_row _ _ 0 _ _ (0, 0) (heap_alloc2_old w _ _)
    · exact cell_of_row _ _ 1 _ _ (0, 0) (heap_alloc2_old w _ _)
    · exact cell_of_row _ _ 2 _ _ (0, 0) (heap_alloc2_old w _ _)
    · exact cell_of_row _ _ 0 _ _ (0, 0) (heap_alloc2_new w _ _)
    · exact cell_of_row _ _ 1 _ _ (0, 0) (heap_alloc2_new w _ _)
    · exact cell_of_row _ _ 2 _ _ (0, 0) (heap_alloc2_new w _ _)
  go_region_held3 (fun W => (W.cell? ⟨w.heap.size, 0, none⟩ = some (.int .i64 xd1) ∧ W.cell? ⟨w.heap.size, 1, none⟩ = some (.int .i64 xd2) ∧ W.cell? ⟨w.heap.size, 2, none⟩ = some (.string xn) ∧ W.cell? ⟨w.heap.size + 1, 0, none⟩ = some (.int .i64 yd1) ∧ W.cell? ⟨w.heap.size + 1, 1, none⟩ = some (.int .i64 yd2) ∧ W.cell? ⟨w.heap.size + 1, 2, none⟩ = some (.string yn)) ∧ Grown w W) (first | assumption | exact cells6_alloc _ (by assumption) | (refine ⟨⟨?_, ?_, ?_, ?_, ?_, ?_⟩, ?_⟩ <;> assumption))
    (first
      | (go_at_call 46; (with_reducible refine (HC.out _).mono ?_); rintro e w' ⟨rfl, hg⟩; have hS := cells6_later hg ‹(_ ∧ _ ∧ _ ∧ _ ∧ _ ∧ _) ∧ Grown w _›)
      | (go_at_call 75; (with_reducible refine (HK.out _).mono ?_); rintro e w' ⟨rfl, rfl⟩; have hS := ‹(_ ∧ _ ∧ _ ∧ _ ∧ _ ∧ _) ∧ Grown w _›)
      | (go_at_call 60; refine (or_any _ c k _ ?_ ?_).mono ?_; exact (cell_two _ _ _ _).1; exact (cell_two _ _ _ _).2; rintro e w' ⟨rfl, rfl⟩; have hS := ‹(_ ∧ _ ∧ _ ∧ _ ∧ _ ∧ _) ∧ Grown w _›))
  have hB := (show Grown w _ from And.right ‹(_ ∧ _ ∧ _ ∧ _ ∧ _ ∧ _) ∧ Grown w _›)
  clear hS0
  go_wp2_with fail
  go_ret
  exact ⟨by rw [← HV.out]; rfl, hB⟩

end Go.Proofs.YthobfeohgeeofaaGreat

/-
  Closures of the library's functions, laid at this program (made by the kit's lay-plain.mjs).
-/
namespace Go.Proofs
open Go.Shelf
def Tryz.sortIno_ren : Go.Shelf.Ren := ⟨fun | 6 => 58 | 15 => 71 | 14 => 70 | 28 => 85 | 29 => 86 | 20 => 77 | 21 => 78 | 22 => 79 | 23 => 80 | 24 => 81 | 25 => 82 | 26 => 83 | 27 => 84 | 46 => 97 | 47 => 98 | 48 => 99 | 49 => 100 | 50 => 101 | 57 => 106 | n => n, fun | 22 => 26 | 24 => 47 | 25 => 90 | 3 => 3 | 39 => 110 | 0 => 0 | 53 => 125 | 55 => 127 | 4 => 4 | 46 => 118 | 45 => 117 | 50 => 122 | 5 => 5 | 9 => 9 | 66 => 133 | 70 => 137 | 76 => 141 | 77 => 142 | n => n, fun | n => n⟩
theorem Tryz.sortIno : Go.Proofs.SlLaysF0.n6 Tryz.prog Tryz.sortIno_ren := {
  mixed := by kernel_rfl
  f6 := ⟨Tryz.f58.name, by decide, Tryz.func58.trans (congrArg some (by kernel_rfl))⟩
  f14 := ⟨Tryz.f70.name, by decide, Tryz.func70.trans (congrArg some (by kernel_rfl))⟩
  f15 := Tryz.func71.trans (congrArg some (by kernel_rfl))
  f20 := ⟨Tryz.f77.name, by decide, Tryz.func77.trans (congrArg some (by kernel_rfl))⟩
  f21 := ⟨Tryz.f78.name, by decide, Tryz.func78.trans (congrArg some (by kernel_rfl))⟩
  f22 := ⟨Tryz.f79.name, by decide, Tryz.func79.trans (congrArg some (by kernel_rfl))⟩
  f23 := ⟨Tryz.f80.name, by decide, Tryz.func80.trans (congrArg some (by kernel_rfl))⟩
  f24 := ⟨Tryz.f81.name, by decide, Tryz.func81.trans (congrArg some (by kernel_rfl))⟩
  f25 := ⟨Tryz.f82.name, by decide, Tryz.func82.trans (congrArg some (by kernel_rfl))⟩
  f26 := ⟨Tryz.f83.name, by decide, Tryz.func83.trans (congrArg some (by kernel_rfl))⟩
  f27 := ⟨Tryz.f84.name, by decide, Tryz.func84.trans (congrArg some (by kernel_rfl))⟩
  f28 := Tryz.func85.trans (congrArg some (by kernel_rfl))
  f29 := Tryz.func86.trans (congrArg some (by kernel_rfl))
  f46 := ⟨Tryz.f97.name, by decide, Tryz.func97.trans (congrArg some (by kernel_rfl))⟩
  f47 := Tryz.func98.trans (congrArg some (by kernel_rfl))
  f48 := Tryz.func99.trans (congrArg some (by kernel_rfl))
  f49 := ⟨Tryz.f100.name, by decide, Tryz.func100.trans (congrArg some (by kernel_rfl))⟩
  f50 := ⟨Tryz.f101.name, by decide, Tryz.func101.trans (congrArg some (by kernel_rfl))⟩
  f57 := ⟨Tryz.f106.name, by decide, Tryz.func106.trans (congrArg some (by kernel_rfl))⟩
  t0 := Tryz.underlying0
  a0 := Tryz.isAgg0
  z0 := Tryz.sizeOf0
  v0 := Tryz.zeroValue0
  t3 := Tryz.underlying3
  a3 := Tryz.isAgg3
  z3 := Tryz.sizeOf3
  v3 := Tryz.zeroValue3
  t4 := Tryz.underlying4
  a4 := Tryz.isAgg4
  z4 := Tryz.sizeOf4
  v4 := Tryz.zeroValue4
  t5 := Tryz.underlying5
  a5 := Tryz.isAgg5
  z5 := Tryz.sizeOf5
  v5 := Tryz.zeroValue5
  t9 := Tryz.underlying9
  a9 := Tryz.isAgg9
  z9 := Tryz.sizeOf9
  v9 := Tryz.zeroValue9
  t22 := Tryz.underlying26
  a22 := Tryz.isAgg26
  z22 := Tryz.sizeOf26
  v22 := Tryz.zeroValue26
  t25 := Tryz.underlying90
  a25 := Tryz.isAgg90
  z25 := Tryz.sizeOf90
  v25 := Tryz.zeroValue90
  t39 := Tryz.underlying110
  a39 := Tryz.isAgg110
  z39 := Tryz.sizeOf110
  v39 := Tryz.zeroValue110
  t45 := Tryz.underlying117
  a45 := Tryz.isAgg117
  z45 := Tryz.sizeOf117
  v45 := Tryz.zeroValue117
  t46 := Tryz.underlying118
  a46 := Tryz.isAgg118
  z46 := Tryz.sizeOf118
  v46 := Tryz.zeroValue118
  t50 := Tryz.underlying122
  a50 := Tryz.isAgg122
  z50 := Tryz.sizeOf122
  v50 := Tryz.zeroValue122
  t53 := Tryz.underlying125
  a53 := Tryz.isAgg125
  z53 := Tryz.sizeOf125
  v53 := Tryz.zeroValue125
  t55 := Tryz.underlying127
  a55 := Tryz.isAgg127
  z55 := Tryz.sizeOf127
  v55 := Tryz.zeroValue127
  t66 := Tryz.underlying133
  a66 := Tryz.isAgg133
  z66 := Tryz.sizeOf133
  v66 := Tryz.zeroValue133
  t70 := Tryz.underlying137
  a70 := Tryz.isAgg137
  z70 := Tryz.sizeOf137
  v70 := Tryz.zeroValue137
  t76 := Tryz.underlying141
  a76 := Tryz.isAgg141
  z76 := Tryz.sizeOf141
  v76 := Tryz.zeroValue141
  t77 := Tryz.underlying142
  a77 := Tryz.isAgg142
  z77 := Tryz.sizeOf142
  v77 := Tryz.zeroValue142 }
def Tryz.sortEnt_ren : Go.Shelf.Ren := ⟨fun | 6 => 63 | 15 => 71 | 14 => 74 | 28 => 85 | 29 => 86 | 20 => 87 | 21 => 88 | 22 => 89 | 23 => 90 | 24 => 91 | 25 => 92 | 26 => 93 | 27 => 94 | 46 => 102 | 47 => 98 | 48 => 99 | 49 => 103 | 50 => 104 | 57 => 107 | n => n, fun | 22 => 27 | 24 => 36 | 25 => 103 | 3 => 3 | 39 => 110 | 0 => 0 | 53 => 125 | 55 => 127 | 4 => 4 | 46 => 118 | 45 => 117 | 50 => 122 | 5 => 5 | 9 => 9 | 66 => 133 | 70 => 137 | 76 => 141 | 77 => 142 | n => n, fun | n => n⟩
theorem Tryz.sortEnt : Go.Proofs.SlLaysF0.n6 Tryz.prog Tryz.sortEnt_ren := {
  mixed := by kernel_rfl
  f6 := ⟨Tryz.f63.name, by decide, Tryz.func63.trans (congrArg some (by kernel_rfl))⟩
  f14 := ⟨Tryz.f74.name, by decide, Tryz.func74.trans (congrArg some (by kernel_rfl))⟩
  f15 := Tryz.func71.trans (congrArg some (by kernel_rfl))
  f20 := ⟨Tryz.f87.name, by decide, Tryz.func87.trans (congrArg some (by kernel_rfl))⟩
  f21 := ⟨Tryz.f88.name, by decide, Tryz.func88.trans (congrArg some (by kernel_rfl))⟩
  f22 := ⟨Tryz.f89.name, by decide, Tryz.func89.trans (congrArg some (by kernel_rfl))⟩
  f23 := ⟨Tryz.f90.name, by decide, Tryz.func90.trans (congrArg some (by kernel_rfl))⟩
  f24 := ⟨Tryz.f91.name, by decide, Tryz.func91.trans (congrArg some (by kernel_rfl))⟩
  f25 := ⟨Tryz.f92.name, by decide, Tryz.func92.trans (congrArg some (by kernel_rfl))⟩
  f26 := ⟨Tryz.f93.name, by decide, Tryz.func93.trans (congrArg some (by kernel_rfl))⟩
  f27 := ⟨Tryz.f94.name, by decide, Tryz.func94.trans (congrArg some (by kernel_rfl))⟩
  f28 := Tryz.func85.trans (congrArg some (by kernel_rfl))
  f29 := Tryz.func86.trans (congrArg some (by kernel_rfl))
  f46 := ⟨Tryz.f102.name, by decide, Tryz.func102.trans (congrArg some (by kernel_rfl))⟩
  f47 := Tryz.func98.trans (congrArg some (by kernel_rfl))
  f48 := Tryz.func99.trans (congrArg some (by kernel_rfl))
  f49 := ⟨Tryz.f103.name, by decide, Tryz.func103.trans (congrArg some (by kernel_rfl))⟩
  f50 := ⟨Tryz.f104.name, by decide, Tryz.func104.trans (congrArg some (by kernel_rfl))⟩
  f57 := ⟨Tryz.f107.name, by decide, Tryz.func107.trans (congrArg some (by kernel_rfl))⟩
  t0 := Tryz.underlying0
  a0 := Tryz.isAgg0
  z0 := Tryz.sizeOf0
  v0 := Tryz.zeroValue0
  t3 := Tryz.underlying3
  a3 := Tryz.isAgg3
  z3 := Tryz.sizeOf3
  v3 := Tryz.zeroValue3
  t4 := Tryz.underlying4
  a4 := Tryz.isAgg4
  z4 := Tryz.sizeOf4
  v4 := Tryz.zeroValue4
  t5 := Tryz.underlying5
  a5 := Tryz.isAgg5
  z5 := Tryz.sizeOf5
  v5 := Tryz.zeroValue5
  t9 := Tryz.underlying9
  a9 := Tryz.isAgg9
  z9 := Tryz.sizeOf9
  v9 := Tryz.zeroValue9
  t22 := Tryz.underlying27
  a22 := Tryz.isAgg27
  z22 := Tryz.sizeOf27
  v22 := Tryz.zeroValue27
  t25 := Tryz.underlying103
  a25 := Tryz.isAgg103
  z25 := Tryz.sizeOf103
  v25 := Tryz.zeroValue103
  t39 := Tryz.underlying110
  a39 := Tryz.isAgg110
  z39 := Tryz.sizeOf110
  v39 := Tryz.zeroValue110
  t45 := Tryz.underlying117
  a45 := Tryz.isAgg117
  z45 := Tryz.sizeOf117
  v45 := Tryz.zeroValue117
  t46 := Tryz.underlying118
  a46 := Tryz.isAgg118
  z46 := Tryz.sizeOf118
  v46 := Tryz.zeroValue118
  t50 := Tryz.underlying122
  a50 := Tryz.isAgg122
  z50 := Tryz.sizeOf122
  v50 := Tryz.zeroValue122
  t53 := Tryz.underlying125
  a53 := Tryz.isAgg125
  z53 := Tryz.sizeOf125
  v53 := Tryz.zeroValue125
  t55 := Tryz.underlying127
  a55 := Tryz.isAgg127
  z55 := Tryz.sizeOf127
  v55 := Tryz.zeroValue127
  t66 := Tryz.underlying133
  a66 := Tryz.isAgg133
  z66 := Tryz.sizeOf133
  v66 := Tryz.zeroValue133
  t70 := Tryz.underlying137
  a70 := Tryz.isAgg137
  z70 := Tryz.sizeOf137
  v70 := Tryz.zeroValue137
  t76 := Tryz.underlying141
  a76 := Tryz.isAgg141
  z76 := Tryz.sizeOf141
  v76 := Tryz.zeroValue141
  t77 := Tryz.underlying142
  a77 := Tryz.isAgg142
  z77 := Tryz.sizeOf142
  v77 := Tryz.zeroValue142 }
def Tryz.cloneIno_ren : Go.Shelf.Ren := ⟨fun | 5 => 14 | 7 => 33 | n => n, fun | 23 => 48 | 25 => 34 | 3 => 47 | 4 => 4 | 20 => 20 | n => n, fun | n => n⟩
theorem Tryz.cloneIno : Go.Proofs.SlLaysW.n5 Tryz.prog Tryz.cloneIno_ren := {
  mixed := by kernel_rfl
  f5 := ⟨Tryz.f14.name, by decide, Tryz.func14.trans (congrArg some (by kernel_rfl))⟩
  f7 := Tryz.func33.trans (congrArg some (by kernel_rfl))
  t4 := Tryz.underlying4
  a4 := Tryz.isAgg4
  z4 := Tryz.sizeOf4
  v4 := Tryz.zeroValue4
  t20 := Tryz.underlying20
  a20 := Tryz.isAgg20
  z20 := Tryz.sizeOf20
  v20 := Tryz.zeroValue20
  t23 := Tryz.underlying48
  a23 := Tryz.isAgg48
  z23 := Tryz.sizeOf48
  v23 := Tryz.zeroValue48 }
def Tryz.cloneEnt_ren : Go.Shelf.Ren := ⟨fun | 5 => 15 | 7 => 33 | n => n, fun | 23 => 49 | 25 => 55 | 3 => 34 | 4 => 4 | 20 => 20 | n => n, fun | n => n⟩
theorem Tryz.cloneEnt : Go.Proofs.SlLaysW.n5 Tryz.prog Tryz.cloneEnt_ren := {
  mixed := by kernel_rfl
  f5 := ⟨Tryz.f15.name, by decide, Tryz.func15.trans (congrArg some (by kernel_rfl))⟩
  f7 := Tryz.func33.trans (congrArg some (by kernel_rfl))
  t4 := Tryz.underlying4
  a4 := Tryz.isAgg4
  z4 := Tryz.sizeOf4
  v4 := Tryz.zeroValue4
  t20 := Tryz.underlying20
  a20 := Tryz.isAgg20
  z20 := Tryz.sizeOf20
  v20 := Tryz.zeroValue20
  t23 := Tryz.underlying49
  a23 := Tryz.isAgg49
  z23 := Tryz.sizeOf49
  v23 := Tryz.zeroValue49 }
end Go.Proofs

/-
  A row of the call's own, sorted by slices.SortFunc: it holds the same elements in order, and is the call's own still.
-/
namespace Go.Proofs.YthobfeohgeeofaaGreat
open Go.RowKit Go.Shelf Go.Sort

section
variable {α : Type} [Inhabited α]

theorem flatK_flat (encA : α → Array Value) {k : Nat} (hk : ∀ x, (encA x).size = k) (xs : List α) : flatK (fun x => (encA x).toList) k xs.toArray = (flat (xs.map encA)).toArray := by
  have hk' : ∀ r ∈ xs.map encA, r.size = k := fun r hr => by
    obtain ⟨x, _, rfl⟩ := List.mem_map.1 hr
    exact hk x
  have hl := flat_len hk'
  rw [List.length_map] at hl
  refine ext_get! (by simp [hl]) fun t ht => ?_
  have ht' : t < xs.length * k := by simpa using ht
  rw [get_flatK _ _ _ _ (by simpa using ht')]
  have k0 : 0 < k := by
    rcases Nat.eq_zero_or_pos k with h | h
    · subst h; simp at ht'
    · exact h
  have hd : t / k < xs.length := (Nat.div_lt_iff_lt_mul k0).2 ht'
  have hm := Nat.mod_lt t k0
  have e := flat_at hk' (t / k) (by simpa using hd) (t % k) hm
  rw [show t / k * k + t % k = t by rw [Nat.mul_comm]; exact Nat.div_add_mod t k] at e
  have hs : t % k < (encA xs[t / k]).size := by rw [hk]; exact hm
  have hf : t < (flat (xs.map encA)).length := by rw [hl]; exact ht'
  rw [List.getElem?_eq_getElem hf, List.getElem_map, Array.getElem?_eq_getElem hs] at e
  have e' := Option.some.inj e
  rw [getElem!_pos ((flat (xs.map encA)).toArray) t (by simpa using hf), List.getElem_toArray, e', getElem!_pos xs.toArray (t / k) (by simpa using hd), List.getElem_toArray, getElem!_pos _ _ (by simpa using hs), Array.getElem_toList]

theorem perm_of {d d' : Array α} (h : PermIn 0 d.size d d') : d'.toList.Perm d.toList := by
  obtain ⟨hs, _, hp⟩ := h
  rw [Array.extract_size] at hp
  have e : d'.extract 0 d.size = d' := by rw [← hs]; exact Array.extract_size
  rwa [e] at hp

theorem sorted_of {lt : α → α → Bool} {d : Array α} (h : SortedIn lt 0 d.size d) : d.toList.Pairwise fun x y => lt y x = false := by
  rw [List.pairwise_iff_getElem]
  intro i j hi hj hij
  have q := h i j (Nat.zero_le _) hij (by simpa using hj)
  rwa [getElem!_pos d j (by simpa using hj), getElem!_pos d i (by simpa using hi)] at q
end

/-- A row that lies in a block of the call's own holds these cells, none of them frozen. -/
theorem own_holds {w : World} {g : Nat} {e : TypeId} {cur : Array Value} {F : Array Value} (hg : w.heap[g]? = some (.cells cur e (0, 0))) (hF : cur.toList.take F.size = F.toList) : Holds id w g 0 F := by
  intro j hj
  refine ⟨?_, ?_⟩
  · have e1 : (cur.toList.take F.size)[j]? = F.toList[j]? := by rw [hF]
    rw [List.getElem?_take_of_lt hj] at e1
    simp only [World.cell?, hg, Nat.zero_add, Option.isSome_none, Bool.false_eq_true, if_false, id]
    rw [getElem!_pos F j hj]
    simpa [hj] using e1
  · simp only [World.frozen?, hg]
    simp

theorem putCells_take (F cur : Array Value) (h : F.size ≤ cur.size) : (putCells id 0 F cur).toList.take F.size = F.toList := by
  apply List.ext_getElem?
  intro j
  by_cases hj : j < F.size
  · rw [List.getElem?_take_of_lt hj]
    have hc : j < cur.size := by omega
    simp [putCells, hj, hc]
  · rw [List.getElem?_eq_none (by simp; omega), List.getElem?_eq_none (by simp; omega)]

theorem sort_own {P : Program} {ρ : Ren} {α : Type} [Inhabited α] (L : SlLaysF0.n6 P ρ) (k : Nat) (aE : ∀ w, (isAgg (ρ.t 24)).run P w = .ok true w) (zE : ∀ w, (Go.sizeOf (ρ.t 24)).run P w = .ok k w) (encA : α → Array Value) (hk : ∀ x, (encA x).size = k) (h1 : ∀ x, ∀ v ∈ (encA x).toList, v.oneCell' = true)
    (cf : α → α → Int) (hO : SWO (ltOf cf)) (g : Nat) (cb : Array Value) (eg : ∀ args w, (callFunc g args).run P w = .ok (.enter g args) w)
    (hc : ∀ (W : World) (x y : α), Calls P g (#[.agg (encA x), .agg (encA y)] ++ cb) W fun e W' => e = .returned (.int .i64 (cf x y)) ∧ ∃ q os', W' = grow (W.drewN q) os')
    {w : World} {base : Nat} {e : TypeId} {v : Value} {n : Nat} {xs : List α} (hn : xs.length = n) (h : w.ownsRow base e k v n (flat (xs.map encA))) (hsz : n < 4611686018427387904) :
    Calls P (ρ.f 6) #[v, .func (.func g) #[] cb] w fun r w' => r = .returned (.tuple #[]) ∧ ∃ ys : List α, ys.Perm xs ∧ (ys.Pairwise fun x y => ltOf cf y x = false) ∧ w'.ownsRow base e k v n (flat (ys.map encA)) ∧ But (fun i => v.ownBlock = some i) w w' := by
  subst hn
  obtain ⟨hl, h⟩ := h
  rcases h with ⟨rfl, h0⟩ | ⟨b, cap, cur, rfl, hb, hg, hc1, hc2, hcs, ht⟩
  · refine (AnyF.slices_SortFunc_none (P := P) (ρ := ρ) { L with } none 0 (.func (.func g) #[] cb) w).mono ?_
    rintro r w' ⟨rfl, rfl⟩
    have hx : xs = [] := List.length_eq_zero_iff.1 h0
    subst hx
    exact ⟨rfl, [], List.Perm.refl _, List.Pairwise.nil, ⟨hl, Or.inl ⟨rfl, rfl⟩⟩, But.refl _ _⟩
  · have hk' : ∀ (l : List α), ∀ r ∈ l.map encA, r.size = k := fun l r hr => by
      obtain ⟨x, _, rfl⟩ := List.mem_map.1 hr
      exact hk x
    have fl : ∀ l : List α, (flat (l.map encA)).length = l.length * k := fun l => by have := flat_len (hk' l); rwa [List.length_map] at this
    have hH : HoldsK (fun x => (encA x).toList) k w b 0 xs.toArray := by
      unfold HoldsK
      rw [flatK_flat encA hk]
      exact own_holds hg (by simpa [fl] using ht)
    have hcmp : CmpLays P g cb (fun x => (encA x).toList) k cf b 0 xs.toArray.size w := fun m os dk _ x y => hc _ x y
    have hs := AnyQ.slices_SortFunc L k aE zE (fun x => (encA x).toList) (fun x => by simpa using hk x) h1 cf hO g cb b 0 cap xs.toArray w eg hcmp hH (heap_lt hg) (by simpa using hsz)
    rw [List.size_toArray] at hs
    refine hs.mono ?_
    rintro r w' ⟨rfl, d', q, os, hp, hsd, rfl⟩
    refine ⟨rfl, d'.toList, ?_, ?_, ?_, ?_⟩
    · simpa using perm_of (d := xs.toArray) (by simpa using hp)
    · refine sorted_of ?_
      have hd : d'.size = xs.length := by simpa using hp.1
      rw [hd]
      exact hsd
    · have hd : d'.size = xs.length := by simpa using hp.1
      have hF : flatK (fun x => (encA x).toList) k d' = (flat (d'.toList.map encA)).toArray := by
        have := flatK_flat encA hk d'.toList
        rwa [Array.toArray_toList] at this
      have hle : (flatK (fun x => (encA x).toList) k d').size ≤ cur.size := by
        rw [size_flatK, hcs, hd]
        exact Nat.mul_le_mul_right k hc1
      refine ⟨by rw [fl, Array.length_toList, hd], Or.inr ⟨b, cap, putCells id 0 (flatK (fun x => (encA x).toList) k d') cur, rfl, hb, ?_, hc1, hc2, by simpa [putCells] using hcs, ?_⟩⟩
      · unfold sortWorldK
        rw [heap_grow_old _ _ (by rw [size_putRowK]; exact heap_lt hg)]
        simp [putRowK, putRow, mapBlock, Array.getElem?_modify, hg, onCells]
      · have e2 := putCells_take _ cur hle
        rw [size_flatK, hd] at e2
        rw [e2, hF]
    · unfold sortWorldK
      refine ⟨rfl, rfl, rfl, ?_, fun i hi hne => ?_⟩
      · rw [size_grow, size_putRowK]
        exact Nat.le_add_right _ _
      · rw [heap_grow_old _ _ (by rw [size_putRowK]; exact hi)]
        have hib : b ≠ i := fun q => hne (by rw [← q]; rfl)
        simp [putRowK, putRow, mapBlock, Array.getElem?_modify, hib]

end Go.Proofs.YthobfeohgeeofaaGreat

/-
  The landed graph's sorted (made by gen_graphsorted.py), at Entries' closure; Entries.
-/
namespace Go.Proofs.YthobfeohgeeofaaGreat
open Go.RowKit StampMath GraphMath

def entOf (p : (St × ByteArray) × St) : Ent := ⟨p.1.1, p.1.2, p.2⟩

/-- Has the call made the block r, and the blocks from base on alone? -/
theorem own_iter {w w' : World} {base r : Nat} {e : TypeId} {k : Nat} {v : Value} {n : Nat} {xs : List Value} (h : w.ownsRow base e k v n xs) (hb : But (fun i => i = r) w w') (hr : r < base) : w'.ownsRow base e k v n xs :=
  h.kept (row := some r) ⟨hb.os, hb.tape, hb.output, hb.size, fun i hi hn => hb.block i hi fun q => hn (by rw [q])⟩ (by
    cases hv : v.ownBlock with
    | none => exact .inl rfl
    | some j => exact .inr (fun q => by have := (h.lt j hv).1; injection q with q; omega))

/-- A call that leaves all that was there leaves the row. -/
theorem own_call {w w' : World} {base : Nat} {e : TypeId} {k : Nat} {v : Value} {n : Nat} {xs : List Value} (h : w.ownsRow base e k v n xs) (hb : Below w.heap.size w w') : w'.ownsRow base e k v n xs :=
  h.kept (row := none) ⟨hb.os, hb.tape, hb.output, hb.size, fun i hi _ => hb.block i hi⟩ (by
    cases hv : v.ownBlock with
    | none => exact .inl rfl
    | some j => exact .inr (fun q => by cases q))

theorem own_lower {w : World} {b b' : Nat} {e : TypeId} {k : Nat} {v : Value} {n : Nat} {xs : List Value} (h : w.ownsRow b e k v n xs) (hb : b' ≤ b) : w.ownsRow b' e k v n xs := by
  obtain ⟨h0, h1 | ⟨g, cap, cur, h1, h2, h3⟩⟩ := h
  · exact ⟨h0, Or.inl h1⟩
  · exact ⟨h0, Or.inr ⟨g, cap, cur, h1, Nat.le_trans hb h2, h3⟩⟩

theorem allClo (e : St) (W : World) :
    Calls Tryz.prog 48 #[.agg #[.int .i64 e.1, .int .i64 e.2]] W fun x W' => x = .returned (.bool true) ∧ Below W.heap.size W W' := by
  go_enter Tryz.func48, Tryz.ntmps48
  go_wp2_with fail
  go_ret
  exact ⟨rfl, (Below.refl _ _).alloc (Nat.le_refl _) _⟩

set_option maxRecDepth 100000 in
set_option maxHeartbeats 1600000 in
theorem sortedAll_code (a : Addr) (S : Nat → Prop) (g : Gr) (q : St → Bool) (hq : ∀ x, q x = true) (w : World) (h : GIn w S a g) (hg : g.ok) :
    Calls Tryz.prog 47 #[.pointer (some a), .func (.func 48) #[] #[]] w (EntsNew (g.E.filter fun e => q e.dir) w) := by
  have HC : Hid (∀ (e : St) (W : World), Below w.heap.size w W → Calls Tryz.prog 48 #[.agg #[.int .i64 e.1, .int .i64 e.2]] W fun x W' => x = .returned (.bool (q e)) ∧ Below W.heap.size W W') := fun e W hW => by rw [hq]; exact allClo e W
  clear hq
  obtain ⟨b, bi, be, rfl, h1, h2, h3, hb, hi, he, hS⟩ := h
  obtain ⟨c0, c1⟩ := two_cells hb
  obtain ⟨i0, hi0, hz0, hz1, hz2⟩ := info_parts ent_infos
  have HE := Lib.hid he
  have hlt := heap_lt hb
  have hltE := he.lt
  clear hi he hb hS
  have hlen : Hid ((pairsE g).length ≤ 1000) := by
    show (pairsE g).length ≤ 1000
    unfold pairsE
    rw [List.length_map]
    exact Nat.le_trans hg.entsFew (by decide)
  have hgE := Lib.hid (hg.sortE.filter fun e => q e.dir)
  go_enter Tryz.func47, Tryz.ntmps47
  go_wp2_with (at_range; refine wpList_k_range (by rfl) _ _ (by rfl) Tryz.underlying49 be _ (by rfl) HE.out ?_; intro w1 HR1 HB1 HS1)
  go_frame
  go_loopg [5] ((pairsE g).length + 1) (fun gk l wr => ∃ (done todo : List ((St × ByteArray) × St)), gk = todo.length + 1 ∧ Hid (KRange plV stV wr be w.heap.size (pairsE g) todo) ∧ Hid ((done ++ todo).Perm (pairsE g)) ∧ wr.ownsRow (w.heap.size + 1) 36 5 l ((done.map entOf).filter fun e => q e.dir).length (flat (((done.map entOf).filter fun e => q e.dir).map entA)) ∧ Hid (Below w.heap.size w wr) ∧ w.heap.size + 1 ≤ wr.heap.size)
  case atStart => exact ⟨[], pairsE g, rfl, HR1, List.Perm.refl _, World.ownsRow_nil _ _ _ _, HB1, by rw [HS1.out]; omega⟩
  case round =>
    obtain ⟨done, todo, rfl, hR, hP, hown, hB, hs1⟩ := hrel
    clear HR1 HB1 HS1
    go_wp2_with (refine wpList_k_next (by rfl) _ (by rfl) be w.heap.size _ _ (by rfl) hR.out ?_ ?_)
    · intro h0
      have hdone : ((done.map entOf).filter fun e => q e.dir).Perm (g.E.filter fun e => q e.dir) := by
        refine List.Perm.filter _ ?_
        have h5 := hP.out
        rw [h0, List.append_nil] at h5
        have h6 := h5.map entOf
        unfold pairsE at h6
        rwa [List.map_map, show entOf ∘ (fun e : Ent => ((e.dir, e.name), e.ino)) = id from rfl, List.map_id] at h6
      have h1000 : ((done.map entOf).filter fun e => q e.dir).length < 4611686018427387904 := by
        have h5 := hlen.out
        have h6 := hP.out.length_eq
        have h7 := List.length_filter_le (fun e : Ent => q e.dir) (done.map entOf)
        simp only [List.length_append, List.length_map] at h6 h7
        omega
      generalize ((done.map entOf).filter fun e => q e.dir) = fs at hdone h1000 hown ⊢
      have HD := Lib.hid hdone
      clear hdone
      have hs := sort_own (w := wr) Tryz.sortEnt 5 Tryz.isAgg36 Tryz.sizeOf36 entA (fun _ => rfl) ent_one aheadI swo_ents 64 #[] (enters_of Tryz.func64 (by kernel_rfl) rfl)
        (fun W x y => (ahead_grown x y W).mono fun _ _ h => ⟨h.1, h.2.grow⟩) (by simp) hown h1000
      change Calls Tryz.prog 63 _ _ _ at hs
      have hrow := hown.lt
      clear hown
      have HS := Lib.hid hs
      clear hs
      go_wp2_with fail
      refine (HS.out).mono ?_
      rintro e w2 ⟨rfl, ys, hp, hsd, hown2, hbut⟩
      have hys : ys = g.E.filter fun e => q e.dir := sorted_ents hgE.out (hp.trans HD.out) hsd
      have hl : fs.length = (g.E.filter fun e => q e.dir).length := HD.out.length_eq
      rw [hys, hl] at hown2
      clear hp hsd hys
      go_wp2_with fail
      go_ret
      refine ⟨_, rfl, ?_, ?_⟩
      · exact own_lower hown2 (Nat.le_succ _)
      · exact hB.out.trans (hbut.below (fun i hi => Nat.le_of_succ_le (hrow i hi).1) (by omega))
    · intro t r nm t' r' todo' w2 hp hR2 hB2 hs2 hen
      simp only [plV, stV, stA] at hen ⊢
      have hown2 := own_iter hown hB2.out (by omega)
      have h1000 : ((done.map entOf).filter fun e => q e.dir).length ≤ 1000 := by
        have h5 := hlen.out
        have h6 := hP.out.length_eq
        have h7 := List.length_filter_le (fun e : Ent => q e.dir) (done.map entOf)
        simp only [List.length_append, List.length_map] at h6 h7
        omega
      have hfs : ∀ b : Bool, q (t, r) = b → ((done ++ [(((t, r), nm), (t', r'))]).map entOf).filter (fun e => q e.dir) = ((done.map entOf).filter fun e => q e.dir) ++ (if b = true then [⟨(t, r), nm, (t', r')⟩] else []) := by
        intro b hb
        rw [List.map_append, List.filter_append]
        congr 1
        simp only [List.map_cons, List.map_nil, entOf, List.filter_cons, List.filter_nil, hb]
      have HF := Lib.hid hfs
      clear hfs
      have e2 : Below w.heap.size wr w2 := hB2.out.below (fun i hi => by omega) (by omega)
      have hb2 := hB.out.trans e2
      have hP2 : Hid ((done ++ [(((t, r), nm), (t', r'))] ++ todo').Perm (pairsE g)) := by
        have e1 : (done ++ todo).Perm (done ++ ((((t, r), nm), (t', r')) :: todo')) := hp.out.append_left _
        show (done ++ [(((t, r), nm), (t', r'))] ++ todo').Perm _
        rw [List.append_assoc]
        exact e1.symm.trans hP.out
      have hlen2 := hp.out.length_eq
      simp only [List.length_cons] at hlen2
      generalize ((done.map entOf).filter fun e => q e.dir) = fs at hown2 h1000 HF
      have hm : fs.length + 1 ≤ maxLen := by unfold maxLen; omega
      have hs2' : w.heap.size + 1 ≤ w2.heap.size := by rw [hs2.out]; exact hs1
      clear hown hB hB2 hs2 hP hp hR e2
      go_upto_region 7 with fail
      obtain ⟨z, hz⟩ : ∃ z, z = w2.heap.size := ⟨_, rfl⟩
      have k0 : ((w2.alloc (.cells #[.int .i64 t, .int .i64 r, .string nm] 55)).alloc (.cells #[.int .i64 t', .int .i64 r'] 34)).heap[z]? = some (.cells #[.int .i64 t, .int .i64 r, .string nm] 55 (0, 0)) := by rw [hz]; exact heap_alloc2_old w2 _ _
      have k1 : ((w2.alloc (.cells #[.int .i64 t, .int .i64 r, .string nm] 55)).alloc (.cells #[.int .i64 t', .int .i64 r'] 34)).heap[z + 1]? = some (.cells #[.int .i64 t', .int .i64 r'] 34 (0, 0)) := by rw [hz]; exact heap_alloc2_new w2 _ _
      have hbA : Below w2.heap.size w2 ((w2.alloc (.cells #[.int .i64 t, .int .i64 r, .string nm] 55)).alloc (.cells #[.int .i64 t', .int .i64 r'] 34)) := ((Below.refl _ _).alloc (Nat.le_refl _) _).alloc (by simp) _
      rw [← hz]
      generalize ((w2.alloc (.cells #[.int .i64 t, .int .i64 r, .string nm] 55)).alloc (.cells #[.int .i64 t', .int .i64 r'] 34)) = w3 at k0 k1 hbA ⊢
      have hz3 := hbA.size
      have hown3 := own_call hown2 hbA
      have hR3 := hR2.out.kept (hbA.block _ (by omega)) (hbA.block _ (by omega))
      have hb3 := below_step hb2 hbA
      clear hown2 hR2 hb2 hbA hen hz
      have x0 := cell_of_row _ _ 0 _ _ (0, 0) k0
      have x1 := cell_of_row _ _ 1 _ _ (0, 0) k0
      go_wp2_with fail
      refine (HC.out (t, r) w3 hb3).mono ?_
      rintro e w4 ⟨rfl, hb4⟩
      have l0 := (hb4.block _ (heap_lt k0)).trans k0
      have l1 := (hb4.block _ (heap_lt k1)).trans k1
      have hz4 := hb4.size
      have hown4 := own_call hown3 hb4
      have hR4 := hR3.kept (hb4.block _ (by omega)) (hb4.block _ (by omega))
      have hb5 := below_step hb3 hb4
      have HR4 := Lib.hid hR4
      have HB5 := Lib.hid hb5
      have HL0 := Lib.hid l0
      clear hown3 hR3 hb3 hb4 x0 x1 k0 k1 hR4 hb5
      obtain ⟨qb, hqb⟩ : ∃ qb, qb = q (t, r) := ⟨_, rfl⟩
      have hF := HF.out qb hqb.symm
      rw [← hqb]
      clear hqb HF
      cases qb with
      | false =>
        rw [if_neg (by decide), List.append_nil] at hF
        have HF := Lib.hid hF
        clear hF
        go_wp2_with fail
        go_roundg (todo'.length + 1)
        case measure => omega
        case rel => exact ⟨done ++ [(((t, r), nm), (t', r'))], todo', rfl, HR4.out, hP2.out, by rw [HF.out]; exact hown4, HB5.out, by omega⟩
      | true =>
        rw [if_pos rfl] at hF
        have HF := Lib.hid hF
        clear hF
        have x0 := cell_of_row _ _ 0 _ _ (0, 0) HL0.out
        have x1 := cell_of_row _ _ 1 _ _ (0, 0) HL0.out
        have x2 := cell_of_row _ _ 2 _ _ (0, 0) HL0.out
        obtain ⟨y0, y1⟩ := two_cells l1
        have HW := Lib.hid (row_there w4 36 (entA ⟨(t, r), nm, (t', r')⟩))
        go_wp2_with (at_builtin; refine wpList_append_own _ rfl (.tmp 24) (.tmp 31) 27 rfl (w.heap.size + 1) 36 i0 _ 5 48 Tryz.underlying27 hi0 hz0 hz1 hz2 rfl (by decide) _ _ _ rfl (hown4.alloc _) ⟨w4.heap.size, 0, none⟩ 1 1 (entA ⟨(t, r), nm, (t', r')⟩).toList rfl rfl HW.out (ent_one _) hm (by omega) (by simp; omega) ?_; intro v2 w5 hown5 hg5 _)
        have hbw : Below (w.heap.size + 1) w4 w5 := (((Below.refl w4.heap.size w4).alloc (Nat.le_refl _) _).mono (by omega)).grown hg5 (by simp; omega) (fun j hj => (hown4.lt j hj).1)
        go_roundg (todo'.length + 1)
        case measure => omega
        case rel =>
          refine ⟨done ++ [(((t, r), nm), (t', r'))], todo', rfl, HR4.out.kept (hbw.block _ (by omega)) (hbw.block _ (by omega)), hP2.out, ?_, HB5.out.trans (hbw.mono (by omega)), by have := hbw.size; omega⟩
          rw [HF.out, List.length_append]
          show w5.ownsRow _ _ 5 v2 (fs.length + 1) _
          rw [← flat_ent]
          exact hown5

set_option maxRecDepth 100000 in
theorem entries_code (a : Addr) (S : Nat → Prop) (g : Gr) (w : World) (h : GIn w S a g) (hg : g.ok) :
    Calls Tryz.prog 28 #[.pointer (some a)] w (EntsNew g.E w) := by
  have hs := sortedAll_code a S g (fun _ => true) (fun _ => rfl) w h hg
  rw [show (g.E.filter fun e => (fun _ : St => true) e.dir) = g.E from List.filter_eq_self.2 fun _ _ => rfl] at hs
  have HS := Lib.hid hs
  clear h hs
  go_enter Tryz.func28, Tryz.ntmps28
  go_wp2_with fail
  refine (HS.out).mono ?_
  rintro e w2 ⟨v, rfl, hown, hb⟩
  go_wp2_with fail
  go_ret
  exact ⟨v, rfl, hown, hb⟩

end Go.Proofs.YthobfeohgeeofaaGreat

/-
  A map of any shape gone through inside a fence (by an iterator's own body).
-/
namespace Go.Proofs.YthobfeohgeeofaaGreat
open Go.RowKit

section
variable {K V : Type} {ek : K → Value} {ev : V → Value} {P : Program} {k e : TypeId}

theorem KRange.walks {w w' : World} {b r : Nat} {L todo : List (K × V)} (h : KRange ek ev w b r L todo) (hk : KeepsWalks w w') : KRange ek ev w' b r L todo := by
  obtain ⟨es, clock, since, seen, c0, M, T, h1, h2, h3, h4, h5, rest⟩ := h
  exact ⟨es, clock, since, seen, c0, M, T, hk.same b _ h1 rfl, h2, h3, h4, hk.same r _ h5 rfl, rest⟩

theorem KRange.iter_walk {w : World} {b r : Nat} {L todo : List (K × V)} (h : KRange ek ev w b r L todo) : ∃ o : Obj, w.heap[r]? = some o ∧ o.isWalk = true := by
  obtain ⟨es, clock, since, seen, c0, M, T, h1, h2, h3, h4, h5, rest⟩ := h
  exact ⟨_, h5, rfl⟩

/-- 'range m'. -/
theorem wpListIn_k_range {F : Fence} {n : Nat} {w : World} {ops : Array Oper} {rest : List Oper} {o : Oper} {a : Act} {Q : Exit → Act → World → Prop} (hg : o.guard = none) (m : Operand) (t : TypeId)
    (hop : o.op = Op.range t m) (ht : P.underlying t = some (.map k e)) (b : Nat) (L : List (K × V)) (hm : a.eval m = .map (some b)) (h : KMap ek ev w b L)
    (hK : ∀ w', Hid (KRange ek ev w' b w.heap.size L L) → Hid (Below w.heap.size w w') → Hid (w'.heap.size = w.heap.size + 1) → wpListIn F n P ops Q rest (a.put o.dst (.pointer (some ⟨w.heap.size, 0, none⟩))) w') : wpListIn F n P ops Q (o :: rest) a w := by
  refine wpListIn_plain hg fun K' hK' => ?_
  obtain ⟨w', hrun, r1, r2, r3⟩ := h.range (P := P) ht
  unfold Oper.wpIn
  refine ⟨by simp [Oper.about, hop], ?_⟩
  rw [Oper.semAt_plain F _ _ (by rw [hop]; intro c hc'; cases hc')]
  simp [execOp, hop, hm, hrun, Result.andThen]
  exact hK' _ _ (hK w' r1 r2 r3)

/-- The step. -/
theorem wpListIn_k_next {F : Fence} {n : Nat} {w : World} {ops : Array Oper} {rest : List Oper} {o : Oper} {a : Act} {Q : Exit → Act → World → Prop} (hg : o.guard = none) (it : Operand) (hop : o.op = Op.next it false)
    (b r : Nat) (L todo : List (K × V)) (hit : a.eval it = .pointer (some ⟨r, 0, none⟩)) (h : KRange ek ev w b r L todo)
    (hDone : todo = [] → wpListIn F n P ops Q rest (a.put o.dst (.tuple #[.bool false])) w)
    (hMore : ∀ (p : K × V) (todo' : List (K × V)) (w' : World), Hid (todo.Perm (p :: todo')) → Hid (KRange ek ev w' b r L todo') → Hid (But (fun i => i = r) w w') → Hid (w'.heap.size = w.heap.size) →
      (Instr.entry (.pointer (some ⟨r, 0, none⟩))).run P w' = .ok (.tuple #[ek p.1, ev p.2]) w' → wpListIn F n P ops Q rest (a.put o.dst (.tuple #[.bool true, ek p.1, ev p.2])) w') :
    wpListIn F n P ops Q (o :: rest) a w := by
  refine wpListIn_plain hg fun K' hK' => ?_
  unfold Oper.wpIn
  refine ⟨by simp [Oper.about, hop], ?_⟩
  rw [Oper.semAt_plain F _ _ (by rw [hop]; intro c hc'; cases hc')]
  rcases h.next (P := P) o.type with ⟨h0, hrun⟩ | ⟨p, todo', w', hp, hrun, hr, hb, hs, hen⟩
  · simp [execOp, hop, hit, hrun, Result.andThen]
    exact hK' _ _ (hDone h0)
  · simp [execOp, hop, hit, hrun, Result.andThen]
    exact hK' _ _ (hMore p todo' w' hp hr hb hs hen)

end
end Go.Proofs.YthobfeohgeeofaaGreat

/-
  The library's maps.Values and slices.AppendSeq, Collect and SortedFunc as the landed graph calls them: at a map of inodes.
-/
namespace Go.Proofs.YthobfeohgeeofaaGreat
open Go.RowKit StampMath GraphMath

attribute [local go_sem] Oper.semAt_some

/-- What a round hands on: an inode. -/
abbrev handed (x : Ino) : Array Value := #[.agg (inoA x)]

set_option maxHeartbeats 1000000 in
theorem values_code (b : Nat) (w : World) :
    Calls Tryz.prog 44 #[.map (some b)] w fun e w' => e = .returned (.func (.func 59) #[] #[.pointer (some ⟨w.heap.size, 0, none⟩)]) ∧ w' = w.alloc (.cells #[.map (some b)] 48) := by
  go_enter Tryz.func44, Tryz.ntmps44
  go_wp2_with fail
  go_ret
  exact ⟨rfl, rfl⟩

set_option maxRecDepth 100000 in
set_option maxHeartbeats 2000000 in
theorem values_in (n : Nat) (hn : 1 ≤ n) (l Bm b : Nat) (L : List (St × Ino)) (J Jx : List Ino → World → Prop) (W0 : World) (hJ : AbidesFrom W0.heap.size J)
    (hY : ∀ pre x W, J pre W → pre.length < 1001 → YieldAt Fence.wide (n - 1) Tryz.prog l (handed x) W fun e W' =>
      (e = .returned (.bool true) ∧ J (pre ++ [x]) W' ∧ KeepsWalks W W') ∨ (e = .returned (.bool false) ∧ Jx (pre ++ [x]) W'))
    (hm : W0.cell? ⟨Bm, 0, none⟩ = some (.map (some b))) (hown : KMap stV inoV W0 b L) (hL : L.length ≤ 1000) (h0 : J [] W0) :
    CallsIn Fence.wide n Tryz.prog 59 #[.func (.yield l) #[] #[], .pointer (some ⟨Bm, 0, none⟩)] W0 fun e W' => (∃ v, e = .returned v) ∧
      ((∃ ys : List Ino, ys.Perm (L.map Prod.snd) ∧ J ys W') ∨ (∃ pre, True ∧ Jx pre W')) := by
  have HO := Lib.hid hown
  have HJ := Lib.hid hJ
  have HLn := Lib.hid hL
  clear hown hJ hL
  refine callsIn_of_wp Tryz.func59 rfl trivial ?_ rfl
  simp only [Tryz.ntmps59, List.size_toArray, List.length_cons, List.length_nil, Nat.reduceAdd, Nat.reduceSub, Array.replicate_succ, Array.replicate_zero, List.push_toArray, List.append_toArray, List.nil_append, List.cons_append]
  gi_wp2_with (gi_at_range; refine wpListIn_k_range (by rfl) _ _ (by rfl) Tryz.underlying48 b _ (by rfl) HO.out ?_; intro w1 HR1 HB1 HS1)
  go_frame
  gi_loopg [] (L.length + 1) (fun gk wr => ∃ (done todo : List (St × Ino)), gk = todo.length + 1 ∧ Hid (KRange stV inoV wr b W0.heap.size L todo) ∧ Hid ((done ++ todo).Perm L) ∧ Hid (J (done.map Prod.snd) wr))
  case atStart =>
    exact ⟨[], L, rfl, HR1, List.Perm.refl _, HJ.out [] W0 w1 none h0 ⟨HB1.out.os, HB1.out.tape, HB1.out.output, HB1.out.size, fun q hq _ => HB1.out.block q hq⟩ (fun r e => by cases e)⟩
  case round =>
    obtain ⟨done, todo, rfl, hR, hP, hJs⟩ := hrel
    clear HR1 HB1 HS1
    gi_wp2_with (gi_at_next; refine wpListIn_k_next (by rfl) _ (by rfl) b W0.heap.size _ _ (by rfl) hR.out ?_ ?_)
    · intro ht
      gi_wp2_with fail
      go_end0
      refine ⟨⟨_, rfl⟩, .inl ⟨done.map Prod.snd, ?_, hJs.out⟩⟩
      have h5 := hP.out
      rw [ht, List.append_nil] at h5
      exact h5.map _
    · intro t r x todo' w2 hp hR2 hB2 hs2 hen
      have hlen2 := hp.out.length_eq
      simp only [List.length_cons] at hlen2
      have hlen3 : done.length + todo.length = L.length := by have := hP.out.length_eq; rwa [List.length_append] at this
      have hJ2 : J (done.map Prod.snd) w2 := HJ.out _ wr w2 (some W0.heap.size) hJs.out ⟨hB2.out.os, hB2.out.tape, hB2.out.output, hB2.out.size, fun i hi hne => hB2.out.block i hi fun q => hne (by rw [q])⟩ (fun r e => by cases e; exact ⟨Nat.le_refl _, hR.out.iter_walk⟩)
      have hJ3 : J (done.map Prod.snd) (w2.alloc (.cells (inoA x) 47)) := HJ.out _ w2 _ none hJ2 (World.grownBy_alloc w2 _ none) (fun r e => by cases e)
      have hR3 : KRange stV inoV (w2.alloc (.cells (inoA x) 47)) b W0.heap.size L todo' := hR2.out.walks (KeepsWalks.alloc _ _)
      have HP2 : Hid ((done ++ [((t, r), x)] ++ todo').Perm L) := by
        have e1 : (done ++ todo).Perm (done ++ (((t, r), x) :: todo')) := hp.out.append_left _
        show (done ++ [((t, r), x)] ++ todo').Perm _
        rw [List.append_assoc]
        exact e1.symm.trans hP.out
      have HJm : Hid (∀ W, J (done.map Prod.snd ++ [x]) W → J ((done ++ [((t, r), x)]).map Prod.snd) W) := fun W h => by rw [List.map_append]; exact h
      have hy0 := hY (done.map Prod.snd) x (w2.alloc (.cells (inoA x) 47)) hJ3 (by rw [List.length_map]; have := HLn.out; omega)
      have HR3 := Lib.hid hR3
      have hJ3' := Lib.hid hJ3
      obtain ⟨⟨i1, i2⟩, xk, xl, xm, xd⟩ := x
      obtain ⟨fn, tmps, assign, body, hy, hRd⟩ := hy0
      simp only [stV, stA, inoV, inoA, handed] at hen hy ⊢
      have HRd := Lib.hid hRd
      clear hJ2 hJ3 hR3 hRd hR hP hB2 hs2 hR2 hp hJs
      gi_wp2_with fail
      refine HRd.out.mono ?_
      rintro e W3 (⟨rfl, hJ4, hk3⟩ | ⟨rfl, hJx3⟩)
      · have hR4 := HR3.out.walks hk3
        clear hy
        gi_wp2_with fail
        gi_roundg (todo'.length + 1)
        case measure => omega
        case rel => exact ⟨done ++ [((t, r), Ino.mk (i1, i2) xk xl xm xd)], todo', rfl, hR4, HP2.out, HJm.out _ hJ4⟩
      · clear hy
        gi_wp2_with fail
        refine bodyPost_ret (results_none rfl _ _ _) rfl ?_
        exact ⟨⟨_, rfl⟩, .inr ⟨_, trivial, hJx3⟩⟩

theorem values_stops (n : Nat) (hn : 1 ≤ n) (Bm b : Nat) (L : List (St × Ino)) (hL : L.length ≤ 1000) (w : World) (hm : w.heap[Bm]? = some (.cells #[.map (some b)] 48 (0, 0))) (hown : KMap stV inoV w b L) :
    SeqStopsK Fence.wide n Tryz.prog 59 #[.pointer (some ⟨Bm, 0, none⟩)] handed KeepsWalks (fun ys => ys.Perm (L.map Prod.snd)) (fun _ => True) 1001 w := fun l J Jx W hW hJ _ hY h0 =>
  values_in n hn l Bm b L J Jx W hJ hY (cell_of_row _ _ 0 _ _ (0, 0) ((hW.block Bm (heap_lt hm)).trans hm)) (hown.kept (hW.block b hown.lt)) hL h0

end Go.Proofs.YthobfeohgeeofaaGreat

/-
  The landed graph's Inodes: slices.SortedFunc over maps.Values.
-/
namespace Go.Proofs.YthobfeohgeeofaaGreat
open Go.RowKit StampMath GraphMath

set_option maxRecDepth 100000 in
theorem inoClosure_grown (x y : Ino) (w : World) :
    Calls Tryz.prog 45 #[.agg (inoA x), .agg (inoA y)] w fun e w' => e = .returned (.int .i64 (inoI x y)) ∧ Grown w w' := by
  obtain ⟨⟨xd1, xd2⟩, xk, xl, xm, xd⟩ := x
  obtain ⟨⟨yd1, yd2⟩, yk, yl, ym, yd⟩ := y
  unfold inoA inoI
  obtain ⟨c, hc⟩ : ∃ c, c = cmp xd1 xd2 yd1 yd2 := ⟨_, rfl⟩
  simp only [← hc]
  have HC : Hid (∀ W : World, Calls Tryz.prog 46 #[.agg #[.int .i64 xd1, .int .i64 xd2], .agg #[.int .i64 yd1, .int .i64 yd2]] W fun e w' => e = .returned (.int .i64 c) ∧ Grown W w') := fun W => by rw [hc]; exact compare_grown _ _ _ _ W
  clear hc
  go_enter Tryz.func45, Tryz.ntmps45
  go_wp2_with fail
  refine (HC.out _).mono ?_
  rintro e w1 ⟨rfl, hg1⟩
  go_wp2_with fail
  go_ret
  exact ⟨rfl, (((Grown.refl _).alloc _).alloc _).trans hg1⟩

section
attribute [local go_sem] Oper.semAt_some

/-- A box below the row's base is as it was behind an append. -/
theorem box_appended {W w1 : World} {base B k n : Nat} {t e : TypeId} {u v : Value} {xs : List Value} {tmp : Obj} (hb : Boxed W B t u) (hlt : B < base) (hrow : W.ownsRow base e k v n xs) (hgrow : (W.alloc tmp).grownBy w1 v.ownBlock) : Boxed w1 B t u :=
  (hb.alloc tmp).kept hgrow fun q => by have := (hrow.lt B q.symm).1; omega

/-- What a round of AppendSeq's loop holds: its own inode in a box. -/
def RoundAt (sv : Value) (B : Nat) (x : Ino) (a : Act) (W : World) : Prop :=
  ∃ q, a = { tmps := #[.slice none 0 0, sv, .pointer (some ⟨B, 0, none⟩), undef, .slice none 0 0, .pointer (some ⟨q, 0, none⟩), sv, .agg (inoA x), undef, undef, undef, undef, undef], defers := [] } ∧ W.heap[q]? = some (.cells (inoA x) 47 (0, 0))

theorem round_own (sv : Value) (B B0 : Nat) (x : Ino) (a : Act) : OwnFrom B0 (fun (_ : Unit) W => RoundAt sv B x a W) := by
  rintro _ W W' row ⟨q, ha, hq⟩ hg hr
  refine ⟨q, ha, (hg.block q (heap_lt hq) fun e => ?_).trans hq⟩
  obtain ⟨_, o, ho, hc⟩ := hr q e.symm
  rw [hq] at ho
  cases ho
  cases hc

set_option maxRecDepth 100000 in
set_option maxHeartbeats 2000000 in
theorem appendSeq_code (bm b : Nat) (L : List (St × Ino)) (hL : L.length ≤ 1000) (w : World) (hbm : w.heap[bm]? = some (.cells #[.map (some b)] 48 (0, 0))) (hown : KMap stV inoV w b L) :
    Calls Tryz.prog 69 #[.slice none 0 0, .func (.func 59) #[] #[.pointer (some ⟨bm, 0, none⟩)]] w fun e w' =>
      ∃ (v : Value) (ys : List Ino), e = .returned v ∧ ys.Perm (L.map Prod.snd) ∧ w'.ownsRow w.heap.size 47 6 v ys.length (flat (ys.map inoA)) ∧ Below w.heap.size w w' := by
  obtain ⟨i0, hi0, hz0, hz1, hz2⟩ := info_parts ino_infos
  refine (callsIn_wide (n := 5)).1 ?_
  refine callsIn_of_wp_marks Tryz.func69 rfl trivial ?_ rfl
  simp only [Tryz.ntmps69, List.size_toArray, List.length_cons, List.length_nil, Nat.reduceAdd, Nat.reduceSub, Array.replicate_succ, Array.replicate_zero, List.push_toArray, List.append_toArray, List.nil_append, List.cons_append]
  gi_wp2_with fail
  have b1 := Boxed.new w 26 (.slice none 0 0)
  have hB0 := (Below.refl w.heap.size w).alloc (Nat.le_refl _) (.cells #[.slice none 0 0] 26)
  obtain ⟨W0, hW0⟩ : ∃ W0, w.alloc (.cells #[.slice none 0 0] 26) = W0 := ⟨_, rfl⟩
  have hsz : W0.heap.size = w.heap.size + 1 := by rw [← hW0]; simp
  rw [hW0] at b1 hB0 ⊢
  clear hW0
  refine wpIn_rangeFunc_ownH rfl (by decide) (gf := 59) (lb := #[.pointer (some ⟨bm, 0, none⟩)]) rfl trivial (enters_of Tryz.func59 (by kernel_rfl) rfl)
    (values_stops (5 - 1) (by decide) bm b L hL W0 ((hB0.block bm (heap_lt hbm)).trans hbm) (hown.kept (hB0.block b hown.lt))) (fun h k => KeepsWalks.trans h k) (fun W l o o' _ hl _ ho => KeepsWalks.putObj o' hl ho) (Below.refl _ _) (fun _ => rfl)
    (fun (pre : List Ino) W => (∃ v, Boxed W w.heap.size 26 v ∧ W.ownsRow (w.heap.size + 1) 47 6 v pre.length (flat (pre.map inoA)) ∧ True) ∧ Below w.heap.size w W)
    (fun _ _ _ => False)
    (OwnFrom.and (Own.from (holdsRow_own (w.heap.size + 1) w.heap.size 26 47 6 (fun pre : List Ino => pre.length) (fun pre => flat (pre.map inoA)) (fun _ _ => True)) _) (ownFrom_below (Nat.le_refl _) (by omega)))
    (fun _ _ _ _ _ hs _ _ => hs)
    ⟨⟨_, b1, World.ownsRow_nil _ _ _ _, trivial⟩, hB0⟩
    (fun x a' W => RoundAt (.func (.func 59) #[] #[.pointer (some ⟨bm, 0, none⟩)]) w.heap.size x a' W) (fun x a' => round_own _ _ _ x a') ?assign ?body ?done ?stop
  case assign =>
    rintro l pre x W K ⟨⟨v, hv, hrow, _⟩, hB⟩ hK
    have hK' := hK { tmps := #[.slice none 0 0, .func (.func 59) #[] #[.pointer (some ⟨bm, 0, none⟩)], .pointer (some ⟨w.heap.size, 0, none⟩), undef, .slice none 0 0, .pointer (some ⟨W.heap.size, 0, none⟩), .func (.func 59) #[] #[.pointer (some ⟨bm, 0, none⟩)], .agg (inoA x), undef, undef, undef, undef, undef], defers := [] } (W.alloc (.cells (inoA x) 47))
      ((KeepsOthers.alloc _ _).from _) (KeepsWalks.alloc _ _) ⟨⟨v, hv.alloc _, hrow.alloc _, trivial⟩, hB.alloc hB.size _⟩ ⟨W.heap.size, rfl, heap_alloc_new _ _⟩
    have HK := Lib.hid hK'
    clear hK hK'
    obtain ⟨⟨i1, i2⟩, xk, xl, xm, xd⟩ := x
    simp only [handed, inoA] at HK ⊢
    gi_wp2_with fail
    exact HK.out
  case body =>
    rintro l pre x a' W hl _ ⟨⟨v, hv, hrow, _⟩, hB⟩ ⟨q, rfl, hq⟩ hlt
    have hc := hv.cell
    have hsz2 := hB.size
    have hm : pre.length + 1 ≤ maxLen := by unfold maxLen; omega
    have hlow := heap_lt hq
    have hlow2 := hv.lt
    have HW := Lib.hid (row_there W 47 (inoA x))
    have HO := Lib.hid (ino_one x)
    obtain ⟨x0, x1, x2, x3, x4, x5⟩ := ino_cells hq
    have HF := Lib.hid (flat_ino pre x)
    obtain ⟨⟨i1, i2⟩, xk, xl, xm, xd⟩ := x
    unfold inoA at HW HO ⊢
    gi_wp2_with (gi_at_builtin; refine wpListIn_append_own _ rfl _ _ 26 rfl (w.heap.size + 1) 47 i0 _ 6 56 Tryz.underlying26 hi0 hz0 hz1 hz2 rfl (by decide) _ _ _ rfl (hrow.alloc _) ⟨W.heap.size, 0, none⟩ 1 1 (inoA ⟨(i1, i2), xk, xl, xm, xd⟩).toList rfl rfl HW.out HO.out hm (by omega) (by simp; omega) ?_; intro v' w1 hown' hgrow _; obtain ⟨g', cap', rfl⟩ := ownsRow_succ hown'; have hv1 := box_appended hv (by omega) hrow hgrow; have hc1 := hv1.cell; have hf1 := hv1.frozen)
    have hg : (W.alloc (.cells (inoA ⟨(i1, i2), xk, xl, xm, xd⟩) 47)).grownBy w1 v.ownBlock := hgrow
    obtain ⟨_, a2, a3, a4, a5⟩ := hv.appended (n₀ := w.heap.size) (by decide) (own_lower hrow (Nat.le_succ _)) hsz2 (Nat.le_refl _) (own_lower hown' (Nat.le_succ _)) hg
    have hr2 := hown'.kept (grownBy_setCell' w1 w.heap.size (.slice (some ⟨g', 0, none⟩) (pre.length + 1) cap')) (.inr (hv1.not_row (by decide) hown').symm)
    have hr3 : (w1.setCell ⟨w.heap.size, 0, none⟩ (.slice (some ⟨g', 0, none⟩) (pre.length + 1) cap')).ownsRow (w.heap.size + 1) 47 6 (.slice (some ⟨g', 0, none⟩) (pre.length + 1) cap') (pre ++ [Ino.mk (i1, i2) xk xl xm xd]).length (flat ((pre ++ [Ino.mk (i1, i2) xk xl xm xd]).map inoA)) := by
      rw [List.length_append, ← HF.out]
      exact hr2
    exact ⟨a4.from _, a4.walks, ⟨_, a2, hr3⟩, hB.trans a5⟩
  case done =>
    rintro D ys W hD hS ⟨⟨v, hv, hrow, _⟩, hB⟩ hK
    have hc := hv.cell
    gi_wp2_with fail
    refine ⟨by simp, .inl ⟨_, _, rfl, run_takeDeferred hK, ?_⟩⟩
    have hrow2 := ownsRow_putObj hrow (.deferred none) hK rfl
    have hB2 := hB.trans (belowK_b (n₀ := w.heap.size) (w := w) (Nat.le_refl _) W D _ (.deferred none) (by omega) hK rfl rfl)
    exact ⟨_, results_tmp rfl _ _ _, v, ys, rfl, hS, own_lower hrow2 (Nat.le_succ _), hB2⟩
  case stop =>
    rintro D c pre W _ _ h _
    exact h.elim
end

set_option maxRecDepth 100000 in
theorem collect_code (bm b : Nat) (L : List (St × Ino)) (hL : L.length ≤ 1000) (w : World) (hbm : w.heap[bm]? = some (.cells #[.map (some b)] 48 (0, 0))) (hown : KMap stV inoV w b L) :
    Calls Tryz.prog 57 #[.func (.func 59) #[] #[.pointer (some ⟨bm, 0, none⟩)]] w fun e w' =>
      ∃ (v : Value) (ys : List Ino), e = .returned v ∧ ys.Perm (L.map Prod.snd) ∧ w'.ownsRow w.heap.size 47 6 v ys.length (flat (ys.map inoA)) ∧ Below w.heap.size w w' := by
  have HA := Lib.hid (appendSeq_code bm b L hL w hbm hown)
  clear hown hbm
  go_enter Tryz.func57, Tryz.ntmps57
  go_wp2_with fail
  refine HA.out.mono ?_
  rintro e w' ⟨v, ys, rfl, h1, h2, h3⟩
  go_wp2_with fail
  go_ret
  exact ⟨v, ys, rfl, h1, h2, h3⟩

set_option maxRecDepth 100000 in
theorem sortedFunc_code (bm b : Nat) (L : List (St × Ino)) (hL : L.length ≤ 1000) (I : List Ino) (hI : I.Pairwise fun a b => lessS a.id b.id = true) (hp : (L.map Prod.snd).Perm I) (w : World) (hbm : w.heap[bm]? = some (.cells #[.map (some b)] 48 (0, 0))) (hown : KMap stV inoV w b L) :
    Calls Tryz.prog 43 #[.func (.func 59) #[] #[.pointer (some ⟨bm, 0, none⟩)], .func (.func 45) #[] #[]] w (InosNew I w) := by
  have HA := Lib.hid (collect_code bm b L hL w hbm hown)
  have HI := Lib.hid hI
  have HP := Lib.hid hp
  clear hown hbm hI hp
  go_enter Tryz.func43, Tryz.ntmps43
  go_wp2_with fail
  refine HA.out.mono ?_
  rintro e wr ⟨v, ys, rfl, hy, hown, hB⟩
  have h1000 : ys.length < 4611686018427387904 := by
    have := hy.length_eq
    rw [List.length_map] at this
    omega
  have HY := Lib.hid hy
  clear hy
  have hs := sort_own (w := wr) Tryz.sortIno 6 Tryz.isAgg47 Tryz.sizeOf47 inoA (fun _ => rfl) ino_one inoI swo_inos 45 #[] (enters_of Tryz.func45 (by kernel_rfl) rfl)
    (fun W x y => (inoClosure_grown x y W).mono fun _ _ h => ⟨h.1, h.2.grow⟩) (rfl : ys.length = ys.length) hown h1000
  change Calls Tryz.prog 58 _ _ _ at hs
  have hrow := hown.lt
  clear hown
  have HS := Lib.hid hs
  clear hs
  go_wp2_with fail
  refine (HS.out).mono ?_
  rintro e w2 ⟨rfl, zs, hz, hsd, hown2, hbut⟩
  have hzs : zs = I := sorted_inos HI.out (hz.trans (HY.out.trans HP.out)) hsd
  have hl : ys.length = I.length := (HY.out.trans HP.out).length_eq
  rw [hzs, hl] at hown2
  clear hz hsd hzs
  go_wp2_with fail
  go_ret
  exact ⟨_, rfl, hown2, hB.trans (hbut.below (fun i hi => (hrow i hi).1) hB.size)⟩

set_option maxRecDepth 100000 in
theorem inodes_code (a : Addr) (S : Nat → Prop) (g : Gr) (w : World) (h : GIn w S a g) (hg : g.ok) :
    Calls Tryz.prog 25 #[.pointer (some a)] w (InosNew (inodesG g) w) := by
  obtain ⟨b, bi, be, rfl, h1, h2, h3, hb, hi, he, hS⟩ := h
  obtain ⟨c0, c1⟩ := two_cells hb
  have hlt := heap_lt hb
  have hlen : (pairsI g).length ≤ 1000 := by
    unfold pairsI
    rw [List.length_map, hg.inodes, List.length_map]
    exact Nat.le_trans hg.few (by decide)
  have hgE : (inodesG g).Pairwise fun a b => lessS a.id b.id = true := by
    rw [hg.inodes]
    exact List.pairwise_map.2 hg.sortI
  have hp : ((pairsI g).map Prod.snd).Perm (inodesG g) := by
    unfold pairsI
    rw [List.map_map, show Prod.snd ∘ (fun x : Ino => (x.id, x)) = id from rfl, List.map_id]
  have HQ : Hid (∀ W, Below w.heap.size w W → ∀ B, W.heap[B]? = some (.cells #[.map (some bi)] 48 (0, 0)) → Calls Tryz.prog 43 #[.func (.func 59) #[] #[.pointer (some ⟨B, 0, none⟩)], .func (.func 45) #[] #[]] W (InosNew (inodesG g) W)) :=
    fun W hW B hB => sortedFunc_code B bi (pairsI g) hlen (inodesG g) hgE hp W hB (hi.kept (hW.block bi hi.lt))
  clear hi he hb hS hlen hgE hp hg
  go_enter Tryz.func25, Tryz.ntmps25
  go_wp2_with fail
  refine (values_code bi w).mono ?_
  rintro e w' ⟨rfl, rfl⟩
  have hb1 := (Below.refl w.heap.size w).alloc (Nat.le_refl _) (.cells #[.map (some bi)] 48)
  go_wp2_with fail
  refine (HQ.out _ hb1 _ (heap_alloc_new _ _)).mono ?_
  rintro e w2 ⟨v, rfl, hown, hb⟩
  go_wp2_with fail
  go_ret
  exact ⟨v, rfl, own_lower hown hb1.size, below_step hb1 hb⟩

end Go.Proofs.YthobfeohgeeofaaGreat

/-
  The walks of stamp's isRep and May.
-/
namespace Go.Proofs.YthobfeohgeeofaaGreat
open Go.RowKit StampMath PackMath

theorem isRep_any (r : Int) (w : World) :
    Calls Tryz.prog 49 #[.int .i64 r] w fun e w' => e = .returned (.bool (decide (0 ≤ r) && decide (r < 8))) ∧ w = w' := by
  have hcase : (decide (0 ≤ r) = false) ∨ 0 ≤ r := by
    by_cases h : 0 ≤ r
    · exact Or.inr h
    · exact Or.inl (by simp; omega)
  rcases hcase with h | h
  all_goals
    go_enter Tryz.func49, Tryz.ntmps49
    go_wp2_with fail
    go_ret
    exact ⟨by simp [h], rfl⟩

set_option maxHeartbeats 400000 in
theorem may_any (t r : Int) (w : World) :
    Calls Tryz.prog 29 #[.agg #[.int .i64 t, .int .i64 r]] w fun e w' => e = .returned (.bool (mayB t r)) ∧ Below w.heap.size w w' := by
  have hcase : ((t == 0) = true ∧ mayB t r = (r == 0)) ∨ ((t == 0) = false ∧ decide (0 < t) = false ∧ mayB t r = false) ∨ ((t == 0) = false ∧ 0 < t ∧ decide (t ≤ 1073741824) = false ∧ mayB t r = false) ∨
      ((t == 0) = false ∧ 0 < t ∧ t ≤ 1073741824 ∧ mayB t r = (decide (0 ≤ r) && decide (r < 8))) := by
    unfold mayB
    by_cases h0 : t = 0
    · exact Or.inl ⟨by simp [h0], by rw [if_pos h0]⟩
    · rw [if_neg h0]
      by_cases h1 : 0 < t
      · by_cases h2 : t ≤ 1073741824
        · refine Or.inr (Or.inr (Or.inr ⟨by simp [h0], h1, h2, ?_⟩))
          have e1 : decide (1 ≤ t) = true := by simp; omega
          have e2 : decide (r ≤ 7) = decide (r < 8) := by rw [decide_eq_decide]; omega
          rw [e1, e2]
          simp [h2]
        · exact Or.inr (Or.inr (Or.inl ⟨by simp [h0], h1, by simp; omega, by simp [h2]⟩))
      · exact Or.inr (Or.inl ⟨by simp [h0], by simp; omega, by simp; omega⟩)
  rcases hcase with ⟨h0, h⟩ | ⟨h0, h1, h⟩ | ⟨h0, h1, h2, h⟩ | ⟨h0, h1, h2, h⟩
  · have H := Lib.hid h
    clear h
    go_enter Tryz.func29, Tryz.ntmps29
    go_wp2_with fail
    go_ret
    exact ⟨by rw [H.out]; rfl, (Below.refl _ _).alloc (Nat.le_refl _) _⟩
  · have H := Lib.hid h
    clear h
    go_enter Tryz.func29, Tryz.ntmps29
    go_wp2_with fail
    go_ret
    exact ⟨by rw [H.out]; rfl, (Below.refl _ _).alloc (Nat.le_refl _) _⟩
  · have H := Lib.hid h
    clear h
    go_enter Tryz.func29, Tryz.ntmps29
    go_wp2_with fail
    go_ret
    exact ⟨by rw [H.out]; rfl, (Below.refl _ _).alloc (Nat.le_refl _) _⟩
  · have H := Lib.hid h
    clear h
    go_enter Tryz.func29, Tryz.ntmps29
    go_wp2_with fail
    refine (isRep_any _ _).mono ?_
    rintro e w' ⟨rfl, rfl⟩
    go_wp2_with fail
    go_ret
    exact ⟨by rw [H.out]; rfl, (Below.refl _ _).alloc (Nat.le_refl _) _⟩

end Go.Proofs.YthobfeohgeeofaaGreat

/-
  The landed graph's Make.
-/
namespace Go.Proofs.YthobfeohgeeofaaGreat
open Go.RowKit StampMath GraphMath

set_option maxRecDepth 100000 in
set_option maxHeartbeats 1600000 in
theorem make_code (a : Addr) (S : Nat → Prop) (g : Gr) (id : St) (kind : Int) (w : World) (h : GIn w S a g) (hg : g.ok) :
    Calls Tryz.prog 11 #[.pointer (some a), .agg (stA id), .int .i64 kind] w fun e w' => e = .returned (.int .i64 (makeG g id kind).2) ∧ GIn w' S a (makeG g id kind).1 ∧ But S w w' := by
  have HM : Hid (∀ W : World, Calls Tryz.prog 29 #[.agg #[.int .i64 id.1, .int .i64 id.2]] W fun e w' => e = .returned (.bool (mayB id.1 id.2)) ∧ Below W.heap.size W w') := fun W => may_any _ _ W
  have HRt : Hid (∀ W : World, Calls Tryz.prog 13 #[] W fun e w' => e = .returned (.agg #[.int .i64 0, .int .i64 0]) ∧ Below W.heap.size W w') := root_any
  have hGet : ∀ (x : St) (W : World), Below w.heap.size w W → Calls Tryz.prog 30 #[.pointer (some a), .agg #[.int .i64 x.1, .int .i64 x.2]] W fun e w' => e = .returned (.tuple #[.agg (inoA ((getG g x).getD noIno)), .bool (getG g x).isSome]) ∧ Below W.heap.size W w' := fun x W hW => get_code a S g x W (h.keep fun i hi => hW.block i (h.lt i hi)) hg
  obtain ⟨R, hR⟩ : ∃ R, getG g (0, 0) = some R := by
    obtain ⟨y, hy, hyi, _⟩ := hg.root
    exact ⟨_, by rw [← hyi]; exact hg.get hy⟩
  have HGR : Hid (∀ W : World, Below w.heap.size w W → Calls Tryz.prog 30 #[.pointer (some a), .agg #[.int .i64 0, .int .i64 0]] W fun e w' => e = .returned (.tuple #[.agg #[.int .i64 R.id.1, .int .i64 R.id.2, .int .i64 R.kind, .int .i64 R.links, .int .i64 R.mode, .string R.data], .bool true]) ∧ Below W.heap.size W w') := fun W hW => by
    have := hGet (0, 0) W hW
    rw [hR] at this
    exact this
  clear hR
  obtain ⟨m, hm⟩ : ∃ m, m = mayB id.1 id.2 := ⟨_, rfl⟩
  by_cases c1 : mayB id.1 id.2 = false ∨ kind < 1 ∨ 3 < kind
  · have e1 : makeG g id kind = (g, 1) := by unfold makeG; rw [if_pos c1]
    rw [e1]
    have hG := Lib.hid h
    have hltS := Lib.hid h.lt
    clear h hGet HGR
    rw [← hm] at c1 HM
    clear hm e1
    have c1' : (m = false) ∨ (m = true ∧ kind < 1) ∨ (m = true ∧ ¬ kind < 1 ∧ 3 < kind) := by
      cases m
      · exact Or.inl rfl
      · by_cases q : kind < 1
        · exact Or.inr (Or.inl ⟨rfl, q⟩)
        · refine Or.inr (Or.inr ⟨rfl, q, ?_⟩)
          rcases c1 with h | h | h
          · cases h
          · exact absurd h q
          · exact h
    clear c1
    unfold stA
    rcases c1' with rfl | ⟨rfl, k1⟩ | ⟨rfl, k1, k3⟩
    all_goals
      go_enter Tryz.func11, Tryz.ntmps11
      go_wp2_with fail
      refine (HM.out _).mono ?_
      rintro e w1 ⟨rfl, hb1⟩
      go_wp2_with fail
      go_ret
      have hb : Below w.heap.size w w1 := below_step ((Below.refl _ _).alloc (Nat.le_refl _) _) hb1
      exact ⟨rfl, hG.out.keep fun i hi => hb.block i (hltS.out i hi), But.of_below hb⟩
  · have c1' : m = true ∧ ¬ kind < 1 ∧ ¬ 3 < kind := by
      rw [← hm] at c1
      refine ⟨?_, fun q => c1 (Or.inr (Or.inl q)), fun q => c1 (Or.inr (Or.inr q))⟩
      cases m
      · exact absurd (Or.inl rfl) c1
      · rfl
    rw [← hm] at HM
    obtain ⟨rfl, k1, k3⟩ := c1'
    have hmk : makeG g id kind = if (getG g id).isSome then (g, 4) else if 40 ≤ g.I.length then (g, 13) else (⟨putIn (fun x => lessS x.id id) g.I ⟨id, kind, 0, 0, ⟨#[]⟩⟩, g.E⟩, 0) := by
      unfold makeG
      rw [if_neg c1]
    clear hm
    obtain ⟨ok, hok⟩ : ∃ ok, ok = (getG g id).isSome := ⟨_, rfl⟩
    obtain ⟨X, hX⟩ : ∃ X, X = (getG g id).getD noIno := ⟨_, rfl⟩
    have HGI : Hid (∀ W : World, Below w.heap.size w W → Calls Tryz.prog 30 #[.pointer (some a), .agg #[.int .i64 id.1, .int .i64 id.2]] W fun e w' => e = .returned (.tuple #[.agg #[.int .i64 X.id.1, .int .i64 X.id.2, .int .i64 X.kind, .int .i64 X.links, .int .i64 X.mode, .string X.data], .bool ok]) ∧ Below W.heap.size W w') := fun W hW => by
      rw [hX, hok]
      exact hGet id W hW
    have hG := Lib.hid h
    obtain ⟨b, bi, be, rfl, h1, h2, h3, hb, hi, he, hS⟩ := h
    obtain ⟨d0, d1⟩ := two_cells hb
    have hlt := heap_lt hb
    have HBlk := Lib.hid hb
    have HI := Lib.hid hi
    have HE := Lib.hid he
    have HS := Lib.hid hS
    have HK := Lib.hid hmk
    have HO : Hid (ok = (getG g id).isSome) := hok
    have hb0 : Below w.heap.size w (w.alloc (.cells #[.int .i64 id.1, .int .i64 id.2] 34)) := (Below.refl _ _).alloc (Nat.le_refl _) _
    clear hi he hb hS c1 hmk hok hX hGet d1
    unfold stA
    go_enter Tryz.func11, Tryz.ntmps11
    go_wp2_with fail
    refine (HM.out _).mono ?_
    rintro e w1 ⟨rfl, hb1⟩
    have q0 : w1.heap[w.heap.size]? = some (.cells #[.int .i64 id.1, .int .i64 id.2] 34 (0, 0)) := (hb1.block _ (by simp)).trans (heap_alloc_new w _)
    have hb2 := below_step hb0 hb1
    clear hb0 hb1 HM
    go_wp2_with fail
    refine (HRt.out _).mono ?_
    rintro e w2 ⟨rfl, hb3⟩
    have q1 := (hb3.block _ (heap_lt q0)).trans q0
    have hb4 := below_step hb2 hb3
    clear q0 hb2 hb3 HRt
    go_wp2_with fail
    refine (HGR.out _ hb4).mono ?_
    rintro e w3 ⟨rfl, hb5⟩
    have q2 := (hb5.block _ (heap_lt q1)).trans q1
    have hb6 := below_step hb4 hb5
    clear q1 hb4 hb5 HGR
    go_upto_region 4 with fail
    change Code.wp _ _ _ _ (w3.alloc (.cells (inoA R) 47))
    have q3 := (heap_alloc_old w3 (.cells (inoA R) 47) (heap_lt q2)).trans q2
    have hb7 := hb6.alloc hb6.size (.cells (inoA R) 47)
    generalize w3.alloc (.cells (inoA R) 47) = w4 at q3 hb7 ⊢
    clear q2 hb6
    obtain ⟨x0, x1⟩ := two_cells q3
    go_wp2_with fail
    refine (HGI.out _ hb7).mono ?_
    rintro e w5 ⟨rfl, hb8⟩
    have q4 := (hb8.block _ (heap_lt q3)).trans q3
    have hb9 := below_step hb7 hb8
    clear q3 hb7 hb8 HGI x0 x1
    go_upto_region 7 with fail
    change Code.wp _ _ _ _ (w5.alloc (.cells (inoA X) 47))
    have q5 := (heap_alloc_old w5 (.cells (inoA X) 47) (heap_lt q4)).trans q4
    have hb10 := hb9.alloc hb9.size (.cells (inoA X) 47)
    generalize w5.alloc (.cells (inoA X) 47) = w6 at q5 hb10 ⊢
    clear q4 hb9
    obtain ⟨x0, x1⟩ := two_cells q5
    have d0w := (hb10.cell (p := ⟨b, 0, none⟩) hlt).trans d0
    cases ok with
    | true =>
      go_wp2_with fail
      go_ret
      rw [HK.out, if_pos HO.out.symm]
      exact ⟨rfl, hG.out.keep fun i hi => hb10.block i (hG.out.lt i hi), But.of_below hb10⟩
    | false =>
      have hln := (HI.out.kept (hb10.block bi HI.out.lt)).len (P := Tryz.prog) Tryz.underlying48 3
      by_cases c3 : 40 ≤ g.I.length
      · have hlen : (40 : Int) ≤ ((pairsI g).length : Int) := by unfold pairsI; rw [List.length_map, hg.inodes, List.length_map]; omega
        generalize ((pairsI g).length : Int) = ln at hln hlen
        go_wp2_with fail
        go_ret
        rw [HK.out, if_neg (by rw [← HO.out]; simp), if_pos c3]
        exact ⟨rfl, hG.out.keep fun i hi => hb10.block i (hG.out.lt i hi), But.of_below hb10⟩
      · have hlen : ¬ (40 : Int) ≤ ((pairsI g).length : Int) := by unfold pairsI; rw [List.length_map, hg.inodes, List.length_map]; omega
        generalize ((pairsI g).length : Int) = ln at hln hlen
        obtain ⟨w7, hrun, hm7, hbut7, hsz7⟩ := (HI.out.kept (hb10.drew.block bi HI.out.lt)).store stShape Tryz.underlying48 id ⟨id, kind, 0, 0, ⟨#[]⟩⟩
        simp only [stV, stA, inoV, inoA] at hrun
        have HM7 := Lib.hid hm7
        have HB7 := Lib.hid hbut7
        have HB10 := Lib.hid hb10
        clear hm7 hbut7 hb10 q5 hsz7
        go_wp2_with fail
        go_region
        go_wp2_with fail
        go_ret
        have hb8 : But (fun i => i = bi) w w7 := (But.of_below HB10.out.drew).trans HB7.out fun i hi _ => hi
        have he : makeG g id kind = (⟨putIn (fun x => lessS x.id id) g.I ⟨id, kind, 0, 0, ⟨#[]⟩⟩, g.E⟩, 0) := by rw [HK.out, if_neg (by rw [← HO.out]; simp), if_neg c3]
        have h0 : (makeG g id kind).2 = 0 := by rw [he]
        have hok := hg.make id kind
        refine ⟨by rw [h0]; rfl, ⟨b, bi, be, rfl, h1, h2, h3, ?_, ?_, ?_, HS.out⟩, hb8.mono fun i hi => (HS.out i).2 (Or.inr (Or.inl hi))⟩
        · exact hb8.heap HBlk.out (fun q => h1 q)
        · refine HM7.out.perm (put_perm (keys_pairsI hg) (keys_pairsI hok) fun k => ?_)
          rw [look_pairsI hok, look_pairsI hg, make_get hg h0]
        · have e1 : pairsE (makeG g id kind).1 = pairsE g := by unfold pairsE; rw [make_ents]
          rw [e1]
          exact HE.out.kept (hb8.block be HE.out.lt fun q => h3 q.symm)

end Go.Proofs.YthobfeohgeeofaaGreat

/-
  The landed graph's New.
-/
namespace Go.Proofs.YthobfeohgeeofaaGreat
open Go.RowKit StampMath GraphMath

theorem pairsI_new : pairsI newG = [((0, 0), ⟨(0, 0), 1, 0, 0, ⟨#[]⟩⟩)] := by rw [pairsI, new_okG.inodes]; rfl

set_option maxRecDepth 100000 in
theorem new_code (w : World) : Calls Tryz.prog 5 #[] w fun e w' => ∃ a S, e = .returned (.pointer (some a)) ∧ GIn w' S a newG ∧ (∀ i, S i → w.heap.size ≤ i) ∧ Below w.heap.size w w' := by
  have HR : Hid (∀ W : World, Calls Tryz.prog 13 #[] W fun e w' => e = .returned (.agg #[.int .i64 0, .int .i64 0]) ∧ Below W.heap.size W w') := root_any
  have hmk0 : (Instr.makeMap 48 none).run Tryz.prog w = .ok (.map (some w.heap.size)) (w.alloc (.map #[] 0)) := rfl
  have hb0 : Below w.heap.size w (w.alloc (.map #[] 0)) := (Below.refl _ _).alloc (Nat.le_refl _) _
  have HM0 := Lib.hid (KMap.made (ek := stV) (ev := inoV) w)
  go_enter Tryz.func5, Tryz.ntmps5
  go_wp2_with fail
  refine (HR.out _).mono ?_
  rintro e w1 ⟨rfl, hb1⟩
  have hm1 := Lib.hid (HM0.out.kept (hb1.block _ (by simp)))
  have hb2 := below_step hb0 hb1
  have hz1 : w.heap.size < w1.heap.size := hm1.out.lt
  clear hmk0 hb0 hb1 HM0
  go_wp2_with fail
  refine (HR.out _).mono ?_
  rintro e w2 ⟨rfl, hb3⟩
  have hm2 := hm1.out.kept (hb3.block _ hz1)
  have hb4 := below_step hb2 hb3
  have hz2 : w.heap.size < w2.heap.size := hm2.lt
  clear hm1 hb2 hb3 hz1
  obtain ⟨w3, hrun, hm3, hbut, hsz⟩ := hm2.store stShape Tryz.underlying48 (0, 0) ⟨(0, 0), 1, 0, 0, ⟨#[]⟩⟩
  simp only [stV, stA, inoV, inoA] at hrun
  have hb5 : Below w.heap.size w w3 := hb4.trans (hbut.below (fun i hi => by omega) (by omega))
  have HM := Lib.hid hm3
  have HB := Lib.hid hb5
  have hz3 : w.heap.size < w3.heap.size := by rw [hsz]; exact hz2
  clear hm2 hb4 hz2 hm3 hbut hb5 hsz
  have hmk1 : (Instr.makeMap 49 none).run Tryz.prog w3 = .ok (.map (some w3.heap.size)) (w3.alloc (.map #[] 0)) := rfl
  go_wp2_with fail
  go_ret
  refine ⟨⟨w3.heap.size + 1, 0, none⟩, fun i => i = w3.heap.size + 1 ∨ i = w.heap.size ∨ i = w3.heap.size, ?_, ⟨w3.heap.size + 1, w.heap.size, w3.heap.size, rfl, by omega, by omega, by omega, ?_, ?_, ?_, fun i => Iff.rfl⟩, fun i hi => by omega, ?_⟩
  · rfl
  · rw [show w3.heap.size + 1 = (w3.alloc (.map #[] 0)).heap.size by simp]
    exact heap_alloc_new _ _
  · have hk : KMap stV inoV w3 w.heap.size (pairsI newG) := by
      have := HM.out
      rw [pairsI_new]
      exact this
    refine hk.kept ?_
    rw [heap_alloc_old _ _ (by simp; omega), heap_alloc_old _ _ (by omega)]
  · have hk : KMap plV stV (w3.alloc (.map #[] 0)) w3.heap.size [] := KMap.made w3
    refine hk.kept ?_
    rw [heap_alloc_old _ _ (by simp)]
  · exact (HB.out.alloc HB.out.size _).alloc (by simp; omega) _

end Go.Proofs.YthobfeohgeeofaaGreat
