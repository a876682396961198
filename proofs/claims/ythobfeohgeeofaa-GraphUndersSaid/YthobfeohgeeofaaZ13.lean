/-
  Maps whose keys and elements are of any shape: what lies in one as a list of pairs, in no order; each operation on one, and going through it.
-/
import Derived.Test.YthobfeohgeeofaaZ03
import Derived.Maps.RangeWalk
import Derived.WideKeyRuns
import Derived.Test.YthobfeohgeeofaaZ01
import Derived.Test.YthobfeohgeeofaaZ02
import Derived.Test.YthobfeohgeeofaaZ12
import Derived.Test.YthobfeohgeeofaaRows
import Derived.Test.YthobfeohgeeofaaZ00
import Derived.Test.YthobfeohgeeofaaZ04
import Derived.Deep.RegionHeld3
import Derived.Deep.LoopGhost
import Derived.Sort.Grow
namespace Go.Proofs.Ythobfeohgeeofaa
open Go.RowKit Go.MapKept
open Go.ChangeMaps (setBlock)

/-- What a key's type must give: equal keys are found, others aren't. -/
structure KShape (P : Program) (k : TypeId) {K : Type} (ek : K → Value) : Prop where
  inj : ∀ x y, ek x = ek y → x = y
  check : ∀ (w : World) (em : Bool) (x : K), (Instr.checkKey em 10000 k (ek x)).run P w = .ok () w
  find : ∀ (w : World) (x : K) (es : List MapEntry), (∀ e ∈ es, ∃ y, e.key = ek y) →
    ((Instr.findKey k (ek x) es).run P w = .ok none w ∧ ∀ e ∈ es, e.key ≠ ek x) ∨ ∃ j e, (Instr.findKey k (ek x) es).run P w = .ok (some (j, e.val)) w ∧ es[j]? = some e ∧ e.key = ek x
  stays : ∀ (w : World) (x : K), (Instr.keyThatStays (ek x) (ek x)).run P w = .ok (ek x) w

theorem findAsking_by {P : Program} {k : TypeId} {K : Type} [DecidableEq K] {ek : K → Value} (w : World) (heq : ∀ x y, (Op.equal k (ek x) (ek y)).run P w = .ok (decide (x = y)) w) (x : K) :
    ∀ (es : List MapEntry) (i : Nat), (∀ e ∈ es, ∃ y, e.key = ek y) →
      ((Instr.findAsking k (ek x) es i).run P w = .ok none w ∧ ∀ e ∈ es, ∀ y, e.key = ek y → x ≠ y) ∨
      ∃ j e, (Instr.findAsking k (ek x) es i).run P w = .ok (some (i + j, e.val)) w ∧ es[j]? = some e ∧ e.key = ek x
  | [], i, _ => Or.inl ⟨by simp [Instr.findAsking], by simp⟩
  | e :: es, i, hall => by
    obtain ⟨y, hy⟩ := hall e (by simp)
    have hr := heq x y
    rw [← hy] at hr
    by_cases hxy : x = y
    · right
      rw [decide_eq_true hxy] at hr
      exact ⟨0, e, by simp [Instr.findAsking, hr], rfl, by rw [hy, hxy]⟩
    · rw [decide_eq_false hxy] at hr
      rcases findAsking_by w heq x es (i + 1) (fun z hz => hall z (by simp [hz])) with ⟨h1, h2⟩ | ⟨j, e', h1, h2, h3⟩
      · left
        refine ⟨by simp [Instr.findAsking, hr, h1], fun z hz v hv => ?_⟩
        rcases List.mem_cons.1 hz with rfl | hz
        · intro e2
          subst e2
          have h5 := heq x x
          rw [hv, h5, decide_eq_true rfl] at hr
          cases hr
        · exact h2 z hz v hv
      · right
        exact ⟨j + 1, e', by simp [Instr.findAsking, hr, h1, Nat.add_assoc, Nat.add_comm 1 j], by simpa using h2, h3⟩

/-- A struct's or an array's: told by how two of them are held equal. -/
theorem KShape.of_equal {P : Program} {k : TypeId} {K : Type} [DecidableEq K] {ek : K → Value} (hwide : (match P.underlying k with | some (.array _ _) | some (.struct _) => true | _ => false) = true)
    (inj : ∀ x y, ek x = ek y → x = y) (heq : ∀ w x y, (Op.equal k (ek x) (ek y)).run P w = .ok (decide (x = y)) w)
    (check : ∀ (w : World) (em : Bool) (x : K), (Instr.checkKey em 10000 k (ek x)).run P w = .ok () w) (bits : ∀ x, Instr.sameBits 10000 (ek x) (ek x) = true) : KShape P k ek where
  inj := inj
  check := check
  find := fun w x es hall => by
    rw [run_findKey_eq w hwide]
    rcases findAsking_by w (heq w) x es 0 hall with ⟨h1, h2⟩ | ⟨j, e, h1, h2, h3⟩
    · exact Or.inl ⟨h1, fun e he e1 => h2 e he x e1 rfl⟩
    · exact Or.inr ⟨j, e, by simpa using h1, h2, h3⟩
  stays := fun w x => by simp [Instr.keyThatStays, bits x]

theorem checkKey_struct {P : Program} {t : TypeId} {fs : Array Field} (hu : P.underlying t = some (.struct fs)) (w : World) (em : Bool) (n : Nat) (cs : Array Value)
    (each : ∀ f ∈ fs.toList, f.name ≠ "_" ∧ ∃ v, (part f.type cs f.offset).run P w = .ok v w ∧ (Instr.checkKey em n f.type v).run P w = .ok () w) : (Instr.checkKey em (n + 1) t (.agg cs)).run P w = .ok () w := by
  rw [Instr.checkKey]
  simp only [Sem.run_bind, run_underlying hu, Result.andThen_ok]
  rw [← Array.forIn_toList]
  generalize fs.toList = L at each
  induction L with
  | nil => simp
  | cons f L ih =>
    obtain ⟨hn, a, p1, p2⟩ := each f (by simp)
    simp only [List.forIn_cons, Sem.run_bind, hn, ne_eq, not_false_eq_true, if_true, Result.andThen_ok, p1, p2, Sem.run_pure]
    exact ih (fun y hy => each y (by simp [hy]))

theorem checkKey_int {P : Program} {t : TypeId} {q q' : IntKind} (hu : P.underlying t = some (.int q)) (w : World) (em : Bool) (n : Nat) (x : Int) : (Instr.checkKey em (n + 1) t (.int q' x)).run P w = .ok () w := by
  rw [Instr.checkKey]
  simp [run_underlying hu]

theorem checkKey_string {P : Program} {t : TypeId} (hu : P.underlying t = some .string) (w : World) (em : Bool) (n : Nat) (x : ByteArray) : (Instr.checkKey em (n + 1) t (.string x)).run P w = .ok () w := by
  rw [Instr.checkKey]
  simp [run_underlying hu]

section
variable {K V : Type}

/-- What stands at a key. -/
def lookL [DecidableEq K] (L : List (K × V)) (x : K) : Option V := (L.find? fun p => decide (p.1 = x)).map Prod.snd

/-- All but what stands at a key. -/
def offL [DecidableEq K] (L : List (K × V)) (x : K) : List (K × V) := L.filter fun p => !decide (p.1 = x)

theorem mem_lookL [DecidableEq K] {L : List (K × V)} (hn : (L.map Prod.fst).Nodup) {x : K} {v : V} : lookL L x = some v ↔ (x, v) ∈ L := by
  induction L with
  | nil => simp [lookL]
  | cons p l ih =>
    simp only [List.map_cons, List.nodup_cons] at hn
    unfold lookL
    rw [List.find?_cons]
    by_cases h : p.1 = x
    · subst h
      simp only [decide_true, Option.map_some, Option.some.injEq, List.mem_cons]
      constructor
      · intro h; exact Or.inl (Prod.ext rfl h.symm)
      · rintro (h | h)
        · rw [← h]
        · exact absurd (List.mem_map_of_mem (f := Prod.fst) h) hn.1
    · simp only [h, decide_false, List.mem_cons]
      rw [show (Option.map Prod.snd (l.find? fun p => decide (p.1 = x))) = lookL l x from rfl, ih hn.2]
      constructor
      · exact Or.inr
      · rintro (h1 | h1)
        · exact absurd (by rw [← h1]) h
        · exact h1

theorem nodup_perm_keys {L L' : List (K × V)} (hp : L.Perm L') (hn : (L.map Prod.fst).Nodup) : (L'.map Prod.fst).Nodup := (hp.map _).nodup_iff.1 hn

theorem lookL_perm [DecidableEq K] {L L' : List (K × V)} (hp : L.Perm L') (hn : (L.map Prod.fst).Nodup) (x : K) : lookL L x = lookL L' x := by
  have h1 : ∀ v, lookL L x = some v ↔ lookL L' x = some v := fun v => by
    rw [mem_lookL hn, mem_lookL (nodup_perm_keys hp hn)]
    exact hp.mem_iff
  cases h : lookL L x with
  | some v => exact ((h1 v).1 h).symm
  | none =>
    cases h' : lookL L' x with
    | none => rfl
    | some v => rw [(h1 v).2 h'] at h; cases h

theorem lookL_none [DecidableEq K] {L : List (K × V)} {x : K} (h : ∀ p ∈ L, p.1 ≠ x) : lookL L x = none := by
  unfold lookL
  rw [List.find?_eq_none.2 (fun p hp => by simpa using h p hp)]
  rfl

theorem offL_none [DecidableEq K] {L : List (K × V)} {x : K} (h : ∀ p ∈ L, p.1 ≠ x) : offL L x = L := List.filter_eq_self.2 fun p hp => by simpa using h p hp

theorem offL_at [DecidableEq K] {L : List (K × V)} (hn : (L.map Prod.fst).Nodup) {j : Nat} (hj : j < L.length) : offL L L[j].1 = L.take j ++ L.drop (j + 1) := by
  have hs : L = L.take j ++ L[j] :: L.drop (j + 1) := by simp
  obtain ⟨x, hx⟩ : ∃ x, x = L[j].1 := ⟨_, rfl⟩
  obtain ⟨A, hA⟩ : ∃ A, A = L.take j := ⟨_, rfl⟩
  obtain ⟨C, hC⟩ : ∃ C, C = L.drop (j + 1) := ⟨_, rfl⟩
  obtain ⟨p, hp⟩ : ∃ p, p = L[j] := ⟨_, rfl⟩
  rw [← hA, ← hC, ← hp] at hs
  rw [← hp] at hx
  rw [← hp, ← hA, ← hC, ← hx, hs]
  rw [hs] at hn
  simp only [List.map_append, List.map_cons] at hn
  have hn' := List.nodup_append.1 hn
  have h1 : ∀ q ∈ A, q.1 ≠ x := fun q hq e => by
    rw [hx] at e
    exact hn'.2.2 q.1 (List.mem_map_of_mem hq) p.1 (by simp) e
  have h2 : ∀ q ∈ C, q.1 ≠ x := fun q hq e => by
    rw [hx] at e
    have := (List.nodup_cons.1 hn'.2.1).1
    exact this (by rw [← e]; exact List.mem_map_of_mem hq)
  have e1 : offL A x = A := offL_none h1
  have e2 : offL C x = C := offL_none h2
  unfold offL at e1 e2 ⊢
  rw [List.filter_append, List.filter_cons, e1, e2]
  simp [hx]

variable (ek : K → Value) (ev : V → Value)

/-- In the block b lies a map of just these pairs. -/
def KMap (w : World) (b : Nat) (L : List (K × V)) : Prop :=
  ∃ (es : Array MapEntry) (clock : Nat) (M : List (K × V)), w.heap[b]? = some (.map es clock) ∧ Stamped es clock ∧ es.toList.map (fun e => (e.key, e.val)) = M.map (fun p => (ek p.1, ev p.2)) ∧ M.Perm L

/-- .. and in the block r it is gone through; what is still to come. -/
def KRange (w : World) (b r : Nat) (L todo : List (K × V)) : Prop :=
  ∃ (es : Array MapEntry) (clock since : Nat) (seen : Array Nat) (c0 : Nat) (M T : List (K × V)), w.heap[b]? = some (.map es clock) ∧ Stamped es clock ∧ es.toList.map (fun e => (e.key, e.val)) = M.map (fun p => (ek p.1, ev p.2)) ∧ M.Perm L ∧
    w.heap[r]? = some (.mapIter (some b) since seen c0) ∧ (∀ x ∈ es.toList, x.born < since) ∧ since ≤ c0 ∧ since ≤ clock ∧
    (leftOf es seen).toList.map (fun e => (e.key, e.val)) = T.map (fun p => (ek p.1, ev p.2)) ∧ T.Perm todo

variable {ek ev}

theorem KMap.perm {w : World} {b : Nat} {L L' : List (K × V)} (h : KMap ek ev w b L) (hp : L.Perm L') : KMap ek ev w b L' := by
  obtain ⟨es, clock, M, h1, h2, h3, h4⟩ := h
  exact ⟨es, clock, M, h1, h2, h3, h4.trans hp⟩

theorem KMap.kept {w w' : World} {b : Nat} {L : List (K × V)} (h : KMap ek ev w b L) (hb : w'.heap[b]? = w.heap[b]?) : KMap ek ev w' b L := by
  obtain ⟨es, clock, M, h1, h2⟩ := h
  exact ⟨es, clock, M, hb.trans h1, h2⟩

theorem KMap.lt {w : World} {b : Nat} {L : List (K × V)} (h : KMap ek ev w b L) : b < w.heap.size := by
  obtain ⟨es, clock, M, h1, _⟩ := h
  exact (Array.getElem?_eq_some_iff.1 h1).1

theorem KRange.map {w : World} {b r : Nat} {L todo : List (K × V)} (h : KRange ek ev w b r L todo) : KMap ek ev w b L := by
  obtain ⟨es, clock, since, seen, c0, M, T, h1, h2, h3, h4, _⟩ := h
  exact ⟨es, clock, M, h1, h2, h3, h4⟩

theorem KRange.kept {w w' : World} {b r : Nat} {L todo : List (K × V)} (h : KRange ek ev w b r L todo) (hb : w'.heap[b]? = w.heap[b]?) (hr : w'.heap[r]? = w.heap[r]?) : KRange ek ev w' b r L todo := by
  obtain ⟨es, clock, since, seen, c0, M, T, h1, h2, h3, h4, h5, rest⟩ := h
  exact ⟨es, clock, since, seen, c0, M, T, hb.trans h1, h2, h3, h4, hr.trans h5, rest⟩

theorem KRange.ltr {w : World} {b r : Nat} {L todo : List (K × V)} (h : KRange ek ev w b r L todo) : r < w.heap.size := by
  obtain ⟨es, clock, since, seen, c0, M, T, h1, h2, h3, h4, h5, rest⟩ := h
  exact (Array.getElem?_eq_some_iff.1 h5).1

theorem KRange.perm {w : World} {b r : Nat} {L todo todo' : List (K × V)} (h : KRange ek ev w b r L todo) (hp : todo.Perm todo') : KRange ek ev w b r L todo' := by
  obtain ⟨es, clock, since, seen, c0, M, T, h1, h2, h3, h4, h5, h6, h7, h8, h9, h10⟩ := h
  exact ⟨es, clock, since, seen, c0, M, T, h1, h2, h3, h4, h5, h6, h7, h8, h9, h10.trans hp⟩

/-- For the loop's measure. -/
theorem KRange.left_eq {w : World} {b r : Nat} {L todo : List (K × V)} (h : KRange ek ev w b r L todo) : w.rangeLeft b r = todo.length := by
  obtain ⟨es, clock, since, seen, c0, M, T, h1, h2, h3, h4, h5, h6, h7, h8, h9, h10⟩ := h
  simp only [World.rangeLeft, h1, h5]
  have := congrArg List.length h9
  simp only [List.length_map, Array.length_toList] at this
  rw [this, h10.length_eq]

variable {P : Program} {k e : TypeId}

theorem keys_of {es : Array MapEntry} {clock : Nat} {M : List (K × V)} (hs : Stamped es clock) (hM : es.toList.map (fun e => (e.key, e.val)) = M.map (fun p => (ek p.1, ev p.2))) : (M.map Prod.fst).Nodup := by
  have h1 := ((stamped_iff es clock).1 hs).2.2
  have e1 : es.toList.map (·.key) = (M.map Prod.fst).map ek := by
    have := congrArg (List.map Prod.fst) hM
    simpa [List.map_map, Function.comp_def] using this
  have h2 : ((M.map Prod.fst).map ek).Nodup := by rw [← e1]; exact hs.2.2
  rw [List.Nodup, List.pairwise_map] at h2
  exact h2.imp fun h e2 => h (by rw [e2])

theorem KMap.keys {w : World} {b : Nat} {L : List (K × V)} (h : KMap ek ev w b L) : (L.map Prod.fst).Nodup := by
  obtain ⟨es, clock, M, h1, h2, h3, h4⟩ := h
  exact nodup_perm_keys h4 (keys_of h2 h3)

theorem entry_shape {es : Array MapEntry} {M : List (K × V)} (hM : es.toList.map (fun e => (e.key, e.val)) = M.map (fun p => (ek p.1, ev p.2))) {j : Nat} {x : MapEntry} (hx : es.toList[j]? = some x) : ∃ p, M[j]? = some p ∧ x.key = ek p.1 ∧ x.val = ev p.2 := by
  have h1 : (M.map (fun p => (ek p.1, ev p.2)))[j]? = some (x.key, x.val) := by rw [← hM, List.getElem?_map, hx]; rfl
  rw [List.getElem?_map] at h1
  cases hp : M[j]? with
  | none => rw [hp] at h1; cases h1
  | some p =>
    rw [hp] at h1
    have := Option.some.inj h1
    exact ⟨p, rfl, (congrArg Prod.fst this).symm, (congrArg Prod.snd this).symm⟩

theorem all_shape {es : Array MapEntry} {M : List (K × V)} (hM : es.toList.map (fun e => (e.key, e.val)) = M.map (fun p => (ek p.1, ev p.2))) : ∀ x ∈ es.toList, ∃ y, x.key = ek y := fun x hx => by
  obtain ⟨j, hj, rfl⟩ := List.getElem_of_mem hx
  obtain ⟨p, _, h2, _⟩ := entry_shape hM (List.getElem?_eq_getElem hj)
  exact ⟨p.1, h2⟩

/-- 'm[k]' and 'v, ok := m[k]'. -/
theorem KMap.look [DecidableEq K] (S : KShape P k ek) {t : TypeId} {w : World} {b : Nat} {L : List (K × V)} (h : KMap ek ev w b L) (ht : P.underlying t = some (.map k e)) {z : Value} (hz : (zeroValue e).run P w = .ok z w) (x : K) (c : Bool) :
    (Instr.lookup t (.map (some b)) (ek x) c).run P w = .ok (if c then .tuple #[((lookL L x).map ev).getD z, .bool (lookL L x).isSome] else ((lookL L x).map ev).getD z) w := by
  have hk := h.keys
  obtain ⟨es, clock, M, h1, h2, h3, h4⟩ := h
  have hkM := keys_of h2 h3
  rw [← lookL_perm h4 hkM]
  rcases S.find w x es.toList (all_shape h3) with ⟨f1, f2⟩ | ⟨j, e0, f1, f2, f3⟩
  · have hn : lookL M x = none := lookL_none fun p hp e1 => by
      obtain ⟨j, hj, rfl⟩ := List.getElem_of_mem hp
      have hl : j < es.toList.length := by have := congrArg List.length h3; simp only [List.length_map] at this; omega
      obtain ⟨p', q1, q2, _⟩ := entry_shape h3 (List.getElem?_eq_getElem hl)
      rw [List.getElem?_eq_getElem hj] at q1
      have := Option.some.inj q1
      subst this
      exact f2 _ (List.getElem_mem hl) (by rw [q2, e1])
    rw [hn]
    simp [Instr.lookup, run_underlying ht, MapKept.run_getObj_map h1, S.check w, f1, hz, Result.andThen]
  · obtain ⟨p, q1, q2, q3⟩ := entry_shape h3 f2
    have hpx : p.1 = x := S.inj _ _ (q2.symm.trans f3)
    have hm : lookL M x = some p.2 := (mem_lookL hkM).2 (by rw [← hpx]; exact List.mem_of_getElem? q1)
    rw [hm]
    simp [Instr.lookup, run_underlying ht, MapKept.run_getObj_map h1, S.check w, f1, Result.andThen, q3]

theorem setBlock_but {w : World} {b : Nat} {o o' : Obj} (hb : w.heap[b]? = some o) : But (fun i => i = b) w (setBlock w b o') :=
  ⟨rfl, rfl, rfl, by simp [setBlock], fun i _ hi => (heap_set hb).2 i hi⟩

/-- 'm[k] = v'. -/
theorem KMap.store [DecidableEq K] (S : KShape P k ek) {t : TypeId} {w : World} {b : Nat} {L : List (K × V)} (h : KMap ek ev w b L) (ht : P.underlying t = some (.map k e)) (x : K) (v : V) :
    ∃ w', (Instr.mapUpdate t (.map (some b)) (ek x) (ev v)).run P w = .ok () w' ∧ KMap ek ev w' b ((x, v) :: offL L x) ∧ But (fun i => i = b) w w' ∧ w'.heap.size = w.heap.size := by
  obtain ⟨es, clock, M, h1, h2, h3, h4⟩ := h
  have hkM := keys_of h2 h3
  have hlen : M.length = es.toList.length := by have := congrArg List.length h3; simp only [List.length_map] at this; omega
  rcases S.find w x es.toList (all_shape h3) with ⟨f1, f2⟩ | ⟨j, e0, f1, f2, f3⟩
  · refine ⟨setBlock w b (.map (es.push ⟨ek x, ev v, clock⟩) (clock + 1)), ?_, ⟨_, _, M ++ [(x, v)], (heap_set h1).1, stamped_push h2 f2, by simp [h3], ?_⟩, setBlock_but h1, by simp [setBlock]⟩
    · simp [Instr.mapUpdate, run_underlying ht, MapKept.run_getObj_map h1, S.check w, f1, MapKept.run_setObj_map _ h1, Result.andThen, setBlock]
    · have hn : ∀ p ∈ M, p.1 ≠ x := fun p hp e1 => by
        obtain ⟨j, hj, rfl⟩ := List.getElem_of_mem hp
        obtain ⟨p', q1, q2, _⟩ := entry_shape h3 (List.getElem?_eq_getElem (show j < es.toList.length by omega))
        rw [List.getElem?_eq_getElem hj] at q1
        have := Option.some.inj q1
        subst this
        exact f2 _ (List.getElem_mem _) (by rw [q2, e1])
      refine (List.perm_append_singleton _ _).trans (List.Perm.cons _ ?_)
      have e2 : (offL M x).Perm (offL L x) := h4.filter _
      rw [offL_none hn] at e2
      exact e2
  · obtain ⟨p, q1, q2, q3⟩ := entry_shape h3 f2
    have hpx : p.1 = x := S.inj _ _ (q2.symm.trans f3)
    have hj : es[j]? = some e0 := by simpa using f2
    have hjl : j < es.toList.length := (List.getElem?_eq_some_iff.1 f2).1
    have hkeyf : ∀ e', es[j]? = some e' → ({ e' with key := ek x, val := ev v } : MapEntry).key = e'.key := fun e' he' => by rw [hj] at he'; cases he'; exact f3.symm
    have hlist : (es.modify j (fun e' => { e' with key := ek x, val := ev v })).toList = es.toList.set j { e0 with key := ek x, val := ev v } := by rw [Array.toList_modify, ChangeMaps.modify_eq_set _ _ _ _ f2]
    have hjM : j < M.length := by omega
    refine ⟨setBlock w b (.map (es.modify j (fun e' => { e' with key := ek x, val := ev v })) clock), ?_, ⟨_, _, M.set j (x, v), (heap_set h1).1, stamped_modify h2 _ _ (fun _ _ => rfl) (fun e' _ he' => hkeyf e' he'), ?_, ?_⟩, setBlock_but h1, by simp [setBlock]⟩
    · simp [Instr.mapUpdate, run_underlying ht, MapKept.run_getObj_map h1, S.check w, f1, hj, f3, S.stays w, MapKept.run_setObj_map _ h1, Result.andThen, setBlock]
    · rw [hlist, List.map_set, List.map_set, h3]
    · have e1 : M[j] = p := by rw [List.getElem?_eq_getElem hjM] at q1; exact Option.some.inj q1
      have e2 := offL_at hkM hjM
      rw [e1, hpx] at e2
      have e3 : (offL M x).Perm (offL L x) := h4.filter _
      rw [e2] at e3
      rw [List.set_eq_take_append_cons_drop, if_pos hjM]
      exact List.perm_middle.trans (List.Perm.cons _ e3)

/-- 'delete(m, k)'. -/
theorem KMap.drop [DecidableEq K] (S : KShape P k ek) {t : TypeId} {w : World} {b : Nat} {L : List (K × V)} (h : KMap ek ev w b L) (ht : P.underlying t = some (.map k e)) (x : K) (ty : TypeId) :
    ∃ w', (Builtin.delete_ #[t, k] ty #[.map (some b), ek x]).run P w = .ok (.tuple #[]) w' ∧ KMap ek ev w' b (offL L x) ∧ But (fun i => i = b) w w' ∧ w'.heap.size = w.heap.size := by
  obtain ⟨es, clock, M, h1, h2, h3, h4⟩ := h
  have hkM := keys_of h2 h3
  have hlen : M.length = es.toList.length := by have := congrArg List.length h3; simp only [List.length_map] at this; omega
  have e3 : (offL M x).Perm (offL L x) := h4.filter _
  rcases S.find w x es.toList (all_shape h3) with ⟨f1, f2⟩ | ⟨j, e0, f1, f2, f3⟩
  · refine ⟨setBlock w b (.map es clock), ?_, ⟨es, clock, M, (heap_set h1).1, h2, h3, ?_⟩, setBlock_but h1, by simp [setBlock]⟩
    · simp [Builtin.delete_, run_underlying ht, MapKept.run_getObj_map h1, S.check w, f1, MapKept.run_setObj_map _ h1, Result.andThen, setBlock]
    · have hn : ∀ p ∈ M, p.1 ≠ x := fun p hp e1 => by
        obtain ⟨j, hj, rfl⟩ := List.getElem_of_mem hp
        obtain ⟨p', q1, q2, _⟩ := entry_shape h3 (List.getElem?_eq_getElem (show j < es.toList.length by omega))
        rw [List.getElem?_eq_getElem hj] at q1
        have := Option.some.inj q1
        subst this
        exact f2 _ (List.getElem_mem _) (by rw [q2, e1])
      rwa [offL_none hn] at e3
  · obtain ⟨p, q1, q2, q3⟩ := entry_shape h3 f2
    have hpx : p.1 = x := S.inj _ _ (q2.symm.trans f3)
    have hjl : j < es.toList.length := (List.getElem?_eq_some_iff.1 f2).1
    have hjs : j < es.size := by simpa using hjl
    have hjM : j < M.length := by omega
    have hsub : (es.eraseIdxIfInBounds j).toList = es.toList.eraseIdx j := by
      unfold Array.eraseIdxIfInBounds
      rw [dif_pos hjs]
      simp
    refine ⟨setBlock w b (.map (es.eraseIdxIfInBounds j) clock), ?_, ⟨_, clock, M.eraseIdx j, (heap_set h1).1, stamped_erase h2 j, ?_, ?_⟩, setBlock_but h1, by simp [setBlock]⟩
    · simp [Builtin.delete_, run_underlying ht, MapKept.run_getObj_map h1, S.check w, f1, MapKept.run_setObj_map _ h1, Result.andThen, setBlock]
    · rw [hsub, ChangeMaps.map_eraseIdx, ChangeMaps.map_eraseIdx, h3]
    · have e1 : M[j] = p := by rw [List.getElem?_eq_getElem hjM] at q1; exact Option.some.inj q1
      have e2 := offL_at hkM hjM
      rw [e1, hpx] at e2
      rw [List.eraseIdx_eq_take_drop_succ, ← e2]
      exact e3

/-- 'len(m)'. -/
theorem KMap.len {t : TypeId} {w : World} {b : Nat} {L : List (K × V)} (h : KMap ek ev w b L) (ht : P.underlying t = some (.map k e)) (ty : TypeId) : (Builtin.len_ #[t] ty #[.map (some b)]).run P w = .ok (.int .i64 (L.length : Int)) w := by
  obtain ⟨es, clock, M, h1, h2, h3, h4⟩ := h
  have e1 : es.size = L.length := by
    have := congrArg List.length h3
    simp only [List.length_map, Array.length_toList] at this
    rw [this, h4.length_eq]
  rw [← e1]
  simp [Builtin.len_, run_underlying ht, MapKept.run_getObj_map h1, goInt, Result.andThen]

/-- 'make(map[K]V)'. -/
theorem KMap.made (w : World) : KMap ek ev (w.alloc (.map #[] 0)) w.heap.size [] :=
  ⟨#[], 0, [], (MapKept.heap_alloc w _).1, stamped_empty 0, rfl, List.Perm.nil⟩

/-- 'range m'. -/
theorem KMap.range {t : TypeId} {w : World} {b : Nat} {L : List (K × V)} (h : KMap ek ev w b L) (ht : P.underlying t = some (.map k e)) :
    ∃ w', (Instr.range t (.map (some b))).run P w = .ok (.pointer (some ⟨w.heap.size, 0, none⟩)) w' ∧ KRange ek ev w' b w.heap.size L L ∧ Below w.heap.size w w' ∧ w'.heap.size = w.heap.size + 1 := by
  have hlt := h.lt
  obtain ⟨es, clock, M, h1, h2, h3, h4⟩ := h
  refine ⟨_, run_range_map w t k e b es clock ht h1, ⟨es, clock, clock, #[], clock, M, M, ((MapKept.heap_alloc w _).2 b hlt).trans h1, h2, h3, h4, (MapKept.heap_alloc w _).1, h2.1, Nat.le_refl _, Nat.le_refl _, ?_, h4⟩, (Below.refl _ _).alloc (Nat.le_refl _) _, by simp⟩
  rw [← h3]
  unfold leftOf
  rw [show (es.filter fun e => !(#[] : Array Nat).contains e.born) = es from Array.filter_eq_self.2 fun x _ => by simp]

/-- The step. -/
theorem KRange.next {w : World} {b r : Nat} {L todo : List (K × V)} (h : KRange ek ev w b r L todo) (ty : TypeId) :
    (todo = [] ∧ (Instr.next (.pointer (some ⟨r, 0, none⟩)) false ty).run P w = .ok (.tuple #[.bool false]) w) ∨
    ∃ p todo' w', todo.Perm (p :: todo') ∧ (Instr.next (.pointer (some ⟨r, 0, none⟩)) false ty).run P w = .ok (.tuple #[.bool true, ek p.1, ev p.2]) w' ∧
      KRange ek ev w' b r L todo' ∧ But (fun i => i = r) w w' ∧ w'.heap.size = w.heap.size ∧ (Instr.entry (.pointer (some ⟨r, 0, none⟩))).run P w' = .ok (.tuple #[ek p.1, ev p.2]) w' := by
  obtain ⟨es, clock, since, seen, c0, M, T, h1, h2, h3, h4, h5, h6, h7, h8, h9, h10⟩ := h
  have hne : r ≠ b := fun e1 => by rw [e1, h1] at h5; cases h5
  rcases run_next_at (P := P) w ty r b since c0 seen es clock h5 h1 h6 h7 with ⟨h0, hrun⟩ | ⟨x, hx, w1, hal, hrun⟩
  · refine Or.inl ⟨?_, hrun⟩
    have : T.length = 0 := by
      have := congrArg List.length h9
      simp only [List.length_map, Array.length_toList] at this
      omega
    rw [List.length_eq_zero_iff.1 this] at h10
    exact h10.nil_eq.symm
  · obtain ⟨hem, hes⟩ := mem_left hx
    obtain ⟨j, hj, hjx⟩ := List.getElem_of_mem hx
    have hTl : T.length = (leftOf es seen).toList.length := by have := congrArg List.length h9; simp only [List.length_map] at this; omega
    obtain ⟨p, q1, q2, q3⟩ := entry_shape h9 (show (leftOf es seen).toList[j]? = some x by rw [List.getElem?_eq_getElem hj, hjx])
    have hr1 : w1.heap[r]? = some (.mapIter (some b) since seen c0) := by rcases hal with rfl | rfl <;> exact h5
    have hb1 : w1.heap[b]? = some (.map es clock) := by rcases hal with rfl | rfl <;> exact h1
    have hset := heap_set (o' := .mapIter (some b) since (seen.push x.born) clock) hr1
    have hb' : (setBlock w1 r (.mapIter (some b) since (seen.push x.born) clock)).heap[b]? = some (.map es clock) := (hset.2 b (fun e1 => hne e1.symm)).trans hb1
    have hborn : ((leftOf es seen).toList.map (·.born)).Nodup := by
      have hsl : (leftOf es seen).toList.Sublist es.toList := by
        unfold leftOf
        rw [Array.toList_filter]
        exact List.filter_sublist
      exact (hsl.map _).nodup h2.2.1
    have hleft : (leftOf es (seen.push x.born)).toList = (leftOf es seen).toList.take j ++ (leftOf es seen).toList.drop (j + 1) := by
      have e1 : (leftOf es (seen.push x.born)).toList = (leftOf es seen).toList.filter (fun y => !(y.born == x.born)) := by
        unfold leftOf
        rw [Array.toList_filter, Array.toList_filter, List.filter_filter]
        refine List.filter_congr fun y _ => ?_
        rw [contains_push]
        cases seen.contains y.born <;> cases (y.born == x.born) <;> rfl
      have e2 := offL_at (L := (leftOf es seen).toList.map fun y => (y.born, y)) (by rw [List.map_map]; exact hborn) (j := j) (by simpa using hj)
      unfold offL at e2
      rw [List.filter_map, ← List.map_take, ← List.map_drop, ← List.map_append] at e2
      have e3 := congrArg (List.map Prod.snd) e2
      simp only [List.map_map, Function.comp_def, List.map_id'] at e3
      rw [e1, ← e3]
      refine List.filter_congr fun y _ => ?_
      simp only [List.getElem_map, hjx]
      by_cases hq : y.born = x.born <;> simp [hq]
    have hjT : j < T.length := by omega
    have hTj : T[j] = p := by rw [List.getElem?_eq_getElem hjT] at q1; exact Option.some.inj q1
    have hTs : T.Perm (p :: (T.take j ++ T.drop (j + 1))) := by
      have : T = T.take j ++ p :: T.drop (j + 1) := by rw [← hTj]; simp
      exact (List.Perm.of_eq this).trans List.perm_middle
    refine Or.inr ⟨p, T.take j ++ T.drop (j + 1), _, h10.symm.trans hTs, by rw [← q2, ← q3]; exact hrun,
      ⟨es, clock, since, seen.push x.born, clock, M, _, hb', h2, h3, h4, hset.1, h6, h8, h8, ?_, List.Perm.refl _⟩, ?_, ?_, by
        rw [← q2, ← q3]
        exact run_entry_at _ r b since seen es clock x hset.1 hb' hem ((stamped_iff es clock).1 h2).2.1⟩
    · rw [hleft, List.map_append, List.map_append, List.map_take, List.map_drop, List.map_take, List.map_drop, h9]
    · rcases hal with rfl | rfl <;> exact ⟨rfl, rfl, rfl, by simp [setBlock], fun i _ hi => hset.2 i hi⟩
    · rcases hal with rfl | rfl <;> simp [setBlock]

/-! ### at the operation -/

/-- 'v, ok := m[k]'. -/
theorem wpList_k_look_ok [DecidableEq K] (S : KShape P k ek) {w : World} {ops : Array Oper} {rest : List Oper} {o : Oper} {a : Act} {Q : Exit → Act → World → Prop} (hg : o.guard = none) (m x : Operand) (t : TypeId)
    (hop : o.op = Op.lookup t m x true) (ht : P.underlying t = some (.map k e)) (zv : V) (hz : (zeroValue e).run P w = .ok (ev zv) w) (b : Nat) (L : List (K × V)) (hm : a.eval m = .map (some b)) (h : KMap ek ev w b L) (key : K) (hx : a.eval x = ek key)
    (hK : ∀ v, v = (lookL L key).getD zv → wpList P ops Q rest (a.put o.dst (.tuple #[ev v, .bool (lookL L key).isSome])) w) : wpList P ops Q (o :: rest) a w := by
  refine wpList_plain hg fun K' hK' => ?_
  have hrun := h.look S ht hz key true
  rw [if_pos rfl, show ((lookL L key).map ev).getD (ev zv) = ev ((lookL L key).getD zv) by cases lookL L key <;> rfl] at hrun
  unfold Oper.wp
  simp [execOp, hop, hm, hx, hrun, Result.andThen]
  exact hK' _ _ (hK _ rfl)

/-- 'm[k]'. -/
theorem wpList_k_look [DecidableEq K] (S : KShape P k ek) {w : World} {ops : Array Oper} {rest : List Oper} {o : Oper} {a : Act} {Q : Exit → Act → World → Prop} (hg : o.guard = none) (m x : Operand) (t : TypeId)
    (hop : o.op = Op.lookup t m x false) (ht : P.underlying t = some (.map k e)) (zv : V) (hz : (zeroValue e).run P w = .ok (ev zv) w) (b : Nat) (L : List (K × V)) (hm : a.eval m = .map (some b)) (h : KMap ek ev w b L) (key : K) (hx : a.eval x = ek key)
    (hK : ∀ v, v = (lookL L key).getD zv → wpList P ops Q rest (a.put o.dst (ev v)) w) : wpList P ops Q (o :: rest) a w := by
  refine wpList_plain hg fun K' hK' => ?_
  have hrun := h.look S ht hz key false
  rw [if_neg (by decide), show ((lookL L key).map ev).getD (ev zv) = ev ((lookL L key).getD zv) by cases lookL L key <;> rfl] at hrun
  unfold Oper.wp
  simp [execOp, hop, hm, hx, hrun, Result.andThen]
  exact hK' _ _ (hK _ rfl)

/-- 'm[k] = v'. -/
theorem wpList_k_store [DecidableEq K] (S : KShape P k ek) {w : World} {ops : Array Oper} {rest : List Oper} {o : Oper} {a : Act} {Q : Exit → Act → World → Prop} (hg : o.guard = none) (m x v : Operand) (t : TypeId)
    (hop : o.op = Op.mapUpdate t m x v) (ht : P.underlying t = some (.map k e)) (b : Nat) (L : List (K × V)) (hm : a.eval m = .map (some b)) (h : KMap ek ev w b L) (key : K) (hx : a.eval x = ek key) (val : V) (hv : a.eval v = ev val)
    (hK : ∀ w', Hid (KMap ek ev w' b ((key, val) :: offL L key)) → Hid (But (fun i => i = b) w w') → Hid (w'.heap.size = w.heap.size) → wpList P ops Q rest (a.put o.dst undef) w') : wpList P ops Q (o :: rest) a w := by
  refine wpList_plain hg fun K' hK' => ?_
  obtain ⟨w', hrun, r1, r2, r3⟩ := h.store S ht key val
  unfold Oper.wp
  simp [execOp, hop, hm, hx, hv, hrun, Result.andThen]
  exact hK' _ _ (hK w' r1 r2 r3)

/-- 'delete(m, k)'. -/
theorem wpList_k_drop [DecidableEq K] (S : KShape P k ek) {w : World} {ops : Array Oper} {rest : List Oper} {o : Oper} {a : Act} {Q : Exit → Act → World → Prop} (hg : o.guard = none) (m x : Operand) (t : TypeId)
    (hop : o.op = Op.call { callee := Callee.builtin Builtin.delete, args := #[m, x], argTypes := #[t, k] }) (ht : P.underlying t = some (.map k e)) (b : Nat) (L : List (K × V)) (hm : a.eval m = .map (some b)) (h : KMap ek ev w b L) (key : K) (hx : a.eval x = ek key)
    (hK : ∀ w', Hid (KMap ek ev w' b (offL L key)) → Hid (But (fun i => i = b) w w') → Hid (w'.heap.size = w.heap.size) → wpList P ops Q rest (a.put o.dst (.tuple #[])) w') : wpList P ops Q (o :: rest) a w := by
  refine wpList_plain hg fun K' hK' => ?_
  obtain ⟨w', hrun, r1, r2, r3⟩ := h.drop S ht key o.type
  unfold Oper.wp
  simp [execOp, hop, resolve, invoke, builtin, hm, hx, hrun, Result.andThen]
  exact hK' _ _ (hK w' r1 r2 r3)

/-- 'len(m)'. -/
theorem wpList_k_len {w : World} {ops : Array Oper} {rest : List Oper} {o : Oper} {a : Act} {Q : Exit → Act → World → Prop} (hg : o.guard = none) (m : Operand) (t : TypeId)
    (hop : o.op = Op.call { callee := Callee.builtin Builtin.len, args := #[m], argTypes := #[t] }) (ht : P.underlying t = some (.map k e)) (b : Nat) (L : List (K × V)) (hm : a.eval m = .map (some b)) (h : KMap ek ev w b L)
    (hK : wpList P ops Q rest (a.put o.dst (.int .i64 (L.length : Int))) w) : wpList P ops Q (o :: rest) a w := by
  refine wpList_plain hg fun K' hK' => ?_
  have hrun := h.len (P := P) ht o.type
  unfold Oper.wp
  simp [execOp, hop, resolve, invoke, builtin, hm, hrun, Result.andThen]
  exact hK' _ _ hK

/-- 'range m'. -/
theorem wpList_k_range {w : World} {ops : Array Oper} {rest : List Oper} {o : Oper} {a : Act} {Q : Exit → Act → World → Prop} (hg : o.guard = none) (m : Operand) (t : TypeId)
    (hop : o.op = Op.range t m) (ht : P.underlying t = some (.map k e)) (b : Nat) (L : List (K × V)) (hm : a.eval m = .map (some b)) (h : KMap ek ev w b L)
    (hK : ∀ w', Hid (KRange ek ev w' b w.heap.size L L) → Hid (Below w.heap.size w w') → Hid (w'.heap.size = w.heap.size + 1) → wpList P ops Q rest (a.put o.dst (.pointer (some ⟨w.heap.size, 0, none⟩))) w') : wpList P ops Q (o :: rest) a w := by
  refine wpList_plain hg fun K' hK' => ?_
  obtain ⟨w', hrun, r1, r2, r3⟩ := h.range (P := P) ht
  unfold Oper.wp
  simp [execOp, hop, hm, hrun, Result.andThen]
  exact hK' _ _ (hK w' r1 r2 r3)

/-- The step. -/
theorem wpList_k_next {w : World} {ops : Array Oper} {rest : List Oper} {o : Oper} {a : Act} {Q : Exit → Act → World → Prop} (hg : o.guard = none) (it : Operand) (hop : o.op = Op.next it false)
    (b r : Nat) (L todo : List (K × V)) (hit : a.eval it = .pointer (some ⟨r, 0, none⟩)) (h : KRange ek ev w b r L todo)
    (hDone : todo = [] → wpList P ops Q rest (a.put o.dst (.tuple #[.bool false])) w)
    (hMore : ∀ (p : K × V) (todo' : List (K × V)) (w' : World), Hid (todo.Perm (p :: todo')) → Hid (KRange ek ev w' b r L todo') → Hid (But (fun i => i = r) w w') → Hid (w'.heap.size = w.heap.size) →
      (Instr.entry (.pointer (some ⟨r, 0, none⟩))).run P w' = .ok (.tuple #[ek p.1, ev p.2]) w' → wpList P ops Q rest (a.put o.dst (.tuple #[.bool true, ek p.1, ev p.2])) w') :
    wpList P ops Q (o :: rest) a w := by
  refine wpList_plain hg fun K' hK' => ?_
  unfold Oper.wp
  rcases h.next (P := P) o.type with ⟨h0, hrun⟩ | ⟨p, todo', w', hp, hrun, hr, hb, hs, hen⟩
  · simp [execOp, hop, hit, hrun, Result.andThen]
    exact hK' _ _ (hDone h0)
  · simp [execOp, hop, hit, hrun, Result.andThen]
    exact hK' _ _ (hMore p todo' w' hp hr hb hs hen)

end
end Go.Proofs.Ythobfeohgeeofaa

/-
  The shapes of a graph's maps: stamps and places as keys.
-/
namespace Go.Proofs.Ythobfeohgeeofaa
open Go.RowKit StampMath GraphMath

def stV (x : St) : Value := .agg (stA x)
def inoV (x : Ino) : Value := .agg (inoA x)
def plV (p : St × ByteArray) : Value := .agg #[.int .i64 p.1.1, .int .i64 p.1.2, .string p.2]

theorem stV_inj (x y : St) (h : stV x = stV y) : x = y := by
  unfold stV stA at h
  simp at h
  exact Prod.ext h.1 h.2

theorem plV_inj (x y : St × ByteArray) (h : plV x = plV y) : x = y := by
  unfold plV at h
  simp at h
  exact Prod.ext (Prod.ext h.1 h.2.1) h.2.2

theorem run_eqPl (a b : Int) (s : ByteArray) (c d : Int) (u : ByteArray) (W : World) : (Op.equalIn 10000 82 (.agg #[.int .i64 a, .int .i64 b, .string s]) (.agg #[.int .i64 c, .int .i64 d, .string u])).run Try.prog W = .ok (decide (((a, b), s) = ((c, d), u))) W := by
  go_simp
  by_cases h1 : a = c
  · by_cases h2 : b = d
    · by_cases h3 : s = u
      · simp [h1, h2, h3]
      · simp [h1, h2, h3]
        intro h4
        exact h3 (bytes_same h4)
    · simp [h1, h2]
  · simp [h1]

theorem checkKey_st (w : World) (em : Bool) (n : Nat) (x : St) : (Instr.checkKey em (n + 2) 24 (.agg (stA x))).run Try.prog w = .ok () w := by
  refine checkKey_struct (n := n + 1) Try.underlying24 w em (stA x) fun f hf => ?_
  simp at hf
  rcases hf with rfl | rfl
  · exact ⟨by decide, .int .i64 x.1, by unfold stA; go_simp, checkKey_int Try.underlying2 w em n x.1⟩
  · exact ⟨by decide, .int .i64 x.2, by unfold stA; go_simp, checkKey_int Try.underlying3 w em n x.2⟩

theorem checkKey_pl (w : World) (em : Bool) (n : Nat) (p : St × ByteArray) : (Instr.checkKey em (n + 3) 82 (plV p)).run Try.prog w = .ok () w := by
  refine checkKey_struct (n := n + 2) Try.underlying82 w em _ fun f hf => ?_
  simp at hf
  rcases hf with rfl | rfl
  · exact ⟨by decide, .agg (stA p.1), by unfold stA; go_simp, checkKey_st w em n p.1⟩
  · exact ⟨by decide, .string p.2, by go_simp, checkKey_string Try.underlying9 w em (n + 1) p.2⟩

theorem stShape : KShape Try.prog 24 stV :=
  KShape.of_equal (by kernel_rfl) stV_inj (fun w x y => run_eqSt x.1 x.2 y.1 y.2 w) (fun w em x => checkKey_st w em 9998 x) (fun x => by
    unfold stV stA
    show Instr.sameBits (9999 + 1) _ _ = true
    simp [Instr.sameBits])

theorem plShape : KShape Try.prog 82 plV :=
  KShape.of_equal (by kernel_rfl) plV_inj (fun w x y => run_eqPl x.1.1 x.1.2 x.2 y.1.1 y.1.2 y.2 w) (fun w em x => checkKey_pl w em 9997 x) (fun x => by
    unfold plV
    show Instr.sameBits (9999 + 1) _ _ = true
    simp [Instr.sameBits, MapKept.bytes_beq])

end Go.Proofs.Ythobfeohgeeofaa

/-
  A graph as two maps: what stands in them, and what each call makes of them. It needs no program.
-/
namespace Go.Proofs.Ythobfeohgeeofaa
open StampMath GraphMath

def pairsI (g : Gr) : List (St × Ino) := (inodesG g).map fun x => (x.id, x)
def pairsE (g : Gr) : List ((St × ByteArray) × St) := g.E.map fun e => ((e.dir, e.name), e.ino)

section
variable {K V : Type} [DecidableEq K]

omit [DecidableEq K] in
theorem nodup_of_keys {L : List (K × V)} (h : (L.map Prod.fst).Nodup) : L.Nodup := by
  unfold List.Nodup at h ⊢
  rw [List.pairwise_map] at h
  exact h.imp fun q e => q (by rw [e])

omit [DecidableEq K] in
theorem perm_by {L M : List (K × V)} (hL : (L.map Prod.fst).Nodup) (hM : (M.map Prod.fst).Nodup) (h : ∀ k v, (k, v) ∈ L ↔ (k, v) ∈ M) : L.Perm M :=
  (List.perm_ext_iff_of_nodup (nodup_of_keys hL) (nodup_of_keys hM)).2 fun p => h p.1 p.2

theorem mem_offL {L : List (K × V)} {x k : K} {v : V} : (k, v) ∈ offL L x ↔ (k, v) ∈ L ∧ k ≠ x := by
  unfold offL
  simp

theorem keys_offL {L : List (K × V)} (h : (L.map Prod.fst).Nodup) (x : K) : ((offL L x).map Prod.fst).Nodup :=
  List.Pairwise.sublist (List.Sublist.map _ List.filter_sublist) h

theorem keys_put {L : List (K × V)} (h : (L.map Prod.fst).Nodup) (x : K) (v : V) : (((x, v) :: offL L x).map Prod.fst).Nodup := by
  rw [List.map_cons, List.nodup_cons]
  refine ⟨fun hm => ?_, keys_offL h x⟩
  obtain ⟨⟨k, u⟩, hp, rfl⟩ := List.mem_map.1 hm
  exact (mem_offL.1 hp).2 rfl

/-- A map with one thing more is this one. -/
theorem put_perm {L M : List (K × V)} (hL : (L.map Prod.fst).Nodup) (hM : (M.map Prod.fst).Nodup) {x : K} {v : V} (h : ∀ k, lookL M k = if k = x then some v else lookL L k) : ((x, v) :: offL L x).Perm M := by
  refine perm_by (keys_put hL x v) hM fun k u => ?_
  rw [List.mem_cons, mem_offL, ← mem_lookL hM, h k, ← mem_lookL hL]
  by_cases hk : k = x
  · subst hk
    simp [eq_comm]
  · simp [hk]

/-- A map with one thing less is this one. -/
theorem off_perm {L M : List (K × V)} (hL : (L.map Prod.fst).Nodup) (hM : (M.map Prod.fst).Nodup) {x : K} (h : ∀ k, lookL M k = if k = x then none else lookL L k) : (offL L x).Perm M := by
  refine perm_by (keys_offL hL x) hM fun k u => ?_
  rw [mem_offL, ← mem_lookL hM, h k, ← mem_lookL hL]
  by_cases hk : k = x
  · simp [hk]
  · simp [hk]
end

theorem look_pairsI {g : Gr} (h : g.ok) (id : St) : lookL (pairsI g) id = getG g id := by
  unfold lookL pairsI
  rw [h.inodes, List.map_map, List.find?_map, Option.map_map]
  unfold getG
  cases hq : g.I.find? (fun x => decide (x.id = id)) with
  | none =>
    rw [show (g.I.find? ((fun p => decide (p.1 = id)) ∘ (fun x : Ino => (x.id, x)) ∘ fun x => { x with links := (linksE g.E x.id : Int) })) = g.I.find? (fun x => decide (x.id = id)) from rfl, hq]
    rfl
  | some x =>
    rw [show (g.I.find? ((fun p => decide (p.1 = id)) ∘ (fun x : Ino => (x.id, x)) ∘ fun x => { x with links := (linksE g.E x.id : Int) })) = g.I.find? (fun x => decide (x.id = id)) from rfl, hq]
    have := List.find?_some hq
    simp at this
    simp [this]

theorem look_pairsE (g : Gr) (d : St) (nm : ByteArray) : lookL (pairsE g) (d, nm) = lookE g.E d nm := by
  unfold lookL pairsE lookE
  rw [List.find?_map, Option.map_map]
  congr 1
  refine congrArg (fun f => List.find? f g.E) (funext fun e => ?_)
  by_cases h1 : e.dir = d
  · by_cases h2 : e.name = nm
    · simp [h1, h2]
    · simp [h1, h2]
  · simp [h1]

theorem keys_pairsI {g : Gr} (h : g.ok) : ((pairsI g).map Prod.fst).Nodup := by
  unfold pairsI
  rw [List.map_map, h.inodes, List.map_map]
  unfold List.Nodup
  rw [List.pairwise_map]
  exact h.sortI.imp fun {x y} q (e : x.id = y.id) => by
    rw [e, lessS_irrefl] at q
    cases q

theorem keys_pairsE {g : Gr} (h : g.ok) : ((pairsE g).map Prod.fst).Nodup := by
  unfold pairsE
  rw [List.map_map]
  unfold List.Nodup
  rw [List.pairwise_map]
  refine h.sortE.imp fun {x y} q e => ?_
  have e1 : x.dir = y.dir := congrArg (fun p => p.1) e
  have e2 : x.name = y.name := congrArg (fun p => p.2) e
  rcases (aheadE_iff x y).1 q with q | ⟨_, q⟩
  · rw [e1, lessS_irrefl] at q
    cases q
  · rw [e2] at q
    exact bytes_irrefl _ q

theorem get_iff {g : Gr} (h : g.ok) {k : St} {v : Ino} : getG g k = some v ↔ ∃ x ∈ g.I, x.id = k ∧ v = { x with links := (linksE g.E k : Int) } := by
  constructor
  · exact get_some
  · rintro ⟨x, hx, rfl, rfl⟩
    exact h.get hx

theorem look_iff {g : Gr} (h : g.ok) {d : St} {nm : ByteArray} {id : St} : lookE g.E d nm = some id ↔ (⟨d, nm, id⟩ : Ent) ∈ g.E := by
  rw [← look_pairsE, mem_lookL (keys_pairsE h)]
  unfold pairsE
  rw [List.mem_map]
  constructor
  · rintro ⟨e, he, q⟩
    have : e = ⟨d, nm, id⟩ := by
      obtain ⟨a, b, c⟩ := e
      simp only [Prod.mk.injEq] at q
      obtain ⟨⟨rfl, rfl⟩, rfl⟩ := q
      rfl
    rw [← this]
    exact he
  · intro he
    exact ⟨_, he, rfl⟩

/-- No entry is of what isn't there. -/
theorem links_none {g : Gr} (h : g.ok) {id : St} (hn : getG g id = none) : linksE g.E id = 0 := by
  unfold linksE
  rw [List.filter_eq_nil_iff.2 (fun e he q => ?_)]
  · rfl
  · obtain ⟨x, hx, e1⟩ := h.inos e he
    exact get_none hn x hx (e1.trans (by simpa using q))

/-! ### Make -/
theorem make_get {g : Gr} (h : g.ok) {id : St} {kind : Int} (h1 : (makeG g id kind).2 = 0) (k : St) :
    getG (makeG g id kind).1 k = if k = id then some ⟨id, kind, 0, 0, ⟨#[]⟩⟩ else getG g k := by
  have hok := h.make id kind
  unfold makeG at h1 hok ⊢
  by_cases c1 : mayB id.1 id.2 = false ∨ kind < 1 ∨ 3 < kind
  · rw [if_pos c1] at h1; cases h1
  rw [if_neg c1] at h1 hok ⊢
  by_cases c2 : (getG g id).isSome = true
  · rw [if_pos c2] at h1; cases h1
  rw [if_neg c2] at h1 hok ⊢
  by_cases c3 : 40 ≤ g.I.length
  · rw [if_pos c3] at h1; cases h1
  rw [if_neg c3] at hok ⊢
  have hn : getG g id = none := by cases hq : getG g id with | none => rfl | some _ => rw [hq] at c2; simp at c2
  refine Option.ext fun v => ?_
  rw [get_iff hok]
  simp only [putIn_mem]
  by_cases hk : k = id
  · subst hk
    rw [if_pos rfl]
    constructor
    · rintro ⟨x, rfl | hx, e1, rfl⟩
      · simp [links_none h hn]
      · exact absurd e1 (get_none hn x hx)
    · intro e
      injection e with e
      exact ⟨_, Or.inl rfl, rfl, by rw [← e]; simp [links_none h hn]⟩
  · rw [if_neg hk, get_iff h]
    constructor
    · rintro ⟨x, rfl | hx, e1, rfl⟩
      · exact absurd e1.symm hk
      · exact ⟨x, hx, e1, rfl⟩
    · rintro ⟨x, hx, e1, rfl⟩
      exact ⟨x, Or.inr hx, e1, rfl⟩

theorem make_ents (g : Gr) (id : St) (kind : Int) : (makeG g id kind).1.E = g.E := by
  unfold makeG
  split <;> try rfl
  split <;> try rfl
  split <;> rfl

/-! ### Tie -/
theorem tie_get {g : Gr} {b : Bool} {e : Ent} (h1 : (tieG b g e).2 = 0) (k : St) :
    getG (tieG b g e).1 k = (getG g k).map fun x => if k = e.ino then { x with links := x.links + 1 } else x := by
  unfold tieG at h1 ⊢
  by_cases c : whyG b g e = 0
  · rw [if_pos c]
    unfold getG
    simp only [linksE_put, Option.map_map]
    congr 1
    funext x
    by_cases hk : k = e.ino
    · subst hk
      simp
    · have hk' : ¬ e.ino = k := fun q => hk q.symm
      simp [hk, hk']
  · rw [if_neg c] at h1
    exact absurd h1 c

theorem tie_look {g : Gr} (h : g.ok) {b : Bool} {e : Ent} (h1 : (tieG b g e).2 = 0) (p : St × ByteArray) :
    lookL (pairsE (tieG b g e).1) p = if p = (e.dir, e.name) then some e.ino else lookL (pairsE g) p := by
  have hok := h.tie b e
  unfold tieG at h1 hok ⊢
  by_cases c : whyG b g e = 0
  · rw [if_pos c] at hok ⊢
    have hn : lookE g.E e.dir e.name = none := by
      cases hq : lookE g.E e.dir e.name with
      | none => rfl
      | some y =>
        unfold whyG at c
        split at c
        · cases c
        · split at c
          · split at c
            · cases c
            · rw [hq] at c
              simp at c
          · cases c
    obtain ⟨d, nm⟩ := p
    rw [look_pairsE, look_pairsE]
    refine Option.ext fun id => ?_
    rw [look_iff hok, putIn_mem]
    by_cases hp : (d, nm) = (e.dir, e.name)
    · rw [if_pos hp]
      simp only [Prod.mk.injEq] at hp
      obtain ⟨rfl, rfl⟩ := hp
      constructor
      · rintro (q | q)
        · rw [← q]
        · exact absurd ⟨rfl, rfl⟩ (look_none hn _ q)
      · intro q
        injection q with q
        exact Or.inl (by rw [← q])
    · rw [if_neg hp, look_iff h]
      constructor
      · rintro (q | q)
        · exact absurd (by rw [← q]) hp
        · exact q
      · exact Or.inr
  · rw [if_neg c] at h1
    exact absurd h1 c

/-! ### Untie -/
theorem untie_look {g : Gr} (h : g.ok) {d : St} {nm : ByteArray} {id : St} (h1 : lookE g.E d nm = some id) (p : St × ByteArray) :
    lookL (pairsE (untieG g d nm).1) p = if p = (d, nm) then none else lookL (pairsE g) p := by
  have hok := h.untie d nm
  unfold untieG at hok ⊢
  rw [h1] at hok ⊢
  simp only at hok ⊢
  obtain ⟨d', nm'⟩ := p
  rw [look_pairsE, look_pairsE]
  refine Option.ext fun u => ?_
  rw [look_iff hok, List.mem_filter]
  by_cases hp : (d', nm') = (d, nm)
  · rw [if_pos hp]
    simp only [Prod.mk.injEq] at hp
    obtain ⟨rfl, rfl⟩ := hp
    simp
  · rw [if_neg hp, look_iff h]
    have : (!(decide (d' = d) && decide (nm' = nm))) = true := by
      by_cases a : d' = d
      · by_cases c : nm' = nm
        · exact absurd (by rw [a, c]) hp
        · simp [c]
      · simp [a]
    constructor
    · exact fun q => q.1
    · exact fun q => ⟨q, this⟩

theorem untie_links {g : Gr} (h : g.ok) {d : St} {nm : ByteArray} {id : St} (h1 : lookE g.E d nm = some id) (k : St) :
    (linksE (g.E.filter fun e => !(decide (e.dir = d) && decide (e.name = nm))) k : Int) = (linksE g.E k : Int) - if k = id then 1 else 0 := by
  have hm := (look_iff h).1 h1
  have hnd : g.E.Nodup := by
    have q := keys_pairsE h
    unfold pairsE at q
    rw [List.map_map] at q
    unfold List.Nodup at q ⊢
    rw [List.pairwise_map] at q
    exact q.imp fun r e => r (by rw [e])
  have hu : ∀ e ∈ g.E, (!(decide (e.dir = d) && decide (e.name = nm))) = !decide (e = ⟨d, nm, id⟩) := by
    intro e he
    by_cases q : e = ⟨d, nm, id⟩
    · subst q; simp
    · have : ¬ (e.dir = d ∧ e.name = nm) := by
        rintro ⟨rfl, rfl⟩
        refine q ?_
        have r := (look_iff h (d := e.dir) (nm := e.name) (id := e.ino)).2 he
        rw [h1] at r
        injection r with r
        rw [r]
      simp only [q, decide_false, Bool.not_false, Bool.not_eq_true', Bool.and_eq_false_iff, decide_eq_false_iff_not]
      by_cases a : e.dir = d
      · exact Or.inr fun c => this ⟨a, c⟩
      · exact Or.inl a
  rw [List.filter_congr hu]
  obtain ⟨A, B, hE⟩ := List.append_of_mem hm
  rw [hE] at hnd ⊢
  have hA : ∀ e ∈ A, (!decide (e = (⟨d, nm, id⟩ : Ent))) = true := fun e he => by
    have := (List.nodup_append.1 hnd).2.2 e he ⟨d, nm, id⟩ (List.mem_cons_self ..)
    simp [this]
  have hB : ∀ e ∈ B, (!decide (e = (⟨d, nm, id⟩ : Ent))) = true := fun e he => by
    have q := (List.nodup_cons.1 (List.nodup_append.1 hnd).2.1).1
    have : e ≠ ⟨d, nm, id⟩ := fun r => q (r ▸ he)
    simp [this]
  rw [List.filter_append, List.filter_eq_self.2 hA, List.filter_cons_of_neg (by simp), List.filter_eq_self.2 hB]
  unfold linksE
  simp only [List.filter_append, List.filter_cons, List.length_append]
  by_cases hk : k = id
  · subst hk
    simp
    omega
  · have hk' : ¬ id = k := fun q => hk q.symm
    simp [hk, hk']

theorem untie_get {g : Gr} (h : g.ok) {d : St} {nm : ByteArray} {id : St} (h1 : lookE g.E d nm = some id) (k : St) :
    getG (untieG g d nm).1 k = (getG g k).map fun x => if k = id then { x with links := x.links - 1 } else x := by
  unfold untieG
  rw [h1]
  unfold getG
  simp only [untie_links h h1, Option.map_map]
  congr 1
  funext x
  by_cases hk : k = id
  · simp [hk]
  · simp [hk]

/-! ### Drop -/
theorem drop_get {g : Gr} (h : g.ok) {id : St} (h1 : (dropG g id).2 = 0) (k : St) : getG (dropG g id).1 k = if k = id then none else getG g k := by
  have hok := h.drop id
  cases hq : getG g id with
  | none =>
    unfold dropG at h1
    rw [hq] at h1
    cases h1
  | some x =>
    unfold dropG at h1 hok ⊢
    rw [hq] at h1 hok ⊢
    simp only at h1 hok ⊢
    by_cases c1 : id = (0, 0)
    · rw [if_pos c1] at h1; cases h1
    rw [if_neg c1] at h1 hok ⊢
    by_cases c2 : 0 < x.links ∨ 0 < (listE g.E id).length
    · rw [if_pos c2] at h1; cases h1
    rw [if_neg c2] at hok ⊢
    refine Option.ext fun v => ?_
    rw [get_iff hok]
    simp only [List.mem_filter]
    by_cases hk : k = id
    · subst hk
      rw [if_pos rfl]
      constructor
      · rintro ⟨y, ⟨_, hy⟩, e1, _⟩
        simp [e1] at hy
      · intro q; cases q
    · rw [if_neg hk, get_iff h]
      constructor
      · rintro ⟨y, ⟨hy, _⟩, e1, rfl⟩
        exact ⟨y, hy, e1, rfl⟩
      · rintro ⟨y, hy, e1, rfl⟩
        refine ⟨y, ⟨hy, ?_⟩, e1, rfl⟩
        have : ¬ y.id = id := fun q => hk (e1.symm.trans q)
        simp [this]

theorem drop_ents (g : Gr) (id : St) : (dropG g id).1.E = g.E := by
  unfold dropG
  split
  · rfl
  · split
    · rfl
    · split <;> rfl

/-! ### Set -/
theorem set_get {g : Gr} {id : St} {mode : Int} {data : ByteArray} (k : St) :
    getG (setG g id mode data).1 k = (getG g k).map fun x => if k = id then { x with mode := mode, data := data } else x := by
  have hx : ∀ {x : Ino} {s : St}, g.I.find? (fun x => decide (x.id = s)) = some x → x.id = s := fun h => by
    have := List.find?_some h
    simpa using this
  cases hq : getG g id with
  | none =>
    unfold setG
    rw [hq]
    cases hk : getG g k with
    | none => rfl
    | some x =>
      have : ¬ k = id := fun q => by rw [q, hq] at hk; cases hk
      simp [this]
  | some y =>
    unfold setG
    rw [hq]
    unfold getG
    simp only [List.find?_map, Option.map_map]
    have e : ((fun x : Ino => decide (x.id = k)) ∘ fun x => if x.id = id then { x with mode := mode, data := data } else x) = fun x => decide (x.id = k) := by
      funext x
      simp only [Function.comp]
      split <;> rfl
    rw [e]
    cases hf : g.I.find? (fun x => decide (x.id = k)) with
    | none => rfl
    | some x =>
      have hxk := hx hf
      simp only [Option.map_some, Function.comp, Option.some.injEq]
      by_cases hk : k = id
      · have : x.id = id := hxk.trans hk
        simp [hk, this]
      · have : ¬ x.id = id := fun r => hk (hxk.symm.trans r)
        simp [hk, this]

theorem set_ents (g : Gr) (id : St) (mode : Int) (data : ByteArray) : (setG g id mode data).1.E = g.E := by
  unfold setG
  split <;> rfl

end Go.Proofs.Ythobfeohgeeofaa

/-
  The code of package graph (as it landed): a graph in memory is a block of two maps; root, Get.
-/
namespace Go.Proofs.Ythobfeohgeeofaa
open Go.RowKit StampMath GraphMath

/-- A graph in memory. -/
def GIn (W : World) (S : Nat → Prop) (a : Addr) (g : Gr) : Prop :=
  ∃ b bi be, a = ⟨b, 0, none⟩ ∧ b ≠ bi ∧ b ≠ be ∧ bi ≠ be ∧ W.heap[b]? = some (.cells #[.map (some bi), .map (some be)] 73 (0, 0)) ∧
    KMap stV inoV W bi (pairsI g) ∧ KMap plV stV W be (pairsE g) ∧ ∀ i, S i ↔ i = b ∨ i = bi ∨ i = be

theorem GIn.lt {W : World} {S : Nat → Prop} {a : Addr} {g : Gr} (h : GIn W S a g) : ∀ i, S i → i < W.heap.size := by
  obtain ⟨b, bi, be, rfl, _, _, _, hb, hi, he, hS⟩ := h
  intro i hs
  rcases (hS i).1 hs with rfl | rfl | rfl
  · exact heap_lt hb
  · exact hi.lt
  · exact he.lt

theorem GIn.keep {W W' : World} {S : Nat → Prop} {a : Addr} {g : Gr} (h : GIn W S a g) (hk : ∀ i, S i → W'.heap[i]? = W.heap[i]?) : GIn W' S a g := by
  obtain ⟨b, bi, be, rfl, h1, h2, h3, hb, hi, he, hS⟩ := h
  exact ⟨b, bi, be, rfl, h1, h2, h3, (hk b ((hS b).2 (.inl rfl))).trans hb, hi.kept (hk bi ((hS bi).2 (.inr (.inl rfl)))), he.kept (hk be ((hS be).2 (.inr (.inr rfl)))), hS⟩

theorem zeroIno (w : World) : (zeroValue 42).run Try.prog w = .ok (inoV noIno) w := by kernel_rfl
theorem zeroSt (w : World) : (zeroValue 24).run Try.prog w = .ok (stV (0, 0)) w := by kernel_rfl

theorem root_any (w : World) : Calls Try.prog 33 #[] w fun e w' => e = .returned (.agg #[.int .i64 0, .int .i64 0]) ∧ Below w.heap.size w w' := by
  go_enter Try.func33, Try.ntmps33
  go_wp2_with fail
  obtain ⟨z0, z1⟩ := two_cells (heap_alloc_new w (.cells #[.int .i64 0, .int .i64 0] 24))
  exact bodyPost_ret (v := .agg #[.int .i64 0, .int .i64 0]) (by simp [results, Try.results33, go_sem, z0, z1]) rfl ⟨rfl, (Below.refl _ _).alloc (Nat.le_refl _) _⟩

set_option maxRecDepth 100000 in
theorem get_code (a : Addr) (S : Nat → Prop) (g : Gr) (id : St) (w : World) (h : GIn w S a g) (hg : g.ok) :
    Calls Try.prog 13 #[.pointer (some a), .agg (stA id)] w fun e w' => e = .returned (.tuple #[.agg (inoA ((getG g id).getD noIno)), .bool (getG g id).isSome]) ∧ Below w.heap.size w w' := by
  obtain ⟨b, bi, be, rfl, h1, h2, h3, hb, hi, he, hS⟩ := h
  obtain ⟨c0, c1⟩ := two_cells hb
  obtain ⟨ok, hok⟩ : ∃ ok, ok = (getG g id).isSome := ⟨_, rfl⟩
  obtain ⟨v, hv⟩ : ∃ v, v = (getG g id).getD noIno := ⟨_, rfl⟩
  rw [← hok, ← hv]
  have hlook : ∀ W : World, Hid (Below w.heap.size w W) → (Instr.lookup 70 (.map (some bi)) (.agg #[.int .i64 id.1, .int .i64 id.2]) true).run Try.prog W = .ok (.tuple #[.agg #[.int .i64 v.id.1, .int .i64 v.id.2, .int .i64 v.kind, .int .i64 v.links, .int .i64 v.mode, .string v.data], .bool ok]) W := fun W hW => by
    have hl := (hi.kept (hW.out.block bi hi.lt)).look stShape Try.underlying70 (zeroIno W) id true
    rw [look_pairsI hg, if_pos rfl, show ((getG g id).map inoV).getD (inoV noIno) = inoV v by rw [hv]; cases getG g id <;> rfl, ← hok] at hl
    exact hl
  have hlt := heap_lt hb
  have HL := Lib.hid hlook
  clear hi he hb hS hlook hok hv
  unfold stA
  go_enter Try.func13, Try.ntmps13
  go_wp2_with fail
  have hbW : Below w.heap.size w ((w.alloc (.cells #[.int .i64 id.1, .int .i64 id.2] 24)).alloc (.cells #[.int .i64 0, .int .i64 0, .int .i64 0, .int .i64 0, .int .i64 0, .string ⟨#[]⟩] 42)) := ((Below.refl _ _).alloc (Nat.le_refl _) _).alloc (by simp) _
  have hb1 := (hbW.alloc hbW.size (.cells #[.int .i64 0, .int .i64 0, .int .i64 0, .int .i64 0, .int .i64 0, .string ⟨#[]⟩] 42)).drew
  have d0 := (hb1.cell (p := ⟨b, 0, none⟩) hlt).trans c0
  have hl := HL.out _ hb1
  have c0w := (hbW.cell (p := ⟨b, 0, none⟩) hlt).trans c0
  have hl0 := HL.out _ hbW.drew
  have HB := Lib.hid hbW
  clear hbW hb1
  go_region
  all_goals clear d0 hl c0w hl0
  all_goals go_wp2_with fail
  all_goals exact bodyPost_ret (v := .tuple #[.agg (inoA v), .bool ok]) (by simp [results, Try.results13, go_sem, inoA]) rfl ⟨rfl, by
    repeat (first | exact Below.refl _ _ | apply Below.drew | refine Below.alloc ?_ (by simp <;> omega) _)⟩

end Go.Proofs.Ythobfeohgeeofaa

/-
  The walks of package cmp's functions and of stamp's Compare, with what they leave: the world, so many draws on and so many blocks more.
-/
namespace Go.Proofs.Ythobfeohgeeofaa
open Go.RowKit StampMath

theorem nan64 (t : Int) (w : World) : Calls Try.prog 74 #[.int .i64 t] w fun e w' => e = .returned (.bool false) ∧ w = w' := by
  go_enter Try.func74, Try.ntmps74
  go_wp2_with fail
  go_ret
  exact ⟨by simp, rfl⟩

theorem nanInt (t : Int) (w : World) : Calls Try.prog 75 #[.int .i64 t] w fun e w' => e = .returned (.bool false) ∧ w = w' := by
  go_enter Try.func75, Try.ntmps75
  go_wp2_with fail
  go_ret
  exact ⟨by simp, rfl⟩

theorem cell_alloc {W : World} {o : Obj} {a : Addr} {v : Value} (h : W.cell? a = some v) : (W.alloc o).cell? a = some v :=
  (World.cell?_alloc_lt W o a (World.block_lt_of_cell? _ _ h)).trans h

theorem kept_alloc4 {w W : World} {a b c d : Addr} {u v x y : Value} (o : Obj) (h : (W.cell? a = some u ∧ W.cell? b = some v ∧ W.cell? c = some x ∧ W.cell? d = some y) ∧ KeptFrom w W) :
    ((W.alloc o).cell? a = some u ∧ (W.alloc o).cell? b = some v ∧ (W.alloc o).cell? c = some x ∧ (W.alloc o).cell? d = some y) ∧ KeptFrom w (W.alloc o) :=
  ⟨⟨cell_alloc h.1.1, cell_alloc h.1.2.1, cell_alloc h.1.2.2.1, cell_alloc h.1.2.2.2⟩, (kept_below h.2).alloc (kept_below h.2).size o⟩

theorem cell_third (w : World) (o1 o2 : Obj) (a b : Value) (T : TypeId) :
    (((w.alloc o1).alloc o2).alloc (.cells #[a, b] T)).drew.cell? ⟨w.heap.size + 1 + 1, 0, none⟩ = some a ∧ (((w.alloc o1).alloc o2).alloc (.cells #[a, b] T)).drew.cell? ⟨w.heap.size + 1 + 1, 1, none⟩ = some b := by
  have h := heap_alloc_new ((w.alloc o1).alloc o2) (.cells #[a, b] T)
  have e : ((w.alloc o1).alloc o2).heap.size = w.heap.size + 1 + 1 := by simp
  rw [e] at h
  exact ⟨cell_of_row _ _ 0 _ _ (0, 0) h, cell_of_row _ _ 1 _ _ (0, 0) h⟩

/-- Which of two numbers is first. -/
def cmp1 (x y : Int) : Int := if x < y then -1 else if y < x then 1 else 0

set_option maxHeartbeats 400000 in
theorem compare64 (x y : Int) (w : World) : Calls Try.prog 62 #[.int .i64 x, .int .i64 y] w fun e w' => e = .returned (.int .i64 (cmp1 x y)) ∧ w = w' := by
  have hcase : (x < y ∧ cmp1 x y = -1) ∨ (¬ x < y ∧ y < x ∧ cmp1 x y = 1) ∨ (¬ x < y ∧ ¬ y < x ∧ cmp1 x y = 0) := by
    unfold cmp1
    by_cases h1 : x < y
    · exact Or.inl ⟨h1, by rw [if_pos h1]⟩
    · by_cases h2 : y < x
      · exact Or.inr (Or.inl ⟨h1, h2, by rw [if_neg h1, if_pos h2]⟩)
      · exact Or.inr (Or.inr ⟨h1, h2, by rw [if_neg h1, if_neg h2]⟩)
  rcases hcase with ⟨h1, h⟩ | ⟨h1, h2, h⟩ | ⟨h1, h2, h⟩
  all_goals
    rw [h]
    clear h
    go_enter Try.func62, Try.ntmps62
    go_wp2_with fail
    refine (nan64 _ _).mono ?_
    rintro e w' ⟨rfl, rfl⟩
    go_wp2_with fail
    refine (nan64 _ _).mono ?_
    rintro e w' ⟨rfl, rfl⟩
    go_wp2_with fail
    go_ret
    exact ⟨rfl, rfl⟩

set_option maxHeartbeats 400000 in
theorem compareInt (x y : Int) (w : World) : Calls Try.prog 63 #[.int .i64 x, .int .i64 y] w fun e w' => e = .returned (.int .i64 (cmp1 x y)) ∧ w = w' := by
  have hcase : (x < y ∧ cmp1 x y = -1) ∨ (¬ x < y ∧ y < x ∧ cmp1 x y = 1) ∨ (¬ x < y ∧ ¬ y < x ∧ cmp1 x y = 0) := by
    unfold cmp1
    by_cases h1 : x < y
    · exact Or.inl ⟨h1, by rw [if_pos h1]⟩
    · by_cases h2 : y < x
      · exact Or.inr (Or.inl ⟨h1, h2, by rw [if_neg h1, if_pos h2]⟩)
      · exact Or.inr (Or.inr ⟨h1, h2, by rw [if_neg h1, if_neg h2]⟩)
  rcases hcase with ⟨h1, h⟩ | ⟨h1, h2, h⟩ | ⟨h1, h2, h⟩
  all_goals
    rw [h]
    clear h
    go_enter Try.func63, Try.ntmps63
    go_wp2_with fail
    refine (nanInt _ _).mono ?_
    rintro e w' ⟨rfl, rfl⟩
    go_wp2_with fail
    refine (nanInt _ _).mono ?_
    rintro e w' ⟨rfl, rfl⟩
    go_wp2_with fail
    go_ret
    exact ⟨rfl, rfl⟩

/-- The first of two numbers that is not zero. -/
def or2 (a b : Int) : Int := if a = 0 then b else a

theorem or2_cmp (t r t' r' : Int) : or2 (cmp1 t t') (cmp1 r r') = cmp t r t' r' := by
  have h := cmp_cases t r t' r'
  unfold or2 cmp1
  split <;> split <;> (try split) <;> (try split) <;> omega

set_option maxHeartbeats 400000 in
theorem or_any (g : Nat) (a b : Int) (W : World) (h0 : W.cell? ⟨g, 0, none⟩ = some (.int .i64 a)) (h1 : W.cell? ⟨g, 1, none⟩ = some (.int .i64 b)) :
    Calls Try.prog 61 #[.slice (some ⟨g, 0, none⟩) 2 2] W fun e w' => e = .returned (.int .i64 (or2 a b)) ∧ W = w' := by
  go_enter Try.func61, Try.ntmps61
  go_wp2_with fail
  go_loop [8] (fun i => ∃ k : Nat, i = .int .i64 (k : Int) ∧ k ≤ 2 ∧ (0 < k → a = 0) ∧ (1 < k → b = 0)) (fun i => 2 - (intOf i).toNat)
  case atStart => exact ⟨0, rfl, by omega, by omega, by omega⟩
  case round =>
    obtain ⟨k, rfl, hk, ha, hb⟩ := hrel
    have HA := Lib.hid ha
    have HB := Lib.hid hb
    clear ha hb
    have hk3 : k = 0 ∨ k = 1 ∨ k = 2 := by omega
    clear hk
    rcases hk3 with rfl | rfl | rfl
    · by_cases hz : a = 0
      · have hz' : (a == 0) = true := by simp [hz]
        have HZ := Lib.hid hz
        clear hz
        go_wp2_with fail
        exact ⟨⟨1, by go_num, by omega, fun _ => HZ.out, by omega⟩, by simp [intOf]⟩
      · have hz' : (a == 0) = false := by simp [hz]
        have HZ := Lib.hid hz
        clear hz
        go_wp2_with fail
        go_ret
        exact ⟨by rw [or2, if_neg HZ.out]; rfl, rfl⟩
    · by_cases hz : b = 0
      · have hz' : (b == 0) = true := by simp [hz]
        have HZ := Lib.hid hz
        clear hz
        go_wp2_with fail
        exact ⟨⟨2, by go_num, by omega, fun _ => HA.out (by omega), fun _ => HZ.out⟩, by simp [intOf]⟩
      · have hz' : (b == 0) = false := by simp [hz]
        have HZ := Lib.hid hz
        clear hz
        go_wp2_with fail
        go_ret
        exact ⟨by rw [or2, if_pos (HA.out (by omega))]; rfl, rfl⟩
    · go_wp2_with fail
      go_ret
      exact ⟨by rw [or2, if_pos (HA.out (by omega)), HB.out (by omega)]; rfl, rfl⟩

/-- All that was there is as it was; draws and blocks have come. -/
def Grown (w W : World) : Prop := Below w.heap.size w W ∧ w.drawn ≤ W.drawn

theorem Grown.refl (w : World) : Grown w w := ⟨Below.refl _ _, Nat.le_refl _⟩
theorem Grown.alloc {w W : World} (h : Grown w W) (o : Obj) : Grown w (W.alloc o) := ⟨(kept_below h.1).alloc h.1.size o, h.2⟩
theorem Grown.drew {w W : World} (h : Grown w W) : Grown w W.drew := ⟨h.1.drew, Nat.le_trans h.2 (Nat.le_succ _)⟩
theorem Grown.trans {a b c : World} (h : Grown a b) (k : Grown b c) : Grown a c := ⟨below_step h.1 k.1, Nat.le_trans h.2 k.2⟩

theorem Grown.grow {w W : World} (h : Grown w W) : ∃ q os, W = Sort.grow (w.drewN q) os := by
  obtain ⟨hb, hd⟩ := h
  refine ⟨W.drawn - w.drawn, W.heap.extract w.heap.size W.heap.size, ?_⟩
  have hh : W.heap = w.heap ++ W.heap.extract w.heap.size W.heap.size := by
    apply Array.ext_getElem?
    intro i
    have hs := hb.size
    by_cases hi : i < w.heap.size
    · rw [hb.block i hi, Array.getElem?_append_left hi]
    · rw [Array.getElem?_append_right (by omega)]
      simp only [Array.getElem?_extract]
      by_cases hi2 : i < W.heap.size
      · rw [if_pos (by omega), show w.heap.size + (i - w.heap.size) = i by omega]
      · rw [if_neg (by omega), Array.getElem?_eq_none (by omega)]
  have e1 := hb.os
  have e2 := hb.tape
  have e3 := hb.output
  obtain ⟨H, T, D, O, U⟩ := W
  obtain ⟨H', T', D', O', U'⟩ := w
  simp only at hh e1 e2 e3 hd
  subst e1 e2 e3
  have e4 : D' + (D - D') = D := by omega
  unfold Sort.grow World.drewN
  simp only [World.mk.injEq, true_and, and_true]
  exact ⟨hh, e4.symm⟩

theorem grown_alloc4 {w W : World} {a b c d : Addr} {u v x y : Value} (o : Obj) (h : (W.cell? a = some u ∧ W.cell? b = some v ∧ W.cell? c = some x ∧ W.cell? d = some y) ∧ Grown w W) :
    ((W.alloc o).cell? a = some u ∧ (W.alloc o).cell? b = some v ∧ (W.alloc o).cell? c = some x ∧ (W.alloc o).cell? d = some y) ∧ Grown w (W.alloc o) :=
  ⟨⟨cell_alloc h.1.1, cell_alloc h.1.2.1, cell_alloc h.1.2.2.1, cell_alloc h.1.2.2.2⟩, h.2.alloc o⟩

set_option maxHeartbeats 800000 in
theorem compare_grown (t r t' r' : Int) (w : World) :
    Calls Try.prog 46 #[.agg #[.int .i64 t, .int .i64 r], .agg #[.int .i64 t', .int .i64 r']] w fun e w' => e = .returned (.int .i64 (cmp t r t' r')) ∧ Grown w w' := by
  have hv := or2_cmp t r t' r'
  obtain ⟨x, hx⟩ : ∃ x, x = cmp1 t t' := ⟨_, rfl⟩
  obtain ⟨y, hy⟩ : ∃ y, y = cmp1 r r' := ⟨_, rfl⟩
  have H1 : Hid (∀ W : World, Calls Try.prog 62 #[.int .i64 t, .int .i64 t'] W fun e w' => e = .returned (.int .i64 x) ∧ W = w') := fun W => by rw [hx]; exact compare64 _ _ W
  have H2 : Hid (∀ W : World, Calls Try.prog 63 #[.int .i64 r, .int .i64 r'] W fun e w' => e = .returned (.int .i64 y) ∧ W = w') := fun W => by rw [hy]; exact compareInt _ _ W
  rw [← hx, ← hy] at hv
  have HV := Lib.hid hv
  clear hv hx hy
  go_enter Try.func46, Try.ntmps46
  go_wp2_with fail
  have hS0 : (((w.alloc (.cells #[.int .i64 t, .int .i64 r] 24)).alloc (.cells #[.int .i64 t', .int .i64 r'] 24)).drew.cell? ⟨w.heap.size, 0, none⟩ = some (.int .i64 t) ∧ ((w.alloc (.cells #[.int .i64 t, .int .i64 r] 24)).alloc (.cells #[.int .i64 t', .int .i64 r'] 24)).drew.cell? ⟨w.heap.size, 1, none⟩ = some (.int .i64 r) ∧ ((w.alloc (.cells #[.int .i64 t, .int .i64 r] 24)).alloc (.cells #[.int .i64 t', .int .i64 r'] 24)).drew.cell? ⟨w.heap.size + 1, 0, none⟩ = some (.int .i64 t') ∧ ((w.alloc (.cells #[.int .i64 t, .int .i64 r] 24)).alloc (.cells #[.int .i64 t', .int .i64 r'] 24)).drew.cell? ⟨w.heap.size + 1, 1, none⟩ = some (.int .i64 r')) ∧ Grown w ((w.alloc (.cells #[.int .i64 t, .int .i64 r] 24)).alloc (.cells #[.int .i64 t', .int .i64 r'] 24)).drew := by
    refine ⟨⟨?_, ?_, ?_, ?_⟩, (((Grown.refl _).alloc _).alloc _).drew⟩
    · exact cell_of_row _ _ 0 _ _ (0, 0) (heap_alloc2_old w _ _)
    · exact cell_of_row _ _ 1 _ _ (0, 0) (heap_alloc2_old w _ _)
    · exact cell_of_row _ _ 0 _ _ (0, 0) (heap_alloc2_new w _ _)
    · exact cell_of_row _ _ 1 _ _ (0, 0) (heap_alloc2_new w _ _)
  go_region_held3 (fun W => (W.cell? ⟨w.heap.size, 0, none⟩ = some (.int .i64 t) ∧ W.cell? ⟨w.heap.size, 1, none⟩ = some (.int .i64 r) ∧ W.cell? ⟨w.heap.size + 1, 0, none⟩ = some (.int .i64 t') ∧ W.cell? ⟨w.heap.size + 1, 1, none⟩ = some (.int .i64 r')) ∧ Grown w W) (first | assumption | exact grown_alloc4 _ (by assumption) | (refine ⟨⟨?_, ?_, ?_, ?_⟩, ?_⟩ <;> assumption))
    (first
      | (go_at_call 62; (with_reducible refine (H1.out _).mono ?_); rintro e w' ⟨rfl, rfl⟩; have hS := hS0)
      | (go_at_call 63; (with_reducible refine (H2.out _).mono ?_); rintro e w' ⟨rfl, rfl⟩; have hS := hS0)
      | (go_at_call 61; refine (or_any _ x y _ ?_ ?_).mono ?_; exact (cell_third w _ _ _ _ _).1; exact (cell_third w _ _ _ _ _).2; rintro e w' ⟨rfl, rfl⟩; have hS := ‹(_ ∧ _ ∧ _ ∧ _) ∧ Grown w _›))
  have hB := (show Grown w _ from And.right ‹(_ ∧ _ ∧ _ ∧ _) ∧ Grown w _›)
  clear hS0
  go_wp2_with fail
  go_ret
  exact ⟨by rw [← HV.out]; rfl, hB⟩

end Go.Proofs.Ythobfeohgeeofaa
