/-
  Maps whose keys and elements are of any shape: what lies in one as a list of pairs, in no order; each operation on one, and going through it.
-/
import Derived.Test.YtlhdbccemgofjaaGreatDoorZ00
import Derived.Maps.RangeWalk
import Derived.WideKeyRuns
import Derived.Deep.QuietTactic
import Derived.BigQuiet
import Derived.Test.YtlhdbccemgofjaaGreatDoorRows
import Derived.Deep.LoopGhost
import Derived.Deep.RegionWith
import Derived.ProofKit
import Derived.Laws.StructEq
namespace Go.Proofs.YtlhdbccemgofjaaGreatDoor
open Go.RowKit Go.MapKept
open Go.ChangeMaps (setBlock)

/-- What a key's type must give: equal keys are found, others aren't. -/
structure KShape (P : Program) (k : TypeId) {K : Type} (ek : K → Value) : Prop where
  inj : ∀ x y, ek x = ek y → x = y
  check : ∀ (w : World) (em : Bool) (x : K), (Instr.checkKey em 10000 k (ek x)).run P w = .ok () w
  find : ∀ (w : World) (x : K) (es : List MapEntry), (∀ e ∈ es, ∃ y, e.key = ek y) →
    ((Instr.findKey k (ek x) es).run P w = .ok none w ∧ ∀ e ∈ es, e.key ≠ ek x) ∨ ∃ j e, (Instr.findKey k (ek x) es).run P w = .ok (some (j, e.val)) w ∧ es[j]? = some e ∧ e.key = ek x
  stays : ∀ (w : World) (x : K), (Instr.keyThatStays (ek x) (ek x)).run P w = .ok (ek x) w

theorem findAsking_by {P : Program} {k : TypeId} {K : Type} [DecidableEq K] {ek : K → Value} (w : World) (heq : ∀ x y, (Op.equal k (ek x) (ek y)).run P w = .ok (decide (x = y)) w) (x : K) :
    ∀ (es : List MapEntry) (i : Nat), (∀ e ∈ es, ∃ y, e.key = ek y) →
      ((Instr.findAsking k (ek x) es i).run P w = .ok none w ∧ ∀ e ∈ es, ∀ y, e.key = ek y → x ≠ y) ∨
      ∃ j e, (Instr.findAsking k (ek x) es i).run P w = .ok (some (i + j, e.val)) w ∧ es[j]? = some e ∧ e.key = ek x
  | [], i, _ => Or.inl ⟨by simp [Instr.findAsking], by simp⟩
  | e :: es, i, hall => by
    obtain ⟨y, hy⟩ := hall e (by simp)
    have hr := heq x y
    rw [← hy] at hr
    by_cases hxy : x = y
    · right
      rw [decide_eq_true hxy] at hr
      exact ⟨0, e, by simp [Instr.findAsking, hr], rfl, by rw [hy, hxy]⟩
    · rw [decide_eq_false hxy] at hr
      rcases findAsking_by w heq x es (i + 1) (fun z hz => hall z (by simp [hz])) with ⟨h1, h2⟩ | ⟨j, e', h1, h2, h3⟩
      · left
        refine ⟨by simp [Instr.findAsking, hr, h1], fun z hz v hv => ?_⟩
        rcases List.mem_cons.1 hz with rfl | hz
        · intro e2
          subst e2
          have h5 := heq x x
          rw [hv, h5, decide_eq_true rfl] at hr
          cases hr
        · exact h2 z hz v hv
      · right
        exact ⟨j + 1, e', by simp [Instr.findAsking, hr, h1, Nat.add_assoc, Nat.add_comm 1 j], by simpa using h2, h3⟩

/-- A struct's or an array's: told by how two of them are held equal. -/
theorem KShape.of_equal {P : Program} {k : TypeId} {K : Type} [DecidableEq K] {ek : K → Value} (hwide : (match P.underlying k with | some (.array _ _) | some (.struct _) => true | _ => false) = true)
    (inj : ∀ x y, ek x = ek y → x = y) (heq : ∀ w x y, (Op.equal k (ek x) (ek y)).run P w = .ok (decide (x = y)) w)
    (check : ∀ (w : World) (em : Bool) (x : K), (Instr.checkKey em 10000 k (ek x)).run P w = .ok () w) (bits : ∀ x, Instr.sameBits 10000 (ek x) (ek x) = true) : KShape P k ek where
  inj := inj
  check := check
  find := fun w x es hall => by
    rw [run_findKey_eq w hwide]
    rcases findAsking_by w (heq w) x es 0 hall with ⟨h1, h2⟩ | ⟨j, e, h1, h2, h3⟩
    · exact Or.inl ⟨h1, fun e he e1 => h2 e he x e1 rfl⟩
    · exact Or.inr ⟨j, e, by simpa using h1, h2, h3⟩
  stays := fun w x => by simp [Instr.keyThatStays, bits x]

theorem checkKey_struct {P : Program} {t : TypeId} {fs : Array Field} (hu : P.underlying t = some (.struct fs)) (w : World) (em : Bool) (n : Nat) (cs : Array Value)
    (each : ∀ f ∈ fs.toList, f.name ≠ "_" ∧ ∃ v, (part f.type cs f.offset).run P w = .ok v w ∧ (Instr.checkKey em n f.type v).run P w = .ok () w) : (Instr.checkKey em (n + 1) t (.agg cs)).run P w = .ok () w := by
  rw [Instr.checkKey]
  simp only [Sem.run_bind, run_underlying hu, Result.andThen_ok]
  rw [← Array.forIn_toList]
  generalize fs.toList = L at each
  induction L with
  | nil => simp
  | cons f L ih =>
    obtain ⟨hn, a, p1, p2⟩ := each f (by simp)
    simp only [List.forIn_cons, Sem.run_bind, hn, ne_eq, not_false_eq_true, if_true, Result.andThen_ok, p1, p2, Sem.run_pure]
    exact ih (fun y hy => each y (by simp [hy]))

theorem checkKey_int {P : Program} {t : TypeId} {q q' : IntKind} (hu : P.underlying t = some (.int q)) (w : World) (em : Bool) (n : Nat) (x : Int) : (Instr.checkKey em (n + 1) t (.int q' x)).run P w = .ok () w := by
  rw [Instr.checkKey]
  simp [run_underlying hu]

theorem checkKey_string {P : Program} {t : TypeId} (hu : P.underlying t = some .string) (w : World) (em : Bool) (n : Nat) (x : ByteArray) : (Instr.checkKey em (n + 1) t (.string x)).run P w = .ok () w := by
  rw [Instr.checkKey]
  simp [run_underlying hu]

section
variable {K V : Type}

/-- What stands at a key. -/
def lookL [DecidableEq K] (L : List (K × V)) (x : K) : Option V := (L.find? fun p => decide (p.1 = x)).map Prod.snd

/-- All but what stands at a key. -/
def offL [DecidableEq K] (L : List (K × V)) (x : K) : List (K × V) := L.filter fun p => !decide (p.1 = x)

theorem mem_lookL [DecidableEq K] {L : List (K × V)} (hn : (L.map Prod.fst).Nodup) {x : K} {v : V} : lookL L x = some v ↔ (x, v) ∈ L := by
  induction L with
  | nil => simp [lookL]
  | cons p l ih =>
    simp only [List.map_cons, List.nodup_cons] at hn
    unfold lookL
    rw [List.find?_cons]
    by_cases h : p.1 = x
    · subst h
      simp only [decide_true, Option.map_some, Option.some.injEq, List.mem_cons]
      constructor
      · intro h; exact Or.inl (Prod.ext rfl h.symm)
      · rintro (h | h)
        · rw [← h]
        · exact absurd (List.mem_map_of_mem (f := Prod.fst) h) hn.1
    · simp only [h, decide_false, List.mem_cons]
      rw [show (Option.map Prod.snd (l.find? fun p => decide (p.1 = x))) = lookL l x from rfl, ih hn.2]
      constructor
      · exact Or.inr
      · rintro (h1 | h1)
        · exact absurd (by rw [← h1]) h
        · exact h1

theorem nodup_perm_keys {L L' : List (K × V)} (hp : L.Perm L') (hn : (L.map Prod.fst).Nodup) : (L'.map Prod.fst).Nodup := (hp.map _).nodup_iff.1 hn

theorem lookL_perm [DecidableEq K] {L L' : List (K × V)} (hp : L.Perm L') (hn : (L.map Prod.fst).Nodup) (x : K) : lookL L x = lookL L' x := by
  have h1 : ∀ v, lookL L x = some v ↔ lookL L' x = some v := fun v => by
    rw [mem_lookL hn, mem_lookL (nodup_perm_keys hp hn)]
    exact hp.mem_iff
  cases h : lookL L x with
  | some v => exact ((h1 v).1 h).symm
  | none =>
    cases h' : lookL L' x with
    | none => rfl
    | some v => rw [(h1 v).2 h'] at h; cases h

theorem lookL_none [DecidableEq K] {L : List (K × V)} {x : K} (h : ∀ p ∈ L, p.1 ≠ x) : lookL L x = none := by
  unfold lookL
  rw [List.find?_eq_none.2 (fun p hp => by simpa using h p hp)]
  rfl

theorem offL_none [DecidableEq K] {L : List (K × V)} {x : K} (h : ∀ p ∈ L, p.1 ≠ x) : offL L x = L := List.filter_eq_self.2 fun p hp => by simpa using h p hp

theorem offL_at [DecidableEq K] {L : List (K × V)} (hn : (L.map Prod.fst).Nodup) {j : Nat} (hj : j < L.length) : offL L L[j].1 = L.take j ++ L.drop (j + 1) := by
  have hs : L = L.take j ++ L[j] :: L.drop (j + 1) := by simp
  obtain ⟨x, hx⟩ : ∃ x, x = L[j].1 := ⟨_, rfl⟩
  obtain ⟨A, hA⟩ : ∃ A, A = L.take j := ⟨_, rfl⟩
  obtain ⟨C, hC⟩ : ∃ C, C = L.drop (j + 1) := ⟨_, rfl⟩
  obtain ⟨p, hp⟩ : ∃ p, p = L[j] := ⟨_, rfl⟩
  rw [← hA, ← hC, ← hp] at hs
  rw [← hp] at hx
  rw [← hp, ← hA, ← hC, ← hx, hs]
  rw [hs] at hn
  simp only [List.map_append, List.map_cons] at hn
  have hn' := List.nodup_append.1 hn
  have h1 : ∀ q ∈ A, q.1 ≠ x := fun q hq e => by
    rw [hx] at e
    exact hn'.2.2 q.1 (List.mem_map_of_mem hq) p.1 (by simp) e
  have h2 : ∀ q ∈ C, q.1 ≠ x := fun q hq e => by
    rw [hx] at e
    have := (List.nodup_cons.1 hn'.2.1).1
    exact this (by rw [← e]; exact List.mem_map_of_mem hq)
  have e1 : offL A x = A := offL_none h1
  have e2 : offL C x = C := offL_none h2
  unfold offL at e1 e2 ⊢
  rw [List.filter_append, List.filter_cons, e1, e2]
  simp [hx]

variable (ek : K → Value) (ev : V → Value)

/-- In the block b lies a map of just these pairs. -/
def KMap (w : World) (b : Nat) (L : List (K × V)) : Prop :=
  ∃ (es : Array MapEntry) (clock : Nat) (M : List (K × V)), w.heap[b]? = some (.map es clock) ∧ Stamped es clock ∧ es.toList.map (fun e => (e.key, e.val)) = M.map (fun p => (ek p.1, ev p.2)) ∧ M.Perm L

/-- .. and in the block r it is gone through; what is still to come. -/
def KRange (w : World) (b r : Nat) (L todo : List (K × V)) : Prop :=
  ∃ (es : Array MapEntry) (clock since : Nat) (seen : Array Nat) (c0 : Nat) (M T : List (K × V)), w.heap[b]? = some (.map es clock) ∧ Stamped es clock ∧ es.toList.map (fun e => (e.key, e.val)) = M.map (fun p => (ek p.1, ev p.2)) ∧ M.Perm L ∧
    w.heap[r]? = some (.mapIter (some b) since seen c0) ∧ (∀ x ∈ es.toList, x.born < since) ∧ since ≤ c0 ∧ since ≤ clock ∧
    (leftOf es seen).toList.map (fun e => (e.key, e.val)) = T.map (fun p => (ek p.1, ev p.2)) ∧ T.Perm todo

variable {ek ev}

theorem KMap.perm {w : World} {b : Nat} {L L' : List (K × V)} (h : KMap ek ev w b L) (hp : L.Perm L') : KMap ek ev w b L' := by
  obtain ⟨es, clock, M, h1, h2, h3, h4⟩ := h
  exact ⟨es, clock, M, h1, h2, h3, h4.trans hp⟩

theorem KMap.kept {w w' : World} {b : Nat} {L : List (K × V)} (h : KMap ek ev w b L) (hb : w'.heap[b]? = w.heap[b]?) : KMap ek ev w' b L := by
  obtain ⟨es, clock, M, h1, h2⟩ := h
  exact ⟨es, clock, M, hb.trans h1, h2⟩

theorem KMap.lt {w : World} {b : Nat} {L : List (K × V)} (h : KMap ek ev w b L) : b < w.heap.size := by
  obtain ⟨es, clock, M, h1, _⟩ := h
  exact (Array.getElem?_eq_some_iff.1 h1).1

theorem KRange.map {w : World} {b r : Nat} {L todo : List (K × V)} (h : KRange ek ev w b r L todo) : KMap ek ev w b L := by
  obtain ⟨es, clock, since, seen, c0, M, T, h1, h2, h3, h4, _⟩ := h
  exact ⟨es, clock, M, h1, h2, h3, h4⟩

theorem KRange.kept {w w' : World} {b r : Nat} {L todo : List (K × V)} (h : KRange ek ev w b r L todo) (hb : w'.heap[b]? = w.heap[b]?) (hr : w'.heap[r]? = w.heap[r]?) : KRange ek ev w' b r L todo := by
  obtain ⟨es, clock, since, seen, c0, M, T, h1, h2, h3, h4, h5, rest⟩ := h
  exact ⟨es, clock, since, seen, c0, M, T, hb.trans h1, h2, h3, h4, hr.trans h5, rest⟩

theorem KRange.ltr {w : World} {b r : Nat} {L todo : List (K × V)} (h : KRange ek ev w b r L todo) : r < w.heap.size := by
  obtain ⟨es, clock, since, seen, c0, M, T, h1, h2, h3, h4, h5, rest⟩ := h
  exact (Array.getElem?_eq_some_iff.1 h5).1

theorem KRange.perm {w : World} {b r : Nat} {L todo todo' : List (K × V)} (h : KRange ek ev w b r L todo) (hp : todo.Perm todo') : KRange ek ev w b r L todo' := by
  obtain ⟨es, clock, since, seen, c0, M, T, h1, h2, h3, h4, h5, h6, h7, h8, h9, h10⟩ := h
  exact ⟨es, clock, since, seen, c0, M, T, h1, h2, h3, h4, h5, h6, h7, h8, h9, h10.trans hp⟩

/-- For the loop's measure. -/
theorem KRange.left_eq {w : World} {b r : Nat} {L todo : List (K × V)} (h : KRange ek ev w b r L todo) : w.rangeLeft b r = todo.length := by
  obtain ⟨es, clock, since, seen, c0, M, T, h1, h2, h3, h4, h5, h6, h7, h8, h9, h10⟩ := h
  simp only [World.rangeLeft, h1, h5]
  have := congrArg List.length h9
  simp only [List.length_map, Array.length_toList] at this
  rw [this, h10.length_eq]

variable {P : Program} {k e : TypeId}

theorem keys_of {es : Array MapEntry} {clock : Nat} {M : List (K × V)} (hs : Stamped es clock) (hM : es.toList.map (fun e => (e.key, e.val)) = M.map (fun p => (ek p.1, ev p.2))) : (M.map Prod.fst).Nodup := by
  have h1 := ((stamped_iff es clock).1 hs).2.2
  have e1 : es.toList.map (·.key) = (M.map Prod.fst).map ek := by
    have := congrArg (List.map Prod.fst) hM
    simpa [List.map_map, Function.comp_def] using this
  have h2 : ((M.map Prod.fst).map ek).Nodup := by rw [← e1]; exact hs.2.2
  rw [List.Nodup, List.pairwise_map] at h2
  exact h2.imp fun h e2 => h (by rw [e2])

theorem KMap.keys {w : World} {b : Nat} {L : List (K × V)} (h : KMap ek ev w b L) : (L.map Prod.fst).Nodup := by
  obtain ⟨es, clock, M, h1, h2, h3, h4⟩ := h
  exact nodup_perm_keys h4 (keys_of h2 h3)

theorem entry_shape {es : Array MapEntry} {M : List (K × V)} (hM : es.toList.map (fun e => (e.key, e.val)) = M.map (fun p => (ek p.1, ev p.2))) {j : Nat} {x : MapEntry} (hx : es.toList[j]? = some x) : ∃ p, M[j]? = some p ∧ x.key = ek p.1 ∧ x.val = ev p.2 := by
  have h1 : (M.map (fun p => (ek p.1, ev p.2)))[j]? = some (x.key, x.val) := by rw [← hM, List.getElem?_map, hx]; rfl
  rw [List.getElem?_map] at h1
  cases hp : M[j]? with
  | none => rw [hp] at h1; cases h1
  | some p =>
    rw [hp] at h1
    have := Option.some.inj h1
    exact ⟨p, rfl, (congrArg Prod.fst this).symm, (congrArg Prod.snd this).symm⟩

theorem all_shape {es : Array MapEntry} {M : List (K × V)} (hM : es.toList.map (fun e => (e.key, e.val)) = M.map (fun p => (ek p.1, ev p.2))) : ∀ x ∈ es.toList, ∃ y, x.key = ek y := fun x hx => by
  obtain ⟨j, hj, rfl⟩ := List.getElem_of_mem hx
  obtain ⟨p, _, h2, _⟩ := entry_shape hM (List.getElem?_eq_getElem hj)
  exact ⟨p.1, h2⟩

/-- 'm[k]' and 'v, ok := m[k]'. -/
theorem KMap.look [DecidableEq K] (S : KShape P k ek) {t : TypeId} {w : World} {b : Nat} {L : List (K × V)} (h : KMap ek ev w b L) (ht : P.underlying t = some (.map k e)) {z : Value} (hz : (zeroValue e).run P w = .ok z w) (x : K) (c : Bool) :
    (Instr.lookup t (.map (some b)) (ek x) c).run P w = .ok (if c then .tuple #[((lookL L x).map ev).getD z, .bool (lookL L x).isSome] else ((lookL L x).map ev).getD z) w := by
  have hk := h.keys
  obtain ⟨es, clock, M, h1, h2, h3, h4⟩ := h
  have hkM := keys_of h2 h3
  rw [← lookL_perm h4 hkM]
  rcases S.find w x es.toList (all_shape h3) with ⟨f1, f2⟩ | ⟨j, e0, f1, f2, f3⟩
  · have hn : lookL M x = none := lookL_none fun p hp e1 => by
      obtain ⟨j, hj, rfl⟩ := List.getElem_of_mem hp
      have hl : j < es.toList.length := by have := congrArg List.length h3; simp only [List.length_map] at this; omega
      obtain ⟨p', q1, q2, _⟩ := entry_shape h3 (List.getElem?_eq_getElem hl)
      rw [List.getElem?_eq_getElem hj] at q1
      have := Option.some.inj q1
      subst this
      exact f2 _ (List.getElem_mem hl) (by rw [q2, e1])
    rw [hn]
    simp [Instr.lookup, run_underlying ht, MapKept.run_getObj_map h1, S.check w, f1, hz, Result.andThen]
  · obtain ⟨p, q1, q2, q3⟩ := entry_shape h3 f2
    have hpx : p.1 = x := S.inj _ _ (q2.symm.trans f3)
    have hm : lookL M x = some p.2 := (mem_lookL hkM).2 (by rw [← hpx]; exact List.mem_of_getElem? q1)
    rw [hm]
    simp [Instr.lookup, run_underlying ht, MapKept.run_getObj_map h1, S.check w, f1, Result.andThen, q3]

theorem setBlock_but {w : World} {b : Nat} {o o' : Obj} (hb : w.heap[b]? = some o) : But (fun i => i = b) w (setBlock w b o') :=
  ⟨rfl, rfl, rfl, by simp [setBlock], fun i _ hi => (heap_set hb).2 i hi⟩

/-- 'm[k] = v'. -/
theorem KMap.store [DecidableEq K] (S : KShape P k ek) {t : TypeId} {w : World} {b : Nat} {L : List (K × V)} (h : KMap ek ev w b L) (ht : P.underlying t = some (.map k e)) (x : K) (v : V) :
    ∃ w', (Instr.mapUpdate t (.map (some b)) (ek x) (ev v)).run P w = .ok () w' ∧ KMap ek ev w' b ((x, v) :: offL L x) ∧ But (fun i => i = b) w w' ∧ w'.heap.size = w.heap.size := by
  obtain ⟨es, clock, M, h1, h2, h3, h4⟩ := h
  have hkM := keys_of h2 h3
  have hlen : M.length = es.toList.length := by have := congrArg List.length h3; simp only [List.length_map] at this; omega
  rcases S.find w x es.toList (all_shape h3) with ⟨f1, f2⟩ | ⟨j, e0, f1, f2, f3⟩
  · refine ⟨setBlock w b (.map (es.push ⟨ek x, ev v, clock⟩) (clock + 1)), ?_, ⟨_, _, M ++ [(x, v)], (heap_set h1).1, stamped_push h2 f2, by simp [h3], ?_⟩, setBlock_but h1, by simp [setBlock]⟩
    · simp [Instr.mapUpdate, run_underlying ht, MapKept.run_getObj_map h1, S.check w, f1, MapKept.run_setObj_map _ h1, Result.andThen, setBlock]
    · have hn : ∀ p ∈ M, p.1 ≠ x := fun p hp e1 => by
        obtain ⟨j, hj, rfl⟩ := List.getElem_of_mem hp
        obtain ⟨p', q1, q2, _⟩ := entry_shape h3 (List.getElem?_eq_getElem (show j < es.toList.length by omega))
        rw [List.getElem?_eq_getElem hj] at q1
        have := Option.some.inj q1
        subst this
        exact f2 _ (List.getElem_mem _) (by rw [q2, e1])
      refine (List.perm_append_singleton _ _).trans (List.Perm.cons _ ?_)
      have e2 : (offL M x).Perm (offL L x) := h4.filter _
      rw [offL_none hn] at e2
      exact e2
  · obtain ⟨p, q1, q2, q3⟩ := entry_shape h3 f2
    have hpx : p.1 = x := S.inj _ _ (q2.symm.trans f3)
    have hj : es[j]? = some e0 := by simpa using f2
    have hjl : j < es.toList.length := (List.getElem?_eq_some_iff.1 f2).1
    have hkeyf : ∀ e', es[j]? = some e' → ({ e' with key := ek x, val := ev v } : MapEntry).key = e'.key := fun e' he' => by rw [hj] at he'; cases he'; exact f3.symm
    have hlist : (es.modify j (fun e' => { e' with key := ek x, val := ev v })).toList = es.toList.set j { e0 with key := ek x, val := ev v } := by rw [Array.toList_modify, ChangeMaps.modify_eq_set _ _ _ _ f2]
    have hjM : j < M.length := by omega
    refine ⟨setBlock w b (.map (es.modify j (fun e' => { e' with key := ek x, val := ev v })) clock), ?_, ⟨_, _, M.set j (x, v), (heap_set h1).1, stamped_modify h2 _ _ (fun _ _ => rfl) (fun e' _ he' => hkeyf e' he'), ?_, ?_⟩, setBlock_but h1, by simp [setBlock]⟩
    · simp [Instr.mapUpdate, run_underlying ht, MapKept.run_getObj_map h1, S.check w, f1, hj, f3, S.stays w, MapKept.run_setObj_map _ h1, Result.andThen, setBlock]
    · rw [hlist, List.map_set, List.map_set, h3]
    · have e1 : M[j] = p := by rw [List.getElem?_eq_getElem hjM] at q1; exact Option.some.inj q1
      have e2 := offL_at hkM hjM
      rw [e1, hpx] at e2
      have e3 : (offL M x).Perm (offL L x) := h4.filter _
      rw [e2] at e3
      rw [List.set_eq_take_append_cons_drop, if_pos hjM]
      exact List.perm_middle.trans (List.Perm.cons _ e3)

/-- 'delete(m, k)'. -/
theorem KMap.drop [DecidableEq K] (S : KShape P k ek) {t : TypeId} {w : World} {b : Nat} {L : List (K × V)} (h : KMap ek ev w b L) (ht : P.underlying t = some (.map k e)) (x : K) (ty : TypeId) :
    ∃ w', (Builtin.delete_ #[t, k] ty #[.map (some b), ek x]).run P w = .ok (.tuple #[]) w' ∧ KMap ek ev w' b (offL L x) ∧ But (fun i => i = b) w w' ∧ w'.heap.size = w.heap.size := by
  obtain ⟨es, clock, M, h1, h2, h3, h4⟩ := h
  have hkM := keys_of h2 h3
  have hlen : M.length = es.toList.length := by have := congrArg List.length h3; simp only [List.length_map] at this; omega
  have e3 : (offL M x).Perm (offL L x) := h4.filter _
  rcases S.find w x es.toList (all_shape h3) with ⟨f1, f2⟩ | ⟨j, e0, f1, f2, f3⟩
  · refine ⟨setBlock w b (.map es clock), ?_, ⟨es, clock, M, (heap_set h1).1, h2, h3, ?_⟩, setBlock_but h1, by simp [setBlock]⟩
    · simp [Builtin.delete_, run_underlying ht, MapKept.run_getObj_map h1, S.check w, f1, MapKept.run_setObj_map _ h1, Result.andThen, setBlock]
    · have hn : ∀ p ∈ M, p.1 ≠ x := fun p hp e1 => by
        obtain ⟨j, hj, rfl⟩ := List.getElem_of_mem hp
        obtain ⟨p', q1, q2, _⟩ := entry_shape h3 (List.getElem?_eq_getElem (show j < es.toList.length by omega))
        rw [List.getElem?_eq_getElem hj] at q1
        have := Option.some.inj q1
        subst this
        exact f2 _ (List.getElem_mem _) (by rw [q2, e1])
      rwa [offL_none hn] at e3
  · obtain ⟨p, q1, q2, q3⟩ := entry_shape h3 f2
    have hpx : p.1 = x := S.inj _ _ (q2.symm.trans f3)
    have hjl : j < es.toList.length := (List.getElem?_eq_some_iff.1 f2).1
    have hjs : j < es.size := by simpa using hjl
    have hjM : j < M.length := by omega
    have hsub : (es.eraseIdxIfInBounds j).toList = es.toList.eraseIdx j := by
      unfold Array.eraseIdxIfInBounds
      rw [dif_pos hjs]
      simp
    refine ⟨setBlock w b (.map (es.eraseIdxIfInBounds j) clock), ?_, ⟨_, clock, M.eraseIdx j, (heap_set h1).1, stamped_erase h2 j, ?_, ?_⟩, setBlock_but h1, by simp [setBlock]⟩
    · simp [Builtin.delete_, run_underlying ht, MapKept.run_getObj_map h1, S.check w, f1, MapKept.run_setObj_map _ h1, Result.andThen, setBlock]
    · rw [hsub, ChangeMaps.map_eraseIdx, ChangeMaps.map_eraseIdx, h3]
    · have e1 : M[j] = p := by rw [List.getElem?_eq_getElem hjM] at q1; exact Option.some.inj q1
      have e2 := offL_at hkM hjM
      rw [e1, hpx] at e2
      rw [List.eraseIdx_eq_take_drop_succ, ← e2]
      exact e3

/-- 'len(m)'. -/
theorem KMap.len {t : TypeId} {w : World} {b : Nat} {L : List (K × V)} (h : KMap ek ev w b L) (ht : P.underlying t = some (.map k e)) (ty : TypeId) : (Builtin.len_ #[t] ty #[.map (some b)]).run P w = .ok (.int .i64 (L.length : Int)) w := by
  obtain ⟨es, clock, M, h1, h2, h3, h4⟩ := h
  have e1 : es.size = L.length := by
    have := congrArg List.length h3
    simp only [List.length_map, Array.length_toList] at this
    rw [this, h4.length_eq]
  rw [← e1]
  simp [Builtin.len_, run_underlying ht, MapKept.run_getObj_map h1, goInt, Result.andThen]

/-- 'make(map[K]V)'. -/
theorem KMap.made (w : World) : KMap ek ev (w.alloc (.map #[] 0)) w.heap.size [] :=
  ⟨#[], 0, [], (MapKept.heap_alloc w _).1, stamped_empty 0, rfl, List.Perm.nil⟩

/-- 'range m'. -/
theorem KMap.range {t : TypeId} {w : World} {b : Nat} {L : List (K × V)} (h : KMap ek ev w b L) (ht : P.underlying t = some (.map k e)) :
    ∃ w', (Instr.range t (.map (some b))).run P w = .ok (.pointer (some ⟨w.heap.size, 0, none⟩)) w' ∧ KRange ek ev w' b w.heap.size L L ∧ Below w.heap.size w w' ∧ w'.heap.size = w.heap.size + 1 := by
  have hlt := h.lt
  obtain ⟨es, clock, M, h1, h2, h3, h4⟩ := h
  refine ⟨_, run_range_map w t k e b es clock ht h1, ⟨es, clock, clock, #[], clock, M, M, ((MapKept.heap_alloc w _).2 b hlt).trans h1, h2, h3, h4, (MapKept.heap_alloc w _).1, h2.1, Nat.le_refl _, Nat.le_refl _, ?_, h4⟩, (Below.refl _ _).alloc (Nat.le_refl _) _, by simp⟩
  rw [← h3]
  unfold leftOf
  rw [show (es.filter fun e => !(#[] : Array Nat).contains e.born) = es from Array.filter_eq_self.2 fun x _ => by simp]

/-- The step. -/
theorem KRange.next {w : World} {b r : Nat} {L todo : List (K × V)} (h : KRange ek ev w b r L todo) (ty : TypeId) :
    (todo = [] ∧ (Instr.next (.pointer (some ⟨r, 0, none⟩)) false ty).run P w = .ok (.tuple #[.bool false]) w) ∨
    ∃ p todo' w', todo.Perm (p :: todo') ∧ (Instr.next (.pointer (some ⟨r, 0, none⟩)) false ty).run P w = .ok (.tuple #[.bool true, ek p.1, ev p.2]) w' ∧
      KRange ek ev w' b r L todo' ∧ But (fun i => i = r) w w' ∧ w'.heap.size = w.heap.size ∧ (Instr.entry (.pointer (some ⟨r, 0, none⟩))).run P w' = .ok (.tuple #[ek p.1, ev p.2]) w' := by
  obtain ⟨es, clock, since, seen, c0, M, T, h1, h2, h3, h4, h5, h6, h7, h8, h9, h10⟩ := h
  have hne : r ≠ b := fun e1 => by rw [e1, h1] at h5; cases h5
  rcases run_next_at (P := P) w ty r b since c0 seen es clock h5 h1 h6 h7 with ⟨h0, hrun⟩ | ⟨x, hx, w1, hal, hrun⟩
  · refine Or.inl ⟨?_, hrun⟩
    have : T.length = 0 := by
      have := congrArg List.length h9
      simp only [List.length_map, Array.length_toList] at this
      omega
    rw [List.length_eq_zero_iff.1 this] at h10
    exact h10.nil_eq.symm
  · obtain ⟨hem, hes⟩ := mem_left hx
    obtain ⟨j, hj, hjx⟩ := List.getElem_of_mem hx
    have hTl : T.length = (leftOf es seen).toList.length := by have := congrArg List.length h9; simp only [List.length_map] at this; omega
    obtain ⟨p, q1, q2, q3⟩ := entry_shape h9 (show (leftOf es seen).toList[j]? = some x by rw [List.getElem?_eq_getElem hj, hjx])
    have hr1 : w1.heap[r]? = some (.mapIter (some b) since seen c0) := by rcases hal with rfl | rfl <;> exact h5
    have hb1 : w1.heap[b]? = some (.map es clock) := by rcases hal with rfl | rfl <;> exact h1
    have hset := heap_set (o' := .mapIter (some b) since (seen.push x.born) clock) hr1
    have hb' : (setBlock w1 r (.mapIter (some b) since (seen.push x.born) clock)).heap[b]? = some (.map es clock) := (hset.2 b (fun e1 => hne e1.symm)).trans hb1
    have hborn : ((leftOf es seen).toList.map (·.born)).Nodup := by
      have hsl : (leftOf es seen).toList.Sublist es.toList := by
        unfold leftOf
        rw [Array.toList_filter]
        exact List.filter_sublist
      exact (hsl.map _).nodup h2.2.1
    have hleft : (leftOf es (seen.push x.born)).toList = (leftOf es seen).toList.take j ++ (leftOf es seen).toList.drop (j + 1) := by
      have e1 : (leftOf es (seen.push x.born)).toList = (leftOf es seen).toList.filter (fun y => !(y.born == x.born)) := by
        unfold leftOf
        rw [Array.toList_filter, Array.toList_filter, List.filter_filter]
        refine List.filter_congr fun y _ => ?_
        rw [contains_push]
        cases seen.contains y.born <;> cases (y.born == x.born) <;> rfl
      have e2 := offL_at (L := (leftOf es seen).toList.map fun y => (y.born, y)) (by rw [List.map_map]; exact hborn) (j := j) (by simpa using hj)
      unfold offL at e2
      rw [List.filter_map, ← List.map_take, ← List.map_drop, ← List.map_append] at e2
      have e3 := congrArg (List.map Prod.snd) e2
      simp only [List.map_map, Function.comp_def, List.map_id'] at e3
      rw [e1, ← e3]
      refine List.filter_congr fun y _ => ?_
      simp only [List.getElem_map, hjx]
      by_cases hq : y.born = x.born <;> simp [hq]
    have hjT : j < T.length := by omega
    have hTj : T[j] = p := by rw [List.getElem?_eq_getElem hjT] at q1; exact Option.some.inj q1
    have hTs : T.Perm (p :: (T.take j ++ T.drop (j + 1))) := by
      have : T = T.take j ++ p :: T.drop (j + 1) := by rw [← hTj]; simp
      exact (List.Perm.of_eq this).trans List.perm_middle
    refine Or.inr ⟨p, T.take j ++ T.drop (j + 1), _, h10.symm.trans hTs, by rw [← q2, ← q3]; exact hrun,
      ⟨es, clock, since, seen.push x.born, clock, M, _, hb', h2, h3, h4, hset.1, h6, h8, h8, ?_, List.Perm.refl _⟩, ?_, ?_, by
        rw [← q2, ← q3]
        exact run_entry_at _ r b since seen es clock x hset.1 hb' hem ((stamped_iff es clock).1 h2).2.1⟩
    · rw [hleft, List.map_append, List.map_append, List.map_take, List.map_drop, List.map_take, List.map_drop, h9]
    · rcases hal with rfl | rfl <;> exact ⟨rfl, rfl, rfl, by simp [setBlock], fun i _ hi => hset.2 i hi⟩
    · rcases hal with rfl | rfl <;> simp [setBlock]

/-! ### at the operation -/

/-- 'v, ok := m[k]'. -/
theorem wpList_k_look_ok [DecidableEq K] (S : KShape P k ek) {w : World} {ops : Array Oper} {rest : List Oper} {o : Oper} {a : Act} {Q : Exit → Act → World → Prop} (hg : o.guard = none) (m x : Operand) (t : TypeId)
    (hop : o.op = Op.lookup t m x true) (ht : P.underlying t = some (.map k e)) (zv : V) (hz : (zeroValue e).run P w = .ok (ev zv) w) (b : Nat) (L : List (K × V)) (hm : a.eval m = .map (some b)) (h : KMap ek ev w b L) (key : K) (hx : a.eval x = ek key)
    (hK : ∀ v, v = (lookL L key).getD zv → wpList P ops Q rest (a.put o.dst (.tuple #[ev v, .bool (lookL L key).isSome])) w) : wpList P ops Q (o :: rest) a w := by
  refine wpList_plain hg fun K' hK' => ?_
  have hrun := h.look S ht hz key true
  rw [if_pos rfl, show ((lookL L key).map ev).getD (ev zv) = ev ((lookL L key).getD zv) by cases lookL L key <;> rfl] at hrun
  unfold Oper.wp
  simp [execOp, hop, hm, hx, hrun, Result.andThen]
  exact hK' _ _ (hK _ rfl)

/-- 'm[k]'. -/
theorem wpList_k_look [DecidableEq K] (S : KShape P k ek) {w : World} {ops : Array Oper} {rest : List Oper} {o : Oper} {a : Act} {Q : Exit → Act → World → Prop} (hg : o.guard = none) (m x : Operand) (t : TypeId)
    (hop : o.op = Op.lookup t m x false) (ht : P.underlying t = some (.map k e)) (zv : V) (hz : (zeroValue e).run P w = .ok (ev zv) w) (b : Nat) (L : List (K × V)) (hm : a.eval m = .map (some b)) (h : KMap ek ev w b L) (key : K) (hx : a.eval x = ek key)
    (hK : ∀ v, v = (lookL L key).getD zv → wpList P ops Q rest (a.put o.dst (ev v)) w) : wpList P ops Q (o :: rest) a w := by
  refine wpList_plain hg fun K' hK' => ?_
  have hrun := h.look S ht hz key false
  rw [if_neg (by decide), show ((lookL L key).map ev).getD (ev zv) = ev ((lookL L key).getD zv) by cases lookL L key <;> rfl] at hrun
  unfold Oper.wp
  simp [execOp, hop, hm, hx, hrun, Result.andThen]
  exact hK' _ _ (hK _ rfl)

/-- 'm[k] = v'. -/
theorem wpList_k_store [DecidableEq K] (S : KShape P k ek) {w : World} {ops : Array Oper} {rest : List Oper} {o : Oper} {a : Act} {Q : Exit → Act → World → Prop} (hg : o.guard = none) (m x v : Operand) (t : TypeId)
    (hop : o.op = Op.mapUpdate t m x v) (ht : P.underlying t = some (.map k e)) (b : Nat) (L : List (K × V)) (hm : a.eval m = .map (some b)) (h : KMap ek ev w b L) (key : K) (hx : a.eval x = ek key) (val : V) (hv : a.eval v = ev val)
    (hK : ∀ w', Hid (KMap ek ev w' b ((key, val) :: offL L key)) → Hid (But (fun i => i = b) w w') → Hid (w'.heap.size = w.heap.size) → wpList P ops Q rest (a.put o.dst undef) w') : wpList P ops Q (o :: rest) a w := by
  refine wpList_plain hg fun K' hK' => ?_
  obtain ⟨w', hrun, r1, r2, r3⟩ := h.store S ht key val
  unfold Oper.wp
  simp [execOp, hop, hm, hx, hv, hrun, Result.andThen]
  exact hK' _ _ (hK w' r1 r2 r3)

/-- 'delete(m, k)'. -/
theorem wpList_k_drop [DecidableEq K] (S : KShape P k ek) {w : World} {ops : Array Oper} {rest : List Oper} {o : Oper} {a : Act} {Q : Exit → Act → World → Prop} (hg : o.guard = none) (m x : Operand) (t : TypeId)
    (hop : o.op = Op.call { callee := Callee.builtin Builtin.delete, args := #[m, x], argTypes := #[t, k] }) (ht : P.underlying t = some (.map k e)) (b : Nat) (L : List (K × V)) (hm : a.eval m = .map (some b)) (h : KMap ek ev w b L) (key : K) (hx : a.eval x = ek key)
    (hK : ∀ w', Hid (KMap ek ev w' b (offL L key)) → Hid (But (fun i => i = b) w w') → Hid (w'.heap.size = w.heap.size) → wpList P ops Q rest (a.put o.dst (.tuple #[])) w') : wpList P ops Q (o :: rest) a w := by
  refine wpList_plain hg fun K' hK' => ?_
  obtain ⟨w', hrun, r1, r2, r3⟩ := h.drop S ht key o.type
  unfold Oper.wp
  simp [execOp, hop, resolve, invoke, builtin, hm, hx, hrun, Result.andThen]
  exact hK' _ _ (hK w' r1 r2 r3)

/-- 'len(m)'. -/
theorem wpList_k_len {w : World} {ops : Array Oper} {rest : List Oper} {o : Oper} {a : Act} {Q : Exit → Act → World → Prop} (hg : o.guard = none) (m : Operand) (t : TypeId)
    (hop : o.op = Op.call { callee := Callee.builtin Builtin.len, args := #[m], argTypes := #[t] }) (ht : P.underlying t = some (.map k e)) (b : Nat) (L : List (K × V)) (hm : a.eval m = .map (some b)) (h : KMap ek ev w b L)
    (hK : wpList P ops Q rest (a.put o.dst (.int .i64 (L.length : Int))) w) : wpList P ops Q (o :: rest) a w := by
  refine wpList_plain hg fun K' hK' => ?_
  have hrun := h.len (P := P) ht o.type
  unfold Oper.wp
  simp [execOp, hop, resolve, invoke, builtin, hm, hrun, Result.andThen]
  exact hK' _ _ hK

/-- 'range m'. -/
theorem wpList_k_range {w : World} {ops : Array Oper} {rest : List Oper} {o : Oper} {a : Act} {Q : Exit → Act → World → Prop} (hg : o.guard = none) (m : Operand) (t : TypeId)
    (hop : o.op = Op.range t m) (ht : P.underlying t = some (.map k e)) (b : Nat) (L : List (K × V)) (hm : a.eval m = .map (some b)) (h : KMap ek ev w b L)
    (hK : ∀ w', Hid (KRange ek ev w' b w.heap.size L L) → Hid (Below w.heap.size w w') → Hid (w'.heap.size = w.heap.size + 1) → wpList P ops Q rest (a.put o.dst (.pointer (some ⟨w.heap.size, 0, none⟩))) w') : wpList P ops Q (o :: rest) a w := by
  refine wpList_plain hg fun K' hK' => ?_
  obtain ⟨w', hrun, r1, r2, r3⟩ := h.range (P := P) ht
  unfold Oper.wp
  simp [execOp, hop, hm, hrun, Result.andThen]
  exact hK' _ _ (hK w' r1 r2 r3)

/-- The step. -/
theorem wpList_k_next {w : World} {ops : Array Oper} {rest : List Oper} {o : Oper} {a : Act} {Q : Exit → Act → World → Prop} (hg : o.guard = none) (it : Operand) (hop : o.op = Op.next it false)
    (b r : Nat) (L todo : List (K × V)) (hit : a.eval it = .pointer (some ⟨r, 0, none⟩)) (h : KRange ek ev w b r L todo)
    (hDone : todo = [] → wpList P ops Q rest (a.put o.dst (.tuple #[.bool false])) w)
    (hMore : ∀ (p : K × V) (todo' : List (K × V)) (w' : World), Hid (todo.Perm (p :: todo')) → Hid (KRange ek ev w' b r L todo') → Hid (But (fun i => i = r) w w') → Hid (w'.heap.size = w.heap.size) →
      (Instr.entry (.pointer (some ⟨r, 0, none⟩))).run P w' = .ok (.tuple #[ek p.1, ev p.2]) w' → wpList P ops Q rest (a.put o.dst (.tuple #[.bool true, ek p.1, ev p.2])) w') :
    wpList P ops Q (o :: rest) a w := by
  refine wpList_plain hg fun K' hK' => ?_
  unfold Oper.wp
  rcases h.next (P := P) o.type with ⟨h0, hrun⟩ | ⟨p, todo', w', hp, hrun, hr, hb, hs, hen⟩
  · simp [execOp, hop, hit, hrun, Result.andThen]
    exact hK' _ _ (hDone h0)
  · simp [execOp, hop, hit, hrun, Result.andThen]
    exact hK' _ _ (hMore p todo' w' hp hr hb hs hen)

end
end Go.Proofs.YtlhdbccemgofjaaGreatDoor

/-
  A graph as two maps: what stands in them, and what each call makes of them. It needs no program.
-/
namespace Go.Proofs.YtlhdbccemgofjaaGreatDoor
open StampMath GraphMath

def pairsI (g : Gr) : List (St × Ino) := (inodesG g).map fun x => (x.id, x)
def pairsE (g : Gr) : List ((St × ByteArray) × St) := g.E.map fun e => ((e.dir, e.name), e.ino)

section
variable {K V : Type} [DecidableEq K]

omit [DecidableEq K] in
theorem nodup_of_keys {L : List (K × V)} (h : (L.map Prod.fst).Nodup) : L.Nodup := by
  unfold List.Nodup at h ⊢
  rw [List.pairwise_map] at h
  exact h.imp fun q e => q (by rw [e])

omit [DecidableEq K] in
theorem perm_by {L M : List (K × V)} (hL : (L.map Prod.fst).Nodup) (hM : (M.map Prod.fst).Nodup) (h : ∀ k v, (k, v) ∈ L ↔ (k, v) ∈ M) : L.Perm M :=
  (List.perm_ext_iff_of_nodup (nodup_of_keys hL) (nodup_of_keys hM)).2 fun p => h p.1 p.2

theorem mem_offL {L : List (K × V)} {x k : K} {v : V} : (k, v) ∈ offL L x ↔ (k, v) ∈ L ∧ k ≠ x := by
  unfold offL
  simp

theorem keys_offL {L : List (K × V)} (h : (L.map Prod.fst).Nodup) (x : K) : ((offL L x).map Prod.fst).Nodup :=
  List.Pairwise.sublist (List.Sublist.map _ List.filter_sublist) h

theorem keys_put {L : List (K × V)} (h : (L.map Prod.fst).Nodup) (x : K) (v : V) : (((x, v) :: offL L x).map Prod.fst).Nodup := by
  rw [List.map_cons, List.nodup_cons]
  refine ⟨fun hm => ?_, keys_offL h x⟩
  obtain ⟨⟨k, u⟩, hp, rfl⟩ := List.mem_map.1 hm
  exact (mem_offL.1 hp).2 rfl

/-- A map with one thing more is this one. -/
theorem put_perm {L M : List (K × V)} (hL : (L.map Prod.fst).Nodup) (hM : (M.map Prod.fst).Nodup) {x : K} {v : V} (h : ∀ k, lookL M k = if k = x then some v else lookL L k) : ((x, v) :: offL L x).Perm M := by
  refine perm_by (keys_put hL x v) hM fun k u => ?_
  rw [List.mem_cons, mem_offL, ← mem_lookL hM, h k, ← mem_lookL hL]
  by_cases hk : k = x
  · subst hk
    simp [eq_comm]
  · simp [hk]

/-- A map with one thing less is this one. -/
theorem off_perm {L M : List (K × V)} (hL : (L.map Prod.fst).Nodup) (hM : (M.map Prod.fst).Nodup) {x : K} (h : ∀ k, lookL M k = if k = x then none else lookL L k) : (offL L x).Perm M := by
  refine perm_by (keys_offL hL x) hM fun k u => ?_
  rw [mem_offL, ← mem_lookL hM, h k, ← mem_lookL hL]
  by_cases hk : k = x
  · simp [hk]
  · simp [hk]
end

theorem look_pairsI {g : Gr} (h : g.ok) (id : St) : lookL (pairsI g) id = getG g id := by
  unfold lookL pairsI
  rw [h.inodes, List.map_map, List.find?_map, Option.map_map]
  unfold getG
  cases hq : g.I.find? (fun x => decide (x.id = id)) with
  | none =>
    rw [show (g.I.find? ((fun p => decide (p.1 = id)) ∘ (fun x : Ino => (x.id, x)) ∘ fun x => { x with links := (linksE g.E x.id : Int) })) = g.I.find? (fun x => decide (x.id = id)) from rfl, hq]
    rfl
  | some x =>
    rw [show (g.I.find? ((fun p => decide (p.1 = id)) ∘ (fun x : Ino => (x.id, x)) ∘ fun x => { x with links := (linksE g.E x.id : Int) })) = g.I.find? (fun x => decide (x.id = id)) from rfl, hq]
    have := List.find?_some hq
    simp at this
    simp [this]

theorem look_pairsE (g : Gr) (d : St) (nm : ByteArray) : lookL (pairsE g) (d, nm) = lookE g.E d nm := by
  unfold lookL pairsE lookE
  rw [List.find?_map, Option.map_map]
  congr 1
  refine congrArg (fun f => List.find? f g.E) (funext fun e => ?_)
  by_cases h1 : e.dir = d
  · by_cases h2 : e.name = nm
    · simp [h1, h2]
    · simp [h1, h2]
  · simp [h1]

theorem keys_pairsI {g : Gr} (h : g.ok) : ((pairsI g).map Prod.fst).Nodup := by
  unfold pairsI
  rw [List.map_map, h.inodes, List.map_map]
  unfold List.Nodup
  rw [List.pairwise_map]
  exact h.sortI.imp fun {x y} q (e : x.id = y.id) => by
    rw [e, lessS_irrefl] at q
    cases q

theorem keys_pairsE {g : Gr} (h : g.ok) : ((pairsE g).map Prod.fst).Nodup := by
  unfold pairsE
  rw [List.map_map]
  unfold List.Nodup
  rw [List.pairwise_map]
  refine h.sortE.imp fun {x y} q e => ?_
  have e1 : x.dir = y.dir := congrArg (fun p => p.1) e
  have e2 : x.name = y.name := congrArg (fun p => p.2) e
  rcases (aheadE_iff x y).1 q with q | ⟨_, q⟩
  · rw [e1, lessS_irrefl] at q
    cases q
  · rw [e2] at q
    exact bytes_irrefl _ q

theorem get_iff {g : Gr} (h : g.ok) {k : St} {v : Ino} : getG g k = some v ↔ ∃ x ∈ g.I, x.id = k ∧ v = { x with links := (linksE g.E k : Int) } := by
  constructor
  · exact get_some
  · rintro ⟨x, hx, rfl, rfl⟩
    exact h.get hx

theorem look_iff {g : Gr} (h : g.ok) {d : St} {nm : ByteArray} {id : St} : lookE g.E d nm = some id ↔ (⟨d, nm, id⟩ : Ent) ∈ g.E := by
  rw [← look_pairsE, mem_lookL (keys_pairsE h)]
  unfold pairsE
  rw [List.mem_map]
  constructor
  · rintro ⟨e, he, q⟩
    have : e = ⟨d, nm, id⟩ := by
      obtain ⟨a, b, c⟩ := e
      simp only [Prod.mk.injEq] at q
      obtain ⟨⟨rfl, rfl⟩, rfl⟩ := q
      rfl
    rw [← this]
    exact he
  · intro he
    exact ⟨_, he, rfl⟩

/-- No entry is of what isn't there. -/
theorem links_none {g : Gr} (h : g.ok) {id : St} (hn : getG g id = none) : linksE g.E id = 0 := by
  unfold linksE
  rw [List.filter_eq_nil_iff.2 (fun e he q => ?_)]
  · rfl
  · obtain ⟨x, hx, e1⟩ := h.inos e he
    exact get_none hn x hx (e1.trans (by simpa using q))

/-! ### Make -/
theorem make_get {g : Gr} (h : g.ok) {id : St} {kind : Int} (h1 : (makeG g id kind).2 = 0) (k : St) :
    getG (makeG g id kind).1 k = if k = id then some ⟨id, kind, 0, 0, ⟨#[]⟩⟩ else getG g k := by
  have hok := h.make id kind
  unfold makeG at h1 hok ⊢
  by_cases c1 : mayB id.1 id.2 = false ∨ kind < 1 ∨ 3 < kind
  · rw [if_pos c1] at h1; cases h1
  rw [if_neg c1] at h1 hok ⊢
  by_cases c2 : (getG g id).isSome = true
  · rw [if_pos c2] at h1; cases h1
  rw [if_neg c2] at h1 hok ⊢
  by_cases c3 : 40 ≤ g.I.length
  · rw [if_pos c3] at h1; cases h1
  rw [if_neg c3] at hok ⊢
  have hn : getG g id = none := by cases hq : getG g id with | none => rfl | some _ => rw [hq] at c2; simp at c2
  refine Option.ext fun v => ?_
  rw [get_iff hok]
  simp only [putIn_mem]
  by_cases hk : k = id
  · subst hk
    rw [if_pos rfl]
    constructor
    · rintro ⟨x, rfl | hx, e1, rfl⟩
      · simp [links_none h hn]
      · exact absurd e1 (get_none hn x hx)
    · intro e
      injection e with e
      exact ⟨_, Or.inl rfl, rfl, by rw [← e]; simp [links_none h hn]⟩
  · rw [if_neg hk, get_iff h]
    constructor
    · rintro ⟨x, rfl | hx, e1, rfl⟩
      · exact absurd e1.symm hk
      · exact ⟨x, hx, e1, rfl⟩
    · rintro ⟨x, hx, e1, rfl⟩
      exact ⟨x, Or.inr hx, e1, rfl⟩

theorem make_ents (g : Gr) (id : St) (kind : Int) : (makeG g id kind).1.E = g.E := by
  unfold makeG
  split <;> try rfl
  split <;> try rfl
  split <;> rfl

/-! ### Tie -/
theorem tie_get {g : Gr} {b : Bool} {e : Ent} (h1 : (tieG b g e).2 = 0) (k : St) :
    getG (tieG b g e).1 k = (getG g k).map fun x => if k = e.ino then { x with links := x.links + 1 } else x := by
  unfold tieG at h1 ⊢
  by_cases c : whyG b g e = 0
  · rw [if_pos c]
    unfold getG
    simp only [linksE_put, Option.map_map]
    congr 1
    funext x
    by_cases hk : k = e.ino
    · subst hk
      simp
    · have hk' : ¬ e.ino = k := fun q => hk q.symm
      simp [hk, hk']
  · rw [if_neg c] at h1
    exact absurd h1 c

theorem tie_look {g : Gr} (h : g.ok) {b : Bool} {e : Ent} (h1 : (tieG b g e).2 = 0) (p : St × ByteArray) :
    lookL (pairsE (tieG b g e).1) p = if p = (e.dir, e.name) then some e.ino else lookL (pairsE g) p := by
  have hok := h.tie b e
  unfold tieG at h1 hok ⊢
  by_cases c : whyG b g e = 0
  · rw [if_pos c] at hok ⊢
    have hn : lookE g.E e.dir e.name = none := by
      cases hq : lookE g.E e.dir e.name with
      | none => rfl
      | some y =>
        unfold whyG at c
        split at c
        · cases c
        · split at c
          · split at c
            · cases c
            · rw [hq] at c
              simp at c
          · cases c
    obtain ⟨d, nm⟩ := p
    rw [look_pairsE, look_pairsE]
    refine Option.ext fun id => ?_
    rw [look_iff hok, putIn_mem]
    by_cases hp : (d, nm) = (e.dir, e.name)
    · rw [if_pos hp]
      simp only [Prod.mk.injEq] at hp
      obtain ⟨rfl, rfl⟩ := hp
      constructor
      · rintro (q | q)
        · rw [← q]
        · exact absurd ⟨rfl, rfl⟩ (look_none hn _ q)
      · intro q
        injection q with q
        exact Or.inl (by rw [← q])
    · rw [if_neg hp, look_iff h]
      constructor
      · rintro (q | q)
        · exact absurd (by rw [← q]) hp
        · exact q
      · exact Or.inr
  · rw [if_neg c] at h1
    exact absurd h1 c

/-! ### Untie -/
theorem untie_look {g : Gr} (h : g.ok) {d : St} {nm : ByteArray} {id : St} (h1 : lookE g.E d nm = some id) (p : St × ByteArray) :
    lookL (pairsE (untieG g d nm).1) p = if p = (d, nm) then none else lookL (pairsE g) p := by
  have hok := h.untie d nm
  unfold untieG at hok ⊢
  rw [h1] at hok ⊢
  simp only at hok ⊢
  obtain ⟨d', nm'⟩ := p
  rw [look_pairsE, look_pairsE]
  refine Option.ext fun u => ?_
  rw [look_iff hok, List.mem_filter]
  by_cases hp : (d', nm') = (d, nm)
  · rw [if_pos hp]
    simp only [Prod.mk.injEq] at hp
    obtain ⟨rfl, rfl⟩ := hp
    simp
  · rw [if_neg hp, look_iff h]
    have : (!(decide (d' = d) && decide (nm' = nm))) = true := by
      by_cases a : d' = d
      · by_cases c : nm' = nm
        · exact absurd (by rw [a, c]) hp
        · simp [c]
      · simp [a]
    constructor
    · exact fun q => q.1
    · exact fun q => ⟨q, this⟩

theorem untie_links {g : Gr} (h : g.ok) {d : St} {nm : ByteArray} {id : St} (h1 : lookE g.E d nm = some id) (k : St) :
    (linksE (g.E.filter fun e => !(decide (e.dir = d) && decide (e.name = nm))) k : Int) = (linksE g.E k : Int) - if k = id then 1 else 0 := by
  have hm := (look_iff h).1 h1
  have hnd : g.E.Nodup := by
    have q := keys_pairsE h
    unfold pairsE at q
    rw [List.map_map] at q
    unfold List.Nodup at q ⊢
    rw [List.pairwise_map] at q
    exact q.imp fun r e => r (by rw [e])
  have hu : ∀ e ∈ g.E, (!(decide (e.dir = d) && decide (e.name = nm))) = !decide (e = ⟨d, nm, id⟩) := by
    intro e he
    by_cases q : e = ⟨d, nm, id⟩
    · subst q; simp
    · have : ¬ (e.dir = d ∧ e.name = nm) := by
        rintro ⟨rfl, rfl⟩
        refine q ?_
        have r := (look_iff h (d := e.dir) (nm := e.name) (id := e.ino)).2 he
        rw [h1] at r
        injection r with r
        rw [r]
      simp only [q, decide_false, Bool.not_false, Bool.not_eq_true', Bool.and_eq_false_iff, decide_eq_false_iff_not]
      by_cases a : e.dir = d
      · exact Or.inr fun c => this ⟨a, c⟩
      · exact Or.inl a
  rw [List.filter_congr hu]
  obtain ⟨A, B, hE⟩ := List.append_of_mem hm
  rw [hE] at hnd ⊢
  have hA : ∀ e ∈ A, (!decide (e = (⟨d, nm, id⟩ : Ent))) = true := fun e he => by
    have := (List.nodup_append.1 hnd).2.2 e he ⟨d, nm, id⟩ (List.mem_cons_self ..)
    simp [this]
  have hB : ∀ e ∈ B, (!decide (e = (⟨d, nm, id⟩ : Ent))) = true := fun e he => by
    have q := (List.nodup_cons.1 (List.nodup_append.1 hnd).2.1).1
    have : e ≠ ⟨d, nm, id⟩ := fun r => q (r ▸ he)
    simp [this]
  rw [List.filter_append, List.filter_eq_self.2 hA, List.filter_cons_of_neg (by simp), List.filter_eq_self.2 hB]
  unfold linksE
  simp only [List.filter_append, List.filter_cons, List.length_append]
  by_cases hk : k = id
  · subst hk
    simp
    omega
  · have hk' : ¬ id = k := fun q => hk q.symm
    simp [hk, hk']

theorem untie_get {g : Gr} (h : g.ok) {d : St} {nm : ByteArray} {id : St} (h1 : lookE g.E d nm = some id) (k : St) :
    getG (untieG g d nm).1 k = (getG g k).map fun x => if k = id then { x with links := x.links - 1 } else x := by
  unfold untieG
  rw [h1]
  unfold getG
  simp only [untie_links h h1, Option.map_map]
  congr 1
  funext x
  by_cases hk : k = id
  · simp [hk]
  · simp [hk]

/-! ### Drop -/
theorem drop_get {g : Gr} (h : g.ok) {id : St} (h1 : (dropG g id).2 = 0) (k : St) : getG (dropG g id).1 k = if k = id then none else getG g k := by
  have hok := h.drop id
  cases hq : getG g id with
  | none =>
    unfold dropG at h1
    rw [hq] at h1
    cases h1
  | some x =>
    unfold dropG at h1 hok ⊢
    rw [hq] at h1 hok ⊢
    simp only at h1 hok ⊢
    by_cases c1 : id = (0, 0)
    · rw [if_pos c1] at h1; cases h1
    rw [if_neg c1] at h1 hok ⊢
    by_cases c2 : 0 < x.links ∨ 0 < (listE g.E id).length
    · rw [if_pos c2] at h1; cases h1
    rw [if_neg c2] at hok ⊢
    refine Option.ext fun v => ?_
    rw [get_iff hok]
    simp only [List.mem_filter]
    by_cases hk : k = id
    · subst hk
      rw [if_pos rfl]
      constructor
      · rintro ⟨y, ⟨_, hy⟩, e1, _⟩
        simp [e1] at hy
      · intro q; cases q
    · rw [if_neg hk, get_iff h]
      constructor
      · rintro ⟨y, ⟨hy, _⟩, e1, rfl⟩
        exact ⟨y, hy, e1, rfl⟩
      · rintro ⟨y, hy, e1, rfl⟩
        refine ⟨y, ⟨hy, ?_⟩, e1, rfl⟩
        have : ¬ y.id = id := fun q => hk (e1.symm.trans q)
        simp [this]

theorem drop_ents (g : Gr) (id : St) : (dropG g id).1.E = g.E := by
  unfold dropG
  split
  · rfl
  · split
    · rfl
    · split <;> rfl

/-! ### Set -/
theorem set_get {g : Gr} {id : St} {mode : Int} {data : ByteArray} (k : St) :
    getG (setG g id mode data).1 k = (getG g k).map fun x => if k = id then { x with mode := mode, data := data } else x := by
  have hx : ∀ {x : Ino} {s : St}, g.I.find? (fun x => decide (x.id = s)) = some x → x.id = s := fun h => by
    have := List.find?_some h
    simpa using this
  cases hq : getG g id with
  | none =>
    unfold setG
    rw [hq]
    cases hk : getG g k with
    | none => rfl
    | some x =>
      have : ¬ k = id := fun q => by rw [q, hq] at hk; cases hk
      simp [this]
  | some y =>
    unfold setG
    rw [hq]
    unfold getG
    simp only [List.find?_map, Option.map_map]
    have e : ((fun x : Ino => decide (x.id = k)) ∘ fun x => if x.id = id then { x with mode := mode, data := data } else x) = fun x => decide (x.id = k) := by
      funext x
      simp only [Function.comp]
      split <;> rfl
    rw [e]
    cases hf : g.I.find? (fun x => decide (x.id = k)) with
    | none => rfl
    | some x =>
      have hxk := hx hf
      simp only [Option.map_some, Function.comp, Option.some.injEq]
      by_cases hk : k = id
      · have : x.id = id := hxk.trans hk
        simp [hk, this]
      · have : ¬ x.id = id := fun r => hk (hxk.symm.trans r)
        simp [hk, this]

theorem set_ents (g : Gr) (id : St) (mode : Int) (data : ByteArray) : (setG g id mode data).1.E = g.E := by
  unfold setG
  split <;> rfl

end Go.Proofs.YtlhdbccemgofjaaGreatDoor

/-
  Plain mathematics of layer 9: directories are trees; links are counted right. It needs no program.
-/
namespace Go.Proofs.YtlhdbccemgofjaaGreatDoor.GraphMath
open StampMath

theorem leads_trans {g : Gr} {a b c : St} (h : Leads g a b) (k : Leads g b c) : Leads g a c := by
  induction h with
  | here _ => exact k
  | up e d he hd _ ih => exact Leads.up e c he hd (ih k)

theorem leads_rank {g : Gr} {f : St → Nat} (hf : ∀ e ∈ g.E, g.isDir e.ino → f e.dir < f e.ino) {a b : St} (h : Leads g a b) : a = b ∨ f b < f a := by
  induction h with
  | here _ => exact Or.inl rfl
  | up e d he hd _ ih =>
    have := hf e he hd
    rcases ih with rfl | h
    · exact Or.inr this
    · exact Or.inr (by omega)

theorem Gr.ok.anti {g : Gr} (h : g.ok) {a b : St} (h1 : underG g a b = true) (h2 : underG g b a = true) : a = b := by
  obtain ⟨f, hf⟩ := h.rank
  rcases leads_rank hf (h.leads.1 h1) with e | e
  · exact e
  · rcases leads_rank hf (h.leads.1 h2) with q | q
    · exact q.symm
    · omega

theorem Gr.ok.utrans {g : Gr} (h : g.ok) {a b c : St} (h1 : underG g a b = true) (h2 : underG g b c = true) : underG g a c = true :=
  h.leads.2 (leads_trans (h.leads.1 h1) (h.leads.1 h2))

theorem under_self (g : Gr) (a : St) : underG g a a = true := by
  unfold underG
  rw [underN_step, if_pos rfl]

/-- None is under itself by another one. -/
theorem Gr.ok.no_loop {g : Gr} (h : g.ok) {id p : St} (hp : parentG g id = some p) : underG g p id = false := by
  cases hu : underG g p id with
  | false => rfl
  | true =>
    obtain ⟨e, he, rfl, rfl, hd⟩ := parent_of hp
    obtain ⟨f, hf⟩ := h.rank
    have := hf e he hd
    rcases leads_rank hf (h.leads.1 hu) with q | q
    · rw [q] at this; omega
    · omega

theorem Gr.ok.under_up {g : Gr} (h : g.ok) {a p : St} (hp : parentG g a = some p) : underG g a p = true := by
  obtain ⟨e, he, rfl, rfl, hd⟩ := parent_of hp
  exact h.leads.2 (Leads.up e _ he hd (Leads.here _))

/-- Behind the first step. -/
theorem Gr.ok.under_step {g : Gr} (h : g.ok) {a b p : St} (hp : parentG g a = some p) (hab : a ≠ b) : underG g a b = underG g p b := by
  rw [Bool.eq_iff_iff, h.leads, h.leads]
  constructor
  · intro hl
    cases hl with
    | here _ => exact absurd rfl hab
    | up e d he hd hl =>
      have := h.parent he hd
      rw [hp] at this
      rw [Option.some.inj this]
      exact hl
  · intro hl
    obtain ⟨e, he, rfl, rfl, hd⟩ := parent_of hp
    exact Leads.up e b he hd hl

/-- A parent there is just of a directory with a link. -/
theorem Gr.ok.parent_iff {g : Gr} (h : g.ok) {x : Ino} (hx : x ∈ g.I) : (parentG g x.id).isSome = (decide (x.kind = 1) && decide (linksE g.E x.id = 1)) := by
  cases hp : parentG g x.id with
  | some p =>
    obtain ⟨e, he, hei, _, hd⟩ := parent_of hp
    have h1 := h.one x.id hd
    have h2 : 0 < linksE g.E x.id := List.length_pos_of_mem (a := e) (List.mem_filter.2 ⟨he, by simp [hei]⟩)
    obtain ⟨y, hy, hyi, hyk⟩ := hd
    have := h.ids hy hx hyi
    subst this
    rw [decide_eq_true hyk, decide_eq_true (by omega)]
    rfl
  | none =>
    symm
    rw [Option.isSome_none, Bool.and_eq_false_iff]
    by_cases hk : x.kind = 1
    · refine Or.inr (decide_eq_false fun hl => ?_)
      have hpos : 0 < (g.E.filter fun e => decide (e.ino = x.id)).length := by unfold linksE at hl; omega
      obtain ⟨e, hem⟩ := List.exists_mem_of_length_pos hpos
      obtain ⟨he, hei⟩ := List.mem_filter.1 hem
      have hei : e.ino = x.id := by simpa using hei
      have := h.parent he ⟨x, hx, hei.symm, hk⟩
      rw [hei, hp] at this
      cases this
    · exact Or.inl (decide_eq_false hk)

end Go.Proofs.YtlhdbccemgofjaaGreatDoor.GraphMath

/-
  Plain mathematics of layer 8: bytes written, cut off, read. It needs no program.
-/
namespace Go.Proofs.YtlhdbccemgofjaaGreatDoor.ExtentMath
open Go.RowKit

/-- The first k bytes that a function tells. -/
def bld (f : Nat → UInt8) (k : Nat) : List UInt8 := (List.range k).map f

theorem bld_succ (f : Nat → UInt8) (k : Nat) : bld f (k + 1) = bld f k ++ [f k] := by
  unfold bld
  rw [List.range_succ, List.map_append]
  rfl

theorem bld_len (f : Nat → UInt8) (k : Nat) : (bld f k).length = k := by simp [bld]

theorem bld_get (f : Nat → UInt8) {k i : Nat} (h : i < k) : (bld f k)[i]? = some (f i) := by
  unfold bld
  rw [List.getElem?_map, List.getElem?_range h]
  rfl

/-- A byte of d; 0 behind its end. -/
def bAt (d : List UInt8) (i : Nat) : UInt8 := d.getD i 0

theorem bAt_lt {d : List UInt8} {i : Nat} (h : i < d.length) : bAt d i = d[i] := by
  unfold bAt
  rw [List.getD_eq_getElem?_getD, List.getElem?_eq_getElem h]
  rfl

theorem bAt_ge {d : List UInt8} {i : Nat} (h : d.length ≤ i) : bAt d i = 0 := by
  unfold bAt
  rw [List.getD_eq_getElem?_getD, List.getElem?_eq_none h]
  rfl

theorem bAt_bld (f : Nat → UInt8) {k i : Nat} (h : i < k) : bAt (bld f k) i = f i := by
  unfold bAt
  rw [List.getD_eq_getElem?_getD, bld_get f h]
  rfl

/-- Lists with the same bytes are the same. -/
theorem same_bytes {a b : List UInt8} (hl : a.length = b.length) (h : ∀ i, i < a.length → bAt a i = bAt b i) : a = b := by
  apply List.ext_getElem hl
  intro i h1 h2
  have := h i h1
  rw [bAt_lt h1, bAt_lt h2] at this
  exact this

theorem bld_self (d : List UInt8) : bld (bAt d) d.length = d :=
  same_bytes (bld_len _ _) fun i hi => bAt_bld _ (by rw [bld_len] at hi; exact hi)

/-- Written at o. -/
def wF (d s : List UInt8) (o i : Nat) : UInt8 := if o ≤ i ∧ i < o + s.length then bAt s (i - o) else bAt d i
def wL (d s : List UInt8) (o : Nat) : List UInt8 := bld (wF d s o) (max d.length (o + s.length))
/-- Of size n. -/
def tL (d : List UInt8) (n : Nat) : List UInt8 := bld (bAt d) n
/-- Read at o. -/
def rL (d : List UInt8) (o m : Nat) : List UInt8 := (d.drop o).take m

theorem wL_len (d s : List UInt8) (o : Nat) : (wL d s o).length = max d.length (o + s.length) := bld_len _ _
theorem tL_len (d : List UInt8) (n : Nat) : (tL d n).length = n := bld_len _ _
theorem rL_len (d : List UInt8) (o m : Nat) : (rL d o m).length = min m (d.length - o) := by unfold rL; rw [List.length_take, List.length_drop]

theorem bAt_wL (d s : List UInt8) (o i : Nat) : bAt (wL d s o) i = wF d s o i := by
  unfold wL
  by_cases h : i < max d.length (o + s.length)
  · exact bAt_bld _ h
  · rw [bAt_ge (by rw [bld_len]; omega)]
    unfold wF
    rw [if_neg (by omega), bAt_ge (by omega)]

theorem bAt_tL (d : List UInt8) (n i : Nat) : bAt (tL d n) i = if i < n then bAt d i else 0 := by
  unfold tL
  by_cases h : i < n
  · rw [if_pos h]; exact bAt_bld _ h
  · rw [if_neg h]; exact bAt_ge (by rw [bld_len]; omega)

theorem bAt_rL (d : List UInt8) (o m i : Nat) : bAt (rL d o m) i = if i < m then bAt d (o + i) else 0 := by
  unfold rL bAt
  rw [List.getD_eq_getElem?_getD, List.getD_eq_getElem?_getD, List.getElem?_take]
  by_cases h : i < m
  · rw [if_pos h, if_pos h, List.getElem?_drop]
  · rw [if_neg h, if_neg h]; rfl

/-- What Write tells: the data, the error. -/
def wR (d : ByteArray) (off : Int) (s : ByteArray) : ByteArray × Int :=
  if off < 0 ∨ s.size = 0 then (d, 1)
  else if 64 < off ∨ 64 < s.size ∨ 64 < d.size ∨ 64 < off + (s.size : Int) then (d, 11)
  else (⟨(wL d.data.toList s.data.toList off.toNat).toArray⟩, 0)

def tR (d : ByteArray) (n : Int) : ByteArray × Int :=
  if n < 0 then (d, 1) else if 64 < n ∨ 64 < d.size then (d, 11) else (⟨(tL d.data.toList n.toNat).toArray⟩, 0)

def rR (d : ByteArray) (off many : Int) : ByteArray := if off < 0 then ⟨#[]⟩ else ⟨(rL d.data.toList off.toNat many.toNat).toArray⟩

/-- Reading byte by byte. -/
theorem rL_bld (d : List UInt8) (o m : Nat) : rL d o m = bld (fun i => bAt d (o + i)) (min m (d.length - o)) :=
  same_bytes (by rw [rL_len, bld_len]) fun i hi => by
    rw [rL_len] at hi
    rw [bAt_rL, if_pos (by omega), bAt_bld _ hi]

/-- What was written is read. -/
theorem read_wrote (d s : List UInt8) (o : Nat) : rL (wL d s o) o s.length = s :=
  same_bytes (by rw [rL_len, wL_len]; omega) fun i hi => by
    rw [rL_len, wL_len] at hi
    rw [bAt_rL, if_pos (by omega), bAt_wL]
    unfold wF
    rw [if_pos (by omega)]
    congr 1
    omega

/-- One byte elsewhere is as it was, a zero between. -/
theorem read_else (d s : List UInt8) (o k : Nat) (h : k < o ∨ o + s.length ≤ k) : rL (wL d s o) k 1 = if d.length ≤ k ∧ k < o then [0] else rL d k 1 := by
  by_cases hz : d.length ≤ k ∧ k < o
  · rw [if_pos hz]
    refine same_bytes (by rw [rL_len, wL_len]; simp; omega) fun i hi => ?_
    rw [rL_len, wL_len] at hi
    obtain rfl : i = 0 := by omega
    rw [bAt_rL, if_pos (by omega), bAt_wL]
    unfold wF
    rw [if_neg (by omega), bAt_ge (by omega)]
    rfl
  · rw [if_neg hz]
    refine same_bytes (by rw [rL_len, rL_len, wL_len]; omega) fun i hi => ?_
    rw [rL_len, wL_len] at hi
    obtain rfl : i = 0 := by omega
    rw [bAt_rL, bAt_rL, if_pos Nat.zero_lt_one, bAt_wL]
    unfold wF
    rw [if_neg (by omega)]
    rfl

theorem trunc_twice (d : List UInt8) (n : Nat) : tL (tL d n) n = tL d n :=
  same_bytes (by rw [tL_len, tL_len]) fun i hi => by
    rw [tL_len] at hi
    rw [bAt_tL, if_pos hi]

theorem trunc_read (d : List UInt8) (m n k : Nat) (hm : k ≤ m) (hn : k ≤ n) (hd : k ≤ d.length) : rL (tL (tL d m) n) 0 k = rL d 0 k :=
  same_bytes (by rw [rL_len, rL_len, tL_len]; omega) fun i hi => by
    rw [rL_len, tL_len] at hi
    rw [bAt_rL, bAt_rL, if_pos (by omega), if_pos (by omega), bAt_tL, if_pos (by omega), bAt_tL, if_pos (by omega)]

theorem trunc_zero (d : List UInt8) (m n i : Nat) (h : m ≤ i ∨ d.length ≤ i) : bAt (tL (tL d m) n) i = 0 := by
  rw [bAt_tL]
  split
  · rw [bAt_tL]
    split
    · rw [bAt_ge (by omega)]
    · rfl
  · rfl

theorem write_twice (d s : List UInt8) : wL (wL d s 0) s 0 = wL d s 0 :=
  same_bytes (by rw [wL_len, wL_len]; omega) fun i hi => by
    rw [bAt_wL, bAt_wL]
    unfold wF
    by_cases h : 0 ≤ i ∧ i < 0 + s.length
    · rw [if_pos h, if_pos h]
    · rw [if_neg h, bAt_wL]
      unfold wF
      rw [if_neg h]

theorem write_apart (d s t : List UInt8) (i k : Nat) (h : i + s.length ≤ k ∨ k + t.length ≤ i) : wL (wL d s i) t k = wL (wL d t k) s i :=
  same_bytes (by rw [wL_len, wL_len, wL_len, wL_len]; omega) fun j hj => by
    rw [bAt_wL, bAt_wL]
    unfold wF
    rw [bAt_wL, bAt_wL]
    unfold wF
    by_cases h1 : k ≤ j ∧ j < k + t.length
    · rw [if_pos h1, if_neg (by omega)]
      rw [if_pos h1]
    · rw [if_neg h1]
      by_cases h2 : i ≤ j ∧ j < i + s.length
      · rw [if_pos h2, if_pos h2]
      · rw [if_neg h2, if_neg h2, if_neg h1]

theorem write_over (d s t : List UInt8) (i k : Nat) (h1 : k ≤ i) (h2 : i + s.length ≤ k + t.length) : wL (wL d s i) t k = wL d t k :=
  same_bytes (by rw [wL_len, wL_len, wL_len]; omega) fun j hj => by
    rw [bAt_wL, bAt_wL]
    unfold wF
    by_cases h : k ≤ j ∧ j < k + t.length
    · rw [if_pos h, if_pos h]
    · rw [if_neg h, if_neg h, bAt_wL]
      unfold wF
      rw [if_neg (by omega)]

end Go.Proofs.YtlhdbccemgofjaaGreatDoor.ExtentMath

/-
  Plain mathematics of layer 11: why an operation can't be done on a graph, and what it makes. It needs no program.
-/
namespace Go.Proofs.YtlhdbccemgofjaaGreatDoor.GraphMath
open StampMath OpMath ExtentMath

def oAt (o : Opn) : St := (o.pt, o.pr)
def oIno (o : Opn) : St := (o.it, o.ir)
def oTo (o : Opn) : St := (o.tt, o.tr)
def oSt (o : Opn) : St := (o.st, o.sr)

/-- An inode's kind; 0: there is none. -/
def kindG (g : Gr) (id : St) : Int := ((getG g id).getD noIno).kind
/-- An inode's links. -/
def linksG (g : Gr) (id : St) : Int := ((getG g id).getD noIno).links

/-- Why can't an inode be made, or have one entry more? -/
def makesW (g : Gr) (o : Opn) : Int :=
  if kindG g (oAt o) = 0 ∨ (o.k = 4 ∧ kindG g (oIno o) = 0) then 3
  else if kindG g (oAt o) ≠ 1 then 6
  else if o.k = 4 ∧ kindG g (oIno o) = 1 then 5
  else if (lookE g.E (oAt o) o.name).isSome ∨ (o.k ≠ 4 ∧ kindG g (oSt o) ≠ 0) then 4
  else if o.k ≠ 4 ∧ 40 ≤ g.I.length then 13
  else if o.k = 4 ∧ 6 ≤ linksG g (oIno o) then 12
  else 0

/-- The target of a Rename. -/
def targetG (g : Gr) (o : Opn) : Option St := lookE g.E (oTo o) o.new

/-- Why can't an entry be another one? -/
def renamesW (g : Gr) (o : Opn) : Int :=
  if lookE g.E (oAt o) o.name ≠ some (oIno o) ∨ kindG g (oTo o) = 0 then 3
  else if kindG g (oTo o) ≠ 1 then 6
  else if targetG g o = some (oIno o) then 0
  else if kindG g (oIno o) = 1 ∧ underG g (oTo o) (oIno o) = true then 8
  else if ((targetG g o).isSome ∧ kindG g ((targetG g o).getD (0, 0)) = 1) ∧ kindG g (oIno o) ≠ 1 then 5
  else if (targetG g o).isSome ∧ kindG g (oIno o) = 1 ∧ ¬ ((targetG g o).isSome ∧ kindG g ((targetG g o).getD (0, 0)) = 1) then 6
  else if ((targetG g o).isSome ∧ kindG g ((targetG g o).getD (0, 0)) = 1) ∧ 0 < (listE g.E ((targetG g o).getD (0, 0))).length then 7
  else 0

/-- Why can't an operation be done? -/
def whyA (g : Gr) (o : Opn) : Int :=
  if mayO o = false then 1
  else if o.k ≤ 4 then makesW g o
  else if o.k = 7 then renamesW g o
  else if (o.k ≤ 6 ∧ lookE g.E (oAt o) o.name ≠ some (oIno o)) ∨ kindG g (oIno o) = 0 then 3
  else if (o.k = 5 ∨ o.k = 8 ∨ o.k = 9) ∧ kindG g (oIno o) = 1 then 5
  else if o.k = 6 ∧ kindG g (oIno o) ≠ 1 then 6
  else if o.k = 6 ∧ 0 < (listE g.E (oIno o)).length then 7
  else if (o.k = 8 ∨ o.k = 9) ∧ kindG g (oIno o) = 3 then 8
  else 0

/-- Without an entry, and without its inode, if that was the last one. -/
def goneG (g : Gr) (d : St) (nm : ByteArray) : Gr :=
  if linksE (untieG g d nm).1.E (untieG g d nm).2.1 = 0 then (dropG (untieG g d nm).1 (untieG g d nm).2.1).1 else (untieG g d nm).1

def tie1 (g : Gr) (d : St) (nm : ByteArray) (ino : St) : Gr := (tieG (nameB nm) g ⟨d, nm, ino⟩).1

/-- What an inode has. -/
def inoG (g : Gr) (id : St) : Ino := (getG g id).getD noIno

def bytes (l : List UInt8) : ByteArray := ⟨l.toArray⟩

/-- What an operation that can be done makes. -/
def madeA (g : Gr) (o : Opn) : Gr :=
  if o.k ≤ 3 then tie1 (setG (makeG g (oSt o) o.k).1 (oSt o) 0 o.data).1 (oAt o) o.name (oSt o)
  else if o.k = 4 then tie1 g (oAt o) o.name (oIno o)
  else if o.k ≤ 6 then goneG g (oAt o) o.name
  else if o.k = 7 then
    if targetG g o = some (oIno o) then g
    else tie1 (untieG (if (targetG g o).isSome then goneG g (oTo o) o.new else g) (oAt o) o.name).1 (oTo o) o.new (oIno o)
  else if o.k = 8 then (setG g (oIno o) (inoG g (oIno o)).mode (bytes (wL (inoG g (oIno o)).data.data.toList o.data.data.toList o.off.toNat))).1
  else if o.k = 9 then (setG g (oIno o) (inoG g (oIno o)).mode (bytes (tL (inoG g (oIno o)).data.data.toList o.off.toNat))).1
  else (setG g (oIno o) o.off (inoG g (oIno o)).data).1

/-- What an operation makes, and what it answers. -/
def doA (g : Gr) (o : Opn) : Gr × Int := if whyA g o = 0 then (madeA g o, 0) else (g, whyA g o)

/-- A graph that is fine. -/
structure Gr.fine (g : Gr) : Prop where
  ok : g.ok
  names : ∀ e ∈ g.E, nameB e.name = true
  held : ∀ x ∈ g.I, x.id ≠ (0, 0) → 1 ≤ linksE g.E x.id
  bound : ∀ x ∈ g.I, boundOk1 x

/-! ### kinds -/

theorem kindG_I (g : Gr) (id : St) : kindG g id = ((g.I.find? fun x => decide (x.id = id)).map (·.kind)).getD 0 := by
  unfold kindG getG
  cases g.I.find? (fun x => decide (x.id = id)) <;> rfl

theorem kindG_same {g g' : Gr} (h : g.I = g'.I) (id : St) : kindG g id = kindG g' id := by rw [kindG_I, kindG_I, h]

theorem Gr.ok.kindG {g : Gr} (h : g.ok) {x : Ino} (hx : x ∈ g.I) : GraphMath.kindG g x.id = x.kind := by
  unfold GraphMath.kindG
  rw [h.get hx]
  rfl

theorem kindG_some {g : Gr} {id : St} (h : kindG g id ≠ 0) : ∃ x ∈ g.I, x.id = id ∧ x.kind = kindG g id := by
  rw [kindG_I] at h ⊢
  cases hq : g.I.find? (fun x => decide (x.id = id)) with
  | none => rw [hq] at h; exact absurd rfl h
  | some x => exact ⟨x, List.mem_of_find?_eq_some hq, by simpa using List.find?_some hq, rfl⟩

theorem kindG_dir {g : Gr} {id : St} (h : kindG g id = 1) : g.isDir id := by
  obtain ⟨x, hx, h1, h2⟩ := kindG_some (g := g) (id := id) (by rw [h]; decide)
  exact ⟨x, hx, h1, h2.trans h⟩

theorem Gr.ok.kindDir {g : Gr} (h : g.ok) {id : St} (hd : g.isDir id) : GraphMath.kindG g id = 1 := by
  obtain ⟨x, hx, h1, h2⟩ := hd
  rw [← h1, h.kindG hx, h2]

theorem Gr.ok.there {g : Gr} (h : g.ok) {id : St} (hk : GraphMath.kindG g id ≠ 0) : ∃ x, getG g id = some x := by
  obtain ⟨x, hx, h1, _⟩ := kindG_some hk
  exact ⟨_, by rw [← h1]; exact h.get hx⟩

theorem kindG_zero {g : Gr} (h : g.ok) {id : St} (hk : kindG g id = 0) : ∀ x ∈ g.I, x.id ≠ id := fun x hx e => by
  have := h.kindG hx
  rw [e, hk] at this
  have := (h.kinds x hx).1
  omega

theorem getG_zero {g : Gr} (h : g.ok) {id : St} (hk : kindG g id = 0) : getG g id = none := by
  unfold getG
  rw [List.find?_eq_none.2 fun x hx => by simpa using kindG_zero h hk x hx]
  rfl

/-! ### all is reached -/

theorem Gr.fine.reached {g : Gr} (h : g.fine) : ∀ x ∈ g.I, Reached (inodesG g) g.E x.id := by
  obtain ⟨f, hf⟩ := h.ok.rank
  have hroot : Reached (inodesG g) g.E (0, 0) := by
    obtain ⟨x, hx, h0, _⟩ := h.ok.root
    refine ⟨0, .root ?_⟩
    rw [← h0, h.ok.kindI hx]
    rfl
  have hdir : ∀ (n : Nat) (x : Ino), x ∈ g.I → x.kind = 1 → f x.id ≤ n → Reached (inodesG g) g.E x.id := by
    intro n
    induction n with
    | zero =>
      intro x hx hk hn
      by_cases h0 : x.id = (0, 0)
      · rw [h0]; exact hroot
      · obtain ⟨e, he, hei⟩ := links_pos (h.held x hx h0)
        have := hf e he ⟨x, hx, hei.symm, hk⟩
        rw [hei] at this
        omega
    | succ n ih =>
      intro x hx hk hn
      by_cases h0 : x.id = (0, 0)
      · rw [h0]; exact hroot
      · obtain ⟨e, he, hei⟩ := links_pos (h.held x hx h0)
        have hr := hf e he ⟨x, hx, hei.symm, hk⟩
        rw [hei] at hr
        obtain ⟨d, hd, hde, hdk⟩ := h.ok.dirs e he
        obtain ⟨m, hm⟩ := ih d hd hdk (by rw [hde]; omega)
        rw [hde] at hm
        rw [← hei]
        exact ⟨m + 1, .step he hm (by rw [← hde, h.ok.kindI hd, hdk]) (by rw [hei, h.ok.kindI hx]; rfl)⟩
  intro x hx
  by_cases h0 : x.id = (0, 0)
  · rw [h0]; exact hroot
  · obtain ⟨e, he, hei⟩ := links_pos (h.held x hx h0)
    obtain ⟨d, hd, hde, hdk⟩ := h.ok.dirs e he
    obtain ⟨m, hm⟩ := hdir _ d hd hdk (Nat.le_refl _)
    rw [hde] at hm
    rw [← hei]
    exact ⟨m + 1, .step he hm (by rw [← hde, h.ok.kindI hd, hdk]) (by rw [hei, h.ok.kindI hx]; rfl)⟩

/-- A graph that is fine has no fault. -/
theorem Gr.fine.audit {g : Gr} (h : g.fine) : fineP (inodesG g) g.E := by
  obtain ⟨a1, a2, a3, a4⟩ := h.ok.audit h.names
  refine ⟨a1, a2, a3, a4, ?_, ?_, ?_, ?_⟩
  · intro x hx
    rw [h.ok.inodes] at hx
    obtain ⟨y, hy, rfl⟩ := List.mem_map.1 hx
    unfold manyOk1
    dsimp only
    by_cases h0 : y.id = (0, 0)
    · rw [if_pos h0, h0]
      unfold linksE
      rw [List.length_eq_zero_iff, List.filter_eq_nil_iff]
      intro e he
      simpa using h.ok.noRoot e he
    · rw [if_neg h0]
      refine ⟨h.held y hy h0, ?_⟩
      by_cases hk : y.kind = 1
      · rw [if_pos hk]; exact h.ok.one _ ⟨y, hy, rfl, hk⟩
      · rw [if_neg hk]; exact h.ok.six _
  · intro x hx
    rw [h.ok.inodes] at hx
    obtain ⟨y, hy, rfl⟩ := List.mem_map.1 hx
    exact h.reached y hy
  · intro x hx
    rw [h.ok.inodes] at hx
    obtain ⟨y, hy, rfl⟩ := List.mem_map.1 hx
    exact h.bound y hy
  · rw [h.ok.inodes, List.length_map]
    exact h.ok.few

theorem new_fine : newG.fine where
  ok := new_okG
  names := fun e he => by cases he
  held := fun x hx h0 => by rw [List.mem_singleton.1 hx] at h0; exact absurd rfl h0
  bound := fun x hx => by rw [List.mem_singleton.1 hx]; unfold boundOk1; decide

end Go.Proofs.YtlhdbccemgofjaaGreatDoor.GraphMath

/-
  Plain mathematics of layer 11: a graph that is fine is so behind any operation. It needs no program.
-/
namespace Go.Proofs.YtlhdbccemgofjaaGreatDoor.GraphMath
open StampMath OpMath ExtentMath

theorem mayO_parts {o : Opn} (h : mayO o = true) : 1 ≤ o.k ∧ o.k ≤ 10 ∧ bareO o = o ∧ o.st ≠ 0 ∧ mayB o.st o.sr = true ∧ (o.k ≤ 7 → nameB o.name = true) ∧ (o.k = 7 → nameB o.new = true) ∧ dataB o = true := by
  unfold mayO at h
  simp only [Bool.and_eq_true, decide_eq_true_iff, Bool.not_eq_true', beq_eq_false_iff_ne, Bool.or_eq_true] at h
  obtain ⟨⟨⟨⟨⟨⟨h1, h2⟩, h3⟩, h4⟩, h5⟩, ⟨⟨_, h6⟩, h7⟩⟩, h8⟩ := h
  refine ⟨h1, h2, h3, h4, h5, fun q => ?_, fun q => ?_, h8⟩
  · rcases h6 with h6 | h6
    · omega
    · exact h6
  · rcases h7 with h7 | h7
    · exact absurd q h7
    · exact h7

theorem bare_data {o : Opn} (h : bareO o = o) (hk : o.k ≠ 3) (hk8 : o.k ≠ 8) : o.data.size = 0 := by
  have e : (bareO o).data = ⟨#[]⟩ := if_neg (by omega)
  rw [h] at e
  rw [e]
  rfl

/-- A new inode's bounds. -/
theorem made_bound {o : Opn} (h : mayO o = true) (hk : o.k ≤ 3) : boundOk1 ⟨oSt o, o.k, 0, 0, o.data⟩ := by
  obtain ⟨h1, _, h3, _, _, _, _, h8⟩ := mayO_parts h
  unfold boundOk1
  dsimp only
  by_cases q : o.k = 3
  · unfold dataB at h8
    rw [if_pos q] at h8
    simp only [Bool.and_eq_true, decide_eq_true_iff] at h8
    exact ⟨by omega, by omega, fun r => by omega, fun r => by omega, fun _ => ⟨by omega, by omega⟩⟩
  · have := bare_data h3 q (by omega)
    exact ⟨by omega, by omega, fun _ => this, fun _ => by omega, fun r => absurd r q⟩

theorem why_zero_of {g : Gr} {e : Ent} {X : Ino} (hn : nameB e.name = true) (hd : kindG g e.dir = 1) (hx : getG g e.ino = some X) (hl : lookE g.E e.dir e.name = none)
    (hu : X.kind = 1 → e.ino ≠ (0, 0) ∧ underG g e.dir e.ino = false) (hf : ¬ (X.kind = 1 ∧ 0 < X.links ∨ 6 ≤ X.links)) : whyG (nameB e.name) g e = 0 := by
  obtain ⟨A, hA, hk⟩ : ∃ A, getG g e.dir = some A ∧ A.kind = 1 := by
    unfold kindG at hd
    cases hq : getG g e.dir with
    | none => rw [hq] at hd; exact absurd hd (by decide)
    | some A => exact ⟨A, rfl, by rw [hq] at hd; exact hd⟩
  have hk' : ¬ A.kind ≠ 1 := fun q => q hk
  have hl' : ¬ (lookE g.E e.dir e.name).isSome = true := by rw [hl]; simp
  have h8 : ¬ (X.kind = 1 ∧ (e.ino = (0, 0) ∨ underG g e.dir e.ino = true)) := by
    rintro ⟨q, r⟩
    obtain ⟨u1, u2⟩ := hu q
    rcases r with r | r
    · exact u1 r
    · rw [u2] at r; cases r
  unfold whyG
  rw [if_neg (by simp [hn])]
  simp only [hA, hx]
  rw [if_neg hk', if_neg hl', if_neg h8, if_neg hf]

theorem tie_I {g : Gr} {b : Bool} {e : Ent} : (tieG b g e).1.I = g.I := by
  unfold tieG
  split <;> rfl

theorem Gr.ok.tieFine {g : Gr} (h : g.ok) (hn : ∀ e ∈ g.E, nameB e.name = true) (hb : ∀ x ∈ g.I, boundOk1 x) (e : Ent) (hh : ∀ x ∈ g.I, x.id ≠ (0, 0) → x.id ≠ e.ino → 1 ≤ linksE g.E x.id) (hw : whyG (nameB e.name) g e = 0) : (tieG (nameB e.name) g e).1.fine := by
  have hE : (tieG (nameB e.name) g e).1.E = putIn (fun a => aheadE a e) g.E e := by unfold tieG; rw [if_pos hw]
  refine ⟨h.tie _ e, names_tie hn e, ?_, by rw [tie_I]; exact hb⟩
  intro x hx h0
  rw [tie_I] at hx
  rw [hE, linksE_put]
  by_cases q : x.id = e.ino
  · rw [if_pos q.symm]; omega
  · have := hh x hx h0 q; omega

theorem set_mem {g : Gr} {id : St} {mode : Int} {data : ByteArray} {x : Ino} (h : x ∈ (setG g id mode data).1.I) : ∃ y ∈ g.I, x = if y.id = id then { y with mode := mode, data := data } else y := by
  unfold setG at h
  cases hq : getG g id with
  | none =>
    rw [hq] at h
    exact ⟨x, h, by rw [if_neg (get_none hq x h)]⟩
  | some X =>
    rw [hq] at h
    obtain ⟨y, hy, rfl⟩ := List.mem_map.1 h
    exact ⟨y, hy, rfl⟩

theorem Gr.fine.set {g : Gr} (h : g.fine) (id : St) (mode : Int) (data : ByteArray) (hb : ∀ x ∈ g.I, x.id = id → boundOk1 { x with mode := mode, data := data }) : (setG g id mode data).1.fine := by
  refine ⟨h.ok.set id mode data, by rw [set_ents]; exact h.names, ?_, ?_⟩
  · rw [set_ents]
    intro x hx h0
    obtain ⟨y, hy, rfl⟩ := set_mem hx
    by_cases q : y.id = id
    · rw [if_pos q] at h0 ⊢; exact h.held y hy h0
    · rw [if_neg q] at h0 ⊢; exact h.held y hy h0
  · intro x hx
    obtain ⟨y, hy, rfl⟩ := set_mem hx
    by_cases q : y.id = id
    · rw [if_pos q]; exact hb y hy q
    · rw [if_neg q]; exact h.bound y hy

theorem leads_end {g : Gr} {a d : St} (h : Leads g a d) : a = d ∨ ∃ e ∈ g.E, e.dir = d := by
  induction h with
  | here => exact Or.inl rfl
  | up e d he _ _ ih =>
    rcases ih with ih | ih
    · exact Or.inr ⟨e, he, ih⟩
    · exact Or.inr ih

/-! ### Mkdir, Create, Symlink, Link -/

theorem makesW_zero {g : Gr} {o : Opn} (h : makesW g o = 0) : kindG g (oAt o) = 1 ∧ lookE g.E (oAt o) o.name = none ∧ (o.k ≠ 4 → kindG g (oSt o) = 0 ∧ g.I.length < 40) ∧ (o.k = 4 → kindG g (oIno o) ≠ 0 ∧ kindG g (oIno o) ≠ 1 ∧ linksG g (oIno o) < 6) := by
  unfold makesW at h
  by_cases c1 : kindG g (oAt o) = 0 ∨ (o.k = 4 ∧ kindG g (oIno o) = 0)
  · rw [if_pos c1] at h; cases h
  rw [if_neg c1] at h
  by_cases c2 : kindG g (oAt o) ≠ 1
  · rw [if_pos c2] at h; cases h
  rw [if_neg c2] at h
  by_cases c3 : o.k = 4 ∧ kindG g (oIno o) = 1
  · rw [if_pos c3] at h; cases h
  rw [if_neg c3] at h
  by_cases c4 : (lookE g.E (oAt o) o.name).isSome = true ∨ (o.k ≠ 4 ∧ kindG g (oSt o) ≠ 0)
  · rw [if_pos c4] at h; cases h
  rw [if_neg c4] at h
  by_cases c5 : o.k ≠ 4 ∧ 40 ≤ g.I.length
  · rw [if_pos c5] at h; cases h
  rw [if_neg c5] at h
  by_cases c6 : o.k = 4 ∧ 6 ≤ linksG g (oIno o)
  · rw [if_pos c6] at h; cases h
  refine ⟨by omega, ?_, fun q => ⟨?_, ?_⟩, fun q => ⟨?_, ?_, ?_⟩⟩
  · cases hq : lookE g.E (oAt o) o.name with
    | none => rfl
    | some _ => exact absurd (Or.inl (by rw [hq]; rfl)) c4
  · exact Classical.byContradiction fun r => c4 (Or.inr ⟨q, r⟩)
  · exact Classical.byContradiction fun r => c5 ⟨q, by omega⟩
  · exact fun r => c1 (Or.inr ⟨q, r⟩)
  · exact fun r => c3 ⟨q, r⟩
  · exact Classical.byContradiction fun r => c6 ⟨q, by omega⟩

theorem make_zero {g : Gr} (h : g.ok) {o : Opn} (hm : mayO o = true) (hk : o.k ≤ 3) (hs : kindG g (oSt o) = 0) (hl : g.I.length < 40) :
    makeG g (oSt o) o.k = (⟨putIn (fun x => lessS x.id (oSt o)) g.I ⟨oSt o, o.k, 0, 0, ⟨#[]⟩⟩, g.E⟩, 0) := by
  obtain ⟨h1, _, _, _, h5, _⟩ := mayO_parts hm
  have c1 : ¬ (mayB (oSt o).1 (oSt o).2 = false ∨ o.k < 1 ∨ 3 < o.k) := by
    rintro (q | q | q)
    · rw [show mayB (oSt o).1 (oSt o).2 = true from h5] at q; cases q
    · omega
    · omega
  have c2 : ¬ (getG g (oSt o)).isSome = true := by rw [getG_zero h hs]; simp
  unfold makeG
  rw [if_neg c1, if_neg c2, if_neg (by omega)]

/-- The graph between Make and Tie. -/
def between (g : Gr) (o : Opn) : Gr := (setG (makeG g (oSt o) o.k).1 (oSt o) 0 o.data).1

theorem between_get {g : Gr} (h : g.ok) {o : Opn} (hm : mayO o = true) (hk : o.k ≤ 3) (hs : kindG g (oSt o) = 0) (hl : g.I.length < 40) (k : St) :
    getG (between g o) k = if k = oSt o then some ⟨oSt o, o.k, 0, 0, o.data⟩ else getG g k := by
  have h0 : (makeG g (oSt o) o.k).2 = 0 := by rw [make_zero h hm hk hs hl]
  unfold between
  rw [set_get, make_get h h0]
  by_cases q : k = oSt o
  · rw [if_pos q, if_pos q]; simp [q]
  · rw [if_neg q, if_neg q]
    cases getG g k <;> simp [q]

theorem between_mem {g : Gr} (h : g.ok) {o : Opn} (hm : mayO o = true) (hk : o.k ≤ 3) (hs : kindG g (oSt o) = 0) (hl : g.I.length < 40) {x : Ino} (hx : x ∈ (between g o).I) :
    x = ⟨oSt o, o.k, 0, 0, o.data⟩ ∨ (x ∈ g.I ∧ x.id ≠ oSt o) := by
  unfold between at hx
  obtain ⟨y, hy, hxy⟩ := set_mem hx
  rw [make_zero h hm hk hs hl] at hy
  rcases putIn_mem.1 hy with q | q
  · subst q
    rw [if_pos rfl] at hxy
    exact Or.inl hxy
  · have := kindG_zero h hs y q
    rw [if_neg this] at hxy
    exact Or.inr ⟨by rw [hxy]; exact q, by rw [hxy]; exact this⟩

theorem between_E (g : Gr) (o : Opn) : (between g o).E = g.E := by
  unfold between
  rw [set_ents, make_ents]

theorem between_ok {g : Gr} (h : g.ok) (o : Opn) : (between g o).ok := (h.make _ _).set _ _ _

theorem between_why {g : Gr} (h : g.ok) {o : Opn} (hm : mayO o = true) (hk : o.k ≤ 3) (hw : makesW g o = 0) : whyG (nameB o.name) (between g o) ⟨oAt o, o.name, oSt o⟩ = 0 := by
  obtain ⟨w1, w2, w3, _⟩ := makesW_zero hw
  obtain ⟨hs, hl⟩ := w3 (by omega)
  obtain ⟨_, _, _, h4, _, h6, _⟩ := mayO_parts hm
  have hget := between_get h hm hk hs hl
  have hne : oAt o ≠ oSt o := fun q => by rw [q, hs] at w1; cases w1
  refine why_zero_of (e := ⟨oAt o, o.name, oSt o⟩) (h6 (by omega)) ?_ (by rw [hget, if_pos rfl]) (by rw [between_E]; exact w2) (fun _ => ⟨fun q => h4 (congrArg Prod.fst q), ?_⟩) (by dsimp only; omega)
  · show kindG (between g o) (oAt o) = 1
    unfold kindG at w1 ⊢
    rw [hget, if_neg hne]
    exact w1
  · rw [Bool.eq_false_iff]
    intro q
    rcases leads_end ((between_ok h o).leads.1 q) with r | ⟨e, he, r⟩
    · exact hne r
    · rw [between_E] at he
      obtain ⟨y, hy, hyi, _⟩ := h.dirs e he
      exact kindG_zero h hs y hy (hyi.trans r)

theorem makes_fine {g : Gr} (h : g.fine) {o : Opn} (hm : mayO o = true) (hk : o.k ≤ 3) (hw : makesW g o = 0) : (tie1 (between g o) (oAt o) o.name (oSt o)).fine := by
  obtain ⟨w1, w2, w3, _⟩ := makesW_zero hw
  obtain ⟨hs, hl⟩ := w3 (by omega)
  unfold tie1
  refine (between_ok h.ok o).tieFine (by rw [between_E]; exact h.names) (fun x hx => ?_) ⟨oAt o, o.name, oSt o⟩ (fun x hx h0 hne => ?_) (between_why h.ok hm hk hw)
  · rcases between_mem h.ok hm hk hs hl hx with q | q
    · rw [q]; exact made_bound hm hk
    · exact h.bound x q.1
  · rcases between_mem h.ok hm hk hs hl hx with q | q
    · exact absurd (by rw [q]) hne
    · rw [between_E]; exact h.held x q.1 h0

theorem link_why {g : Gr} (h : g.ok) {o : Opn} (hm : mayO o = true) (hk : o.k = 4) (hw : makesW g o = 0) : whyG (nameB o.name) g ⟨oAt o, o.name, oIno o⟩ = 0 := by
  obtain ⟨w1, w2, _, w4⟩ := makesW_zero hw
  obtain ⟨k0, k1, k6⟩ := w4 hk
  obtain ⟨_, _, _, _, _, h6, _⟩ := mayO_parts hm
  obtain ⟨X, hX⟩ := h.there k0
  have e1 : X.kind ≠ 1 := by unfold kindG at k1; rw [hX] at k1; exact k1
  have e2 : X.links < 6 := by unfold linksG at k6; rw [hX] at k6; exact k6
  exact why_zero_of (e := ⟨oAt o, o.name, oIno o⟩) (h6 (by omega)) w1 hX w2 (fun q => absurd q e1) (by omega)

theorem link_fine {g : Gr} (h : g.fine) {o : Opn} (hm : mayO o = true) (hk : o.k = 4) (hw : makesW g o = 0) : (tie1 g (oAt o) o.name (oIno o)).fine :=
  h.ok.tieFine h.names h.bound ⟨oAt o, o.name, oIno o⟩ (fun x hx h0 _ => h.held x hx h0) (link_why h.ok hm hk hw)

/-! ### Unlink, Rmdir -/

/-- All entries but one. -/
def without (E : List Ent) (d : St) (nm : ByteArray) : List Ent := E.filter fun e => !(decide (e.dir = d) && decide (e.name = nm))

theorem untie_eq {g : Gr} {d : St} {nm : ByteArray} {id : St} (hl : lookE g.E d nm = some id) : untieG g d nm = (⟨g.I, without g.E d nm⟩, id, 0) := by unfold untieG; rw [hl]; rfl

theorem links_without {g : Gr} (h : g.ok) {d : St} {nm : ByteArray} {id : St} (hl : lookE g.E d nm = some id) (k : St) : linksE (without g.E d nm) k = linksE g.E k - if k = id then 1 else 0 := by
  have := untie_links h hl k
  change ((linksE (without g.E d nm) k : Nat) : Int) = _ at this
  by_cases q : k = id
  · rw [if_pos q] at this ⊢; omega
  · rw [if_neg q] at this ⊢; omega

theorem list_without {E : List Ent} {d : St} {nm : ByteArray} {id : St} (h : listE E id = []) : listE (without E d nm) id = [] := by
  unfold listE without at *
  rw [List.filter_eq_nil_iff] at h ⊢
  exact fun e he => h e (List.mem_filter.1 he).1

theorem look_pos {g : Gr} (h : g.ok) {d : St} {nm : ByteArray} {id : St} (hl : lookE g.E d nm = some id) : 1 ≤ linksE g.E id := by
  unfold linksE
  exact List.length_pos_of_mem (List.mem_filter.2 ⟨(look_iff h).1 hl, by simp⟩)

theorem gone_eq {g : Gr} (h : g.ok) {d : St} {nm : ByteArray} {id : St} (hl : lookE g.E d nm = some id) (he : listE g.E id = []) :
    goneG g d nm = ⟨if linksE g.E id = 1 then g.I.filter (fun x => !decide (x.id = id)) else g.I, without g.E d nm⟩ := by
  have hp := look_pos h hl
  have hw := links_without h hl id
  rw [if_pos rfl] at hw
  unfold goneG
  rw [untie_eq hl]
  dsimp only
  by_cases q : linksE g.E id = 1
  · have h0 : linksE (without g.E d nm) id = 0 := by omega
    rw [if_pos h0, if_pos q]
    have hok : (⟨g.I, without g.E d nm⟩ : Gr).ok := by have := h.untie d nm; rwa [untie_eq hl] at this
    obtain ⟨x, hx, hxi⟩ := h.inos _ ((look_iff h).1 hl)
    have hg : getG ⟨g.I, without g.E d nm⟩ id = some { x with links := (linksE (without g.E d nm) id : Int) } := (get_iff hok).2 ⟨x, hx, hxi, rfl⟩
    have hr : ¬ id = (0, 0) := h.noRoot _ ((look_iff h).1 hl)
    have hc : ¬ (0 < ((linksE (without g.E d nm) id : Nat) : Int) ∨ 0 < (listE (without g.E d nm) id).length) := by
      rw [list_without he, h0]
      simp
    unfold dropG
    rw [hg]
    dsimp only
    rw [if_neg hr, if_neg hc]
  · rw [if_neg q, if_neg (by omega)]

theorem Gr.fine.gone {g : Gr} (h : g.fine) {d : St} {nm : ByteArray} {id : St} (hl : lookE g.E d nm = some id) (he : listE g.E id = []) : (goneG g d nm).fine := by
  have hok : (goneG g d nm).ok := by
    unfold goneG
    split
    · exact (h.ok.untie d nm).drop _
    · exact h.ok.untie d nm
  have hp := look_pos h.ok hl
  rw [gone_eq h.ok hl he] at hok ⊢
  have hsub : ∀ x, x ∈ (if linksE g.E id = 1 then g.I.filter (fun x => !decide (x.id = id)) else g.I) → x ∈ g.I ∧ (linksE g.E id = 1 → x.id ≠ id) := by
    intro x hx
    by_cases q : linksE g.E id = 1
    · rw [if_pos q] at hx
      obtain ⟨h1, h2⟩ := List.mem_filter.1 hx
      exact ⟨h1, fun _ => by simpa using h2⟩
    · rw [if_neg q] at hx
      exact ⟨hx, fun r => absurd r q⟩
  refine ⟨hok, fun e he' => h.names e (List.mem_filter.1 he').1, fun x hx h0 => ?_, fun x hx => h.bound x (hsub x hx).1⟩
  obtain ⟨hx1, hx2⟩ := hsub x hx
  show 1 ≤ linksE (without g.E d nm) x.id
  rw [links_without h.ok hl]
  by_cases q : x.id = id
  · rw [if_pos q, q]
    have : linksE g.E id ≠ 1 := fun r => hx2 r q
    omega
  · rw [if_neg q]
    exact h.held x hx1 h0

end Go.Proofs.YtlhdbccemgofjaaGreatDoor.GraphMath

/-
  Plain mathematics of layer 11: Rename, and what is done to data; the invariant. It needs no program.
-/
namespace Go.Proofs.YtlhdbccemgofjaaGreatDoor.GraphMath
open StampMath OpMath ExtentMath

theorem renamesW_zero {g : Gr} {o : Opn} (h : renamesW g o = 0) : lookE g.E (oAt o) o.name = some (oIno o) ∧ kindG g (oTo o) = 1 ∧
    (targetG g o ≠ some (oIno o) → (kindG g (oIno o) = 1 → underG g (oTo o) (oIno o) = false) ∧ ∀ t, targetG g o = some t → (kindG g t = 1 → kindG g (oIno o) = 1 ∧ listE g.E t = []) ∧ (kindG g (oIno o) = 1 → kindG g t = 1)) := by
  unfold renamesW at h
  by_cases c1 : lookE g.E (oAt o) o.name ≠ some (oIno o) ∨ kindG g (oTo o) = 0
  · rw [if_pos c1] at h; cases h
  rw [if_neg c1] at h
  by_cases c2 : kindG g (oTo o) ≠ 1
  · rw [if_pos c2] at h; cases h
  rw [if_neg c2] at h
  refine ⟨Classical.byContradiction fun q => c1 (Or.inl q), by omega, fun hne => ?_⟩
  rw [if_neg hne] at h
  by_cases c4 : kindG g (oIno o) = 1 ∧ underG g (oTo o) (oIno o) = true
  · rw [if_pos c4] at h; cases h
  rw [if_neg c4] at h
  by_cases c5 : ((targetG g o).isSome = true ∧ kindG g ((targetG g o).getD (0, 0)) = 1) ∧ kindG g (oIno o) ≠ 1
  · rw [if_pos c5] at h; cases h
  rw [if_neg c5] at h
  by_cases c6 : (targetG g o).isSome = true ∧ kindG g (oIno o) = 1 ∧ ¬ ((targetG g o).isSome = true ∧ kindG g ((targetG g o).getD (0, 0)) = 1)
  · rw [if_pos c6] at h; cases h
  rw [if_neg c6] at h
  by_cases c7 : ((targetG g o).isSome = true ∧ kindG g ((targetG g o).getD (0, 0)) = 1) ∧ 0 < (listE g.E ((targetG g o).getD (0, 0))).length
  · rw [if_pos c7] at h; cases h
  refine ⟨fun q => ?_, fun t ht => ?_⟩
  · rw [Bool.eq_false_iff]
    exact fun r => c4 ⟨q, r⟩
  · rw [ht] at c5 c6 c7
    refine ⟨fun q => ⟨?_, ?_⟩, fun q => ?_⟩
    · exact Classical.byContradiction fun r => c5 ⟨⟨rfl, q⟩, r⟩
    · have : ¬ 0 < (listE g.E t).length := fun r => c7 ⟨⟨rfl, q⟩, r⟩
      exact List.length_eq_zero_iff.1 (by omega)
    · exact Classical.byContradiction fun r => c6 ⟨rfl, q, fun s => r s.2⟩

theorem leads_mono {g g' : Gr} (hE : ∀ e ∈ g'.E, e ∈ g.E) (hD : ∀ d, g'.isDir d → g.isDir d) {a b : St} (h : Leads g' a b) : Leads g a b := by
  induction h with
  | here => exact Leads.here _
  | up e d he hd _ ih => exact Leads.up e d (hE e he) (hD _ hd) ih

/-- The graph whose target is gone. -/
def cleared (g : Gr) (o : Opn) : Gr := if (targetG g o).isSome then goneG g (oTo o) o.new else g

theorem mem_without {E : List Ent} {d : St} {nm : ByteArray} {e : Ent} : e ∈ without E d nm ↔ e ∈ E ∧ ¬ (e.dir = d ∧ e.name = nm) := by
  unfold without
  rw [List.mem_filter]
  refine and_congr_right fun _ => ?_
  rw [Bool.not_eq_true', Bool.and_eq_false_iff, decide_eq_false_iff_not, decide_eq_false_iff_not]
  by_cases a : e.dir = d
  · simp [a]
  · simp [a]

theorem look_without (E : List Ent) (d : St) (nm : ByteArray) : lookE (without E d nm) d nm = none := by
  unfold lookE
  rw [List.find?_eq_none.2]
  · rfl
  · intro e he
    have := (mem_without.1 he).2
    simpa using this

/-- A directory has no entry in itself. -/
theorem Gr.ok.not_self {g : Gr} (h : g.ok) {e : Ent} (he : e ∈ g.E) : e.dir ≠ e.ino := fun q => by
  obtain ⟨f, hf⟩ := h.rank
  have hd := h.dirs e he
  have := hf e he (by rw [← q]; exact hd)
  rw [q] at this
  omega

/-- What is so of the graph whose target is gone. -/
structure Cleared (g : Gr) (o : Opn) (c : Gr) : Prop where
  fine : c.fine
  ents : c.E = without g.E (oTo o) o.new
  sub : ∀ x ∈ c.I, x ∈ g.I
  stays : ∀ x ∈ g.I, targetG g o ≠ some x.id → x ∈ c.I

theorem cleared_is {g : Gr} (h : g.fine) {o : Opn} (ht : ∀ t, targetG g o = some t → listE g.E t = []) : Cleared g o (cleared g o) := by
  unfold cleared
  cases hq : targetG g o with
  | none =>
    rw [if_neg (by simp)]
    refine ⟨h, ?_, fun x hx => hx, fun x hx _ => hx⟩
    unfold without
    rw [filter_all (look_none hq)]
  | some t =>
    rw [if_pos (show (some t).isSome = true from rfl)]
    have hl := ht t hq
    refine ⟨h.gone hq hl, by rw [gone_eq h.ok hq hl], fun x hx => ?_, fun x hx hne => ?_⟩
    · rw [gone_eq h.ok hq hl] at hx
      dsimp only at hx
      split at hx
      · exact (List.mem_filter.1 hx).1
      · exact hx
    · rw [gone_eq h.ok hq hl]
      dsimp only
      have hxt : x.id ≠ t := fun q => hne (by rw [q]; exact hq)
      split
      · exact List.mem_filter.2 ⟨hx, by simpa using hxt⟩
      · exact hx

/-- The graph between Untie and Tie of a Rename. -/
def loosed (g : Gr) (o : Opn) : Gr := (untieG (cleared g o) (oAt o) o.name).1

structure Loosed (g : Gr) (o : Opn) (c : Gr) : Prop where
  ok : c.ok
  names : ∀ e ∈ c.E, nameB e.name = true
  bound : ∀ x ∈ c.I, boundOk1 x
  held : ∀ x ∈ c.I, x.id ≠ (0, 0) → x.id ≠ oIno o → 1 ≤ linksE c.E x.id
  why : whyG (nameB o.new) c ⟨oTo o, o.new, oIno o⟩ = 0
  ents : c.E = without (without g.E (oTo o) o.new) (oAt o) o.name
  inos : c.I = (cleared g o).I
  other : targetG g o ≠ some (oTo o)
  apart : ¬ (oAt o = oTo o ∧ o.name = o.new)

theorem rename_lists {g : Gr} (h : g.ok) {o : Opn} (hw : renamesW g o = 0) (hne : targetG g o ≠ some (oIno o)) : ∀ t, targetG g o = some t → listE g.E t = [] := by
  intro t ht
  obtain ⟨_, _, w3⟩ := renamesW_zero hw
  by_cases q : kindG g t = 1
  · exact (((w3 hne).2 t ht).1 q).2
  · unfold listE
    rw [List.filter_eq_nil_iff]
    intro e he
    have hd := h.kindDir (h.dirs e he)
    simp only [decide_eq_true_eq]
    exact fun r => q (by rw [← r]; exact hd)

theorem loosed_is {g : Gr} (h : g.fine) {o : Opn} (hm : mayO o = true) (hk : o.k = 7) (hw : renamesW g o = 0) (hne : targetG g o ≠ some (oIno o)) : Loosed g o (loosed g o) := by
  obtain ⟨w1, w2, w3⟩ := renamesW_zero hw
  obtain ⟨w4, w5⟩ := w3 hne
  have hc := cleared_is h (rename_lists h.ok hw hne)
  have hmem : (⟨oAt o, o.name, oIno o⟩ : Ent) ∈ g.E := (look_iff h.ok).1 w1
  have hpl : ¬ (oAt o = oTo o ∧ o.name = o.new) := fun q => hne (by unfold targetG; rw [← q.1, ← q.2]; exact w1)
  have hlook : lookE (cleared g o).E (oAt o) o.name = some (oIno o) := by
    rw [look_iff hc.fine.ok, hc.ents, mem_without]
    exact ⟨hmem, hpl⟩
  have hto : targetG g o ≠ some (oTo o) := fun q => by
    have := h.ok.not_self ((look_iff h.ok).1 q)
    exact this rfl
  obtain ⟨T, hT, hTi, hTk⟩ := kindG_dir w2
  obtain ⟨X, hX, hXi'⟩ := h.ok.inos _ hmem
  have hXi : X.id = oIno o := hXi'
  have hTc := hc.stays T hT (by rw [hTi]; exact hto)
  have hXc := hc.stays X hX (by rw [hXi]; exact hne)
  have e2 : loosed g o = ⟨(cleared g o).I, without (cleared g o).E (oAt o) o.name⟩ := by unfold loosed; rw [untie_eq hlook]
  have hok : (loosed g o).ok := hc.fine.ok.untie _ _
  have hlk := links_without hc.fine.ok hlook (oIno o)
  rw [if_pos rfl] at hlk
  have hxk : kindG g (oIno o) = X.kind := by rw [← hXi, h.ok.kindG hX]
  refine ⟨hok, ?_, ?_, ?_, ?_, ?_, by rw [e2], hto, hpl⟩
  · rw [e2]; exact fun e he => hc.fine.names e (mem_without.1 he).1
  · rw [e2]; exact hc.fine.bound
  · rw [e2]
    intro x hx h0 hx1
    show 1 ≤ linksE (without (cleared g o).E (oAt o) o.name) x.id
    rw [links_without hc.fine.ok hlook, if_neg hx1]
    exact hc.fine.held x hx h0
  · refine why_zero_of (X := { X with links := (linksE (loosed g o).E (oIno o) : Int) }) (e := ⟨oTo o, o.new, oIno o⟩) ((mayO_parts hm).2.2.2.2.2.2.1 hk) ?_ ((get_iff hok).2 ⟨X, by rw [e2]; exact hXc, hXi, rfl⟩) ?_ (fun q => ⟨h.ok.noRoot ⟨oAt o, o.name, oIno o⟩ hmem, ?_⟩) ?_
    · show kindG (loosed g o) (oTo o) = 1
      rw [← hTi, hok.kindG (by rw [e2]; exact hTc), hTk]
    · show lookE (loosed g o).E (oTo o) o.new = none
      rw [e2]
      dsimp only
      rw [hc.ents]
      unfold lookE
      rw [List.find?_eq_none.2]
      · rfl
      · intro e he
        have := (mem_without.1 (mem_without.1 he).1).2
        simpa using this
    · show underG (loosed g o) (oTo o) (oIno o) = false
      rw [Bool.eq_false_iff]
      intro r
      have hlg := hok.leads.1 r
      have hlg2 : Leads g (oTo o) (oIno o) := leads_mono (fun e he => by
        rw [e2] at he
        have := (mem_without.1 he).1
        rw [hc.ents] at this
        exact (mem_without.1 this).1) (fun d hd => by
        obtain ⟨y, hy, hy1, hy2⟩ := hd
        rw [e2] at hy
        exact ⟨y, hc.sub y hy, hy1, hy2⟩) hlg
      have := w4 (by rw [hxk]; exact q)
      rw [h.ok.leads.2 hlg2] at this
      cases this
    · dsimp only
      have h6 := hc.fine.ok.six (oIno o)
      have e3 : linksE (loosed g o).E (oIno o) = linksE (cleared g o).E (oIno o) - 1 := by rw [e2]; exact hlk
      have h1 : X.kind = 1 → linksE (cleared g o).E (oIno o) ≤ 1 := fun q => hc.fine.ok.one _ ⟨X, hXc, hXi, q⟩
      rintro (⟨q, r⟩ | q)
      · have := h1 q; omega
      · have := look_pos hc.fine.ok hlook; omega
  · rw [e2]
    dsimp only
    rw [hc.ents]

theorem rename_fine {g : Gr} (h : g.fine) {o : Opn} (hm : mayO o = true) (hk : o.k = 7) (hw : renamesW g o = 0) (hne : targetG g o ≠ some (oIno o)) : (tie1 (loosed g o) (oTo o) o.new (oIno o)).fine := by
  have hl := loosed_is h hm hk hw hne
  exact hl.ok.tieFine hl.names hl.bound ⟨oTo o, o.new, oIno o⟩ hl.held hl.why

/-! ### Write, Trunc, Setattr -/

theorem bytes_size (l : List UInt8) : (bytes l).size = l.length := rfl

theorem data_len (d : ByteArray) : d.data.toList.length = d.size := by simp

/-- What is so of an operation that can be done, from Unlink on, but Rename. -/
theorem whyA_rest {g : Gr} {o : Opn} (h : whyA g o = 0) (h4 : 4 < o.k) (h7 : o.k ≠ 7) : (o.k ≤ 6 → lookE g.E (oAt o) o.name = some (oIno o)) ∧ kindG g (oIno o) ≠ 0 ∧ (o.k = 5 ∨ o.k = 8 ∨ o.k = 9 → kindG g (oIno o) ≠ 1) ∧ (o.k = 6 → kindG g (oIno o) = 1 ∧ listE g.E (oIno o) = []) ∧ (o.k = 8 ∨ o.k = 9 → kindG g (oIno o) ≠ 3) := by
  unfold whyA at h
  by_cases c0 : mayO o = false
  · rw [if_pos c0] at h; cases h
  rw [if_neg c0, if_neg (by omega), if_neg h7] at h
  by_cases c1 : (o.k ≤ 6 ∧ lookE g.E (oAt o) o.name ≠ some (oIno o)) ∨ kindG g (oIno o) = 0
  · rw [if_pos c1] at h; cases h
  rw [if_neg c1] at h
  by_cases c2 : (o.k = 5 ∨ o.k = 8 ∨ o.k = 9) ∧ kindG g (oIno o) = 1
  · rw [if_pos c2] at h; cases h
  rw [if_neg c2] at h
  by_cases c3 : o.k = 6 ∧ kindG g (oIno o) ≠ 1
  · rw [if_pos c3] at h; cases h
  rw [if_neg c3] at h
  by_cases c4 : o.k = 6 ∧ 0 < (listE g.E (oIno o)).length
  · rw [if_pos c4] at h; cases h
  rw [if_neg c4] at h
  by_cases c5 : (o.k = 8 ∨ o.k = 9) ∧ kindG g (oIno o) = 3
  · rw [if_pos c5] at h; cases h
  refine ⟨fun q => Classical.byContradiction fun r => c1 (Or.inl ⟨q, r⟩), fun q => c1 (Or.inr q), fun q r => c2 ⟨q, r⟩, fun q => ⟨Classical.byContradiction fun r => c3 ⟨q, r⟩, List.length_eq_zero_iff.1 (Nat.eq_zero_of_not_pos fun r => c4 ⟨q, r⟩)⟩, fun q r => c5 ⟨q, r⟩⟩

theorem whyA_may {g : Gr} {o : Opn} (h : whyA g o = 0) : mayO o = true := by
  unfold whyA at h
  cases hq : mayO o with
  | true => rfl
  | false => rw [if_pos hq] at h; cases h

theorem whyA_makes {g : Gr} {o : Opn} (h : whyA g o = 0) (h4 : o.k ≤ 4) : makesW g o = 0 := by
  have hm := whyA_may h
  unfold whyA at h
  rwa [if_neg (by rw [hm]; simp), if_pos h4] at h

theorem whyA_renames {g : Gr} {o : Opn} (h : whyA g o = 0) (h7 : o.k = 7) : renamesW g o = 0 := by
  have hm := whyA_may h
  unfold whyA at h
  rwa [if_neg (by rw [hm]; simp), if_neg (by omega), if_pos h7] at h

/-- A file or a symbolic link has nothing below it. -/
theorem Gr.ok.list_none {g : Gr} (h : g.ok) {id : St} (hk : GraphMath.kindG g id ≠ 1) : listE g.E id = [] := by
  unfold listE
  rw [List.filter_eq_nil_iff]
  intro e he
  have hd := h.kindDir (h.dirs e he)
  simp only [decide_eq_true_eq]
  exact fun r => hk (by rw [← r]; exact hd)

theorem Gr.fine.made {g : Gr} (h : g.fine) {o : Opn} (hw : whyA g o = 0) : (madeA g o).fine := by
  have hm := whyA_may hw
  obtain ⟨p1, p2, p3, _, _, _, _, p8⟩ := mayO_parts hm
  unfold madeA
  by_cases k3 : o.k ≤ 3
  · rw [if_pos k3]
    exact makes_fine h hm k3 (whyA_makes hw (by omega))
  rw [if_neg k3]
  by_cases k4 : o.k = 4
  · rw [if_pos k4]
    exact link_fine h hm k4 (whyA_makes hw (by omega))
  rw [if_neg k4]
  by_cases k6 : o.k ≤ 6
  · rw [if_pos k6]
    obtain ⟨r1, r2, r3, r4, _⟩ := whyA_rest hw (by omega) (by omega)
    refine h.gone (r1 k6) ?_
    by_cases q : o.k = 6
    · exact (r4 q).2
    · exact h.ok.list_none (r3 (Or.inl (by omega)))
  rw [if_neg k6]
  by_cases k7 : o.k = 7
  · rw [if_pos k7]
    by_cases ht : targetG g o = some (oIno o)
    · rw [if_pos ht]; exact h
    · rw [if_neg ht]
      exact rename_fine h hm k7 (whyA_renames hw k7) ht
  rw [if_neg k7]
  obtain ⟨_, r2, r3, _, r5⟩ := whyA_rest hw (by omega) k7
  have hino : ∀ x ∈ g.I, x.id = oIno o → inoG g (oIno o) = { x with links := (linksE g.E x.id : Int) } ∧ kindG g (oIno o) = x.kind := fun x hx e => by
    unfold inoG
    rw [← e, h.ok.get hx, h.ok.kindG hx]
    exact ⟨rfl, rfl⟩
  unfold dataB at p8
  by_cases k8 : o.k = 8
  · rw [if_pos k8]
    rw [if_neg (by omega), if_pos k8] at p8
    simp only [Bool.and_eq_true, decide_eq_true_iff] at p8
    refine h.set _ _ _ fun x hx e => ?_
    obtain ⟨e1, e2⟩ := hino x hx e
    have hb := h.bound x hx
    have hk := h.ok.kinds x hx
    have := r3 (Or.inr (Or.inl k8))
    have := r5 (Or.inl k8)
    have hk2 : x.kind = 2 := by omega
    unfold boundOk1 at hb ⊢
    rw [e1]
    dsimp only
    refine ⟨hb.1, hb.2.1, fun q => by omega, fun _ => ?_, fun q => by omega⟩
    rw [bytes_size, wL_len, data_len, data_len]
    have := hb.2.2.2.1 hk2
    omega
  rw [if_neg k8]
  by_cases k9 : o.k = 9
  · rw [if_pos k9]
    rw [if_neg (by omega), if_neg k8, if_pos k9] at p8
    simp only [Bool.and_eq_true, decide_eq_true_iff] at p8
    refine h.set _ _ _ fun x hx e => ?_
    obtain ⟨e1, e2⟩ := hino x hx e
    have hb := h.bound x hx
    have hk := h.ok.kinds x hx
    have := r3 (Or.inr (Or.inr k9))
    have := r5 (Or.inr k9)
    have hk2 : x.kind = 2 := by omega
    unfold boundOk1 at hb ⊢
    rw [e1]
    dsimp only
    refine ⟨hb.1, hb.2.1, fun q => by omega, fun _ => ?_, fun q => by omega⟩
    rw [bytes_size]
    unfold tL
    rw [bld_len]
    omega
  · rw [if_neg k9]
    rw [if_neg (by omega), if_neg k8, if_neg k9, if_pos (by omega)] at p8
    simp only [Bool.and_eq_true, decide_eq_true_iff] at p8
    refine h.set _ _ _ fun x hx e => ?_
    obtain ⟨e1, e2⟩ := hino x hx e
    have hb := h.bound x hx
    unfold boundOk1 at hb ⊢
    rw [e1]
    dsimp only
    exact ⟨p8.1, p8.2, hb.2.2⟩

/-- The invariant. -/
theorem Gr.fine.does {g : Gr} (h : g.fine) (o : Opn) : (doA g o).1.fine := by
  unfold doA
  by_cases q : whyA g o = 0
  · rw [if_pos q]; exact h.made q
  · rw [if_neg q]; exact h

end Go.Proofs.YtlhdbccemgofjaaGreatDoor.GraphMath

/-
  Plain mathematics of layer 11's statements: what is made, moved, set, gone. It needs no program.
-/
namespace Go.Proofs.YtlhdbccemgofjaaGreatDoor.GraphMath
open StampMath OpMath ExtentMath

/-! ### graphs that tell the same are the same -/

theorem sorted_same {α : Type} {r : α → α → Bool} (irr : ∀ x, r x x = false) (tr : ∀ x y z, r x y = true → r y z = true → r x z = true) :
    ∀ {l m : List α}, l.Pairwise (fun a b => r a b = true) → m.Pairwise (fun a b => r a b = true) → (∀ x, x ∈ l ↔ x ∈ m) → l = m
  | [], [], _, _, _ => rfl
  | [], b :: m, _, _, h => absurd ((h b).2 (List.mem_cons_self ..)) (by simp)
  | a :: l, [], _, _, h => absurd ((h a).1 (List.mem_cons_self ..)) (by simp)
  | a :: l, b :: m, hl, hm, h => by
    obtain ⟨hl1, hl2⟩ := List.pairwise_cons.1 hl
    obtain ⟨hm1, hm2⟩ := List.pairwise_cons.1 hm
    have hab : a = b := by
      rcases List.mem_cons.1 ((h a).1 (List.mem_cons_self ..)) with q | q
      · exact q
      rcases List.mem_cons.1 ((h b).2 (List.mem_cons_self ..)) with q2 | q2
      · exact q2.symm
      have := tr _ _ _ (hm1 a q) (hl1 b q2)
      rw [irr] at this
      cases this
    subst hab
    have ha : a ∉ l := fun q => by have := hl1 a q; rw [irr] at this; cases this
    have hb : a ∉ m := fun q => by have := hm1 a q; rw [irr] at this; cases this
    rw [sorted_same irr tr hl2 hm2 fun x => ⟨fun q => ?_, fun q => ?_⟩]
    · rcases List.mem_cons.1 ((h x).1 (List.mem_cons_of_mem _ q)) with e | e
      · subst e; exact absurd q ha
      · exact e
    · rcases List.mem_cons.1 ((h x).2 (List.mem_cons_of_mem _ q)) with e | e
      · subst e; exact absurd q hb
      · exact e

theorem aheadE_self (e : Ent) : aheadE e e = false := by
  rw [Bool.eq_false_iff]
  intro h
  rcases (aheadE_iff _ _).1 h with q | ⟨_, q⟩
  · rw [lessS_irrefl] at q; cases q
  · exact bytes_irrefl _ q

theorem Gr.ok.same {g g' : Gr} (h : g.ok) (h' : g'.ok) (hI : ∀ k, getG g k = getG g' k) (hE : ∀ d nm, lookE g.E d nm = lookE g'.E d nm) : g = g' := by
  have one : ∀ {a b : Gr}, a.ok → b.ok → (∀ k, getG a k = getG b k) → ∀ x ∈ a.I, x ∈ b.I := fun {a b} ha hb hg x hx => by
    have h1 := ha.get hx
    rw [hg] at h1
    obtain ⟨y, hy, h2, h3⟩ := (get_iff hb).1 h1
    have l1 := ha.links0 x hx
    have l2 := hb.links0 y hy
    have : x = y := by
      obtain ⟨i, k, l, m, d⟩ := x
      obtain ⟨i', k', l', m', d'⟩ := y
      simp only [Ino.mk.injEq] at h3 l1 l2 ⊢
      exact ⟨h3.1, h3.2.1, by rw [l1, l2], h3.2.2.2.1, h3.2.2.2.2⟩
    rw [this]
    exact hy
  have e1 : g.I = g'.I := sorted_same (r := fun a b => lessS a.id b.id) (fun x => lessS_irrefl _) (fun _ _ _ => lessS_trans) h.sortI h'.sortI fun x => ⟨one h h' hI x, one h' h (fun k => (hI k).symm) x⟩
  have e2 : g.E = g'.E := sorted_same (r := aheadE) aheadE_self (fun _ _ _ => aheadE_trans) h.sortE h'.sortE fun e => by
    have a := look_iff (d := e.dir) (nm := e.name) (id := e.ino) h
    have b := look_iff (d := e.dir) (nm := e.name) (id := e.ino) h'
    rw [← hE] at b
    exact a.symm.trans b
  cases g
  cases g'
  simp only at e1 e2
  rw [e1, e2]

theorem tie_lookE {g : Gr} (h : g.ok) {b : Bool} {e : Ent} (h1 : (tieG b g e).2 = 0) (d : St) (nm : ByteArray) : lookE (tieG b g e).1.E d nm = if d = e.dir ∧ nm = e.name then some e.ino else lookE g.E d nm := by
  have := tie_look h h1 (d, nm)
  rw [look_pairsE, look_pairsE] at this
  rw [this]
  by_cases q : d = e.dir ∧ nm = e.name
  · rw [if_pos q, if_pos (by rw [q.1, q.2])]
  · rw [if_neg q, if_neg fun r => q ⟨congrArg Prod.fst r, congrArg Prod.snd r⟩]

/-! ### Mkdir, Create, Symlink -/

theorem makes_all {g : Gr} (h : g.fine) {o : Opn} (hw : whyA g o = 0) (hk : o.k ≤ 3) :
    lookE (madeA g o).E (oAt o) o.name = some (oSt o) ∧ getG (madeA g o) (oSt o) = some ⟨oSt o, o.k, 1, 0, o.data⟩ ∧ whyA (madeA g o) o = 4 ∧ (dropG (untieG (madeA g o) (oAt o) o.name).1 (oSt o)).1 = g := by
  have hm := whyA_may hw
  have hmk := whyA_makes hw (by omega)
  obtain ⟨w1, w2, w3, _⟩ := makesW_zero hmk
  obtain ⟨hs, hl⟩ := w3 (by omega)
  obtain ⟨_, _, _, h4, _⟩ := mayO_parts hm
  have e : madeA g o = (tieG (nameB o.name) (between g o) ⟨oAt o, o.name, oSt o⟩).1 := by unfold madeA; rw [if_pos hk]; rfl
  have hbo := between_ok h.ok o
  have hz : (tieG (nameB o.name) (between g o) ⟨oAt o, o.name, oSt o⟩).2 = 0 := (tie_ok_iff _ _ _).2 (between_why h.ok hm hk hmk)
  have hne : oAt o ≠ oSt o := fun q => by rw [q, hs] at w1; cases w1
  have g1 : lookE (madeA g o).E (oAt o) o.name = some (oSt o) := by rw [e, tie_lookE hbo hz, if_pos ⟨rfl, rfl⟩]
  have g2 : getG (madeA g o) (oSt o) = some ⟨oSt o, o.k, 1, 0, o.data⟩ := by
    rw [e, tie_get hz, between_get h.ok hm hk hs hl, if_pos rfl, Option.map_some, if_pos rfl]
    rfl
  refine ⟨g1, g2, ?_, ?_⟩
  · have k1 : kindG (madeA g o) (oAt o) = 1 := by
      unfold kindG at w1 ⊢
      rw [e, tie_get hz, between_get h.ok hm hk hs hl, if_neg hne]
      cases hq : getG g (oAt o) with
      | none => rw [hq] at w1; exact absurd w1 (by decide)
      | some x =>
        rw [hq] at w1
        rw [Option.map_some, if_neg (show ¬ oAt o = oSt o from hne)]
        exact w1
    unfold whyA
    rw [if_neg (by rw [hm]; simp), if_pos (by omega)]
    unfold makesW
    rw [if_neg (by rw [k1]; omega), if_neg (by omega), if_neg (by omega), if_pos (Or.inl (by rw [g1]; rfl))]
  · have u : (untieG (madeA g o) (oAt o) o.name).1 = between g o := by
      rw [e]
      have := tie_untie hz
      rw [show untieG (tieG (nameB o.name) (between g o) ⟨oAt o, o.name, oSt o⟩).1 (oAt o) o.name = (between g o, oSt o, 0) from this]
    rw [u]
    have hr : ¬ oSt o = (0, 0) := fun q => h4 (congrArg Prod.fst q)
    have hlst : listE (between g o).E (oSt o) = [] := by
      rw [between_E]
      unfold listE
      rw [List.filter_eq_nil_iff]
      intro x hx
      obtain ⟨y, hy, hyi, _⟩ := h.ok.dirs x hx
      simp only [decide_eq_true_eq]
      exact fun r => kindG_zero h.ok hs y hy (hyi.trans r)
    have hd : (dropG (between g o) (oSt o)).2 = 0 := by
      unfold dropG
      rw [between_get h.ok hm hk hs hl, if_pos rfl]
      dsimp only
      rw [if_neg hr, if_neg (by rw [hlst]; simp)]
    refine (hbo.drop _).same h.ok (fun k => ?_) fun d nm => by rw [drop_ents, between_E]
    rw [drop_get hbo hd, between_get h.ok hm hk hs hl]
    by_cases q : k = oSt o
    · rw [if_pos q, q, getG_zero h.ok hs]
    · rw [if_neg q, if_neg q]

/-! ### Rename -/

theorem without_len {g : Gr} (h : g.ok) {d : St} {nm : ByteArray} {id : St} (hl : lookE g.E d nm = some id) : (without g.E d nm).length + 1 = g.E.length := by
  have h3 : ∀ l : List Ent, l.length = (l.filter (atB d nm)).length + (without l d nm).length := by
    intro l
    unfold without
    induction l with
    | nil => rfl
    | cons e l ih =>
      by_cases q : atB d nm e = true
      · have q' : (!(decide (e.dir = d) && decide (e.name = nm))) = false := by unfold atB at q; rw [q]; rfl
        rw [List.filter_cons_of_pos q, List.filter_cons_of_neg (by rw [q']; simp)]
        simp only [List.length_cons]
        omega
      · have q' : (!(decide (e.dir = d) && decide (e.name = nm))) = true := by unfold atB at q; rw [Bool.not_eq_true] at q; rw [q]; rfl
        rw [List.filter_cons_of_neg q, List.filter_cons_of_pos (p := fun e : Ent => !(decide (e.dir = d) && decide (e.name = nm))) q']
        simp only [List.length_cons]
        omega
  have h1 : g.E.filter (atB d nm) = [⟨d, nm, id⟩] := sorted_same (r := aheadE) aheadE_self (fun _ _ _ => aheadE_trans) (h.sortE.filter _) (List.pairwise_singleton _ _) fun e => by
    rw [List.mem_filter, List.mem_singleton, atB_iff]
    constructor
    · rintro ⟨q1, q2, q3⟩
      have := (look_iff h (d := e.dir) (nm := e.name) (id := e.ino)).2 q1
      rw [q2, q3, hl] at this
      have e3 := Option.some.inj this
      obtain ⟨a, b, c⟩ := e
      simp only at q2 q3 e3
      rw [q2, q3, ← e3]
    · intro q
      subst q
      exact ⟨(look_iff h).1 hl, rfl, rfl⟩
  have := h3 g.E
  rw [h1] at this
  simp only [List.length_singleton] at this
  omega

theorem tie_len {g : Gr} {b : Bool} {e : Ent} (h : (tieG b g e).2 = 0) : (tieG b g e).1.E.length = g.E.length + 1 := by
  have := (tie_ok_iff b g e).1 h
  unfold tieG
  rw [if_pos this]
  exact putIn_len _ _ _

theorem moves_all {g : Gr} (h : g.fine) {o : Opn} (hw : whyA g o = 0) (hk : o.k = 7) :
    getG (madeA g o) (oIno o) = getG g (oIno o) ∧ (getG g (oIno o)).isSome = true ∧ lookE (madeA g o).E (oTo o) o.new = some (oIno o) ∧
    (targetG g o = some (oIno o) → (lookE (madeA g o).E (oAt o) o.name).isSome = true ∧ (madeA g o).E.length = g.E.length) ∧
    (targetG g o ≠ some (oIno o) → lookE (madeA g o).E (oAt o) o.name = none ∧ ((targetG g o).isSome = true → (madeA g o).E.length + 1 = g.E.length) ∧ (targetG g o = none → (madeA g o).E.length = g.E.length)) := by
  have hm := whyA_may hw
  have hr := whyA_renames hw hk
  obtain ⟨w1, w2, w3⟩ := renamesW_zero hr
  have hmem : (⟨oAt o, o.name, oIno o⟩ : Ent) ∈ g.E := (look_iff h.ok).1 w1
  obtain ⟨X, hX, hXi'⟩ := h.ok.inos _ hmem
  have hXi : X.id = oIno o := hXi'
  have hget : getG g (oIno o) = some { X with links := (linksE g.E (oIno o) : Int) } := (get_iff h.ok).2 ⟨X, hX, hXi, rfl⟩
  have hsome : (getG g (oIno o)).isSome = true := by rw [hget]; rfl
  by_cases ht : targetG g o = some (oIno o)
  · have e : madeA g o = g := by unfold madeA; rw [if_neg (by omega), if_neg (by omega), if_neg (by omega), if_pos hk, if_pos ht]
    rw [e]
    exact ⟨rfl, hsome, ht, fun _ => ⟨by rw [w1]; rfl, rfl⟩, fun q => absurd ht q⟩
  · have e : madeA g o = (tieG (nameB o.new) (loosed g o) ⟨oTo o, o.new, oIno o⟩).1 := by unfold madeA; rw [if_neg (by omega), if_neg (by omega), if_neg (by omega), if_pos hk, if_neg ht]; rfl
    have hL := loosed_is h hm hk hr ht
    have hC := cleared_is h (rename_lists h.ok hr ht)
    have hz : (tieG (nameB o.new) (loosed g o) ⟨oTo o, o.new, oIno o⟩).2 = 0 := (tie_ok_iff _ _ _).2 hL.why
    have hlook : lookE (cleared g o).E (oAt o) o.name = some (oIno o) := by
      rw [look_iff hC.fine.ok, hC.ents, mem_without]
      exact ⟨hmem, hL.apart⟩
    have hXc := hC.stays X hX (by rw [hXi]; exact ht)
    have hlinks : linksE (cleared g o).E (oIno o) = linksE g.E (oIno o) := by
      rw [hC.ents]
      cases hq : targetG g o with
      | none =>
        unfold without
        rw [filter_all (look_none hq)]
      | some t =>
        rw [links_without h.ok hq, if_neg fun r => ht (by rw [hq, r])]
        omega
    have hcget : getG (cleared g o) (oIno o) = getG g (oIno o) := by
      rw [hget, get_iff hC.fine.ok]
      exact ⟨X, hXc, hXi, by rw [hlinks]⟩
    have hget' : getG (madeA g o) (oIno o) = getG g (oIno o) := by
      rw [e, tie_get hz]
      unfold loosed
      rw [untie_get hC.fine.ok hlook, hcget, hget]
      simp
    have hlen1 : (loosed g o).E.length + 1 = (cleared g o).E.length := by
      unfold loosed
      rw [untie_eq hlook]
      exact without_len hC.fine.ok hlook
    have hlen : (madeA g o).E.length = (cleared g o).E.length := by rw [e, tie_len hz]; exact hlen1
    refine ⟨hget', hsome, ?_, fun q => absurd q ht, fun _ => ⟨?_, fun q => ?_, fun q => ?_⟩⟩
    · rw [e, tie_lookE hL.ok hz, if_pos ⟨rfl, rfl⟩]
    · rw [e, tie_lookE hL.ok hz, if_neg hL.apart, hL.ents]
      exact look_without _ _ _
    · obtain ⟨t, hq⟩ := Option.isSome_iff_exists.1 q
      rw [hlen, hC.ents]
      exact without_len h.ok hq
    · rw [hlen, hC.ents]
      unfold without
      rw [filter_all (look_none q)]

/-! ### Write, Trunc, Setattr -/

/-- The mode and the data that an operation gives. -/
def setM (x : Ino) (o : Opn) : Int := if o.k = 10 then o.off else x.mode
def setD (x : Ino) (o : Opn) : ByteArray := if o.k = 8 then bytes (wL x.data.data.toList o.data.data.toList o.off.toNat) else if o.k = 9 then bytes (tL x.data.data.toList o.off.toNat) else x.data

theorem sets_is {g : Gr} {o : Opn} (hm : mayO o = true) (hk : 8 ≤ o.k) : madeA g o = (setG g (oIno o) (setM (inoG g (oIno o)) o) (setD (inoG g (oIno o)) o)).1 := by
  obtain ⟨_, h10, _⟩ := mayO_parts hm
  unfold madeA setM setD
  rw [if_neg (by omega), if_neg (by omega), if_neg (by omega), if_neg (by omega)]
  by_cases k8 : o.k = 8
  · rw [if_pos k8, if_neg (by omega), if_pos k8]
  rw [if_neg k8, if_neg k8]
  by_cases k9 : o.k = 9
  · rw [if_pos k9, if_neg (by omega), if_pos k9]
  rw [if_neg k9, if_pos (by omega), if_neg k9]

theorem sets_get {g : Gr} {o : Opn} (hm : mayO o = true) (hk : 8 ≤ o.k) (k : St) : getG (madeA g o) k = (getG g k).map fun x => if k = oIno o then { x with mode := setM x o, data := setD x o } else x := by
  rw [sets_is hm hk, set_get]
  cases hq : getG g k with
  | none => rfl
  | some x =>
    rw [Option.map_some, Option.map_some]
    by_cases q : k = oIno o
    · rw [if_pos q, if_pos q]
      unfold inoG
      rw [← q, hq]
      rfl
    · rw [if_neg q, if_neg q]

theorem sets_kind {g : Gr} {o : Opn} (hm : mayO o = true) (hk : 8 ≤ o.k) (k : St) : kindG (madeA g o) k = kindG g k := by
  unfold kindG
  rw [sets_get hm hk]
  cases getG g k with
  | none => rfl
  | some x =>
    rw [Option.map_some]
    by_cases q : k = oIno o
    · rw [if_pos q]; rfl
    · rw [if_neg q]

/-- Why can't data be set? Kinds alone tell. -/
theorem whyA_sets (g : Gr) {o : Opn} (hk : 8 ≤ o.k) : whyA g o = if mayO o = false then 1 else if kindG g (oIno o) = 0 then 3 else if (o.k = 8 ∨ o.k = 9) ∧ kindG g (oIno o) = 1 then 5 else if (o.k = 8 ∨ o.k = 9) ∧ kindG g (oIno o) = 3 then 8 else 0 := by
  unfold whyA
  by_cases c0 : mayO o = false
  · rw [if_pos c0, if_pos c0]
  rw [if_neg c0, if_neg c0, if_neg (by omega), if_neg (by omega)]
  by_cases c1 : kindG g (oIno o) = 0
  · rw [if_pos (Or.inr c1), if_pos c1]
  rw [if_neg (fun q => q.elim (fun q => by have := q.1; omega) c1), if_neg c1]
  by_cases c2 : (o.k = 8 ∨ o.k = 9) ∧ kindG g (oIno o) = 1
  · rw [if_pos ⟨Or.inr c2.1, c2.2⟩, if_pos c2]
  rw [if_neg (fun q => c2 ⟨q.1.elim (fun q => by omega) id, q.2⟩), if_neg c2, if_neg (fun q => by have := q.1; omega), if_neg (fun q => by have := q.1; omega)]

theorem sets_why {g g' : Gr} (h : ∀ k, kindG g' k = kindG g k) {o : Opn} (hk : 8 ≤ o.k) : whyA g' o = whyA g o := by
  rw [whyA_sets _ hk, whyA_sets _ hk, h]

theorem does_kind {g : Gr} {o : Opn} (hk : 8 ≤ o.k) (k : St) : kindG (doA g o).1 k = kindG g k := by
  unfold doA
  by_cases q : whyA g o = 0
  · rw [if_pos q]; exact sets_kind (whyA_may q) hk k
  · rw [if_neg q]

/-- Two operations on data of unlike inodes make the same in both orders. -/
theorem sets_apart {g : Gr} (h : g.fine) {o x : Opn} (ho : 8 ≤ o.k) (hx : 8 ≤ x.k) (hne : oIno o ≠ oIno x) :
    (doA g o).2 = (doA (doA g x).1 o).2 ∧ (doA (doA g o).1 x).2 = (doA g x).2 ∧ (doA (doA g o).1 x).1 = (doA (doA g x).1 o).1 := by
  have e1 := sets_why (o := o) (does_kind (g := g) hx) ho
  have e2 := sets_why (o := x) (does_kind (g := g) ho) hx
  have r : ∀ (γ : Gr) (p : Opn), (doA γ p).2 = whyA γ p := fun γ p => by unfold doA; split <;> simp_all
  rw [r, r, r, r, e1, e2]
  refine ⟨rfl, rfl, ?_⟩
  by_cases qo : whyA g o = 0
  · by_cases qx : whyA g x = 0
    · have a1 : (doA g o).1 = madeA g o := by unfold doA; rw [if_pos qo]
      have a2 : (doA g x).1 = madeA g x := by unfold doA; rw [if_pos qx]
      have a3 : (doA (doA g o).1 x).1 = madeA (madeA g o) x := by rw [a1] at e2 ⊢; unfold doA; rw [if_pos (e2.trans qx)]
      have a4 : (doA (doA g x).1 o).1 = madeA (madeA g x) o := by rw [a2] at e1 ⊢; unfold doA; rw [if_pos (e1.trans qo)]
      have f3 := ((h.does o).does x).ok
      have f4 := ((h.does x).does o).ok
      rw [a3] at f3 ⊢
      rw [a4] at f4 ⊢
      have mo := whyA_may qo
      have mx := whyA_may qx
      refine f3.same f4 (fun k => ?_) fun d nm => ?_
      · rw [sets_get mx hx, sets_get mo ho, sets_get mo ho, sets_get mx hx]
        cases getG g k with
        | none => rfl
        | some y =>
          simp only [Option.map_some]
          by_cases p : k = oIno o
          · have p' : ¬ k = oIno x := fun s => hne (p.symm.trans s)
            rw [if_pos p, if_neg p', if_neg p', if_pos p]
          · by_cases p' : k = oIno x
            · simp only [if_neg p, if_pos p']
            · simp only [if_neg p, if_neg p']
      · rw [sets_is mx hx, sets_is mo ho, sets_is mo ho, sets_is mx hx, set_ents, set_ents, set_ents, set_ents]
    · have a2 : (doA g x).1 = g := by unfold doA; rw [if_neg qx]
      have a3 : (doA (doA g o).1 x).1 = (doA g o).1 := by
        have : ¬ whyA (doA g o).1 x = 0 := by rw [e2]; exact qx
        unfold doA at this ⊢
        rw [if_neg this]
      rw [a3, a2]
  · have a1 : (doA g o).1 = g := by unfold doA; rw [if_neg qo]
    have a4 : (doA (doA g x).1 o).1 = (doA g x).1 := by
      have : ¬ whyA (doA g x).1 o = 0 := by rw [e1]; exact qo
      unfold doA at this ⊢
      rw [if_neg this]
    rw [a4, a1]

theorem set_read {x : Ino} {o : Opn} (hm : mayO o = true) (hk : o.k = 8) : rR (setD x o) o.off (o.data.size : Int) = o.data := by
  obtain ⟨_, _, _, _, _, _, _, h8⟩ := mayO_parts hm
  unfold dataB at h8
  rw [if_neg (by omega), if_pos hk] at h8
  simp only [Bool.and_eq_true, decide_eq_true_iff] at h8
  unfold rR setD
  rw [if_neg (by omega), if_pos hk]
  have e : (bytes (wL x.data.data.toList o.data.data.toList o.off.toNat)).data.toList = wL x.data.data.toList o.data.data.toList o.off.toNat := by unfold bytes; simp
  have e2 : ((o.data.size : Int)).toNat = o.data.data.toList.length := by rw [data_len]; simp
  rw [e, e2, read_wrote]

theorem set_size {x : Ino} {o : Opn} (hm : mayO o = true) (hk : o.k = 9) : ((setD x o).size : Int) = o.off := by
  obtain ⟨_, _, _, _, _, _, _, h8⟩ := mayO_parts hm
  unfold dataB at h8
  rw [if_neg (by omega), if_neg (by omega), if_pos hk] at h8
  simp only [Bool.and_eq_true, decide_eq_true_iff] at h8
  unfold setD
  rw [if_neg (by omega), if_pos hk, bytes_size, tL_len]
  omega

/-! ### Unlink, Rmdir -/

theorem gone_all {g : Gr} (h : g.fine) {o : Opn} (hw : whyA g o = 0) (hk : o.k = 5 ∨ o.k = 6) :
    listE g.E (oIno o) = [] ∧ lookE (madeA g o).E (oAt o) o.name = none ∧ (getG (madeA g o) (oIno o)).isSome = decide (1 < ((getG g (oIno o)).getD noIno).links) ∧
    (∀ y, getG (madeA g o) (oIno o) = some y → y.links = ((getG g (oIno o)).getD noIno).links - 1) ∧ (((getG g (oIno o)).getD noIno).kind = 1 ↔ o.k = 6) := by
  obtain ⟨r1, r2, r3, r4, _⟩ := whyA_rest hw (by omega) (by omega)
  have hl := r1 (by omega)
  have he : listE g.E (oIno o) = [] := by
    by_cases q : o.k = 6
    · exact (r4 q).2
    · exact h.ok.list_none (r3 (Or.inl (by omega)))
  have e : madeA g o = goneG g (oAt o) o.name := by unfold madeA; rw [if_neg (by omega), if_neg (by omega), if_pos (by omega)]
  have hf := h.gone hl he
  rw [e]
  rw [gone_eq h.ok hl he] at hf ⊢
  have hp := look_pos h.ok hl
  obtain ⟨X, hX, hXi'⟩ := h.ok.inos _ ((look_iff h.ok).1 hl)
  have hXi : X.id = oIno o := hXi'
  have hget : getG g (oIno o) = some { X with links := (linksE g.E (oIno o) : Int) } := (get_iff h.ok).2 ⟨X, hX, hXi, rfl⟩
  have hkind : kindG g (oIno o) = X.kind := by rw [← hXi, h.ok.kindG hX]
  have hlw := links_without h.ok hl (oIno o)
  rw [if_pos rfl] at hlw
  refine ⟨he, look_without _ _ _, ?_, ?_, ?_⟩
  · rw [hget]
    dsimp only [Option.getD_some]
    by_cases q : linksE g.E (oIno o) = 1
    · have : getG ⟨if linksE g.E (oIno o) = 1 then g.I.filter (fun x => !decide (x.id = oIno o)) else g.I, without g.E (oAt o) o.name⟩ (oIno o) = none := by
        rw [if_pos q]
        unfold getG
        rw [List.find?_eq_none.2]
        · rfl
        · intro x hx
          have := (List.mem_filter.1 hx).2
          simpa using this
      rw [this, q]
      rfl
    · have : getG ⟨if linksE g.E (oIno o) = 1 then g.I.filter (fun x => !decide (x.id = oIno o)) else g.I, without g.E (oAt o) o.name⟩ (oIno o) = some { X with links := (linksE (without g.E (oAt o) o.name) (oIno o) : Int) } := (get_iff hf.ok).2 ⟨X, by rw [if_neg q]; exact hX, hXi, rfl⟩
      rw [this]
      have : 1 < (linksE g.E (oIno o) : Int) := by omega
      simp [this]
  · intro y hy
    obtain ⟨x, hx, hxi, rfl⟩ := (get_iff hf.ok).1 hy
    rw [hget]
    dsimp only [Option.getD_some]
    omega
  · rw [hget]
    show X.kind = 1 ↔ o.k = 6
    rw [← hkind]
    constructor
    · intro q
      exact Classical.byContradiction fun s => r3 (Or.inl (by omega)) q
    · exact fun q => (r4 q).1

end Go.Proofs.YtlhdbccemgofjaaGreatDoor.GraphMath

/-
  A slice of operations that is only read. It needs no program's function.
-/
namespace Go.Proofs.YtlhdbccemgofjaaGreatDoor
open Go.RowKit StampMath GraphMath OpMath PackMath

/-- An operation as an argument. -/
structure OpFit (o : Opn) : Prop where
  ok : Ok64 o
  name : o.name.size ≤ maxLen
  new : o.new.size ≤ maxLen
  data : o.data.size ≤ maxLen

/-- The slice reads as operations, and lies below block B. -/
def OpsIn (W : World) (B : Nat) (A : Option Addr) (n : Nat) (l : List Opn) : Prop := TabIn 13 W B A n (l.map opA)

theorem OpsIn.len {W : World} {B : Nat} {A : Option Addr} {n : Nat} {l : List Opn} (h : OpsIn W B A n l) : l.length = n := by have := h.1; rwa [List.length_map] at this

/-- An operation's cells at ⟨g, p⟩. -/
def OpAt (W : World) (g p : Nat) (o : Opn) : Prop :=
  W.cell? ⟨g, p, none⟩ = some (.int .i64 o.st) ∧ W.cell? ⟨g, p + 1, none⟩ = some (.int .i64 o.sr) ∧ W.cell? ⟨g, p + 2, none⟩ = some (.int .i64 o.k) ∧ W.cell? ⟨g, p + 3, none⟩ = some (.int .i64 o.pt) ∧ W.cell? ⟨g, p + 4, none⟩ = some (.int .i64 o.pr) ∧
  W.cell? ⟨g, p + 5, none⟩ = some (.int .i64 o.it) ∧ W.cell? ⟨g, p + 6, none⟩ = some (.int .i64 o.ir) ∧ W.cell? ⟨g, p + 7, none⟩ = some (.int .i64 o.tt) ∧ W.cell? ⟨g, p + 8, none⟩ = some (.int .i64 o.tr) ∧
  W.cell? ⟨g, p + 9, none⟩ = some (.string o.name) ∧ W.cell? ⟨g, p + 10, none⟩ = some (.string o.new) ∧ W.cell? ⟨g, p + 11, none⟩ = some (.int .i64 o.off) ∧ W.cell? ⟨g, p + 12, none⟩ = some (.string o.data)

theorem OpsIn.row {W : World} {B : Nat} {A : Option Addr} {n : Nat} {l : List Opn} (h : OpsIn W B A n l) (hn : 0 < n) : ∃ g o, A = some ⟨g, o, none⟩ ∧ g < B ∧ ∀ k (hk : k < l.length), OpAt W g (o + k * 13) l[k] := by
  obtain ⟨g, o, e, hg, hc⟩ := h.2 hn
  refine ⟨g, o, e, hg, fun k hk => ?_⟩
  have hk' : k < (l.map opA).length := by simpa using hk
  have he : (l.map opA)[k] = opA l[k] := by simp
  exact ⟨hc k hk' 0 _ (by rw [he]; rfl), hc k hk' 1 _ (by rw [he]; rfl), hc k hk' 2 _ (by rw [he]; rfl), hc k hk' 3 _ (by rw [he]; rfl), hc k hk' 4 _ (by rw [he]; rfl), hc k hk' 5 _ (by rw [he]; rfl), hc k hk' 6 _ (by rw [he]; rfl), hc k hk' 7 _ (by rw [he]; rfl), hc k hk' 8 _ (by rw [he]; rfl), hc k hk' 9 _ (by rw [he]; rfl), hc k hk' 10 _ (by rw [he]; rfl), hc k hk' 11 _ (by rw [he]; rfl), hc k hk' 12 _ (by rw [he]; rfl)⟩

theorem OpAt.below {W W' : World} {B g p : Nat} {o : Opn} (h : OpAt W g p o) (hb : Below B W W') (hg : g < B) : OpAt W' g p o := by
  obtain ⟨h0, h1, h2, h3, h4, h5, h6, h7, h8, h9, h10, h11, h12⟩ := h
  have c : ∀ (i : Nat) (v : Value), W.cell? ⟨g, i, none⟩ = some v → W'.cell? ⟨g, i, none⟩ = some v := fun i v q => (hb.cell (p := ⟨g, i, none⟩) hg).trans q
  exact ⟨c _ _ h0, c _ _ h1, c _ _ h2, c _ _ h3, c _ _ h4, c _ _ h5, c _ _ h6, c _ _ h7, c _ _ h8, c _ _ h9, c _ _ h10, c _ _ h11, c _ _ h12⟩

end Go.Proofs.YtlhdbccemgofjaaGreatDoor

/-
  Inodes and entries that a call of audit is given.
-/
namespace Go.Proofs.YtlhdbccemgofjaaGreatDoor
open Go.RowKit StampMath GraphMath OpMath

/-- Inodes and entries that are given. -/
structure Given (w : World) (A : Option Addr) (n : Nat) (N : List Ino) (A' : Option Addr) (m : Nat) (E : List Ent) : Prop where
  inos : InosIn w w.heap.size A n N
  ents : EntsIn w w.heap.size A' m E
  fewI : n ≤ 1000
  fewE : m ≤ 1000
  datas : ∀ x ∈ N, x.data.size ≤ maxLen
  names : ∀ e ∈ E, e.name.size ≤ maxLen

theorem Given.below {w W : World} {A : Option Addr} {n : Nat} {N : List Ino} {A' : Option Addr} {m : Nat} {E : List Ent} (h : Given w A n N A' m E) (hb : Below w.heap.size w W) : Given W A n N A' m E :=
  ⟨(h.inos.below hb).more hb.size, (h.ents.below hb).more hb.size, h.fewI, h.fewE, h.datas, h.names⟩

end Go.Proofs.YtlhdbccemgofjaaGreatDoor

/-
  A region that draws its order, whose own operations only read, and whose callees may make memory but turn nothing that is there: one walk, in the text's order. It needs no program.
-/
namespace Go.Proofs.YtlhdbccemgofjaaGreatDoor
open Go.RowKit

open Classical in
/-- A world in which all that was there in w reads as before: x, if it is one. -/
noncomputable def later (w x : World) : World := if Below w.heap.size w x then x else w

theorem later_below (w x : World) : Below w.heap.size w (later w x) := by
  unfold later
  split
  · assumption
  · exact Below.refl _ _

theorem later_of {w x : World} (h : Below w.heap.size w x) : later w x = x := by
  unfold later
  rw [if_pos h]

theorem later_cell {w : World} {a : Addr} {v : Value} (h : w.cell? a = some v) (x : World) : (later w x).cell? a = some v := cell_later (later_below w x) h

/-- The walk of the lexical order serves every order. -/
theorem wp_region_later {P : Program} {id : Nat} {Q : Exit → Act → World → Prop} {a : Act} {w : World} {l : List Oper} (hm : P.follows .mixedOrders = true) (hB : Region.lexB .any l.toArray = true)
    (h : wpQuiet P l.toArray (fun w' => ∃ x, w' = later w x) (fun a' => ∀ w', (∃ x, w' = later w x) → Q .normal a' w') l a) : (Code.region id l.toArray true).wp P Q a w :=
  wp_region_quiet (C := fun w' => ∃ x, w' = later w x) hm hB ⟨w.drew, (later_of (Below.refl _ _).drew).symm⟩ (by simpa using h)

/-- A callee's contract, met in such a world. -/
theorem later_call {P : Program} {f : FuncId} {args : Array Value} {w x : World} {v : Value} (h : Calls P f args (later w x) fun e w' => e = .returned v ∧ Below (later w x).heap.size (later w x) w') :
    Calls P f args (later w x) fun e w'' => e = .returned v ∧ ∃ y, w'' = later w y :=
  h.mono fun _ w' ⟨he, hb⟩ => ⟨he, w', (later_of (below_step (later_below w x) hb)).symm⟩

end Go.Proofs.YtlhdbccemgofjaaGreatDoor

/-
  Blocks that lie in memory while calls go by: a list of them, and that nothing older has turned. It needs no program.
-/
namespace Go.Proofs.YtlhdbccemgofjaaGreatDoor
open Go.RowKit

/-- These blocks lie there, and below w's end all is as it was in w. -/
def Held (w : World) (L : List (Nat × Obj)) (W : World) : Prop := (∀ p ∈ L, W.heap[p.1]? = some p.2) ∧ Below w.heap.size w W

theorem Held.refl (w : World) : Held w [] w := ⟨fun _ h => (by cases h), Below.refl _ _⟩

theorem Held.below {w W : World} {L : List (Nat × Obj)} (h : Held w L W) : Below w.heap.size w W := h.2

theorem Held.step {w W W' : World} {L : List (Nat × Obj)} (h : Held w L W) (hb : Below W.heap.size W W') : Held w L W' :=
  ⟨fun p hp => (hb.block _ (heap_lt (h.1 p hp))).trans (h.1 p hp), below_step h.2 hb⟩

theorem Held.alloc {w W : World} {L : List (Nat × Obj)} (h : Held w L W) (o : Obj) {g : Nat} (hg : W.heap.size = g) : Held w ((g, o) :: L) (W.alloc o) := by
  refine ⟨fun p hp => ?_, h.2.alloc h.2.size o⟩
  rcases List.mem_cons.1 hp with rfl | hp
  · subst hg; exact heap_alloc_new W o
  · rw [heap_alloc_old _ _ (heap_lt (h.1 p hp))]; exact h.1 p hp

theorem Held.drewN {w W : World} {L : List (Nat × Obj)} (h : Held w L W) (n : Nat) : Held w L (W.drewN n) := ⟨h.1, below_drewN' h.2 n⟩

theorem Held.drew {w W : World} {L : List (Nat × Obj)} (h : Held w L W) : Held w L W.drew := ⟨h.1, h.2.drew⟩

theorem Held.head {w W : World} {L : List (Nat × Obj)} {p : Nat × Obj} (h : Held w (p :: L) W) : W.heap[p.1]? = some p.2 := h.1 p (List.mem_cons_self ..)

theorem Held.tail {w W : World} {L : List (Nat × Obj)} {p : Nat × Obj} (h : Held w (p :: L) W) : Held w L W := ⟨fun q hq => h.1 q (List.mem_cons_of_mem _ hq), h.2⟩

theorem Held.at {w W : World} {L : List (Nat × Obj)} (h : Held w L W) (i : Nat) {p : Nat × Obj} (hp : L[i]? = some p) : W.heap[p.1]? = some p.2 := h.1 p (List.mem_of_getElem? hp)

/-- Behind a store into another block, which was made since. -/
theorem Held.set {w W : World} {L : List (Nat × Obj)} (h : Held w L W) {b : Nat} (hL : ∀ p ∈ L, p.1 < b) (hw : w.heap.size ≤ b) (i : Nat) (v : Value) : Held w L (W.setCell ⟨b, i, none⟩ v) :=
  ⟨fun p hp => (heap_setCell_other _ _ _ _ (by have := hL p hp; dsimp only; omega)).trans (h.1 p hp), h.2.setCell hw v⟩

/-- Behind a step that turns one block at most, which lies at or beyond B, where all that is held lies below. -/
theorem Held.grown {w W W' : World} {L : List (Nat × Obj)} {row : Option Nat} {B : Nat} (h : Held w L W) (hg : W.grownBy W' row) (hB : ∀ q, row = some q → B ≤ q) (hL : ∀ p ∈ L, p.1 < B) (hw : w.heap.size ≤ B := by simp) : Held w L W' :=
  ⟨fun p hp => (hg.block p.1 (heap_lt (h.1 p hp)) fun e => by have h1 := hB _ e.symm; have h2 := hL p hp; omega).trans (h.1 p hp), h.2.grown hg h.2.size fun q hq => Nat.le_trans hw (hB q hq)⟩

end Go.Proofs.YtlhdbccemgofjaaGreatDoor

/-
  The package's table of fields, as it lies in memory: worlds in which it does, and that what is below a world's end stays.
-/
namespace Go.Proofs.YtlhdbccemgofjaaGreatDoor
open Go.RowKit

/-- The numbers of the table. -/
def tabL : List Int := [0, 9, 9, 73, 11, 11, 11, 31, 98, 34, 34]

/-- The table lies in this world. -/
class Tab (W : World) : Prop where
  cells : Hid (∀ (i : Nat) (x : Int), tabL[i]? = some x → W.cell? ⟨0, i, none⟩ = some (.int .i64 x))

theorem Tab.at {W : World} (T : Tab W) (i : Nat) {x : Int} (h : tabL[i]? = some x) : W.cell? ⟨0, i, none⟩ = some (.int .i64 x) := T.cells.out i x h

theorem tab_below {B : Nat} {W W' : World} (T : Tab W) (hB : W.heap.size ≤ B) (h : Below B W W') : Tab W' :=
  ⟨Lib.hid fun i _ hx => (h.cell (p := ⟨0, i, none⟩) (Nat.lt_of_lt_of_le (World.block_lt_of_cell? _ _ (T.at i hx)) hB)).trans (T.at i hx)⟩

theorem tab_step {W W' : World} [T : Tab W] (h : Below W.heap.size W W') : Tab W' := tab_below T (Nat.le_refl _) h

theorem tab_held {w W : World} {L : List (Nat × Obj)} [T : Tab w] (h : Held w L W) : Tab W := tab_step h.below

theorem tab_kept {w W : World} [T : Tab w] (h : KeptFrom w W) : Tab W := tab_step (kept_below h)

instance tabAlloc {W : World} [T : Tab W] (o : Obj) : Tab (W.alloc o) := tab_step ((Below.refl _ W).alloc (Nat.le_refl _) o)

instance tabDrew {W : World} [T : Tab W] : Tab W.drew := tab_step ((Below.refl _ W).drew)

instance tabDrewN {W : World} [T : Tab W] (n : Nat) : Tab (W.drewN n) := tab_step (below_drewN' (Below.refl _ W) n)

instance tabLater {w : World} [T : Tab w] (x : World) : Tab (later w x) := tab_step (later_below w x)

end Go.Proofs.YtlhdbccemgofjaaGreatDoor

/-
  What the statements of layer 11 need of the package's own calls, and of audit, op and extent, beside those of graphs; an operation done to a graph that lies beside blocks set apart.
-/
namespace Go.Proofs.YtlhdbccemgofjaaGreatDoor
open Go.RowKit StampMath GraphMath OpMath PackMath ExtentMath

structure ApplyHave (H : GraphHave) : Prop where
  why : ∀ (a : Addr) (S : Nat → Prop) (g : Gr) (o : Opn) (w : World) [Tab w], H.rep w S a g → g.fine → OpFit o → Calls Tryz.prog 15 #[.pointer (some a), .agg (opA o)] w fun e w' => e = .returned (.int .i64 (whyA g o)) ∧ Below w.heap.size w w'
  does : ∀ (a : Addr) (S : Nat → Prop) (g : Gr) (o : Opn) (w : World) [Tab w], H.rep w S a g → ¬ S 0 → g.fine → OpFit o → Calls Tryz.prog 16 #[.pointer (some a), .agg (opA o)] w fun e w' => ∃ S', e = .returned (.int .i64 (doA g o).2) ∧ H.rep w' S' a (doA g o).1 ∧ (∀ i, S' i → S i ∨ w.heap.size ≤ i) ∧ But S w w'
  nilDo : ∀ (o : Opn) (w : World) [Tab w], OpFit o → Calls Tryz.prog 16 #[.pointer none, .agg (opA o)] w fun e w' => e = .returned (.int .i64 1) ∧ Below w.heap.size w w'
  may : ∀ (o : Opn) (w : World) [Tab w], OpFit o → Calls Tryz.prog 27 #[.agg (opA o)] w fun e w' => e = .returned (.bool (mayO o)) ∧ Below w.heap.size w w'
  makes : ∀ (o : Opn) (w : World) [Tab w], OpFit o → Calls Tryz.prog 28 #[.agg (opA o)] w fun e w' => e = .returned (.int .i64 (makesO o)) ∧ Below w.heap.size w w'
  fine : ∀ (A : Option Addr) (n c : Nat) (N : List Ino) (A' : Option Addr) (m d : Nat) (E : List Ent) (w : World), Given w A n N A' m E →
    Calls Tryz.prog 23 #[.slice A n c, .slice A' m d] w fun e w' => ∃ b : Bool, e = .returned (.bool b) ∧ (b = true ↔ fineP N E) ∧ Below w.heap.size w w'
  read : ∀ (d : ByteArray) (off many : Int) (w : World), d.size ≤ 2000 → IsI64 off → IsI64 many →
    Calls Tryz.prog 33 #[.string d, .int .i64 off, .int .i64 many] w fun e w' => e = .returned (.string (rR d off many)) ∧ Below w.heap.size w w'

theorem Tab.lt {w : World} (T : Tab w) : 0 < w.heap.size := World.block_lt_of_cell? _ _ (T.at 0 (x := 0) rfl)

theorem GX.tab {H : GraphHave} {w W : World} {N : Nat → Prop} {a : Addr} {g : Gr} (h : GX H w W N a g) (T : Tab w) : Tab W := tab_below T (Nat.le_refl _) h.below

/-- A graph that is fine, made since w, outside the blocks N, which are there. -/
structure FX (H : GraphHave) (w W : World) (N : Nat → Prop) (a : Addr) (g : Gr) : Prop where
  gx : GX H w W N a g
  fine : g.fine

theorem FX.step {H : GraphHave} {w W W' : World} {N : Nat → Prop} {a : Addr} {g : Gr} (h : FX H w W N a g) (hb : Below W.heap.size W W') : FX H w W' N a g := ⟨h.gx.step hb, h.fine⟩

theorem FX.below {H : GraphHave} {w W : World} {N : Nat → Prop} {a : Addr} {g : Gr} (h : FX H w W N a g) : Below w.heap.size w W := h.gx.below

theorem FX.why {H : GraphHave} (P : ApplyHave H) {w W : World} {N : Nat → Prop} {a : Addr} {g : Gr} (h : FX H w W N a g) (T : Tab w) (o : Opn) (ho : OpFit o) :
    Calls Tryz.prog 15 #[.pointer (some a), .agg (opA o)] W fun e w' => e = .returned (.int .i64 (whyA g o)) ∧ FX H w w' N a g ∧ Below W.heap.size W w' := by
  have := h.gx.tab T
  obtain ⟨S, h1, _⟩ := h.gx.at'
  refine (P.why a S g o W h1 h.fine ho).mono ?_
  rintro e w' ⟨he, hb⟩
  exact ⟨he, h.step hb, hb⟩

theorem FX.does {H : GraphHave} (P : ApplyHave H) {w W : World} {N : Nat → Prop} {a : Addr} {g : Gr} (h : FX H w W N a g) (T : Tab w) (o : Opn) (ho : OpFit o) :
    Calls Tryz.prog 16 #[.pointer (some a), .agg (opA o)] W fun e w' => e = .returned (.int .i64 (doA g o).2) ∧ FX H w w' N a (doA g o).1 ∧ Same N W w' := by
  have := h.gx.tab T
  have hf := h.fine
  obtain ⟨⟨⟨S, h1, h2, h3⟩, h4, h5, h6⟩, _⟩ := h
  refine (P.does a S g o W h1 (fun q => by have := h2 _ q; have := T.lt; omega) hf ho).mono ?_
  rintro e w' ⟨S', he, k1, k2, k3⟩
  have r := GX.mut h2 h3 h5 h6 k1 k2 k3 (hf.does o).ok
  exact ⟨he, ⟨r.1, hf.does o⟩, r.2⟩

end Go.Proofs.YtlhdbccemgofjaaGreatDoor

/-
  Entries are few. It needs no program.
-/
namespace Go.Proofs.YtlhdbccemgofjaaGreatDoor
open StampMath GraphMath

/-- Entries are few. -/
theorem ents_few : ∀ (ids : List St) (E : List Ent), (∀ e ∈ E, e.ino ∈ ids) → (∀ id, linksE E id ≤ 6) → E.length ≤ 6 * ids.length
  | [], E, h, _ => by
    cases E with
    | nil => simp
    | cons e l => exact absurd (h e (List.mem_cons_self ..)) (by simp)
  | d :: ids, E, h, h6 => by
    have h1 : (E.filter fun e => decide (e.ino = d)).length ≤ 6 := h6 d
    have h2 := ents_few ids (E.filter fun e => !decide (e.ino = d)) (fun e he => by
      have hm := List.mem_filter.1 he
      have hne : ¬ e.ino = d := by simpa using hm.2
      rcases List.mem_cons.1 (h e hm.1) with q | q
      · exact absurd q hne
      · exact q) (fun id => by
      refine Nat.le_trans ?_ (h6 id)
      unfold linksE
      exact (List.filter_sublist.filter _).length_le)
    have h3 : ∀ l : List Ent, l.length = (l.filter fun e => decide (e.ino = d)).length + (l.filter fun e => !decide (e.ino = d)).length := by
      intro l
      induction l with
      | nil => rfl
      | cons e l ih =>
        by_cases q : e.ino = d
        · simp [q]; omega
        · simp [q]; omega
    rw [h3 E, List.length_cons]
    omega

theorem GraphMath.Gr.ok.entsFew {g : Gr} (h : g.ok) : g.E.length ≤ 240 := by
  have h1 := ents_few (g.I.map fun x => x.id) g.E (fun e he => by
    obtain ⟨x, hx, e1⟩ := h.inos e he
    exact List.mem_map.2 ⟨x, hx, e1⟩) h.six
  rw [List.length_map] at h1
  have := h.few
  omega

end Go.Proofs.YtlhdbccemgofjaaGreatDoor

/-
  What a graph tells, in later worlds.
-/
namespace Go.Proofs.YtlhdbccemgofjaaGreatDoor
open Go.RowKit StampMath GraphMath OpMath

theorem inos_later {W W' : World} {A : Option Addr} {n : Nat} {I : List Ino} (h : InosIn W W.heap.size A n I) (hb : Below W.heap.size W W') : InosIn W' W'.heap.size A n I := (h.below hb).more hb.size
theorem ents_later {W W' : World} {A : Option Addr} {n : Nat} {E : List Ent} (h : EntsIn W W.heap.size A n E) (hb : Below W.heap.size W W') : EntsIn W' W'.heap.size A n E := (h.below hb).more hb.size

/-- What a graph tells, in later worlds. -/
theorem told_inos (H : GraphHave) {w : World} {S : Nat → Prop} {a : Addr} {g : Gr} (h : H.rep w S a g) (hg : g.ok) {W : World} (hW : Below w.heap.size w W) : Calls Tryz.prog 19 #[.pointer (some a)] W (InosPost (inodesG g) W) := by
  refine (H.inodes a S g W (H.keep h fun i hi => hW.block i (H.lt h i hi)) hg).mono ?_
  rintro e w' ⟨v, rfl, hown, hb⟩
  obtain ⟨B, c, rfl, q1, q2, q3⟩ := inos_own rfl hown
  exact ⟨B, c, rfl, q1, q2, q3.1, q3.2, hb⟩

theorem told_ents (H : GraphHave) {w : World} {S : Nat → Prop} {a : Addr} {g : Gr} (h : H.rep w S a g) (hg : g.ok) {W : World} (hW : Below w.heap.size w W) : Calls Tryz.prog 22 #[.pointer (some a)] W (EntsPost g.E W) := by
  refine (H.entries a S g W (H.keep h fun i hi => hW.block i (H.lt h i hi)) hg).mono ?_
  rintro e w' ⟨v, rfl, hown, hb⟩
  obtain ⟨B, c, rfl, q1, q2, q3⟩ := ents_own rfl hown
  exact ⟨B, c, rfl, q1, q2, q3.1, q3.2, hb⟩

end Go.Proofs.YtlhdbccemgofjaaGreatDoor

/-
  The head of layer 11's statements: the document's example.
-/
namespace Go.Proofs.YtlhdbccemgofjaaGreatDoor
open Go.RowKit StampMath GraphMath OpMath PackMath

/-- The example's operations. -/
def shO1 : Opn := ⟨1, 0, 2, 0, 0, 0, 0, 0, 0, ⟨#[102]⟩, ⟨#[]⟩, 0, ⟨#[]⟩⟩
def shO2 : Opn := ⟨2, 0, 5, 0, 0, 1, 0, 0, 0, ⟨#[102]⟩, ⟨#[]⟩, 0, ⟨#[]⟩⟩
def shA1 : Gr := (doA newG shO1).1
def shA2 : Gr := (doA shA1 shO2).1

set_option maxRecDepth 100000 in
theorem sh_ops : (doA newG shO1).2 = 0 ∧ (doA shA1 shO2).2 = 0 ∧ (inodesG shA1).length = 2 ∧ (inodesG shA2).length = 1 := by decide +kernel

theorem sh_fit : OpFit shO1 ∧ OpFit shO2 := ⟨⟨by constructor <;> simp [shO1, IsI64], by decide, by decide, by decide⟩, ⟨by constructor <;> simp [shO2, IsI64], by decide, by decide, by decide⟩⟩

set_option maxRecDepth 100000 in
set_option maxHeartbeats 800000 in
theorem ApplyHave.shown {H : GraphHave} (P : ApplyHave H) (w : World) (T : Tab w) :
    Calls Tryz.prog 11 #[] w fun e w' => e = .returned (.bool true) ∧ Below w.heap.size w w' := by
  have HR := Lib.hid sh_ops
  go_enter Tryz.func11, Tryz.ntmps11
  go_wp2_with fail
  refine (GX.new (H := H) (Below.refl w.heap.size w) (fun _ => False) (fun _ h => h.elim)).mono ?_
  rintro e w1 ⟨a, rfl, g1, _⟩
  have q1 : FX H w (w1.alloc (.cells #[.int .i64 1, .int .i64 0] 35)) (fun i => i = w1.heap.size) a newG := ⟨(g1.grow ((Below.refl w1.heap.size w1).alloc (Nat.le_refl _) (.cells #[.int .i64 1, .int .i64 0] 35))).less fun i hi => .inr (by subst hi; simp), new_fine⟩
  have hx := heap_alloc_new w1 (.cells #[.int .i64 1, .int .i64 0] 35)
  have D1 := Lib.hid (q1.does P T shO1 sh_fit.1)
  rw [HR.out.1] at D1
  unfold opA shO1 at D1
  obtain ⟨e0, e1⟩ := two_cells hx
  have HXX := Lib.hid hx
  clear g1 q1 hx
  go_wp2_with fail
  refine D1.out.mono ?_
  rintro e w2 ⟨rfl, q2, s2⟩
  have hx2 := (s2.2 _ rfl).trans HXX.out
  obtain ⟨i0, i1⟩ := two_cells hx2
  have Q2 : Hid (FX H w w2 (fun i => i = w1.heap.size) a shA1) := q2
  have HX2 := Lib.hid hx2
  clear q2 s2 hx2 HXX e0 e1 D1
  obtain ⟨S2, r2, _⟩ := Q2.out.gx.at'
  have I2 := Lib.hid (told_inos H r2 Q2.out.fine.ok (Below.refl _ _))
  unfold InosPost at I2
  rw [HR.out.2.2.1] at I2
  clear r2
  go_wp2_with fail
  refine I2.out.mono ?_
  rintro e w3 ⟨B, c, rfl, _, _, _, _, hb3⟩
  have Q3 := Lib.hid (Q2.out.step hb3)
  have hx3 := (hb3.block _ (heap_lt HX2.out)).trans HX2.out
  have D3 := Lib.hid (Q3.out.does P T shO2 sh_fit.2)
  rw [HR.out.2.1] at D3
  unfold opA shO2 at D3
  clear i0 i1
  obtain ⟨i0, i1⟩ := two_cells hx3
  clear hx3 hb3 HX2 I2 Q2
  go_wp2_with fail
  refine D3.out.mono ?_
  rintro e w4 ⟨rfl, q4, _⟩
  have Q4 : Hid (FX H w w4 (fun i => i = w1.heap.size) a shA2) := q4
  clear q4 D3 i0 i1 Q3
  obtain ⟨S4, r4, _⟩ := Q4.out.gx.at'
  have I4 := Lib.hid (told_inos H r4 Q4.out.fine.ok (Below.refl _ _))
  unfold InosPost at I4
  rw [HR.out.2.2.2] at I4
  clear r4
  go_wp2_with fail
  refine I4.out.mono ?_
  rintro e w5 ⟨B5, c5, rfl, _, _, _, _, hb5⟩
  have HB := Lib.hid (below_step Q4.out.below hb5)
  clear I4 Q4 hb5
  go_wp2_with fail
  go_ret
  exact ⟨rfl, HB.out⟩

end Go.Proofs.YtlhdbccemgofjaaGreatDoor

/-
  The walk of layer 11's made: operations are done, one behind the other.
-/
namespace Go.Proofs.YtlhdbccemgofjaaGreatDoor
open Go.RowKit StampMath GraphMath OpMath PackMath

set_option maxRecDepth 100000 in
theorem few_any (A : Option Addr) (n c : Nat) (w : World) :
    Calls Tryz.prog 12 #[.slice A n c] w fun e w' => e = .returned (.bool (decide (n ≤ 100))) ∧ Below w.heap.size w w' := by
  have hd : decide (n ≤ 100) = decide ((n : Int) ≤ 100) := by rw [decide_eq_decide]; omega
  rw [hd]
  go_enter Tryz.func12, Tryz.ntmps12
  go_wp2_with fail
  go_ret
  exact ⟨rfl, Below.refl _ _⟩

set_option maxRecDepth 100000 in
set_option maxHeartbeats 1600000 in
theorem made_any {H : GraphHave} (P : ApplyHave H) (A : Option Addr) (n c : Nat) (l : List Opn) (hn : n ≤ 100) (hfit : ∀ o ∈ l, OpFit o) (w : World) (T : Tab w) (h : OpsIn w w.heap.size A n l) :
    Calls Tryz.prog 24 #[.slice A n c] w fun e w' => ∃ a g, e = .returned (.pointer (some a)) ∧ FX H w w' (fun _ => False) a g := by
  have hl := h.len
  have HX := Lib.hid h
  have HL := Lib.hid hl
  have HN := Lib.hid hfit
  clear h hl hfit
  go_enter Tryz.func24, Tryz.ntmps24
  go_wp2_with fail
  refine (GX.new (H := H) (Below.refl w.heap.size w) (fun _ => False) (fun _ h => h.elim)).mono ?_
  rintro e w2 ⟨a, rfl, g2, _⟩
  have G2 : Hid (FX H w w2 (fun _ => False) a newG) := ⟨g2, new_fine⟩
  clear g2
  go_wp2_with fail
  go_loopg [4] 101 (fun gk i wr => ∃ (k : Nat) (γ : Gr), i = .int .i64 (k : Int) ∧ gk + k = 101 ∧ k ≤ n ∧ Hid (FX H w wr (fun _ => False) a γ))
  case atStart => exact ⟨0, newG, rfl, by omega, by omega, G2⟩
  case round =>
    obtain ⟨k, γ, rfl, hgk, hk, hG⟩ := hrel
    have HG := Lib.hid hgk
    clear hgk G2
    by_cases hlt : k < n
    · obtain ⟨gi, o, rfl, hg, hcell⟩ := HX.out.row (by omega)
      have lk : k < l.length := by have := HL.out; omega
      obtain ⟨d0, d1, d2, d3, d4, d5, d6, d7, d8, d9, d10, d11, d12⟩ := (hcell k lk).below hG.out.below hg
      have hnm := HN.out _ (List.getElem_mem lk)
      obtain ⟨d, hd⟩ : ∃ d, l[k] = d := ⟨_, rfl⟩
      rw [hd] at d0 d1 d2 d3 d4 d5 d6 d7 d8 d9 d10 d11 d12 hnm
      have HD := Lib.hid (hG.out.does P T d hnm)
      unfold opA at HD
      have hi0 : (0 : Int) ≤ (k : Int) := by omega
      have hi1 : (k : Int) < (n : Int) := by omega
      clear hcell hd hnm lk
      go_wp2_with fail
      refine HD.out.mono ?_
      rintro e w3 ⟨rfl, q, _⟩
      have Q := Lib.hid q
      clear q d0 d1 d2 d3 d4 d5 d6 d7 d8 d9 d10 d11 d12 HD
      go_wp2_with fail
      go_roundg (gk - 1)
      case measure => have := HG.out; omega
      case rel => exact ⟨k + 1, (doA γ d).1, by go_num, by have := HG.out; omega, by omega, Q⟩
    · have hc : ¬ (k : Int) < (n : Int) := by omega
      clear hlt
      go_wp2_with fail
      go_ret
      exact ⟨a, rfl, γ, hG.out⟩

end Go.Proofs.YtlhdbccemgofjaaGreatDoor

/-
  A slice of pairs of integers (structs of two integer fields) that is only read. It needs no program.
-/
namespace Go.Proofs.YtlhdbccemgofjaaGreatDoor
open Go.RowKit

/-- Both cells of a box written. -/
theorem box_set {w : World} {g : Nat} {a b c d : Value} {t : TypeId} (h : w.heap[g]? = some (.cells #[a, b] t (0, 0))) :
    ((w.setCell ⟨g, 0, none⟩ c).setCell ⟨g, 1, none⟩ d).heap[g]? = some (.cells #[c, d] t (0, 0)) := by
  rw [heap_setCell_same _ _ _ _ _ _ (heap_setCell_same _ _ _ _ _ _ h)]
  rfl

/-- The slice with address A and length n reads as the pairs xs, and lies below block B. -/
def PairsIn (W : World) (B : Nat) (A : Option Addr) (n : Nat) (xs : List (Int × Int)) : Prop :=
  xs.length = n ∧ (0 < n → ∃ g o, A = some ⟨g, o, none⟩ ∧ g < B ∧
    ∀ j (h : j < xs.length), W.cell? ⟨g, o + j * 2, none⟩ = some (.int .i64 xs[j].1) ∧ W.cell? ⟨g, o + j * 2 + 1, none⟩ = some (.int .i64 xs[j].2))

theorem PairsIn.below {W W' : World} {B : Nat} {A : Option Addr} {n : Nat} {xs : List (Int × Int)} (h : PairsIn W B A n xs) (hb : Below B W W') : PairsIn W' B A n xs :=
  ⟨h.1, fun hn => by
    obtain ⟨g, o, e, hg, hc⟩ := h.2 hn
    exact ⟨g, o, e, hg, fun j hj => ⟨(hb.cell (p := ⟨g, o + j * 2, none⟩) hg).trans (hc j hj).1, (hb.cell (p := ⟨g, o + j * 2 + 1, none⟩) hg).trans (hc j hj).2⟩⟩⟩

theorem PairsIn.more {W : World} {B B' : Nat} {A : Option Addr} {n : Nat} {xs : List (Int × Int)} (h : PairsIn W B A n xs) (hB : B ≤ B') : PairsIn W B' A n xs :=
  ⟨h.1, fun hn => by
    obtain ⟨g, o, e, hg, hc⟩ := h.2 hn
    exact ⟨g, o, e, by omega, hc⟩⟩

end Go.Proofs.YtlhdbccemgofjaaGreatDoor

/-
  Two operations held against each other, as the walk meets it.
-/
namespace Go.Proofs.YtlhdbccemgofjaaGreatDoor
open Go.RowKit OpMath

theorem bytes_ext {a b : ByteArray} (h : a.toList = b.toList) : a = b := by
  rw [ByteArray.toList_eq, ByteArray.toList_eq] at h
  apply ByteArray.ext
  exact Array.toList_inj.1 h

theorem opn_ext {a b : Opn} (h1 : a.st = b.st) (h2 : a.sr = b.sr) (h3 : a.k = b.k) (h4 : a.pt = b.pt) (h5 : a.pr = b.pr) (h6 : a.it = b.it) (h7 : a.ir = b.ir) (h8 : a.tt = b.tt) (h9 : a.tr = b.tr)
    (h10 : a.name.toList = b.name.toList) (h11 : a.new.toList = b.new.toList) (h12 : a.off = b.off) (h13 : a.data.toList = b.data.toList) : a = b := by
  have e1 := bytes_ext h10
  have e2 := bytes_ext h11
  have e3 := bytes_ext h13
  cases a
  cases b
  simp_all

theorem run_eqO (a b : Opn) (W : World) : (Op.equalIn 10000 37 (.agg (opA a)) (.agg (opA b))).run Tryz.prog W = .ok (decide (a = b)) W := by
  unfold opA
  go_simp
  by_cases e : a = b
  · subst e
    simp
  · rw [decide_eq_false e]
    by_cases h1 : a.st = b.st
    · rw [if_pos h1]
      by_cases h2 : a.sr = b.sr
      · rw [if_pos h2]
        by_cases h3 : a.k = b.k
        · rw [if_pos h3]
          by_cases h4 : a.pt = b.pt
          · rw [if_pos h4]
            by_cases h5 : a.pr = b.pr
            · rw [if_pos h5]
              by_cases h6 : a.it = b.it
              · rw [if_pos h6]
                by_cases h7 : a.ir = b.ir
                · rw [if_pos h7]
                  by_cases h8 : a.tt = b.tt
                  · rw [if_pos h8]
                    by_cases h9 : a.tr = b.tr
                    · rw [if_pos h9]
                      by_cases h10 : a.name.toList = b.name.toList
                      · rw [if_pos h10]
                        by_cases h11 : a.new.toList = b.new.toList
                        · rw [if_pos h11]
                          by_cases h12 : a.off = b.off
                          · rw [if_pos h12]
                            rw [if_neg fun h13 => e (opn_ext h1 h2 h3 h4 h5 h6 h7 h8 h9 h10 h11 h12 h13)]
                          · rw [if_neg h12]
                        · rw [if_neg h11]
                      · rw [if_neg h10]
                    · rw [if_neg h9]
                  · rw [if_neg h8]
                · rw [if_neg h7]
              · rw [if_neg h6]
            · rw [if_neg h5]
          · rw [if_neg h4]
        · rw [if_neg h3]
      · rw [if_neg h2]
    · rw [if_neg h1]

end Go.Proofs.YtlhdbccemgofjaaGreatDoor

/-
  Bytes in memory as strings: facts on the types []byte and string of this translation.
-/
namespace Go.Proofs.YtlhdbccemgofjaaGreatDoor
open Go.RowKit

theorem u8_info : (Tryz.prog.info? 5).map (fun i => (i.zero, i.size, i.bytes)) = some (some (.int .u8 0), 1, 1) := by kernel_rfl

/-- An owned row of bytes as a string. -/
theorem conv_own {w : World} {base n : Nat} {v : Value} {xs : List UInt8} (hown : w.ownsRow base 5 1 v n (xs.map bcell)) (hn : 0 < n) :
    (convert 114 9 v).run Tryz.prog w = .ok (.string ⟨xs.toArray⟩) w := by
  obtain ⟨g, cap, hv, _, _⟩ := hown.form hn
  have hl : xs.length = n := by have := hown.1; simpa using this
  subst hv
  subst hl
  have hc := hown.cells (g := g) rfl
  refine run_convert_bytes_back w _ _ _ _ cap xs Tryz.underlying114 Tryz.underlying5 Tryz.underlying9 (fun j hj => hc j _ ?_)
  rw [List.getElem?_map, List.getElem?_eq_getElem hj]
  rfl

/-- One byte in memory as a string. -/
theorem conv_one (b : Nat) (w : World) (x : UInt8) (hc : w.cell? ⟨b, 0, none⟩ = some (.int .u8 (x.toNat : Int))) :
    (convert 114 9 (.slice (some ⟨b, 0, none⟩) 1 1)).run Tryz.prog w = .ok (.string ⟨[x].toArray⟩) w := by
  refine run_convert_bytes_back w _ _ _ _ 1 [x] Tryz.underlying114 Tryz.underlying5 Tryz.underlying9 (fun j hj => ?_)
  have : j = 0 := by simp at hj; omega
  subst this
  simpa [Addr.add] using hc

end Go.Proofs.YtlhdbccemgofjaaGreatDoor

/-
  Data are small in a graph that is fine, and in an operation that may be. It needs no program.
-/
namespace Go.Proofs.YtlhdbccemgofjaaGreatDoor
open Go.RowKit StampMath GraphMath OpMath PackMath ExtentMath

theorem inoG_small {g : Gr} (hf : g.fine) (id : St) : (inoG g id).data.size ≤ 64 := by
  unfold inoG
  cases hq : getG g id with
  | none => exact Nat.zero_le _
  | some y =>
    obtain ⟨x, hx, _, rfl⟩ := get_some hq
    have hb := hf.bound x hx
    have hk := hf.ok.kinds x hx
    unfold boundOk1 at hb
    dsimp only [Option.getD_some]
    have h1 := hb.2.2.1
    have h2 := hb.2.2.2.1
    have h3 := hb.2.2.2.2
    rcases show x.kind = 1 ∨ x.kind = 2 ∨ x.kind = 3 by omega with q | q | q
    · have := h1 q; omega
    · have := h2 q; omega
    · have := h3 q; omega

theorem data_small {o : Opn} (hm : mayO o = true) (hk : o.k = 8) : o.data.size ≤ 64 := by
  obtain ⟨_, _, _, _, _, _, _, h8⟩ := mayO_parts hm
  unfold dataB at h8
  rw [if_neg (by omega), if_pos hk] at h8
  simp only [Bool.and_eq_true, decide_eq_true_iff] at h8
  omega

theorem wrote_is {g : Gr} (hf : g.fine) {o : Opn} (hm : mayO o = true) (hk : o.k = 8) (id : St) : (wR (inoG g id).data o.off o.data).1 = GraphMath.bytes (wL (inoG g id).data.data.toList o.data.data.toList o.off.toNat) := by
  obtain ⟨_, _, _, _, _, _, _, h8⟩ := mayO_parts hm
  unfold dataB at h8
  rw [if_neg (by omega), if_pos hk] at h8
  simp only [Bool.and_eq_true, decide_eq_true_iff] at h8
  have := inoG_small hf id
  unfold wR
  rw [if_neg (by omega), if_neg (by omega)]
  rfl

theorem cut_is {g : Gr} (hf : g.fine) {o : Opn} (hm : mayO o = true) (hk : o.k = 9) (id : St) : (tR (inoG g id).data o.off).1 = GraphMath.bytes (tL (inoG g id).data.data.toList o.off.toNat) := by
  obtain ⟨_, _, _, _, _, _, _, h8⟩ := mayO_parts hm
  unfold dataB at h8
  rw [if_neg (by omega), if_neg (by omega), if_pos hk] at h8
  simp only [Bool.and_eq_true, decide_eq_true_iff] at h8
  have := inoG_small hf id
  unfold tR
  rw [if_neg (by omega), if_neg (by omega)]
  rfl

end Go.Proofs.YtlhdbccemgofjaaGreatDoor
