/-
  Maps of any shape: 'm[k]++' and 'm[k] = append(m[k], ..)': an entry is laid, then stored into.
-/
import Derived.Test.YtoobmkkmomiigaaKmap
import Derived.WideKeyEntry
namespace Go.Proofs.Ytoobmkkmomiigaa
open Go.RowKit Go.MapKept
open Go.ChangeMaps (setBlock)

section
variable {K V : Type} {ek : K → Value} {ev : V → Value} {P : Program} {k e : TypeId}

theorem entry_parts (S : KShape P k ek) {t : TypeId} {w : World} {b : Nat} {es : Array MapEntry} {clock : Nat} (ht : P.underlying t = some (.map k e)) {z : Value} (hz : ∀ u : World, (zeroValue e).run P u = .ok z u) (hb : w.heap[b]? = some (.map es clock)) (hs : Stamped es clock) (hall : ∀ e ∈ es.toList, ∃ y, e.key = ek y) (x : K) :
    ∃ (v0 : Value) (st : Nat) (es1 : Array MapEntry) (clock1 : Nat), (Instr.mapEntry t (.map (some b)) (ek x)).run P w = .ok (.tuple #[v0, goInt st]) (setBlock w b (.map es1 clock1)) ∧
      ((∃ e0 ∈ es.toList, e0.key = ek x ∧ v0 = e0.val) ∨ ((∀ x' ∈ es.toList, x'.key ≠ ek x) ∧ v0 = z)) ∧ (Instr.mapUpdate t (.map (some b)) (ek x) v0).run P w = .ok () (setBlock w b (.map es1 clock1)) ∧
      ∀ (w2 : World) (val : Value), w2.heap[b]? = some (.map es1 clock1) → ∃ es' clock', (Instr.entryStore t (.map (some b)) (goInt st) val).run P w2 = .ok () (setBlock w2 b (.map es' clock')) ∧
        (Instr.mapUpdate t (.map (some b)) (ek x) val).run P w = .ok () (setBlock w b (.map es' clock')) := by
  obtain ⟨s1, s2, _⟩ := hs
  rcases S.find w x es.toList hall with ⟨h1, h2⟩ | ⟨j, e0, h1, h2, h3⟩
  · refine ⟨z, clock, es.push ⟨ek x, z, clock⟩, clock + 1, ?_, Or.inr ⟨h2, rfl⟩, ?_, fun w2 val hw2 => ⟨es.push ⟨ek x, val, clock⟩, clock + 1, ?_, ?_⟩⟩
    · simp [Instr.mapEntry, run_underlying ht, MapKept.run_getObj_map hb, S.check w, h1, hz, MapKept.run_setObj_map _ hb, Result.andThen, setBlock]
    · simp [Instr.mapUpdate, run_underlying ht, MapKept.run_getObj_map hb, S.check w, h1, MapKept.run_setObj_map _ hb, Result.andThen, setBlock]
    · have hidx : (es.push ⟨ek x, z, clock⟩).findIdx? (fun e => ((e.born : Nat) : Int) == ((clock : Nat) : Int)) = some es.size := by
        rw [WideElems.findIdx_arr]
        have := WideElems.findIdx_born (l := (es.push ⟨ek x, z, clock⟩).toList) (j := es.size) (e0 := ⟨ek x, z, clock⟩) (by
          simp only [Array.toList_push, List.map_append, List.map_cons, List.map_nil]
          refine List.nodup_append.2 ⟨s2, by simp, fun a ha c hc e1 => ?_⟩
          simp only [List.mem_singleton] at hc
          obtain ⟨x, hx, rfl⟩ := List.mem_map.1 ha
          have := s1 x hx
          omega) (by simp)
        exact this
      have hmod : (es.push ⟨ek x, z, clock⟩).modify es.size (fun e => { e with val := val }) = es.push ⟨ek x, val, clock⟩ := by
        apply Array.ext'
        rw [Array.toList_modify, Array.toList_push, Array.toList_push, ← Array.length_toList, WideElems.modify_last]
      simp [Instr.entryStore, MapKept.run_getObj_map hw2, asInt, asIntOf, goInt, hidx, hmod, MapKept.run_setObj_map _ hw2, Result.andThen, setBlock]
    · simp [Instr.mapUpdate, run_underlying ht, MapKept.run_getObj_map hb, S.check w, h1, MapKept.run_setObj_map _ hb, Result.andThen, setBlock]
  · have hj : es[j]? = some e0 := by simpa using h2
    have hsame : es.modify j (fun e => { e with key := ek x }) = es := by
      apply Array.ext'
      rw [Array.toList_modify, ChangeMaps.modify_eq_set _ _ _ _ h2]
      have : ({ e0 with key := ek x } : MapEntry) = e0 := by rw [← h3]
      rw [this]
      exact WideElems.set_self _ _ _ h2
    have hsame2 : es.modify j (fun e => { e with key := ek x, val := e0.val }) = es := by
      apply Array.ext'
      rw [Array.toList_modify, ChangeMaps.modify_eq_set _ _ _ _ h2]
      have : ({ e0 with key := ek x, val := e0.val } : MapEntry) = e0 := by rw [← h3]
      rw [this]
      exact WideElems.set_self _ _ _ h2
    refine ⟨e0.val, e0.born, es, clock, ?_, Or.inl ⟨e0, List.mem_of_getElem? h2, h3, rfl⟩, ?_, fun w2 val hw2 => ⟨es.modify j (fun e' => { e' with key := ek x, val := val }), clock, ?_, ?_⟩⟩
    · simp [Instr.mapEntry, run_underlying ht, MapKept.run_getObj_map hb, S.check w, h1, hj, h3, S.stays w, hsame, MapKept.run_setObj_map _ hb, Result.andThen, setBlock]
    · simp [Instr.mapUpdate, run_underlying ht, MapKept.run_getObj_map hb, S.check w, h1, hj, h3, S.stays w, hsame2, MapKept.run_setObj_map _ hb, Result.andThen, setBlock]
    · have hidx : es.findIdx? (fun e => ((e.born : Nat) : Int) == ((e0.born : Nat) : Int)) = some j := by
        rw [WideElems.findIdx_arr]
        exact WideElems.findIdx_born s2 h2
      have hmod : es.modify j (fun e => { e with val := val }) = es.modify j (fun e' => { e' with key := ek x, val := val }) := by
        apply Array.ext'
        rw [Array.toList_modify, Array.toList_modify, ChangeMaps.modify_eq_set _ _ _ _ h2, ChangeMaps.modify_eq_set _ _ _ _ h2, ← h3]
      simp [Instr.entryStore, MapKept.run_getObj_map hw2, asInt, asIntOf, goInt, hidx, hmod, MapKept.run_setObj_map _ hw2, Result.andThen, setBlock]
    · simp [Instr.mapUpdate, run_underlying ht, MapKept.run_getObj_map hb, S.check w, h1, hj, h3, S.stays w, MapKept.run_setObj_map _ hb, Result.andThen, setBlock]

variable (ek ev P) in
/-- The entry of the key x lies in the map's block: what is stored into it makes this map. -/
def KSlot [DecidableEq K] (t : TypeId) (W : World) (b : Nat) (L : List (K × V)) (x : K) (st : Nat) : Prop :=
  ∀ (W2 : World), W2.heap[b]? = W.heap[b]? → ∀ val : V, ∃ W3, (Instr.entryStore t (.map (some b)) (.int .i64 (st : Int)) (ev val)).run P W2 = .ok () W3 ∧ KMap ek ev W3 b ((x, val) :: offL L x) ∧ But (fun i => i = b) W2 W3 ∧ W3.heap.size = W2.heap.size

theorem KMap.entry [DecidableEq K] (S : KShape P k ek) {t : TypeId} {w : World} {b : Nat} {L : List (K × V)} (h : KMap ek ev w b L) (ht : P.underlying t = some (.map k e)) (zv : V) (hz : ∀ u : World, (zeroValue e).run P u = .ok (ev zv) u) (x : K) :
    ∃ (st : Nat) (w1 : World), (Instr.mapEntry t (.map (some b)) (ek x)).run P w = .ok (.tuple #[ev ((lookL L x).getD zv), .int .i64 (st : Int)]) w1 ∧ KMap ek ev w1 b ((x, (lookL L x).getD zv) :: offL L x) ∧ But (fun i => i = b) w w1 ∧ w1.heap.size = w.heap.size ∧ KSlot ek ev P t w1 b L x st := by
  have hup := fun v => h.store S ht x v
  obtain ⟨es, clock, M, h1, h2, h3, h4⟩ := h
  have hkM := keys_of h2 h3
  obtain ⟨v0, st, es1, clock1, r1, hv, r2, r3⟩ := entry_parts S ht hz h1 h2 (all_shape h3) x
  have hv0 : v0 = ev ((lookL L x).getD zv) := by
    rw [← lookL_perm h4 hkM]
    rcases hv with ⟨e0, he0, hk0, rfl⟩ | ⟨hn, rfl⟩
    · obtain ⟨j, hj, rfl⟩ := List.getElem_of_mem he0
      obtain ⟨p, q1, q2, q3⟩ := entry_shape h3 (List.getElem?_eq_getElem hj)
      have hpx : p.1 = x := S.inj _ _ (q2.symm.trans hk0)
      have : lookL M x = some p.2 := (mem_lookL hkM).2 (by rw [← hpx]; exact List.mem_of_getElem? q1)
      rw [this, q3]
      rfl
    · have hno : lookL M x = none := lookL_none fun p hp e1 => by
        obtain ⟨j, hj, rfl⟩ := List.getElem_of_mem hp
        have hl : j < es.toList.length := by have := congrArg List.length h3; simp only [List.length_map] at this; omega
        obtain ⟨p', q1, q2, _⟩ := entry_shape h3 (List.getElem?_eq_getElem hl)
        rw [List.getElem?_eq_getElem hj] at q1
        have := Option.some.inj q1
        subst this
        exact hn _ (List.getElem_mem hl) (by rw [q2, e1])
      rw [hno]
      rfl
  subst hv0
  obtain ⟨w', s1, s2, s3, s4⟩ := hup ((lookL L x).getD zv)
  rw [r2] at s1
  cases s1
  refine ⟨st, _, r1, s2, s3, s4, fun W2 hW2 val => ?_⟩
  have hW2' := hW2.trans (heap_set (o' := .map es1 clock1) h1).1
  obtain ⟨es', clock', t1, t2⟩ := r3 W2 (ev val) hW2'
  obtain ⟨w'', u1, u2, u3, u4⟩ := hup val
  rw [t2] at u1
  cases u1
  refine ⟨_, t1, u2.kept ?_, setBlock_but hW2', by simp [setBlock]⟩
  show (setBlock W2 b (.map es' clock')).heap[b]? = (setBlock w b (.map es' clock')).heap[b]?
  exact (heap_set hW2').1.trans (heap_set h1).1.symm

/-- An entry is laid. -/
theorem wpList_k_entry [DecidableEq K] (S : KShape P k ek) {w : World} {ops : Array Oper} {rest : List Oper} {o : Oper} {a : Act} {Q : Exit → Act → World → Prop} (hg : o.guard = none) (m x : Operand) (t : TypeId)
    (hop : o.op = Op.mapEntry t m x) (ht : P.underlying t = some (.map k e)) (zv : V) (hz : ∀ u : World, (zeroValue e).run P u = .ok (ev zv) u) (b : Nat) (L : List (K × V)) (hm : a.eval m = .map (some b)) (h : KMap ek ev w b L) (key : K) (hx : a.eval x = ek key)
    (hK : ∀ (v : V) (st : Nat) (w' : World), v = (lookL L key).getD zv → Hid (KMap ek ev w' b ((key, v) :: offL L key)) → Hid (But (fun i => i = b) w w') → Hid (w'.heap.size = w.heap.size) → Hid (KSlot ek ev P t w' b L key st) → wpList P ops Q rest (a.put o.dst (.tuple #[ev v, .int .i64 (st : Int)])) w') : wpList P ops Q (o :: rest) a w := by
  refine wpList_plain hg fun K' hK' => ?_
  obtain ⟨st, w', hrun, r1, r2, r3, r4⟩ := h.entry S ht zv hz key
  unfold Oper.wp
  simp [execOp, hop, hm, hx, hrun, Result.andThen]
  exact hK' _ _ (hK _ st w' rfl r1 r2 r3 r4)

/-- .. and stored into. -/
theorem wpList_k_entryStore [DecidableEq K] {w : World} {ops : Array Oper} {rest : List Oper} {o : Oper} {a : Act} {Q : Exit → Act → World → Prop} (hg : o.guard = none) (m s v : Operand) (t : TypeId)
    (hop : o.op = Op.entryStore t m s v) (b : Nat) (L : List (K × V)) (hm : a.eval m = .map (some b)) (key : K) (st : Nat) (W : World) (h : KSlot ek ev P t W b L key st) (hW : w.heap[b]? = W.heap[b]?) (hs : a.eval s = .int .i64 (st : Int)) (val : V) (hv : a.eval v = ev val)
    (hK : ∀ w', Hid (KMap ek ev w' b ((key, val) :: offL L key)) → Hid (But (fun i => i = b) w w') → Hid (w'.heap.size = w.heap.size) → wpList P ops Q rest (a.put o.dst undef) w') : wpList P ops Q (o :: rest) a w := by
  refine wpList_plain hg fun K' hK' => ?_
  obtain ⟨w', hrun, r1, r2, r3⟩ := h w hW val
  unfold Oper.wp
  simp [execOp, hop, hm, hs, hv, hrun, Result.andThen]
  exact hK' _ _ (hK w' r1 r2 r3)

end
end Go.Proofs.Ytoobmkkmomiigaa
