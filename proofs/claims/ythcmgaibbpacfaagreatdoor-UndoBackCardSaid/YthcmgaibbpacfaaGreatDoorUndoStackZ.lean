/-
  Records kept in a slice, beside the graph that they speak of.
-/
import Derived.Test.YthcmgaibbpacfaaGreatDoorZ01
import Derived.Test.YthcmgaibbpacfaaGreatDoorZ01
import Derived.Maps.AppendAt
namespace Go.Proofs.YthcmgaibbpacfaaGreatDoor
open Go.RowKit StampMath GraphMath OpMath PackMath

/-- A row whose block is as it was. -/
theorem own_same {w w' : World} {base : Nat} {e : TypeId} {k : Nat} {v : Value} {n : Nat} {xs : List Value} (h : w.ownsRow base e k v n xs) (hb : ∀ g, v.ownBlock = some g → w'.heap[g]? = w.heap[g]?) : w'.ownsRow base e k v n xs := by
  obtain ⟨h0, h1 | ⟨g, cap, cur, h1, h2, h3, h4⟩⟩ := h
  · exact ⟨h0, Or.inl h1⟩
  · exact ⟨h0, Or.inr ⟨g, cap, cur, h1, h2, (hb g (by rw [h1]; rfl)).trans h3, h4⟩⟩

/-- A graph that is fine, made since w, outside the blocks N; among these a slice of records, whose own lists lie in M. -/
structure Stack (H : GraphHave) (w W : World) (N M : Nat → Prop) (a : Addr) (g : Gr) (rv : Value) (rs : List Rec) : Prop where
  fx : FX H w W N a g
  own : ∃ vs : List (Array Value), vs.length = rs.length ∧ W.ownsRow w.heap.size 36 5 rv rs.length (flat vs) ∧ (∀ v ∈ vs, v.size = 5) ∧ ∀ (j : Nat) (r : Rec) (v : Array Value), rs[j]? = some r → vs[j]? = some v → RecAt M W (.agg v) r
  sub : ∀ i, M i → N i
  row : ∀ b, rv.ownBlock = some b → N b ∧ ¬ M b

section
variable {H : GraphHave} {w W W' : World} {N M : Nat → Prop} {a : Addr} {g g' : Gr} {rv : Value} {rs : List Rec}

theorem Stack.start (h : FX H w W N a g) : Stack H w W N (fun _ => False) a g (.slice none 0 0) [] :=
  ⟨h, ⟨[], rfl, World.ownsRow_nil _ _ _ _, (fun _ hv => (nomatch hv)), fun j r v hr => by simp at hr⟩, (fun _ hi => hi.elim), fun b hb => by simp [Value.ownBlock] at hb⟩

/-- A call that leaves the blocks N; the graph may be another one. -/
theorem Stack.same (h : Stack H w W N M a g rv rs) {N' : Nat → Prop} (hN : ∀ i, N i → N' i) (k : FX H w W' N' a g') (s : Same N W W') : Stack H w W' N' M a g' rv rs := by
  obtain ⟨fx, ⟨vs, h1, h2, h3, h4⟩, sub, row⟩ := h
  refine ⟨k, ⟨vs, h1, own_same h2 fun b hb => s.2 b (row b hb).1, h3, fun j r v hr hv => (h4 j r v hr hv).keep (fun i hi _ => s.2 i (sub i hi)) s.1⟩, fun i hi => hN i (sub i hi), fun b hb => ⟨hN b (row b hb).1, (row b hb).2⟩⟩

theorem Stack.step (h : Stack H w W N M a g rv rs) (hb : Below W.heap.size W W') : Stack H w W' N M a g rv rs :=
  h.same (fun _ hi => hi) (h.fx.step hb) ⟨hb.size, fun i hi => hb.block i (h.fx.gx.lt i hi)⟩

/-- More lists are of records. -/
theorem Stack.more (h : Stack H w W N M a g rv rs) {B : Nat → Prop} (hB : ∀ i, B i → N i) (hr : ∀ b, rv.ownBlock = some b → ¬ B b) : Stack H w W N (fun i => M i ∨ B i) a g rv rs := by
  obtain ⟨fx, ⟨vs, h1, h2, h3, h4⟩, sub, row⟩ := h
  exact ⟨fx, ⟨vs, h1, h2, h3, fun j r v hr hv => (h4 j r v hr hv).mono fun i hi _ => Or.inl hi⟩, fun i hi => hi.elim (sub i) (hB i), fun b hb => ⟨(row b hb).1, fun q => q.elim (row b hb).2 (hr b hb)⟩⟩

/-- One record more lies behind the others. -/
theorem Stack.push (h : Stack H w W N M a g rv rs) {vs : List (Array Value)} (h1 : vs.length = rs.length) (h3 : ∀ v ∈ vs, v.size = 5) (h4 : ∀ (j : Nat) (r : Rec) (v : Array Value), rs[j]? = some r → vs[j]? = some v → RecAt M W (.agg v) r)
    {v : Array Value} {r : Rec} (hv : v.size = 5) (hr : RecAt M W (.agg v) r) {rv' : Value} (hown : W'.ownsRow w.heap.size 36 5 rv' (rs.length + 1) (flat vs ++ v.toList)) (hg : W.grownBy W' rv.ownBlock) (hat : rv'.ownBlock = rv.ownBlock ∨ rv'.ownBlock = some W.heap.size)
    (hlow : ∀ b, rv.ownBlock = some b → w.heap.size ≤ b) : Stack H w W' (fun i => N i ∨ (W.heap.size ≤ i ∧ i < W'.heap.size)) M a g rv' (rs ++ [r]) := by
  obtain ⟨⟨⟨⟨S, q1, q2, q3⟩, q4, q5, q6⟩, q7⟩, _, sub, row⟩ := h
  have hM : ∀ i, M i → W'.heap[i]? = W.heap[i]? := fun i hi => hg.block i (q5 i (sub i hi)) fun e => (row i e.symm).2 hi
  have hS : ∀ i, S i → W'.heap[i]? = W.heap[i]? := fun i hi => hg.block i (H.lt q1 i hi) fun e => q3 i (row i e.symm).1 hi
  refine ⟨⟨⟨⟨S, H.keep q1 hS, q2, fun i hi hs => ?_⟩, q4, fun i hi => ?_, ⟨hg.os.trans q6.os, hg.tape.trans q6.tape, hg.output.trans q6.output, Nat.le_trans q6.size hg.size, fun k hk => (hg.block k (Nat.lt_of_lt_of_le hk q6.size) fun e => ?_).trans (q6.block k hk)⟩⟩, q7⟩, ⟨vs ++ [v], by simp [h1], ?_, ?_, ?_⟩, fun i hi => Or.inl (sub i hi), fun b hb => ?_⟩
  · rcases hi with hi | hi
    · exact q3 i hi hs
    · have := H.lt q1 i hs; omega
  · rcases hi with hi | hi
    · exact Nat.lt_of_lt_of_le (q5 i hi) hg.size
    · exact hi.2
  · have := hlow k e.symm; omega
  · rw [flat_append, flat_one, List.length_append]
    exact hown
  · intro u hu
    rcases List.mem_append.1 hu with hu | hu
    · exact h3 u hu
    · rw [List.mem_singleton.1 hu]; exact hv
  · intro j r' v' hr' hv'
    by_cases hj : j < rs.length
    · rw [List.getElem?_append_left hj] at hr'
      rw [List.getElem?_append_left (by omega)] at hv'
      exact (h4 j r' v' hr' hv').keep (fun i hi _ => hM i hi) hg.size
    · have e1 : j = rs.length := by
        have := (List.getElem?_eq_some_iff.1 hr').1
        rw [List.length_append] at this
        simp at this
        omega
      subst e1
      rw [List.getElem?_append_right (Nat.le_refl _)] at hr'
      rw [← h1, List.getElem?_append_right (Nat.le_refl _)] at hv'
      simp at hr' hv'
      subst hr' hv'
      exact hr.keep (fun i hi _ => hM i hi) hg.size
  · rcases hat with q | q
    · rw [q] at hb
      exact ⟨Or.inl (row b hb).1, (row b hb).2⟩
    · rw [q] at hb
      injection hb with hb
      subst hb
      have hlt : W.heap.size < W'.heap.size := by
        rcases hown with ⟨_, ⟨e, _⟩ | ⟨g0, cap, cur, e, _, k1, _⟩⟩
        · rw [e] at q; cases q
        · rw [e] at q
          have : g0 = W.heap.size := by simpa [Value.ownBlock] using q
          rw [← this]
          exact heap_lt k1
      exact ⟨Or.inr ⟨Nat.le_refl _, hlt⟩, fun m => by have := q5 _ (sub _ m); omega⟩

end

end Go.Proofs.YthcmgaibbpacfaaGreatDoor
