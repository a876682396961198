/-
  Graphs as values: a struct of two slices.
-/
import Derived.Test.YtlhdbccemgofjaaGreatDoorGraphRefListZ
namespace Go.Proofs.YtlhdbccemgofjaaGreatDoor
open Go.RowKit StampMath GraphMath

/-- A slice's bounds, and that it lies in a block of N. -/
def Cap (N : Nat → Prop) (A : Option Addr) (n c : Nat) : Prop := n ≤ c ∧ c ≤ maxLen ∧ (A = none → c = 0) ∧ (0 < n → ∀ p, A = some p → N p.block)

theorem Cap.to {N N' : Nat → Prop} {A : Option Addr} {n c : Nat} (h : Cap N A n c) (hN : ∀ i, N i → N' i := by intro i hi; first | exact hi | exact Or.inl hi | exact Or.inr (by omega) | (dsimp only at hi; exact Or.inr (by omega)) | exact Or.inr (Nat.le_trans (by omega) hi)) : Cap N' A n c :=
  ⟨h.1, h.2.1, h.2.2.1, fun hn p hp => hN _ (h.2.2.2 hn p hp)⟩

/-- The value v is the graph g in memory, in blocks of N. -/
def GrAt (N : Nat → Prop) (W : World) (v : Value) (g : Gr) : Prop :=
  ∃ (A : Option Addr) (n c : Nat) (A' : Option Addr) (m d : Nat), v = .agg #[.slice A n c, .slice A' m d] ∧ InosIn W W.heap.size A n g.I ∧ Cap N A n c ∧ EntsIn W W.heap.size A' m g.E ∧ Cap N A' m d

theorem GrAt.step {N N' : Nat → Prop} {W W' : World} {v : Value} {g : Gr} (h : GrAt N W v g) (hb : Below W.heap.size W W') (hN : ∀ i, N i → N' i := by intro i hi; first | exact hi | exact Or.inl hi) : GrAt N' W' v g := by
  obtain ⟨A, n, c, A', m, d, h1, h2, h3, h4, h5⟩ := h
  exact ⟨A, n, c, A', m, d, h1, (h2.below hb).more hb.size, h3.to hN, (h4.below hb).more hb.size, h5.to hN⟩

theorem TabIn.keep {k : Nat} {W W' : World} {B B' : Nat} {A : Option Addr} {n : Nat} {rows : List (Array Value)} (h : TabIn k W B A n rows) (hk : 0 < n → ∀ p, A = some p → W'.heap[p.block]? = W.heap[p.block]?) (hB : B ≤ B') : TabIn k W' B' A n rows :=
  ⟨h.1, fun hn => by
    obtain ⟨g, o, e, hg, hc⟩ := h.2 hn
    exact ⟨g, o, e, by omega, fun j hj i v hv => (World.cell?_of_block (a := ⟨g, o + j * k + i, none⟩) (hk hn ⟨g, o, none⟩ e)).trans (hc j hj i v hv)⟩⟩

/-- It is kept where its blocks are. -/
theorem GrAt.keep {N N' : Nat → Prop} {W W' : World} {v : Value} {g : Gr} (h : GrAt N W v g) (hk : ∀ i, N i → W'.heap[i]? = W.heap[i]?) (hs : W.heap.size ≤ W'.heap.size) (hN : ∀ i, N i → N' i := by intro i hi; first | exact hi | exact Or.inl hi) : GrAt N' W' v g := by
  obtain ⟨A, n, c, A', m, d, h1, h2, h3, h4, h5⟩ := h
  exact ⟨A, n, c, A', m, d, h1, TabIn.keep h2 (fun hn p hp => hk _ (h3.2.2.2 hn p hp)) hs, h3.to hN, TabIn.keep h4 (fun hn p hp => hk _ (h5.2.2.2 hn p hp)) hs, h5.to hN⟩

theorem GrAt.form {N : Nat → Prop} {W : World} {v : Value} {g : Gr} (h : GrAt N W v g) : ∃ (A : Option Addr) (n c : Nat) (A' : Option Addr) (m d : Nat), v = .agg #[.slice A n c, .slice A' m d] := by
  obtain ⟨A, n, c, A', m, d, h1, _⟩ := h
  exact ⟨A, n, c, A', m, d, h1⟩

/-- Its blocks are there. -/
theorem GrAt.live {N : Nat → Prop} {W : World} {v : Value} {g : Gr} (h : GrAt N W v g) : GrAt (fun i => N i ∧ i < W.heap.size) W v g := by
  obtain ⟨A, n, c, A', m, d, h1, h2, h3, h4, h5⟩ := h
  have lt : ∀ {k n : Nat} {A : Option Addr} {rows : List (Array Value)}, TabIn k W W.heap.size A n rows → 0 < n → ∀ p, A = some p → p.block < W.heap.size := fun h hn p hp => by
    obtain ⟨g, o, e, hg, _⟩ := h.2 hn
    rw [e] at hp
    injection hp with hp
    rw [← hp]
    exact hg
  exact ⟨A, n, c, A', m, d, h1, h2, ⟨h3.1, h3.2.1, h3.2.2.1, fun hn p hp => ⟨h3.2.2.2 hn p hp, lt h2 hn p hp⟩⟩, h4, ⟨h5.1, h5.2.1, h5.2.2.1, fun hn p hp => ⟨h5.2.2.2 hn p hp, lt h4 hn p hp⟩⟩⟩

/-- These blocks, and what is made behind w. -/
def MoreN (N : Nat → Prop) (w : World) : Nat → Prop := fun i => N i ∨ w.heap.size ≤ i

/-- A graph and a number are answered. -/
def GrPost (N : Nat → Prop) (r : Gr × Int) (w : World) (e : Ending) (w' : World) : Prop :=
  ∃ v, e = .returned (.tuple #[v, .int .i64 r.2]) ∧ GrAt (MoreN N w) w' v r.1 ∧ Below w.heap.size w w'

end Go.Proofs.YtlhdbccemgofjaaGreatDoor
