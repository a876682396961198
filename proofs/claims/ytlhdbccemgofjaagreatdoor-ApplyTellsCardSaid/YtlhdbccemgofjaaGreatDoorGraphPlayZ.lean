/-
  A graph beside the document's one in a box: what a round of the statements' loop leaves of both.
-/
import Derived.Test.YtlhdbccemgofjaaGreatDoorZ00
import Derived.Test.YtlhdbccemgofjaaGreatDoorGraphValsZ
namespace Go.Proofs.YtlhdbccemgofjaaGreatDoor
open Go.RowKit StampMath GraphMath OpMath

/-- A round's head: the graph, and the document's, in a box. -/
structure Play (H : GraphHave) (w W : World) (a : Addr) (bx : Nat) (γ : Gr) (X : Option Addr) (n1 c1 : Nat) (Y : Option Addr) (m1 d1 : Nat) (N : Nat → Prop) : Prop where
  gr : GX H w W N a γ
  x : GrAt (fun i => N i ∧ i ≠ bx) W (.agg #[.slice X n1 c1, .slice Y m1 d1]) γ
  here : N bx
  ge : w.heap.size ≤ bx
  box : W.heap[bx]? = some (.cells #[.slice X n1 c1, .slice Y m1 d1] 30 (0, 0))

theorem box_behind {W W' : World} {o : Obj} (hb : Below (W.alloc o).drew.heap.size (W.alloc o).drew W') : W'.heap[W.heap.size]? = some o :=
  (hb.block _ (heap_lt (heap_alloc_new W o))).trans (heap_alloc_new W o)

/-- What the document's answer to a deed leaves: a box with the next graph, and an error. -/
def Told (N : Nat → Prop) (w6 : World) (g' : Gr) (er : Int) (v n : Value) (W : World) : Prop :=
  ∃ (bn : Nat) (X : Option Addr) (n1 c1 : Nat) (Y : Option Addr) (m1 d1 : Nat), v = .pointer (some ⟨bn, 0, none⟩) ∧ n = .int .i64 er ∧ Below w6.heap.size w6 W ∧ w6.heap.size ≤ bn ∧
    W.heap[bn]? = some (.cells #[.slice X n1 c1, .slice Y m1 d1] 30 (0, 0)) ∧ GrAt (MoreN N w6) W (.agg #[.slice X n1 c1, .slice Y m1 d1]) g'

theorem told_after {N : Nat → Prop} {w6 W w8 : World} {g' : Gr} {er : Int} {X : Option Addr} {n1 c1 : Nat} {Y : Option Addr} {m1 d1 : Nat} (hW : Below w6.heap.size w6 W) (q8 : GrAt (MoreN N W) w8 (.agg #[.slice X n1 c1, .slice Y m1 d1]) g') (hb8 : Below W.heap.size W w8) :
    Told N w6 g' er (.pointer (some ⟨w8.heap.size, 0, none⟩)) (.int .i64 er) (w8.alloc (.cells #[.slice X n1 c1, .slice Y m1 d1] 30)) := by
  have h1 := below_step hW hb8
  exact ⟨_, X, n1, c1, Y, m1, d1, rfl, rfl, below_step h1 ((Below.refl _ _).alloc (Nat.le_refl _) _), h1.size, heap_alloc_new _ _, q8.step ((Below.refl _ _).alloc (Nat.le_refl _) _) fun i hi => hi.imp_right fun q => Nat.le_trans hW.size q⟩

theorem told_before {N : Nat → Prop} {w6 w8 : World} {o : Obj} {g' : Gr} {er : Int} {X : Option Addr} {n1 c1 : Nat} {Y : Option Addr} {m1 d1 : Nat} (hN : ∀ i, N i → i < w6.heap.size) (ho : w8.heap[w6.heap.size]? = some (.cells #[.slice none 0 0, .slice none 0 0] 30 (0, 0)))
    (q8 : GrAt (MoreN N (w6.alloc o).drew) w8 (.agg #[.slice X n1 c1, .slice Y m1 d1]) g') (hb8 : Below (w6.alloc o).drew.heap.size (w6.alloc o).drew w8) :
    Told N w6 g' er (.pointer (some ⟨w6.heap.size, 0, none⟩)) (.int .i64 er) ((w8.setCell ⟨w6.heap.size, 0, none⟩ (.slice X n1 c1)).setCell ⟨w6.heap.size, 1, none⟩ (.slice Y m1 d1)) := by
  have h1 : Below w6.heap.size w6 w8 := below_step (((Below.refl w6.heap.size w6).alloc (Nat.le_refl _) o).drew) hb8
  refine ⟨_, X, n1, c1, Y, m1, d1, rfl, rfl, (h1.setCell (p := ⟨w6.heap.size, 0, none⟩) (Nat.le_refl _) _).setCell (p := ⟨w6.heap.size, 1, none⟩) (Nat.le_refl _) _, Nat.le_refl _, ?_, q8.keep (fun i hi => ?_) (by simp) fun i hi => hi.imp_right fun q => ?_⟩
  · rw [heap_setCell_same _ _ _ _ _ _ (heap_setCell_same _ _ _ _ _ _ ho)]
    rfl
  · have hne : i ≠ w6.heap.size := by
      rcases hi with hi | hi
      · have := hN i hi; omega
      · have h2 : w6.heap.size + 1 ≤ i := by
          have h3 : (w6.alloc o).drew.heap.size = w6.heap.size + 1 := by show (w6.alloc o).heap.size = _; simp
          omega
        omega
    rw [heap_setCell_other _ _ _ _ hne, heap_setCell_other _ _ _ _ hne]
  · have h3 : (w6.alloc o).drew.heap.size = w6.heap.size + 1 := by show (w6.alloc o).heap.size = _; simp
    omega

/-- A round's end: the document's next graph is laid into the first box. -/
theorem play_end {H : GraphHave} {w w6 w9 w' : World} {a : Addr} {bx : Nat} {γ' : Gr} {N T : Nat → Prop} {X : Option Addr} {n1 c1 : Nat} {Y : Option Addr} {m1 d1 : Nat} {o1 o2 : Value} (h6 : GX H w w6 (fun i => N i ∨ T i) a γ') (hN : N bx) (hge : w.heap.size ≤ bx) (ho : w6.heap[bx]? = some (.cells #[o1, o2] 30 (0, 0)))
    (hB : Below w6.heap.size w6 w9) (q8 : GrAt (MoreN (fun i => N i ∧ i ≠ bx) w6) w9 (.agg #[.slice X n1 c1, .slice Y m1 d1]) γ') (hB2 : Below w9.heap.size w9 w') :
    ∃ N', Play H w ((w'.setCell ⟨bx, 0, none⟩ (.slice X n1 c1)).setCell ⟨bx, 1, none⟩ (.slice Y m1 d1)) a bx γ' X n1 c1 Y m1 d1 N' := by
  have g9 := (h6.grow hB).step hB2
  have hbut : But (fun i => i = bx) w' ((w'.setCell ⟨bx, 0, none⟩ (.slice X n1 c1)).setCell ⟨bx, 1, none⟩ (.slice Y m1 d1)) := ((But.refl (fun i => i = bx) w').setCell (p := ⟨bx, 0, none⟩) (.inl rfl) _).setCell (p := ⟨bx, 1, none⟩) (.inl rfl) _
  have g10 := g9.put hbut fun i hi => by subst hi; exact ⟨.inl (.inl hN), hge⟩
  have h9 : w'.heap[bx]? = some (.cells #[o1, o2] 30 (0, 0)) := ((hB2.block bx (Nat.lt_of_lt_of_le (heap_lt ho) hB.size)).trans (hB.block bx (heap_lt ho))).trans ho
  refine ⟨_, g10, ((q8.live.step (N' := fun i => MoreN (fun i => N i ∧ i ≠ bx) w6 i ∧ i < w9.heap.size) hB2).keep (fun i hi => ?_) (by simp) fun i hi => ?_), .inl (.inl hN), hge, ?_⟩
  · have hne : i ≠ bx := by
      rcases hi.1 with q | q
      · exact q.2
      · have := heap_lt ho; omega
    rw [heap_setCell_other _ _ _ _ hne, heap_setCell_other _ _ _ _ hne]
  · rcases hi.1 with q | q
    · exact ⟨.inl (.inl q.1), q.2⟩
    · have := heap_lt ho; exact ⟨.inr ⟨q, hi.2⟩, by omega⟩
  · rw [heap_setCell_same _ _ _ _ _ _ (heap_setCell_same _ _ _ _ _ _ h9)]
    rfl

end Go.Proofs.YtlhdbccemgofjaaGreatDoor
