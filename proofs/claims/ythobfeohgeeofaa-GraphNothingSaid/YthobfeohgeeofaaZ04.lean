/-
  The walks of the document's own List, Entries and Nodes (graphs).
-/
import Derived.Test.YthobfeohgeeofaaZ03
import Derived.Test.YthobfeohgeeofaaZ01
import Derived.Test.YthobfeohgeeofaaZ00
namespace Go.Proofs.Ythobfeohgeeofaa
open Go.RowKit StampMath GraphMath

theorem listE_snoc (E : List Ent) (k : Nat) (h : k < E.length) (d : St) : listE (E.take (k + 1)) d = if E[k].dir = d then listE (E.take k) d ++ [E[k]] else listE (E.take k) d := by
  unfold listE
  rw [List.take_succ_eq_append_getElem h, List.filter_append]
  by_cases e : E[k].dir = d
  · rw [if_pos e]; simp [e]
  · rw [if_neg e]; simp [e]

theorem listE_le (E : List Ent) (d : St) : (listE E d).length ≤ E.length := List.length_filter_le _ _

set_option maxRecDepth 100000 in
set_option maxHeartbeats 1600000 in
theorem refList (v : Value) (A : Option Addr) (n c : Nat) (E : List Ent) (id : St) (hn : n ≤ 1000) (w : World) (h : EntsIn w w.heap.size A n E) :
    Calls Try.prog 21 #[.agg #[v, .slice A n c], .agg (stA id)] w (EntsPost (listE E id) w) := by
  obtain ⟨i0, hi0, hz0, hz1, hz2⟩ := info_parts ent_infos
  have hl := h.len
  have HI : Hid (EntsIn w w.heap.size A n E) := h
  clear h
  have hb0 : Held w [(w.heap.size + 1, .cells (stA id) 24), (w.heap.size, .cells #[v, .slice A n c] 33)]
    ((w.alloc (.cells #[v, .slice A n c] 33)).alloc (.cells #[.int .i64 id.1, .int .i64 id.2] 24)) :=
    ((Held.refl w).alloc (.cells #[v, .slice A n c] 33) rfl).alloc (.cells (stA id) 24) (by simp)
  unfold stA
  go_enter Try.func21, Try.ntmps21
  go_wp2_with fail
  go_loopg [5, 6] (n + 1) (fun gk out i wr => ∃ k : Nat, i = .int .i64 (k : Int) ∧ gk + k = n + 1 ∧ k ≤ n ∧ wr.ownsRow (w.heap.size + 2) 26 5 out (listE (E.take k) id).length (flat ((listE (E.take k) id).map entA)) ∧ Held w [(w.heap.size + 1, .cells (stA id) 24), (w.heap.size, .cells #[v, .slice A n c] 33)] wr)
  case atStart => exact ⟨0, rfl, by omega, by omega, World.ownsRow_nil _ _ _ _, hb0⟩
  case round =>
    obtain ⟨k, rfl, hgk, hk, hown, hH⟩ := hrel
    clear hb0
    have hc1 := (two_cells (g := w.heap.size) (hH.at 1 rfl)).2
    obtain ⟨c3, c4⟩ := two_cells (g := w.heap.size + 1) (hH.at 0 rfl)
    by_cases hlt : k < n
    · obtain ⟨gi, o, rfl, hg, hrow⟩ := HI.out.row (by omega)
      have hsn := listE_snoc E k (by omega) id
      have hle : (listE (E.take k) id).length ≤ 1000 := by have := listE_le (E.take k) id; rw [List.length_take] at this; omega
      have hrk := fun W hb => (hrow k (by omega)).below (B := w.heap.size) (W' := W) hb hg
      obtain ⟨x, hx⟩ : ∃ x, E[k] = x := ⟨_, rfl⟩
      rw [hx] at hrk hsn
      clear hrow hx
      obtain ⟨e0, e1, e2, e3, e4⟩ := hrk wr hH.below
      have HR := Lib.hid hrk
      clear hrk
      by_cases hq : x.dir = id
      · have hv := eqSt_yes hq
        rw [if_pos hq] at hsn
        have HS := Lib.hid hsn
        clear hsn
        go_wp2_with fail
        go_quiet (fail)
        have hH2 := hH.drewN nq
        have hown2 : (wr.drewN nq).ownsRow (w.heap.size + 2) 26 5 u5 (listE (E.take k) id).length (flat ((listE (E.take k) id).map entA)) := hown
        generalize wr.drewN nq = w2 at hH2 hown2 ⊢
        clear hc1 c3 c4 e0 e1 e2 e3 e4 hH hown hv hq
        have hc1 := (two_cells (g := w.heap.size) (hH2.at 1 rfl)).2
        obtain ⟨e0, e1, e2, e3, e4⟩ := HR.out w2 hH2.below
        have hlow : w.heap.size + 1 < w2.heap.size := heap_lt (hH2.at 0 rfl)
        have hm : (listE (E.take k) id).length + 1 ≤ maxLen := by unfold maxLen; omega
        go_wp2_with (at_builtin; refine wpList_append_own _ rfl (.tmp 22) (.tmp 28) 31 rfl (w.heap.size + 2) 26 i0 _ 5 48 Try.underlying31 hi0 hz0 hz1 hz2 rfl (by decide) _ _ _ rfl (hown2.alloc _) ⟨w2.heap.size, 0, none⟩ 1 1 (entA x).toList rfl rfl (row_there w2 _ _) (ent_one x) hm (by omega) (by simp; omega) ?_; intro v2 w3 hown3 hg3 _)
        have hb3 : Held w [(w.heap.size + 1, .cells (stA id) 24), (w.heap.size, .cells #[v, .slice (some ⟨gi, o, none⟩) n c] 33)] w3 :=
          (hH2.step ((Below.refl _ _).alloc (Nat.le_refl _) _)).grown hg3 (fun q hq => (hown2.lt q hq).1) (by intro p hp; simp at hp; rcases hp with rfl | rfl <;> (dsimp only; omega))
        rw [flat_ent] at hown3
        go_roundg (gk - 1)
        case measure => omega
        case rel => exact ⟨k + 1, by go_num, by omega, by omega, by rw [HS.out, List.length_append]; exact hown3, hb3⟩
      · have hv := eqSt_no hq
        rw [if_neg hq] at hsn
        have HS := Lib.hid hsn
        clear hsn
        go_wp2_with fail
        go_quiet (fail)
        go_wp2_with fail
        go_roundg (gk - 1)
        case measure => omega
        case rel => exact ⟨k + 1, by go_num, by omega, by omega, by rw [HS.out]; exact hown, hH.drewN _⟩
    · obtain ⟨B, cc, rfl, q1, q2, q3⟩ := ents_own rfl hown
      rw [List.take_of_length_le (by omega)] at q1 q2
      go_wp2_with fail
      go_ret
      rw [List.take_of_length_le (show E.length ≤ k by omega)]
      exact ⟨B, cc, rfl, q1, q2, q3.1, q3.2, hH.below⟩

end Go.Proofs.Ythobfeohgeeofaa

/-
  Graphs as values: a struct of two slices.
-/
namespace Go.Proofs.Ythobfeohgeeofaa
open Go.RowKit StampMath GraphMath

/-- A slice's bounds, and that it lies in a block of N. -/
def Cap (N : Nat → Prop) (A : Option Addr) (n c : Nat) : Prop := n ≤ c ∧ c ≤ maxLen ∧ (A = none → c = 0) ∧ (0 < n → ∀ p, A = some p → N p.block)

theorem Cap.to {N N' : Nat → Prop} {A : Option Addr} {n c : Nat} (h : Cap N A n c) (hN : ∀ i, N i → N' i := by intro i hi; first | exact hi | exact Or.inl hi | exact Or.inr (by omega) | (dsimp only at hi; exact Or.inr (by omega)) | exact Or.inr (Nat.le_trans (by omega) hi)) : Cap N' A n c :=
  ⟨h.1, h.2.1, h.2.2.1, fun hn p hp => hN _ (h.2.2.2 hn p hp)⟩

/-- The value v is the graph g in memory, in blocks of N. -/
def GrAt (N : Nat → Prop) (W : World) (v : Value) (g : Gr) : Prop :=
  ∃ (A : Option Addr) (n c : Nat) (A' : Option Addr) (m d : Nat), v = .agg #[.slice A n c, .slice A' m d] ∧ InosIn W W.heap.size A n g.I ∧ Cap N A n c ∧ EntsIn W W.heap.size A' m g.E ∧ Cap N A' m d

theorem GrAt.step {N N' : Nat → Prop} {W W' : World} {v : Value} {g : Gr} (h : GrAt N W v g) (hb : Below W.heap.size W W') (hN : ∀ i, N i → N' i := by intro i hi; first | exact hi | exact Or.inl hi) : GrAt N' W' v g := by
  obtain ⟨A, n, c, A', m, d, h1, h2, h3, h4, h5⟩ := h
  exact ⟨A, n, c, A', m, d, h1, (h2.below hb).more hb.size, h3.to hN, (h4.below hb).more hb.size, h5.to hN⟩

theorem TabIn.keep {k : Nat} {W W' : World} {B B' : Nat} {A : Option Addr} {n : Nat} {rows : List (Array Value)} (h : TabIn k W B A n rows) (hk : 0 < n → ∀ p, A = some p → W'.heap[p.block]? = W.heap[p.block]?) (hB : B ≤ B') : TabIn k W' B' A n rows :=
  ⟨h.1, fun hn => by
    obtain ⟨g, o, e, hg, hc⟩ := h.2 hn
    exact ⟨g, o, e, by omega, fun j hj i v hv => (World.cell?_of_block (a := ⟨g, o + j * k + i, none⟩) (hk hn ⟨g, o, none⟩ e)).trans (hc j hj i v hv)⟩⟩

/-- It is kept where its blocks are. -/
theorem GrAt.keep {N N' : Nat → Prop} {W W' : World} {v : Value} {g : Gr} (h : GrAt N W v g) (hk : ∀ i, N i → W'.heap[i]? = W.heap[i]?) (hs : W.heap.size ≤ W'.heap.size) (hN : ∀ i, N i → N' i := by intro i hi; first | exact hi | exact Or.inl hi) : GrAt N' W' v g := by
  obtain ⟨A, n, c, A', m, d, h1, h2, h3, h4, h5⟩ := h
  exact ⟨A, n, c, A', m, d, h1, TabIn.keep h2 (fun hn p hp => hk _ (h3.2.2.2 hn p hp)) hs, h3.to hN, TabIn.keep h4 (fun hn p hp => hk _ (h5.2.2.2 hn p hp)) hs, h5.to hN⟩

/-- Its blocks are there. -/
theorem GrAt.live {N : Nat → Prop} {W : World} {v : Value} {g : Gr} (h : GrAt N W v g) : GrAt (fun i => N i ∧ i < W.heap.size) W v g := by
  obtain ⟨A, n, c, A', m, d, h1, h2, h3, h4, h5⟩ := h
  have lt : ∀ {k n : Nat} {A : Option Addr} {rows : List (Array Value)}, TabIn k W W.heap.size A n rows → 0 < n → ∀ p, A = some p → p.block < W.heap.size := fun h hn p hp => by
    obtain ⟨g, o, e, hg, _⟩ := h.2 hn
    rw [e] at hp
    injection hp with hp
    rw [← hp]
    exact hg
  exact ⟨A, n, c, A', m, d, h1, h2, ⟨h3.1, h3.2.1, h3.2.2.1, fun hn p hp => ⟨h3.2.2.2 hn p hp, lt h2 hn p hp⟩⟩, h4, ⟨h5.1, h5.2.1, h5.2.2.1, fun hn p hp => ⟨h5.2.2.2 hn p hp, lt h4 hn p hp⟩⟩⟩

/-- These blocks, and what is made behind w. -/
def MoreN (N : Nat → Prop) (w : World) : Nat → Prop := fun i => N i ∨ w.heap.size ≤ i

/-- A graph and a number are answered. -/
def GrPost (N : Nat → Prop) (r : Gr × Int) (w : World) (e : Ending) (w' : World) : Prop :=
  ∃ v, e = .returned (.tuple #[v, .int .i64 r.2]) ∧ GrAt (MoreN N w) w' v r.1 ∧ Below w.heap.size w w'

end Go.Proofs.Ythobfeohgeeofaa

/-
  The walk of the document's own Parent (graphs).
-/
namespace Go.Proofs.Ythobfeohgeeofaa
open Go.RowKit StampMath GraphMath

theorem parentG_eq (g : Gr) (d : St) : parentG g d = if (getG g d).isSome = true ∧ ((getG g d).getD noIno).kind = 1 then (g.E.find? fun e => decide (e.ino = d)).map fun e => e.dir else none := by
  unfold parentG
  cases h : getG g d with
  | none => rw [if_neg (by simp)]
  | some x =>
    by_cases hk : x.kind = 1
    · rw [if_pos ⟨rfl, hk⟩]; simp [hk]
    · rw [if_neg (fun q => hk q.2)]; simp [hk]

set_option maxRecDepth 100000 in
set_option maxHeartbeats 1600000 in
theorem refParent (A A' : Option Addr) (n c m d : Nat) (g : Gr) (id : St) (hn : n ≤ 1000) (hm : m ≤ 1000) (w : World) (h : InosIn w w.heap.size A n g.I) (h' : EntsIn w w.heap.size A' m g.E) :
    Calls Try.prog 18 #[.agg #[.slice A n c, .slice A' m d], .agg (stA id)] w fun e w' => e = .returned (.tuple #[.agg (stA ((parentG g id).getD (0, 0))), .bool (parentG g id).isSome]) ∧ Below w.heap.size w w' := by
  have hl := h'.len
  have HI : Hid (EntsIn w w.heap.size A' m g.E) := h'
  have hpar := parentG_eq g id
  obtain ⟨X, hX⟩ : ∃ X, X = (getG g id).getD noIno := ⟨_, rfl⟩
  obtain ⟨is, his⟩ : ∃ is, is = (getG g id).isSome := ⟨_, rfl⟩
  have HG : Hid (∀ W : World, Below w.heap.size w W → Calls Try.prog 14 #[.agg #[.slice A n c, .slice A' m d], .agg #[.int .i64 id.1, .int .i64 id.2]] W fun e w' => e = .returned (.tuple #[.agg #[.int .i64 X.id.1, .int .i64 X.id.2, .int .i64 X.kind, .int .i64 X.links, .int .i64 X.mode, .string X.data], .bool is]) ∧ Below W.heap.size W w') := fun W hW => by
    rw [hX, his]
    exact refGet A A' n c m d g id hn hm W ((h.below hW).more hW.size) ((h'.below hW).more hW.size)
  rw [← hX, ← his] at hpar
  clear h h' hX his
  have HPar := Lib.hid hpar
  clear hpar
  have hb0 : Held w [(w.heap.size + 1 + 1, .cells #[.int .i64 0, .int .i64 0] 24), (w.heap.size + 1, .cells (stA id) 24), (w.heap.size, .cells #[.slice A n c, .slice A' m d] 33)]
    (((w.alloc (.cells #[.slice A n c, .slice A' m d] 33)).alloc (.cells #[.int .i64 id.1, .int .i64 id.2] 24)).alloc (.cells #[.int .i64 0, .int .i64 0] 24)) :=
    (((Held.refl w).alloc (.cells #[.slice A n c, .slice A' m d] 33) rfl).alloc (.cells (stA id) 24) (by simp)).alloc (.cells #[.int .i64 0, .int .i64 0] 24) (by simp)
  unfold stA
  go_enter Try.func18, Try.ntmps18
  go_wp2_with fail
  refine (HG.out _ hb0.below).mono ?_
  rintro e w1 ⟨rfl, hb1⟩
  have hH1 := hb0.step hb1
  clear hb0 hb1
  go_upto_region 2 with fail
  change Code.wp _ _ _ _ (w1.alloc (.cells (inoA X) 42))
  obtain ⟨u, hu⟩ : ∃ u, u = w1.heap.size := ⟨_, rfl⟩
  have hlow : w.heap.size + 1 + 1 < u := by rw [hu]; exact heap_lt (hH1.at 0 rfl)
  have hH2 := hH1.alloc (.cells (inoA X) 42) hu.symm
  rw [← hu]
  generalize w1.alloc (.cells (inoA X) 42) = w2 at hH2 ⊢
  clear hH1 hu
  go_wp2_with fail
  go_loopg [8] (m + 1) (fun gk i wr => ∃ k : Nat, i = .int .i64 (k : Int) ∧ gk + k = m + 1 ∧ k ≤ m ∧ Hid ((g.E.take k).find? (fun e => decide (e.ino = id)) = none) ∧ Held w [(u, .cells (inoA X) 42), (w.heap.size + 1 + 1, .cells #[.int .i64 0, .int .i64 0] 24), (w.heap.size + 1, .cells (stA id) 24), (w.heap.size, .cells #[.slice A n c, .slice A' m d] 33)] wr)
  case atStart => exact ⟨0, rfl, by omega, by omega, rfl, hH2⟩
  case round =>
    obtain ⟨k, rfl, hgk, hk, hnone, hH⟩ := hrel
    clear hH2
    have hc1 := (two_cells (g := w.heap.size) (hH.at 3 rfl)).2
    obtain ⟨c3, c4⟩ := two_cells (g := w.heap.size + 1) (hH.at 2 rfl)
    obtain ⟨m0, m1⟩ := two_cells (g := w.heap.size + 1 + 1) (hH.at 1 rfl)
    obtain ⟨f0, f1⟩ := two_free (g := w.heap.size + 1 + 1) (hH.at 1 rfl)
    have hx2 := (ino_cells (g := u) (hH.at 0 rfl)).2.2.1
    have hcase : (k < m ∧ is = true ∧ (X.kind == 1) = true) ∨ (parentG g id = none ∧ (¬ (k : Int) < m ∨ ((k : Int) < m ∧ is = false) ∨ ((k : Int) < m ∧ is = true ∧ (X.kind == 1) = false))) := by
      by_cases h1 : k < m
      · cases is with
        | false => exact Or.inr ⟨HPar.out.trans (if_neg (by simp)), Or.inr (Or.inl ⟨by omega, rfl⟩)⟩
        | true =>
          by_cases h2 : X.kind = 1
          · exact Or.inl ⟨h1, rfl, beq_iff_eq.2 h2⟩
          · exact Or.inr ⟨HPar.out.trans (if_neg fun q => h2 q.2), Or.inr (Or.inr ⟨by omega, rfl, beq_eq_false_iff_ne.2 h2⟩)⟩
      · refine Or.inr ⟨?_, Or.inl (by omega)⟩
        have h := hnone.out
        rw [List.take_of_length_le (by omega)] at h
        rw [HPar.out, h]
        simp
    rcases hcase with ⟨hlt, rfl, hkd⟩ | ⟨hpn, hcase⟩
    · obtain ⟨gi, o, rfl, hg, hrow⟩ := HI.out.row (by omega)
      have hp := find_none_take (p := fun e : Ent => decide (e.ino = id)) (k := k) (by omega) hnone.out
      have hrk := (hrow k (by omega)).below hH.below hg
      obtain ⟨⟨di, en, ei⟩, hx⟩ : ∃ x, g.E[k] = x := ⟨_, rfl⟩
      rw [hx] at hrk hp
      clear hrow hx hnone
      obtain ⟨e0, e1, e2, e3, e4⟩ := hrk
      by_cases hq : ei = id
      · have hv := eqSt_yes hq
        have HR : Hid (parentG g id = some di) := by
          rw [if_pos (decide_eq_true hq)] at hp
          show parentG g id = _
          rw [HPar.out, if_pos ⟨rfl, beq_iff_eq.1 hkd⟩, find_take hp]
          rfl
        clear hp
        subst hq
        go_wp2_with fail
        go_quiet (fail)
        go_wp2_with fail
        exact bodyPost_ret (v := .tuple #[.agg (stA di), .bool true]) (by simp [results, Try.results18, go_sem, stA, m0, m1]) rfl ⟨by rw [HR.out]; rfl, ((below_drewN' hH.below _).setCell (by dsimp only; omega) _).setCell (by dsimp only; omega) _⟩
      · have hv := eqSt_no hq
        have HP : Hid ((g.E.take (k + 1)).find? (fun e => decide (e.ino = id)) = none) := by
          rw [if_neg (by rw [decide_eq_false hq]; decide)] at hp
          exact hp
        clear hp
        go_wp2_with fail
        go_quiet (fail)
        go_wp2_with fail
        go_roundg (gk - 1)
        case measure => omega
        case rel => exact ⟨k + 1, by go_num, by omega, by omega, HP.out, hH.drewN _⟩
    · have HR := Lib.hid hpn
      clear hpn
      rcases hcase with h1 | ⟨h1, rfl⟩ | ⟨h1, rfl, h2⟩
      all_goals
        go_wp2_with fail
        exact bodyPost_ret (v := .tuple #[.agg (stA (0, 0)), .bool false]) (by simp [results, Try.results18, go_sem, stA, m0, m1]) rfl ⟨by rw [HR.out]; rfl, ((hH.below).setCell (by dsimp only; omega) _).setCell (by dsimp only; omega) _⟩

end Go.Proofs.Ythobfeohgeeofaa

/-
  A slice of pairs of integers (structs of two integer fields) that is only read. It needs no program.
-/
namespace Go.Proofs.Ythobfeohgeeofaa
open Go.RowKit

/-- Both cells of a box written. -/
theorem box_set {w : World} {g : Nat} {a b c d : Value} {t : TypeId} (h : w.heap[g]? = some (.cells #[a, b] t (0, 0))) :
    ((w.setCell ⟨g, 0, none⟩ c).setCell ⟨g, 1, none⟩ d).heap[g]? = some (.cells #[c, d] t (0, 0)) := by
  rw [heap_setCell_same _ _ _ _ _ _ (heap_setCell_same _ _ _ _ _ _ h)]
  rfl

/-- The slice with address A and length n reads as the pairs xs, and lies below block B. -/
def PairsIn (W : World) (B : Nat) (A : Option Addr) (n : Nat) (xs : List (Int × Int)) : Prop :=
  xs.length = n ∧ (0 < n → ∃ g o, A = some ⟨g, o, none⟩ ∧ g < B ∧
    ∀ j (h : j < xs.length), W.cell? ⟨g, o + j * 2, none⟩ = some (.int .i64 xs[j].1) ∧ W.cell? ⟨g, o + j * 2 + 1, none⟩ = some (.int .i64 xs[j].2))

theorem PairsIn.below {W W' : World} {B : Nat} {A : Option Addr} {n : Nat} {xs : List (Int × Int)} (h : PairsIn W B A n xs) (hb : Below B W W') : PairsIn W' B A n xs :=
  ⟨h.1, fun hn => by
    obtain ⟨g, o, e, hg, hc⟩ := h.2 hn
    exact ⟨g, o, e, hg, fun j hj => ⟨(hb.cell (p := ⟨g, o + j * 2, none⟩) hg).trans (hc j hj).1, (hb.cell (p := ⟨g, o + j * 2 + 1, none⟩) hg).trans (hc j hj).2⟩⟩⟩

theorem PairsIn.more {W : World} {B B' : Nat} {A : Option Addr} {n : Nat} {xs : List (Int × Int)} (h : PairsIn W B A n xs) (hB : B ≤ B') : PairsIn W B' A n xs :=
  ⟨h.1, fun hn => by
    obtain ⟨g, o, e, hg, hc⟩ := h.2 hn
    exact ⟨g, o, e, by omega, hc⟩⟩

end Go.Proofs.Ythobfeohgeeofaa

/-
  The walk of the document's own Under (graphs).
-/
namespace Go.Proofs.Ythobfeohgeeofaa
open Go.RowKit StampMath GraphMath

theorem underN_succ (g : Gr) (n : Nat) (a b : St) : underN g (n + 1) a b = if a = b then true else match parentG g a with
    | none => false
    | some up => underN g n up b := rfl

/-- The three boxes that the walk of Under holds. -/
structure UBox (w W : World) (x y : Value) (cur dir : St) : Prop where
  a : W.heap[w.heap.size]? = some (.cells #[x, y] 33 (0, 0))
  b : W.heap[w.heap.size + 1]? = some (.cells #[.int .i64 cur.1, .int .i64 cur.2] 24 (0, 0))
  c : W.heap[w.heap.size + 1 + 1]? = some (.cells #[.int .i64 dir.1, .int .i64 dir.2] 24 (0, 0))
  low : Below w.heap.size w W

theorem UBox.step {w W W' : World} {x y : Value} {cur dir : St} (h : UBox w W x y cur dir) (hb : Below W.heap.size W W') : UBox w W' x y cur dir :=
  ⟨(hb.block _ (heap_lt h.a)).trans h.a, (hb.block _ (heap_lt h.b)).trans h.b, (hb.block _ (heap_lt h.c)).trans h.c, below_step h.low hb⟩

theorem UBox.set {w W : World} {x y : Value} {cur dir : St} (h : UBox w W x y cur dir) (up : St) :
    UBox w ((W.setCell ⟨w.heap.size + 1, 0, none⟩ (.int .i64 up.1)).setCell ⟨w.heap.size + 1, 1, none⟩ (.int .i64 up.2)) x y up dir :=
  ⟨(heap_setCell_other _ _ _ _ (by dsimp only; omega)).trans ((heap_setCell_other _ _ _ _ (by dsimp only; omega)).trans h.a), box_set h.b, (heap_setCell_other _ _ _ _ (by dsimp only; omega)).trans ((heap_setCell_other _ _ _ _ (by dsimp only; omega)).trans h.c),
    (h.low.setCell (by dsimp only; omega) _).setCell (by dsimp only; omega) _⟩

set_option maxRecDepth 100000 in
set_option maxHeartbeats 1600000 in
theorem refUnder (A A' : Option Addr) (n c m d : Nat) (g : Gr) (id dir : St) (hn : n ≤ 1000) (hm : m ≤ 1000) (w : World) (h : InosIn w w.heap.size A n g.I) (h' : EntsIn w w.heap.size A' m g.E) :
    Calls Try.prog 23 #[.agg #[.slice A n c, .slice A' m d], .agg (stA id), .agg (stA dir)] w fun e w' => e = .returned (.bool (underG g id dir)) ∧ Below w.heap.size w w' := by
  have hl := h.len
  have HP : Hid (∀ (a : St) (W : World), Below w.heap.size w W → Calls Try.prog 18 #[.agg #[.slice A n c, .slice A' m d], .agg #[.int .i64 a.1, .int .i64 a.2]] W fun e w' => e = .returned (.tuple #[.agg #[.int .i64 ((parentG g a).getD (0, 0)).1, .int .i64 ((parentG g a).getD (0, 0)).2], .bool (parentG g a).isSome]) ∧ Below W.heap.size W w') := fun a W hW =>
    refParent A A' n c m d g a hn hm W ((h.below hW).more hW.size) ((h'.below hW).more hW.size)
  clear h h'
  have hb0 : UBox w (((w.alloc (.cells #[.slice A n c, .slice A' m d] 33)).alloc (.cells #[.int .i64 id.1, .int .i64 id.2] 24)).alloc (.cells #[.int .i64 dir.1, .int .i64 dir.2] 24)) (.slice A n c) (.slice A' m d) id dir := by
    have hq := (((Held.refl w).alloc (.cells #[.slice A n c, .slice A' m d] 33) rfl).alloc (.cells #[.int .i64 id.1, .int .i64 id.2] 24) (g := w.heap.size + 1) (by simp)).alloc (.cells #[.int .i64 dir.1, .int .i64 dir.2] 24) (g := w.heap.size + 1 + 1) (by simp)
    exact ⟨hq.at 2 rfl, hq.at 1 rfl, hq.at 0 rfl, hq.below⟩
  unfold stA
  go_enter Try.func23, Try.ntmps23
  go_wp2_with fail
  go_loopg [7] (n + 2) (fun gk i wr => ∃ (k : Nat) (cur : St), i = .int .i64 (k : Int) ∧ gk + k = n + 2 ∧ k ≤ n + 1 ∧ Hid (underN g (n + 1 - k) cur dir = underG g id dir) ∧ UBox w wr (.slice A n c) (.slice A' m d) cur dir)
  case atStart => exact ⟨0, id, rfl, by omega, by omega, (by unfold underG; rw [hl]; rfl), hb0⟩
  case round =>
    obtain ⟨k, cur, rfl, hgk, hk, hun, hH⟩ := hrel
    clear hb0
    obtain ⟨c1, c2⟩ := two_cells hH.a
    obtain ⟨c3, c4⟩ := two_cells hH.b
    obtain ⟨c5, c6⟩ := two_cells hH.c
    obtain ⟨f0, f1⟩ := two_free hH.b
    by_cases hlt : k ≤ n
    · have hun2 := hun.out
      rw [show n + 1 - k = (n - k) + 1 by omega, underN_succ] at hun2
      by_cases hq : cur = dir
      · rw [if_pos hq] at hun2
        have HU := Lib.hid hun2
        clear hun hun2
        have hv := eqSt_yes hq
        subst hq
        go_wp2_with fail
        go_ret
        exact ⟨by rw [← HU.out]; rfl, hH.low⟩
      · rw [if_neg hq] at hun2
        have hv := eqSt_no hq
        have HPc := Lib.hid (HP.out cur)
        cases hpar : parentG g cur with
        | none =>
          rw [hpar] at hun2 HPc
          have HU : Hid (false = underG g id dir) := hun2
          have HQ : Hid (∀ (W : World), Below w.heap.size w W → Calls Try.prog 18 #[.agg #[.slice A n c, .slice A' m d], .agg #[.int .i64 cur.1, .int .i64 cur.2]] W fun e w' => e = .returned (.tuple #[.agg #[.int .i64 0, .int .i64 0], .bool false]) ∧ Below W.heap.size W w') := HPc
          clear hun hun2 HPc hpar HP
          go_wp2_with fail
          refine (HQ.out _ hH.low).mono ?_
          rintro e w1 ⟨rfl, hb1⟩
          have hH1 := hH.step hb1
          clear hH hb1 c1 c2 c3 c4 c5 c6 f0 f1
          go_wp2_with fail
          go_ret
          exact ⟨by rw [← HU.out]; rfl, hH1.low.alloc hH1.low.size _⟩
        | some up =>
          rw [hpar] at hun2 HPc
          have HU : Hid (underN g (n - k) up dir = underG g id dir) := hun2
          have HQ : Hid (∀ (W : World), Below w.heap.size w W → Calls Try.prog 18 #[.agg #[.slice A n c, .slice A' m d], .agg #[.int .i64 cur.1, .int .i64 cur.2]] W fun e w' => e = .returned (.tuple #[.agg #[.int .i64 up.1, .int .i64 up.2], .bool true]) ∧ Below W.heap.size W w') := HPc
          clear hun hun2 HPc hpar
          go_wp2_with fail
          refine (HQ.out _ hH.low).mono ?_
          rintro e w1 ⟨rfl, hb1⟩
          have hH1 := hH.step hb1
          clear hH hb1 c1 c2 c3 c4 c5 c6 f0 f1
          go_upto_region 9 with fail
          have hb2 : Below w1.heap.size w1 (w1.alloc (.cells #[.int .i64 up.1, .int .i64 up.2] 24)) := (Below.refl _ _).alloc (Nat.le_refl _) _
          have hH2 := hH1.step hb2
          have hu2 := two_cells (heap_alloc_new w1 (.cells #[.int .i64 up.1, .int .i64 up.2] 24))
          obtain ⟨u, hu⟩ : ∃ u, u = w1.heap.size := ⟨_, rfl⟩
          have hlow : w.heap.size + 1 + 1 < u := by rw [hu]; exact heap_lt hH1.c
          rw [← hu] at hu2 ⊢
          generalize w1.alloc (.cells #[.int .i64 up.1, .int .i64 up.2] 24) = w2 at hH2 hu2 ⊢
          clear hb2 hH1 hu
          obtain ⟨u0, u1⟩ := hu2
          obtain ⟨c3, c4⟩ := two_cells hH2.b
          obtain ⟨f0, f1⟩ := two_free hH2.b
          go_wp2_with fail
          go_roundg (gk - 1)
          case measure => omega
          case rel => exact ⟨k + 1, up, by go_num, by omega, by omega, (by rw [show n + 1 - (k + 1) = n - k by omega]; exact HU.out), hH2.set up⟩
    · have HU : Hid (false = underG g id dir) := by
        have h := hun.out
        rw [show n + 1 - k = 0 by omega] at h
        exact h
      go_wp2_with fail
      go_ret
      exact ⟨by rw [← HU.out]; rfl, hH.low⟩

end Go.Proofs.Ythobfeohgeeofaa
