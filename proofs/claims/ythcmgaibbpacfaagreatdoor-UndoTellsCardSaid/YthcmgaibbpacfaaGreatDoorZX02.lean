/-
  The walk of the document's own Parent (graphs).
-/
import Derived.Test.YthcmgaibbpacfaaGreatDoorZX00
import Derived.Test.YthcmgaibbpacfaaGreatDoorZ07
import Derived.Test.YthcmgaibbpacfaaGreatDoorZ01
import Derived.Test.YthcmgaibbpacfaaGreatDoorZ01
import Derived.Test.YthcmgaibbpacfaaGreatDoorZ01
import Derived.Test.YthcmgaibbpacfaaGreatDoorZX01
import Derived.Deep.RegionHeld3
import Derived.Deep.RegionWith
import Derived.Deep.RegionLaw
import Derived.Deep.Cut
import Derived.Deep.DeepCutAuto
namespace Go.Proofs.YthcmgaibbpacfaaGreatDoor
open Go.RowKit StampMath GraphMath

theorem parentG_eq (g : Gr) (d : St) : parentG g d = if (getG g d).isSome = true ∧ ((getG g d).getD noIno).kind = 1 then (g.E.find? fun e => decide (e.ino = d)).map fun e => e.dir else none := by
  unfold parentG
  cases h : getG g d with
  | none => rw [if_neg (by simp)]
  | some x =>
    by_cases hk : x.kind = 1
    · rw [if_pos ⟨rfl, hk⟩]; simp [hk]
    · rw [if_neg (fun q => hk q.2)]; simp [hk]

set_option maxRecDepth 100000 in
set_option maxHeartbeats 1600000 in
theorem refParent (A A' : Option Addr) (n c m d : Nat) (g : Gr) (id : St) (hn : n ≤ 1000) (hm : m ≤ 1000) (w : World) (h : InosIn w w.heap.size A n g.I) (h' : EntsIn w w.heap.size A' m g.E) :
    Calls Tryz.prog 131 #[.agg #[.slice A n c, .slice A' m d], .agg (stA id)] w fun e w' => e = .returned (.tuple #[.agg (stA ((parentG g id).getD (0, 0))), .bool (parentG g id).isSome]) ∧ Below w.heap.size w w' := by
  have hl := h'.len
  have HI : Hid (EntsIn w w.heap.size A' m g.E) := h'
  have hpar := parentG_eq g id
  obtain ⟨X, hX⟩ : ∃ X, X = (getG g id).getD noIno := ⟨_, rfl⟩
  obtain ⟨is, his⟩ : ∃ is, is = (getG g id).isSome := ⟨_, rfl⟩
  have HG : Hid (∀ W : World, Below w.heap.size w W → Calls Tryz.prog 38 #[.agg #[.slice A n c, .slice A' m d], .agg #[.int .i64 id.1, .int .i64 id.2]] W fun e w' => e = .returned (.tuple #[.agg #[.int .i64 X.id.1, .int .i64 X.id.2, .int .i64 X.kind, .int .i64 X.links, .int .i64 X.mode, .string X.data], .bool is]) ∧ Below W.heap.size W w') := fun W hW => by
    rw [hX, his]
    exact refGet A A' n c m d g id hn hm W ((h.below hW).more hW.size) ((h'.below hW).more hW.size)
  rw [← hX, ← his] at hpar
  clear h h' hX his
  have HPar := Lib.hid hpar
  clear hpar
  have hb0 : Held w [(w.heap.size + 1 + 1, .cells #[.int .i64 0, .int .i64 0] 24), (w.heap.size + 1, .cells (stA id) 24), (w.heap.size, .cells #[.slice A n c, .slice A' m d] 39)]
    (((w.alloc (.cells #[.slice A n c, .slice A' m d] 39)).alloc (.cells #[.int .i64 id.1, .int .i64 id.2] 24)).alloc (.cells #[.int .i64 0, .int .i64 0] 24)) :=
    (((Held.refl w).alloc (.cells #[.slice A n c, .slice A' m d] 39) rfl).alloc (.cells (stA id) 24) (by simp)).alloc (.cells #[.int .i64 0, .int .i64 0] 24) (by simp)
  unfold stA
  go_enter Tryz.func131, Tryz.ntmps131
  go_wp2_with fail
  refine (HG.out _ hb0.below).mono ?_
  rintro e w1 ⟨rfl, hb1⟩
  have hH1 := hb0.step hb1
  clear hb0 hb1
  go_upto_region 2 with fail
  change Code.wp _ _ _ _ (w1.alloc (.cells (inoA X) 70))
  obtain ⟨u, hu⟩ : ∃ u, u = w1.heap.size := ⟨_, rfl⟩
  have hlow : w.heap.size + 1 + 1 < u := by rw [hu]; exact heap_lt (hH1.at 0 rfl)
  have hH2 := hH1.alloc (.cells (inoA X) 70) hu.symm
  rw [← hu]
  generalize w1.alloc (.cells (inoA X) 70) = w2 at hH2 ⊢
  clear hH1 hu
  go_wp2_with fail
  go_loopg [8] (m + 1) (fun gk i wr => ∃ k : Nat, i = .int .i64 (k : Int) ∧ gk + k = m + 1 ∧ k ≤ m ∧ Hid ((g.E.take k).find? (fun e => decide (e.ino = id)) = none) ∧ Held w [(u, .cells (inoA X) 70), (w.heap.size + 1 + 1, .cells #[.int .i64 0, .int .i64 0] 24), (w.heap.size + 1, .cells (stA id) 24), (w.heap.size, .cells #[.slice A n c, .slice A' m d] 39)] wr)
  case atStart => exact ⟨0, rfl, by omega, by omega, rfl, hH2⟩
  case round =>
    obtain ⟨k, rfl, hgk, hk, hnone, hH⟩ := hrel
    clear hH2
    have hc1 := (two_cells (g := w.heap.size) (hH.at 3 rfl)).2
    obtain ⟨c3, c4⟩ := two_cells (g := w.heap.size + 1) (hH.at 2 rfl)
    obtain ⟨m0, m1⟩ := two_cells (g := w.heap.size + 1 + 1) (hH.at 1 rfl)
    obtain ⟨f0, f1⟩ := two_free (g := w.heap.size + 1 + 1) (hH.at 1 rfl)
    have hx2 := (ino_cells (g := u) (hH.at 0 rfl)).2.2.1
    have hcase : (k < m ∧ is = true ∧ (X.kind == 1) = true) ∨ (parentG g id = none ∧ (¬ (k : Int) < m ∨ ((k : Int) < m ∧ is = false) ∨ ((k : Int) < m ∧ is = true ∧ (X.kind == 1) = false))) := by
      by_cases h1 : k < m
      · cases is with
        | false => exact Or.inr ⟨HPar.out.trans (if_neg (by simp)), Or.inr (Or.inl ⟨by omega, rfl⟩)⟩
        | true =>
          by_cases h2 : X.kind = 1
          · exact Or.inl ⟨h1, rfl, beq_iff_eq.2 h2⟩
          · exact Or.inr ⟨HPar.out.trans (if_neg fun q => h2 q.2), Or.inr (Or.inr ⟨by omega, rfl, beq_eq_false_iff_ne.2 h2⟩)⟩
      · refine Or.inr ⟨?_, Or.inl (by omega)⟩
        have h := hnone.out
        rw [List.take_of_length_le (by omega)] at h
        rw [HPar.out, h]
        simp
    rcases hcase with ⟨hlt, rfl, hkd⟩ | ⟨hpn, hcase⟩
    · obtain ⟨gi, o, rfl, hg, hrow⟩ := HI.out.row (by omega)
      have hp := find_none_take (p := fun e : Ent => decide (e.ino = id)) (k := k) (by omega) hnone.out
      have hrk := (hrow k (by omega)).below hH.below hg
      obtain ⟨⟨di, en, ei⟩, hx⟩ : ∃ x, g.E[k] = x := ⟨_, rfl⟩
      rw [hx] at hrk hp
      clear hrow hx hnone
      obtain ⟨e0, e1, e2, e3, e4⟩ := hrk
      by_cases hq : ei = id
      · have hv := eqSt_yes hq
        have HR : Hid (parentG g id = some di) := by
          rw [if_pos (decide_eq_true hq)] at hp
          show parentG g id = _
          rw [HPar.out, if_pos ⟨rfl, beq_iff_eq.1 hkd⟩, find_take hp]
          rfl
        clear hp
        subst hq
        go_wp2_with fail
        go_quiet (fail)
        go_wp2_with fail
        exact bodyPost_ret (v := .tuple #[.agg (stA di), .bool true]) (by simp [results, Tryz.results131, go_sem, stA, m0, m1]) rfl ⟨by rw [HR.out]; rfl, ((below_drewN' hH.below _).setCell (by dsimp only; omega) _).setCell (by dsimp only; omega) _⟩
      · have hv := eqSt_no hq
        have HP : Hid ((g.E.take (k + 1)).find? (fun e => decide (e.ino = id)) = none) := by
          rw [if_neg (by rw [decide_eq_false hq]; decide)] at hp
          exact hp
        clear hp
        go_wp2_with fail
        go_quiet (fail)
        go_wp2_with fail
        go_roundg (gk - 1)
        case measure => omega
        case rel => exact ⟨k + 1, by go_num, by omega, by omega, HP.out, hH.drewN _⟩
    · have HR := Lib.hid hpn
      clear hpn
      rcases hcase with h1 | ⟨h1, rfl⟩ | ⟨h1, rfl, h2⟩
      all_goals
        go_wp2_with fail
        exact bodyPost_ret (v := .tuple #[.agg (stA (0, 0)), .bool false]) (by simp [results, Tryz.results131, go_sem, stA, m0, m1]) rfl ⟨by rw [HR.out]; rfl, ((hH.below).setCell (by dsimp only; omega) _).setCell (by dsimp only; omega) _⟩

end Go.Proofs.YthcmgaibbpacfaaGreatDoor

/-
  The walk of the document's own Under (graphs).
-/
namespace Go.Proofs.YthcmgaibbpacfaaGreatDoor
open Go.RowKit StampMath GraphMath

theorem underN_succ (g : Gr) (n : Nat) (a b : St) : underN g (n + 1) a b = if a = b then true else match parentG g a with
    | none => false
    | some up => underN g n up b := rfl

/-- The three boxes that the walk of Under holds. -/
structure UBox (w W : World) (x y : Value) (cur dir : St) : Prop where
  a : W.heap[w.heap.size]? = some (.cells #[x, y] 39 (0, 0))
  b : W.heap[w.heap.size + 1]? = some (.cells #[.int .i64 cur.1, .int .i64 cur.2] 24 (0, 0))
  c : W.heap[w.heap.size + 1 + 1]? = some (.cells #[.int .i64 dir.1, .int .i64 dir.2] 24 (0, 0))
  low : Below w.heap.size w W

theorem UBox.step {w W W' : World} {x y : Value} {cur dir : St} (h : UBox w W x y cur dir) (hb : Below W.heap.size W W') : UBox w W' x y cur dir :=
  ⟨(hb.block _ (heap_lt h.a)).trans h.a, (hb.block _ (heap_lt h.b)).trans h.b, (hb.block _ (heap_lt h.c)).trans h.c, below_step h.low hb⟩

theorem UBox.set {w W : World} {x y : Value} {cur dir : St} (h : UBox w W x y cur dir) (up : St) :
    UBox w ((W.setCell ⟨w.heap.size + 1, 0, none⟩ (.int .i64 up.1)).setCell ⟨w.heap.size + 1, 1, none⟩ (.int .i64 up.2)) x y up dir :=
  ⟨(heap_setCell_other _ _ _ _ (by dsimp only; omega)).trans ((heap_setCell_other _ _ _ _ (by dsimp only; omega)).trans h.a), box_set h.b, (heap_setCell_other _ _ _ _ (by dsimp only; omega)).trans ((heap_setCell_other _ _ _ _ (by dsimp only; omega)).trans h.c),
    (h.low.setCell (by dsimp only; omega) _).setCell (by dsimp only; omega) _⟩

set_option maxRecDepth 100000 in
set_option maxHeartbeats 1600000 in
theorem refUnder (A A' : Option Addr) (n c m d : Nat) (g : Gr) (id dir : St) (hn : n ≤ 1000) (hm : m ≤ 1000) (w : World) (h : InosIn w w.heap.size A n g.I) (h' : EntsIn w w.heap.size A' m g.E) :
    Calls Tryz.prog 102 #[.agg #[.slice A n c, .slice A' m d], .agg (stA id), .agg (stA dir)] w fun e w' => e = .returned (.bool (underG g id dir)) ∧ Below w.heap.size w w' := by
  have hl := h.len
  have HP : Hid (∀ (a : St) (W : World), Below w.heap.size w W → Calls Tryz.prog 131 #[.agg #[.slice A n c, .slice A' m d], .agg #[.int .i64 a.1, .int .i64 a.2]] W fun e w' => e = .returned (.tuple #[.agg #[.int .i64 ((parentG g a).getD (0, 0)).1, .int .i64 ((parentG g a).getD (0, 0)).2], .bool (parentG g a).isSome]) ∧ Below W.heap.size W w') := fun a W hW =>
    refParent A A' n c m d g a hn hm W ((h.below hW).more hW.size) ((h'.below hW).more hW.size)
  clear h h'
  have hb0 : UBox w (((w.alloc (.cells #[.slice A n c, .slice A' m d] 39)).alloc (.cells #[.int .i64 id.1, .int .i64 id.2] 24)).alloc (.cells #[.int .i64 dir.1, .int .i64 dir.2] 24)) (.slice A n c) (.slice A' m d) id dir := by
    have hq := (((Held.refl w).alloc (.cells #[.slice A n c, .slice A' m d] 39) rfl).alloc (.cells #[.int .i64 id.1, .int .i64 id.2] 24) (g := w.heap.size + 1) (by simp)).alloc (.cells #[.int .i64 dir.1, .int .i64 dir.2] 24) (g := w.heap.size + 1 + 1) (by simp)
    exact ⟨hq.at 2 rfl, hq.at 1 rfl, hq.at 0 rfl, hq.below⟩
  unfold stA
  go_enter Tryz.func102, Tryz.ntmps102
  go_wp2_with fail
  go_loopg [7] (n + 2) (fun gk i wr => ∃ (k : Nat) (cur : St), i = .int .i64 (k : Int) ∧ gk + k = n + 2 ∧ k ≤ n + 1 ∧ Hid (underN g (n + 1 - k) cur dir = underG g id dir) ∧ UBox w wr (.slice A n c) (.slice A' m d) cur dir)
  case atStart => exact ⟨0, id, rfl, by omega, by omega, (by unfold underG; rw [hl]; rfl), hb0⟩
  case round =>
    obtain ⟨k, cur, rfl, hgk, hk, hun, hH⟩ := hrel
    clear hb0
    obtain ⟨c1, c2⟩ := two_cells hH.a
    obtain ⟨c3, c4⟩ := two_cells hH.b
    obtain ⟨c5, c6⟩ := two_cells hH.c
    obtain ⟨f0, f1⟩ := two_free hH.b
    by_cases hlt : k ≤ n
    · have hun2 := hun.out
      rw [show n + 1 - k = (n - k) + 1 by omega, underN_succ] at hun2
      by_cases hq : cur = dir
      · rw [if_pos hq] at hun2
        have HU := Lib.hid hun2
        clear hun hun2
        have hv := eqSt_yes hq
        subst hq
        go_wp2_with fail
        go_ret
        exact ⟨by rw [← HU.out]; rfl, hH.low⟩
      · rw [if_neg hq] at hun2
        have hv := eqSt_no hq
        have HPc := Lib.hid (HP.out cur)
        cases hpar : parentG g cur with
        | none =>
          rw [hpar] at hun2 HPc
          have HU : Hid (false = underG g id dir) := hun2
          have HQ : Hid (∀ (W : World), Below w.heap.size w W → Calls Tryz.prog 131 #[.agg #[.slice A n c, .slice A' m d], .agg #[.int .i64 cur.1, .int .i64 cur.2]] W fun e w' => e = .returned (.tuple #[.agg #[.int .i64 0, .int .i64 0], .bool false]) ∧ Below W.heap.size W w') := HPc
          clear hun hun2 HPc hpar HP
          go_wp2_with fail
          refine (HQ.out _ hH.low).mono ?_
          rintro e w1 ⟨rfl, hb1⟩
          have hH1 := hH.step hb1
          clear hH hb1 c1 c2 c3 c4 c5 c6 f0 f1
          go_wp2_with fail
          go_ret
          exact ⟨by rw [← HU.out]; rfl, hH1.low.alloc hH1.low.size _⟩
        | some up =>
          rw [hpar] at hun2 HPc
          have HU : Hid (underN g (n - k) up dir = underG g id dir) := hun2
          have HQ : Hid (∀ (W : World), Below w.heap.size w W → Calls Tryz.prog 131 #[.agg #[.slice A n c, .slice A' m d], .agg #[.int .i64 cur.1, .int .i64 cur.2]] W fun e w' => e = .returned (.tuple #[.agg #[.int .i64 up.1, .int .i64 up.2], .bool true]) ∧ Below W.heap.size W w') := HPc
          clear hun hun2 HPc hpar
          go_wp2_with fail
          refine (HQ.out _ hH.low).mono ?_
          rintro e w1 ⟨rfl, hb1⟩
          have hH1 := hH.step hb1
          clear hH hb1 c1 c2 c3 c4 c5 c6 f0 f1
          go_upto_region 9 with fail
          have hb2 : Below w1.heap.size w1 (w1.alloc (.cells #[.int .i64 up.1, .int .i64 up.2] 24)) := (Below.refl _ _).alloc (Nat.le_refl _) _
          have hH2 := hH1.step hb2
          have hu2 := two_cells (heap_alloc_new w1 (.cells #[.int .i64 up.1, .int .i64 up.2] 24))
          obtain ⟨u, hu⟩ : ∃ u, u = w1.heap.size := ⟨_, rfl⟩
          have hlow : w.heap.size + 1 + 1 < u := by rw [hu]; exact heap_lt hH1.c
          rw [← hu] at hu2 ⊢
          generalize w1.alloc (.cells #[.int .i64 up.1, .int .i64 up.2] 24) = w2 at hH2 hu2 ⊢
          clear hb2 hH1 hu
          obtain ⟨u0, u1⟩ := hu2
          obtain ⟨c3, c4⟩ := two_cells hH2.b
          obtain ⟨f0, f1⟩ := two_free hH2.b
          go_wp2_with fail
          go_roundg (gk - 1)
          case measure => omega
          case rel => exact ⟨k + 1, up, by go_num, by omega, by omega, (by rw [show n + 1 - (k + 1) = n - k by omega]; exact HU.out), hH2.set up⟩
    · have HU : Hid (false = underG g id dir) := by
        have h := hun.out
        rw [show n + 1 - k = 0 by omega] at h
        exact h
      go_wp2_with fail
      go_ret
      exact ⟨by rw [← HU.out]; rfl, hH.low⟩

end Go.Proofs.YthcmgaibbpacfaaGreatDoor

/-
  The document's own calls on a graph as a value, in later worlds; the walks of the document's own kind and Has.
-/
namespace Go.Proofs.YthcmgaibbpacfaaGreatDoor
open Go.RowKit StampMath GraphMath OpMath

/-- A graph as a value, in two slices; it is small. -/
structure GrV (w : World) (A : Option Addr) (n c : Nat) (A' : Option Addr) (m d : Nat) (g : Gr) : Prop where
  I : InosIn w w.heap.size A n g.I
  E : EntsIn w w.heap.size A' m g.E
  fewI : n ≤ 1000
  fewE : m ≤ 1000

theorem GrV.step {w W : World} {A : Option Addr} {n c : Nat} {A' : Option Addr} {m d : Nat} {g : Gr} (h : GrV w A n c A' m d g) (hb : Below w.heap.size w W) : GrV W A n c A' m d g :=
  ⟨(h.I.below hb).more hb.size, (h.E.below hb).more hb.size, h.fewI, h.fewE⟩

theorem GrAt.few {N : Nat → Prop} {w : World} {v : Value} {g : Gr} (h : GrAt N w v g) (hn : g.I.length ≤ 1000) (hm : g.E.length ≤ 1000) : ∃ (A : Option Addr) (n c : Nat) (A' : Option Addr) (m d : Nat), v = .agg #[.slice A n c, .slice A' m d] ∧ GrV w A n c A' m d g := by
  obtain ⟨A, n, c, A', m, d, h1, h2, _, h4, _⟩ := h
  exact ⟨A, n, c, A', m, d, h1, h2, h4, by have := h2.len; omega, by have := h4.len; omega⟩

theorem GrV.get {w : World} {A : Option Addr} {n c : Nat} {A' : Option Addr} {m d : Nat} {g : Gr} (h : GrV w A n c A' m d g) (id : St) :
    Calls Tryz.prog 38 #[.agg #[.slice A n c, .slice A' m d], .agg #[.int .i64 id.1, .int .i64 id.2]] w fun e w' => e = .returned (.tuple #[.agg (inoA ((getG g id).getD noIno)), .bool (getG g id).isSome]) ∧ Below w.heap.size w w' :=
  refGet A A' n c m d g id h.fewI h.fewE w h.I h.E

theorem GrV.look {w : World} {A : Option Addr} {n c : Nat} {A' : Option Addr} {m d : Nat} {g : Gr} (h : GrV w A n c A' m d g) (at' : St) (nm : ByteArray) :
    Calls Tryz.prog 44 #[.agg #[.slice A n c, .slice A' m d], .agg #[.int .i64 at'.1, .int .i64 at'.2], .string nm] w fun e w' => e = .returned (.tuple #[.agg #[.int .i64 ((lookE g.E at' nm).getD (0, 0)).1, .int .i64 ((lookE g.E at' nm).getD (0, 0)).2], .bool (lookE g.E at' nm).isSome]) ∧ Below w.heap.size w w' :=
  refLook (.slice A n c) A' m d g.E at' nm h.fewE w h.E

theorem GrV.under {w : World} {A : Option Addr} {n c : Nat} {A' : Option Addr} {m d : Nat} {g : Gr} (h : GrV w A n c A' m d g) (a b : St) :
    Calls Tryz.prog 102 #[.agg #[.slice A n c, .slice A' m d], .agg #[.int .i64 a.1, .int .i64 a.2], .agg #[.int .i64 b.1, .int .i64 b.2]] w fun e w' => e = .returned (.bool (underG g a b)) ∧ Below w.heap.size w w' :=
  refUnder A A' n c m d g a b h.fewI h.fewE w h.I h.E

theorem GrV.list {w : World} {A : Option Addr} {n c : Nat} {A' : Option Addr} {m d : Nat} {g : Gr} (h : GrV w A n c A' m d g) (id : St) :
    Calls Tryz.prog 71 #[.agg #[.slice A n c, .slice A' m d], .agg #[.int .i64 id.1, .int .i64 id.2]] w (EntsPost (listE g.E id) w) :=
  refList (.slice A n c) A' m d g.E id h.fewE w h.E

set_option maxRecDepth 100000 in
theorem GrV.kind {w : World} {A : Option Addr} {n c : Nat} {A' : Option Addr} {m d : Nat} {g : Gr} (h : GrV w A n c A' m d g) (id : St) :
    Calls Tryz.prog 67 #[.agg #[.slice A n c, .slice A' m d], .agg #[.int .i64 id.1, .int .i64 id.2]] w fun e w' => e = .returned (.int .i64 (kindG g id)) ∧ Below w.heap.size w w' := by
  have HG : Hid (∀ W, Below w.heap.size w W → Calls Tryz.prog 38 #[.agg #[.slice A n c, .slice A' m d], .agg #[.int .i64 id.1, .int .i64 id.2]] W fun e w' => e = .returned (.tuple #[.agg (inoA ((getG g id).getD noIno)), .bool (getG g id).isSome]) ∧ Below W.heap.size W w') := fun W hW => (h.step hW).get id
  unfold kindG
  obtain ⟨x, hx⟩ : ∃ x, x = (getG g id).getD noIno := ⟨_, rfl⟩
  rw [← hx] at HG ⊢
  have hb0 : Below w.heap.size w ((w.alloc (.cells #[.slice A n c, .slice A' m d] 39)).alloc (.cells #[.int .i64 id.1, .int .i64 id.2] 24)) := ((Below.refl _ _).alloc (Nat.le_refl _) _).alloc (by simp) _
  clear hx h
  unfold inoA at HG
  go_enter Tryz.func67, Tryz.ntmps67
  go_wp2_with fail
  refine (HG.out _ hb0).mono ?_
  rintro e w1 ⟨rfl, hb1⟩
  have hb2 := below_step hb0 hb1
  clear hb0 hb1
  go_wp2_with fail
  go_ret
  exact ⟨rfl, by first | exact hb2 | exact hb2.alloc hb2.size _⟩

set_option maxRecDepth 100000 in
theorem GrV.has {w : World} {A : Option Addr} {n c : Nat} {A' : Option Addr} {m d : Nat} {g : Gr} (h : GrV w A n c A' m d g) (at' : St) (nm : ByteArray) (ino : St) :
    Calls Tryz.prog 70 #[.agg #[.slice A n c, .slice A' m d], .agg #[.int .i64 at'.1, .int .i64 at'.2], .string nm, .agg #[.int .i64 ino.1, .int .i64 ino.2]] w fun e w' => e = .returned (.bool (decide (lookE g.E at' nm = some ino))) ∧ Below w.heap.size w w' := by
  have HG : Hid (∀ W, Below w.heap.size w W → Calls Tryz.prog 44 #[.agg #[.slice A n c, .slice A' m d], .agg #[.int .i64 at'.1, .int .i64 at'.2], .string nm] W fun e w' => e = .returned (.tuple #[.agg #[.int .i64 ((lookE g.E at' nm).getD (0, 0)).1, .int .i64 ((lookE g.E at' nm).getD (0, 0)).2], .bool (lookE g.E at' nm).isSome]) ∧ Below W.heap.size W w') := fun W hW => (h.step hW).look at' nm
  have hr : decide (lookE g.E at' nm = some ino) = ((lookE g.E at' nm).isSome && (((lookE g.E at' nm).getD (0, 0)).1 == ino.1 && ((lookE g.E at' nm).getD (0, 0)).2 == ino.2)) := by
    cases hq : lookE g.E at' nm with
    | none => simp
    | some t => simp [Prod.ext_iff]; rw [Bool.eq_iff_iff]; simp
  have HR := Lib.hid hr
  obtain ⟨b, hb⟩ : ∃ b, b = (lookE g.E at' nm).isSome := ⟨_, rfl⟩
  obtain ⟨t, ht⟩ : ∃ t, t = (lookE g.E at' nm).getD (0, 0) := ⟨_, rfl⟩
  obtain ⟨r, hr'⟩ : ∃ r, r = decide (lookE g.E at' nm = some ino) := ⟨_, rfl⟩
  rw [← hb, ← ht] at HG
  rw [← hb, ← ht, ← hr'] at HR
  rw [← hr']
  obtain ⟨r1, hr1⟩ : ∃ r1, (t.1 == ino.1) = r1 := ⟨_, rfl⟩
  obtain ⟨r2, hr2⟩ : ∃ r2, (t.2 == ino.2) = r2 := ⟨_, rfl⟩
  rw [hr1, hr2] at HR
  have hb0 : Held w [(w.heap.size + 1 + 1, .cells #[.int .i64 ino.1, .int .i64 ino.2] 24)] (((w.alloc (.cells #[.slice A n c, .slice A' m d] 39)).alloc (.cells #[.int .i64 at'.1, .int .i64 at'.2] 24)).alloc (.cells #[.int .i64 ino.1, .int .i64 ino.2] 24)) :=
    (((Held.refl w).alloc (.cells #[.slice A n c, .slice A' m d] 39) rfl).alloc (.cells #[.int .i64 at'.1, .int .i64 at'.2] 24) (g := w.heap.size + 1) (by simp)).tail.tail.alloc (.cells #[.int .i64 ino.1, .int .i64 ino.2] 24) (by simp)
  clear hb ht hr hr' h
  go_enter Tryz.func70, Tryz.ntmps70
  go_wp2_with fail
  refine (HG.out _ hb0.below).mono ?_
  rintro e w1 ⟨rfl, hb1⟩
  have hb2 := hb0.step hb1
  clear hb0 hb1
  obtain ⟨i0, i1⟩ := two_cells (g := w.heap.size + 1 + 1) (hb2.at 0 rfl)
  have hlt := heap_lt (hb2.at 0 rfl)
  have q0 := (heap_alloc_old w1 (.cells #[.int .i64 t.1, .int .i64 t.2] 24) hlt).trans (hb2.at 0 rfl)
  obtain ⟨j0, j1⟩ := two_cells (g := w.heap.size + 1 + 1) q0
  have HB := Lib.hid hb2.below
  clear hb2 q0
  cases b
  · go_wp2_with fail
    go_ret
    exact ⟨by rw [HR.out]; rfl, by first | exact HB.out | exact HB.out.alloc HB.out.size _⟩
  · cases r1 <;> cases r2
    all_goals
      go_wp2_with fail
      go_ret
      exact ⟨by rw [HR.out]; rfl, by first | exact HB.out | exact HB.out.alloc HB.out.size _⟩

end Go.Proofs.YthcmgaibbpacfaaGreatDoor

/-
  What the walk of the document's own Diff (records) leans on: what its first statement reads, keeps and leaves.
-/
namespace Go.Proofs.YthcmgaibbpacfaaGreatDoor
open Go.RowKit StampMath GraphMath

/-- What the two tests read. -/
@[reducible] def DiffS (w : World) (A A' B B' : Option Addr) (n c m d nb cb mb db : Nat) (W : World) : Prop :=
  Held w [(w.heap.size + 1, .cells #[.slice B nb cb, .slice B' mb db] 39), (w.heap.size, .cells #[.slice A n c, .slice A' m d] 39)] W ∧ W.cell? ⟨w.heap.size, 0, none⟩ = some (.slice A n c) ∧ W.cell? ⟨w.heap.size, 1, none⟩ = some (.slice A' m d) ∧ W.cell? ⟨w.heap.size + 1, 0, none⟩ = some (.slice B nb cb) ∧ W.cell? ⟨w.heap.size + 1, 1, none⟩ = some (.slice B' mb db)

theorem diff_s {w W : World} {A A' B B' : Option Addr} {n c m d nb cb mb db : Nat} {L : List (Nat × Obj)} (h : Held w (L ++ [(w.heap.size + 1, .cells #[.slice B nb cb, .slice B' mb db] 39), (w.heap.size, .cells #[.slice A n c, .slice A' m d] 39)]) W) : DiffS w A A' B B' n c m d nb cb mb db W := by
  have h1 : W.heap[w.heap.size + 1]? = some (.cells #[.slice B nb cb, .slice B' mb db] 39 (0, 0)) := h.1 _ (List.mem_append_right _ (List.mem_cons_self ..))
  have h2 : W.heap[w.heap.size]? = some (.cells #[.slice A n c, .slice A' m d] 39 (0, 0)) := h.1 _ (List.mem_append_right _ (List.mem_cons_of_mem _ (List.mem_cons_self ..)))
  refine ⟨⟨fun p hp => h.1 p (List.mem_append_right _ hp), h.2⟩, (two_cells h2).1, (two_cells h2).2, (two_cells h1).1, (two_cells h1).2⟩

theorem diff_step {w W W' : World} {A A' B B' : Option Addr} {n c m d nb cb mb db : Nat} (h : DiffS w A A' B B' n c m d nb cb mb db W) (hb : Below W.heap.size W W') : DiffS w A A' B B' n c m d nb cb mb db W' := diff_s (L := []) (h.1.step hb)

theorem diff_alloc {w W : World} {A A' B B' : Option Addr} {n c m d nb cb mb db : Nat} (h : DiffS w A A' B B' n c m d nb cb mb db W) (o : Obj) : DiffS w A A' B B' n c m d nb cb mb db (W.alloc o) := diff_step h ((Below.refl _ _).alloc (Nat.le_refl _) _)

theorem diff_drew {w W : World} {A A' B B' : Option Addr} {n c m d nb cb mb db : Nat} (h : DiffS w A A' B B' n c m d nb cb mb db W) : DiffS w A A' B B' n c m d nb cb mb db W.drew := diff_s (L := []) h.1.drew

theorem diff_lt {w W : World} {A A' B B' : Option Addr} {n c m d nb cb mb db : Nat} (h : DiffS w A A' B B' n c m d nb cb mb db W) : w.heap.size + 1 < W.heap.size := heap_lt (h.1.at 0 rfl)

theorem diff_set {w W : World} {A A' B B' : Option Addr} {n c m d nb cb mb db : Nat} (h : DiffS w A A' B B' n c m d nb cb mb db W) {q : Addr} (hq : w.heap.size + 1 < q.block) (v : Value) : DiffS w A A' B B' n c m d nb cb mb db (W.setCell q v) :=
  diff_s (L := []) ⟨fun p hp => (heap_setCell_other _ _ _ _ (by simp at hp; rcases hp with rfl | rfl <;> (dsimp only; omega))).trans (h.1.1 p hp), h.1.2.setCell (by omega) v⟩

theorem diff_set4 {w W : World} {A A' B B' : Option Addr} {n c m d nb cb mb db : Nat} (h : DiffS w A A' B B' n c m d nb cb mb db W) {u : Nat} (hq : w.heap.size + 1 < u) (a b c' d' : Value) : DiffS w A A' B B' n c m d nb cb mb db ((((W.setCell ⟨u, 0, none⟩ a).setCell ⟨u, 1, none⟩ b).setCell ⟨u, 2, none⟩ c').setCell ⟨u, 3, none⟩ d') :=
  diff_set (q := ⟨u, 3, none⟩) (diff_set (q := ⟨u, 2, none⟩) (diff_set (q := ⟨u, 1, none⟩) (diff_set (q := ⟨u, 0, none⟩) h hq _) hq _) hq _) hq _

theorem four_cells {w : World} {g : Nat} {a b c d : Value} {T : TypeId} (h : w.heap[g]? = some (.cells #[a, b, c, d] T (0, 0))) :
    w.cell? ⟨g, 0, none⟩ = some a ∧ w.cell? ⟨g, 1, none⟩ = some b ∧ w.cell? ⟨g, 2, none⟩ = some c ∧ w.cell? ⟨g, 3, none⟩ = some d :=
  ⟨cell_of_row _ _ 0 _ _ (0, 0) h, cell_of_row _ _ 1 _ _ (0, 0) h, cell_of_row _ _ 2 _ _ (0, 0) h, cell_of_row _ _ 3 _ _ (0, 0) h⟩

theorem box_behind2 {W W' : World} {o : Obj} (hb : Below (W.alloc o).heap.size (W.alloc o) W') : W'.heap[W.heap.size]? = some o :=
  (hb.block _ (heap_lt (heap_alloc_new W o))).trans (heap_alloc_new W o)

theorem four_free {w : World} {g : Nat} {a b c d : Value} {T : TypeId} (h : w.heap[g]? = some (.cells #[a, b, c, d] T (0, 0))) :
    w.frozen? ⟨g, 0, none⟩ = false ∧ w.frozen? ⟨g, 1, none⟩ = false ∧ w.frozen? ⟨g, 2, none⟩ = false ∧ w.frozen? ⟨g, 3, none⟩ = false :=
  ⟨frozen_of_row _ _ 0 _ _ h, frozen_of_row _ _ 1 _ _ h, frozen_of_row _ _ 2 _ _ h, frozen_of_row _ _ 3 _ _ h⟩

/-- What the first statement leaves: a record in a box of its own. -/
def DiffRec (w : World) (A A' B B' : Option Addr) (n c m d nb cb mb db : Nat) (E F : List Ent) (v : Value) (W : World) : Prop :=
  ∃ (u : Nat) (L1 : Option Addr) (c1 : Nat) (L2 : Option Addr) (c2 : Nat), v = .pointer (some ⟨u, 0, none⟩) ∧ DiffS w A A' B B' n c m d nb cb mb db W ∧ W.heap[w.heap.size + 1 + 1]? = some (.cells #[.slice none 0 0, .slice none 0 0, .slice none 0 0, .slice none 0 0] 42 (0, 0)) ∧ w.heap.size + 1 + 1 < u ∧
    W.heap[u]? = some (.cells #[.slice L1 E.length c1, .slice L2 F.length c2, .slice none 0 0, .slice none 0 0] 42 (0, 0)) ∧ W.ownsRow (w.heap.size + 2) 66 5 (.slice L1 E.length c1) E.length (flat (E.map entA)) ∧ W.ownsRow (w.heap.size + 2) 66 5 (.slice L2 F.length c2) F.length (flat (F.map entA)) ∧ (∀ p, L1 = some p → p.block ≠ u) ∧ (∀ p, L2 = some p → p.block ≠ u)

theorem own_base {W : World} {base base' : Nat} {e : TypeId} {k : Nat} {v : Value} {n : Nat} {xs : List Value} (h : W.ownsRow base e k v n xs) (hb : base' ≤ base) : W.ownsRow base' e k v n xs := by
  obtain ⟨h0, h1 | ⟨g, cap, cur, h1, h2, h3, h4⟩⟩ := h
  · exact ⟨h0, Or.inl h1⟩
  · exact ⟨h0, Or.inr ⟨g, cap, cur, h1, Nat.le_trans hb h2, h3, h4⟩⟩

theorem own_block {W : World} {base : Nat} {e : TypeId} {k : Nat} {D : Option Addr} {n c : Nat} {m : Nat} {xs : List Value} (h : W.ownsRow base e k (.slice D n c) m xs) : ∀ p, D = some p → base ≤ p.block ∧ p.block < W.heap.size := by
  intro p hp
  subst hp
  obtain ⟨h0, ⟨h1, _⟩ | ⟨g, cap, cur, h1, h2, h3, h4⟩⟩ := h
  · cases h1
  · injection h1 with h1
    injection h1 with h1
    subst h1
    exact ⟨h2, heap_lt h3⟩

theorem diff_rec_alloc {w w2 : World} {A A' B B' : Option Addr} {n c m d nb cb mb db : Nat} {E F : List Ent} (hS : DiffS w A A' B B' n c m d nb cb mb db w2) (hr : w2.heap[w.heap.size + 1 + 1]? = some (.cells #[.slice none 0 0, .slice none 0 0, .slice none 0 0, .slice none 0 0] 42 (0, 0))) {D1 D2 : Option Addr} {p1 p2 b1 b2 : Nat}
    (o1 : w2.ownsRow b1 66 5 (.slice D1 E.length p1) E.length (flat (E.map entA))) (o2 : w2.ownsRow b2 66 5 (.slice D2 F.length p2) F.length (flat (F.map entA))) (h1 : w.heap.size + 2 ≤ b1) (h2 : w.heap.size + 2 ≤ b2) :
    DiffRec w A A' B B' n c m d nb cb mb db E F (.pointer (some ⟨w2.heap.size, 0, none⟩)) (w2.alloc (.cells #[.slice D1 E.length p1, .slice D2 F.length p2, .slice none 0 0, .slice none 0 0] 42)) := by
  have hA : Below w2.heap.size w2 (w2.alloc (.cells #[.slice D1 E.length p1, .slice D2 F.length p2, .slice none 0 0, .slice none 0 0] 42)) := (Below.refl _ _).alloc (Nat.le_refl _) _
  exact ⟨_, D1, p1, D2, p2, rfl, diff_alloc hS _, (hA.block _ (heap_lt hr)).trans hr, heap_lt hr, heap_alloc_new _ _, own_base (own_call o1 hA) h1, own_base (own_call o2 hA) h2, fun p hp => by have := (own_block o1 p hp).2; omega, fun p hp => by have := (own_block o2 p hp).2; omega⟩

theorem diff_rec_set {w w2 : World} {A A' B B' : Option Addr} {n c m d nb cb mb db : Nat} {E F : List Ent} (hS : DiffS w A A' B B' n c m d nb cb mb db w2) (hr : w2.heap[w.heap.size + 1 + 1]? = some (.cells #[.slice none 0 0, .slice none 0 0, .slice none 0 0, .slice none 0 0] 42 (0, 0))) {D1 D2 : Option Addr} {p1 p2 b1 b2 u : Nat}
    (o1 : w2.ownsRow b1 66 5 (.slice D1 E.length p1) E.length (flat (E.map entA))) (o2 : w2.ownsRow b2 66 5 (.slice D2 F.length p2) F.length (flat (F.map entA))) (h1 : w.heap.size + 2 ≤ b1) (h2 : w.heap.size + 2 ≤ b2) (hu : w.heap.size + 1 + 1 < u)
    (hx : w2.heap[u]? = some (.cells #[.slice none 0 0, .slice none 0 0, .slice none 0 0, .slice none 0 0] 42 (0, 0))) (n1 : ∀ p, D1 = some p → p.block ≠ u) (n2 : ∀ p, D2 = some p → p.block ≠ u) :
    DiffRec w A A' B B' n c m d nb cb mb db E F (.pointer (some ⟨u, 0, none⟩)) ((((w2.setCell ⟨u, 0, none⟩ (.slice D1 E.length p1)).setCell ⟨u, 1, none⟩ (.slice D2 F.length p2)).setCell ⟨u, 2, none⟩ (.slice none 0 0)).setCell ⟨u, 3, none⟩ (.slice none 0 0)) := by
  have ho : ∀ i, i ≠ u → ((((w2.setCell ⟨u, 0, none⟩ (.slice D1 E.length p1)).setCell ⟨u, 1, none⟩ (.slice D2 F.length p2)).setCell ⟨u, 2, none⟩ (.slice none 0 0)).setCell ⟨u, 3, none⟩ (.slice none 0 0)).heap[i]? = w2.heap[i]? := fun i hi => by
    rw [heap_setCell_other _ _ _ _ hi, heap_setCell_other _ _ _ _ hi, heap_setCell_other _ _ _ _ hi, heap_setCell_other _ _ _ _ hi]
  have hb : ∀ (D : Option Addr) (k q : Nat), (∀ p, D = some p → p.block ≠ u) → ∀ g, (Value.slice D k q).ownBlock = some g → g ≠ u := fun D k q h g hg => by
    cases D with
    | none => simp [Value.ownBlock] at hg
    | some p =>
      have : p.block = g := by simpa [Value.ownBlock] using hg
      rw [← this]
      exact h p rfl
  refine ⟨_, D1, p1, D2, p2, rfl, diff_set4 hS (by omega) _ _ _ _, (ho _ (by omega)).trans hr, hu, ?_, own_base (own_same o1 fun g hg => ho g (hb _ _ _ n1 g hg)) h1, own_base (own_same o2 fun g hg => ho g (hb _ _ _ n2 g hg)) h2, n1, n2⟩
  rw [heap_setCell_same _ _ _ _ _ _ (heap_setCell_same _ _ _ _ _ _ (heap_setCell_same _ _ _ _ _ _ (heap_setCell_same _ _ _ _ _ _ hx)))]
  rfl

/-- What a round of the two loops begins with: the record in its box, two lists that grow. -/
structure DiffMid (w : World) (A A' B B' : Option Addr) (n c m d nb cb mb db : Nat) (E F : List Ent) (I : List Ino) (S : List St) (b u : Nat) (L1 : Option Addr) (c1 : Nat) (L2 : Option Addr) (c2 : Nat) (v3 v4 : Value) (W : World) : Prop where
  s : DiffS w A A' B B' n c m d nb cb mb db W
  res : W.heap[w.heap.size + 1 + 1]? = some (.cells #[.slice none 0 0, .slice none 0 0, .slice none 0 0, .slice none 0 0] 42 (0, 0))
  ge : w.heap.size + 1 + 1 < u
  lt : u < b
  box : W.heap[u]? = some (.cells #[.slice L1 E.length c1, .slice L2 F.length c2, v3, v4] 42 (0, 0))
  o1 : W.ownsRow (w.heap.size + 2) 66 5 (.slice L1 E.length c1) E.length (flat (E.map entA))
  o2 : W.ownsRow (w.heap.size + 2) 66 5 (.slice L2 F.length c2) F.length (flat (F.map entA))
  n1 : ∀ p, L1 = some p → p.block < b ∧ p.block ≠ u
  n2 : ∀ p, L2 = some p → p.block < b ∧ p.block ≠ u
  o3 : W.ownsRow b 70 6 v3 I.length (flat (I.map inoA))
  o4 : W.ownsRow b 24 2 v4 S.length (flat (S.map stA))

theorem diff_mid_start {w wA w3 : World} {A A' B B' : Option Addr} {n c m d nb cb mb db : Nat} {E F : List Ent} {u : Nat} {L1 : Option Addr} {c1 : Nat} {L2 : Option Addr} {c2 : Nat} (hS : DiffS w A A' B B' n c m d nb cb mb db wA) (hr : wA.heap[w.heap.size + 1 + 1]? = some (.cells #[.slice none 0 0, .slice none 0 0, .slice none 0 0, .slice none 0 0] 42 (0, 0))) (hu : w.heap.size + 1 + 1 < u)
    (hx : wA.heap[u]? = some (.cells #[.slice L1 E.length c1, .slice L2 F.length c2, .slice none 0 0, .slice none 0 0] 42 (0, 0))) (o1 : wA.ownsRow (w.heap.size + 2) 66 5 (.slice L1 E.length c1) E.length (flat (E.map entA))) (o2 : wA.ownsRow (w.heap.size + 2) 66 5 (.slice L2 F.length c2) F.length (flat (F.map entA)))
    (n1 : ∀ p, L1 = some p → p.block ≠ u) (n2 : ∀ p, L2 = some p → p.block ≠ u) (hb : Below wA.heap.size wA w3) : DiffMid w A A' B B' n c m d nb cb mb db E F [] [] w3.heap.size u L1 c1 L2 c2 (.slice none 0 0) (.slice none 0 0) w3 :=
  ⟨diff_step hS hb, (hb.block _ (heap_lt hr)).trans hr, hu, Nat.lt_of_lt_of_le (heap_lt hx) hb.size, (hb.block _ (heap_lt hx)).trans hx, own_call o1 hb, own_call o2 hb, fun p hp => ⟨Nat.lt_of_lt_of_le (own_block o1 p hp).2 hb.size, n1 p hp⟩, fun p hp => ⟨Nat.lt_of_lt_of_le (own_block o2 p hp).2 hb.size, n2 p hp⟩, World.ownsRow_nil _ _ _ _, World.ownsRow_nil _ _ _ _⟩

theorem diff_mid_step {w W W' : World} {A A' B B' : Option Addr} {n c m d nb cb mb db : Nat} {E F : List Ent} {I : List Ino} {S : List St} {b u : Nat} {L1 : Option Addr} {c1 : Nat} {L2 : Option Addr} {c2 : Nat} {v3 v4 : Value} (h : DiffMid w A A' B B' n c m d nb cb mb db E F I S b u L1 c1 L2 c2 v3 v4 W) (hb : Below W.heap.size W W') : DiffMid w A A' B B' n c m d nb cb mb db E F I S b u L1 c1 L2 c2 v3 v4 W' :=
  ⟨diff_step h.s hb, (hb.block _ (heap_lt h.res)).trans h.res, h.ge, h.lt, (hb.block _ (heap_lt h.box)).trans h.box, own_call h.o1 hb, own_call h.o2 hb, h.n1, h.n2, own_call h.o3 hb, own_call h.o4 hb⟩

/-- What a drawn look at the other graph leaves: a box with the inode told, and whether it is there. -/
def Got (w6 : World) (y : Ino) (is : Bool) (v n : Value) (W : World) : Prop :=
  ∃ bn : Nat, v = .pointer (some ⟨bn, 0, none⟩) ∧ n = .bool is ∧ Below w6.heap.size w6 W ∧ w6.heap.size ≤ bn ∧ W.heap[bn]? = some (.cells (inoA y) 70 (0, 0))

theorem got_after {w6 W w8 : World} {y : Ino} {is : Bool} (hW : Below w6.heap.size w6 W) (hb8 : Below W.heap.size W w8) : Got w6 y is (.pointer (some ⟨w8.heap.size, 0, none⟩)) (.bool is) (w8.alloc (.cells (inoA y) 70)) := by
  have h1 := below_step hW hb8
  exact ⟨_, rfl, rfl, below_step h1 ((Below.refl _ _).alloc (Nat.le_refl _) _), h1.size, heap_alloc_new _ _⟩

theorem got_before {w6 w8 : World} {o : Obj} {y z : Ino} {is : Bool} (ho : w8.heap[w6.heap.size]? = some (.cells (inoA z) 70 (0, 0))) (hb8 : Below (w6.alloc o).drew.heap.size (w6.alloc o).drew w8) :
    Got w6 y is (.pointer (some ⟨w6.heap.size, 0, none⟩)) (.bool is) ((((((w8.setCell ⟨w6.heap.size, 0, none⟩ (.int .i64 y.id.1)).setCell ⟨w6.heap.size, 1, none⟩ (.int .i64 y.id.2)).setCell ⟨w6.heap.size, 2, none⟩ (.int .i64 y.kind)).setCell ⟨w6.heap.size, 3, none⟩ (.int .i64 y.links)).setCell ⟨w6.heap.size, 4, none⟩ (.int .i64 y.mode)).setCell ⟨w6.heap.size, 5, none⟩ (.string y.data)) := by
  have h1 : Below w6.heap.size w6 w8 := below_step (((Below.refl w6.heap.size w6).alloc (Nat.le_refl _) o).drew) hb8
  refine ⟨_, rfl, rfl, below_six h1 (Nat.le_refl _) _ _ _ _ _ _, Nat.le_refl _, ?_⟩
  rw [heap_setCell_same _ _ _ _ _ _ (heap_setCell_same _ _ _ _ _ _ (heap_setCell_same _ _ _ _ _ _ (heap_setCell_same _ _ _ _ _ _ (heap_setCell_same _ _ _ _ _ _ (heap_setCell_same _ _ _ _ _ _ ho)))))]
  rfl

end Go.Proofs.YthcmgaibbpacfaaGreatDoor

/-
  What the walk of the document's own Diff (records) leans on: one inode, or one number, more in a record.
-/
namespace Go.Proofs.YthcmgaibbpacfaaGreatDoor
open Go.RowKit StampMath GraphMath

/-- A row of the call's own lies in no block of another type. -/
theorem own_not {W : World} {base : Nat} {e : TypeId} {k : Nat} {v : Value} {n : Nat} {xs : List Value} (h : W.ownsRow base e k v n xs) {g : Nat} {cs : Array Value} {T : TypeId} {fr : Nat × Nat} (hg : W.heap[g]? = some (.cells cs T fr)) (hT : T ≠ e) : ∀ j, v.ownBlock = some j → j ≠ g := by
  intro j hj e1
  subst e1
  obtain ⟨_, ⟨rfl, _⟩ | ⟨g', cap, cur, rfl, _, h3, _⟩⟩ := h
  · cases hj
  · cases hj
    rw [hg] at h3
    injection h3 with h3
    injection h3 with _ h4 _
    exact hT h4

theorem own_apart {W : World} {base base' : Nat} {e e' : TypeId} {k k' : Nat} {v v' : Value} {n n' : Nat} {xs xs' : List Value} (h : W.ownsRow base e k v n xs) (h' : W.ownsRow base' e' k' v' n' xs') (hT : e' ≠ e) : ∀ j, v.ownBlock = some j → v'.ownBlock ≠ some j := by
  intro j hj hj'
  obtain ⟨_, ⟨rfl, _⟩ | ⟨g', cap, cur, rfl, _, h3, _⟩⟩ := h'
  · cases hj'
  · cases hj'
    exact own_not h h3 hT _ hj rfl

section
variable {w W V W7 : World} {A A' B B' : Option Addr} {n c m d nb cb mb db : Nat} {E F : List Ent} {I : List Ino} {S : List St} {b u : Nat} {L1 : Option Addr} {c1 : Nat} {L2 : Option Addr} {c2 : Nat} {v3 v4 v' : Value} {x : Ino} {s : St}

theorem diff_mid_ino (h : DiffMid w A A' B B' n c m d nb cb mb db E F I S b u L1 c1 L2 c2 v3 v4 W) (hb : Below W.heap.size W V) (hg : V.grownBy W7 v3.ownBlock) (hown : W7.ownsRow b 70 6 v' (I.length + 1) (flat (I.map inoA) ++ (inoA x).toList)) :
    DiffMid w A A' B B' n c m d nb cb mb db E F (I ++ [x]) S b u L1 c1 L2 c2 v' v4 (W7.setCell ⟨u, 2, none⟩ v') := by
  have hV := diff_mid_step h hb
  have hge := hV.ge
  have hlt := hV.lt
  have ho : ∀ j, j < V.heap.size → v3.ownBlock ≠ some j → j ≠ u → (W7.setCell ⟨u, 2, none⟩ v').heap[j]? = V.heap[j]? := fun j h1 h2 h3 => (heap_setCell_other _ _ _ _ h3).trans (hg.block j h1 (Ne.symm h2))
  have n3 : ∀ j, v3.ownBlock = some j → b ≤ j := fun j hj => (hV.o3.lt j hj).1
  have hbu : W7.heap[u]? = V.heap[u]? := hg.block u (heap_lt hV.box) (fun e => by have := n3 u e.symm; omega)
  refine ⟨?_, ?_, hge, hlt, ?_, ?_, ?_, hV.n1, hV.n2, ?_, ?_⟩
  · have := (hV.s.1.grown (B := b) hg (fun q hq => n3 q hq) (by intro p hp; simp at hp; rcases hp with rfl | rfl <;> (dsimp only; omega)) (by omega))
    exact diff_set (diff_s (L := []) this) (by dsimp only; omega) _
  · exact (ho _ (heap_lt hV.res) (fun e => by have := n3 _ e; omega) (by omega)).trans hV.res
  · rw [heap_setCell_same _ _ _ _ _ _ (hbu.trans hV.box)]
    rfl
  · exact own_same hV.o1 fun g hg' => ho g (hV.o1.lt g hg').2 (own_apart hV.o1 hV.o3 (by decide) g hg') (own_not hV.o1 hV.box (by decide) g hg')
  · exact own_same hV.o2 fun g hg' => ho g (hV.o2.lt g hg').2 (own_apart hV.o2 hV.o3 (by decide) g hg') (own_not hV.o2 hV.box (by decide) g hg')
  · rw [List.length_append, ← flat_ino]
    exact own_same hown fun g hg' => heap_setCell_other _ _ _ _ (own_not hown (hbu.trans hV.box) (by decide) g hg')
  · exact own_same hV.o4 fun g hg' => ho g (hV.o4.lt g hg').2 (own_apart hV.o4 hV.o3 (by decide) g hg') (own_not hV.o4 hV.box (by decide) g hg')

theorem flat_st5 (F : List St) (x : St) : flat (F.map stA) ++ (stA x).toList = flat ((F ++ [x]).map stA) := by simp [flat]

theorem diff_mid_st (h : DiffMid w A A' B B' n c m d nb cb mb db E F I S b u L1 c1 L2 c2 v3 v4 W) (hb : Below W.heap.size W V) (hg : V.grownBy W7 v4.ownBlock) (hown : W7.ownsRow b 24 2 v' (S.length + 1) (flat (S.map stA) ++ (stA s).toList)) :
    DiffMid w A A' B B' n c m d nb cb mb db E F I (S ++ [s]) b u L1 c1 L2 c2 v3 v' (W7.setCell ⟨u, 3, none⟩ v') := by
  have hV := diff_mid_step h hb
  have hge := hV.ge
  have hlt := hV.lt
  have ho : ∀ j, j < V.heap.size → v4.ownBlock ≠ some j → j ≠ u → (W7.setCell ⟨u, 3, none⟩ v').heap[j]? = V.heap[j]? := fun j h1 h2 h3 => (heap_setCell_other _ _ _ _ h3).trans (hg.block j h1 (Ne.symm h2))
  have n3 : ∀ j, v4.ownBlock = some j → b ≤ j := fun j hj => (hV.o4.lt j hj).1
  have hbu : W7.heap[u]? = V.heap[u]? := hg.block u (heap_lt hV.box) (fun e => by have := n3 u e.symm; omega)
  refine ⟨?_, ?_, hge, hlt, ?_, ?_, ?_, hV.n1, hV.n2, ?_, ?_⟩
  · have := (hV.s.1.grown (B := b) hg (fun q hq => n3 q hq) (by intro p hp; simp at hp; rcases hp with rfl | rfl <;> (dsimp only; omega)) (by omega))
    exact diff_set (diff_s (L := []) this) (by dsimp only; omega) _
  · exact (ho _ (heap_lt hV.res) (fun e => by have := n3 _ e; omega) (by omega)).trans hV.res
  · rw [heap_setCell_same _ _ _ _ _ _ (hbu.trans hV.box)]
    rfl
  · exact own_same hV.o1 fun g hg' => ho g (hV.o1.lt g hg').2 (own_apart hV.o1 hV.o4 (by decide) g hg') (own_not hV.o1 hV.box (by decide) g hg')
  · exact own_same hV.o2 fun g hg' => ho g (hV.o2.lt g hg').2 (own_apart hV.o2 hV.o4 (by decide) g hg') (own_not hV.o2 hV.box (by decide) g hg')
  · exact own_same hV.o3 fun g hg' => ho g (hV.o3.lt g hg').2 (own_apart hV.o3 hV.o4 (by decide) g hg') (own_not hV.o3 hV.box (by decide) g hg')
  · rw [List.length_append, ← flat_st5]
    exact own_same hown fun g hg' => heap_setCell_other _ _ _ _ (own_not hown (hbu.trans hV.box) (by decide) g hg')

end

/-- A row of the call's own is read, and lies in blocks from its base on. -/
theorem tab_at_row {W : World} {base : Nat} {e : TypeId} {k : Nat} {v : Value} {n : Nat} {rows : List (Array Value)} (hk : ∀ r ∈ rows, r.size = k) (hn : rows.length = n) (h : W.ownsRow base e k v n (flat rows)) {T : Nat → Prop} (hT : ∀ i, base ≤ i → T i) :
    ∃ (A : Option Addr) (c : Nat), v = .slice A n c ∧ TabAt T k W A n rows := by
  obtain ⟨A, c, rfl, h1, _, _, _⟩ := tab_own hk hn h
  refine ⟨A, c, rfl, h1.1, fun hp => ?_⟩
  obtain ⟨g, o, e1, hg, hc⟩ := h1.2 hp
  refine ⟨g, o, e1, hT g ?_, hg, hc⟩
  exact (h.lt g (by rw [e1]; rfl)).1

/-- At the end the record lies in the answer's box. -/
theorem diff_done {w W : World} {A A' B B' : Option Addr} {n c m d nb cb mb db : Nat} {E F : List Ent} {I : List Ino} {S : List St} {b u : Nat} {L1 : Option Addr} {c1 : Nat} {L2 : Option Addr} {c2 : Nat} {L3 : Option Addr} {c3 : Nat} {L4 : Option Addr} {c4 : Nat}
    (h : DiffMid w A A' B B' n c m d nb cb mb db E F I S b u L1 c1 L2 c2 (.slice L3 I.length c3) (.slice L4 S.length c4) W) :
    ((((W.setCell ⟨w.heap.size + 1 + 1, 0, none⟩ (.slice L1 E.length c1)).setCell ⟨w.heap.size + 1 + 1, 1, none⟩ (.slice L2 F.length c2)).setCell ⟨w.heap.size + 1 + 1, 2, none⟩ (.slice L3 I.length c3)).setCell ⟨w.heap.size + 1 + 1, 3, none⟩ (.slice L4 S.length c4)).heap[w.heap.size + 1 + 1]? = some (.cells #[.slice L1 E.length c1, .slice L2 F.length c2, .slice L3 I.length c3, .slice L4 S.length c4] 42 (0, 0)) ∧
    TabAt (fun i => w.heap.size ≤ i) 5 ((((W.setCell ⟨w.heap.size + 1 + 1, 0, none⟩ (.slice L1 E.length c1)).setCell ⟨w.heap.size + 1 + 1, 1, none⟩ (.slice L2 F.length c2)).setCell ⟨w.heap.size + 1 + 1, 2, none⟩ (.slice L3 I.length c3)).setCell ⟨w.heap.size + 1 + 1, 3, none⟩ (.slice L4 S.length c4)) L1 E.length (E.map entA) ∧
    TabAt (fun i => w.heap.size ≤ i) 5 ((((W.setCell ⟨w.heap.size + 1 + 1, 0, none⟩ (.slice L1 E.length c1)).setCell ⟨w.heap.size + 1 + 1, 1, none⟩ (.slice L2 F.length c2)).setCell ⟨w.heap.size + 1 + 1, 2, none⟩ (.slice L3 I.length c3)).setCell ⟨w.heap.size + 1 + 1, 3, none⟩ (.slice L4 S.length c4)) L2 F.length (F.map entA) ∧
    TabAt (fun i => w.heap.size ≤ i) 6 ((((W.setCell ⟨w.heap.size + 1 + 1, 0, none⟩ (.slice L1 E.length c1)).setCell ⟨w.heap.size + 1 + 1, 1, none⟩ (.slice L2 F.length c2)).setCell ⟨w.heap.size + 1 + 1, 2, none⟩ (.slice L3 I.length c3)).setCell ⟨w.heap.size + 1 + 1, 3, none⟩ (.slice L4 S.length c4)) L3 I.length (I.map inoA) ∧
    TabAt (fun i => w.heap.size ≤ i) 2 ((((W.setCell ⟨w.heap.size + 1 + 1, 0, none⟩ (.slice L1 E.length c1)).setCell ⟨w.heap.size + 1 + 1, 1, none⟩ (.slice L2 F.length c2)).setCell ⟨w.heap.size + 1 + 1, 2, none⟩ (.slice L3 I.length c3)).setCell ⟨w.heap.size + 1 + 1, 3, none⟩ (.slice L4 S.length c4)) L4 S.length (S.map stA) ∧
    Below w.heap.size w ((((W.setCell ⟨w.heap.size + 1 + 1, 0, none⟩ (.slice L1 E.length c1)).setCell ⟨w.heap.size + 1 + 1, 1, none⟩ (.slice L2 F.length c2)).setCell ⟨w.heap.size + 1 + 1, 2, none⟩ (.slice L3 I.length c3)).setCell ⟨w.heap.size + 1 + 1, 3, none⟩ (.slice L4 S.length c4)) := by
  have hw : w.heap.size ≤ w.heap.size + 1 + 1 := by omega
  have hB : Below w.heap.size w ((((W.setCell ⟨w.heap.size + 1 + 1, 0, none⟩ (.slice L1 E.length c1)).setCell ⟨w.heap.size + 1 + 1, 1, none⟩ (.slice L2 F.length c2)).setCell ⟨w.heap.size + 1 + 1, 2, none⟩ (.slice L3 I.length c3)).setCell ⟨w.heap.size + 1 + 1, 3, none⟩ (.slice L4 S.length c4)) :=
    (((h.s.1.below.setCell (p := ⟨w.heap.size + 1 + 1, 0, none⟩) hw _).setCell (p := ⟨w.heap.size + 1 + 1, 1, none⟩) hw _).setCell (p := ⟨w.heap.size + 1 + 1, 2, none⟩) hw _).setCell (p := ⟨w.heap.size + 1 + 1, 3, none⟩) hw _
  have ho : ∀ i, i ≠ w.heap.size + 1 + 1 → ((((W.setCell ⟨w.heap.size + 1 + 1, 0, none⟩ (.slice L1 E.length c1)).setCell ⟨w.heap.size + 1 + 1, 1, none⟩ (.slice L2 F.length c2)).setCell ⟨w.heap.size + 1 + 1, 2, none⟩ (.slice L3 I.length c3)).setCell ⟨w.heap.size + 1 + 1, 3, none⟩ (.slice L4 S.length c4)).heap[i]? = W.heap[i]? := fun i hi => by
    rw [heap_setCell_other _ _ _ _ hi, heap_setCell_other _ _ _ _ hi, heap_setCell_other _ _ _ _ hi, heap_setCell_other _ _ _ _ hi]
  have hx : ((((W.setCell ⟨w.heap.size + 1 + 1, 0, none⟩ (.slice L1 E.length c1)).setCell ⟨w.heap.size + 1 + 1, 1, none⟩ (.slice L2 F.length c2)).setCell ⟨w.heap.size + 1 + 1, 2, none⟩ (.slice L3 I.length c3)).setCell ⟨w.heap.size + 1 + 1, 3, none⟩ (.slice L4 S.length c4)).heap[w.heap.size + 1 + 1]? = some (.cells #[.slice L1 E.length c1, .slice L2 F.length c2, .slice L3 I.length c3, .slice L4 S.length c4] 42 (0, 0)) := by
    rw [heap_setCell_same _ _ _ _ _ _ (heap_setCell_same _ _ _ _ _ _ (heap_setCell_same _ _ _ _ _ _ (heap_setCell_same _ _ _ _ _ _ h.res)))]
    rfl
  have q1 := own_same h.o1 fun g hg => ho g (own_not h.o1 h.res (by decide) g hg)
  have q2 := own_same h.o2 fun g hg => ho g (own_not h.o2 h.res (by decide) g hg)
  have q3 := own_same h.o3 fun g hg => ho g (own_not h.o3 h.res (by decide) g hg)
  have q4 := own_same h.o4 fun g hg => ho g (own_not h.o4 h.res (by decide) g hg)
  generalize ((((W.setCell ⟨w.heap.size + 1 + 1, 0, none⟩ (.slice L1 E.length c1)).setCell ⟨w.heap.size + 1 + 1, 1, none⟩ (.slice L2 F.length c2)).setCell ⟨w.heap.size + 1 + 1, 2, none⟩ (.slice L3 I.length c3)).setCell ⟨w.heap.size + 1 + 1, 3, none⟩ (.slice L4 S.length c4)) = V at *
  have hbw : w.heap.size ≤ b := by have := h.ge; have := h.lt; omega
  obtain ⟨_, _, e1, z1⟩ := tab_at_row (fun r hr => by obtain ⟨e, _, rfl⟩ := List.mem_map.1 hr; rfl) (by rw [List.length_map]) q1 (T := fun i => w.heap.size ≤ i) fun i hi => by omega
  obtain ⟨_, _, e2, z2⟩ := tab_at_row (fun r hr => by obtain ⟨e, _, rfl⟩ := List.mem_map.1 hr; rfl) (by rw [List.length_map]) q2 (T := fun i => w.heap.size ≤ i) fun i hi => by omega
  obtain ⟨_, _, e3, z3⟩ := tab_at_row (fun r hr => by obtain ⟨e, _, rfl⟩ := List.mem_map.1 hr; rfl) (by rw [List.length_map]) q3 (T := fun i => w.heap.size ≤ i) fun i hi => by omega
  obtain ⟨_, _, e4, z4⟩ := tab_at_row (fun r hr => by obtain ⟨e, _, rfl⟩ := List.mem_map.1 hr; rfl) (by rw [List.length_map]) q4 (T := fun i => w.heap.size ≤ i) fun i hi => by omega
  cases e1
  cases e2
  cases e3
  cases e4
  exact ⟨hx, z1, z2, z3, z4, hB⟩

theorem st_infos5 : (Tryz.prog.info? 24).map (fun i => (i.zero, i.size, i.bytes)) = some (some (.agg #[.int .i64 0, .int .i64 0]), 2, 16) := by kernel_rfl
theorem st_one5 (x : St) : ∀ u ∈ (stA x).toList, u.oneCell' = true := by
  intro u hu
  simp [stA] at hu
  rcases hu with rfl | rfl <;> rfl

/-- A number doesn't lie in a record's box. -/
theorem box_ne {W : World} {u g j : Nat} {A1 A2 A3 A4 : Option Addr} {n1 c1 n2 c2 n3 c3 n4 c4 : Nat} {T : TypeId} {q : IntKind} {z : Int} (h : W.heap[u]? = some (.cells #[.slice A1 n1 c1, .slice A2 n2 c2, .slice A3 n3 c3, .slice A4 n4 c4] T (0, 0))) (hc : W.cell? ⟨g, j, none⟩ = some (.int q z)) : g ≠ u := by
  intro e
  subst e
  rw [cell_of_row _ _ j _ _ (0, 0) h] at hc
  match j, hc with
  | 0, hc => simp at hc
  | 1, hc => simp at hc
  | 2, hc => simp at hc
  | 3, hc => simp at hc
  | n + 4, hc => simp at hc

/-- Below b all but the box u is as it was. -/
def OffU (b u : Nat) (w3 W : World) : Prop := b ≤ W.heap.size ∧ ∀ i, i < b → i ≠ u → W.heap[i]? = w3.heap[i]?

theorem OffU.step {b u : Nat} {w3 W W' : World} (h : OffU b u w3 W) (hb : Below W.heap.size W W') : OffU b u w3 W' :=
  ⟨Nat.le_trans h.1 hb.size, fun i hi hn => (hb.block i (Nat.lt_of_lt_of_le hi h.1)).trans (h.2 i hi hn)⟩

theorem OffU.put {b u j : Nat} {w3 V W7 : World} (h : OffU b u w3 V) {ob : Option Nat} (hg : V.grownBy W7 ob) (hob : ∀ q, ob = some q → b ≤ q) (v : Value) : OffU b u w3 (W7.setCell ⟨u, j, none⟩ v) :=
  ⟨by rw [World.size_setCell]; exact Nat.le_trans h.1 hg.size, fun i hi hn => (heap_setCell_other _ _ _ _ hn).trans ((hg.block i (Nat.lt_of_lt_of_le hi h.1) fun e => by have := hob i e.symm; omega).trans (h.2 i hi hn))⟩

theorem OffU.ino {b u : Nat} {w3 W : World} (h : OffU b u w3 W) {g p : Nat} {x : Ino} (hx : InoAt w3 g p x) (hg : g < b) (hn : g ≠ u) : InoAt W g p x := by
  have hh := h.2 g hg hn
  exact ⟨(World.cell?_of_block (a := ⟨g, p, none⟩) hh).trans hx.1, (World.cell?_of_block (a := ⟨g, p + 1, none⟩) hh).trans hx.2.1, (World.cell?_of_block (a := ⟨g, p + 2, none⟩) hh).trans hx.2.2.1, (World.cell?_of_block (a := ⟨g, p + 3, none⟩) hh).trans hx.2.2.2.1, (World.cell?_of_block (a := ⟨g, p + 4, none⟩) hh).trans hx.2.2.2.2.1, (World.cell?_of_block (a := ⟨g, p + 5, none⟩) hh).trans hx.2.2.2.2.2⟩

/-- What a look at one of the graphs reads. -/
@[reducible] def DiffG (w : World) (A A' B B' : Option Addr) (n c m d nb cb mb db gi p : Nat) (s : St) (W : World) : Prop :=
  Held w [(w.heap.size + 1, .cells #[.slice B nb cb, .slice B' mb db] 39), (w.heap.size, .cells #[.slice A n c, .slice A' m d] 39)] W ∧ W.cell? ⟨w.heap.size, 0, none⟩ = some (.slice A n c) ∧ W.cell? ⟨w.heap.size, 1, none⟩ = some (.slice A' m d) ∧ W.cell? ⟨w.heap.size + 1, 0, none⟩ = some (.slice B nb cb) ∧ W.cell? ⟨w.heap.size + 1, 1, none⟩ = some (.slice B' mb db) ∧ W.cell? ⟨gi, p, none⟩ = some (.int .i64 s.1) ∧ W.cell? ⟨gi, p + 1, none⟩ = some (.int .i64 s.2)

section
variable {w W W' : World} {A A' B B' : Option Addr} {n c m d nb cb mb db gi p : Nat} {s : St}

theorem dg_of (h : DiffS w A A' B B' n c m d nb cb mb db W) (p0 : W.cell? ⟨gi, p, none⟩ = some (.int .i64 s.1)) (p1 : W.cell? ⟨gi, p + 1, none⟩ = some (.int .i64 s.2)) : DiffG w A A' B B' n c m d nb cb mb db gi p s W :=
  ⟨h.1, h.2.1, h.2.2.1, h.2.2.2.1, h.2.2.2.2, p0, p1⟩

theorem dg_s (h : DiffG w A A' B B' n c m d nb cb mb db gi p s W) : DiffS w A A' B B' n c m d nb cb mb db W := ⟨h.1, h.2.1, h.2.2.1, h.2.2.2.1, h.2.2.2.2.1⟩

theorem dg_step (h : DiffG w A A' B B' n c m d nb cb mb db gi p s W) (hb : Below W.heap.size W W') : DiffG w A A' B B' n c m d nb cb mb db gi p s W' :=
  dg_of (diff_step (dg_s h) hb) ((hb.cell (p := ⟨gi, p, none⟩) (World.block_lt_of_cell? _ _ h.2.2.2.2.2.1)).trans h.2.2.2.2.2.1) ((hb.cell (p := ⟨gi, p + 1, none⟩) (World.block_lt_of_cell? _ _ h.2.2.2.2.2.2)).trans h.2.2.2.2.2.2)

theorem dg_alloc (h : DiffG w A A' B B' n c m d nb cb mb db gi p s W) (o : Obj) : DiffG w A A' B B' n c m d nb cb mb db gi p s (W.alloc o) := dg_step h ((Below.refl _ _).alloc (Nat.le_refl _) _)

theorem dg_drew (h : DiffG w A A' B B' n c m d nb cb mb db gi p s W) : DiffG w A A' B B' n c m d nb cb mb db gi p s W.drew := dg_step h ((Below.refl _ _).drew)

theorem dg_set (h : DiffG w A A' B B' n c m d nb cb mb db gi p s W) {u j : Nat} (hu : w.heap.size + 1 < u) (hg : gi ≠ u) (v : Value) : DiffG w A A' B B' n c m d nb cb mb db gi p s (W.setCell ⟨u, j, none⟩ v) :=
  dg_of (diff_set (dg_s h) hu v) ((World.cell?_of_block (a := ⟨gi, p, none⟩) (heap_setCell_other _ _ _ _ hg)).trans h.2.2.2.2.2.1) ((World.cell?_of_block (a := ⟨gi, p + 1, none⟩) (heap_setCell_other _ _ _ _ hg)).trans h.2.2.2.2.2.2)

theorem dg_set6 (h : DiffG w A A' B B' n c m d nb cb mb db gi p s W) {u : Nat} (hu : w.heap.size + 1 < u) (hg : gi ≠ u) (a b c' d' e f : Value) : DiffG w A A' B B' n c m d nb cb mb db gi p s ((((((W.setCell ⟨u, 0, none⟩ a).setCell ⟨u, 1, none⟩ b).setCell ⟨u, 2, none⟩ c').setCell ⟨u, 3, none⟩ d').setCell ⟨u, 4, none⟩ e).setCell ⟨u, 5, none⟩ f) :=
  dg_set (dg_set (dg_set (dg_set (dg_set (dg_set h hu hg _) hu hg _) hu hg _) hu hg _) hu hg _) hu hg _
end

end Go.Proofs.YthcmgaibbpacfaaGreatDoor
