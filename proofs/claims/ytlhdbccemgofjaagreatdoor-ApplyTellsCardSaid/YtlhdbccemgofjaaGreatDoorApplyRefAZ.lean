/-
  The document's own calls on a graph as a value, in later worlds; the walks of the document's own kind and Has.
-/
import Derived.Test.YtlhdbccemgofjaaGreatDoorGraphValsZ
import Derived.Test.YtlhdbccemgofjaaGreatDoorGraphRefUnderZ
import Derived.Test.YtlhdbccemgofjaaGreatDoorGraphRefLookZ
import Derived.Test.YtlhdbccemgofjaaGreatDoorZ01
import Derived.Test.YtlhdbccemgofjaaGreatDoorZ01
import Derived.Test.YtlhdbccemgofjaaGreatDoorZ01
namespace Go.Proofs.YtlhdbccemgofjaaGreatDoor
open Go.RowKit StampMath GraphMath OpMath

/-- A graph as a value, in two slices; it is small. -/
structure GrV (w : World) (A : Option Addr) (n c : Nat) (A' : Option Addr) (m d : Nat) (g : Gr) : Prop where
  I : InosIn w w.heap.size A n g.I
  E : EntsIn w w.heap.size A' m g.E
  fewI : n ≤ 1000
  fewE : m ≤ 1000

theorem GrV.step {w W : World} {A : Option Addr} {n c : Nat} {A' : Option Addr} {m d : Nat} {g : Gr} (h : GrV w A n c A' m d g) (hb : Below w.heap.size w W) : GrV W A n c A' m d g :=
  ⟨(h.I.below hb).more hb.size, (h.E.below hb).more hb.size, h.fewI, h.fewE⟩

theorem GrAt.few {N : Nat → Prop} {w : World} {v : Value} {g : Gr} (h : GrAt N w v g) (hn : g.I.length ≤ 1000) (hm : g.E.length ≤ 1000) : ∃ (A : Option Addr) (n c : Nat) (A' : Option Addr) (m d : Nat), v = .agg #[.slice A n c, .slice A' m d] ∧ GrV w A n c A' m d g := by
  obtain ⟨A, n, c, A', m, d, h1, h2, _, h4, _⟩ := h
  exact ⟨A, n, c, A', m, d, h1, h2, h4, by have := h2.len; omega, by have := h4.len; omega⟩

theorem GrV.get {w : World} {A : Option Addr} {n c : Nat} {A' : Option Addr} {m d : Nat} {g : Gr} (h : GrV w A n c A' m d g) (id : St) :
    Calls Tryz.prog 39 #[.agg #[.slice A n c, .slice A' m d], .agg #[.int .i64 id.1, .int .i64 id.2]] w fun e w' => e = .returned (.tuple #[.agg (inoA ((getG g id).getD noIno)), .bool (getG g id).isSome]) ∧ Below w.heap.size w w' :=
  refGet A A' n c m d g id h.fewI h.fewE w h.I h.E

theorem GrV.look {w : World} {A : Option Addr} {n c : Nat} {A' : Option Addr} {m d : Nat} {g : Gr} (h : GrV w A n c A' m d g) (at' : St) (nm : ByteArray) :
    Calls Tryz.prog 44 #[.agg #[.slice A n c, .slice A' m d], .agg #[.int .i64 at'.1, .int .i64 at'.2], .string nm] w fun e w' => e = .returned (.tuple #[.agg #[.int .i64 ((lookE g.E at' nm).getD (0, 0)).1, .int .i64 ((lookE g.E at' nm).getD (0, 0)).2], .bool (lookE g.E at' nm).isSome]) ∧ Below w.heap.size w w' :=
  refLook (.slice A n c) A' m d g.E at' nm h.fewE w h.E

theorem GrV.under {w : World} {A : Option Addr} {n c : Nat} {A' : Option Addr} {m d : Nat} {g : Gr} (h : GrV w A n c A' m d g) (a b : St) :
    Calls Tryz.prog 126 #[.agg #[.slice A n c, .slice A' m d], .agg #[.int .i64 a.1, .int .i64 a.2], .agg #[.int .i64 b.1, .int .i64 b.2]] w fun e w' => e = .returned (.bool (underG g a b)) ∧ Below w.heap.size w w' :=
  refUnder A A' n c m d g a b h.fewI h.fewE w h.I h.E

theorem GrV.list {w : World} {A : Option Addr} {n c : Nat} {A' : Option Addr} {m d : Nat} {g : Gr} (h : GrV w A n c A' m d g) (id : St) :
    Calls Tryz.prog 80 #[.agg #[.slice A n c, .slice A' m d], .agg #[.int .i64 id.1, .int .i64 id.2]] w (EntsPost (listE g.E id) w) :=
  refList (.slice A n c) A' m d g.E id h.fewE w h.E

set_option maxRecDepth 100000 in
theorem GrV.kind {w : World} {A : Option Addr} {n c : Nat} {A' : Option Addr} {m d : Nat} {g : Gr} (h : GrV w A n c A' m d g) (id : St) :
    Calls Tryz.prog 76 #[.agg #[.slice A n c, .slice A' m d], .agg #[.int .i64 id.1, .int .i64 id.2]] w fun e w' => e = .returned (.int .i64 (kindG g id)) ∧ Below w.heap.size w w' := by
  have HG : Hid (∀ W, Below w.heap.size w W → Calls Tryz.prog 39 #[.agg #[.slice A n c, .slice A' m d], .agg #[.int .i64 id.1, .int .i64 id.2]] W fun e w' => e = .returned (.tuple #[.agg (inoA ((getG g id).getD noIno)), .bool (getG g id).isSome]) ∧ Below W.heap.size W w') := fun W hW => (h.step hW).get id
  unfold kindG
  obtain ⟨x, hx⟩ : ∃ x, x = (getG g id).getD noIno := ⟨_, rfl⟩
  rw [← hx] at HG ⊢
  have hb0 : Below w.heap.size w ((w.alloc (.cells #[.slice A n c, .slice A' m d] 30)).alloc (.cells #[.int .i64 id.1, .int .i64 id.2] 35)) := ((Below.refl _ _).alloc (Nat.le_refl _) _).alloc (by simp) _
  clear hx h
  unfold inoA at HG
  go_enter Tryz.func76, Tryz.ntmps76
  go_wp2_with fail
  refine (HG.out _ hb0).mono ?_
  rintro e w1 ⟨rfl, hb1⟩
  have hb2 := below_step hb0 hb1
  clear hb0 hb1
  go_wp2_with fail
  go_ret
  exact ⟨rfl, by first | exact hb2 | exact hb2.alloc hb2.size _⟩

set_option maxRecDepth 100000 in
theorem GrV.has {w : World} {A : Option Addr} {n c : Nat} {A' : Option Addr} {m d : Nat} {g : Gr} (h : GrV w A n c A' m d g) (at' : St) (nm : ByteArray) (ino : St) :
    Calls Tryz.prog 79 #[.agg #[.slice A n c, .slice A' m d], .agg #[.int .i64 at'.1, .int .i64 at'.2], .string nm, .agg #[.int .i64 ino.1, .int .i64 ino.2]] w fun e w' => e = .returned (.bool (decide (lookE g.E at' nm = some ino))) ∧ Below w.heap.size w w' := by
  have HG : Hid (∀ W, Below w.heap.size w W → Calls Tryz.prog 44 #[.agg #[.slice A n c, .slice A' m d], .agg #[.int .i64 at'.1, .int .i64 at'.2], .string nm] W fun e w' => e = .returned (.tuple #[.agg #[.int .i64 ((lookE g.E at' nm).getD (0, 0)).1, .int .i64 ((lookE g.E at' nm).getD (0, 0)).2], .bool (lookE g.E at' nm).isSome]) ∧ Below W.heap.size W w') := fun W hW => (h.step hW).look at' nm
  have hr : decide (lookE g.E at' nm = some ino) = ((lookE g.E at' nm).isSome && (((lookE g.E at' nm).getD (0, 0)).1 == ino.1 && ((lookE g.E at' nm).getD (0, 0)).2 == ino.2)) := by
    cases hq : lookE g.E at' nm with
    | none => simp
    | some t => simp [Prod.ext_iff]; rw [Bool.eq_iff_iff]; simp
  have HR := Lib.hid hr
  obtain ⟨b, hb⟩ : ∃ b, b = (lookE g.E at' nm).isSome := ⟨_, rfl⟩
  obtain ⟨t, ht⟩ : ∃ t, t = (lookE g.E at' nm).getD (0, 0) := ⟨_, rfl⟩
  obtain ⟨r, hr'⟩ : ∃ r, r = decide (lookE g.E at' nm = some ino) := ⟨_, rfl⟩
  rw [← hb, ← ht] at HG
  rw [← hb, ← ht, ← hr'] at HR
  rw [← hr']
  obtain ⟨r1, hr1⟩ : ∃ r1, (t.1 == ino.1) = r1 := ⟨_, rfl⟩
  obtain ⟨r2, hr2⟩ : ∃ r2, (t.2 == ino.2) = r2 := ⟨_, rfl⟩
  rw [hr1, hr2] at HR
  have hb0 : Held w [(w.heap.size + 1 + 1, .cells #[.int .i64 ino.1, .int .i64 ino.2] 35)] (((w.alloc (.cells #[.slice A n c, .slice A' m d] 30)).alloc (.cells #[.int .i64 at'.1, .int .i64 at'.2] 35)).alloc (.cells #[.int .i64 ino.1, .int .i64 ino.2] 35)) :=
    (((Held.refl w).alloc (.cells #[.slice A n c, .slice A' m d] 30) rfl).alloc (.cells #[.int .i64 at'.1, .int .i64 at'.2] 35) (g := w.heap.size + 1) (by simp)).tail.tail.alloc (.cells #[.int .i64 ino.1, .int .i64 ino.2] 35) (by simp)
  clear hb ht hr hr' h
  go_enter Tryz.func79, Tryz.ntmps79
  go_wp2_with fail
  refine (HG.out _ hb0.below).mono ?_
  rintro e w1 ⟨rfl, hb1⟩
  have hb2 := hb0.step hb1
  clear hb0 hb1
  obtain ⟨i0, i1⟩ := two_cells (g := w.heap.size + 1 + 1) (hb2.at 0 rfl)
  have hlt := heap_lt (hb2.at 0 rfl)
  have q0 := (heap_alloc_old w1 (.cells #[.int .i64 t.1, .int .i64 t.2] 35) hlt).trans (hb2.at 0 rfl)
  obtain ⟨j0, j1⟩ := two_cells (g := w.heap.size + 1 + 1) q0
  have HB := Lib.hid hb2.below
  clear hb2 q0
  cases b
  · go_wp2_with fail
    go_ret
    exact ⟨by rw [HR.out]; rfl, by first | exact HB.out | exact HB.out.alloc HB.out.size _⟩
  · cases r1 <;> cases r2
    all_goals
      go_wp2_with fail
      go_ret
      exact ⟨by rw [HR.out]; rfl, by first | exact HB.out | exact HB.out.alloc HB.out.size _⟩

end Go.Proofs.YtlhdbccemgofjaaGreatDoor
