/-
  A disk, a copy of it, and two boxes with the document's states of both: what each call leaves of them.
-/
import Derived.Test.YtgbfgjhaglmklaaDiskSame
import Derived.Test.YtgbfgjhaglmklaaDeeds
namespace Go.Proofs.Ytgbfgjhaglmklaa
open Go.RowKit DiskMath PackMath

/-- A disk d (state x, at a), and a box (block g) with a state z, all made since w. -/
structure Play1 (H : DiskHave) (w W : World) (a : Addr) (g : Nat) (x z : Dsk) : Prop where
  at' : ∃ S, H.rep W S a x ∧ (∀ i, S i → w.heap.size ≤ i) ∧ ¬ S g
  ok : x.ok
  box : W.heap[g]? = some (.cells (dskA z) 27 (0, 0))
  ge : w.heap.size ≤ g
  below : Below w.heap.size w W

/-- Beside it a copy c (at b), and a box (block u) with the state y of both. -/
structure Play2 (H : DiskHave) (w W : World) (a b : Addr) (g u : Nat) (x y z : Dsk) : Prop where
  at' : ∃ S T, H.rep W S a x ∧ H.rep W T b y ∧ (∀ i, S i → w.heap.size ≤ i) ∧ ¬ S g ∧ ¬ S u ∧ ¬ T g ∧ (∀ i, T i → ¬ S i)
  ok : x.ok
  ok2 : y.ok
  box : W.heap[g]? = some (.cells (dskA z) 27 (0, 0))
  box2 : W.heap[u]? = some (.cells (dskA y) 27 (0, 0))
  ne : u ≠ g
  ge : w.heap.size ≤ g
  below : Below w.heap.size w W

theorem Play1.step {H : DiskHave} {w W W' : World} {a : Addr} {g : Nat} {x z : Dsk} (h : Play1 H w W a g x z) (hb : Below W.heap.size W W') : Play1 H w W' a g x z := by
  obtain ⟨⟨S, h1, h2, h3⟩, h4, h5, h6, h7⟩ := h
  exact ⟨⟨S, H.keep h1 fun i hi => hb.block i (H.lt h1 i hi), h2, h3⟩, h4, (hb.block _ (heap_lt h5)).trans h5, h6, below_step h7 hb⟩

theorem Play2.step {H : DiskHave} {w W W' : World} {a b : Addr} {g u : Nat} {x y z : Dsk} (h : Play2 H w W a b g u x y z) (hb : Below W.heap.size W W') : Play2 H w W' a b g u x y z := by
  obtain ⟨⟨S, T, h1, h2, h3, h4, h5, h6, h7⟩, k1, k2, k3, k4, k5, k6, k7⟩ := h
  exact ⟨⟨S, T, H.keep h1 fun i hi => hb.block i (H.lt h1 i hi), H.keep h2 fun i hi => hb.block i (H.lt h2 i hi), h3, h4, h5, h6, h7⟩, k1, k2, (hb.block _ (heap_lt k3)).trans k3, (hb.block _ (heap_lt k4)).trans k4, k5, k6, below_step k7 hb⟩

/-- The box is written. -/
theorem Play2.put {H : DiskHave} {w W W' : World} {a b : Addr} {g u : Nat} {x y z z' : Dsk} (h : Play2 H w W a b g u x y z) (hb : But (fun i => i = g) W W') (hg : W'.heap[g]? = some (.cells (dskA z') 27 (0, 0))) : Play2 H w W' a b g u x y z' := by
  obtain ⟨⟨S, T, h1, h2, h3, h4, h5, h6, h7⟩, k1, k2, k3, k4, k5, k6, k7⟩ := h
  exact ⟨⟨S, T, H.keep h1 fun i hi => hb.block i (H.lt h1 i hi) (fun e => h4 (e ▸ hi)), H.keep h2 fun i hi => hb.block i (H.lt h2 i hi) (fun e => h6 (e ▸ hi)), h3, h4, h5, h6, h7⟩, k1, k2, hg, hb.heap k4 k5, k5, k6,
    k7.trans (hb.below (fun i hi => by rw [hi]; exact k6) k7.size)⟩

theorem dsk_put {W : World} {g : Nat} {z z' : Dsk} {T : TypeId} (h : W.heap[g]? = some (.cells (dskA z) T (0, 0))) :
    (((((W.setCell ⟨g, 0, none⟩ (.int .i64 z'.room)).setCell ⟨g, 1, none⟩ (.string z'.snap)).setCell ⟨g, 2, none⟩ (.string z'.safe)).setCell ⟨g, 3, none⟩ (.string z'.rest)).heap[g]? = some (.cells (dskA z') T (0, 0))) ∧
      But (fun i => i = g) W ((((W.setCell ⟨g, 0, none⟩ (.int .i64 z'.room)).setCell ⟨g, 1, none⟩ (.string z'.snap)).setCell ⟨g, 2, none⟩ (.string z'.safe)).setCell ⟨g, 3, none⟩ (.string z'.rest)) := by
  constructor
  · rw [heap_setCell_same _ _ _ _ _ _ (heap_setCell_same _ _ _ _ _ _ (heap_setCell_same _ _ _ _ _ _ (heap_setCell_same _ _ _ _ _ _ h)))]
    rfl
  · have b0 : But (fun i => i = g) W W := But.refl _ W
    exact (((b0.setCell (p := ⟨g, 0, none⟩) (Or.inl rfl) _).setCell (p := ⟨g, 1, none⟩) (Or.inl rfl) _).setCell (p := ⟨g, 2, none⟩) (Or.inl rfl) _).setCell (p := ⟨g, 3, none⟩) (Or.inl rfl) _

/-- The disk is written. -/
theorem Play2.mut {H : DiskHave} {w W W' : World} {a b : Addr} {g u : Nat} {x x' y z : Dsk} {S T S' : Nat → Prop} (h2 : H.rep W T b y) (h3 : ∀ i, S i → w.heap.size ≤ i) (h4 : ¬ S g) (h5 : ¬ S u) (h6 : ¬ T g) (h7 : ∀ i, T i → ¬ S i)
    (p : Play2 H w W a b g u x y z) (r : H.rep W' S' a x') (hs : ∀ i, S' i → S i ∨ W.heap.size ≤ i) (hb : But S W W') (hx : x'.ok) : Play2 H w W' a b g u x' y z := by
  have lg := heap_lt p.box
  have lu := heap_lt p.box2
  exact ⟨⟨S', T, r, H.keep h2 fun i hi => hb.block i (H.lt h2 i hi) (h7 i hi), fun i hi => (hs i hi).elim (h3 i) (Nat.le_trans p.below.size), fun hi => (hs g hi).elim h4 (fun q => by omega), fun hi => (hs u hi).elim h5 (fun q => by omega), h6,
    fun i hi hj => (hs i hj).elim (h7 i hi) (fun q => by have := H.lt h2 i hi; omega)⟩, hx, p.ok2, hb.heap p.box h4, hb.heap p.box2 h5, p.ne, p.ge, p.below.trans (hb.below h3 p.below.size)⟩

theorem Play2.append {H : DiskHave} {w W : World} {a b : Addr} {g u : Nat} {x y z : Dsk} (h : Play2 H w W a b g u x y z) (s : ByteArray) (hs : x.safe.size + x.rest.size + s.size ≤ H.most) :
    Calls Try.prog 12 #[.pointer (some a), .string s] W fun e w' => e = .returned (.int .i64 (appE x s)) ∧ Play2 H w w' a b g u (appD x s) y z := by
  have p := h
  obtain ⟨⟨S, T, h1, h2, h3, h4, h5, h6, h7⟩, k1, _⟩ := h
  refine (H.append a S x s W h1 k1 hs).mono ?_
  rintro e w' ⟨S', he, r, q, hb⟩
  exact ⟨he, Play2.mut h2 h3 h4 h5 h6 h7 p r q hb (app_ok k1)⟩

theorem Play2.sync {H : DiskHave} {w W : World} {a b : Addr} {g u : Nat} {x y z : Dsk} (h : Play2 H w W a b g u x y z) :
    Calls Try.prog 14 #[.pointer (some a)] W fun e w' => e = .returned (.tuple #[]) ∧ Play2 H w w' a b g u (syncD x) y z := by
  have p := h
  obtain ⟨⟨S, T, h1, h2, h3, h4, h5, h6, h7⟩, k1, _⟩ := h
  refine (H.sync a S x W h1 k1).mono ?_
  rintro e w' ⟨S', he, r, q, hb⟩
  exact ⟨he, Play2.mut h2 h3 h4 h5 h6 h7 p r q hb (sync_ok k1)⟩

theorem Play2.switch {H : DiskHave} {w W : World} {a b : Addr} {g u : Nat} {x y z : Dsk} (h : Play2 H w W a b g u x y z) (s : ByteArray) (hs : s.size ≤ 9223372036854775807) :
    Calls Try.prog 16 #[.pointer (some a), .string s] W fun e w' => e = .returned (.int .i64 (swE x s)) ∧ Play2 H w w' a b g u (swD x s) y z := by
  have p := h
  obtain ⟨⟨S, T, h1, h2, h3, h4, h5, h6, h7⟩, k1, _⟩ := h
  refine (H.switch a S x s W h1 k1 hs).mono ?_
  rintro e w' ⟨S', he, r, q, hb⟩
  exact ⟨he, Play2.mut h2 h3 h4 h5 h6 h7 p r q hb (sw_ok k1)⟩

theorem Play2.crash {H : DiskHave} {w W : World} {a b : Addr} {g u : Nat} {x y z : Dsk} (h : Play2 H w W a b g u x y z) (keep : Int) (hk : IsI64 keep) (hs : x.safe.size + x.rest.size ≤ H.most) :
    Calls Try.prog 18 #[.pointer (some a), .int .i64 keep] W fun e w' => e = .returned (.tuple #[]) ∧ Play2 H w w' a b g u (crashD x keep) y z := by
  have p := h
  obtain ⟨⟨S, T, h1, h2, h3, h4, h5, h6, h7⟩, k1, _⟩ := h
  refine (H.crash a S x keep W h1 k1 hk hs).mono ?_
  rintro e w' ⟨S', he, r, q, hb⟩
  exact ⟨he, Play2.mut h2 h3 h4 h5 h6 h7 p r q hb (crash_ok k1)⟩

theorem Play2.same {H : DiskHave} {w W : World} {a b : Addr} {g u : Nat} {x y z : Dsk} (h : Play2 H w W a b g u x y z) (hs : x.safe.size + x.rest.size ≤ H.most) :
    Calls Try.prog 20 #[.pointer (some a), .agg #[.int .i64 x.room, .string x.snap, .string x.safe, .string x.rest]] W fun e w' => e = .returned (.bool true) ∧ Play2 H w w' a b g u x y z := by
  have p := h
  obtain ⟨⟨S, T, h1, _⟩, k1, _⟩ := h
  refine (same_any H a S x k1 hs W h1).mono ?_
  rintro e w' ⟨he, hb⟩
  exact ⟨he, p.step hb⟩

theorem Play2.same2 {H : DiskHave} {w W : World} {a b : Addr} {g u : Nat} {x y z : Dsk} (h : Play2 H w W a b g u x y z) (hs : y.safe.size + y.rest.size ≤ H.most) :
    Calls Try.prog 20 #[.pointer (some b), .agg #[.int .i64 y.room, .string y.snap, .string y.safe, .string y.rest]] W fun e w' => e = .returned (.bool true) ∧ Play2 H w w' a b g u x y z := by
  have p := h
  obtain ⟨⟨S, T, _, h2, _⟩, _, k2, _⟩ := h
  refine (same_any H b T y k2 hs W h2).mono ?_
  rintro e w' ⟨he, hb⟩
  exact ⟨he, p.step hb⟩

/-- The copy, and its box. -/
theorem Play1.copy {H : DiskHave} {w W : World} {a : Addr} {g : Nat} {x z : Dsk} (h : Play1 H w W a g x z) (hs : x.safe.size + x.rest.size ≤ H.most) :
    Calls Try.prog 11 #[.pointer (some a)] W fun e w' => ∃ b, e = .returned (.pointer (some b)) ∧ Play1 H w w' a g x z ∧ Play2 H w (w'.alloc (.cells (dskA x) 27 (0, 0))) a b g w'.heap.size x x z := by
  have p := h
  obtain ⟨⟨S, h1, h2, h3⟩, h4, h5, h6, h7⟩ := h
  refine (H.copy a S x W h1 h4 hs).mono ?_
  rintro e w' ⟨b, T, he, r, hT, hb⟩
  refine ⟨b, he, p.step hb, ?_⟩
  have lg := heap_lt h5
  have hA := (Below.refl w'.heap.size w').alloc (Nat.le_refl _) (.cells (dskA x) 27 (0, 0))
  have r1 := H.keep h1 fun i hi => hb.block i (H.lt h1 i hi)
  have hg := (hb.block _ lg).trans h5
  have hsz := hb.size
  exact ⟨⟨S, T, H.keep r1 fun i hi => hA.block i (H.lt r1 i hi), H.keep r fun i hi => hA.block i (H.lt r i hi), h2, h3, fun hi => by have := H.lt h1 _ hi; omega, fun hi => by have := hT g hi; omega, fun i hi hj => by have := hT i hi; have := H.lt h1 i hj; omega⟩,
    h4, h4, (heap_alloc_old w' _ (heap_lt hg)).trans hg, heap_alloc_new w' _, by have := lg; omega, h6, (below_step h7 hb).alloc (Nat.le_trans h7.size hb.size) _⟩

theorem Play2.back {H : DiskHave} {w W : World} {a b : Addr} {g u : Nat} {x y z : Dsk} (h : Play2 H w W a b g u x y z) : Play1 H w W a g x z := by
  obtain ⟨⟨S, T, h1, _, h3, h4, _⟩, k1, _, k3, _, _, k6, k7⟩ := h
  exact ⟨⟨S, h1, h3, h4⟩, k1, k3, k6, k7⟩

end Go.Proofs.Ytgbfgjhaglmklaa
