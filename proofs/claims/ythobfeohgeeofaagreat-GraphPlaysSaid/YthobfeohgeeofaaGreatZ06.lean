/-
  The walk of the document's own New (graphs).
-/
import Derived.Test.YthobfeohgeeofaaGreatZ01
import Derived.Test.YthobfeohgeeofaaGreatZ04
import Derived.Test.YthobfeohgeeofaaGreatZ05
import Derived.Test.YthobfeohgeeofaaGreatZ02
import Derived.Test.YthobfeohgeeofaaGreatZ02
import Derived.Test.YthobfeohgeeofaaGreatZ00
import Derived.Test.YthobfeohgeeofaaGreatZ03
import Derived.Deep.RegionHeld3
namespace Go.Proofs.YthobfeohgeeofaaGreat
open Go.RowKit StampMath GraphMath

set_option maxRecDepth 100000 in
set_option maxHeartbeats 800000 in
theorem refGraphNew (w : World) :
    Calls Tryz.prog 6 #[] w fun e w' => ∃ v, e = .returned v ∧ GrAt (fun i => w.heap.size ≤ i) w' v newG ∧ Below w.heap.size w w' := by
  go_enter Tryz.func6, Tryz.ntmps6
  go_wp2_with fail
  have hx := heap_alloc_new (w.alloc (.cells #[.slice (some ⟨w.heap.size + 1, 0, none⟩) 1 1, .slice none 0 0] 29)) (.cells (inoA ⟨(0, 0), 1, 0, 0, ⟨#[]⟩⟩) 47)
  rw [World.size_alloc] at hx
  have hI : InosIn ((w.alloc (.cells #[.slice (some ⟨w.heap.size + 1, 0, none⟩) 1 1, .slice none 0 0] 29)).alloc (.cells (inoA ⟨(0, 0), 1, 0, 0, ⟨#[]⟩⟩) 47)) ((w.alloc (.cells #[.slice (some ⟨w.heap.size + 1, 0, none⟩) 1 1, .slice none 0 0] 29)).alloc (.cells (inoA ⟨(0, 0), 1, 0, 0, ⟨#[]⟩⟩) 47)).heap.size (some ⟨w.heap.size + 1, 0, none⟩) 1 newG.I :=
    ⟨rfl, fun _ => ⟨w.heap.size + 1, 0, rfl, by simp, fun j hj i v hv => by
      have hj0 : j = 0 := by have : j < 1 := hj; omega
      subst hj0
      rw [show (0 : Nat) + 0 * 6 + i = i by omega, cell_of_row _ _ i _ _ (0, 0) hx]
      exact hv⟩⟩
  exact bodyPost_ret (v := .agg #[.slice (some ⟨w.heap.size + 1, 0, none⟩) 1 1, .slice none 0 0]) (by simp [results, Tryz.results6, go_sem]) rfl
    ⟨_, rfl, ⟨some ⟨w.heap.size + 1, 0, none⟩, 1, 1, none, 0, 0, rfl, hI, ⟨Nat.le_refl _, by decide, (fun h => by cases h), (fun _ p hp => by cases hp; exact Nat.le_succ _)⟩, TabIn.nil 5 _ _ _, ⟨Nat.le_refl _, by decide, fun _ => rfl, (fun _ p hp => by cases hp)⟩⟩, ((Below.refl _ w).alloc (Nat.le_refl _) _).alloc (by simp) _⟩

end Go.Proofs.YthobfeohgeeofaaGreat

/-
  The walk of the statements' want: a deed, as the document has it.
-/
namespace Go.Proofs.YthobfeohgeeofaaGreat
open Go.RowKit StampMath GraphMath OpMath

theorem GrAt.form {N : Nat → Prop} {W : World} {v : Value} {g : Gr} (h : GrAt N W v g) : ∃ (A : Option Addr) (n c : Nat) (A' : Option Addr) (m d : Nat), v = .agg #[.slice A n c, .slice A' m d] := by
  obtain ⟨A, n, c, A', m, d, h1, _⟩ := h
  exact ⟨A, n, c, A', m, d, h1⟩

/-- The answer is laid into its box. -/
theorem want_put {N : Nat → Prop} {w W w1 : World} {v : Value} {g : Gr} {b : Nat} (hb : w.heap.size ≤ b) (hW : W.heap.size = b + 1) (hB : Below w.heap.size w W) (h : GrAt (MoreN (fun i => N i ∧ i < w.heap.size) W) w1 v g ∧ Below W.heap.size W w1) (x y : Value) :
    GrAt (MoreN N w) ((w1.setCell ⟨b, 0, none⟩ x).setCell ⟨b, 1, none⟩ y) v g ∧ Below w.heap.size w ((w1.setCell ⟨b, 0, none⟩ x).setCell ⟨b, 1, none⟩ y) := by
  refine ⟨h.1.keep (fun i hi => ?_) (by simp) (fun i hi => hi.elim (fun q => .inl q.1) fun q => .inr (Nat.le_trans (by omega) q)), ((hB.trans (h.2.mono (by omega))).setCell hb _).setCell hb _⟩
  have hne : i ≠ b := by
    rcases hi with hi | hi
    · have := hi.2; omega
    · omega
  rw [heap_setCell_other _ _ _ _ hne, heap_setCell_other _ _ _ _ hne]

theorem want_alloc {N : Nat → Prop} {W w' : World} {v : Value} {g : Gr} (h : GrAt N w' v g ∧ Below W.heap.size W w') (o : Obj) : GrAt N (w'.alloc o) v g ∧ Below W.heap.size W (w'.alloc o) :=
  ⟨h.1.step ((Below.refl _ _).alloc (Nat.le_refl _) o), h.2.alloc h.2.size o⟩

set_option maxRecDepth 100000 in
set_option maxHeartbeats 1600000 in
theorem want_any (N : Nat → Prop) (v : Value) (g : Gr) (d : Dd) (hg : g.ok) (hs : d.e.name.size ≤ 9223372036854775807) (w : World) (hv : GrAt N w v g) :
    Calls Tryz.prog 9 #[v, .agg (ddA d)] w (GrPost N (doG g d) w) := by
  have hn : g.I.length ≤ 1000 := Nat.le_trans hg.few (by decide)
  have hm : g.E.length ≤ 1000 := Nat.le_trans hg.entsFew (by decide)
  have h0 : 0 < g.I.length := by
    obtain ⟨x, hx, _⟩ := hg.root
    exact List.length_pos_of_mem hx
  obtain ⟨A, n, c, A', m, dd, rfl⟩ := hv.form
  have hbox : Below w.heap.size w (((w.alloc (.cells #[.slice A n c, .slice A' m dd] 29)).alloc (.cells (ddA d) 38)).alloc (.cells #[.slice none 0 0, .slice none 0 0] 29)) := (((Below.refl w.heap.size w).alloc (Nat.le_refl _) _).alloc (by simp) _).alloc (by simp; omega) _
  have hv2 := hv.live.step (N' := fun i => N i ∧ i < w.heap.size) hbox
  have hx := heap_alloc_new ((w.alloc (.cells #[.slice A n c, .slice A' m dd] 29)).alloc (.cells (ddA d) 38)) (.cells #[.slice none 0 0, .slice none 0 0] 29)
  rw [World.size_alloc, World.size_alloc] at hx
  have HX := Lib.hid hx
  clear hx
  have HB := Lib.hid hbox
  rcases dd_kinds d with ⟨k, b0⟩ | ⟨k0, k, b0, b1⟩ | ⟨k0, k1, k, b0, b1, b2⟩ | ⟨k0, k1, k2, k, b0, b1, b2, b3⟩ | ⟨k0, k1, k2, k3, b0, b1, b2, b3⟩
  · have e : doG g d = makeG g d.e.ino d.kof := by unfold doG; rw [if_pos k]
    rw [e]
    have HC := Lib.hid (refMake (fun i => N i ∧ i < w.heap.size) _ g d.e.ino d.kof hn hm _ hv2)
    clear k e hv hv2 hg hs hn hm h0 hbox
    unfold ddA at HC ⊢
    try unfold UntPost at HC
    try unfold stA at HC
    unfold GrPost
    go_enter Tryz.func9, Tryz.ntmps9
    go_wp2_with fail
    refine HC.out.mono ?_
    rintro z w1 ⟨v, rfl, q⟩
    obtain ⟨A2, n2, c2, A3, m2, d2, rfl⟩ := q.1.form
    have hx1 := (q.2.block _ (heap_lt HX.out)).trans HX.out
    have hz := heap_lt hx1
    obtain ⟨m0, m1⟩ := two_cells hx1
    obtain ⟨f0, f1⟩ := two_free hx1
    have q2 := Lib.hid (want_put (N := N) (b := w.heap.size + 1 + 1) (by omega) (by simp) HB.out q (.slice A2 n2 c2) (.slice A3 m2 d2))
    clear q HC hx1
    go_wp2_with fail
    exact bodyPost_ret (v := .tuple #[.agg #[.slice A2 n2 c2, .slice A3 m2 d2], .int .i64 (makeG g d.e.ino d.kof).2]) (by simp [results, Tryz.results9, go_sem, m0, m1]) rfl ⟨_, rfl, q2.out⟩
  · have e : doG g d = tieG (nameB d.e.name) g d.e := by unfold doG; rw [if_neg k0, if_pos k]
    rw [e]
    have HC := Lib.hid (refTie (fun i => N i ∧ i < w.heap.size) _ g d.e hn hm hs _ hv2)
    clear k0 k e hv hv2 hg hs hn hm h0 hbox
    unfold ddA at HC ⊢
    try unfold UntPost at HC
    try unfold stA at HC
    unfold GrPost
    go_enter Tryz.func9, Tryz.ntmps9
    go_wp2_with fail
    refine HC.out.mono ?_
    rintro z w1 ⟨v, rfl, q⟩
    obtain ⟨A2, n2, c2, A3, m2, d2, rfl⟩ := q.1.form
    have hx1 := (q.2.block _ (heap_lt HX.out)).trans HX.out
    have hz := heap_lt hx1
    obtain ⟨m0, m1⟩ := two_cells hx1
    obtain ⟨f0, f1⟩ := two_free hx1
    have q2 := Lib.hid (want_put (N := N) (b := w.heap.size + 1 + 1) (by omega) (by simp) HB.out q (.slice A2 n2 c2) (.slice A3 m2 d2))
    clear q HC hx1
    go_wp2_with fail
    exact bodyPost_ret (v := .tuple #[.agg #[.slice A2 n2 c2, .slice A3 m2 d2], .int .i64 (tieG (nameB d.e.name) g d.e).2]) (by simp [results, Tryz.results9, go_sem, m0, m1]) rfl ⟨_, rfl, q2.out⟩
  · have e : doG g d = ((untieG g d.e.dir d.e.name).1, (untieG g d.e.dir d.e.name).2.2) := by unfold doG; rw [if_neg k0, if_neg k1, if_pos k]
    rw [e]
    have HC := Lib.hid (refUntie (fun i => N i ∧ i < w.heap.size) _ g d.e.dir d.e.name hm _ hv2)
    clear k0 k1 k e hv hv2 hg hs hn hm h0 hbox
    unfold ddA at HC ⊢
    try unfold UntPost at HC
    try unfold stA at HC
    unfold GrPost
    go_enter Tryz.func9, Tryz.ntmps9
    go_wp2_with fail
    refine HC.out.mono ?_
    rintro z w1 ⟨v, rfl, q⟩
    obtain ⟨A2, n2, c2, A3, m2, d2, rfl⟩ := q.1.form
    have hx1 := (q.2.block _ (heap_lt HX.out)).trans HX.out
    have hz := heap_lt hx1
    obtain ⟨m0, m1⟩ := two_cells hx1
    obtain ⟨f0, f1⟩ := two_free hx1
    have q3 := want_alloc (want_alloc q (.cells #[.slice A2 n2 c2, .slice A3 m2 d2] 29)) (.cells #[.int .i64 (untieG g d.e.dir d.e.name).2.1.1, .int .i64 (untieG g d.e.dir d.e.name).2.1.2] 34)
    have q2 := Lib.hid (want_put (N := N) (b := w.heap.size + 1 + 1) (by omega) (by simp) HB.out q3 (.slice A2 n2 c2) (.slice A3 m2 d2))
    have hx3 : ((w1.alloc (.cells #[.slice A2 n2 c2, .slice A3 m2 d2] 29)).alloc (.cells #[.int .i64 (untieG g d.e.dir d.e.name).2.1.1, .int .i64 (untieG g d.e.dir d.e.name).2.1.2] 34)).heap[w.heap.size + 1 + 1]? = _ := (heap_alloc_old _ _ (by simp; omega)).trans ((heap_alloc_old _ _ hz).trans hx1)
    obtain ⟨m2', m3'⟩ := two_cells hx3
    obtain ⟨f2', f3'⟩ := two_free hx3
    clear q3 hx3
    clear q HC hx1
    go_wp2_with fail
    exact bodyPost_ret (v := .tuple #[.agg #[.slice A2 n2 c2, .slice A3 m2 d2], .int .i64 (((untieG g d.e.dir d.e.name).1, (untieG g d.e.dir d.e.name).2.2)).2]) (by simp [results, Tryz.results9, go_sem, m2', m3']) rfl ⟨_, rfl, q2.out⟩
  · have e : doG g d = dropG g d.e.ino := by unfold doG; rw [if_neg k0, if_neg k1, if_neg k2, if_pos k]
    rw [e]
    have HC := Lib.hid (refDrop (fun i => N i ∧ i < w.heap.size) _ g d.e.ino hn hm _ hv2)
    clear k0 k1 k2 k e hv hv2 hg hs hn hm h0 hbox
    unfold ddA at HC ⊢
    try unfold UntPost at HC
    try unfold stA at HC
    unfold GrPost
    go_enter Tryz.func9, Tryz.ntmps9
    go_wp2_with fail
    refine HC.out.mono ?_
    rintro z w1 ⟨v, rfl, q⟩
    obtain ⟨A2, n2, c2, A3, m2, d2, rfl⟩ := q.1.form
    have hx1 := (q.2.block _ (heap_lt HX.out)).trans HX.out
    have hz := heap_lt hx1
    obtain ⟨m0, m1⟩ := two_cells hx1
    obtain ⟨f0, f1⟩ := two_free hx1
    have q2 := Lib.hid (want_put (N := N) (b := w.heap.size + 1 + 1) (by omega) (by simp) HB.out q (.slice A2 n2 c2) (.slice A3 m2 d2))
    clear q HC hx1
    go_wp2_with fail
    exact bodyPost_ret (v := .tuple #[.agg #[.slice A2 n2 c2, .slice A3 m2 d2], .int .i64 (dropG g d.e.ino).2]) (by simp [results, Tryz.results9, go_sem, m0, m1]) rfl ⟨_, rfl, q2.out⟩
  · have e : doG g d = setG g d.e.ino d.mode d.data := by unfold doG; rw [if_neg k0, if_neg k1, if_neg k2, if_neg k3]
    rw [e]
    have HC := Lib.hid (refSet (fun i => N i ∧ i < w.heap.size) _ g d.e.ino d.mode d.data h0 hn hm _ hv2)
    clear k0 k1 k2 k3 e hv hv2 hg hs hn hm h0 hbox
    unfold ddA at HC ⊢
    try unfold UntPost at HC
    try unfold stA at HC
    unfold GrPost
    go_enter Tryz.func9, Tryz.ntmps9
    go_wp2_with fail
    refine HC.out.mono ?_
    rintro z w1 ⟨v, rfl, q⟩
    obtain ⟨A2, n2, c2, A3, m2, d2, rfl⟩ := q.1.form
    have hx1 := (q.2.block _ (heap_lt HX.out)).trans HX.out
    have hz := heap_lt hx1
    obtain ⟨m0, m1⟩ := two_cells hx1
    obtain ⟨f0, f1⟩ := two_free hx1
    have q2 := Lib.hid (want_put (N := N) (b := w.heap.size + 1 + 1) (by omega) (by simp) HB.out q (.slice A2 n2 c2) (.slice A3 m2 d2))
    clear q HC hx1
    go_wp2_with fail
    exact bodyPost_ret (v := .tuple #[.agg #[.slice A2 n2 c2, .slice A3 m2 d2], .int .i64 (setG g d.e.ino d.mode d.data).2]) (by simp [results, Tryz.results9, go_sem, m0, m1]) rfl ⟨_, rfl, q2.out⟩

end Go.Proofs.YthobfeohgeeofaaGreat

/-
  A graph beside the document's one in a box: what a round of the statements' loop leaves of both.
-/
namespace Go.Proofs.YthobfeohgeeofaaGreat
open Go.RowKit StampMath GraphMath OpMath

/-- A round's head: the graph, and the document's, in a box. -/
structure Play (H : GraphHave) (w W : World) (a : Addr) (bx : Nat) (γ : Gr) (X : Option Addr) (n1 c1 : Nat) (Y : Option Addr) (m1 d1 : Nat) (N : Nat → Prop) : Prop where
  gr : GX H w W N a γ
  x : GrAt (fun i => N i ∧ i ≠ bx) W (.agg #[.slice X n1 c1, .slice Y m1 d1]) γ
  here : N bx
  ge : w.heap.size ≤ bx
  box : W.heap[bx]? = some (.cells #[.slice X n1 c1, .slice Y m1 d1] 29 (0, 0))

theorem box_behind {W W' : World} {o : Obj} (hb : Below (W.alloc o).drew.heap.size (W.alloc o).drew W') : W'.heap[W.heap.size]? = some o :=
  (hb.block _ (heap_lt (heap_alloc_new W o))).trans (heap_alloc_new W o)

/-- What the document's answer to a deed leaves: a box with the next graph, and an error. -/
def Told (N : Nat → Prop) (w6 : World) (g' : Gr) (er : Int) (v n : Value) (W : World) : Prop :=
  ∃ (bn : Nat) (X : Option Addr) (n1 c1 : Nat) (Y : Option Addr) (m1 d1 : Nat), v = .pointer (some ⟨bn, 0, none⟩) ∧ n = .int .i64 er ∧ Below w6.heap.size w6 W ∧ w6.heap.size ≤ bn ∧
    W.heap[bn]? = some (.cells #[.slice X n1 c1, .slice Y m1 d1] 29 (0, 0)) ∧ GrAt (MoreN N w6) W (.agg #[.slice X n1 c1, .slice Y m1 d1]) g'

theorem told_after {N : Nat → Prop} {w6 W w8 : World} {g' : Gr} {er : Int} {X : Option Addr} {n1 c1 : Nat} {Y : Option Addr} {m1 d1 : Nat} (hW : Below w6.heap.size w6 W) (q8 : GrAt (MoreN N W) w8 (.agg #[.slice X n1 c1, .slice Y m1 d1]) g') (hb8 : Below W.heap.size W w8) :
    Told N w6 g' er (.pointer (some ⟨w8.heap.size, 0, none⟩)) (.int .i64 er) (w8.alloc (.cells #[.slice X n1 c1, .slice Y m1 d1] 29)) := by
  have h1 := below_step hW hb8
  exact ⟨_, X, n1, c1, Y, m1, d1, rfl, rfl, below_step h1 ((Below.refl _ _).alloc (Nat.le_refl _) _), h1.size, heap_alloc_new _ _, q8.step ((Below.refl _ _).alloc (Nat.le_refl _) _) fun i hi => hi.imp_right fun q => Nat.le_trans hW.size q⟩

theorem told_before {N : Nat → Prop} {w6 w8 : World} {o : Obj} {g' : Gr} {er : Int} {X : Option Addr} {n1 c1 : Nat} {Y : Option Addr} {m1 d1 : Nat} (hN : ∀ i, N i → i < w6.heap.size) (ho : w8.heap[w6.heap.size]? = some (.cells #[.slice none 0 0, .slice none 0 0] 29 (0, 0)))
    (q8 : GrAt (MoreN N (w6.alloc o).drew) w8 (.agg #[.slice X n1 c1, .slice Y m1 d1]) g') (hb8 : Below (w6.alloc o).drew.heap.size (w6.alloc o).drew w8) :
    Told N w6 g' er (.pointer (some ⟨w6.heap.size, 0, none⟩)) (.int .i64 er) ((w8.setCell ⟨w6.heap.size, 0, none⟩ (.slice X n1 c1)).setCell ⟨w6.heap.size, 1, none⟩ (.slice Y m1 d1)) := by
  have h1 : Below w6.heap.size w6 w8 := below_step (((Below.refl w6.heap.size w6).alloc (Nat.le_refl _) o).drew) hb8
  refine ⟨_, X, n1, c1, Y, m1, d1, rfl, rfl, (h1.setCell (p := ⟨w6.heap.size, 0, none⟩) (Nat.le_refl _) _).setCell (p := ⟨w6.heap.size, 1, none⟩) (Nat.le_refl _) _, Nat.le_refl _, ?_, q8.keep (fun i hi => ?_) (by simp) fun i hi => hi.imp_right fun q => ?_⟩
  · rw [heap_setCell_same _ _ _ _ _ _ (heap_setCell_same _ _ _ _ _ _ ho)]
    rfl
  · have hne : i ≠ w6.heap.size := by
      rcases hi with hi | hi
      · have := hN i hi; omega
      · have h2 : w6.heap.size + 1 ≤ i := by
          have h3 : (w6.alloc o).drew.heap.size = w6.heap.size + 1 := by show (w6.alloc o).heap.size = _; simp
          omega
        omega
    rw [heap_setCell_other _ _ _ _ hne, heap_setCell_other _ _ _ _ hne]
  · have h3 : (w6.alloc o).drew.heap.size = w6.heap.size + 1 := by show (w6.alloc o).heap.size = _; simp
    omega

/-- A round's end: the document's next graph is laid into the first box. -/
theorem play_end {H : GraphHave} {w w6 w9 w' : World} {a : Addr} {bx : Nat} {γ' : Gr} {N T : Nat → Prop} {X : Option Addr} {n1 c1 : Nat} {Y : Option Addr} {m1 d1 : Nat} {o1 o2 : Value} (h6 : GX H w w6 (fun i => N i ∨ T i) a γ') (hN : N bx) (hge : w.heap.size ≤ bx) (ho : w6.heap[bx]? = some (.cells #[o1, o2] 29 (0, 0)))
    (hB : Below w6.heap.size w6 w9) (q8 : GrAt (MoreN (fun i => N i ∧ i ≠ bx) w6) w9 (.agg #[.slice X n1 c1, .slice Y m1 d1]) γ') (hB2 : Below w9.heap.size w9 w') :
    ∃ N', Play H w ((w'.setCell ⟨bx, 0, none⟩ (.slice X n1 c1)).setCell ⟨bx, 1, none⟩ (.slice Y m1 d1)) a bx γ' X n1 c1 Y m1 d1 N' := by
  have g9 := (h6.grow hB).step hB2
  have hbut : But (fun i => i = bx) w' ((w'.setCell ⟨bx, 0, none⟩ (.slice X n1 c1)).setCell ⟨bx, 1, none⟩ (.slice Y m1 d1)) := ((But.refl (fun i => i = bx) w').setCell (p := ⟨bx, 0, none⟩) (.inl rfl) _).setCell (p := ⟨bx, 1, none⟩) (.inl rfl) _
  have g10 := g9.put hbut fun i hi => by subst hi; exact ⟨.inl (.inl hN), hge⟩
  have h9 : w'.heap[bx]? = some (.cells #[o1, o2] 29 (0, 0)) := ((hB2.block bx (Nat.lt_of_lt_of_le (heap_lt ho) hB.size)).trans (hB.block bx (heap_lt ho))).trans ho
  refine ⟨_, g10, ((q8.live.step (N' := fun i => MoreN (fun i => N i ∧ i ≠ bx) w6 i ∧ i < w9.heap.size) hB2).keep (fun i hi => ?_) (by simp) fun i hi => ?_), .inl (.inl hN), hge, ?_⟩
  · have hne : i ≠ bx := by
      rcases hi.1 with q | q
      · exact q.2
      · have := heap_lt ho; omega
    rw [heap_setCell_other _ _ _ _ hne, heap_setCell_other _ _ _ _ hne]
  · rcases hi.1 with q | q
    · exact ⟨.inl (.inl q.1), q.2⟩
    · have := heap_lt ho; exact ⟨.inr ⟨q, hi.2⟩, by omega⟩
  · rw [heap_setCell_same _ _ _ _ _ _ (heap_setCell_same _ _ _ _ _ _ h9)]
    rfl

end Go.Proofs.YthobfeohgeeofaaGreat

/-
  Two entries, two inodes held against each other, as the walk meets it.
-/
namespace Go.Proofs.YthobfeohgeeofaaGreat
open Go.RowKit StampMath GraphMath

theorem ent_ext {a b : Ent} (h1 : a.dir.1 = b.dir.1) (h2 : a.dir.2 = b.dir.2) (h3 : a.name.toList = b.name.toList) (h4 : a.ino.1 = b.ino.1) (h5 : a.ino.2 = b.ino.2) : a = b := by
  obtain ⟨⟨_, _⟩, _, ⟨_, _⟩⟩ := a
  obtain ⟨⟨_, _⟩, _, ⟨_, _⟩⟩ := b
  have e := bytes_same h3
  simp_all

theorem ino_ext {a b : Ino} (h1 : a.id.1 = b.id.1) (h2 : a.id.2 = b.id.2) (h3 : a.kind = b.kind) (h4 : a.links = b.links) (h5 : a.mode = b.mode) (h6 : a.data.toList = b.data.toList) : a = b := by
  obtain ⟨⟨_, _⟩, _, _, _, _⟩ := a
  obtain ⟨⟨_, _⟩, _, _, _, _⟩ := b
  have e := bytes_same h6
  simp_all

theorem run_eqEnt (a b : Ent) (W : World) : (Op.equalIn 10000 36 (.agg #[.int .i64 a.dir.1, .int .i64 a.dir.2, .string a.name, .int .i64 a.ino.1, .int .i64 a.ino.2]) (.agg #[.int .i64 b.dir.1, .int .i64 b.dir.2, .string b.name, .int .i64 b.ino.1, .int .i64 b.ino.2])).run Tryz.prog W = .ok (decide (a = b)) W := by
  go_simp
  by_cases e : a = b
  · subst e
    simp
  · rw [decide_eq_false e]
    by_cases h1 : a.dir.1 = b.dir.1
    · rw [if_pos h1]
      by_cases h2 : a.dir.2 = b.dir.2
      · rw [if_pos h2]
        by_cases h3 : a.name.toList = b.name.toList
        · rw [if_pos h3]
          by_cases h4 : a.ino.1 = b.ino.1
          · rw [if_pos h4]
            by_cases h5 : a.ino.2 = b.ino.2
            · exact absurd (ent_ext h1 h2 h3 h4 h5) e
            · simp [h5]
          · rw [if_neg h4]
        · rw [if_neg h3]
      · rw [if_neg h2]
    · rw [if_neg h1]

theorem run_eqIno (a b : Ino) (W : World) : (Op.equalIn 10000 47 (.agg #[.int .i64 a.id.1, .int .i64 a.id.2, .int .i64 a.kind, .int .i64 a.links, .int .i64 a.mode, .string a.data]) (.agg #[.int .i64 b.id.1, .int .i64 b.id.2, .int .i64 b.kind, .int .i64 b.links, .int .i64 b.mode, .string b.data])).run Tryz.prog W = .ok (decide (a = b)) W := by
  go_simp
  by_cases e : a = b
  · subst e
    simp
  · rw [decide_eq_false e]
    by_cases h1 : a.id.1 = b.id.1
    · rw [if_pos h1]
      by_cases h2 : a.id.2 = b.id.2
      · rw [if_pos h2]
        by_cases h3 : a.kind = b.kind
        · rw [if_pos h3]
          by_cases h4 : a.links = b.links
          · rw [if_pos h4]
            by_cases h5 : a.mode = b.mode
            · rw [if_pos h5]
              by_cases h6 : a.data.toList = b.data.toList
              · exact absurd (ino_ext h1 h2 h3 h4 h5 h6) e
              · simp [h6]
            · rw [if_neg h5]
          · rw [if_neg h4]
        · rw [if_neg h3]
      · rw [if_neg h2]
    · rw [if_neg h1]

end Go.Proofs.YthobfeohgeeofaaGreat

/-
  The walks of the document's own Entries and Nodes: are two lists the same?
-/
namespace Go.Proofs.YthobfeohgeeofaaGreat
open Go.RowKit StampMath GraphMath

theorem same_no_len {α : Type} [DecidableEq α] {xs ys : List α} (h : xs.length ≠ ys.length) : decide (xs = ys) = false := decide_eq_false fun e => h (by rw [e])
theorem same_no {α : Type} [DecidableEq α] {xs ys : List α} {k : Nat} (h1 : k < xs.length) (h2 : k < ys.length) (h : ¬ xs[k] = ys[k]) : decide (xs = ys) = false :=
  decide_eq_false fun e => h (by subst e; rfl)
theorem same_yes {α : Type} [DecidableEq α] {xs ys : List α} (hl : xs.length = ys.length) (h : ∀ k (h1 : k < xs.length) (h2 : k < ys.length), xs[k] = ys[k]) : decide (xs = ys) = true :=
  decide_eq_true (List.ext_getElem hl h)

set_option maxRecDepth 100000 in
set_option maxHeartbeats 1600000 in
theorem refEnts (A A' : Option Addr) (n c m d : Nat) (X Y : List Ent) (hn : n ≤ 1000) (hm : m ≤ 1000) (w : World) (h : EntsIn w w.heap.size A n X) (h' : EntsIn w w.heap.size A' m Y) :
    Calls Tryz.prog 27 #[.slice A n c, .slice A' m d] w fun e w' => e = .returned (.bool (decide (X = Y))) ∧ Below w.heap.size w w' := by
  have hl := h.len
  have hl' := h'.len
  have HX : Hid (EntsIn w w.heap.size A n X) := h
  have HY : Hid (EntsIn w w.heap.size A' m Y) := h'
  clear h h'
  by_cases hnm : n = m
  · subst hnm
    go_enter Tryz.func27, Tryz.ntmps27
    go_wp2_with fail
    go_loopg [5] (n + 1) (fun gk i wr => ∃ k : Nat, i = .int .i64 (k : Int) ∧ gk + k = n + 1 ∧ k ≤ n ∧ Hid (∀ j (h1 : j < X.length) (h2 : j < Y.length), j < k → X[j] = Y[j]) ∧ Below w.heap.size w wr)
    case atStart => exact ⟨0, rfl, by omega, by omega, fun _ _ _ hj => absurd hj (by omega), Below.refl _ _⟩
    case round =>
      obtain ⟨k, rfl, hgk, hk, hall, hB⟩ := hrel
      by_cases hlt : k < n
      · obtain ⟨gi, o, rfl, hg, hrow⟩ := HX.out.row (by omega)
        obtain ⟨gi', o', rfl, hg', hrow'⟩ := HY.out.row (by omega)
        obtain ⟨e0, e1, e2, e3, e4⟩ := (hrow k (by omega)).below hB hg
        obtain ⟨d0, d1, d2, d3, d4⟩ := (hrow' k (by omega)).below hB hg'
        have hr := run_eqEnt X[k] Y[k]
        clear hrow hrow'
        by_cases hq : X[k] = Y[k]
        · rw [decide_eq_true hq] at hr
          have HA : Hid (∀ j (h1 : j < X.length) (h2 : j < Y.length), j < k + 1 → X[j] = Y[j]) := fun j h1 h2 hj => by
            by_cases e : j = k
            · subst e; exact hq
            · exact hall.out j h1 h2 (by omega)
          clear hq hall
          go_wp2_with fail
          go_quiet (fail)
          go_wp2_with fail
          go_roundg (gk - 1)
          case measure => omega
          case rel => exact ⟨k + 1, by go_num, by omega, by omega, HA.out, below_drewN' hB _⟩
        · rw [decide_eq_false hq] at hr
          have HA : Hid (decide (X = Y) = false) := same_no (by omega) (by omega) hq
          clear hq hall
          go_wp2_with fail
          go_quiet (fail)
          go_wp2_with fail
          go_ret
          exact ⟨by rw [HA.out]; rfl, below_drewN' hB _⟩
      · have HA : Hid (decide (X = Y) = true) := same_yes (by omega) fun j h1 h2 => hall.out j h1 h2 (by omega)
        go_wp2_with fail
        go_ret
        exact ⟨by rw [HA.out]; rfl, hB⟩
  · have HA : Hid (decide (X = Y) = false) := same_no_len (by omega)
    have hnm' : ¬ (n : Int) = (m : Int) := by omega
    go_enter Tryz.func27, Tryz.ntmps27
    go_wp2_with fail
    go_ret
    exact ⟨by rw [HA.out]; rfl, Below.refl _ _⟩

set_option maxRecDepth 100000 in
set_option maxHeartbeats 1600000 in
theorem refNodes (A A' : Option Addr) (n c m d : Nat) (X Y : List Ino) (hn : n ≤ 1000) (hm : m ≤ 1000) (w : World) (h : InosIn w w.heap.size A n X) (h' : InosIn w w.heap.size A' m Y) :
    Calls Tryz.prog 24 #[.slice A n c, .slice A' m d] w fun e w' => e = .returned (.bool (decide (X = Y))) ∧ Below w.heap.size w w' := by
  have hl := h.len
  have hl' := h'.len
  have HX : Hid (InosIn w w.heap.size A n X) := h
  have HY : Hid (InosIn w w.heap.size A' m Y) := h'
  clear h h'
  by_cases hnm : n = m
  · subst hnm
    go_enter Tryz.func24, Tryz.ntmps24
    go_wp2_with fail
    go_loopg [5] (n + 1) (fun gk i wr => ∃ k : Nat, i = .int .i64 (k : Int) ∧ gk + k = n + 1 ∧ k ≤ n ∧ Hid (∀ j (h1 : j < X.length) (h2 : j < Y.length), j < k → X[j] = Y[j]) ∧ Below w.heap.size w wr)
    case atStart => exact ⟨0, rfl, by omega, by omega, fun _ _ _ hj => absurd hj (by omega), Below.refl _ _⟩
    case round =>
      obtain ⟨k, rfl, hgk, hk, hall, hB⟩ := hrel
      by_cases hlt : k < n
      · obtain ⟨gi, o, rfl, hg, hrow⟩ := HX.out.row (by omega)
        obtain ⟨gi', o', rfl, hg', hrow'⟩ := HY.out.row (by omega)
        obtain ⟨e0, e1, e2, e3, e4, e5⟩ := (hrow k (by omega)).below hB hg
        obtain ⟨d0, d1, d2, d3, d4, d5⟩ := (hrow' k (by omega)).below hB hg'
        have hr := run_eqIno X[k] Y[k]
        clear hrow hrow'
        by_cases hq : X[k] = Y[k]
        · rw [decide_eq_true hq] at hr
          have HA : Hid (∀ j (h1 : j < X.length) (h2 : j < Y.length), j < k + 1 → X[j] = Y[j]) := fun j h1 h2 hj => by
            by_cases e : j = k
            · subst e; exact hq
            · exact hall.out j h1 h2 (by omega)
          clear hq hall
          go_wp2_with fail
          go_quiet (fail)
          go_wp2_with fail
          go_roundg (gk - 1)
          case measure => omega
          case rel => exact ⟨k + 1, by go_num, by omega, by omega, HA.out, below_drewN' hB _⟩
        · rw [decide_eq_false hq] at hr
          have HA : Hid (decide (X = Y) = false) := same_no (by omega) (by omega) hq
          clear hq hall
          go_wp2_with fail
          go_quiet (fail)
          go_wp2_with fail
          go_ret
          exact ⟨by rw [HA.out]; rfl, below_drewN' hB _⟩
      · have HA : Hid (decide (X = Y) = true) := same_yes (by omega) fun j h1 h2 => hall.out j h1 h2 (by omega)
        go_wp2_with fail
        go_ret
        exact ⟨by rw [HA.out]; rfl, hB⟩
  · have HA : Hid (decide (X = Y) = false) := same_no_len (by omega)
    have hnm' : ¬ (n : Int) = (m : Int) := by omega
    go_enter Tryz.func24, Tryz.ntmps24
    go_wp2_with fail
    go_ret
    exact ⟨by rw [HA.out]; rfl, Below.refl _ _⟩

end Go.Proofs.YthobfeohgeeofaaGreat

/-
  Rows that a call has told, in a later world.
-/
namespace Go.Proofs.YthobfeohgeeofaaGreat
open Go.RowKit StampMath GraphMath OpMath

theorem InosIn.later {W W' : World} {A : Option Addr} {n : Nat} {I : List Ino} (h : InosIn W W.heap.size A n I) (hb : Below W.heap.size W W') : InosIn W' W'.heap.size A n I := (h.below hb).more hb.size
theorem EntsIn.later {W W' : World} {A : Option Addr} {n : Nat} {E : List Ent} (h : EntsIn W W.heap.size A n E) (hb : Below W.heap.size W W') : EntsIn W' W'.heap.size A n E := (h.below hb).more hb.size

end Go.Proofs.YthobfeohgeeofaaGreat
