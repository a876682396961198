/-
  The walk of the statements' want: a deed, as the document has it.
-/
import Derived.Test.YthobfeohgeeofaaZ12
import Derived.Test.YthobfeohgeeofaaGraphRefSetWZ
import Derived.Test.YthobfeohgeeofaaZ09
import Derived.Test.YthobfeohgeeofaaZ08
import Derived.Test.YthobfeohgeeofaaGraphRefNewZ
namespace Go.Proofs.Ythobfeohgeeofaa
open Go.RowKit StampMath GraphMath OpMath

theorem GrAt.form {N : Nat → Prop} {W : World} {v : Value} {g : Gr} (h : GrAt N W v g) : ∃ (A : Option Addr) (n c : Nat) (A' : Option Addr) (m d : Nat), v = .agg #[.slice A n c, .slice A' m d] := by
  obtain ⟨A, n, c, A', m, d, h1, _⟩ := h
  exact ⟨A, n, c, A', m, d, h1⟩

/-- The answer is laid into its box. -/
theorem want_put {N : Nat → Prop} {w W w1 : World} {v : Value} {g : Gr} {b : Nat} (hb : w.heap.size ≤ b) (hW : W.heap.size = b + 1) (hB : Below w.heap.size w W) (h : GrAt (MoreN (fun i => N i ∧ i < w.heap.size) W) w1 v g ∧ Below W.heap.size W w1) (x y : Value) :
    GrAt (MoreN N w) ((w1.setCell ⟨b, 0, none⟩ x).setCell ⟨b, 1, none⟩ y) v g ∧ Below w.heap.size w ((w1.setCell ⟨b, 0, none⟩ x).setCell ⟨b, 1, none⟩ y) := by
  refine ⟨h.1.keep (fun i hi => ?_) (by simp) (fun i hi => hi.elim (fun q => .inl q.1) fun q => .inr (Nat.le_trans (by omega) q)), ((hB.trans (h.2.mono (by omega))).setCell hb _).setCell hb _⟩
  have hne : i ≠ b := by
    rcases hi with hi | hi
    · have := hi.2; omega
    · omega
  rw [heap_setCell_other _ _ _ _ hne, heap_setCell_other _ _ _ _ hne]

theorem want_alloc {N : Nat → Prop} {W w' : World} {v : Value} {g : Gr} (h : GrAt N w' v g ∧ Below W.heap.size W w') (o : Obj) : GrAt N (w'.alloc o) v g ∧ Below W.heap.size W (w'.alloc o) :=
  ⟨h.1.step ((Below.refl _ _).alloc (Nat.le_refl _) o), h.2.alloc h.2.size o⟩

set_option maxRecDepth 100000 in
set_option maxHeartbeats 1600000 in
theorem want_any (N : Nat → Prop) (v : Value) (g : Gr) (d : Dd) (hg : g.ok) (hs : d.e.name.size ≤ 9223372036854775807) (w : World) (hv : GrAt N w v g) :
    Calls Try.prog 12 #[v, .agg (ddA d)] w (GrPost N (doG g d) w) := by
  have hn : g.I.length ≤ 1000 := Nat.le_trans hg.few (by decide)
  have hm : g.E.length ≤ 1000 := Nat.le_trans hg.entsFew (by decide)
  have h0 : 0 < g.I.length := by
    obtain ⟨x, hx, _⟩ := hg.root
    exact List.length_pos_of_mem hx
  obtain ⟨A, n, c, A', m, dd, rfl⟩ := hv.form
  have hbox : Below w.heap.size w (((w.alloc (.cells #[.slice A n c, .slice A' m dd] 33)).alloc (.cells (ddA d) 38)).alloc (.cells #[.slice none 0 0, .slice none 0 0] 33)) := (((Below.refl w.heap.size w).alloc (Nat.le_refl _) _).alloc (by simp) _).alloc (by simp; omega) _
  have hv2 := hv.live.step (N' := fun i => N i ∧ i < w.heap.size) hbox
  have hx := heap_alloc_new ((w.alloc (.cells #[.slice A n c, .slice A' m dd] 33)).alloc (.cells (ddA d) 38)) (.cells #[.slice none 0 0, .slice none 0 0] 33)
  rw [World.size_alloc, World.size_alloc] at hx
  have HX := Lib.hid hx
  clear hx
  have HB := Lib.hid hbox
  rcases dd_kinds d with ⟨k, b0⟩ | ⟨k0, k, b0, b1⟩ | ⟨k0, k1, k, b0, b1, b2⟩ | ⟨k0, k1, k2, k, b0, b1, b2, b3⟩ | ⟨k0, k1, k2, k3, b0, b1, b2, b3⟩
  · have e : doG g d = makeG g d.e.ino d.kof := by unfold doG; rw [if_pos k]
    rw [e]
    have HC := Lib.hid (refMake (fun i => N i ∧ i < w.heap.size) _ g d.e.ino d.kof hn hm _ hv2)
    clear k e hv hv2 hg hs hn hm h0 hbox
    unfold ddA at HC ⊢
    try unfold UntPost at HC
    try unfold stA at HC
    unfold GrPost
    go_enter Try.func12, Try.ntmps12
    go_wp2_with fail
    refine HC.out.mono ?_
    rintro z w1 ⟨v, rfl, q⟩
    obtain ⟨A2, n2, c2, A3, m2, d2, rfl⟩ := q.1.form
    have hx1 := (q.2.block _ (heap_lt HX.out)).trans HX.out
    have hz := heap_lt hx1
    obtain ⟨m0, m1⟩ := two_cells hx1
    obtain ⟨f0, f1⟩ := two_free hx1
    have q2 := Lib.hid (want_put (N := N) (b := w.heap.size + 1 + 1) (by omega) (by simp) HB.out q (.slice A2 n2 c2) (.slice A3 m2 d2))
    clear q HC hx1
    go_wp2_with fail
    exact bodyPost_ret (v := .tuple #[.agg #[.slice A2 n2 c2, .slice A3 m2 d2], .int .i64 (makeG g d.e.ino d.kof).2]) (by simp [results, Try.results12, go_sem, m0, m1]) rfl ⟨_, rfl, q2.out⟩
  · have e : doG g d = tieG (nameB d.e.name) g d.e := by unfold doG; rw [if_neg k0, if_pos k]
    rw [e]
    have HC := Lib.hid (refTie (fun i => N i ∧ i < w.heap.size) _ g d.e hn hm hs _ hv2)
    clear k0 k e hv hv2 hg hs hn hm h0 hbox
    unfold ddA at HC ⊢
    try unfold UntPost at HC
    try unfold stA at HC
    unfold GrPost
    go_enter Try.func12, Try.ntmps12
    go_wp2_with fail
    refine HC.out.mono ?_
    rintro z w1 ⟨v, rfl, q⟩
    obtain ⟨A2, n2, c2, A3, m2, d2, rfl⟩ := q.1.form
    have hx1 := (q.2.block _ (heap_lt HX.out)).trans HX.out
    have hz := heap_lt hx1
    obtain ⟨m0, m1⟩ := two_cells hx1
    obtain ⟨f0, f1⟩ := two_free hx1
    have q2 := Lib.hid (want_put (N := N) (b := w.heap.size + 1 + 1) (by omega) (by simp) HB.out q (.slice A2 n2 c2) (.slice A3 m2 d2))
    clear q HC hx1
    go_wp2_with fail
    exact bodyPost_ret (v := .tuple #[.agg #[.slice A2 n2 c2, .slice A3 m2 d2], .int .i64 (tieG (nameB d.e.name) g d.e).2]) (by simp [results, Try.results12, go_sem, m0, m1]) rfl ⟨_, rfl, q2.out⟩
  · have e : doG g d = ((untieG g d.e.dir d.e.name).1, (untieG g d.e.dir d.e.name).2.2) := by unfold doG; rw [if_neg k0, if_neg k1, if_pos k]
    rw [e]
    have HC := Lib.hid (refUntie (fun i => N i ∧ i < w.heap.size) _ g d.e.dir d.e.name hm _ hv2)
    clear k0 k1 k e hv hv2 hg hs hn hm h0 hbox
    unfold ddA at HC ⊢
    try unfold UntPost at HC
    try unfold stA at HC
    unfold GrPost
    go_enter Try.func12, Try.ntmps12
    go_wp2_with fail
    refine HC.out.mono ?_
    rintro z w1 ⟨v, rfl, q⟩
    obtain ⟨A2, n2, c2, A3, m2, d2, rfl⟩ := q.1.form
    have hx1 := (q.2.block _ (heap_lt HX.out)).trans HX.out
    have hz := heap_lt hx1
    obtain ⟨m0, m1⟩ := two_cells hx1
    obtain ⟨f0, f1⟩ := two_free hx1
    have q3 := want_alloc (want_alloc q (.cells #[.slice A2 n2 c2, .slice A3 m2 d2] 33)) (.cells #[.int .i64 (untieG g d.e.dir d.e.name).2.1.1, .int .i64 (untieG g d.e.dir d.e.name).2.1.2] 24)
    have q2 := Lib.hid (want_put (N := N) (b := w.heap.size + 1 + 1) (by omega) (by simp) HB.out q3 (.slice A2 n2 c2) (.slice A3 m2 d2))
    have hx3 : ((w1.alloc (.cells #[.slice A2 n2 c2, .slice A3 m2 d2] 33)).alloc (.cells #[.int .i64 (untieG g d.e.dir d.e.name).2.1.1, .int .i64 (untieG g d.e.dir d.e.name).2.1.2] 24)).heap[w.heap.size + 1 + 1]? = _ := (heap_alloc_old _ _ (by simp; omega)).trans ((heap_alloc_old _ _ hz).trans hx1)
    obtain ⟨m2', m3'⟩ := two_cells hx3
    obtain ⟨f2', f3'⟩ := two_free hx3
    clear q3 hx3
    clear q HC hx1
    go_wp2_with fail
    exact bodyPost_ret (v := .tuple #[.agg #[.slice A2 n2 c2, .slice A3 m2 d2], .int .i64 (((untieG g d.e.dir d.e.name).1, (untieG g d.e.dir d.e.name).2.2)).2]) (by simp [results, Try.results12, go_sem, m2', m3']) rfl ⟨_, rfl, q2.out⟩
  · have e : doG g d = dropG g d.e.ino := by unfold doG; rw [if_neg k0, if_neg k1, if_neg k2, if_pos k]
    rw [e]
    have HC := Lib.hid (refDrop (fun i => N i ∧ i < w.heap.size) _ g d.e.ino hn hm _ hv2)
    clear k0 k1 k2 k e hv hv2 hg hs hn hm h0 hbox
    unfold ddA at HC ⊢
    try unfold UntPost at HC
    try unfold stA at HC
    unfold GrPost
    go_enter Try.func12, Try.ntmps12
    go_wp2_with fail
    refine HC.out.mono ?_
    rintro z w1 ⟨v, rfl, q⟩
    obtain ⟨A2, n2, c2, A3, m2, d2, rfl⟩ := q.1.form
    have hx1 := (q.2.block _ (heap_lt HX.out)).trans HX.out
    have hz := heap_lt hx1
    obtain ⟨m0, m1⟩ := two_cells hx1
    obtain ⟨f0, f1⟩ := two_free hx1
    have q2 := Lib.hid (want_put (N := N) (b := w.heap.size + 1 + 1) (by omega) (by simp) HB.out q (.slice A2 n2 c2) (.slice A3 m2 d2))
    clear q HC hx1
    go_wp2_with fail
    exact bodyPost_ret (v := .tuple #[.agg #[.slice A2 n2 c2, .slice A3 m2 d2], .int .i64 (dropG g d.e.ino).2]) (by simp [results, Try.results12, go_sem, m0, m1]) rfl ⟨_, rfl, q2.out⟩
  · have e : doG g d = setG g d.e.ino d.mode d.data := by unfold doG; rw [if_neg k0, if_neg k1, if_neg k2, if_neg k3]
    rw [e]
    have HC := Lib.hid (refSet (fun i => N i ∧ i < w.heap.size) _ g d.e.ino d.mode d.data h0 hn hm _ hv2)
    clear k0 k1 k2 k3 e hv hv2 hg hs hn hm h0 hbox
    unfold ddA at HC ⊢
    try unfold UntPost at HC
    try unfold stA at HC
    unfold GrPost
    go_enter Try.func12, Try.ntmps12
    go_wp2_with fail
    refine HC.out.mono ?_
    rintro z w1 ⟨v, rfl, q⟩
    obtain ⟨A2, n2, c2, A3, m2, d2, rfl⟩ := q.1.form
    have hx1 := (q.2.block _ (heap_lt HX.out)).trans HX.out
    have hz := heap_lt hx1
    obtain ⟨m0, m1⟩ := two_cells hx1
    obtain ⟨f0, f1⟩ := two_free hx1
    have q2 := Lib.hid (want_put (N := N) (b := w.heap.size + 1 + 1) (by omega) (by simp) HB.out q (.slice A2 n2 c2) (.slice A3 m2 d2))
    clear q HC hx1
    go_wp2_with fail
    exact bodyPost_ret (v := .tuple #[.agg #[.slice A2 n2 c2, .slice A3 m2 d2], .int .i64 (setG g d.e.ino d.mode d.data).2]) (by simp [results, Try.results12, go_sem, m0, m1]) rfl ⟨_, rfl, q2.out⟩

end Go.Proofs.Ythobfeohgeeofaa
