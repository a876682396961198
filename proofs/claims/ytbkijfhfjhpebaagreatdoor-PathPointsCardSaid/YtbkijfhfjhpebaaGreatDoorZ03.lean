/-
  The landed path: a part down, or up.
-/
import Derived.Test.YtbkijfhfjhpebaaGreatDoorZ02
import Derived.Deep.LoopGhost
import Derived.Shelf.SlicesQ.IndexFunc
import Derived.Shelf.SlicesE.DeleteFunc
import Derived.Test.YtbkijfhfjhpebaaGreatDoorZ00
import Derived.Test.YtbkijfhfjhpebaaGreatDoorZ01
import Derived.Test.YtbkijfhfjhpebaaGreatDoorRows
import Derived.Deep.RegionHeld3
import Derived.Sort.Grow
import Derived.Sort.Statements
import Derived.Shelf.SlSortCmp.Insertion
namespace Go.Proofs.YtbkijfhfjhpebaaGreatDoor
open Go.Shelf Go.RowKit StampMath GraphMath OpMath

theorem StrsOff.but {b : Nat} {W W' : World} {A : Option Addr} {n : Nat} {xs : List (List UInt8)} (h : StrsOff b W A n xs) (hb : But (fun i => i = b) W W') : StrsOff b W' A n xs :=
  ⟨h.1, fun hn => by
    obtain ⟨g, o, e, hg, hne, hc⟩ := h.2 hn
    exact ⟨g, o, e, Nat.lt_of_lt_of_le hg hb.size, hne, fun j hj => hb.cell (p := ⟨g, o + j, none⟩) (hc j hj) hne⟩⟩

/-- Who goes the way, over a graph: what was come to, what is left, the links that were followed. -/
structure WalkIn (H : GraphHave) (a : Addr) (S : Nat → Prop) (g : Gr) (b : Nat) (s : Spt) (l : List Bs) (m : Int) (W : World) : Prop where
  box : ∃ (A : Option Addr) (c : Nat), W.heap[b]? = some (.cells (walkA a s A l.length c m) 75 (0, 0)) ∧ StrsOff b W A l.length l ∧ l.length ≤ c ∧ c ≤ maxLen ∧ (A = none → c = 0)
  rep : H.rep W S a g
  off : ¬ S b

section
variable {H : GraphHave} {a : Addr} {S : Nat → Prop} {g : Gr} {b : Nat} {s s' : Spt} {l l' : List Bs} {m m' : Int} {W W' : World}

theorem WalkIn.below (h : WalkIn H a S g b s l m W) (hb : Below W.heap.size W W') : WalkIn H a S g b s l m W' := by
  obtain ⟨⟨A, c, h1, h2, h3⟩, h4, h5⟩ := h
  exact ⟨⟨A, c, (hb.block _ (heap_lt h1)).trans h1, h2.below hb, h3⟩, rep_below h4 hb, h5⟩

theorem WalkIn.lt (h : WalkIn H a S g b s l m W) : b < W.heap.size := by
  obtain ⟨⟨A, c, h1, _⟩, _⟩ := h
  exact heap_lt h1

theorem WalkIn.put {A : Option Addr} {c : Nat} (h : WalkIn H a S g b s l m W) (hb : But (fun i => i = b) W W') (h1 : W'.heap[b]? = some (.cells (walkA a s' A l'.length c m') 75 (0, 0))) (h2 : StrsOff b W' A l'.length l') (h3 : l'.length ≤ c ∧ c ≤ maxLen ∧ (A = none → c = 0)) : WalkIn H a S g b s' l' m' W' :=
  ⟨⟨A, c, h1, h2, h3⟩, H.keep h.rep fun i hi => hb.block i (H.lt h.rep i hi) fun e => h.off (e ▸ hi), h.off⟩

end

/-- The spot of who goes is written. -/
theorem walk_spot {W : World} {b : Nat} {a : Addr} {s : Spt} {A : Option Addr} {n c : Nat} {m : Int} {T : TypeId} (h : W.heap[b]? = some (.cells (walkA a s A n c m) T (0, 0))) (t : Spt) :
    ((((((W.setCell ⟨b, 1, none⟩ (.int .i64 t.at_.1)).setCell ⟨b, 2, none⟩ (.int .i64 t.at_.2)).setCell ⟨b, 3, none⟩ (.string t.name)).setCell ⟨b, 4, none⟩ (.int .i64 t.ino.1)).setCell ⟨b, 5, none⟩ (.int .i64 t.ino.2)).setCell ⟨b, 6, none⟩ (.bool t.there)).heap[b]? = some (.cells (walkA a t A n c m) T (0, 0)) := by
  rw [heap_setCell_same _ _ _ _ _ _ (heap_setCell_same _ _ _ _ _ _ (heap_setCell_same _ _ _ _ _ _ (heap_setCell_same _ _ _ _ _ _ (heap_setCell_same _ _ _ _ _ _ (heap_setCell_same _ _ _ _ _ _ h)))))]
  rfl

theorem But.six {b : Nat} {w W : World} (h : But (fun i => i = b) w W) (t : Spt) :
    But (fun i => i = b) w ((((((W.setCell ⟨b, 1, none⟩ (.int .i64 t.at_.1)).setCell ⟨b, 2, none⟩ (.int .i64 t.at_.2)).setCell ⟨b, 3, none⟩ (.string t.name)).setCell ⟨b, 4, none⟩ (.int .i64 t.ino.1)).setCell ⟨b, 5, none⟩ (.int .i64 t.ino.2)).setCell ⟨b, 6, none⟩ (.bool t.there)) :=
  (((((h.setCell (.inl rfl) _).setCell (.inl rfl) _).setCell (.inl rfl) _).setCell (.inl rfl) _).setCell (.inl rfl) _).setCell (.inl rfl) _

/-- What a step of who goes leaves: another spot. -/
theorem WalkIn.spot {H : GraphHave} {a : Addr} {S : Nat → Prop} {g : Gr} {b : Nat} {s : Spt} {l : List Bs} {m : Int} {W : World} (h : WalkIn H a S g b s l m W) (t : Spt) :
    WalkIn H a S g b t l m ((((((W.setCell ⟨b, 1, none⟩ (.int .i64 t.at_.1)).setCell ⟨b, 2, none⟩ (.int .i64 t.at_.2)).setCell ⟨b, 3, none⟩ (.string t.name)).setCell ⟨b, 4, none⟩ (.int .i64 t.ino.1)).setCell ⟨b, 5, none⟩ (.int .i64 t.ino.2)).setCell ⟨b, 6, none⟩ (.bool t.there)) := by
  obtain ⟨A, c, h1, h2, h3⟩ := h.box
  exact h.put ((But.refl _ _).six t) (walk_spot h1 t) (h2.but ((But.refl _ _).six t)) h3

/-- The links' number of who goes is written. -/
theorem WalkIn.count {H : GraphHave} {a : Addr} {S : Nat → Prop} {g : Gr} {b : Nat} {s : Spt} {l : List Bs} {m : Int} {W : World} (h : WalkIn H a S g b s l m W) (k : Int) : WalkIn H a S g b s l k (W.setCell ⟨b, 8, none⟩ (.int .i64 k)) ∧ But (fun i => i = b) W (W.setCell ⟨b, 8, none⟩ (.int .i64 k)) := by
  obtain ⟨A, c, h1, h2, h3⟩ := h.box
  have hb : But (fun i => i = b) W (W.setCell ⟨b, 8, none⟩ (.int .i64 k)) := (But.refl (fun i => i = b) W).setCell (p := ⟨b, _, none⟩) (.inl rfl) _
  exact ⟨h.put hb (by rw [heap_setCell_same _ _ _ _ _ _ h1]; rfl) (h2.but hb) h3, hb⟩

/-- What is left of who goes is written. -/
theorem WalkIn.rest {H : GraphHave} {a : Addr} {S : Nat → Prop} {g : Gr} {b : Nat} {s : Spt} {l l' : List Bs} {m : Int} {W : World} (h : WalkIn H a S g b s l m W) (A : Option Addr) (c : Nat) (h2 : StrsOff b W A l'.length l') (h3 : l'.length ≤ c ∧ c ≤ maxLen ∧ (A = none → c = 0)) :
    WalkIn H a S g b s l' m (W.setCell ⟨b, 7, none⟩ (.slice A l'.length c)) ∧ But (fun i => i = b) W (W.setCell ⟨b, 7, none⟩ (.slice A l'.length c)) := by
  obtain ⟨A0, c0, h1, _⟩ := h.box
  have hb : But (fun i => i = b) W (W.setCell ⟨b, 7, none⟩ (.slice A l'.length c)) := (But.refl (fun i => i = b) W).setCell (p := ⟨b, _, none⟩) (.inl rfl) _
  exact ⟨h.put hb (by rw [heap_setCell_same _ _ _ _ _ _ h1]; rfl) (h2.but hb) h3, hb⟩

/-- What a part leads to, in a directory. -/
def partS (g : Gr) (d : St) (x : Bs) : Spt := if x = [46, 46] then upS ((parentG g d).getD (0, 0)) else ⟨d, GraphMath.bytes x, (lookE g.E d (GraphMath.bytes x)).getD (0, 0), (lookE g.E d (GraphMath.bytes x)).isSome⟩

set_option maxRecDepth 100000 in
set_option maxHeartbeats 3200000 in
theorem step_code (H : GraphHave) (a : Addr) (S : Nat → Prop) (g : Gr) (s : Spt) (b : Nat) (x : Bs) (r : List Bs) (m : Int) (d : St) (w : World) (hg : g.fine) (hd : kindG g d = 1) (hx : x.length ≤ 100) (h : WalkIn H a S g b s (x :: r) m w) :
    Calls Tryz.prog 52 #[.pointer (some ⟨b, 0, none⟩), .agg (stA d)] w fun e w' => e = .returned (.tuple #[]) ∧ WalkIn H a S g b (partS g d x) r m w' ∧ But (fun i => i = b) w w' := by
  obtain ⟨d1, d2⟩ := d
  obtain ⟨u, hu⟩ : ∃ u, u = w.heap.size := ⟨_, rfl⟩
  obtain ⟨k, hk⟩ : ∃ k, k = (x :: r).length := ⟨_, rfl⟩
  have hlb := h.lt
  have hW0 := h.below ((Below.refl w.heap.size w).alloc (Nat.le_refl _) (.cells #[.int .i64 d1, .int .i64 d2] 24))
  have hN0 := heap_alloc_new w (.cells #[.int .i64 d1, .int .i64 d2] 24)
  have hB0 : But (fun i => i = b) w (w.alloc (.cells #[.int .i64 d1, .int .i64 d2] 24)) := (But.refl _ _).alloc _
  unfold stA
  dsimp only
  clear h
  go_enter Tryz.func52, Tryz.ntmps52
  go_upto_region 1 with fail
  change Code.wp _ _ _ _ (w.alloc (.cells #[.int .i64 d1, .int .i64 d2] 24))
  generalize w.alloc (.cells #[.int .i64 d1, .int .i64 d2] 24) = w0 at hW0 hN0 hB0 ⊢
  rw [← hu] at hN0 ⊢
  have hlu : w.heap.size ≤ u := by omega
  have hbu : b < u := by omega
  clear hlb hu
  obtain ⟨A, c, hb0, hs0, hc1, hc2, hc3⟩ := hW0.box
  rw [← hk] at hb0 hs0 hc1
  obtain ⟨ga, o, rfl, hga, hne, hcell⟩ := hs0.2 (by rw [hk]; simp)
  have hx0 := hcell 0 (by simp)
  rw [Nat.add_zero] at hx0
  change _ = some (Value.string (GraphMath.bytes x)) at hx0
  obtain ⟨c0, c1, c2, c3, c4, c5, c6, c7, c8⟩ := walk_cells hb0
  obtain ⟨f1, f2, f3, f4, f5, f6, f7, f8⟩ := walk_free hb0
  have hk1 : (0 : Int) < (k : Int) := by rw [hk]; simp
  have hk2 : (1 : Int) ≤ (k : Int) := by omega
  have hk3 : (k : Int) ≤ (c : Int) := by omega
  have hk4 : (c : Int) ≤ maxLen := by omega
  go_upto_region 3 with fail
  generalize hA' : (if c = 1 then some (⟨ga, o, none⟩ : Addr) else some ⟨ga, o + 1, none⟩) = A'
  have hkr : k = r.length + 1 := by rw [hk]; simp
  have hS1 : StrsOff b w0 A' r.length r := ⟨rfl, fun hn => by
    refine ⟨ga, o + 1, ?_, hga, hne, fun j hj => ?_⟩
    · rw [← hA', if_neg (by omega)]
    · have q := hcell (j + 1) (by simp; omega)
      rw [show o + 1 + j = o + (j + 1) by omega]
      exact q⟩
  have hR := hW0.rest A' (c - 1) hS1 ⟨by omega, by omega, fun q => by rw [← hA'] at q; split at q <;> cases q⟩
  obtain ⟨hW1, hb1⟩ := hR
  clear c0 c1 c2 c3 c4 c5 c6 c7 c8 f1 f2 f3 f4 f5 f6 f7 f8 hk1 hk2 hk3 hk4 hx0 hcell hs0 hga hne hb0 hc1 hc2 hc3 hkr hS1 hW0 hk
  generalize w0.setCell ⟨b, 7, none⟩ (.slice A' r.length (c - 1)) = w1 at hW1 hb1 ⊢
  have hN1 := hb1.heap hN0 (by show ¬ u = b; omega)
  have B1 : But (fun i => i = b) w w1 := hB0.trans hb1 fun i hi _ => hi
  clear hb1 hN0 hB0
  obtain ⟨s0, s1⟩ := two_cells hN1
  have hlu1 : u < w1.heap.size := heap_lt hN1
  have hlb1 : b < w1.heap.size := hW1.lt
  by_cases hx2 : x = [46, 46]
  · have t : ((GraphMath.bytes x).toList == [46, 46]) = true := by rw [ByteArray.toList_eq, hx2]; rfl
    have hv : Hid (partS g (d1, d2) x = upS ((parentG g (d1, d2)).getD (0, 0))) := if_pos hx2
    obtain ⟨A1, c1, hb1, _⟩ := hW1.box
    have UP := Lib.hid (up_code H a S g s b A1 r.length c1 m (d1, d2) w1 hW1.rep hg hd hb1)
    generalize (parentG g (d1, d2)).getD (0, 0) = p at UP hv
    unfold stA sptA upS at UP
    dsimp only at UP
    have HW := Lib.hid hW1
    have HB := Lib.hid B1
    clear hx2 hb1 hW1 B1 hN1 hd
    go_wp2_with fail
    refine UP.out.mono ?_
    rintro e w2 ⟨rfl, hb2⟩
    have hW2 := HW.out.below hb2
    have B2 := HB.out.then_below hb2
    obtain ⟨A2, c2, hb3, _⟩ := hW2.box
    obtain ⟨e0, e1, e2, e3, e4, e5, e6, e7, e8⟩ := walk_cells hb3
    obtain ⟨f1, f2, f3, f4, f5, f6, f7, f8⟩ := walk_free hb3
    have F2 := Lib.hid hW2
    have G2 := Lib.hid B2
    have HV := Lib.hid hv
    clear hb2 hW2 B2 hb3 UP HW HB s0 s1 hv
    go_wp2_with fail
    refine bodyPost_ret (v := .tuple #[]) (results_none rfl _ _ _) rfl ⟨rfl, ?_, ?_⟩
    · rw [HV.out.out]; exact F2.out.spot (upS p)
    · exact G2.out.six (upS p)
  · have t : ((GraphMath.bytes x).toList == [46, 46]) = false := by rw [ByteArray.toList_eq]; exact beq_eq_false_iff_ne.2 hx2
    have hv : partS g (d1, d2) x = ⟨(d1, d2), GraphMath.bytes x, (lookE g.E (d1, d2) (GraphMath.bytes x)).getD (0, 0), (lookE g.E (d1, d2) (GraphMath.bytes x)).isSome⟩ := if_neg hx2
    have LK : Hid (∀ W : World, Below w1.heap.size w1 W → Calls Tryz.prog 15 #[.pointer (some a), .agg #[.int .i64 d1, .int .i64 d2], .string (GraphMath.bytes x)] W fun e w' => e = .returned (.tuple #[.agg (stA ((lookE g.E (d1, d2) (GraphMath.bytes x)).getD (0, 0))), .bool (lookE g.E (d1, d2) (GraphMath.bytes x)).isSome]) ∧ Below W.heap.size W w') := Lib.hid fun W hW => H.look a S g (d1, d2) (GraphMath.bytes x) W (rep_below hW1.rep hW) hg.ok (by show x.length ≤ maxLen; unfold maxLen; omega)
    generalize (lookE g.E (d1, d2) (GraphMath.bytes x)).getD (0, 0) = y at LK hv
    generalize (lookE g.E (d1, d2) (GraphMath.bytes x)).isSome = th at LK hv
    generalize GraphMath.bytes x = nm at LK hv t ⊢
    unfold stA at LK
    obtain ⟨A1, c1, hb1, _⟩ := hW1.box
    obtain ⟨e0, e1, e2, e3, e4, e5, e6, e7, e8⟩ := walk_cells hb1
    have HW := Lib.hid hW1
    have HB := Lib.hid B1
    have HN := Lib.hid hN1
    have HV := Lib.hid hv
    clear hx2 hb1 hW1 B1 hN1 hd hv e1 e2 e3 e4 e5 e6 e7 e8
    go_wp2_with fail
    go_region_with (first
      | (go_at_call 15; (with_reducible refine (LK.out _ ((Below.refl _ _).alloc (Nat.le_refl _) _).drew).mono ?_); rintro e w2 ⟨rfl, hb2⟩; have hN := (new_behind hb2).1; obtain ⟨n0, n1⟩ := two_cells hN; obtain ⟨m0, m1⟩ := two_free hN)
      | (go_at_call 15; (with_reducible refine (LK.out _ (by first | exact Below.refl _ _ | exact (Below.refl _ _).drew)).mono ?_); rintro e w2 ⟨rfl, hb2⟩))
    all_goals
      clear LK
      first
      | (have K3 : Below w1.heap.size w1 (w2.alloc (.cells #[.int .i64 y.1, .int .i64 y.2] 24)) := by
           have q := below_step (Below.refl w1.heap.size w1).drew hb2
           exact q.alloc q.size _
         have hV := heap_alloc_new w2 (.cells #[.int .i64 y.1, .int .i64 y.2] 24)
         generalize w2.alloc (.cells #[.int .i64 y.1, .int .i64 y.2] 24) = w3 at K3 hV ⊢
         obtain ⟨k0, k1⟩ := two_cells hV
         clear s0 s1 e0 hb2 hV
         have F3 := Lib.hid (HW.out.below K3)
         have G3 := Lib.hid (HB.out.then_below K3)
         have N3 := (K3.block u hlu1).trans HN.out
         obtain ⟨s0, s1⟩ := two_cells N3
         obtain ⟨A2, c2, hb3, _⟩ := F3.out.box
         obtain ⟨e0, e1, e2, e3, e4, e5, e6, e7, e8⟩ := walk_cells hb3
         obtain ⟨f1, f2, f3, f4, f5, f6, f7, f8⟩ := walk_free hb3
         clear K3 N3 hb3 HW HB HN
         go_wp2_with fail
         refine bodyPost_end (results_none rfl _ _ _) rfl ⟨rfl, ?_, ?_⟩
         · rw [HV.out]; exact F3.out.spot ⟨(d1, d2), nm, y, th⟩
         · exact G3.out.six ⟨(d1, d2), nm, y, th⟩)
      | (have K3 : Below w1.heap.size w1 ((w2.setCell ⟨w1.heap.size, 0, none⟩ (.int .i64 y.1)).setCell ⟨w1.heap.size, 1, none⟩ (.int .i64 y.2)) :=
           ((new_behind hb2).2.setCell (Nat.le_refl _) _).setCell (Nat.le_refl _) _
         have hV := two_put hN (.int .i64 y.1) (.int .i64 y.2)
         generalize (w2.setCell ⟨w1.heap.size, 0, none⟩ (.int .i64 y.1)).setCell ⟨w1.heap.size, 1, none⟩ (.int .i64 y.2) = w3 at K3 hV ⊢
         obtain ⟨k0, k1⟩ := two_cells hV
         clear s0 s1 e0 hb2 hV hN n0 n1 m0 m1
         have F3 := Lib.hid (HW.out.below K3)
         have G3 := Lib.hid (HB.out.then_below K3)
         have N3 := (K3.block u hlu1).trans HN.out
         obtain ⟨s0, s1⟩ := two_cells N3
         obtain ⟨A2, c2, hb3, _⟩ := F3.out.box
         obtain ⟨e0, e1, e2, e3, e4, e5, e6, e7, e8⟩ := walk_cells hb3
         obtain ⟨f1, f2, f3, f4, f5, f6, f7, f8⟩ := walk_free hb3
         clear K3 N3 hb3 HW HB HN
         go_wp2_with fail
         refine bodyPost_end (results_none rfl _ _ _) rfl ⟨rfl, ?_, ?_⟩
         · rw [HV.out]; exact F3.out.spot ⟨(d1, d2), nm, y, th⟩
         · exact G3.out.six ⟨(d1, d2), nm, y, th⟩)

end Go.Proofs.YtbkijfhfjhpebaaGreatDoor

/-
  The landed path: a link is followed.
-/
namespace Go.Proofs.YtbkijfhfjhpebaaGreatDoor
open Go.Shelf Go.RowKit StampMath GraphMath OpMath

/-- What following a link leaves. -/
def Entered (H : GraphHave) (a : Addr) (S : Nat → Prop) (g : Gr) (b : Nat) (s : Spt) (l : List Bs) (m : Int) (D : Bs) (w : World) (e : Ending) (w' : World) : Prop :=
  e = .returned (.int .i64 (if m = 40 then 9 else errP D)) ∧ But (fun i => i = b) w w' ∧ (m ≠ 40 → errP D = 0 → WalkIn H a S g b (startS s.at_ D) (partsP D ++ l) (m + 1) w')

set_option maxRecDepth 100000 in
set_option maxHeartbeats 3200000 in
theorem enter_code (H : GraphHave) (a : Addr) (S : Nat → Prop) (g : Gr) (s : Spt) (b : Nat) (l : List Bs) (m : Int) (D : ByteArray) (w : World) (hm : 0 ≤ m ∧ m ≤ 40) (hD : D.size ≤ 2000) (hl : l.length ≤ 2900) (h : WalkIn H a S g b s l m w) :
    Calls Tryz.prog 51 #[.pointer (some ⟨b, 0, none⟩), .string D] w (Entered H a S g b s l m D.data.toList w) := by
  unfold Entered
  obtain ⟨A0, n0, hb0, _⟩ := h.box
  obtain ⟨c0, c1, c2, c3, c4, c5, c6, c7, c8⟩ := walk_cells hb0
  obtain ⟨f1, f2, f3, f4, f5, f6, f7, f8⟩ := walk_free hb0
  by_cases hm40 : m = 40
  · subst hm40
    rw [if_pos rfl]
    clear h c0 c1 c2 c3 c4 c5 c6 c7 f1 f2 f3 f4 f5 f6 f7 f8 hb0
    go_enter Tryz.func51, Tryz.ntmps51
    go_wp2_with fail
    go_ret
    exact ⟨rfl, But.refl _ _, fun q => absurd rfl q⟩
  rw [if_neg hm40]
  have hz : (m == 40) = false := beq_eq_false_iff_ne.2 hm40
  have hm1 : (m + 1 + 9223372036854775808) % 18446744073709551616 - 9223372036854775808 = m + 1 := by omega
  obtain ⟨hW1, hb1⟩ := h.count (m + 1)
  have HW := Lib.hid hW1
  have HB := Lib.hid hb1
  have HS := Lib.hid (fun W => split_code D W hD)
  clear h hb0 c0 c1 c2 c3 c4 c5 c6 c7 f1 f2 f3 f4 f5 f6 f7
  go_enter Tryz.func51, Tryz.ntmps51
  go_wp2_with fail
  generalize w.setCell ⟨b, 8, none⟩ (.int .i64 (m + 1)) = w1 at HW HB ⊢
  refine (HS.out w1).mono ?_
  rintro e w2 ⟨A1, n1, c1, rfl, q1, q2, q3, q4, hb2, q5⟩
  have HW2 := Lib.hid (HW.out.below hb2)
  have HB2 := Lib.hid (HB.out.then_below hb2)
  by_cases he : errP D.data.toList ≠ 0
  · have hne : (errP D.data.toList != 0) = true := bne_iff_ne.2 he
    clear q1 q2 q3 q4 q5 hb2 HS HW HB
    go_wp2_with fail
    go_ret
    exact ⟨rfl, HB2.out, fun _ q => absurd q he⟩
  have he : errP D.data.toList = 0 := Classical.byContradiction he
  rw [he, if_pos rfl] at q1 q5
  rw [he]
  have HP := Lib.hid (q5 b HW.out.lt)
  have HQ : Hid (n1 ≤ c1 ∧ c1 ≤ maxLen ∧ (A1 = none → c1 = 0)) := ⟨q2, q3, q4⟩
  obtain ⟨A2, c2, hb3, _⟩ := HW2.out.box
  obtain ⟨e0, e1, e2, e3, e4, e5, e6, e7, e8⟩ := walk_cells hb3
  obtain ⟨v, hv⟩ : ∃ v, v = w2.heap.size := ⟨_, rfl⟩
  have hN3 := heap_alloc_new w2 (.cells #[.int .i64 s.at_.1, .int .i64 s.at_.2] 24)
  have K3 : Below w2.heap.size w2 (w2.alloc (.cells #[.int .i64 s.at_.1, .int .i64 s.at_.2] 24)) := (Below.refl _ _).alloc (Nat.le_refl _) _
  clear q1 q2 q3 q4 q5 hb2 hb3 HS HW HB
  go_wp2_with fail
  generalize w2.alloc (.cells #[.int .i64 s.at_.1, .int .i64 s.at_.2] 24) = w3 at hN3 K3 ⊢
  rw [← hv] at hN3 ⊢
  have hv2 : w2.heap.size ≤ v := Nat.le_of_eq hv.symm
  clear e0 e1 e2 e3 e4 e5 e6 e7 e8 hv
  refine (fromRoot_code D w3).mono ?_
  rintro e w4 ⟨rfl, rfl⟩
  by_cases hf : D.data.toList.head? = some 47
  · have hd : decide (D.data.toList.head? = some 47) = true := decide_eq_true hf
    rw [hd]
    have hf' : startS s.at_ D.data.toList = ⟨(0, 0), ⟨#[]⟩, (0, 0), true⟩ := by unfold startS; rw [if_pos hf]
    clear hd hf
    go_wp2_with fail
    refine (proot_code _).mono ?_
    rintro e w4 ⟨rfl, hb4⟩
    have hN4 := (hb4.block _ (heap_lt hN3)).trans hN3
    obtain ⟨k0, k1⟩ := two_cells hN4
    obtain ⟨m0, m1⟩ := two_free hN4
    have hN5 := two_put hN4 (.int .i64 0) (.int .i64 0)
    have K5 : Below w2.heap.size w2 ((w4.setCell ⟨v, 0, none⟩ (.int .i64 0)).setCell ⟨v, 1, none⟩ (.int .i64 0)) := ((below_step K3 hb4).setCell hv2 _).setCell hv2 _
    clear hN3 hN4 hb4 K3
    go_upto_region 10 with fail
    generalize (w4.setCell ⟨v, 0, none⟩ (.int .i64 0)).setCell ⟨v, 1, none⟩ (.int .i64 0) = w5 at hN5 K5 ⊢
    clear k0 k1 m0 m1
    obtain ⟨k0, k1⟩ := two_cells hN5
    clear hN5
    have hW5 := HW2.out.below K5
    have B5 := HB2.out.then_below K5
    have P5 := Lib.hid (HP.out.below K5)
    have HF := Lib.hid hf'
    obtain ⟨A2, c2, hb5, _⟩ := hW5.box
    obtain ⟨e0, e1, e2, e3, e4, e5, e6, e7, e8⟩ := walk_cells hb5
    obtain ⟨g1, g2, g3, g4, g5, g6, g7, g8⟩ := walk_free hb5
    have hW6 := hW5.spot ⟨(0, 0), ⟨#[]⟩, (0, 0), true⟩
    have B6 := B5.six ⟨(0, 0), ⟨#[]⟩, (0, 0), true⟩
    have P6 := P5.out.but ((But.refl (fun i => i = b) w5).six ⟨(0, 0), ⟨#[]⟩, (0, 0), true⟩)
    dsimp only at hW6 B6 P6
    have HW6 := Lib.hid hW6
    have HB6 := Lib.hid B6
    have HP6 := Lib.hid P6
    clear hW5 B5 P5 hb5 K5 hW6 B6 P6 hf' HW2 HB2 HP
    go_upto_region 11 with fail
    generalize ((((((w5.setCell ⟨b, 1, none⟩ (.int .i64 0)).setCell ⟨b, 2, none⟩ (.int .i64 0)).setCell ⟨b, 3, none⟩ (.string ⟨#[]⟩)).setCell ⟨b, 4, none⟩ (.int .i64 0)).setCell ⟨b, 5, none⟩ (.int .i64 0)).setCell ⟨b, 6, none⟩ (.bool true)) = w6 at HW6 HB6 HP6 ⊢
    clear e0 e1 e2 e3 e4 e5 e6 e7 e8 g1 g2 g3 g4 g5 g6 g7 g8 k0 k1
    obtain ⟨A3, c3, hb6, hs6, hc6, hc7, hc8⟩ := HW6.out.box
    obtain ⟨_, _, _, _, _, _, _, x7, _⟩ := walk_cells hb6
    have HS6 := Lib.hid hs6
    have HC6 : Hid (A3 = none → c3 = 0) := hc8
    have hbl : b < w6.heap.size := HW6.out.lt
    clear hb6 hs6 hc6 hc7 hc8
    go_wp2_with fail
    have K7 : Below w6.heap.size w6 (w6.alloc (.cells #[.slice A1 n1 c1, .slice A3 l.length c3] 46)) := (Below.refl _ _).alloc (Nat.le_refl _) _
    have hN7 := heap_alloc_new w6 (.cells #[.slice A1 n1 c1, .slice A3 l.length c3] 46)
    generalize w6.alloc (.cells #[.slice A1 n1 c1, .slice A3 l.length c3] 46) = w7 at K7 hN7 ⊢
    have hpl := parts_len D.data.toList
    have hn1 : (partsP D.data.toList).length = n1 := HP6.out.1
    have hDs : D.data.toList.length = D.size := rfl
    obtain ⟨j0, j1⟩ := two_cells hN7
    refine (concat_strs w7 w6.heap.size A1 n1 c1 (partsP D.data.toList) A3 l.length c3 l j0 j1 ((HP6.out.is.below K7).more K7.size) ((HS6.out.is.below K7).more K7.size) HQ.out.2.2 HC6.out (by omega)).mono ?_
    rintro e w8 ⟨B, cB, rfl, r1, r2, r3, r4, r5, hb8⟩
    have hbl7 : b < w7.heap.size := Nat.lt_of_lt_of_le hbl K7.size
    have hW8 := (HW6.out.below K7).below hb8
    have B8 := (HB6.out.then_below K7).then_below hb8
    have hl9 : (partsP D.data.toList ++ l).length = n1 + l.length := by rw [List.length_append, hn1]
    have hR := hW8.rest (l' := partsP D.data.toList ++ l) B cB (by rw [hl9]; exact r5 b hbl7) ⟨by rw [hl9]; exact r2, r3, r4⟩
    rw [hl9] at hR
    obtain ⟨A9, c9, hb9, _⟩ := hW8.box
    obtain ⟨_, _, _, _, _, _, _, y7, _⟩ := walk_cells hb9
    obtain ⟨_, _, _, _, _, _, z7, _⟩ := walk_free hb9
    have HR := Lib.hid hR
    have HB8 := Lib.hid B8
    clear hR hW8 B8 hb9 r1 r2 r3 r4 r5 hb8 K7 hN7 j0 j1 x7 hl9 hpl hn1 hDs
    go_wp2_with fail
    go_ret
    exact ⟨by rw [he]; rfl, HB8.out.trans HR.out.2 fun i hi _ => hi, fun _ _ => by rw [HF.out]; exact HR.out.1⟩
  · have hd : decide (D.data.toList.head? = some 47) = false := decide_eq_false hf
    rw [hd]
    have hf' : ∃ f : St, f = s.at_ ∧ startS s.at_ D.data.toList = ⟨(0, 0), ⟨#[]⟩, f, true⟩ := ⟨s.at_, rfl, by unfold startS; rw [if_neg hf]⟩
    obtain ⟨f, hf0, hf'⟩ := hf'
    have K5 := K3
    obtain ⟨k0, k1⟩ := two_cells hN3
    have k0 : w3.cell? ⟨v, 0, none⟩ = some (.int .i64 f.1) := by rw [hf0]; exact k0
    have k1 : w3.cell? ⟨v, 1, none⟩ = some (.int .i64 f.2) := by rw [hf0]; exact k1
    clear hd hf hN3 K3 hf0
    go_upto_region 10 with fail
    generalize w3 = w5 at K5 k0 k1 ⊢
    have hW5 := HW2.out.below K5
    have B5 := HB2.out.then_below K5
    have P5 := Lib.hid (HP.out.below K5)
    have HF := Lib.hid hf'
    obtain ⟨A2, c2, hb5, _⟩ := hW5.box
    obtain ⟨e0, e1, e2, e3, e4, e5, e6, e7, e8⟩ := walk_cells hb5
    obtain ⟨g1, g2, g3, g4, g5, g6, g7, g8⟩ := walk_free hb5
    have hW6 := hW5.spot ⟨(0, 0), ⟨#[]⟩, f, true⟩
    have B6 := B5.six ⟨(0, 0), ⟨#[]⟩, f, true⟩
    have P6 := P5.out.but ((But.refl (fun i => i = b) w5).six ⟨(0, 0), ⟨#[]⟩, f, true⟩)
    dsimp only at hW6 B6 P6
    have HW6 := Lib.hid hW6
    have HB6 := Lib.hid B6
    have HP6 := Lib.hid P6
    clear hW5 B5 P5 hb5 K5 hW6 B6 P6 hf' HW2 HB2 HP
    go_upto_region 11 with fail
    generalize ((((((w5.setCell ⟨b, 1, none⟩ (.int .i64 0)).setCell ⟨b, 2, none⟩ (.int .i64 0)).setCell ⟨b, 3, none⟩ (.string ⟨#[]⟩)).setCell ⟨b, 4, none⟩ (.int .i64 f.1)).setCell ⟨b, 5, none⟩ (.int .i64 f.2)).setCell ⟨b, 6, none⟩ (.bool true)) = w6 at HW6 HB6 HP6 ⊢
    clear e0 e1 e2 e3 e4 e5 e6 e7 e8 g1 g2 g3 g4 g5 g6 g7 g8 k0 k1
    obtain ⟨A3, c3, hb6, hs6, hc6, hc7, hc8⟩ := HW6.out.box
    obtain ⟨_, _, _, _, _, _, _, x7, _⟩ := walk_cells hb6
    have HS6 := Lib.hid hs6
    have HC6 : Hid (A3 = none → c3 = 0) := hc8
    have hbl : b < w6.heap.size := HW6.out.lt
    clear hb6 hs6 hc6 hc7 hc8
    go_wp2_with fail
    have K7 : Below w6.heap.size w6 (w6.alloc (.cells #[.slice A1 n1 c1, .slice A3 l.length c3] 46)) := (Below.refl _ _).alloc (Nat.le_refl _) _
    have hN7 := heap_alloc_new w6 (.cells #[.slice A1 n1 c1, .slice A3 l.length c3] 46)
    generalize w6.alloc (.cells #[.slice A1 n1 c1, .slice A3 l.length c3] 46) = w7 at K7 hN7 ⊢
    have hpl := parts_len D.data.toList
    have hn1 : (partsP D.data.toList).length = n1 := HP6.out.1
    have hDs : D.data.toList.length = D.size := rfl
    obtain ⟨j0, j1⟩ := two_cells hN7
    refine (concat_strs w7 w6.heap.size A1 n1 c1 (partsP D.data.toList) A3 l.length c3 l j0 j1 ((HP6.out.is.below K7).more K7.size) ((HS6.out.is.below K7).more K7.size) HQ.out.2.2 HC6.out (by omega)).mono ?_
    rintro e w8 ⟨B, cB, rfl, r1, r2, r3, r4, r5, hb8⟩
    have hbl7 : b < w7.heap.size := Nat.lt_of_lt_of_le hbl K7.size
    have hW8 := (HW6.out.below K7).below hb8
    have B8 := (HB6.out.then_below K7).then_below hb8
    have hl9 : (partsP D.data.toList ++ l).length = n1 + l.length := by rw [List.length_append, hn1]
    have hR := hW8.rest (l' := partsP D.data.toList ++ l) B cB (by rw [hl9]; exact r5 b hbl7) ⟨by rw [hl9]; exact r2, r3, r4⟩
    rw [hl9] at hR
    obtain ⟨A9, c9, hb9, _⟩ := hW8.box
    obtain ⟨_, _, _, _, _, _, _, y7, _⟩ := walk_cells hb9
    obtain ⟨_, _, _, _, _, _, z7, _⟩ := walk_free hb9
    have HR := Lib.hid hR
    have HB8 := Lib.hid B8
    clear hR hW8 B8 hb9 r1 r2 r3 r4 r5 hb8 K7 hN7 j0 j1 x7 hl9 hpl hn1 hDs
    go_wp2_with fail
    go_ret
    exact ⟨by rw [he]; rfl, HB8.out.trans HR.out.2 fun i hi _ => hi, fun _ _ => by rw [HF.out]; exact HR.out.1⟩

end Go.Proofs.YtbkijfhfjhpebaaGreatDoor

/-
  The landed path: the way down, to its end.
-/
namespace Go.Proofs.YtbkijfhfjhpebaaGreatDoor
open Go.Shelf Go.RowKit StampMath GraphMath OpMath

theorem go_dir {g : Gr} {f : Bool} {k : Nat} {s : Spt} {x : Bs} {r : List Bs} (hs : s.fit g) (h1 : s.there = true) (h2 : (inoH g s).kind = 1) : goS g f k (x :: r) s = goS g f k r (partS g (inoH g s).id x) ∧ stepS g s x = .ok (partS g (inoH g s).id x) := by
  have hn : symS g s = false := by rw [sym_inoH, h2]; rfl
  have hst : stepS g s x = .ok (partS g (inoH g s).id x) := by
    rw [step_inoH hs, if_neg (by rw [h1]; decide), if_neg (fun q => q h2)]
    unfold partS upS
    split <;> rfl
  rw [goS_step hn, hst]
  exact ⟨rfl, rfl⟩

theorem go_not {g : Gr} {f : Bool} {k : Nat} {s : Spt} {x : Bs} {r : List Bs} (hs : s.fit g) (h : s.there = true → (inoH g s).kind ≠ 1 ∧ (inoH g s).kind ≠ 3) : goS g f k (x :: r) s = .error (if s.there = false then 3 else 6) := by
  by_cases ht : s.there = false
  · have hn : symS g s = false := by unfold symS; rw [ht]; rfl
    rw [goS_step hn, step_inoH hs, if_pos ht, if_pos ht]
  · have h' := h (by simpa using ht)
    have hn : symS g s = false := by rw [sym_inoH, decide_eq_false h'.2]
    rw [goS_step hn, step_inoH hs, if_neg ht, if_neg ht, if_pos h'.1]

theorem inoH_data {g : Gr} (h : g.fine) (s : Spt) : (inoH g s).data.size ≤ 64 := by
  unfold inoH
  split
  · unfold inoG
    cases hg : getG g s.ino with
    | none => exact Nat.zero_le _
    | some x =>
      unfold getG at hg
      cases hf : g.I.find? (fun x => decide (x.id = s.ino)) with
      | none => rw [hf] at hg; cases hg
      | some y =>
        rw [hf] at hg
        have hb := h.bound y (List.mem_of_find?_eq_some hf)
        rw [← Option.some.inj hg]
        have hk := h.ok.kinds y (List.mem_of_find?_eq_some hf)
        obtain ⟨_, _, b1, b2, b3⟩ := hb
        show y.data.size ≤ 64
        by_cases k1 : y.kind = 1
        · have := b1 k1; omega
        · by_cases k2 : y.kind = 2
          · exact b2 k2
          · have := (b3 (by omega)).2; omega
  · exact Nat.zero_le _

/-- What the way down comes to. -/
def Ended (H : GraphHave) (a : Addr) (S : Nat → Prop) (g : Gr) (b : Nat) (R : Except Int (Spt × Nat)) (w : World) (e : Ending) (w' : World) : Prop :=
  But (fun i => i = b) w w' ∧ match R with
    | .error x => e = .returned (.int .i64 x)
    | .ok q => e = .returned (.int .i64 0) ∧ ∃ l m, WalkIn H a S g b q.1 l m w'

/-- Where the way down stands. -/
def On (H : GraphHave) (a : Addr) (S : Nat → Prop) (g : Gr) (b : Nat) (f : Bool) (R : Except Int (Spt × Nat)) (w : World) (gk : Nat) (W : World) : Prop :=
  ∃ (s : Spt) (l : List Bs) (k : Nat), gk = 66 * k + l.length + 1 ∧ k ≤ 40 ∧ 66 * k + l.length ≤ 2800 ∧ s.fit g ∧ (∀ x ∈ l, x.length ≤ 8) ∧ goS g f k l s = R ∧ WalkIn H a S g b s l (40 - (k : Int)) W ∧ But (fun i => i = b) w W

set_option maxRecDepth 100000 in
set_option maxHeartbeats 3200000 in
theorem toEnd_code (H : GraphHave) (a : Addr) (S : Nat → Prop) (g : Gr) (b : Nat) (f : Bool) (R : Except Int (Spt × Nat)) (gk : Nat) (w : World) (hg : g.fine) (h : On H a S g b f R w gk w) :
    Calls Tryz.prog 29 #[.pointer (some ⟨b, 0, none⟩), .bool f] w (Ended H a S g b R w) := by
  go_enter Tryz.func29, Tryz.ntmps29
  go_wp2_with fail
  go_step3
  go_wp2_with fail
  go_step3
  go_wp2_with fail
  go_loopg [] gk (fun gk wr => Hid (On H a S g b f R w gk wr))
  case atStart => exact h
  case round =>
    have hrel' := hrel
    clear hrel h
    obtain ⟨s, l, k, rfl, hk, hb66, hfit, hl8, hR, hW, hB⟩ := hrel'.out
    clear hrel'
    obtain ⟨A, c, hb0, _⟩ := hW.box
    have HE := Lib.hid (here_code H a S g s b A l.length c (40 - (k : Int)) wr hW.rep hg.ok hfit hb0)
    have HW := Lib.hid hW
    have HB := Lib.hid hB
    clear hb0 hW hB
    go_wp2_with fail
    refine HE.out.mono ?_
    rintro e w1 ⟨rfl, hb1⟩
    have hW1 := HW.out.below hb1
    have hB1 := HB.out.then_below hb1
    have hsy := sym_inoH g s
    have hD := inoH_data hg s
    have hID : s.there = true → (inoH g s).kind = kindG g s.ino ∧ dataG g s.ino = (inoH g s).data.data.toList ∧ (inoH g s).id = s.ino := fun ht => by
      have e : inoH g s = inoG g s.ino := if_pos ht
      rw [e]
      exact ⟨rfl, rfl, (get_of_kind (hfit.is ht)).2⟩
    have hST : ∀ y r, s.there = true → (inoH g s).kind = 1 → goS g f k (y :: r) s = goS g f k r (partS g (inoH g s).id y) ∧ stepS g s y = .ok (partS g (inoH g s).id y) := fun y r h1 h2 => go_dir hfit h1 h2
    have hNO : ∀ y r, (s.there = true → (inoH g s).kind ≠ 1 ∧ (inoH g s).kind ≠ 3) → goS g f k (y :: r) s = .error (if s.there = false then 3 else 6) := fun y r h => go_not hfit h
    generalize inoH g s = x at hsy hD hID hST hNO ⊢
    have hN2 := heap_alloc_new w1 (.cells (inoA x) 32)
    have hW2 := hW1.below ((Below.refl w1.heap.size w1).alloc (Nat.le_refl _) (.cells (inoA x) 32))
    have hB2 := hB1.alloc (.cells (inoA x) 32)
    clear hW1 hB1 hb1 HE HW HB
    unfold inoA at hN2 hW2 hB2 ⊢
    go_upto_region 3 with fail
    obtain ⟨u, hu⟩ : ∃ u, u = w1.heap.size := ⟨_, rfl⟩
    rw [← hu] at hN2 ⊢
    generalize w1.alloc (.cells #[.int .i64 x.id.1, .int .i64 x.id.2, .int .i64 x.kind, .int .i64 x.links, .int .i64 x.mode, .string x.data] 32) = w2 at hN2 hW2 hB2 ⊢
    clear hu
    obtain ⟨A2, c2, hb2, _⟩ := hW2.box
    obtain ⟨_, _, _, _, _, _, _, c7, _⟩ := walk_cells hb2
    have i0 := cell_of_row _ _ 0 _ _ (0, 0) hN2
    have i1 := cell_of_row _ _ 1 _ _ (0, 0) hN2
    have i2 := cell_of_row _ _ 2 _ _ (0, 0) hN2
    have i5 := cell_of_row _ _ 5 _ _ (0, 0) hN2
    have F2 := Lib.hid hW2
    have G2 := Lib.hid hB2
    have HD := Lib.hid hD
    have HID := Lib.hid hID
    have HST := Lib.hid hST
    have HNO := Lib.hid hNO
    have HSY := Lib.hid hsy
    have H8 := Lib.hid hl8
    have HRR0 := Lib.hid hR
    clear hN2 hW2 hB2 hb2 hD hID hST hNO hsy
    by_cases hA : x.kind = 3 ∧ (f = true ∨ l ≠ [])
    · obtain ⟨hk3, hfl⟩ := hA
      have t3 : (x.kind == 3) = true := beq_iff_eq.2 hk3
      have hth : s.there = true := by
        have := HSY.out
        rw [hk3] at this
        unfold symS at this
        cases hh : s.there with
        | true => rfl
        | false => rw [hh] at this; cases this
      have HY : Hid (symS g s = true ∧ (f = true ∨ l ≠ [])) := ⟨by rw [HSY.out, hk3]; rfl, hfl⟩
      have HY3 : Hid (dataG g s.ino = x.data.data.toList) := (HID.out hth).2.1
      clear HST HNO HSY HID hth hk3 H8 HRR0
      cases f with
      | true =>
        clear hfl
        have HL : Hid (R = linkS g true k s l) := by rw [← hR, goS_link HY.out.1 HY.out.2]; exact rfl
        clear HY
        go_wp2_with fail
        refine (enter_code H a S g s b l (40 - (k : Int)) x.data w2 ⟨by omega, by omega⟩ (by have := HD.out; omega) (by omega) F2.out).mono ?_
        rintro e w3 ⟨rfl, hB3, hW3⟩
        have G3 := Lib.hid (G2.out.trans hB3 fun i hi _ => hi)
        have HDG : Hid (dataG g s.ino = x.data.data.toList) := HY3.out
        clear hB3 hR
        by_cases hk0 : k = 0
        · have her : (if (40 - (k : Int)) = 40 then (9 : Int) else errP x.data.data.toList) = 9 := if_pos (by omega)
          rw [her]
          have hR9 : Hid (R = .error 9) := by rw [HL.out, hk0]; exact rfl
          clear her hW3
          go_wp2_with fail
          try rw [Exit.noGoto_ret]
          go_ret
          exact ⟨G3.out, by rw [hR9.out]; exact rfl⟩
        · obtain ⟨k', rfl⟩ : ∃ k', k = k' + 1 := ⟨k - 1, by omega⟩
          have her : (if (40 - ((k' + 1 : Nat) : Int)) = 40 then (9 : Int) else errP x.data.data.toList) = errP x.data.data.toList := if_neg (by omega)
          rw [her]
          by_cases he : errP x.data.data.toList ≠ 0
          · have hne : (errP x.data.data.toList != 0) = true := bne_iff_ne.2 he
            have hRe : Hid (R = .error (errP x.data.data.toList)) := by
              rw [HL.out]
              unfold linkS
              dsimp only
              rw [HDG.out, if_pos he]
              exact rfl
            clear her hW3 he
            go_wp2_with fail
            try rw [Exit.noGoto_ret]
            go_ret
            exact ⟨G3.out, by rw [hRe.out]; exact rfl⟩
          · have he0 : errP x.data.data.toList = 0 := Classical.byContradiction he
            have hRe : Hid (R = goS g true k' (partsP x.data.data.toList ++ l) (startS s.at_ x.data.data.toList)) := by
              rw [HL.out]
              unfold linkS
              dsimp only
              rw [HDG.out, if_neg he]
              exact rfl
            have HW3 := Lib.hid (hW3 (by omega) he0)
            have HE0 := Lib.hid he0
            rw [he0]
            clear her hW3 he he0
            go_wp2_with fail
            go_roundg (66 * k' + (partsP x.data.data.toList ++ l).length + 1)
            case measure =>
              have h1 := parts_len x.data.data.toList
              have h2 : x.data.data.toList.length ≤ 64 := HD.out
              rw [List.length_append]
              omega
            case rel =>
              have h1 := parts_len x.data.data.toList
              have h2 : x.data.data.toList.length ≤ 64 := HD.out
              refine ⟨startS s.at_ x.data.data.toList, partsP x.data.data.toList ++ l, k', rfl, by omega, by rw [List.length_append]; omega, start_fit hg.ok hfit.dir _, fun y hy => ?_, hRe.out.symm, ?_, G3.out⟩
              · rcases List.mem_append.1 hy with q | q
                · exact (err_zero HE0.out).2.2.1 y q
                · exact hl8 y q
              · have e9 : (40 - ((k' + 1 : Nat) : Int)) + 1 = 40 - (k' : Int) := by omega
                rw [← e9]
                exact HW3.out
      | false =>
        have hl0 : (0 : Int) < (l.length : Int) := by
          have := List.length_pos_iff.2 (hfl.resolve_left (by decide))
          omega
        clear hfl
        have HL : Hid (R = linkS g false k s l) := by rw [← hR, goS_link HY.out.1 HY.out.2]; exact rfl
        clear HY
        go_wp2_with fail
        refine (enter_code H a S g s b l (40 - (k : Int)) x.data w2 ⟨by omega, by omega⟩ (by have := HD.out; omega) (by omega) F2.out).mono ?_
        rintro e w3 ⟨rfl, hB3, hW3⟩
        have G3 := Lib.hid (G2.out.trans hB3 fun i hi _ => hi)
        have HDG : Hid (dataG g s.ino = x.data.data.toList) := HY3.out
        clear hB3 hR
        by_cases hk0 : k = 0
        · have her : (if (40 - (k : Int)) = 40 then (9 : Int) else errP x.data.data.toList) = 9 := if_pos (by omega)
          rw [her]
          have hR9 : Hid (R = .error 9) := by rw [HL.out, hk0]; exact rfl
          clear her hW3
          go_wp2_with fail
          try rw [Exit.noGoto_ret]
          go_ret
          exact ⟨G3.out, by rw [hR9.out]; exact rfl⟩
        · obtain ⟨k', rfl⟩ : ∃ k', k = k' + 1 := ⟨k - 1, by omega⟩
          have her : (if (40 - ((k' + 1 : Nat) : Int)) = 40 then (9 : Int) else errP x.data.data.toList) = errP x.data.data.toList := if_neg (by omega)
          rw [her]
          by_cases he : errP x.data.data.toList ≠ 0
          · have hne : (errP x.data.data.toList != 0) = true := bne_iff_ne.2 he
            have hRe : Hid (R = .error (errP x.data.data.toList)) := by
              rw [HL.out]
              unfold linkS
              dsimp only
              rw [HDG.out, if_pos he]
              exact rfl
            clear her hW3 he
            go_wp2_with fail
            try rw [Exit.noGoto_ret]
            go_ret
            exact ⟨G3.out, by rw [hRe.out]; exact rfl⟩
          · have he0 : errP x.data.data.toList = 0 := Classical.byContradiction he
            have hRe : Hid (R = goS g false k' (partsP x.data.data.toList ++ l) (startS s.at_ x.data.data.toList)) := by
              rw [HL.out]
              unfold linkS
              dsimp only
              rw [HDG.out, if_neg he]
              exact rfl
            have HW3 := Lib.hid (hW3 (by omega) he0)
            have HE0 := Lib.hid he0
            rw [he0]
            clear her hW3 he he0
            go_wp2_with fail
            go_roundg (66 * k' + (partsP x.data.data.toList ++ l).length + 1)
            case measure =>
              have h1 := parts_len x.data.data.toList
              have h2 : x.data.data.toList.length ≤ 64 := HD.out
              rw [List.length_append]
              omega
            case rel =>
              have h1 := parts_len x.data.data.toList
              have h2 : x.data.data.toList.length ≤ 64 := HD.out
              refine ⟨startS s.at_ x.data.data.toList, partsP x.data.data.toList ++ l, k', rfl, by omega, by rw [List.length_append]; omega, start_fit hg.ok hfit.dir _, fun y hy => ?_, hRe.out.symm, ?_, G3.out⟩
              · rcases List.mem_append.1 hy with q | q
                · exact (err_zero HE0.out).2.2.1 y q
                · exact hl8 y q
              · have e9 : (40 - ((k' + 1 : Nat) : Int)) + 1 = 40 - (k' : Int) := by omega
                rw [← e9]
                exact HW3.out
    · have HSYN : Hid ((symS g s && f) = false ∨ l ≠ []) := by
        rw [HSY.out]
        cases f with
        | false => exact .inl (by simp)
        | true =>
          by_cases q : x.kind = 3
          · exact absurd ⟨q, .inl rfl⟩ hA
          · exact .inl (by rw [decide_eq_false q]; rfl)
      cases l with
      | nil =>
        have HRR : Hid (R = .ok (s, k)) := by rw [← HRR0.out]; exact goS_end (HSYN.out.resolve_right (by simp))
        by_cases q : x.kind = 3
        · have t3 : (x.kind == 3) = true := beq_iff_eq.2 q
          have hf0 : f = false := by
            cases f with
            | false => rfl
            | true => exact absurd ⟨q, .inl rfl⟩ hA
          subst hf0
          clear hA q hR hl8 HSYN HNO HST HID HSY H8 HRR0 hfit
          simp only [List.length_nil] at c7
          go_wp2_with fail
          go_ret
          exact ⟨G2.out, by rw [HRR.out]; exact ⟨rfl, [], _, F2.out⟩⟩
        · have t3 : (x.kind == 3) = false := beq_eq_false_iff_ne.2 q
          clear hA q hR hl8 HSYN HNO HST HID HSY H8 HRR0 hfit
          simp only [List.length_nil] at c7
          go_wp2_with fail
          go_ret
          exact ⟨G2.out, by rw [HRR.out]; exact ⟨rfl, [], _, F2.out⟩⟩
      | cons y r =>
        have hk3 : x.kind ≠ 3 := fun q => hA ⟨q, .inr (by simp)⟩
        have t3 : (x.kind == 3) = false := beq_eq_false_iff_ne.2 hk3
        have z7 : ((((y :: r).length : Nat) : Int) == 0) = false := by rw [beq_eq_false_iff_ne]; simp; omega
        clear hA HSYN
        by_cases ht : s.there = false
        · have HRR : Hid (R = .error 3) := by
            rw [← HRR0.out, HNO.out y r (fun q => by rw [ht] at q; cases q), if_pos ht]
            exact rfl
          rw [ht]
          clear hR hl8 HNO HST HID HSY H8 HRR0 hfit ht hk3
          go_wp2_with fail
          try rw [Exit.noGoto_ret]
          go_ret
          exact ⟨G2.out, by rw [HRR.out]; exact rfl⟩
        · have ht : s.there = true := by simpa using ht
          rw [ht]
          by_cases h1 : x.kind = 1
          · have t1 : (x.kind != 1) = false := by rw [h1]; rfl
            obtain ⟨hs1, hs2⟩ := HST.out y r ht h1
            have hd1 : kindG g x.id = 1 := by
              obtain ⟨q1, _, q3⟩ := HID.out ht
              rw [q3, ← q1, h1]
            have HD1 := Lib.hid hd1
            have HS2 := Lib.hid hs2
            have HRR : Hid (goS g f k r (partS g x.id y) = R) := by rw [← HRR0.out]; exact hs1.symm
            clear hR hl8 HNO HST HID HSY HRR0 hk3 h1 hs1 hs2 hd1 ht
            go_wp2_with fail
            refine (step_code H a S g s b y r (40 - (k : Int)) x.id w2 hg HD1.out (by have := H8.out y List.mem_cons_self; omega) F2.out).mono ?_
            rintro e w3 ⟨rfl, hW3, hB3⟩
            have G3 := Lib.hid (G2.out.trans hB3 fun i hi _ => hi)
            have F3 := Lib.hid hW3
            clear hW3 hB3
            go_wp2_with fail
            go_roundg (66 * k + r.length + 1)
            case measure => simp only [List.length_cons]; omega
            case rel =>
              have hb66' : 66 * k + (r.length + 1) ≤ 2800 := hb66
              exact ⟨partS g x.id y, r, k, rfl, hk, by omega, step_fit hg.ok (H8.out y List.mem_cons_self) HS2.out, fun z hz => H8.out z (List.mem_cons_of_mem _ hz), HRR.out, F3.out, G3.out⟩
          · have t1 : (x.kind != 1) = true := bne_iff_ne.2 h1
            have HRR : Hid (R = .error 6) := by
              rw [← HRR0.out, HNO.out y r (fun _ => ⟨h1, hk3⟩), if_neg (by rw [ht]; decide)]
              exact rfl
            clear hR hl8 HNO HST HID HSY H8 HRR0 hfit ht hk3 h1
            go_wp2_with fail
            try rw [Exit.noGoto_ret]
            go_ret
            exact ⟨G2.out, by rw [HRR.out]; exact rfl⟩

end Go.Proofs.YtbkijfhfjhpebaaGreatDoor

/-
  The landed path: Find.
-/
namespace Go.Proofs.YtbkijfhfjhpebaaGreatDoor
open Go.Shelf Go.RowKit StampMath GraphMath OpMath

/-- A spot's cells, none. -/
abbrev zS : Array Value := #[.int .i64 0, .int .i64 0, .string ⟨#[]⟩, .int .i64 0, .int .i64 0, .bool false]

/-- What Find answers, behind Split and Get. -/
def foundE (R : Except Int (Spt × Nat)) : Spt × Int := match R with
  | .error e => (noSpt, e)
  | .ok s => (s.1, 0)

theorem find_is (g : Gr) (at_ : St) (p : Bs) (f : Bool) : findG g at_ p f = if errP p ≠ 0 then (noSpt, errP p) else if kindG g at_ = 0 then (noSpt, 3) else foundE (goS g f 40 (partsP p) (startS at_ p)) := rfl

theorem no_get {g : Gr} (h : g.ok) {id : St} (hk : kindG g id = 0) : (getG g id).isSome = false := by
  cases hg : getG g id with
  | none => rfl
  | some x =>
    exfalso
    have hx : x.kind = 0 := by
      unfold kindG at hk
      rw [hg] at hk
      exact hk
    unfold getG at hg
    cases hf : g.I.find? (fun x => decide (x.id = id)) with
    | none => rw [hf] at hg; cases hg
    | some y =>
      rw [hf] at hg
      have h1 := (h.kinds y (List.mem_of_find?_eq_some hf)).1
      rw [← Option.some.inj hg] at hx
      have hx' : y.kind = 0 := hx
      omega

/-- Who goes is set up. -/
theorem walk_new {H : GraphHave} {a : Addr} {S : Nat → Prop} {g : Gr} {W0 W : World} {s : Spt} {l : List Bs} {A : Option Addr} {n c : Nat} (h : H.rep W0 S a g) (hb : Below W0.heap.size W0 W) (hs : StrsIn W W.heap.size A n l) (h1 : n ≤ c) (h2 : c ≤ maxLen) (h3 : A = none → c = 0) :
    WalkIn H a S g W.heap.size s l 0 (W.alloc (.cells (walkA a s A n c 0) 75)) := by
  have hn : l.length = n := hs.1
  subst hn
  have hA : Below W.heap.size W (W.alloc (.cells (walkA a s A l.length c 0) 75)) := (Below.refl _ _).alloc (Nat.le_refl _) _
  refine ⟨⟨A, c, heap_alloc_new W _, (StrsOff.of hs (Nat.le_refl _)).below hA, h1, h2, h3⟩, rep_below h (below_step hb hA), fun hS => ?_⟩
  have h4 := H.lt h _ hS
  have h5 := hb.size
  omega

set_option maxRecDepth 100000 in
set_option maxHeartbeats 3200000 in
theorem find_code (H : GraphHave) (a : Addr) (S : Nat → Prop) (g : Gr) (at_ : St) (p : ByteArray) (f : Bool) (w : World) (h : H.rep w S a g) (hg : g.fine) (hp : p.size ≤ 2000) :
    Calls Tryz.prog 14 #[.pointer (some a), .agg (stA at_), .string p, .bool f] w fun e w' => e = .returned (.tuple #[.agg (sptA (findG g at_ p.data.toList f).1), .int .i64 (findG g at_ p.data.toList f).2]) ∧ Below w.heap.size w w' := by
  obtain ⟨u, hu⟩ : ∃ u, u = w.heap.size := ⟨_, rfl⟩
  have hw0 : Held w [(u + 1, .cells zS 38), (u, .cells (stA at_) 24)] ((w.alloc (.cells (stA at_) 24)).alloc (.cells zS 38)) :=
    ((Held.refl w).alloc (.cells (stA at_) 24) hu.symm).alloc _ (by simp [hu])
  rw [find_is]
  obtain ⟨F, hF⟩ : ∃ F, F = (if errP p.data.toList ≠ 0 then (noSpt, errP p.data.toList) else if kindG g at_ = 0 then (noSpt, (3 : Int)) else foundE (goS g f 40 (partsP p.data.toList) (startS at_ p.data.toList))) := ⟨_, rfl⟩
  rw [← hF]
  have HFF := Lib.hid hF
  have HH := Lib.hid h
  obtain ⟨a1, a2⟩ := at_
  clear h hF
  unfold stA at hw0 ⊢
  dsimp only at hw0 ⊢
  go_enter Tryz.func14, Tryz.ntmps14
  go_upto_region 1 with fail
  change Code.wp _ _ _ _ ((w.alloc (.cells #[.int .i64 a1, .int .i64 a2] 24)).alloc (.cells zS 38))
  generalize (w.alloc (.cells #[.int .i64 a1, .int .i64 a2] 24)).alloc (.cells zS 38) = w0 at hw0 ⊢
  rw [← hu]
  have hule : w.heap.size ≤ u + 1 := by omega
  have hule0 : w.heap.size ≤ u := by omega
  clear hu
  have HW0 := Lib.hid hw0
  clear hw0
  go_wp2_with fail
  refine (split_code p w0 hp).mono ?_
  rintro e w1 ⟨A1, n1, c1, rfl, q1, q2, q3, q4, hb1, q5⟩
  have HW1 := Lib.hid (HW0.out.step hb1)
  by_cases he : errP p.data.toList ≠ 0
  · have hF1 : Hid (F = (noSpt, errP p.data.toList)) := by rw [HFF.out, if_pos he]; exact rfl
    have hne : (errP p.data.toList != 0) = true := bne_iff_ne.2 he
    obtain ⟨i0, i1, i2, i3, i4, i5⟩ := spt_cells (g := u + 1) (HW1.out.at 0 rfl)
    obtain ⟨f0, f1, f2, f3, f4, f5⟩ := six_free (g := u + 1) (HW1.out.at 0 rfl)
    have P := Lib.hid (six_put (g := u + 1) (HW1.out.at 0 rfl) (.int .i64 0) (.int .i64 0) (.string ⟨#[]⟩) (.int .i64 0) (.int .i64 0) (.bool false))
    have HBB := Lib.hid (below_six HW1.out.below (g := u + 1) hule (.int .i64 0) (.int .i64 0) (.string ⟨#[]⟩) (.int .i64 0) (.int .i64 0) (.bool false))
    obtain ⟨z0, z1, z2, z3, z4, z5⟩ := spt_cells P.out
    clear q1 q2 q3 q4 q5 hb1 HH HFF he HW1 HW0
    go_wp2_with fail
    exact bodyPost_ret (v := .tuple #[.agg (sptA noSpt), .int .i64 (errP p.data.toList)]) (by simp [results, Tryz.results14, go_sem, sptA, noSpt, z0, z1, z2, z3, z4, z5]) rfl ⟨by rw [hF1.out], HBB.out⟩
  have he0 : errP p.data.toList = 0 := Classical.byContradiction he
  rw [if_neg he] at HFF
  rw [he0, if_pos rfl] at q1
  have HQ : Hid (StrsIn w1 w1.heap.size A1 n1 (partsP p.data.toList) ∧ n1 ≤ c1 ∧ c1 ≤ maxLen ∧ (A1 = none → c1 = 0)) := ⟨q1, q2, q3, q4⟩
  have HE0 := Lib.hid he0
  have hgt := H.get a S g (a1, a2) w1 (rep_below HH.out HW1.out.below) hg.ok
  rw [he0]
  clear q1 q2 q3 q4 q5 hb1 he he0 HW0
  unfold stA inoA at hgt
  dsimp only at hgt
  obtain ⟨x, hx⟩ : ∃ x, x = (getG g (a1, a2)).getD noIno := ⟨_, rfl⟩
  rw [← hx] at hgt
  obtain ⟨s0, s1⟩ := two_cells (g := u) (HW1.out.at 1 rfl)
  by_cases hk : kindG g (a1, a2) = 0
  · rw [no_get hg.ok hk] at hgt
    have GT := Lib.hid hgt
    have hF1 : Hid (F = (noSpt, 3)) := by rw [HFF.out, if_pos hk]; exact rfl
    clear hgt hx hk HFF HH HQ HE0
    go_wp2_with fail
    refine GT.out.mono ?_
    rintro e w2 ⟨rfl, hb2⟩
    have HW3 := Lib.hid ((HW1.out.step hb2).alloc (.cells #[.int .i64 x.id.1, .int .i64 x.id.2, .int .i64 x.kind, .int .i64 x.links, .int .i64 x.mode, .string x.data] 32) rfl)
    clear hb2 GT HW1 s0 s1
    go_upto_region 5 with fail
    generalize w2.alloc (.cells #[.int .i64 x.id.1, .int .i64 x.id.2, .int .i64 x.kind, .int .i64 x.links, .int .i64 x.mode, .string x.data] 32) = w3 at HW3 ⊢
    obtain ⟨i0, i1, i2, i3, i4, i5⟩ := spt_cells (g := u + 1) (HW3.out.at 1 rfl)
    obtain ⟨f0, f1, f2, f3, f4, f5⟩ := six_free (g := u + 1) (HW3.out.at 1 rfl)
    have P := Lib.hid (six_put (g := u + 1) (HW3.out.at 1 rfl) (.int .i64 0) (.int .i64 0) (.string ⟨#[]⟩) (.int .i64 0) (.int .i64 0) (.bool false))
    have HBB := Lib.hid (below_six HW3.out.below (g := u + 1) hule (.int .i64 0) (.int .i64 0) (.string ⟨#[]⟩) (.int .i64 0) (.int .i64 0) (.bool false))
    obtain ⟨z0, z1, z2, z3, z4, z5⟩ := spt_cells P.out
    clear HW3
    go_wp2_with fail
    exact bodyPost_ret (v := .tuple #[.agg (sptA noSpt), .int .i64 3]) (by simp [results, Tryz.results14, go_sem, sptA, noSpt, z0, z1, z2, z3, z4, z5]) rfl ⟨by rw [hF1.out], HBB.out⟩
  rw [(get_of_kind hk).1] at hgt
  have GT := Lib.hid hgt
  rw [if_neg hk] at HFF
  have hfit : Hid ((startS (a1, a2) p.data.toList).fit g) := start_fit hg.ok hk _
  clear hgt hx hk
  go_wp2_with fail
  refine GT.out.mono ?_
  rintro e w2 ⟨rfl, hb2⟩
  have hH3 := (HW1.out.step hb2).alloc (.cells #[.int .i64 x.id.1, .int .i64 x.id.2, .int .i64 x.kind, .int .i64 x.links, .int .i64 x.mode, .string x.data] 32) rfl
  have hb13 := hb2.alloc hb2.size (.cells #[.int .i64 x.id.1, .int .i64 x.id.2, .int .i64 x.kind, .int .i64 x.links, .int .i64 x.mode, .string x.data] 32)
  clear hb2 GT HW1 s0 s1
  go_upto_region 5 with fail
  generalize w2.alloc (.cells #[.int .i64 x.id.1, .int .i64 x.id.2, .int .i64 x.kind, .int .i64 x.links, .int .i64 x.mode, .string x.data] 32) = w3 at hH3 hb13 ⊢
  have hH3' : Held w [(u + 1, .cells zS 38), (u, .cells #[.int .i64 a1, .int .i64 a2] 24)] w3 := hH3.tail
  obtain ⟨s0, s1⟩ := two_cells (g := u) (hH3'.at 1 rfl)
  obtain ⟨v, hv⟩ : ∃ v, v = w3.heap.size := ⟨_, rfl⟩
  have hN4 := heap_alloc_new w3 (.cells #[.int .i64 a1, .int .i64 a2] 24)
  have K4 : Below w3.heap.size w3 (w3.alloc (.cells #[.int .i64 a1, .int .i64 a2] 24)) := (Below.refl _ _).alloc (Nat.le_refl _) _
  have HW3 := Lib.hid hH3'
  have HB13 := Lib.hid hb13
  clear hH3 hH3' hb13
  go_wp2_with fail
  generalize w3.alloc (.cells #[.int .i64 a1, .int .i64 a2] 24) = w4 at hN4 K4 ⊢
  rw [← hv] at hN4 ⊢
  have hv2 : w3.heap.size ≤ v := Nat.le_of_eq hv.symm
  clear s0 s1 hv
  refine (fromRoot_code p w4).mono ?_
  rintro e w5 ⟨rfl, rfl⟩
  by_cases hf : p.data.toList.head? = some 47
  · have hd : decide (p.data.toList.head? = some 47) = true := decide_eq_true hf
    rw [hd]
    have hf' : startS (a1, a2) p.data.toList = ⟨(0, 0), ⟨#[]⟩, (0, 0), true⟩ := by unfold startS; rw [if_pos hf]
    clear hd hf
    go_wp2_with fail
    refine (proot_code _).mono ?_
    rintro e w5 ⟨rfl, hb5⟩
    have hN5 := (hb5.block _ (heap_lt hN4)).trans hN4
    obtain ⟨k0, k1⟩ := two_cells hN5
    obtain ⟨m0, m1⟩ := two_free hN5
    have hN6 := two_put hN5 (.int .i64 0) (.int .i64 0)
    have K6 : Below w3.heap.size w3 ((w5.setCell ⟨v, 0, none⟩ (.int .i64 0)).setCell ⟨v, 1, none⟩ (.int .i64 0)) := ((below_step K4 hb5).setCell hv2 _).setCell hv2 _
    clear hN4 hN5 hb5 K4
    go_upto_region 10 with fail
    generalize (w5.setCell ⟨v, 0, none⟩ (.int .i64 0)).setCell ⟨v, 1, none⟩ (.int .i64 0) = w6 at hN6 K6 ⊢
    clear k0 k1 m0 m1
    obtain ⟨k0, k1⟩ := two_cells hN6
    clear hN6 hv2
    have HK6 : Hid (Below w.heap.size w w6) := below_step HW3.out.below K6
    have hN6 := Lib.hid ((K6.block _ (heap_lt (HW3.out.at 0 rfl))).trans (HW3.out.at 0 rfl))
    have hSt : Hid (startS (a1, a2) p.data.toList = (⟨(0, 0), ⟨#[]⟩, (0, 0), true⟩ : Spt)) := hf'
    have hSI : StrsIn w6 w6.heap.size A1 n1 (partsP p.data.toList) := ((HQ.out.1.below (below_step HB13.out K6)).more (below_step HB13.out K6).size)
    have HWI : Hid (WalkIn H a S g w6.heap.size (⟨(0, 0), ⟨#[]⟩, (0, 0), true⟩ : Spt) (partsP p.data.toList) 0 (w6.alloc (.cells (walkA a (⟨(0, 0), ⟨#[]⟩, (0, 0), true⟩ : Spt) A1 n1 c1 0) 75))) := walk_new HH.out HK6.out hSI HQ.out.2.1 HQ.out.2.2.1 HQ.out.2.2.2
    have HBA : Hid (Below w.heap.size w (w6.alloc (.cells (walkA a (⟨(0, 0), ⟨#[]⟩, (0, 0), true⟩ : Spt) A1 n1 c1 0) 75))) := HK6.out.alloc HK6.out.size _
    have HNA : Hid ((w6.alloc (.cells (walkA a (⟨(0, 0), ⟨#[]⟩, (0, 0), true⟩ : Spt) A1 n1 c1 0) 75)).heap[u + 1]? = some (.cells zS 38 (0, 0))) := (heap_alloc_old _ _ (heap_lt hN6.out)).trans hN6.out
    have hne6 : u + 1 ≠ w6.heap.size := Nat.ne_of_lt (heap_lt hN6.out)
    have hle6 : w.heap.size ≤ w6.heap.size := HK6.out.size
    unfold walkA at HWI HBA HNA
    dsimp only at HWI HBA HNA
    clear hf' K6 hSI HW3 HB13 HK6 hN6
    obtain ⟨b, hb⟩ : ∃ b, b = w6.heap.size := ⟨_, rfl⟩
    go_wp2_with fail
    generalize w6.alloc (.cells #[.pointer (some a), .int .i64 0, .int .i64 0, .string ⟨#[]⟩, .int .i64 0, .int .i64 0, .bool true, .slice A1 n1 c1, .int .i64 0] 75) = w7 at HWI HBA HNA ⊢
    rw [← hb] at HWI hne6 hle6 ⊢
    clear k0 k1 hb
    obtain ⟨h2, h3, _⟩ := (err_zero HE0.out).2
    have hOn : On H a S g b f (goS g f 40 (partsP p.data.toList) (⟨(0, 0), ⟨#[]⟩, (0, 0), true⟩ : Spt)) w7 (66 * 40 + (partsP p.data.toList).length + 1) w7 :=
      ⟨(⟨(0, 0), ⟨#[]⟩, (0, 0), true⟩ : Spt), partsP p.data.toList, 40, rfl, Nat.le_refl _, by have := parts_len p.data.toList; omega, by rw [← hSt.out]; exact hfit.out, h3, rfl, HWI.out, But.refl _ _⟩
    refine (toEnd_code H a S g b f _ _ w7 hg hOn).mono ?_
    rintro e w8 ⟨hB8, hR8⟩
    have hF8 : F = foundE (goS g f 40 (partsP p.data.toList) (⟨(0, 0), ⟨#[]⟩, (0, 0), true⟩ : Spt)) := by rw [HFF.out, hSt.out]
    have hE8 := go_err g f 40 (partsP p.data.toList) (⟨(0, 0), ⟨#[]⟩, (0, 0), true⟩ : Spt)
    have hN8 : w8.heap[u + 1]? = some (.cells zS 38 (0, 0)) := hB8.heap HNA.out hne6
    have hBB : Below w.heap.size w w8 := HBA.out.trans (hB8.below (fun i hi => by rw [hi]; exact hle6) HBA.out.size)
    generalize goS g f 40 (partsP p.data.toList) (⟨(0, 0), ⟨#[]⟩, (0, 0), true⟩ : Spt) = R at hR8 hF8 hE8
    obtain ⟨i0, i1, i2, i3, i4, i5⟩ := spt_cells (g := u + 1) hN8
    obtain ⟨f0, f1, f2, f3, f4, f5⟩ := six_free (g := u + 1) hN8
    clear hB8 hOn h2 h3 HWI HBA HNA HFF hfit hSt HE0 HQ HH hne6 hle6
    cases R with
    | error er =>
      dsimp only at hR8
      subst hR8
      have hne : (er != 0) = true := bne_iff_ne.2 (hE8 er rfl)
      have hF1 : Hid (F = (noSpt, er)) := hF8
      have P := Lib.hid (six_put (g := u + 1) hN8 (.int .i64 0) (.int .i64 0) (.string ⟨#[]⟩) (.int .i64 0) (.int .i64 0) (.bool false))
      have HBB := Lib.hid (below_six hBB (g := u + 1) hule (.int .i64 0) (.int .i64 0) (.string ⟨#[]⟩) (.int .i64 0) (.int .i64 0) (.bool false))
      obtain ⟨z0, z1, z2, z3, z4, z5⟩ := spt_cells P.out
      clear hN8 hBB hE8 hF8
      go_wp2_with fail
      exact bodyPost_ret (v := .tuple #[.agg (sptA noSpt), .int .i64 er]) (by simp [results, Tryz.results14, go_sem, sptA, noSpt, z0, z1, z2, z3, z4, z5]) rfl ⟨by rw [hF1.out], HBB.out⟩
    | ok q =>
      dsimp only at hR8
      obtain ⟨rfl, l, m, hW8⟩ := hR8
      obtain ⟨t, q2⟩ := q
      have hF1 : Hid (F = (t, 0)) := hF8
      obtain ⟨A2, c2, hb8, _⟩ := hW8.box
      obtain ⟨_, e1, e2, e3, e4, e5, e6, _, _⟩ := walk_cells hb8
      dsimp only at e1 e2 e3 e4 e5 e6
      have P := Lib.hid (six_put (g := u + 1) hN8 (.int .i64 t.at_.1) (.int .i64 t.at_.2) (.string t.name) (.int .i64 t.ino.1) (.int .i64 t.ino.2) (.bool t.there))
      have HBB := Lib.hid (below_six hBB (g := u + 1) hule (.int .i64 t.at_.1) (.int .i64 t.at_.2) (.string t.name) (.int .i64 t.ino.1) (.int .i64 t.ino.2) (.bool t.there))
      obtain ⟨z0, z1, z2, z3, z4, z5⟩ := spt_cells P.out
      clear hN8 hBB hE8 hF8 hb8 hW8
      go_wp2_with fail
      exact bodyPost_ret (v := .tuple #[.agg (sptA t), .int .i64 0]) (by simp [results, Tryz.results14, go_sem, sptA, z0, z1, z2, z3, z4, z5]) rfl ⟨by rw [hF1.out], HBB.out⟩
  · have hd : decide (p.data.toList.head? = some 47) = false := decide_eq_false hf
    rw [hd]
    have hf' : startS (a1, a2) p.data.toList = ⟨(0, 0), ⟨#[]⟩, (a1, a2), true⟩ := by unfold startS; rw [if_neg hf]
    have K6 := K4
    obtain ⟨k0, k1⟩ := two_cells hN4
    clear hd hf hN4 K4 hv2
    go_upto_region 10 with fail
    generalize w4 = w6 at K6 k0 k1 ⊢
    have HK6 : Hid (Below w.heap.size w w6) := below_step HW3.out.below K6
    have hN6 := Lib.hid ((K6.block _ (heap_lt (HW3.out.at 0 rfl))).trans (HW3.out.at 0 rfl))
    have hSt : Hid (startS (a1, a2) p.data.toList = (⟨(0, 0), ⟨#[]⟩, (a1, a2), true⟩ : Spt)) := hf'
    have hSI : StrsIn w6 w6.heap.size A1 n1 (partsP p.data.toList) := ((HQ.out.1.below (below_step HB13.out K6)).more (below_step HB13.out K6).size)
    have HWI : Hid (WalkIn H a S g w6.heap.size (⟨(0, 0), ⟨#[]⟩, (a1, a2), true⟩ : Spt) (partsP p.data.toList) 0 (w6.alloc (.cells (walkA a (⟨(0, 0), ⟨#[]⟩, (a1, a2), true⟩ : Spt) A1 n1 c1 0) 75))) := walk_new HH.out HK6.out hSI HQ.out.2.1 HQ.out.2.2.1 HQ.out.2.2.2
    have HBA : Hid (Below w.heap.size w (w6.alloc (.cells (walkA a (⟨(0, 0), ⟨#[]⟩, (a1, a2), true⟩ : Spt) A1 n1 c1 0) 75))) := HK6.out.alloc HK6.out.size _
    have HNA : Hid ((w6.alloc (.cells (walkA a (⟨(0, 0), ⟨#[]⟩, (a1, a2), true⟩ : Spt) A1 n1 c1 0) 75)).heap[u + 1]? = some (.cells zS 38 (0, 0))) := (heap_alloc_old _ _ (heap_lt hN6.out)).trans hN6.out
    have hne6 : u + 1 ≠ w6.heap.size := Nat.ne_of_lt (heap_lt hN6.out)
    have hle6 : w.heap.size ≤ w6.heap.size := HK6.out.size
    unfold walkA at HWI HBA HNA
    dsimp only at HWI HBA HNA
    clear hf' K6 hSI HW3 HB13 HK6 hN6
    obtain ⟨b, hb⟩ : ∃ b, b = w6.heap.size := ⟨_, rfl⟩
    go_wp2_with fail
    generalize w6.alloc (.cells #[.pointer (some a), .int .i64 0, .int .i64 0, .string ⟨#[]⟩, .int .i64 a1, .int .i64 a2, .bool true, .slice A1 n1 c1, .int .i64 0] 75) = w7 at HWI HBA HNA ⊢
    rw [← hb] at HWI hne6 hle6 ⊢
    clear k0 k1 hb
    obtain ⟨h2, h3, _⟩ := (err_zero HE0.out).2
    have hOn : On H a S g b f (goS g f 40 (partsP p.data.toList) (⟨(0, 0), ⟨#[]⟩, (a1, a2), true⟩ : Spt)) w7 (66 * 40 + (partsP p.data.toList).length + 1) w7 :=
      ⟨(⟨(0, 0), ⟨#[]⟩, (a1, a2), true⟩ : Spt), partsP p.data.toList, 40, rfl, Nat.le_refl _, by have := parts_len p.data.toList; omega, by rw [← hSt.out]; exact hfit.out, h3, rfl, HWI.out, But.refl _ _⟩
    refine (toEnd_code H a S g b f _ _ w7 hg hOn).mono ?_
    rintro e w8 ⟨hB8, hR8⟩
    have hF8 : F = foundE (goS g f 40 (partsP p.data.toList) (⟨(0, 0), ⟨#[]⟩, (a1, a2), true⟩ : Spt)) := by rw [HFF.out, hSt.out]
    have hE8 := go_err g f 40 (partsP p.data.toList) (⟨(0, 0), ⟨#[]⟩, (a1, a2), true⟩ : Spt)
    have hN8 : w8.heap[u + 1]? = some (.cells zS 38 (0, 0)) := hB8.heap HNA.out hne6
    have hBB : Below w.heap.size w w8 := HBA.out.trans (hB8.below (fun i hi => by rw [hi]; exact hle6) HBA.out.size)
    generalize goS g f 40 (partsP p.data.toList) (⟨(0, 0), ⟨#[]⟩, (a1, a2), true⟩ : Spt) = R at hR8 hF8 hE8
    obtain ⟨i0, i1, i2, i3, i4, i5⟩ := spt_cells (g := u + 1) hN8
    obtain ⟨f0, f1, f2, f3, f4, f5⟩ := six_free (g := u + 1) hN8
    clear hB8 hOn h2 h3 HWI HBA HNA HFF hfit hSt HE0 HQ HH hne6 hle6
    cases R with
    | error er =>
      dsimp only at hR8
      subst hR8
      have hne : (er != 0) = true := bne_iff_ne.2 (hE8 er rfl)
      have hF1 : Hid (F = (noSpt, er)) := hF8
      have P := Lib.hid (six_put (g := u + 1) hN8 (.int .i64 0) (.int .i64 0) (.string ⟨#[]⟩) (.int .i64 0) (.int .i64 0) (.bool false))
      have HBB := Lib.hid (below_six hBB (g := u + 1) hule (.int .i64 0) (.int .i64 0) (.string ⟨#[]⟩) (.int .i64 0) (.int .i64 0) (.bool false))
      obtain ⟨z0, z1, z2, z3, z4, z5⟩ := spt_cells P.out
      clear hN8 hBB hE8 hF8
      go_wp2_with fail
      exact bodyPost_ret (v := .tuple #[.agg (sptA noSpt), .int .i64 er]) (by simp [results, Tryz.results14, go_sem, sptA, noSpt, z0, z1, z2, z3, z4, z5]) rfl ⟨by rw [hF1.out], HBB.out⟩
    | ok q =>
      dsimp only at hR8
      obtain ⟨rfl, l, m, hW8⟩ := hR8
      obtain ⟨t, q2⟩ := q
      have hF1 : Hid (F = (t, 0)) := hF8
      obtain ⟨A2, c2, hb8, _⟩ := hW8.box
      obtain ⟨_, e1, e2, e3, e4, e5, e6, _, _⟩ := walk_cells hb8
      dsimp only at e1 e2 e3 e4 e5 e6
      have P := Lib.hid (six_put (g := u + 1) hN8 (.int .i64 t.at_.1) (.int .i64 t.at_.2) (.string t.name) (.int .i64 t.ino.1) (.int .i64 t.ino.2) (.bool t.there))
      have HBB := Lib.hid (below_six hBB (g := u + 1) hule (.int .i64 t.at_.1) (.int .i64 t.at_.2) (.string t.name) (.int .i64 t.ino.1) (.int .i64 t.ino.2) (.bool t.there))
      obtain ⟨z0, z1, z2, z3, z4, z5⟩ := spt_cells P.out
      clear hN8 hBB hE8 hF8 hb8 hW8
      go_wp2_with fail
      exact bodyPost_ret (v := .tuple #[.agg (sptA t), .int .i64 0]) (by simp [results, Tryz.results14, go_sem, sptA, z0, z1, z2, z3, z4, z5]) rfl ⟨by rw [hF1.out], HBB.out⟩

end Go.Proofs.YtbkijfhfjhpebaaGreatDoor

/-
  The landed path: Find in a graph that is nil.
-/
namespace Go.Proofs.YtbkijfhfjhpebaaGreatDoor
open Go.Shelf Go.RowKit StampMath GraphMath OpMath

set_option maxRecDepth 100000 in
set_option maxHeartbeats 1600000 in
theorem nilFind_code (H : GraphHave) (at_ : St) (p : ByteArray) (f : Bool) (w : World) (hp : p.size ≤ 2000) :
    Calls Tryz.prog 14 #[.pointer none, .agg (stA at_), .string p, .bool f] w fun e w' => e = .returned (.tuple #[.agg (sptA noSpt), .int .i64 (if errP p.data.toList ≠ 0 then errP p.data.toList else 3)]) ∧ Below w.heap.size w w' := by
  obtain ⟨u, hu⟩ : ∃ u, u = w.heap.size := ⟨_, rfl⟩
  have hw0 : Held w [(u + 1, .cells zS 38), (u, .cells (stA at_) 24)] ((w.alloc (.cells (stA at_) 24)).alloc (.cells zS 38)) :=
    ((Held.refl w).alloc (.cells (stA at_) 24) hu.symm).alloc _ (by simp [hu])
  obtain ⟨F, hF⟩ : ∃ F, F = (if errP p.data.toList ≠ 0 then errP p.data.toList else (3 : Int)) := ⟨_, rfl⟩
  rw [← hF]
  have HFF := Lib.hid hF
  obtain ⟨a1, a2⟩ := at_
  clear hF
  unfold stA at hw0 ⊢
  dsimp only at hw0 ⊢
  go_enter Tryz.func14, Tryz.ntmps14
  go_upto_region 1 with fail
  change Code.wp _ _ _ _ ((w.alloc (.cells #[.int .i64 a1, .int .i64 a2] 24)).alloc (.cells zS 38))
  generalize (w.alloc (.cells #[.int .i64 a1, .int .i64 a2] 24)).alloc (.cells zS 38) = w0 at hw0 ⊢
  rw [← hu]
  have hule : w.heap.size ≤ u + 1 := by omega
  clear hu
  have HW0 := Lib.hid hw0
  clear hw0
  go_wp2_with fail
  refine (split_code p w0 hp).mono ?_
  rintro e w1 ⟨A1, n1, c1, rfl, q1, q2, q3, q4, hb1, q5⟩
  have HW1 := Lib.hid (HW0.out.step hb1)
  by_cases he : errP p.data.toList ≠ 0
  · have hF1 : Hid (F = errP p.data.toList) := by rw [HFF.out, if_pos he]; exact rfl
    have hne : (errP p.data.toList != 0) = true := bne_iff_ne.2 he
    obtain ⟨i0, i1, i2, i3, i4, i5⟩ := spt_cells (g := u + 1) (HW1.out.at 0 rfl)
    obtain ⟨f0, f1, f2, f3, f4, f5⟩ := six_free (g := u + 1) (HW1.out.at 0 rfl)
    have P := Lib.hid (six_put (g := u + 1) (HW1.out.at 0 rfl) (.int .i64 0) (.int .i64 0) (.string ⟨#[]⟩) (.int .i64 0) (.int .i64 0) (.bool false))
    have HBB := Lib.hid (below_six HW1.out.below (g := u + 1) hule (.int .i64 0) (.int .i64 0) (.string ⟨#[]⟩) (.int .i64 0) (.int .i64 0) (.bool false))
    obtain ⟨z0, z1, z2, z3, z4, z5⟩ := spt_cells P.out
    clear q1 q2 q3 q4 q5 hb1 HFF he HW1 HW0
    go_wp2_with fail
    exact bodyPost_ret (v := .tuple #[.agg (sptA noSpt), .int .i64 (errP p.data.toList)]) (by simp [results, Tryz.results14, go_sem, sptA, noSpt, z0, z1, z2, z3, z4, z5]) rfl ⟨by rw [hF1.out], HBB.out⟩
  have he0 : errP p.data.toList = 0 := Classical.byContradiction he
  have hF1 : Hid (F = 3) := by rw [HFF.out, if_neg he]; exact rfl
  have hgt := H.nilGet (a1, a2) w1
  rw [he0]
  clear q1 q2 q3 q4 q5 hb1 he he0 HW0 HFF
  unfold stA inoA noIno at hgt
  dsimp only at hgt
  obtain ⟨s0, s1⟩ := two_cells (g := u) (HW1.out.at 1 rfl)
  have GT := Lib.hid hgt
  clear hgt
  go_wp2_with fail
  refine GT.out.mono ?_
  rintro e w2 ⟨rfl, hb2⟩
  have HW3 := Lib.hid ((HW1.out.step hb2).alloc (.cells #[.int .i64 0, .int .i64 0, .int .i64 0, .int .i64 0, .int .i64 0, .string ⟨#[]⟩] 32) rfl)
  clear hb2 GT HW1 s0 s1
  go_upto_region 5 with fail
  generalize w2.alloc (.cells #[.int .i64 0, .int .i64 0, .int .i64 0, .int .i64 0, .int .i64 0, .string ⟨#[]⟩] 32) = w3 at HW3 ⊢
  obtain ⟨i0, i1, i2, i3, i4, i5⟩ := spt_cells (g := u + 1) (HW3.out.at 1 rfl)
  obtain ⟨f0, f1, f2, f3, f4, f5⟩ := six_free (g := u + 1) (HW3.out.at 1 rfl)
  have P := Lib.hid (six_put (g := u + 1) (HW3.out.at 1 rfl) (.int .i64 0) (.int .i64 0) (.string ⟨#[]⟩) (.int .i64 0) (.int .i64 0) (.bool false))
  have HBB := Lib.hid (below_six HW3.out.below (g := u + 1) hule (.int .i64 0) (.int .i64 0) (.string ⟨#[]⟩) (.int .i64 0) (.int .i64 0) (.bool false))
  obtain ⟨z0, z1, z2, z3, z4, z5⟩ := spt_cells P.out
  clear HW3
  go_wp2_with fail
  exact bodyPost_ret (v := .tuple #[.agg (sptA noSpt), .int .i64 3]) (by simp [results, Tryz.results14, go_sem, sptA, noSpt, z0, z1, z2, z3, z4, z5]) rfl ⟨by rw [hF1.out], HBB.out⟩

end Go.Proofs.YtbkijfhfjhpebaaGreatDoor

/-
  The landed path: a directory's entry.
-/
namespace Go.Proofs.YtbkijfhfjhpebaaGreatDoor
open Go.Shelf Go.RowKit StampMath GraphMath OpMath

set_option maxRecDepth 100000 in
set_option maxHeartbeats 800000 in
theorem ofDir_code (x : Ent) (d : St) (u : Nat) (W : World) (h : W.heap[u]? = some (.cells (stA d) 24 (0, 0))) :
    Calls Tryz.prog 48 #[.agg (entA x), .pointer (some ⟨u, 0, none⟩)] W fun e w' => e = .returned (.bool (decide (x.ino = d))) ∧ Below W.heap.size W w' := by
  obtain ⟨s0, s1⟩ := two_cells h
  have hlt := heap_lt h
  obtain ⟨r, hr⟩ : ∃ r, r = decide (x.ino = d) := ⟨_, rfl⟩
  rw [← hr]
  have hv : ∀ W : World, (Op.equalIn 10000 24 (.agg #[.int .i64 x.ino.1, .int .i64 x.ino.2]) (.agg #[.int .i64 d.1, .int .i64 d.2])).run Tryz.prog W = .ok r W := fun W => by rw [run_eqSt, hr]
  have hb := (Below.refl W.heap.size W).alloc (Nat.le_refl _) (.cells (entA x) 70)
  have e0 := (hb.cell (p := ⟨u, 0, none⟩) hlt).trans s0
  have e1 := (hb.cell (p := ⟨u, 1, none⟩) hlt).trans s1
  have hn := heap_alloc_new W (.cells (entA x) 70)
  clear hr h s0 s1
  unfold entA at hb hn e0 e1 ⊢
  go_enter Tryz.func48, Tryz.ntmps48
  go_upto_region 1 with fail
  generalize W.alloc (.cells #[.int .i64 x.dir.1, .int .i64 x.dir.2, .string x.name, .int .i64 x.ino.1, .int .i64 x.ino.2] 70) = w1 at hb hn e0 e1 ⊢
  have c3 := cell_of_row _ _ 3 _ _ (0, 0) hn
  have c4 := cell_of_row _ _ 4 _ _ (0, 0) hn
  have HB := Lib.hid hb
  clear hb hn
  go_wp2_with fail
  go_ret
  exact ⟨rfl, HB.out⟩

theorem five_free {w : World} {g : Nat} {a b c d e : Value} {T : TypeId} (h : w.heap[g]? = some (.cells #[a, b, c, d, e] T (0, 0))) :
    w.frozen? ⟨g, 0, none⟩ = false ∧ w.frozen? ⟨g, 1, none⟩ = false ∧ w.frozen? ⟨g, 2, none⟩ = false ∧ w.frozen? ⟨g, 3, none⟩ = false ∧ w.frozen? ⟨g, 4, none⟩ = false :=
  ⟨frozen_of_row _ _ 0 _ _ h, frozen_of_row _ _ 1 _ _ h, frozen_of_row _ _ 2 _ _ h, frozen_of_row _ _ 3 _ _ h, frozen_of_row _ _ 4 _ _ h⟩

theorem five_cells {w : World} {g : Nat} {a b c d e : Value} {T : TypeId} (h : w.heap[g]? = some (.cells #[a, b, c, d, e] T (0, 0))) :
    w.cell? ⟨g, 0, none⟩ = some a ∧ w.cell? ⟨g, 1, none⟩ = some b ∧ w.cell? ⟨g, 2, none⟩ = some c ∧ w.cell? ⟨g, 3, none⟩ = some d ∧ w.cell? ⟨g, 4, none⟩ = some e :=
  ⟨cell_of_row _ _ 0 _ _ (0, 0) h, cell_of_row _ _ 1 _ _ (0, 0) h, cell_of_row _ _ 2 _ _ (0, 0) h, cell_of_row _ _ 3 _ _ (0, 0) h, cell_of_row _ _ 4 _ _ (0, 0) h⟩

theorem five_put {W : World} {g : Nat} {a b c d e : Value} {T : TypeId} (h : W.heap[g]? = some (.cells #[a, b, c, d, e] T (0, 0))) (a' b' c' d' e' : Value) :
    (((((W.setCell ⟨g, 0, none⟩ a').setCell ⟨g, 1, none⟩ b').setCell ⟨g, 2, none⟩ c').setCell ⟨g, 3, none⟩ d').setCell ⟨g, 4, none⟩ e').heap[g]? = some (.cells #[a', b', c', d', e'] T (0, 0)) := by
  rw [heap_setCell_same _ _ _ _ _ _ (heap_setCell_same _ _ _ _ _ _ (heap_setCell_same _ _ _ _ _ _ (heap_setCell_same _ _ _ _ _ _ (heap_setCell_same _ _ _ _ _ _ h))))]
  rfl

theorem below_five {B : Nat} {w W : World} (h : Below B w W) {g : Nat} (hg : B ≤ g) (a b c d e : Value) :
    Below B w (((((W.setCell ⟨g, 0, none⟩ a).setCell ⟨g, 1, none⟩ b).setCell ⟨g, 2, none⟩ c).setCell ⟨g, 3, none⟩ d).setCell ⟨g, 4, none⟩ e) :=
  ((((h.setCell hg _).setCell hg _).setCell hg _).setCell hg _).setCell hg _

/-- The first one's place. -/
theorem idx_find {E : List Ent} {d : St} {x : Ent} (h : E.find? (fun e => decide (e.ino = d)) = some x) [Inhabited Ent] :
    ∃ k, ∃ hk : k < E.length, E[k] = x ∧ Lib.idxBy (fun _ y : Ent => decide (y.ino = d)) (E.take E.length) default = (k : Int) := by
  obtain ⟨hp, i, hi, hx, hno⟩ := List.find?_eq_some_iff_getElem.1 h
  refine ⟨i, hi, hx, ?_⟩
  rw [List.take_length]
  rcases idxByFrom_spec (fun _ y : Ent => decide (y.ino = d)) default E 0 with ⟨e1, hall⟩ | ⟨k, hk, e1, ht, hall⟩
  · have := hall i hi
    rw [getElem!_pos E i hi, hx] at this
    rw [hp] at this
    cases this
  · rw [getElem!_pos E k hk] at ht
    have hki : k = i := by
      rcases Nat.lt_trichotomy k i with q | q | q
      · have := hno k q
        rw [ht] at this
        cases this
      · exact q
      · have := hall i q
        rw [getElem!_pos E i hi, hx, hp] at this
        cases this
    unfold Lib.idxBy
    rw [e1, hki, Nat.zero_add]

set_option maxRecDepth 100000 in
set_option maxHeartbeats 1600000 in
theorem entryOf_code (H : GraphHave) (a : Addr) (S : Nat → Prop) (g : Gr) (d : St) (x : Ent) (w : World) (h : H.rep w S a g) (hg : g.ok) (hx : g.E.find? (fun e => decide (e.ino = d)) = some x) (hf : g.E.length ≤ 1000) :
    Calls Tryz.prog 26 #[.pointer (some a), .agg (stA d)] w fun e w' => e = .returned (.tuple #[.agg (entA x), .bool true]) ∧ Below w.heap.size w w' := by
  haveI : Inhabited Ent := ⟨x⟩
  obtain ⟨k, hk, hkx, hix⟩ := idx_find hx
  obtain ⟨u, hu⟩ : ∃ u, u = w.heap.size := ⟨_, rfl⟩
  have hw0 : Held w [(u + 1, .cells #[.int .i64 0, .int .i64 0, .string ⟨#[]⟩, .int .i64 0, .int .i64 0] 70), (u, .cells (stA d) 24)] ((w.alloc (.cells (stA d) 24)).alloc (.cells #[.int .i64 0, .int .i64 0, .string ⟨#[]⟩, .int .i64 0, .int .i64 0] 70)) :=
    ((Held.refl w).alloc (.cells (stA d) 24) hu.symm).alloc _ (by simp [hu])
  have EN : Hid (∀ W : World, Below w.heap.size w W → Calls Tryz.prog 46 #[.pointer (some a)] W (EntsNew g.E W)) := Lib.hid fun W hW => H.entries a S g W (rep_below h hW) hg
  have HX := Lib.hid hix
  have HK := Lib.hid hkx
  clear h hx hix hkx
  go_enter Tryz.func26, Tryz.ntmps26
  go_upto_region 1 with fail
  change Code.wp _ _ _ _ ((w.alloc (.cells (stA d) 24)).alloc (.cells #[.int .i64 0, .int .i64 0, .string ⟨#[]⟩, .int .i64 0, .int .i64 0] 70))
  generalize (w.alloc (.cells (stA d) 24)).alloc (.cells #[.int .i64 0, .int .i64 0, .string ⟨#[]⟩, .int .i64 0, .int .i64 0] 70) = w0 at hw0 ⊢
  rw [← hu]
  have hule : w.heap.size ≤ u + 1 := by omega
  clear hu
  have HW0 := Lib.hid hw0
  clear hw0
  go_wp2_with fail
  refine (EN.out _ HW0.out.below).mono ?_
  rintro e w1 ⟨v, rfl, hown, hb1⟩
  obtain ⟨A, c, rfl, hin, hnc, hcm, _⟩ := ents_own rfl hown
  have hH1 := HW0.out.step hb1
  obtain ⟨ga, o, rfl, hga, hcell⟩ := hin.2 (by omega)
  have hcl : ∀ j, j < g.E.length → ∀ i v, (entA (g.E[j]!)).toList[i]? = some v → w1.cell? ⟨ga, o + j * 5 + i, none⟩ = some v := fun j hj i v hv => by
    have hj' : j < (g.E.map entA).length := by simpa using hj
    refine hcell j hj' i v ?_
    rw [List.getElem_map]
    rw [getElem!_pos g.E j hj] at hv
    simpa using hv
  have HI : Hid (Calls Tryz.prog 47 #[.slice (some ⟨ga, o, none⟩) g.E.length c, .func (.func 48) #[] #[.pointer (some ⟨u, 0, none⟩)]] w1 fun e w' => e = .returned (.int .i64 (k : Int)) ∧ Below w1.heap.size w1 w') := by
    have q := AnyQ.slices_IndexFunc (P := Tryz.prog) (ρ := Tryz.idxE_ren) Tryz.idxE 5 Tryz.isAgg70 Tryz.sizeOf70 (fun e : Ent => (entA e).toList) (fun _ => rfl) (fun y : Ent => decide (y.ino = d)) 48 #[.pointer (some ⟨u, 0, none⟩)] (enters_of Tryz.func48 (by kernel_rfl) rfl) ga o g.E.length c g.E w1
      (fun W y hW => by
        have hN := (hW.block u (heap_lt (hH1.at 1 rfl))).trans (hH1.at 1 rfl)
        exact (ofDir_code y d u W hN).mono fun _ _ ⟨he, hb⟩ => ⟨he, below_step hW hb⟩) (Nat.le_refl _) (by omega) hga hcl
    rw [HX.out] at q
    exact q
  have hE := hcl k hk
  have hcE : EntAt w1 ga (o + k * 5) x := by
    have e1 : g.E[k]! = x := by rw [getElem!_pos g.E k hk, HK.out]
    rw [e1] at hE
    exact ⟨hE 0 _ rfl, hE 1 _ rfl, hE 2 _ rfl, hE 3 _ rfl, hE 4 _ rfl⟩
  have HH1 := Lib.hid hH1
  have HCE := Lib.hid hcE
  have HGA := Lib.hid hga
  have k1 : decide ((k : Int) < 0) = false := by simp
  clear hcl hE hcE hH1 hcell hin hown hb1 hga EN HW0
  go_wp2_with fail
  refine HI.out.mono ?_
  rintro e w2 ⟨rfl, hb2⟩
  have HH2 := Lib.hid (HH1.out.step hb2)
  obtain ⟨x0, x1, x2, x3, x4⟩ := HCE.out
  have x0 := (hb2.cell (p := ⟨ga, o + k * 5, none⟩) HGA.out).trans x0
  have x1 := (hb2.cell (p := ⟨ga, o + k * 5 + 1, none⟩) HGA.out).trans x1
  have x2 := (hb2.cell (p := ⟨ga, o + k * 5 + 2, none⟩) HGA.out).trans x2
  have x3 := (hb2.cell (p := ⟨ga, o + k * 5 + 3, none⟩) HGA.out).trans x3
  have x4 := (hb2.cell (p := ⟨ga, o + k * 5 + 4, none⟩) HGA.out).trans x4
  obtain ⟨i0, i1, i2, i3, i4⟩ := five_cells (g := u + 1) (HH2.out.at 0 rfl)
  obtain ⟨f0, f1, f2, f3, f4⟩ := five_free (g := u + 1) (HH2.out.at 0 rfl)
  have P := Lib.hid (five_put (g := u + 1) (HH2.out.at 0 rfl) (.int .i64 x.dir.1) (.int .i64 x.dir.2) (.string x.name) (.int .i64 x.ino.1) (.int .i64 x.ino.2))
  have HBB := Lib.hid (below_five HH2.out.below (g := u + 1) hule (.int .i64 x.dir.1) (.int .i64 x.dir.2) (.string x.name) (.int .i64 x.ino.1) (.int .i64 x.ino.2))
  clear hb2 HH1 HH2 HCE HI HX HK
  go_upto_region 5 with fail
  have k0 : (0 : Int) ≤ (k : Int) := by omega
  have k2 : (k : Int) < (g.E.length : Int) := by omega
  obtain ⟨z0, z1, z2, z3, z4⟩ := five_cells P.out
  go_wp2_with fail
  exact bodyPost_ret (v := .tuple #[.agg (entA x), .bool true]) (by simp [results, Tryz.results26, go_sem, entA, z0, z1, z2, z3, z4]) rfl ⟨rfl, HBB.out⟩

end Go.Proofs.YtbkijfhfjhpebaaGreatDoor

/-
  Entries are few. It needs no program.
-/
namespace Go.Proofs.YtbkijfhfjhpebaaGreatDoor
open StampMath GraphMath

/-- Entries are few. -/
theorem ents_few : ∀ (ids : List St) (E : List Ent), (∀ e ∈ E, e.ino ∈ ids) → (∀ id, linksE E id ≤ 6) → E.length ≤ 6 * ids.length
  | [], E, h, _ => by
    cases E with
    | nil => simp
    | cons e l => exact absurd (h e (List.mem_cons_self ..)) (by simp)
  | d :: ids, E, h, h6 => by
    have h1 : (E.filter fun e => decide (e.ino = d)).length ≤ 6 := h6 d
    have h2 := ents_few ids (E.filter fun e => !decide (e.ino = d)) (fun e he => by
      have hm := List.mem_filter.1 he
      have hne : ¬ e.ino = d := by simpa using hm.2
      rcases List.mem_cons.1 (h e hm.1) with q | q
      · exact absurd q hne
      · exact q) (fun id => by
      refine Nat.le_trans ?_ (h6 id)
      unfold linksE
      exact (List.filter_sublist.filter _).length_le)
    have h3 : ∀ l : List Ent, l.length = (l.filter fun e => decide (e.ino = d)).length + (l.filter fun e => !decide (e.ino = d)).length := by
      intro l
      induction l with
      | nil => rfl
      | cons e l ih =>
        by_cases q : e.ino = d
        · simp [q]; omega
        · simp [q]; omega
    rw [h3 E, List.length_cons]
    omega

theorem GraphMath.Gr.ok.entsFew {g : Gr} (h : g.ok) : g.E.length ≤ 240 := by
  have h1 := ents_few (g.I.map fun x => x.id) g.E (fun e he => by
    obtain ⟨x, hx, e1⟩ := h.inos e he
    exact List.mem_map.2 ⟨x, hx, e1⟩) h.six
  rw [List.length_map] at h1
  have := h.few
  omega

end Go.Proofs.YtbkijfhfjhpebaaGreatDoor

/-
  The landed path: Home.
-/
namespace Go.Proofs.YtbkijfhfjhpebaaGreatDoor
open Go.Shelf Go.RowKit StampMath GraphMath OpMath

set_option maxRecDepth 100000 in
set_option maxHeartbeats 800000 in
theorem or_code (h : ByteArray) (ga : Nat) (w : World) (c0 : w.cell? ⟨ga, 0, none⟩ = some (.string h)) (c1 : w.cell? ⟨ga, 1, none⟩ = some (.string ⟨#[47]⟩)) :
    Calls Tryz.prog 27 #[.slice (some ⟨ga, 0, none⟩) 2 2] w fun e w' => e = .returned (.string (if h.data.toList = [] then ⟨#[47]⟩ else h)) ∧ w = w' := by
  by_cases h0 : h.data.toList = []
  · rw [if_pos h0]
    have t : (h.toList == []) = true := by rw [ByteArray.toList_eq, h0]; rfl
    clear h0
    go_enter Tryz.func27, Tryz.ntmps27
    go_wp2_with fail
    refine wp_loop_rounds 3 ?_
    rw [rounds_succ]
    go_wp2_with fail
    rw [rounds_succ]
    go_wp2_with fail
    go_ret
    exact ⟨rfl, rfl⟩
  · rw [if_neg h0]
    have t : (h.toList == []) = false := by rw [ByteArray.toList_eq]; exact beq_eq_false_iff_ne.2 h0
    clear h0
    go_enter Tryz.func27, Tryz.ntmps27
    go_wp2_with fail
    refine wp_loop_rounds 3 ?_
    rw [rounds_succ]
    go_wp2_with fail
    go_ret
    exact ⟨rfl, rfl⟩

theorem name_le {s : ByteArray} (h : nameB s = true) : s.size ≤ 8 := by
  unfold nameB at h
  simp only [Bool.and_eq_true, decide_eq_true_eq] at h
  exact h.1.1.1.1.2

/-- Where the way up stands. -/
def Upward (g : Gr) (L : List ByteArray) (w : World) (t8 t9 : Value) (n : Nat) (W : World) : Prop :=
  ∃ (d : St) (l rest : List ByteArray) (v : Nat), t8 = .string (GraphMath.bytes (hangL rest)) ∧ t9 = .pointer (some ⟨v, 0, none⟩) ∧ W.heap[v]? = some (.cells (stA d) 24 (0, 0)) ∧ Down g n d l ∧ l ++ rest = L ∧ Below w.heap.size w W ∧ w.heap.size ≤ v

set_option maxRecDepth 100000 in
set_option maxHeartbeats 3200000 in
theorem home_code (H : GraphHave) (a : Addr) (S : Nat → Prop) (g : Gr) (id : St) (w : World) (h : H.rep w S a g) (hg : g.fine) :
    Calls Tryz.prog 13 #[.pointer (some a), .agg (stA id)] w fun e w' => e = .returned (.tuple #[.string (homeS g id), .bool (homeG g id).isSome]) ∧ Below w.heap.size w w' := by
  obtain ⟨u, hu⟩ : ∃ u, u = w.heap.size := ⟨_, rfl⟩
  have hw0 : Held w [(u, .cells (stA id) 24)] (w.alloc (.cells (stA id) 24)) := (Held.refl w).alloc (.cells (stA id) 24) hu.symm
  have hgt : Hid (∀ W : World, Below w.heap.size w W → Calls Tryz.prog 12 #[.pointer (some a), .agg (stA id)] W fun e w' => e = .returned (.tuple #[.agg (inoA ((getG g id).getD noIno)), .bool (getG g id).isSome]) ∧ Below W.heap.size W w') := Lib.hid fun W hW => H.get a S g id W (rep_below h hW) hg.ok
  have hki : kindG g id = ((getG g id).getD noIno).kind := rfl
  have HH := Lib.hid h
  obtain ⟨x, hx⟩ : ∃ x, x = (getG g id).getD noIno := ⟨_, rfl⟩
  obtain ⟨xb, hxb⟩ : ∃ xb, xb = (getG g id).isSome := ⟨_, rfl⟩
  rw [← hx, ← hxb] at hgt
  rw [← hx] at hki
  clear h hx hxb
  obtain ⟨a1, a2⟩ := id
  unfold stA at hw0 hgt ⊢
  unfold inoA at hgt
  dsimp only at hw0 hgt ⊢
  go_enter Tryz.func13, Tryz.ntmps13
  go_upto_region 1 with fail
  change Code.wp _ _ _ _ (w.alloc (.cells #[.int .i64 a1, .int .i64 a2] 24))
  generalize w.alloc (.cells #[.int .i64 a1, .int .i64 a2] 24) = w0 at hw0 ⊢
  rw [← hu]
  have hule : w.heap.size ≤ u := by omega
  clear hu
  obtain ⟨s0, s1⟩ := two_cells (g := u) (hw0.at 0 rfl)
  have HW0 := Lib.hid hw0
  clear hw0
  go_wp2_with fail
  refine (hgt.out _ HW0.out.below).mono ?_
  rintro e w1 ⟨rfl, hb1⟩
  have hN2 := heap_alloc_new w1 (.cells #[.int .i64 x.id.1, .int .i64 x.id.2, .int .i64 x.kind, .int .i64 x.links, .int .i64 x.mode, .string x.data] 32)
  have HW2 := Lib.hid ((HW0.out.step hb1).alloc (.cells #[.int .i64 x.id.1, .int .i64 x.id.2, .int .i64 x.kind, .int .i64 x.links, .int .i64 x.mode, .string x.data] 32) rfl)
  clear s0 s1 hb1 HW0 hgt
  go_upto_region 2 with fail
  obtain ⟨v, hv⟩ : ∃ v, v = w1.heap.size := ⟨_, rfl⟩
  rw [← hv] at hN2 HW2 ⊢
  generalize w1.alloc (.cells #[.int .i64 x.id.1, .int .i64 x.id.2, .int .i64 x.kind, .int .i64 x.links, .int .i64 x.mode, .string x.data] 32) = w2 at hN2 HW2 ⊢
  clear hv
  have x2 := cell_of_row _ _ 2 _ _ (0, 0) hN2
  clear hN2
  by_cases hk : kindG g (a1, a2) ≠ 1
  · have t1 : (x.kind != 1) = true := bne_iff_ne.2 (by rw [← hki]; exact hk)
    have hn : homeG g (a1, a2) = none := if_neg hk
    have hF : Hid (homeS g (a1, a2) = ⟨#[]⟩ ∧ (homeG g (a1, a2)).isSome = false) := by
      unfold homeS
      rw [hn]
      exact ⟨rfl, rfl⟩
    have HB := Lib.hid HW2.out.below
    clear hk hn hki HW2 HH
    go_wp2_with fail
    exact bodyPost_ret (v := .tuple #[.string ⟨#[]⟩, .bool false]) (by simp [results, Tryz.results13, go_sem]) rfl ⟨by rw [hF.out.1, hF.out.2], HB.out⟩
  have hk : kindG g (a1, a2) = 1 := Classical.byContradiction hk
  have t1 : (x.kind != 1) = false := by rw [← hki, hk]; rfl
  obtain ⟨n, hd, hhome⟩ := hg.home hk
  obtain ⟨L, hL⟩ : ∃ L, L = homeL g g.I.length (a1, a2) := ⟨_, rfl⟩
  rw [← hL] at hd hhome
  have HF : Hid (homeS g (a1, a2) = (if (GraphMath.bytes (hangL L)).data.toList = [] then ⟨#[47]⟩ else GraphMath.bytes (hangL L)) ∧ (homeG g (a1, a2)).isSome = true) := by
    unfold homeS
    rw [hhome]
    refine ⟨?_, rfl⟩
    show GraphMath.bytes (slashes L) = _
    show GraphMath.bytes (slashes L) = if hangL L = [] then _ else _
    unfold slashes
    cases L with
    | nil => rfl
    | cons y r => rw [if_neg (by simp), if_neg (by simp [hangL])]; rfl
  have HN := Lib.hid (hd.size hg.names)
  have HL30 : Hid (n + 1 ≤ g.I.length ∧ g.I.length ≤ 40) := ⟨hd.few hg.ok, hg.ok.few⟩
  obtain ⟨s0, s1⟩ := two_cells (g := u) (HW2.out.at 1 rfl)
  have hN3 := heap_alloc_new w2 (.cells #[.int .i64 a1, .int .i64 a2] 24)
  have B3 := HW2.out.below.alloc HW2.out.below.size (.cells #[.int .i64 a1, .int .i64 a2] 24)
  have hv3 := HW2.out.below.size
  clear hki hk hL hhome
  go_wp2_with fail
  have hU : Upward g L w (.string ⟨#[]⟩) (.pointer (some ⟨w2.heap.size, 0, none⟩)) n (w2.alloc (.cells #[.int .i64 a1, .int .i64 a2] 24)) := ⟨(a1, a2), L, [], w2.heap.size, rfl, rfl, hN3, hd, List.append_nil _, B3, hv3⟩
  have HU := Lib.hid hU
  clear hU hN3 B3 hv3 hd HW2 s0 s1 x2
  generalize w2.alloc (.cells #[.int .i64 a1, .int .i64 a2] 24) = w3 at HU ⊢
  go_loopg [8, 9] (n + 1) (fun gk t8 t9 wr => ∃ m, gk = m + 1 ∧ Hid (Upward g L w t8 t9 m wr))
  case atStart => exact ⟨n, rfl, HU.out⟩
  case round =>
    obtain ⟨m, rfl, hU⟩ := hrel
    obtain ⟨d, l, rest, vd, rfl, rfl, hNd, hdn, hlr, hB, hle⟩ := hU.out
    have HRl : Hid (∀ w0 y, Calls Tryz.prog 25 #[] (later w0 y) fun e w' => e = .returned (.agg #[.int .i64 0, .int .i64 0]) ∧ Below (later w0 y).heap.size (later w0 y) w') := fun _ _ => proot_code _
    have HHang : Hid (∀ y : ByteArray, (⟨#[47]⟩ : ByteArray) ++ y ++ GraphMath.bytes (hangL rest) = GraphMath.bytes (hangL (y :: rest))) := fun y => (hang_cons y rest).symm
    have HLR := Lib.hid hlr
    clear hU HU hlr
    obtain ⟨d1, d2⟩ := d
    unfold stA at hNd
    dsimp only at hNd
    by_cases h0 : ((d1, d2) : St) = (0, 0)
    · have hv : ∀ W : World, (Op.equalIn 10000 24 (.agg #[.int .i64 d1, .int .i64 d2]) (.agg #[.int .i64 0, .int .i64 0])).run Tryz.prog W = .ok true W := fun W => by rw [run_eqSt, decide_eq_true h0]
      have hz := hdn.zero hg.ok h0
      have hrest : Hid (GraphMath.bytes (hangL rest) = GraphMath.bytes (hangL L)) := by
        have q := HLR.out
        rw [hz.2, List.nil_append] at q
        rw [q]
        exact rfl
      clear h0 hz hdn HHang HLR HN HL30
      generalize GraphMath.bytes (hangL rest) = hm at hrest ⊢
      obtain ⟨k0, k1⟩ := two_cells hNd
      have l0 := later_cell k0
      have l1 := later_cell k1
      have HR := Lib.hid (HRl.out wr)
      have HNd := Lib.hid hNd
      have HB := Lib.hid hB
      clear k0 k1 hNd hB HRl
      go_upto_region 6 with fail
      refine wp_region_later (by kernel_rfl) (by kernel_rfl) ?_
      repeat (go_big_quiet_step (first | (with_reducible exact later_call (HR.out _))))
      refine wpQuiet_nil ?_
      intro _ hw'
      obtain ⟨y, rfl⟩ := hw'
      have hb4 := later_below wr y
      have hN4 := (hb4.block _ (heap_lt HNd.out)).trans HNd.out
      have HB4 := Lib.hid (below_step HB.out hb4)
      generalize later wr y = w4 at hb4 hN4 HB4 ⊢
      clear l0 l1 HR hv HNd HB hb4
      clear hN4
      have hN5 := heap_alloc_new w4 (.cells #[.string hm, .string ⟨#[47]⟩] 9)
      have HB5 := Lib.hid (HB4.out.alloc HB4.out.size (.cells #[.string hm, .string ⟨#[47]⟩] 9))
      go_wp2_with fail
      generalize w4.alloc (.cells #[.string hm, .string ⟨#[47]⟩] 9) = w5 at hN5 HB5 ⊢
      obtain ⟨c0, c1⟩ := two_cells hN5
      obtain ⟨r, hr⟩ : ∃ r, r = (if hm.data.toList = [] then (⟨#[47]⟩ : ByteArray) else hm) := ⟨_, rfl⟩
      have hO := or_code hm w4.heap.size w5 c0 c1
      rw [← hr] at hO
      have HR := Lib.hid hr
      clear hr c0 c1 hN5
      refine hO.mono ?_
      rintro e w6 ⟨rfl, rfl⟩
      clear hO
      go_wp2_with fail
      exact bodyPost_ret (v := .tuple #[.string r, .bool true]) (by simp [results, Tryz.results13, go_sem]) rfl ⟨by rw [HF.out.1, HF.out.2, HR.out, hrest.out], HB5.out⟩
    · have hv : ∀ W : World, (Op.equalIn 10000 24 (.agg #[.int .i64 d1, .int .i64 d2]) (.agg #[.int .i64 0, .int .i64 0])).run Tryz.prog W = .ok false W := fun W => by rw [run_eqSt, decide_eq_false h0]
      obtain ⟨m', l', e, rfl, rfl, hfind, hdn'⟩ := hdn.up hg.ok h0
      have HFI := Lib.hid hfind
      have HDN := Lib.hid hdn'
      clear h0 hdn hfind hdn'
      have hsz : e.name.size ≤ 1000 ∧ (GraphMath.bytes (hangL rest)).size ≤ 100000 := by
        have hl := HLR.out
        have h8 : ∀ y ∈ L, y.size ≤ 8 := fun y hy => name_le (HN.out.2 y hy)
        have h1 : e.name.size ≤ 8 := h8 _ (hl ▸ List.mem_append_left _ (List.mem_append_right _ (List.mem_singleton.2 rfl)))
        have h2 := hang_size (l := rest) (k := 8) fun y hy => h8 y (hl ▸ List.mem_append_right _ hy)
        have h3 : rest.length ≤ 40 := by
          have h4 : L.length = n := HN.out.1
          have h5 := HL30.out
          have h6 : rest.length ≤ L.length := by rw [← hl, List.length_append]; omega
          omega
        have h7 : rest.length * (8 + 1) ≤ 40 * 9 := Nat.mul_le_mul h3 (Nat.le_refl _)
        omega
      generalize hhm : GraphMath.bytes (hangL rest) = hm at HHang hsz ⊢
      clear hhm
      have g1 : ¬ 9223372036854775807 < 1 + e.name.size := by omega
      have g2 : ¬ 9223372036854775807 < 1 + e.name.size + hm.size := by omega
      obtain ⟨k0, k1⟩ := two_cells hNd
      have l0 := later_cell k0
      have l1 := later_cell k1
      have HR := Lib.hid (HRl.out wr)
      have HNd := Lib.hid hNd
      have HB := Lib.hid hB
      clear k0 k1 hNd hB HRl
      go_upto_region 6 with fail
      refine wp_region_later (by kernel_rfl) (by kernel_rfl) ?_
      repeat (go_big_quiet_step (first | (with_reducible exact later_call (HR.out _))))
      refine wpQuiet_nil ?_
      intro _ hw'
      obtain ⟨y, rfl⟩ := hw'
      have hb4 := later_below wr y
      have hN4 := (hb4.block _ (heap_lt HNd.out)).trans HNd.out
      have HB4 := Lib.hid (below_step HB.out hb4)
      generalize later wr y = w4 at hb4 hN4 HB4 ⊢
      clear l0 l1 HR hv HNd HB hb4
      have hle4 : w.heap.size ≤ vd := hle
      obtain ⟨k0, k1⟩ := two_cells hN4
      go_wp2_with fail
      refine (entryOf_code H a S g (d1, d2) e w4 (rep_below HH.out HB4.out) hg.ok HFI.out (Nat.le_trans hg.ok.entsFew (by decide))).mono ?_
      rintro z w5 ⟨rfl, hb5⟩
      have hN5 := (hb5.block _ (heap_lt hN4)).trans hN4
      have HB5 := Lib.hid (below_step HB4.out hb5)
      have hE6 := heap_alloc_new w5 (.cells (entA e) 70)
      have hN6 := (heap_alloc_old w5 (.cells (entA e) 70) (heap_lt hN5)).trans hN5
      have HB6 := Lib.hid (HB5.out.alloc HB5.out.size (.cells (entA e) 70))
      clear k0 k1 hN4 hb5 hN5 HB5 HB4 HFI
      unfold entA at hE6 hN6 HB6 ⊢
      go_upto_region 10 with fail
      obtain ⟨q, hq⟩ : ∃ q, q = w5.heap.size := ⟨_, rfl⟩
      rw [← hq] at hE6 ⊢
      generalize w5.alloc (.cells #[.int .i64 e.dir.1, .int .i64 e.dir.2, .string e.name, .int .i64 e.ino.1, .int .i64 e.ino.2] 70) = w6 at hE6 hN6 HB6 ⊢
      clear hq
      obtain ⟨e0, e1, e2, e3, e4⟩ := five_cells hE6
      obtain ⟨k0, k1⟩ := two_cells hN6
      obtain ⟨m0, m1⟩ := two_free hN6
      have HP := Lib.hid (two_put hN6 (.int .i64 e.dir.1) (.int .i64 e.dir.2))
      have HB7 := Lib.hid ((HB6.out.setCell hle4 (.int .i64 e.dir.1) (p := ⟨vd, 0, none⟩)).setCell hle4 (.int .i64 e.dir.2) (p := ⟨vd, 1, none⟩))
      clear hE6 hN6 HB6 hle4 hle
      go_region
      all_goals
        have hN7 : ((w6.setCell ⟨vd, 0, none⟩ (.int .i64 e.dir.1)).setCell ⟨vd, 1, none⟩ (.int .i64 e.dir.2)).drew.heap[vd]? = some (.cells #[.int .i64 e.dir.1, .int .i64 e.dir.2] 24 (0, 0)) := HP.out
        have hB7 := HB7.out.drew
        clear HP HB7 e0 e1 e2 e3 e4 k0 k1 m0 m1
        generalize ((w6.setCell ⟨vd, 0, none⟩ (.int .i64 e.dir.1)).setCell ⟨vd, 1, none⟩ (.int .i64 e.dir.2)).drew = w7 at hN7 hB7 ⊢
        obtain ⟨k0, k1⟩ := two_cells hN7
        have HB7 := Lib.hid hB7
        clear hN7 hB7
        go_wp2_with fail
        go_roundg (m' + 1)
        case measure => omega
        case rel => exact ⟨m', rfl, e.dir, l', e.name :: rest, w7.heap.size, by rw [← HHang.out], rfl, heap_alloc_new w7 _, HDN.out, by have q := HLR.out; rw [List.append_assoc] at q; exact q, HB7.out.alloc HB7.out.size _, HB7.out.size⟩

set_option maxRecDepth 100000 in
set_option maxHeartbeats 800000 in
theorem nilHome_code (H : GraphHave) (id : St) (w : World) :
    Calls Tryz.prog 13 #[.pointer none, .agg (stA id)] w fun e w' => e = .returned (.tuple #[.string ⟨#[]⟩, .bool false]) ∧ Below w.heap.size w w' := by
  obtain ⟨u, hu⟩ : ∃ u, u = w.heap.size := ⟨_, rfl⟩
  have hw0 : Held w [(u, .cells (stA id) 24)] (w.alloc (.cells (stA id) 24)) := (Held.refl w).alloc (.cells (stA id) 24) hu.symm
  have hgt : Hid (∀ W : World, Calls Tryz.prog 12 #[.pointer none, .agg (stA id)] W fun e w' => e = .returned (.tuple #[.agg (inoA noIno), .bool false]) ∧ Below W.heap.size W w') := Lib.hid fun W => H.nilGet id W
  obtain ⟨a1, a2⟩ := id
  unfold stA at hw0 hgt ⊢
  unfold inoA noIno at hgt
  dsimp only at hw0 hgt ⊢
  go_enter Tryz.func13, Tryz.ntmps13
  go_upto_region 1 with fail
  change Code.wp _ _ _ _ (w.alloc (.cells #[.int .i64 a1, .int .i64 a2] 24))
  generalize w.alloc (.cells #[.int .i64 a1, .int .i64 a2] 24) = w0 at hw0 ⊢
  rw [← hu]
  clear hu
  obtain ⟨s0, s1⟩ := two_cells (g := u) (hw0.at 0 rfl)
  have HW0 := Lib.hid hw0
  clear hw0
  go_wp2_with fail
  refine (hgt.out _).mono ?_
  rintro e w1 ⟨rfl, hb1⟩
  have hN2 := heap_alloc_new w1 (.cells #[.int .i64 0, .int .i64 0, .int .i64 0, .int .i64 0, .int .i64 0, .string ⟨#[]⟩] 32)
  have HW2 := Lib.hid ((HW0.out.step hb1).alloc (.cells #[.int .i64 0, .int .i64 0, .int .i64 0, .int .i64 0, .int .i64 0, .string ⟨#[]⟩] 32) rfl)
  clear s0 s1 hb1 HW0 hgt
  go_upto_region 2 with fail
  obtain ⟨v, hv⟩ : ∃ v, v = w1.heap.size := ⟨_, rfl⟩
  rw [← hv] at hN2 HW2 ⊢
  generalize w1.alloc (.cells #[.int .i64 0, .int .i64 0, .int .i64 0, .int .i64 0, .int .i64 0, .string ⟨#[]⟩] 32) = w2 at hN2 HW2 ⊢
  clear hv
  have x2 := cell_of_row _ _ 2 _ _ (0, 0) hN2
  have HB := Lib.hid HW2.out.below
  clear hN2 HW2
  go_wp2_with fail
  exact bodyPost_ret (v := .tuple #[.string ⟨#[]⟩, .bool false]) (by simp [results, Tryz.results13, go_sem]) rfl ⟨rfl, HB.out⟩

end Go.Proofs.YtbkijfhfjhpebaaGreatDoor

/-
  Stamps as a map's keys.
-/
namespace Go.Proofs.YtbkijfhfjhpebaaGreatDoor
open Go.RowKit StampMath GraphMath

def stV (x : St) : Value := .agg (stA x)

theorem stV_inj (x y : St) (h : stV x = stV y) : x = y := by
  unfold stV stA at h
  simp at h
  exact Prod.ext h.1 h.2

theorem checkKey_st (w : World) (em : Bool) (n : Nat) (x : St) : (Instr.checkKey em (n + 2) 24 (.agg (stA x))).run Tryz.prog w = .ok () w := by
  refine checkKey_struct (n := n + 1) Tryz.underlying24 w em (stA x) fun f hf => ?_
  simp at hf
  rcases hf with rfl | rfl
  · exact ⟨by decide, .int .i64 x.1, by unfold stA; go_simp, checkKey_int Tryz.underlying2 w em n x.1⟩
  · exact ⟨by decide, .int .i64 x.2, by unfold stA; go_simp, checkKey_int Tryz.underlying3 w em n x.2⟩

theorem stShape : KShape Tryz.prog 24 stV :=
  KShape.of_equal (by kernel_rfl) stV_inj (fun w x y => run_eqSt x.1 x.2 y.1 y.2 w) (fun w em x => checkKey_st w em 9998 x) (fun x => by
    unfold stV stA
    show Instr.sameBits (9999 + 1) _ _ = true
    simp [Instr.sameBits])

end Go.Proofs.YtbkijfhfjhpebaaGreatDoor

/-
  The shapes of a graph's maps: places as keys.
-/
namespace Go.Proofs.YtbkijfhfjhpebaaGreatDoor
open Go.RowKit StampMath GraphMath

def inoV (x : Ino) : Value := .agg (inoA x)
def plV (p : St × ByteArray) : Value := .agg #[.int .i64 p.1.1, .int .i64 p.1.2, .string p.2]

theorem plV_inj (x y : St × ByteArray) (h : plV x = plV y) : x = y := by
  unfold plV at h
  simp at h
  exact Prod.ext (Prod.ext h.1 h.2.1) h.2.2

theorem run_eqPl (a b : Int) (s : ByteArray) (c d : Int) (u : ByteArray) (W : World) : (Op.equalIn 10000 78 (.agg #[.int .i64 a, .int .i64 b, .string s]) (.agg #[.int .i64 c, .int .i64 d, .string u])).run Tryz.prog W = .ok (decide (((a, b), s) = ((c, d), u))) W := by
  go_simp
  by_cases h1 : a = c
  · by_cases h2 : b = d
    · by_cases h3 : s = u
      · simp [h1, h2, h3]
      · simp [h1, h2, h3]
        intro h4
        exact h3 (bytes_same h4)
    · simp [h1, h2]
  · simp [h1]

theorem checkKey_pl (w : World) (em : Bool) (n : Nat) (p : St × ByteArray) : (Instr.checkKey em (n + 3) 78 (plV p)).run Tryz.prog w = .ok () w := by
  refine checkKey_struct (n := n + 2) Tryz.underlying78 w em _ fun f hf => ?_
  simp at hf
  rcases hf with rfl | rfl
  · exact ⟨by decide, .agg (stA p.1), by unfold stA; go_simp, checkKey_st w em n p.1⟩
  · exact ⟨by decide, .string p.2, by go_simp, checkKey_string Tryz.underlying9 w em (n + 1) p.2⟩

theorem plShape : KShape Tryz.prog 78 plV :=
  KShape.of_equal (by kernel_rfl) plV_inj (fun w x y => run_eqPl x.1.1 x.1.2 x.2 y.1.1 y.1.2 y.2 w) (fun w em x => checkKey_pl w em 9997 x) (fun x => by
    unfold plV
    show Instr.sameBits (9999 + 1) _ _ = true
    simp [Instr.sameBits, MapKept.bytes_beq])

end Go.Proofs.YtbkijfhfjhpebaaGreatDoor

/-
  The code of package graph (as it landed): a graph in memory is a block of two maps; root, Get.
-/
namespace Go.Proofs.YtbkijfhfjhpebaaGreatDoor
open Go.RowKit StampMath GraphMath

/-- A graph in memory. -/
def GIn (W : World) (S : Nat → Prop) (a : Addr) (g : Gr) : Prop :=
  ∃ b bi be, a = ⟨b, 0, none⟩ ∧ b ≠ bi ∧ b ≠ be ∧ bi ≠ be ∧ W.heap[b]? = some (.cells #[.map (some bi), .map (some be)] 65 (0, 0)) ∧
    KMap stV inoV W bi (pairsI g) ∧ KMap plV stV W be (pairsE g) ∧ ∀ i, S i ↔ i = b ∨ i = bi ∨ i = be

theorem GIn.lt {W : World} {S : Nat → Prop} {a : Addr} {g : Gr} (h : GIn W S a g) : ∀ i, S i → i < W.heap.size := by
  obtain ⟨b, bi, be, rfl, _, _, _, hb, hi, he, hS⟩ := h
  intro i hs
  rcases (hS i).1 hs with rfl | rfl | rfl
  · exact heap_lt hb
  · exact hi.lt
  · exact he.lt

theorem GIn.keep {W W' : World} {S : Nat → Prop} {a : Addr} {g : Gr} (h : GIn W S a g) (hk : ∀ i, S i → W'.heap[i]? = W.heap[i]?) : GIn W' S a g := by
  obtain ⟨b, bi, be, rfl, h1, h2, h3, hb, hi, he, hS⟩ := h
  exact ⟨b, bi, be, rfl, h1, h2, h3, (hk b ((hS b).2 (.inl rfl))).trans hb, hi.kept (hk bi ((hS bi).2 (.inr (.inl rfl)))), he.kept (hk be ((hS be).2 (.inr (.inr rfl)))), hS⟩

theorem zeroIno (w : World) : (zeroValue 32).run Tryz.prog w = .ok (inoV noIno) w := by kernel_rfl
theorem zeroSt (w : World) : (zeroValue 24).run Tryz.prog w = .ok (stV (0, 0)) w := by kernel_rfl

theorem root_any (w : World) : Calls Tryz.prog 36 #[] w fun e w' => e = .returned (.agg #[.int .i64 0, .int .i64 0]) ∧ Below w.heap.size w w' := by
  go_enter Tryz.func36, Tryz.ntmps36
  go_wp2_with fail
  obtain ⟨z0, z1⟩ := two_cells (heap_alloc_new w (.cells #[.int .i64 0, .int .i64 0] 24))
  exact bodyPost_ret (v := .agg #[.int .i64 0, .int .i64 0]) (by simp [results, Tryz.results36, go_sem, z0, z1]) rfl ⟨rfl, (Below.refl _ _).alloc (Nat.le_refl _) _⟩

set_option maxRecDepth 100000 in
theorem get_code (a : Addr) (S : Nat → Prop) (g : Gr) (id : St) (w : World) (h : GIn w S a g) (hg : g.ok) :
    Calls Tryz.prog 12 #[.pointer (some a), .agg (stA id)] w fun e w' => e = .returned (.tuple #[.agg (inoA ((getG g id).getD noIno)), .bool (getG g id).isSome]) ∧ Below w.heap.size w w' := by
  obtain ⟨b, bi, be, rfl, h1, h2, h3, hb, hi, he, hS⟩ := h
  obtain ⟨c0, c1⟩ := two_cells hb
  obtain ⟨ok, hok⟩ : ∃ ok, ok = (getG g id).isSome := ⟨_, rfl⟩
  obtain ⟨v, hv⟩ : ∃ v, v = (getG g id).getD noIno := ⟨_, rfl⟩
  rw [← hok, ← hv]
  have hlook : ∀ W : World, Hid (Below w.heap.size w W) → (Instr.lookup 62 (.map (some bi)) (.agg #[.int .i64 id.1, .int .i64 id.2]) true).run Tryz.prog W = .ok (.tuple #[.agg #[.int .i64 v.id.1, .int .i64 v.id.2, .int .i64 v.kind, .int .i64 v.links, .int .i64 v.mode, .string v.data], .bool ok]) W := fun W hW => by
    have hl := (hi.kept (hW.out.block bi hi.lt)).look stShape Tryz.underlying62 (zeroIno W) id true
    rw [look_pairsI hg, if_pos rfl, show ((getG g id).map inoV).getD (inoV noIno) = inoV v by rw [hv]; cases getG g id <;> rfl, ← hok] at hl
    exact hl
  have hlt := heap_lt hb
  have HL := Lib.hid hlook
  clear hi he hb hS hlook hok hv
  unfold stA
  go_enter Tryz.func12, Tryz.ntmps12
  go_wp2_with fail
  have hbW : Below w.heap.size w ((w.alloc (.cells #[.int .i64 id.1, .int .i64 id.2] 24)).alloc (.cells #[.int .i64 0, .int .i64 0, .int .i64 0, .int .i64 0, .int .i64 0, .string ⟨#[]⟩] 32)) := ((Below.refl _ _).alloc (Nat.le_refl _) _).alloc (by simp) _
  have hb1 := (hbW.alloc hbW.size (.cells #[.int .i64 0, .int .i64 0, .int .i64 0, .int .i64 0, .int .i64 0, .string ⟨#[]⟩] 32)).drew
  have d0 := (hb1.cell (p := ⟨b, 0, none⟩) hlt).trans c0
  have hl := HL.out _ hb1
  have c0w := (hbW.cell (p := ⟨b, 0, none⟩) hlt).trans c0
  have hl0 := HL.out _ hbW.drew
  have HB := Lib.hid hbW
  clear hbW hb1
  go_region
  all_goals clear d0 hl c0w hl0
  all_goals go_wp2_with fail
  all_goals exact bodyPost_ret (v := .tuple #[.agg (inoA v), .bool ok]) (by simp [results, Tryz.results12, go_sem, inoA]) rfl ⟨rfl, by
    repeat (first | exact Below.refl _ _ | apply Below.drew | refine Below.alloc ?_ (by simp <;> omega) _)⟩

end Go.Proofs.YtbkijfhfjhpebaaGreatDoor

/-
  A slice of pairs of integers (structs of two integer fields) that is only read. It needs no program.
-/
namespace Go.Proofs.YtbkijfhfjhpebaaGreatDoor
open Go.RowKit

/-- Both cells of a box written. -/
theorem box_set {w : World} {g : Nat} {a b c d : Value} {t : TypeId} (h : w.heap[g]? = some (.cells #[a, b] t (0, 0))) :
    ((w.setCell ⟨g, 0, none⟩ c).setCell ⟨g, 1, none⟩ d).heap[g]? = some (.cells #[c, d] t (0, 0)) := by
  rw [heap_setCell_same _ _ _ _ _ _ (heap_setCell_same _ _ _ _ _ _ h)]
  rfl

/-- The slice with address A and length n reads as the pairs xs, and lies below block B. -/
def PairsIn (W : World) (B : Nat) (A : Option Addr) (n : Nat) (xs : List (Int × Int)) : Prop :=
  xs.length = n ∧ (0 < n → ∃ g o, A = some ⟨g, o, none⟩ ∧ g < B ∧
    ∀ j (h : j < xs.length), W.cell? ⟨g, o + j * 2, none⟩ = some (.int .i64 xs[j].1) ∧ W.cell? ⟨g, o + j * 2 + 1, none⟩ = some (.int .i64 xs[j].2))

theorem PairsIn.below {W W' : World} {B : Nat} {A : Option Addr} {n : Nat} {xs : List (Int × Int)} (h : PairsIn W B A n xs) (hb : Below B W W') : PairsIn W' B A n xs :=
  ⟨h.1, fun hn => by
    obtain ⟨g, o, e, hg, hc⟩ := h.2 hn
    exact ⟨g, o, e, hg, fun j hj => ⟨(hb.cell (p := ⟨g, o + j * 2, none⟩) hg).trans (hc j hj).1, (hb.cell (p := ⟨g, o + j * 2 + 1, none⟩) hg).trans (hc j hj).2⟩⟩⟩

theorem PairsIn.more {W : World} {B B' : Nat} {A : Option Addr} {n : Nat} {xs : List (Int × Int)} (h : PairsIn W B A n xs) (hB : B ≤ B') : PairsIn W B' A n xs :=
  ⟨h.1, fun hn => by
    obtain ⟨g, o, e, hg, hc⟩ := h.2 hn
    exact ⟨g, o, e, by omega, hc⟩⟩

end Go.Proofs.YtbkijfhfjhpebaaGreatDoor

/-
  The walks of package cmp's functions and of stamp's Compare, with what they leave: the world, so many draws on and so many blocks more.
-/
namespace Go.Proofs.YtbkijfhfjhpebaaGreatDoor
open Go.RowKit StampMath

theorem nan64 (t : Int) (w : World) : Calls Tryz.prog 68 #[.int .i64 t] w fun e w' => e = .returned (.bool false) ∧ w = w' := by
  go_enter Tryz.func68, Tryz.ntmps68
  go_wp2_with fail
  go_ret
  exact ⟨by simp, rfl⟩

theorem nanInt (t : Int) (w : World) : Calls Tryz.prog 69 #[.int .i64 t] w fun e w' => e = .returned (.bool false) ∧ w = w' := by
  go_enter Tryz.func69, Tryz.ntmps69
  go_wp2_with fail
  go_ret
  exact ⟨by simp, rfl⟩

theorem cell_alloc {W : World} {o : Obj} {a : Addr} {v : Value} (h : W.cell? a = some v) : (W.alloc o).cell? a = some v :=
  (World.cell?_alloc_lt W o a (World.block_lt_of_cell? _ _ h)).trans h

theorem kept_alloc4 {w W : World} {a b c d : Addr} {u v x y : Value} (o : Obj) (h : (W.cell? a = some u ∧ W.cell? b = some v ∧ W.cell? c = some x ∧ W.cell? d = some y) ∧ KeptFrom w W) :
    ((W.alloc o).cell? a = some u ∧ (W.alloc o).cell? b = some v ∧ (W.alloc o).cell? c = some x ∧ (W.alloc o).cell? d = some y) ∧ KeptFrom w (W.alloc o) :=
  ⟨⟨cell_alloc h.1.1, cell_alloc h.1.2.1, cell_alloc h.1.2.2.1, cell_alloc h.1.2.2.2⟩, (kept_below h.2).alloc (kept_below h.2).size o⟩

theorem cell_third (w : World) (o1 o2 : Obj) (a b : Value) (T : TypeId) :
    (((w.alloc o1).alloc o2).alloc (.cells #[a, b] T)).drew.cell? ⟨w.heap.size + 1 + 1, 0, none⟩ = some a ∧ (((w.alloc o1).alloc o2).alloc (.cells #[a, b] T)).drew.cell? ⟨w.heap.size + 1 + 1, 1, none⟩ = some b := by
  have h := heap_alloc_new ((w.alloc o1).alloc o2) (.cells #[a, b] T)
  have e : ((w.alloc o1).alloc o2).heap.size = w.heap.size + 1 + 1 := by simp
  rw [e] at h
  exact ⟨cell_of_row _ _ 0 _ _ (0, 0) h, cell_of_row _ _ 1 _ _ (0, 0) h⟩

/-- Which of two numbers is first. -/
def cmp1 (x y : Int) : Int := if x < y then -1 else if y < x then 1 else 0

set_option maxHeartbeats 400000 in
theorem compare64 (x y : Int) (w : World) : Calls Tryz.prog 44 #[.int .i64 x, .int .i64 y] w fun e w' => e = .returned (.int .i64 (cmp1 x y)) ∧ w = w' := by
  have hcase : (x < y ∧ cmp1 x y = -1) ∨ (¬ x < y ∧ y < x ∧ cmp1 x y = 1) ∨ (¬ x < y ∧ ¬ y < x ∧ cmp1 x y = 0) := by
    unfold cmp1
    by_cases h1 : x < y
    · exact Or.inl ⟨h1, by rw [if_pos h1]⟩
    · by_cases h2 : y < x
      · exact Or.inr (Or.inl ⟨h1, h2, by rw [if_neg h1, if_pos h2]⟩)
      · exact Or.inr (Or.inr ⟨h1, h2, by rw [if_neg h1, if_neg h2]⟩)
  rcases hcase with ⟨h1, h⟩ | ⟨h1, h2, h⟩ | ⟨h1, h2, h⟩
  all_goals
    rw [h]
    clear h
    go_enter Tryz.func44, Tryz.ntmps44
    go_wp2_with fail
    refine (nan64 _ _).mono ?_
    rintro e w' ⟨rfl, rfl⟩
    go_wp2_with fail
    refine (nan64 _ _).mono ?_
    rintro e w' ⟨rfl, rfl⟩
    go_wp2_with fail
    go_ret
    exact ⟨rfl, rfl⟩

set_option maxHeartbeats 400000 in
theorem compareInt (x y : Int) (w : World) : Calls Tryz.prog 45 #[.int .i64 x, .int .i64 y] w fun e w' => e = .returned (.int .i64 (cmp1 x y)) ∧ w = w' := by
  have hcase : (x < y ∧ cmp1 x y = -1) ∨ (¬ x < y ∧ y < x ∧ cmp1 x y = 1) ∨ (¬ x < y ∧ ¬ y < x ∧ cmp1 x y = 0) := by
    unfold cmp1
    by_cases h1 : x < y
    · exact Or.inl ⟨h1, by rw [if_pos h1]⟩
    · by_cases h2 : y < x
      · exact Or.inr (Or.inl ⟨h1, h2, by rw [if_neg h1, if_pos h2]⟩)
      · exact Or.inr (Or.inr ⟨h1, h2, by rw [if_neg h1, if_neg h2]⟩)
  rcases hcase with ⟨h1, h⟩ | ⟨h1, h2, h⟩ | ⟨h1, h2, h⟩
  all_goals
    rw [h]
    clear h
    go_enter Tryz.func45, Tryz.ntmps45
    go_wp2_with fail
    refine (nanInt _ _).mono ?_
    rintro e w' ⟨rfl, rfl⟩
    go_wp2_with fail
    refine (nanInt _ _).mono ?_
    rintro e w' ⟨rfl, rfl⟩
    go_wp2_with fail
    go_ret
    exact ⟨rfl, rfl⟩

/-- The first of two numbers that is not zero. -/
def or2 (a b : Int) : Int := if a = 0 then b else a

theorem or2_cmp (t r t' r' : Int) : or2 (cmp1 t t') (cmp1 r r') = cmp t r t' r' := by
  have h := cmp_cases t r t' r'
  unfold or2 cmp1
  split <;> split <;> (try split) <;> (try split) <;> omega

set_option maxHeartbeats 400000 in
theorem or_any (g : Nat) (a b : Int) (W : World) (h0 : W.cell? ⟨g, 0, none⟩ = some (.int .i64 a)) (h1 : W.cell? ⟨g, 1, none⟩ = some (.int .i64 b)) :
    Calls Tryz.prog 43 #[.slice (some ⟨g, 0, none⟩) 2 2] W fun e w' => e = .returned (.int .i64 (or2 a b)) ∧ W = w' := by
  go_enter Tryz.func43, Tryz.ntmps43
  go_wp2_with fail
  go_loop [8] (fun i => ∃ k : Nat, i = .int .i64 (k : Int) ∧ k ≤ 2 ∧ (0 < k → a = 0) ∧ (1 < k → b = 0)) (fun i => 2 - (intOf i).toNat)
  case atStart => exact ⟨0, rfl, by omega, by omega, by omega⟩
  case round =>
    obtain ⟨k, rfl, hk, ha, hb⟩ := hrel
    have HA := Lib.hid ha
    have HB := Lib.hid hb
    clear ha hb
    have hk3 : k = 0 ∨ k = 1 ∨ k = 2 := by omega
    clear hk
    rcases hk3 with rfl | rfl | rfl
    · by_cases hz : a = 0
      · have hz' : (a == 0) = true := by simp [hz]
        have HZ := Lib.hid hz
        clear hz
        go_wp2_with fail
        exact ⟨⟨1, by go_num, by omega, fun _ => HZ.out, by omega⟩, by simp [intOf]⟩
      · have hz' : (a == 0) = false := by simp [hz]
        have HZ := Lib.hid hz
        clear hz
        go_wp2_with fail
        go_ret
        exact ⟨by rw [or2, if_neg HZ.out]; rfl, rfl⟩
    · by_cases hz : b = 0
      · have hz' : (b == 0) = true := by simp [hz]
        have HZ := Lib.hid hz
        clear hz
        go_wp2_with fail
        exact ⟨⟨2, by go_num, by omega, fun _ => HA.out (by omega), fun _ => HZ.out⟩, by simp [intOf]⟩
      · have hz' : (b == 0) = false := by simp [hz]
        have HZ := Lib.hid hz
        clear hz
        go_wp2_with fail
        go_ret
        exact ⟨by rw [or2, if_pos (HA.out (by omega))]; rfl, rfl⟩
    · go_wp2_with fail
      go_ret
      exact ⟨by rw [or2, if_pos (HA.out (by omega)), HB.out (by omega)]; rfl, rfl⟩

/-- All that was there is as it was; draws and blocks have come. -/
def Grown (w W : World) : Prop := Below w.heap.size w W ∧ w.drawn ≤ W.drawn

theorem Grown.refl (w : World) : Grown w w := ⟨Below.refl _ _, Nat.le_refl _⟩
theorem Grown.alloc {w W : World} (h : Grown w W) (o : Obj) : Grown w (W.alloc o) := ⟨(kept_below h.1).alloc h.1.size o, h.2⟩
theorem Grown.drew {w W : World} (h : Grown w W) : Grown w W.drew := ⟨h.1.drew, Nat.le_trans h.2 (Nat.le_succ _)⟩
theorem Grown.trans {a b c : World} (h : Grown a b) (k : Grown b c) : Grown a c := ⟨below_step h.1 k.1, Nat.le_trans h.2 k.2⟩

theorem Grown.grow {w W : World} (h : Grown w W) : ∃ q os, W = Sort.grow (w.drewN q) os := by
  obtain ⟨hb, hd⟩ := h
  refine ⟨W.drawn - w.drawn, W.heap.extract w.heap.size W.heap.size, ?_⟩
  have hh : W.heap = w.heap ++ W.heap.extract w.heap.size W.heap.size := by
    apply Array.ext_getElem?
    intro i
    have hs := hb.size
    by_cases hi : i < w.heap.size
    · rw [hb.block i hi, Array.getElem?_append_left hi]
    · rw [Array.getElem?_append_right (by omega)]
      simp only [Array.getElem?_extract]
      by_cases hi2 : i < W.heap.size
      · rw [if_pos (by omega), show w.heap.size + (i - w.heap.size) = i by omega]
      · rw [if_neg (by omega), Array.getElem?_eq_none (by omega)]
  have e1 := hb.os
  have e2 := hb.tape
  have e3 := hb.output
  obtain ⟨H, T, D, O, U⟩ := W
  obtain ⟨H', T', D', O', U'⟩ := w
  simp only at hh e1 e2 e3 hd
  subst e1 e2 e3
  have e4 : D' + (D - D') = D := by omega
  unfold Sort.grow World.drewN
  simp only [World.mk.injEq, true_and, and_true]
  exact ⟨hh, e4.symm⟩

theorem grown_alloc4 {w W : World} {a b c d : Addr} {u v x y : Value} (o : Obj) (h : (W.cell? a = some u ∧ W.cell? b = some v ∧ W.cell? c = some x ∧ W.cell? d = some y) ∧ Grown w W) :
    ((W.alloc o).cell? a = some u ∧ (W.alloc o).cell? b = some v ∧ (W.alloc o).cell? c = some x ∧ (W.alloc o).cell? d = some y) ∧ Grown w (W.alloc o) :=
  ⟨⟨cell_alloc h.1.1, cell_alloc h.1.2.1, cell_alloc h.1.2.2.1, cell_alloc h.1.2.2.2⟩, h.2.alloc o⟩

set_option maxHeartbeats 800000 in
theorem compare_grown (t r t' r' : Int) (w : World) :
    Calls Tryz.prog 24 #[.agg #[.int .i64 t, .int .i64 r], .agg #[.int .i64 t', .int .i64 r']] w fun e w' => e = .returned (.int .i64 (cmp t r t' r')) ∧ Grown w w' := by
  have hv := or2_cmp t r t' r'
  obtain ⟨x, hx⟩ : ∃ x, x = cmp1 t t' := ⟨_, rfl⟩
  obtain ⟨y, hy⟩ : ∃ y, y = cmp1 r r' := ⟨_, rfl⟩
  have H1 : Hid (∀ W : World, Calls Tryz.prog 44 #[.int .i64 t, .int .i64 t'] W fun e w' => e = .returned (.int .i64 x) ∧ W = w') := fun W => by rw [hx]; exact compare64 _ _ W
  have H2 : Hid (∀ W : World, Calls Tryz.prog 45 #[.int .i64 r, .int .i64 r'] W fun e w' => e = .returned (.int .i64 y) ∧ W = w') := fun W => by rw [hy]; exact compareInt _ _ W
  rw [← hx, ← hy] at hv
  have HV := Lib.hid hv
  clear hv hx hy
  go_enter Tryz.func24, Tryz.ntmps24
  go_wp2_with fail
  have hS0 : (((w.alloc (.cells #[.int .i64 t, .int .i64 r] 24)).alloc (.cells #[.int .i64 t', .int .i64 r'] 24)).drew.cell? ⟨w.heap.size, 0, none⟩ = some (.int .i64 t) ∧ ((w.alloc (.cells #[.int .i64 t, .int .i64 r] 24)).alloc (.cells #[.int .i64 t', .int .i64 r'] 24)).drew.cell? ⟨w.heap.size, 1, none⟩ = some (.int .i64 r) ∧ ((w.alloc (.cells #[.int .i64 t, .int .i64 r] 24)).alloc (.cells #[.int .i64 t', .int .i64 r'] 24)).drew.cell? ⟨w.heap.size + 1, 0, none⟩ = some (.int .i64 t') ∧ ((w.alloc (.cells #[.int .i64 t, .int .i64 r] 24)).alloc (.cells #[.int .i64 t', .int .i64 r'] 24)).drew.cell? ⟨w.heap.size + 1, 1, none⟩ = some (.int .i64 r')) ∧ Grown w ((w.alloc (.cells #[.int .i64 t, .int .i64 r] 24)).alloc (.cells #[.int .i64 t', .int .i64 r'] 24)).drew := by
    refine ⟨⟨?_, ?_, ?_, ?_⟩, (((Grown.refl _).alloc _).alloc _).drew⟩
    · exact cell_of_row _ _ 0 _ _ (0, 0) (heap_alloc2_old w _ _)
    · exact cell_of_row _ _ 1 _ _ (0, 0) (heap_alloc2_old w _ _)
    · exact cell_of_row _ _ 0 _ _ (0, 0) (heap_alloc2_new w _ _)
    · exact cell_of_row _ _ 1 _ _ (0, 0) (heap_alloc2_new w _ _)
  go_region_held3 (fun W => (W.cell? ⟨w.heap.size, 0, none⟩ = some (.int .i64 t) ∧ W.cell? ⟨w.heap.size, 1, none⟩ = some (.int .i64 r) ∧ W.cell? ⟨w.heap.size + 1, 0, none⟩ = some (.int .i64 t') ∧ W.cell? ⟨w.heap.size + 1, 1, none⟩ = some (.int .i64 r')) ∧ Grown w W) (first | assumption | exact grown_alloc4 _ (by assumption) | (refine ⟨⟨?_, ?_, ?_, ?_⟩, ?_⟩ <;> assumption))
    (first
      | (go_at_call 44; (with_reducible refine (H1.out _).mono ?_); rintro e w' ⟨rfl, rfl⟩; have hS := hS0)
      | (go_at_call 45; (with_reducible refine (H2.out _).mono ?_); rintro e w' ⟨rfl, rfl⟩; have hS := hS0)
      | (go_at_call 43; refine (or_any _ x y _ ?_ ?_).mono ?_; exact (cell_third w _ _ _ _ _).1; exact (cell_third w _ _ _ _ _).2; rintro e w' ⟨rfl, rfl⟩; have hS := ‹(_ ∧ _ ∧ _ ∧ _) ∧ Grown w _›))
  have hB := (show Grown w _ from And.right ‹(_ ∧ _ ∧ _ ∧ _) ∧ Grown w _›)
  clear hS0
  go_wp2_with fail
  go_ret
  exact ⟨by rw [← HV.out]; rfl, hB⟩

end Go.Proofs.YtbkijfhfjhpebaaGreatDoor

/-
  The order of entries and of inodes as a sort's own: it needs no program.
-/
namespace Go.Proofs.YtbkijfhfjhpebaaGreatDoor.GraphMath
open StampMath

instance entThere : Inhabited Ent := ⟨⟨(0, 0), ⟨#[]⟩, (0, 0)⟩⟩
instance inoThere : Inhabited Ino := ⟨noIno⟩

theorem sorted_only {α : Type} {r : α → α → Bool} (irr : ∀ x, r x x = false) (tr : ∀ x y z, r x y = true → r y z = true → r x z = true) {l E : List α} (hE : E.Pairwise fun a b => r a b = true) (hp : l.Perm E) (hs : l.Pairwise fun x y => r y x = false) : l = E := by
  have asym : ∀ x y, r x y = true → r y x = false := fun x y h => by
    cases hq : r y x with
    | false => rfl
    | true => have := tr x y x h hq; rw [irr] at this; cases this
  refine List.Perm.eq_of_pairwise (le := fun x y => r y x = false) (fun a b ha hb h1 h2 => ?_) hs (hE.imp fun h => asym _ _ h) hp
  have all : ∀ x ∈ E, ∀ y ∈ E, x = y ∨ r x y = true ∨ r y x = true := by
    intro x hx y hy
    obtain ⟨i, hi, rfl⟩ := List.getElem_of_mem hx
    obtain ⟨j, hj, rfl⟩ := List.getElem_of_mem hy
    have q := List.pairwise_iff_getElem.1 hE
    rcases Nat.lt_trichotomy i j with h | h | h
    · exact Or.inr (Or.inl (q i j hi hj h))
    · subst h; exact Or.inl rfl
    · exact Or.inr (Or.inr (q j i hj hi h))
  rcases all a (hp.mem_iff.1 ha) b hb with h | h | h
  · exact h
  · rw [h] at h2; cases h2
  · rw [h] at h1; cases h1

theorem bytesLess_eq : ∀ (x y : List UInt8), Op.bytesLess x y = decide (x < y)
  | [], [] => by simp [Op.bytesLess]
  | _ :: _, [] => by simp [Op.bytesLess]
  | [], _ :: _ => by simp [Op.bytesLess]
  | a :: x, b :: y => by
    rw [Op.bytesLess, bytesLess_eq x y]
    simp only [List.cons_lt_cons_iff]
    by_cases h1 : a < b <;> by_cases h2 : a = b <;> by_cases h3 : x < y <;> simp [h1, h2, h3]

theorem namesLess_eq (a b : ByteArray) : Op.bytesLess a.toList b.toList = decide (a.data.toList < b.data.toList) := by
  rw [bytesLess_eq, ByteArray.toList_eq, ByteArray.toList_eq]

/-- What package cmp's Compare tells of two strings. -/
def cmpB (a b : List UInt8) : Int := if a < b then -1 else if a = b then 0 else 1

theorem cmpB_lt (a b : List UInt8) : cmpB a b < 0 ↔ a < b := by
  unfold cmpB
  by_cases h : a < b
  · simp [h]
  · rw [if_neg h]
    by_cases h2 : a = b <;> simp [h, h2]

/-- What comparing two entries tells. -/
def aheadI (x y : Ent) : Int := if cmp x.dir.1 x.dir.2 y.dir.1 y.dir.2 = 0 then cmpB x.name.data.toList y.name.data.toList else cmp x.dir.1 x.dir.2 y.dir.1 y.dir.2

theorem cmp_lt (a b : St) : cmp a.1 a.2 b.1 b.2 < 0 ↔ lessS a b = true := by
  show (if lessS a b = true then (-1 : Int) else if lessS b a = true then 1 else 0) < 0 ↔ _
  by_cases h : lessS a b = true
  · simp [h]
  · rw [if_neg h]
    by_cases h2 : lessS b a = true <;> simp [h, h2]

theorem cmp_zero (a b : St) : cmp a.1 a.2 b.1 b.2 = 0 ↔ a = b := by
  show (if lessS a b = true then (-1 : Int) else if lessS b a = true then 1 else 0) = 0 ↔ _
  constructor
  · intro h
    by_cases h1 : lessS a b = true
    · rw [if_pos h1] at h; omega
    · rw [if_neg h1] at h
      by_cases h2 : lessS b a = true
      · rw [if_pos h2] at h; omega
      · by_cases he : a = b
        · exact he
        · exact absurd (lessS_total (Bool.eq_false_iff.2 h1) he) h2
  · rintro rfl
    rw [if_neg (by rw [lessS_irrefl]; simp), if_neg (by rw [lessS_irrefl]; simp)]

theorem aheadI_lt (x y : Ent) : ltOf aheadI x y = aheadE x y := by
  unfold ltOf aheadI
  rw [Bool.eq_iff_iff, decide_eq_true_iff, aheadE_iff]
  by_cases h : x.dir = y.dir
  · rw [if_pos ((cmp_zero _ _).2 h), cmpB_lt, h, lessS_irrefl]
    simp
  · rw [if_neg (fun q => h ((cmp_zero _ _).1 q)), cmp_lt]
    simp [h]

theorem aheadE_irrefl (x : Ent) : aheadE x x = false := by
  rw [Bool.eq_false_iff]
  intro h
  rcases (aheadE_iff x x).1 h with q | ⟨_, q⟩
  · rw [lessS_irrefl] at q; cases q
  · exact bytes_irrefl _ q

theorem aheadE_ntrans {x y z : Ent} (h1 : aheadE x y = false) (h2 : aheadE y z = false) : aheadE x z = false := by
  rw [Bool.eq_false_iff]
  intro h
  by_cases he : x.dir = y.dir ∧ x.name = y.name
  · rw [aheadE_iff, he.1, he.2, ← aheadE_iff, h2] at h
    cases h
  · have := aheadE_trans (aheadE_total h1 he) h
    rw [h2] at this
    cases this

theorem swo_ents : Sort.SWO (ltOf aheadI) where
  irrefl x := by rw [aheadI_lt]; exact aheadE_irrefl x
  trans x y z h1 h2 := by rw [aheadI_lt] at *; exact aheadE_trans h1 h2
  ntrans x y z h1 h2 := by rw [aheadI_lt] at *; exact aheadE_ntrans h1 h2

/-- What comparing two inodes tells. -/
def inoI (x y : Ino) : Int := cmp x.id.1 x.id.2 y.id.1 y.id.2

theorem inoI_lt (x y : Ino) : ltOf inoI x y = lessS x.id y.id := by
  unfold ltOf inoI
  rw [Bool.eq_iff_iff, decide_eq_true_iff, cmp_lt]

theorem swo_inos : Sort.SWO (ltOf inoI) where
  irrefl x := by rw [inoI_lt]; exact lessS_irrefl _
  trans x y z h1 h2 := by rw [inoI_lt] at *; exact lessS_trans h1 h2
  ntrans x y z h1 h2 := by
    rw [inoI_lt] at *
    rw [Bool.eq_false_iff]
    intro h
    by_cases he : x.id = y.id
    · rw [he, h2] at h; cases h
    · have := lessS_trans (lessS_total h1 he) h
      rw [h2] at this; cases this

theorem sorted_ents {l E : List Ent} (hE : E.Pairwise fun a b => aheadE a b = true) (hp : l.Perm E) (hs : l.Pairwise fun x y => ltOf aheadI y x = false) : l = E :=
  sorted_only aheadE_irrefl (fun _ _ _ => aheadE_trans) hE hp (hs.imp fun h => by rwa [aheadI_lt] at h)

theorem sorted_inos {l I : List Ino} (hI : I.Pairwise fun a b => lessS a.id b.id = true) (hp : l.Perm I) (hs : l.Pairwise fun x y => ltOf inoI y x = false) : l = I :=
  sorted_only (r := fun a b => lessS a.id b.id) (fun _ => lessS_irrefl _) (fun _ _ _ => lessS_trans) hI hp (hs.imp fun h => by rwa [inoI_lt] at h)

end Go.Proofs.YtbkijfhfjhpebaaGreatDoor.GraphMath

/-
  The walks of package cmp's functions at strings; cells that are kept beside them.
-/
namespace Go.Proofs.YtbkijfhfjhpebaaGreatDoor
open Go.RowKit StampMath GraphMath

theorem nanStr (s : ByteArray) (w : World) : Calls Tryz.prog 163 #[.string s] w fun e w' => e = .returned (.bool false) ∧ w = w' := by
  go_enter Tryz.func163, Tryz.ntmps163
  go_wp2_with fail
  go_ret
  exact ⟨by simp, rfl⟩

set_option maxHeartbeats 400000 in
theorem compareStr (x y : ByteArray) (w : World) : Calls Tryz.prog 140 #[.string x, .string y] w fun e w' => e = .returned (.int .i64 (cmpB x.data.toList y.data.toList)) ∧ w = w' := by
  have hcase : (Op.bytesLess x.toList y.toList = true ∧ cmpB x.data.toList y.data.toList = -1) ∨ (Op.bytesLess x.toList y.toList = false ∧ (x.toList == y.toList) = true ∧ cmpB x.data.toList y.data.toList = 0) ∨ (Op.bytesLess x.toList y.toList = false ∧ (x.toList == y.toList) = false ∧ cmpB x.data.toList y.data.toList = 1) := by
    rw [namesLess_eq, ByteArray.toList_eq, ByteArray.toList_eq]
    unfold cmpB
    by_cases h1 : x.data.toList < y.data.toList
    · exact Or.inl ⟨decide_eq_true h1, by rw [if_pos h1]⟩
    · by_cases h2 : x.data.toList = y.data.toList
      · exact Or.inr (Or.inl ⟨decide_eq_false h1, beq_iff_eq.2 h2, by rw [if_neg h1, if_pos h2]⟩)
      · exact Or.inr (Or.inr ⟨decide_eq_false h1, beq_eq_false_iff_ne.2 h2, by rw [if_neg h1, if_neg h2]⟩)
  rcases hcase with ⟨h1, h⟩ | ⟨h1, h2, h⟩ | ⟨h1, h2, h⟩
  all_goals
    rw [h]
    clear h
    go_enter Tryz.func140, Tryz.ntmps140
    go_wp2_with fail
    refine (nanStr _ _).mono ?_
    rintro e w' ⟨rfl, rfl⟩
    go_wp2_with fail
    refine (nanStr _ _).mono ?_
    rintro e w' ⟨rfl, rfl⟩
    go_wp2_with fail
    go_ret
    exact ⟨rfl, rfl⟩

theorem cells6_alloc {w W : World} {a b c d a' b' : Addr} {u v x y z t : Value} (o : Obj) (h : (W.cell? a = some u ∧ W.cell? b = some v ∧ W.cell? c = some x ∧ W.cell? d = some y ∧ W.cell? a' = some z ∧ W.cell? b' = some t) ∧ Grown w W) :
    ((W.alloc o).cell? a = some u ∧ (W.alloc o).cell? b = some v ∧ (W.alloc o).cell? c = some x ∧ (W.alloc o).cell? d = some y ∧ (W.alloc o).cell? a' = some z ∧ (W.alloc o).cell? b' = some t) ∧ Grown w (W.alloc o) :=
  ⟨⟨cell_alloc h.1.1, cell_alloc h.1.2.1, cell_alloc h.1.2.2.1, cell_alloc h.1.2.2.2.1, cell_alloc h.1.2.2.2.2.1, cell_alloc h.1.2.2.2.2.2⟩, h.2.alloc o⟩

theorem cells6_later {w W W' : World} {a b c d a' b' : Addr} {u v x y z t : Value} (hg : Grown W W') (h : (W.cell? a = some u ∧ W.cell? b = some v ∧ W.cell? c = some x ∧ W.cell? d = some y ∧ W.cell? a' = some z ∧ W.cell? b' = some t) ∧ Grown w W) :
    (W'.cell? a = some u ∧ W'.cell? b = some v ∧ W'.cell? c = some x ∧ W'.cell? d = some y ∧ W'.cell? a' = some z ∧ W'.cell? b' = some t) ∧ Grown w W' :=
  ⟨⟨cell_later hg.1 h.1.1, cell_later hg.1 h.1.2.1, cell_later hg.1 h.1.2.2.1, cell_later hg.1 h.1.2.2.2.1, cell_later hg.1 h.1.2.2.2.2.1, cell_later hg.1 h.1.2.2.2.2.2⟩, h.2.trans hg⟩

theorem cell_two (w : World) (a b : Value) (T : TypeId) :
    (w.alloc (.cells #[a, b] T)).cell? ⟨w.heap.size, 0, none⟩ = some a ∧ (w.alloc (.cells #[a, b] T)).cell? ⟨w.heap.size, 1, none⟩ = some b :=
  ⟨cell_of_row _ _ 0 _ _ (0, 0) (heap_alloc_new w _), cell_of_row _ _ 1 _ _ (0, 0) (heap_alloc_new w _)⟩

end Go.Proofs.YtbkijfhfjhpebaaGreatDoor
