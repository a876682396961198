/-
  The walk of the document's own New (graphs).
-/
import Derived.Test.YthcmgaibbpacfaaGreatDoorZX00
import Derived.Test.YthcmgaibbpacfaaGreatDoorZ01
import Derived.Test.YthcmgaibbpacfaaGreatDoorZX13
import Derived.Deep.LoopGhost
import Derived.Deep.RegionWith
import Derived.Deep.Cut
import Derived.Deep.DeepCutAuto
import Derived.Test.YthcmgaibbpacfaaGreatDoorZX03
namespace Go.Proofs.YthcmgaibbpacfaaGreatDoor
open Go.RowKit StampMath GraphMath

set_option maxRecDepth 100000 in
set_option maxHeartbeats 800000 in
theorem refGraphNew (w : World) :
    Calls Tryz.prog 35 #[] w fun e w' => ∃ v, e = .returned v ∧ GrAt (fun i => w.heap.size ≤ i) w' v newG ∧ Below w.heap.size w w' := by
  go_enter Tryz.func35, Tryz.ntmps35
  go_wp2_with fail
  have hx := heap_alloc_new (w.alloc (.cells #[.slice (some ⟨w.heap.size + 1, 0, none⟩) 1 1, .slice none 0 0] 39)) (.cells (inoA ⟨(0, 0), 1, 0, 0, ⟨#[]⟩⟩) 70)
  rw [World.size_alloc] at hx
  have hI : InosIn ((w.alloc (.cells #[.slice (some ⟨w.heap.size + 1, 0, none⟩) 1 1, .slice none 0 0] 39)).alloc (.cells (inoA ⟨(0, 0), 1, 0, 0, ⟨#[]⟩⟩) 70)) ((w.alloc (.cells #[.slice (some ⟨w.heap.size + 1, 0, none⟩) 1 1, .slice none 0 0] 39)).alloc (.cells (inoA ⟨(0, 0), 1, 0, 0, ⟨#[]⟩⟩) 70)).heap.size (some ⟨w.heap.size + 1, 0, none⟩) 1 newG.I :=
    ⟨rfl, fun _ => ⟨w.heap.size + 1, 0, rfl, by simp, fun j hj i v hv => by
      have hj0 : j = 0 := by have : j < 1 := hj; omega
      subst hj0
      rw [show (0 : Nat) + 0 * 6 + i = i by omega, cell_of_row _ _ i _ _ (0, 0) hx]
      exact hv⟩⟩
  exact bodyPost_ret (v := .agg #[.slice (some ⟨w.heap.size + 1, 0, none⟩) 1 1, .slice none 0 0]) (by simp [results, Tryz.results35, go_sem]) rfl
    ⟨_, rfl, ⟨some ⟨w.heap.size + 1, 0, none⟩, 1, 1, none, 0, 0, rfl, hI, ⟨Nat.le_refl _, by decide, (fun h => by cases h), (fun _ p hp => by cases hp; exact Nat.le_succ _)⟩, TabIn.nil 5 _ _ _, ⟨Nat.le_refl _, by decide, fun _ => rfl, (fun _ p hp => by cases hp)⟩⟩, ((Below.refl _ w).alloc (Nat.le_refl _) _).alloc (by simp) _⟩

end Go.Proofs.YthcmgaibbpacfaaGreatDoor

/-
  The walk of the document's own Made (records): operations are done, one behind the other, from the root alone.
-/
namespace Go.Proofs.YthcmgaibbpacfaaGreatDoor
open Go.RowKit StampMath GraphMath OpMath PackMath

/-- A graph in a box, behind the box of the answer. -/
structure Boxed (w W : World) (bx : Nat) (γ : Gr) (X : Option Addr) (n1 c1 : Nat) (Y : Option Addr) (m1 d1 : Nat) : Prop where
  x : GrAt (fun i => (w.heap.size + 1 ≤ i ∧ i ≠ bx) ∧ i < W.heap.size) W (.agg #[.slice X n1 c1, .slice Y m1 d1]) γ
  ge : w.heap.size + 1 ≤ bx
  box : W.heap[bx]? = some (.cells #[.slice X n1 c1, .slice Y m1 d1] 39 (0, 0))
  res : W.heap[w.heap.size]? = some (.cells #[.slice none 0 0, .slice none 0 0] 39 (0, 0))
  below : Below w.heap.size w W

theorem boxed_start {w w4 : World} {γ : Gr} {X : Option Addr} {n1 c1 : Nat} {Y : Option Addr} {m1 d1 : Nat} (hb : Below (w.alloc (.cells #[.slice none 0 0, .slice none 0 0] 39)).heap.size (w.alloc (.cells #[.slice none 0 0, .slice none 0 0] 39)) w4)
    (h : GrAt (fun i => (w.alloc (.cells #[.slice none 0 0, .slice none 0 0] 39)).heap.size ≤ i) w4 (.agg #[.slice X n1 c1, .slice Y m1 d1]) γ) :
    Boxed w (w4.alloc (.cells #[.slice X n1 c1, .slice Y m1 d1] 39)) w4.heap.size γ X n1 c1 Y m1 d1 := by
  have hA := (Below.refl w4.heap.size w4).alloc (Nat.le_refl _) (.cells #[.slice X n1 c1, .slice Y m1 d1] 39)
  have hs := hb.size
  rw [World.size_alloc] at hs
  have h4 := hb.block _ (heap_lt (heap_alloc_new w (.cells #[.slice none 0 0, .slice none 0 0] 39)))
  refine ⟨h.live.step hA fun i hi => ?_, hs, heap_alloc_new w4 _, ?_, ?_⟩
  · have h1 := hi.1
    rw [World.size_alloc] at h1
    exact ⟨⟨h1, by omega⟩, by rw [World.size_alloc]; omega⟩
  · exact (hA.block _ (by omega)).trans (h4.trans (heap_alloc_new w _))
  · exact below_step (below_step ((Below.refl _ w).alloc (Nat.le_refl _) _) hb) hA

theorem boxed_end {w w6 w9 : World} {bx : Nat} {γ φ : Gr} {X X0 : Option Addr} {n1 c1 n0 c0 : Nat} {Y Y0 : Option Addr} {m1 d1 m0 d0 : Nat} (h : Boxed w w6 bx γ X0 n0 c0 Y0 m0 d0) (hB : Below w6.heap.size w6 w9)
    (q8 : GrAt (MoreN (fun i => (w.heap.size + 1 ≤ i ∧ i ≠ bx) ∧ i < w6.heap.size) w6) w9 (.agg #[.slice X n1 c1, .slice Y m1 d1]) φ) :
    Boxed w ((w9.setCell ⟨bx, 0, none⟩ (.slice X n1 c1)).setCell ⟨bx, 1, none⟩ (.slice Y m1 d1)) bx φ X n1 c1 Y m1 d1 := by
  have hlt := heap_lt h.box
  have hge := h.ge
  have hs := hB.size
  have h9 := (hB.block bx hlt).trans h.box
  refine ⟨q8.live.keep (fun i hi => ?_) (by simp) fun i hi => ?_, hge, ?_, ?_, ?_⟩
  · have hne : i ≠ bx := by
      rcases hi.1 with q | q
      · exact q.1.2
      · omega
    rw [heap_setCell_other _ _ _ _ hne, heap_setCell_other _ _ _ _ hne]
  · have h2 := hi.2
    refine ⟨?_, by simpa using h2⟩
    rcases hi.1 with q | q
    · exact q.1
    · exact ⟨by omega, by omega⟩
  · rw [heap_setCell_same _ _ _ _ _ _ (heap_setCell_same _ _ _ _ _ _ h9)]
    rfl
  · rw [heap_setCell_other _ _ _ _ (show w.heap.size ≠ bx by omega), heap_setCell_other _ _ _ _ (show w.heap.size ≠ bx by omega)]
    exact (hB.block _ (by omega)).trans h.res
  · exact ((below_step h.below hB).setCell (p := ⟨bx, 0, none⟩) (by dsimp only; omega) _).setCell (p := ⟨bx, 1, none⟩) (by dsimp only; omega) _

set_option maxRecDepth 100000 in
set_option maxHeartbeats 3200000 in
theorem refMade (A : Option Addr) (n c : Nat) (l : List Opn) (hn : n ≤ 60) (hfit : ∀ o ∈ l, OpFit o) (w : World) (h : OpsIn w w.heap.size A n l) :
    Calls Tryz.prog 12 #[.slice A n c] w fun e w' => ∃ v, e = .returned v ∧ GrAt (fun i => w.heap.size ≤ i) w' v (runA l) ∧ Below w.heap.size w w' := by
  have hl := h.len
  have HX := Lib.hid h
  have HL := Lib.hid hl
  have HF := Lib.hid hfit
  clear h hfit hl
  go_enter Tryz.func12, Tryz.ntmps12
  go_wp2_with fail
  refine (refGraphNew _).mono ?_
  rintro e w4 ⟨v, rfl, x3, hb3⟩
  obtain ⟨X, n1, c1, Y, m1, d1, rfl⟩ := x3.form
  have P0 : Hid (Boxed w (w4.alloc (.cells #[.slice X n1 c1, .slice Y m1 d1] 39)) w4.heap.size newG X n1 c1 Y m1 d1) := boxed_start hb3 x3
  clear x3 hb3
  go_wp2_with fail
  change Code.wp _ _ _ _ (w4.alloc (.cells #[.slice X n1 c1, .slice Y m1 d1] 39))
  obtain ⟨bx, hbx⟩ : ∃ b, b = w4.heap.size := ⟨_, rfl⟩
  rw [← hbx] at P0 ⊢
  generalize w4.alloc (.cells #[.slice X n1 c1, .slice Y m1 d1] 39) = wz at P0 ⊢
  clear hbx
  go_loopg [4] 61 (fun gk i wr => ∃ (k : Nat) (X : Option Addr) (n1 c1 : Nat) (Y : Option Addr) (m1 d1 : Nat), i = .int .i64 (k : Int) ∧ gk + k = 61 ∧ k ≤ n ∧ Hid (Boxed w wr bx (runA (l.take k)) X n1 c1 Y m1 d1))
  case atStart => exact ⟨0, X, n1, c1, Y, m1, d1, rfl, by omega, by omega, P0⟩
  case round =>
    clear P0
    obtain ⟨k, Xa, na, ca, Ya, ma, da, rfl, hgk, hk, hP⟩ := hrel
    have HG := Lib.hid hgk
    clear hgk
    by_cases hlt : k < n
    · obtain ⟨gi, o, rfl, hg, hcell⟩ := HX.out.row (by omega)
      have lk : k < l.length := by have := HL.out; omega
      have hnm := HF.out _ (List.getElem_mem lk)
      have hca := hcell k lk
      obtain ⟨d, hd⟩ : ∃ d, l[k] = d := ⟨_, rfl⟩
      have hnx := runA_next (l := l) (k := k) lk
      rw [hd] at hca hnm hnx
      have HNX := Lib.hid hnx
      have HFi := Lib.hid (runA_fine (l.take k))
      have HD : Hid (∀ W, Below w.heap.size w W → OpAt W gi (o + k * 13) d) := fun W hW => hca.below hW hg
      have HNM := Lib.hid hnm
      have hi0 : (0 : Int) ≤ (k : Int) := by omega
      have hi1 : (k : Int) < (n : Int) := by omega
      clear hcell hca hd hnm lk hg hlt hnx
      obtain ⟨w6, hw6⟩ : ∃ W, W = wr := ⟨_, rfl⟩
      rw [← hw6] at hP ⊢
      clear hw6
      obtain ⟨z0, z1, z2, z3, z4, z5, z6, z7, z8, z9, z10, z11, z12⟩ := HD.out _ hP.out.below
      obtain ⟨x0, x1⟩ := two_cells hP.out.box
      have R : Hid (∀ W, Below w6.heap.size w6 W → Calls Tryz.prog 15 #[.agg #[.slice Xa na ca, .slice Ya ma da], .agg #[.int .i64 d.st, .int .i64 d.sr, .int .i64 d.k, .int .i64 d.pt, .int .i64 d.pr, .int .i64 d.it, .int .i64 d.ir, .int .i64 d.tt, .int .i64 d.tr, .string d.name, .string d.new, .int .i64 d.off, .string d.data]] W fun e w' =>
          ∃ (X : Option Addr) (n1 c1 : Nat) (Y : Option Addr) (m1 d1 : Nat), e = .returned (.tuple #[.agg #[.slice X n1 c1, .slice Y m1 d1], .int .i64 (doA (runA (l.take k)) d).2]) ∧ GrAt (MoreN (fun i => (w.heap.size + 1 ≤ i ∧ i ≠ bx) ∧ i < w6.heap.size) W) w' (.agg #[.slice X n1 c1, .slice Y m1 d1]) (doA (runA (l.take k)) d).1 ∧ Below W.heap.size W w') := fun W hW => by
        have h1 := HNM.out.name
        have h2 := HNM.out.new
        have h3 := HNM.out.data
        unfold maxLen at h1 h2 h3
        refine (refDo _ _ _ d HFi.out (by omega) (by omega) (by omega) HNM.out.ok W (hP.out.x.step hW)).mono ?_
        rintro e w' ⟨v, rfl, q1, q2⟩
        obtain ⟨X, n1, c1, Y, m1, d1, rfl⟩ := q1.form
        exact ⟨X, n1, c1, Y, m1, d1, rfl, q1, q2⟩
      generalize (doA (runA (l.take k)) d).1 = φ at R HNX
      generalize (doA (runA (l.take k)) d).2 = er at R
      have hNl : Hid (∀ i, (fun i => (w.heap.size + 1 ≤ i ∧ i ≠ bx) ∧ i < w6.heap.size) i → i < w6.heap.size) := fun i hi => hi.2
      go_upto_region 5 with fail
      go_cut [5, 6] from 8 to 23 (fun v1 v2 wx => Told (fun i => (w.heap.size + 1 ≤ i ∧ i ≠ bx) ∧ i < w6.heap.size) w6 φ er v1 v2 wx)
      case first =>
        have zb := heap_lt hP.out.box
        have zg : gi < w6.heap.size := World.block_lt_of_cell? _ _ z0
        go_region_with (first
          | (go_at_call 15; (with_reducible refine (R.out ((w6.alloc (.cells #[.slice none 0 0, .slice none 0 0] 39)).drew) (by repeat (first | exact Below.refl _ _ | assumption | apply Below.drew | exact (Below.refl _ _).alloc (Nat.le_refl _) _))).mono ?_); rintro e w8 ⟨X8, n8, c8, Y8, m8, d8, rfl, q8, hb8⟩; have hx8 := box_behind hb8; obtain ⟨y0, y1⟩ := two_cells hx8; obtain ⟨y2, y3⟩ := two_free hx8)
          | (go_at_call 15; (with_reducible refine (R.out _ (by repeat (first | exact Below.refl _ _ | assumption | apply Below.drew | exact (Below.refl _ _).alloc (Nat.le_refl _) _))).mono ?_); rintro e w8 ⟨X8, n8, c8, Y8, m8, d8, rfl, q8, hb8⟩))
        all_goals
          go_wp2_with fail
          go_meet
        all_goals (case rel => first | exact told_after (by repeat (first | exact Below.refl _ _ | assumption | apply Below.drew)) q8 hb8 | exact told_before hNl.out hx8 q8 hb8)
      case rest =>
        obtain ⟨bn, X8, n8, c8, Y8, m8, d8, rfl, rfl, hB8, hge8, hbox8, q8⟩ := hcut
        generalize wc = w9 at hB8 hbox8 q8 ⊢
        have hx9 := (hB8.block _ (heap_lt hP.out.box)).trans hP.out.box
        have HE : Hid (Boxed w ((w9.setCell ⟨bx, 0, none⟩ (.slice X8 n8 c8)).setCell ⟨bx, 1, none⟩ (.slice Y8 m8 d8)) bx φ X8 n8 c8 Y8 m8 d8) := boxed_end hP.out hB8 q8
        clear x0 x1 z0 z1 z2 z3 z4 z5 z6 z7 z8 z9 z10 z11 z12 q8
        obtain ⟨x0, x1⟩ := two_cells hx9
        obtain ⟨y0, y1⟩ := two_cells hbox8
        obtain ⟨f0, f1⟩ := two_free hx9
        clear hx9 hB8 hge8 hbox8 R hNl HD
        go_wp2_with fail
        go_roundg (gk - 1)
        case measure => have := HG.out; omega
        case rel => exact ⟨k + 1, X8, n8, c8, Y8, m8, d8, by go_num, by have := HG.out; omega, by omega, by rw [HNX.out]; exact HE⟩
    · have hc : ¬ (k : Int) < (n : Int) := by omega
      clear hlt
      obtain ⟨x0, x1⟩ := two_cells hP.out.box
      obtain ⟨r0, r1⟩ := two_cells hP.out.res
      obtain ⟨f0, f1⟩ := two_free hP.out.res
      have hne := hP.out.ge
      have F : Hid (GrAt (fun i => w.heap.size ≤ i) ((wr.setCell ⟨w.heap.size, 0, none⟩ (.slice Xa na ca)).setCell ⟨w.heap.size, 1, none⟩ (.slice Ya ma da)) (.agg #[.slice Xa na ca, .slice Ya ma da]) (runA l) ∧ Below w.heap.size w ((wr.setCell ⟨w.heap.size, 0, none⟩ (.slice Xa na ca)).setCell ⟨w.heap.size, 1, none⟩ (.slice Ya ma da))) := by
        have hx := hP.out.x
        rw [List.take_of_length_le (by have := HL.out; omega)] at hx
        refine ⟨hx.keep (fun i hi => ?_) (by simp) fun i hi => by have := hi.1.1; omega, (hP.out.below.setCell (p := ⟨w.heap.size, 0, none⟩) (Nat.le_refl _) _).setCell (p := ⟨w.heap.size, 1, none⟩) (Nat.le_refl _) _⟩
        have hne : i ≠ w.heap.size := by have := hi.1.1; omega
        rw [heap_setCell_other _ _ _ _ hne, heap_setCell_other _ _ _ _ hne]
      have E : Hid (((wr.setCell ⟨w.heap.size, 0, none⟩ (.slice Xa na ca)).setCell ⟨w.heap.size, 1, none⟩ (.slice Ya ma da)).heap[w.heap.size]? = some (.cells #[.slice Xa na ca, .slice Ya ma da] 39 (0, 0))) := by
        have hr := hP.out.res
        unfold Hid
        rw [heap_setCell_same _ _ _ _ _ _ (heap_setCell_same _ _ _ _ _ _ hr)]
        rfl
      go_wp2_with fail
      obtain ⟨p0, p1⟩ := two_cells E.out
      exact bodyPost_ret (v := .agg #[.slice Xa na ca, .slice Ya ma da]) (by simp [results, Tryz.results12, go_sem, p0, p1]) rfl ⟨_, rfl, F.out⟩

end Go.Proofs.YthcmgaibbpacfaaGreatDoor

/-
  The walks of the document's own Entries and Nodes: are two lists the same?
-/
namespace Go.Proofs.YthcmgaibbpacfaaGreatDoor
open Go.RowKit StampMath GraphMath

theorem same_no_len {α : Type} [DecidableEq α] {xs ys : List α} (h : xs.length ≠ ys.length) : decide (xs = ys) = false := decide_eq_false fun e => h (by rw [e])
theorem same_no {α : Type} [DecidableEq α] {xs ys : List α} {k : Nat} (h1 : k < xs.length) (h2 : k < ys.length) (h : ¬ xs[k] = ys[k]) : decide (xs = ys) = false :=
  decide_eq_false fun e => h (by subst e; rfl)
theorem same_yes {α : Type} [DecidableEq α] {xs ys : List α} (hl : xs.length = ys.length) (h : ∀ k (h1 : k < xs.length) (h2 : k < ys.length), xs[k] = ys[k]) : decide (xs = ys) = true :=
  decide_eq_true (List.ext_getElem hl h)

set_option maxRecDepth 100000 in
set_option maxHeartbeats 1600000 in
theorem refEnts (A A' : Option Addr) (n c m d : Nat) (X Y : List Ent) (hn : n ≤ 1000) (hm : m ≤ 1000) (w : World) (h : EntsIn w w.heap.size A n X) (h' : EntsIn w w.heap.size A' m Y) :
    Calls Tryz.prog 16 #[.slice A n c, .slice A' m d] w fun e w' => e = .returned (.bool (decide (X = Y))) ∧ Below w.heap.size w w' := by
  have hl := h.len
  have hl' := h'.len
  have HX : Hid (EntsIn w w.heap.size A n X) := h
  have HY : Hid (EntsIn w w.heap.size A' m Y) := h'
  clear h h'
  by_cases hnm : n = m
  · subst hnm
    go_enter Tryz.func16, Tryz.ntmps16
    go_wp2_with fail
    go_loopg [5] (n + 1) (fun gk i wr => ∃ k : Nat, i = .int .i64 (k : Int) ∧ gk + k = n + 1 ∧ k ≤ n ∧ Hid (∀ j (h1 : j < X.length) (h2 : j < Y.length), j < k → X[j] = Y[j]) ∧ Below w.heap.size w wr)
    case atStart => exact ⟨0, rfl, by omega, by omega, fun _ _ _ hj => absurd hj (by omega), Below.refl _ _⟩
    case round =>
      obtain ⟨k, rfl, hgk, hk, hall, hB⟩ := hrel
      by_cases hlt : k < n
      · obtain ⟨gi, o, rfl, hg, hrow⟩ := HX.out.row (by omega)
        obtain ⟨gi', o', rfl, hg', hrow'⟩ := HY.out.row (by omega)
        obtain ⟨e0, e1, e2, e3, e4⟩ := (hrow k (by omega)).below hB hg
        obtain ⟨d0, d1, d2, d3, d4⟩ := (hrow' k (by omega)).below hB hg'
        have hr := run_eqEnt X[k] Y[k]
        clear hrow hrow'
        by_cases hq : X[k] = Y[k]
        · rw [decide_eq_true hq] at hr
          have HA : Hid (∀ j (h1 : j < X.length) (h2 : j < Y.length), j < k + 1 → X[j] = Y[j]) := fun j h1 h2 hj => by
            by_cases e : j = k
            · subst e; exact hq
            · exact hall.out j h1 h2 (by omega)
          clear hq hall
          go_wp2_with fail
          go_quiet (fail)
          go_wp2_with fail
          go_roundg (gk - 1)
          case measure => omega
          case rel => exact ⟨k + 1, by go_num, by omega, by omega, HA.out, below_drewN' hB _⟩
        · rw [decide_eq_false hq] at hr
          have HA : Hid (decide (X = Y) = false) := same_no (by omega) (by omega) hq
          clear hq hall
          go_wp2_with fail
          go_quiet (fail)
          go_wp2_with fail
          go_ret
          exact ⟨by rw [HA.out]; rfl, below_drewN' hB _⟩
      · have HA : Hid (decide (X = Y) = true) := same_yes (by omega) fun j h1 h2 => hall.out j h1 h2 (by omega)
        go_wp2_with fail
        go_ret
        exact ⟨by rw [HA.out]; rfl, hB⟩
  · have HA : Hid (decide (X = Y) = false) := same_no_len (by omega)
    have hnm' : ¬ (n : Int) = (m : Int) := by omega
    go_enter Tryz.func16, Tryz.ntmps16
    go_wp2_with fail
    go_ret
    exact ⟨by rw [HA.out]; rfl, Below.refl _ _⟩

set_option maxRecDepth 100000 in
set_option maxHeartbeats 1600000 in
theorem refNodes (A A' : Option Addr) (n c m d : Nat) (X Y : List Ino) (hn : n ≤ 1000) (hm : m ≤ 1000) (w : World) (h : InosIn w w.heap.size A n X) (h' : InosIn w w.heap.size A' m Y) :
    Calls Tryz.prog 17 #[.slice A n c, .slice A' m d] w fun e w' => e = .returned (.bool (decide (X = Y))) ∧ Below w.heap.size w w' := by
  have hl := h.len
  have hl' := h'.len
  have HX : Hid (InosIn w w.heap.size A n X) := h
  have HY : Hid (InosIn w w.heap.size A' m Y) := h'
  clear h h'
  by_cases hnm : n = m
  · subst hnm
    go_enter Tryz.func17, Tryz.ntmps17
    go_wp2_with fail
    go_loopg [5] (n + 1) (fun gk i wr => ∃ k : Nat, i = .int .i64 (k : Int) ∧ gk + k = n + 1 ∧ k ≤ n ∧ Hid (∀ j (h1 : j < X.length) (h2 : j < Y.length), j < k → X[j] = Y[j]) ∧ Below w.heap.size w wr)
    case atStart => exact ⟨0, rfl, by omega, by omega, fun _ _ _ hj => absurd hj (by omega), Below.refl _ _⟩
    case round =>
      obtain ⟨k, rfl, hgk, hk, hall, hB⟩ := hrel
      by_cases hlt : k < n
      · obtain ⟨gi, o, rfl, hg, hrow⟩ := HX.out.row (by omega)
        obtain ⟨gi', o', rfl, hg', hrow'⟩ := HY.out.row (by omega)
        obtain ⟨e0, e1, e2, e3, e4, e5⟩ := (hrow k (by omega)).below hB hg
        obtain ⟨d0, d1, d2, d3, d4, d5⟩ := (hrow' k (by omega)).below hB hg'
        have hr := run_eqIno X[k] Y[k]
        clear hrow hrow'
        by_cases hq : X[k] = Y[k]
        · rw [decide_eq_true hq] at hr
          have HA : Hid (∀ j (h1 : j < X.length) (h2 : j < Y.length), j < k + 1 → X[j] = Y[j]) := fun j h1 h2 hj => by
            by_cases e : j = k
            · subst e; exact hq
            · exact hall.out j h1 h2 (by omega)
          clear hq hall
          go_wp2_with fail
          go_quiet (fail)
          go_wp2_with fail
          go_roundg (gk - 1)
          case measure => omega
          case rel => exact ⟨k + 1, by go_num, by omega, by omega, HA.out, below_drewN' hB _⟩
        · rw [decide_eq_false hq] at hr
          have HA : Hid (decide (X = Y) = false) := same_no (by omega) (by omega) hq
          clear hq hall
          go_wp2_with fail
          go_quiet (fail)
          go_wp2_with fail
          go_ret
          exact ⟨by rw [HA.out]; rfl, below_drewN' hB _⟩
      · have HA : Hid (decide (X = Y) = true) := same_yes (by omega) fun j h1 h2 => hall.out j h1 h2 (by omega)
        go_wp2_with fail
        go_ret
        exact ⟨by rw [HA.out]; rfl, hB⟩
  · have HA : Hid (decide (X = Y) = false) := same_no_len (by omega)
    have hnm' : ¬ (n : Int) = (m : Int) := by omega
    go_enter Tryz.func17, Tryz.ntmps17
    go_wp2_with fail
    go_ret
    exact ⟨by rw [HA.out]; rfl, Below.refl _ _⟩

end Go.Proofs.YthcmgaibbpacfaaGreatDoor

/-
  The walk of the document's own Stamps: are two lists the same?
-/
namespace Go.Proofs.YthcmgaibbpacfaaGreatDoor
open Go.RowKit StampMath GraphMath

set_option maxRecDepth 100000 in
set_option maxHeartbeats 1600000 in
theorem refStsSame (A A' : Option Addr) (n c m d : Nat) (X Y : List St) (hn : n ≤ 1000) (hm : m ≤ 1000) (w : World) (h : StsIn w w.heap.size A n X) (h' : StsIn w w.heap.size A' m Y) :
    Calls Tryz.prog 18 #[.slice A n c, .slice A' m d] w fun e w' => e = .returned (.bool (decide (X = Y))) ∧ Below w.heap.size w w' := by
  have hl := h.len
  have hl' := h'.len
  have HX : Hid (StsIn w w.heap.size A n X) := h
  have HY : Hid (StsIn w w.heap.size A' m Y) := h'
  clear h h'
  by_cases hnm : n = m
  · subst hnm
    go_enter Tryz.func18, Tryz.ntmps18
    go_wp2_with fail
    go_loopg [5] (n + 1) (fun gk i wr => ∃ k : Nat, i = .int .i64 (k : Int) ∧ gk + k = n + 1 ∧ k ≤ n ∧ Hid (∀ j (h1 : j < X.length) (h2 : j < Y.length), j < k → X[j] = Y[j]) ∧ Below w.heap.size w wr)
    case atStart => exact ⟨0, rfl, by omega, by omega, fun _ _ _ hj => absurd hj (by omega), Below.refl _ _⟩
    case round =>
      obtain ⟨k, rfl, hgk, hk, hall, hB⟩ := hrel
      by_cases hlt : k < n
      · obtain ⟨gi, o, rfl, hg, hrow⟩ := HX.out.row (by omega)
        obtain ⟨gi', o', rfl, hg', hrow'⟩ := HY.out.row (by omega)
        obtain ⟨e0, e1⟩ := (hrow k (by omega)).below hB hg
        obtain ⟨d0, d1⟩ := (hrow' k (by omega)).below hB hg'
        clear hrow hrow'
        by_cases hq : X[k] = Y[k]
        · have hr := eqSt_yes hq
          have HA : Hid (∀ j (h1 : j < X.length) (h2 : j < Y.length), j < k + 1 → X[j] = Y[j]) := fun j h1 h2 hj => by
            by_cases e : j = k
            · subst e; exact hq
            · exact hall.out j h1 h2 (by omega)
          clear hq hall
          go_wp2_with fail
          go_quiet (fail)
          go_wp2_with fail
          go_roundg (gk - 1)
          case measure => omega
          case rel => exact ⟨k + 1, by go_num, by omega, by omega, HA.out, below_drewN' hB _⟩
        · have hr := eqSt_no hq
          have HA : Hid (decide (X = Y) = false) := same_no (by omega) (by omega) hq
          clear hq hall
          go_wp2_with fail
          go_quiet (fail)
          go_wp2_with fail
          go_ret
          exact ⟨by rw [HA.out]; rfl, below_drewN' hB _⟩
      · have HA : Hid (decide (X = Y) = true) := same_yes (by omega) fun j h1 h2 => hall.out j h1 h2 (by omega)
        go_wp2_with fail
        go_ret
        exact ⟨by rw [HA.out]; rfl, hB⟩
  · have HA : Hid (decide (X = Y) = false) := same_no_len (by omega)
    have hnm' : ¬ (n : Int) = (m : Int) := by omega
    go_enter Tryz.func18, Tryz.ntmps18
    go_wp2_with fail
    go_ret
    exact ⟨by rw [HA.out]; rfl, Below.refl _ _⟩

end Go.Proofs.YthcmgaibbpacfaaGreatDoor

/-
  What the walk of UndoTells leans on: a drawn look at another list's graph, held against one in a box.
-/
namespace Go.Proofs.YthcmgaibbpacfaaGreatDoor
open Go.RowKit StampMath GraphMath OpMath PackMath

/-- A graph of the document's in a box. -/
@[reducible] def BoxS (w6 : World) (bx : Nat) (X : Option Addr) (n1 c1 : Nat) (Y : Option Addr) (m1 d1 : Nat) (W : World) : Prop :=
  Held w6 [(bx, .cells #[.slice X n1 c1, .slice Y m1 d1] 39)] W ∧ W.cell? ⟨bx, 0, none⟩ = some (.slice X n1 c1) ∧ W.cell? ⟨bx, 1, none⟩ = some (.slice Y m1 d1)

section
variable {w6 W W' : World} {bx : Nat} {X : Option Addr} {n1 c1 : Nat} {Y : Option Addr} {m1 d1 : Nat}

theorem bs_of (h : Held w6 [(bx, .cells #[.slice X n1 c1, .slice Y m1 d1] 39)] W) : BoxS w6 bx X n1 c1 Y m1 d1 W := ⟨h, (two_cells (g := bx) (h.at 0 rfl)).1, (two_cells (g := bx) (h.at 0 rfl)).2⟩
theorem bs_step (h : BoxS w6 bx X n1 c1 Y m1 d1 W) (hb : Below W.heap.size W W') : BoxS w6 bx X n1 c1 Y m1 d1 W' := bs_of (h.1.step hb)
theorem bs_alloc (h : BoxS w6 bx X n1 c1 Y m1 d1 W) (o : Obj) : BoxS w6 bx X n1 c1 Y m1 d1 (W.alloc o) := bs_step h ((Below.refl _ _).alloc (Nat.le_refl _) _)
theorem bs_drew (h : BoxS w6 bx X n1 c1 Y m1 d1 W) : BoxS w6 bx X n1 c1 Y m1 d1 W.drew := bs_of h.1.drew
theorem bs_set (h : BoxS w6 bx X n1 c1 Y m1 d1 W) {u j : Nat} (hb : bx < u) (hu : w6.heap.size ≤ u) (v : Value) : BoxS w6 bx X n1 c1 Y m1 d1 (W.setCell ⟨u, j, none⟩ v) :=
  bs_of (h.1.set (by intro p hp; simp at hp; subst hp; exact hb) hu j v)
theorem bs_set4 (h : BoxS w6 bx X n1 c1 Y m1 d1 W) {u : Nat} (hb : bx < u) (hu : w6.heap.size ≤ u) (a b c' d' : Value) : BoxS w6 bx X n1 c1 Y m1 d1 ((((W.setCell ⟨u, 0, none⟩ a).setCell ⟨u, 1, none⟩ b).setCell ⟨u, 2, none⟩ c').setCell ⟨u, 3, none⟩ d') :=
  bs_set (bs_set (bs_set (bs_set h hb hu _) hb hu _) hb hu _) hb hu _
end

/-- The lists of a record of the document's, in blocks of T. -/
structure Lists4 (T : Nat → Prop) (W : World) (L1 L2 L3 L4 : Option Addr) (E F : List Ent) (I : List Ino) (S : List St) : Prop where
  t1 : TabAt T 5 W L1 E.length (E.map entA)
  t2 : TabAt T 5 W L2 F.length (F.map entA)
  t3 : TabAt T 6 W L3 I.length (I.map inoA)
  t4 : TabAt T 2 W L4 S.length (S.map stA)

theorem Lists4.keep {T T' : Nat → Prop} {W W' : World} {L1 L2 L3 L4 : Option Addr} {E F : List Ent} {I : List Ino} {S : List St} (h : Lists4 T W L1 L2 L3 L4 E F I S) (hb : ∀ i, T i → i < W.heap.size → W'.heap[i]? = W.heap[i]?) (hs : W.heap.size ≤ W'.heap.size) (hT : ∀ i, T i → T' i) : Lists4 T' W' L1 L2 L3 L4 E F I S :=
  ⟨(h.t1.keep hb hs).mono fun i hi _ => hT i hi, (h.t2.keep hb hs).mono fun i hi _ => hT i hi, (h.t3.keep hb hs).mono fun i hi _ => hT i hi, (h.t4.keep hb hs).mono fun i hi _ => hT i hi⟩

/-- What a drawn Diff leaves: a record in a box of its own. -/
def Rec4 (w6 : World) (E F : List Ent) (I : List Ino) (S : List St) (v : Value) (W : World) : Prop :=
  ∃ (u : Nat) (L1 : Option Addr) (c1 : Nat) (L2 : Option Addr) (c2 : Nat) (L3 : Option Addr) (c3 : Nat) (L4 : Option Addr) (c4 : Nat), v = .pointer (some ⟨u, 0, none⟩) ∧ Below w6.heap.size w6 W ∧ w6.heap.size ≤ u ∧
    W.heap[u]? = some (.cells #[.slice L1 E.length c1, .slice L2 F.length c2, .slice L3 I.length c3, .slice L4 S.length c4] 42 (0, 0)) ∧ Lists4 (fun i => w6.heap.size ≤ i) W L1 L2 L3 L4 E F I S

section
variable {w6 W w2 : World} {E F : List Ent} {I : List Ino} {S : List St} {L1 : Option Addr} {c1 : Nat} {L2 : Option Addr} {c2 : Nat} {L3 : Option Addr} {c3 : Nat} {L4 : Option Addr} {c4 : Nat}

theorem rec4_alloc (hW : Below w6.heap.size w6 W) (hb : Below W.heap.size W w2) (h : Lists4 (fun i => W.heap.size ≤ i) w2 L1 L2 L3 L4 E F I S) :
    Rec4 w6 E F I S (.pointer (some ⟨w2.heap.size, 0, none⟩)) (w2.alloc (.cells #[.slice L1 E.length c1, .slice L2 F.length c2, .slice L3 I.length c3, .slice L4 S.length c4] 42)) := by
  have h1 := below_step hW hb
  have hA : Below w2.heap.size w2 (w2.alloc (.cells #[.slice L1 E.length c1, .slice L2 F.length c2, .slice L3 I.length c3, .slice L4 S.length c4] 42)) := (Below.refl _ _).alloc (Nat.le_refl _) _
  exact ⟨_, L1, c1, L2, c2, L3, c3, L4, c4, rfl, below_step h1 hA, h1.size, heap_alloc_new _ _, h.keep (fun i _ hi => hA.block i hi) hA.size fun i hi => Nat.le_trans hW.size hi⟩

theorem rec4_set {u : Nat} (hW : Below w6.heap.size w6 W) (hb : Below W.heap.size W w2) (h : Lists4 (fun i => W.heap.size ≤ i) w2 L1 L2 L3 L4 E F I S) (hu : w6.heap.size ≤ u) (hlt : u < W.heap.size) (hx : w2.heap[u]? = some (.cells #[.slice none 0 0, .slice none 0 0, .slice none 0 0, .slice none 0 0] 42 (0, 0))) :
    Rec4 w6 E F I S (.pointer (some ⟨u, 0, none⟩)) ((((w2.setCell ⟨u, 0, none⟩ (.slice L1 E.length c1)).setCell ⟨u, 1, none⟩ (.slice L2 F.length c2)).setCell ⟨u, 2, none⟩ (.slice L3 I.length c3)).setCell ⟨u, 3, none⟩ (.slice L4 S.length c4)) := by
  have h1 := below_step hW hb
  have ho : ∀ i, i ≠ u → ((((w2.setCell ⟨u, 0, none⟩ (.slice L1 E.length c1)).setCell ⟨u, 1, none⟩ (.slice L2 F.length c2)).setCell ⟨u, 2, none⟩ (.slice L3 I.length c3)).setCell ⟨u, 3, none⟩ (.slice L4 S.length c4)).heap[i]? = w2.heap[i]? := fun i hi => by
    rw [heap_setCell_other _ _ _ _ hi, heap_setCell_other _ _ _ _ hi, heap_setCell_other _ _ _ _ hi, heap_setCell_other _ _ _ _ hi]
  refine ⟨_, L1, c1, L2, c2, L3, c3, L4, c4, rfl, (((h1.setCell (p := ⟨u, 0, none⟩) hu _).setCell (p := ⟨u, 1, none⟩) hu _).setCell (p := ⟨u, 2, none⟩) hu _).setCell (p := ⟨u, 3, none⟩) hu _, hu, ?_, h.keep (fun i hi _ => ho i (by omega)) (by simp) fun i hi => Nat.le_trans hW.size hi⟩
  rw [heap_setCell_same _ _ _ _ _ _ (heap_setCell_same _ _ _ _ _ _ (heap_setCell_same _ _ _ _ _ _ (heap_setCell_same _ _ _ _ _ _ hx)))]
  rfl
end

end Go.Proofs.YthcmgaibbpacfaaGreatDoor
