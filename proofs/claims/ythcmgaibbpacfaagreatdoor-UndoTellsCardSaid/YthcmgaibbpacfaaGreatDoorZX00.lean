/-
  The walks of the document's own Links, Get, Look (graphs).
-/
import Derived.Test.YthcmgaibbpacfaaGreatDoorZ00
import Derived.Test.YthcmgaibbpacfaaGreatDoorRows
import Derived.Test.YthcmgaibbpacfaaGreatDoorZ01
import Derived.Deep.LoopGhost
import Derived.Deep.QuietTactic
import Derived.BigQuiet
import Derived.Deep.Cut
import Derived.Deep.RegionHeld3
import Derived.Maps.AppendAt
namespace Go.Proofs.YthcmgaibbpacfaaGreatDoor
open Go.RowKit StampMath GraphMath

set_option maxRecDepth 100000 in
set_option maxHeartbeats 800000 in
theorem refLinks (v : Value) (A : Option Addr) (n c : Nat) (E : List Ent) (id : St) (hn : n ≤ 1000) (w : World) (h : EntsIn w w.heap.size A n E) :
    Calls Tryz.prog 65 #[.agg #[v, .slice A n c], .agg (stA id)] w fun e w' => e = .returned (.int .i64 (linksE E id : Nat)) ∧ Below w.heap.size w w' := by
  have hl := h.len
  have HB : Hid (EntsIn w w.heap.size A n E) := h
  clear h
  unfold stA
  obtain ⟨t, r⟩ := id
  dsimp only
  go_enter Tryz.func65, Tryz.ntmps65
  go_wp2_with fail
  go_loopg [5, 6] (n + 1) (fun gk x i wr => ∃ k : Nat, i = .int .i64 (k : Int) ∧ x = .int .i64 (linksE (E.take k) (t, r) : Nat) ∧ gk + k = n + 1 ∧ k ≤ n ∧ wr.heap[w.heap.size]? = some (.cells #[v, .slice A n c] 39 (0, 0)) ∧ wr.heap[w.heap.size + 1]? = some (.cells #[.int .i64 t, .int .i64 r] 24 (0, 0)) ∧ Below w.heap.size w wr)
  case atStart =>
    refine ⟨0, rfl, rfl, by omega, by omega, ?_, ?_, ((Below.refl _ w).alloc (Nat.le_refl _) _).alloc (by simp) _⟩
    · exact heap_alloc2_old w _ _
    · exact heap_alloc2_new w _ _
  case round =>
    obtain ⟨k, rfl, rfl, hgk, hk, h1, h2, hB⟩ := hrel
    have c1 := cell_of_row _ _ 1 _ _ (0, 0) h1
    have c2 := cell_of_row _ _ 0 _ _ (0, 0) h2
    have c3 := cell_of_row _ _ 1 _ _ (0, 0) h2
    by_cases hlt : k < n
    · obtain ⟨g, o, rfl, hg, hrow⟩ := HB.out.row (by omega)
      obtain ⟨e0, e1, e2, e3, e4⟩ := (hrow k (by omega)).below hB hg
      clear hrow
      have hsn := linksE_snoc E k (by omega) (t, r)
      have hnum : (linksE (E.take k) (t, r) : Int) ≤ 1000 := by have := linksE_le (E.take k) (t, r); rw [List.length_take] at this; omega
      by_cases hq : E[k].ino = (t, r)
      · rw [if_pos hq] at hsn
        have hv := eqSt_yes hq
        dsimp only at hv
        go_wp2_with fail
        go_quiet (fail)
        go_wp2_with fail
        go_roundg (gk - 1)
        case measure => omega
        case rel => exact ⟨k + 1, by go_num, by rw [hsn]; go_num, by omega, by omega, h1, h2, below_drewN' hB _⟩
      · rw [if_neg hq] at hsn
        have hv := eqSt_no hq
        dsimp only at hv
        go_wp2_with fail
        go_quiet (fail)
        go_wp2_with fail
        go_roundg (gk - 1)
        case measure => omega
        case rel => exact ⟨k + 1, by go_num, by rw [hsn], by omega, by omega, h1, h2, below_drewN' hB _⟩
    · go_wp2_with fail
      go_ret
      exact ⟨by rw [List.take_of_length_le (by omega)]; rfl, hB⟩

set_option maxRecDepth 100000 in
set_option maxHeartbeats 1600000 in
theorem refGet (A A' : Option Addr) (n c m d : Nat) (g : Gr) (id : St) (hn : n ≤ 1000) (hm : m ≤ 1000) (w : World) (h : InosIn w w.heap.size A n g.I) (h' : EntsIn w w.heap.size A' m g.E) :
    Calls Tryz.prog 38 #[.agg #[.slice A n c, .slice A' m d], .agg (stA id)] w fun e w' => e = .returned (.tuple #[.agg (inoA ((getG g id).getD noIno)), .bool (getG g id).isSome]) ∧ Below w.heap.size w w' := by
  have hl := h.len
  have HI : Hid (InosIn w w.heap.size A n g.I) := h
  have HL : Hid (∀ W : World, Below w.heap.size w W → Calls Tryz.prog 65 #[.agg #[.slice A n c, .slice A' m d], .agg #[.int .i64 id.1, .int .i64 id.2]] W fun e w' => e = .returned (.int .i64 (linksE g.E id : Nat)) ∧ Below W.heap.size W w') := fun W hW => refLinks (.slice A n c) A' m d g.E id hm W ((h'.below hW).more hW.size)
  clear h h'
  have hb0 : Held w [(w.heap.size + 1 + 1, .cells (inoA noIno) 70), (w.heap.size + 1, .cells (stA id) 24), (w.heap.size, .cells #[.slice A n c, .slice A' m d] 39)]
    (((w.alloc (.cells #[.slice A n c, .slice A' m d] 39)).alloc (.cells #[.int .i64 id.1, .int .i64 id.2] 24)).alloc (.cells #[.int .i64 0, .int .i64 0, .int .i64 0, .int .i64 0, .int .i64 0, .string ⟨#[]⟩] 70)) :=
    (((Held.refl w).alloc (.cells #[.slice A n c, .slice A' m d] 39) rfl).alloc (.cells (stA id) 24) (by simp)).alloc (.cells (inoA noIno) 70) (by simp)
  unfold stA
  go_enter Tryz.func38, Tryz.ntmps38
  go_wp2_with fail
  go_loopg [6] (n + 1) (fun gk i wr => ∃ k : Nat, i = .int .i64 (k : Int) ∧ gk + k = n + 1 ∧ k ≤ n ∧ Hid ((g.I.take k).find? (fun x => decide (x.id = id)) = none) ∧ Held w [(w.heap.size + 1 + 1, .cells (inoA noIno) 70), (w.heap.size + 1, .cells (stA id) 24), (w.heap.size, .cells #[.slice A n c, .slice A' m d] 39)] wr)
  case atStart => exact ⟨0, rfl, by omega, by omega, rfl, hb0⟩
  case round =>
    obtain ⟨k, rfl, hgk, hk, hnone, hH⟩ := hrel
    clear hb0
    obtain ⟨c1, c2⟩ := two_cells (g := w.heap.size) (hH.at 2 rfl)
    obtain ⟨c3, c4⟩ := two_cells (g := w.heap.size + 1) (hH.at 1 rfl)
    by_cases hlt : k < n
    · obtain ⟨gi, o, rfl, hg, hrow⟩ := HI.out.row (by omega)
      have hp := find_none_take (p := fun x : Ino => decide (x.id = id)) (k := k) (by omega) hnone.out
      have hrk := fun W hb => (hrow k (by omega)).below (B := w.heap.size) (W' := W) hb hg
      obtain ⟨⟨xi, kd, lk, md, da⟩, hx⟩ : ∃ x, g.I[k] = x := ⟨_, rfl⟩
      rw [hx] at hrk hp
      clear hrow hx hnone
      obtain ⟨e0, e1, e2, e3, e4, e5⟩ := hrk wr hH.below
      have HR := Lib.hid hrk
      clear hrk
      by_cases hq : xi = id
      · have hv := eqSt_yes hq
        subst hq
        rw [if_pos (decide_eq_true rfl)] at hp
        have HG : Hid (getG g xi = some ⟨xi, kd, (linksE g.E xi : Int), md, da⟩) := by
          show getG g xi = _
          unfold getG
          rw [find_take hp]
          rfl
        clear hp
        go_wp2_with fail
        go_quiet (fail)
        have hH2 := hH.drewN nq
        generalize wr.drewN nq = w2 at hH2 ⊢
        clear c1 c2 c3 c4 e0 e1 e2 e3 e4 e5 hH
        obtain ⟨c1, c2⟩ := two_cells (g := w.heap.size) (hH2.at 2 rfl)
        obtain ⟨c3, c4⟩ := two_cells (g := w.heap.size + 1) (hH2.at 1 rfl)
        obtain ⟨e0, e1, e2, e3, e4, e5⟩ := HR.out w2 hH2.below
        go_upto_region 6 with fail
        change Code.wp _ _ _ _ (w2.alloc (.cells (inoA ⟨xi, kd, lk, md, da⟩) 70))
        have hH3 := hH2.alloc (.cells (inoA ⟨xi, kd, lk, md, da⟩) 70) rfl
        obtain ⟨u, hu⟩ : ∃ u, u = w2.heap.size := ⟨_, rfl⟩
        have hlow : w.heap.size + 1 + 1 < u := by rw [hu]; exact heap_lt (hH2.at 0 rfl)
        rw [← hu] at hH3 ⊢
        generalize w2.alloc (.cells (inoA ⟨xi, kd, lk, md, da⟩) 70) = w3 at hH3 ⊢
        clear c1 c2 c3 c4 e0 e1 e2 e3 e4 e5 hH2 hu
        obtain ⟨c1, c2⟩ := two_cells (g := w.heap.size) (hH3.at 3 rfl)
        obtain ⟨c3, c4⟩ := two_cells (g := w.heap.size + 1) (hH3.at 2 rfl)
        go_wp2_with fail
        refine (HL.out _ hH3.below).mono ?_
        rintro e w4 ⟨rfl, hb4⟩
        have hH4 := hH3.step hb4
        clear c1 c2 c3 c4 hH3 hb4
        obtain ⟨e0, e1, e2, e3, e4, e5⟩ := ino_cells (g := u) (hH4.at 0 rfl)
        obtain ⟨f0, f1, f2, f3, f4, f5⟩ := ino_free (g := u) (hH4.at 0 rfl)
        obtain ⟨m0, m1, m2, m3, m4, m5⟩ := ino_cells (g := w.heap.size + 1 + 1) (hH4.at 1 rfl)
        obtain ⟨n0, n1, n2, n3, n4, n5⟩ := ino_free (g := w.heap.size + 1 + 1) (hH4.at 1 rfl)
        go_wp2_with fail
        exact bodyPost_ret (v := .tuple #[.agg (inoA ⟨xi, kd, (linksE g.E xi : Int), md, da⟩), .bool true]) (by simp [results, Tryz.results38, go_sem, inoA, noIno, m0, m1, m2, m3, m4, m5]) rfl ⟨by rw [HG.out]; rfl, below_six (hH4.below.setCell (by dsimp only; omega) _) (by omega) _ _ _ _ _ _⟩
      · have hv := eqSt_no hq
        rw [if_neg (by rw [decide_eq_false hq]; decide)] at hp
        have HP := Lib.hid hp
        clear hp
        go_wp2_with fail
        go_quiet (fail)
        go_wp2_with fail
        go_roundg (gk - 1)
        case measure => omega
        case rel => exact ⟨k + 1, by go_num, by omega, by omega, HP.out, hH.drewN _⟩
    · have hget : getG g id = none := by
        unfold getG
        have := hnone.out
        rw [List.take_of_length_le (by omega)] at this
        rw [this]
        rfl
      have HG := Lib.hid hget
      clear hget
      have f := ino_free (g := w.heap.size + 1 + 1) (hH.at 0 rfl)
      obtain ⟨f0, f1, f2, f3, f4, f5⟩ := f
      have m' := ino_cells (g := w.heap.size + 1 + 1) (hH.at 0 rfl)
      obtain ⟨m0, m1, m2, m3, m4, m5⟩ := m'
      go_wp2_with fail
      exact bodyPost_ret (v := .tuple #[.agg (inoA noIno), .bool false]) (by simp [results, Tryz.results38, go_sem, inoA, noIno, m0, m1, m2, m3, m4, m5]) rfl ⟨by rw [HG.out]; rfl, below_six hH.below (by omega) _ _ _ _ _ _⟩

end Go.Proofs.YthcmgaibbpacfaaGreatDoor

/-
  The walk of the document's own Look (graphs).
-/
namespace Go.Proofs.YthcmgaibbpacfaaGreatDoor
open Go.RowKit StampMath GraphMath

/-- Is it the entry nm of d? -/
def isAt (d : St) (nm : ByteArray) (e : Ent) : Bool := decide (e.dir = d) && decide (e.name = nm)

theorem names_same (a b : ByteArray) : (a.toList == b.toList) = decide (a = b) := by
  by_cases h : a = b
  · subst h; simp
  · rw [decide_eq_false h, beq_eq_false_iff_ne]; exact fun e => h (bytes_same e)

set_option maxRecDepth 100000 in
set_option maxHeartbeats 1600000 in
theorem refLook (v : Value) (A : Option Addr) (n c : Nat) (E : List Ent) (at' : St) (nm : ByteArray) (hn : n ≤ 1000) (w : World) (h : EntsIn w w.heap.size A n E) :
    Calls Tryz.prog 44 #[.agg #[v, .slice A n c], .agg (stA at'), .string nm] w fun e w' => e = .returned (.tuple #[.agg (stA ((lookE E at' nm).getD (0, 0))), .bool (lookE E at' nm).isSome]) ∧ Below w.heap.size w w' := by
  have hl := h.len
  have HI : Hid (EntsIn w w.heap.size A n E) := h
  clear h
  have hb0 : Held w [(w.heap.size + 1 + 1, .cells #[.int .i64 0, .int .i64 0] 24), (w.heap.size + 1, .cells (stA at') 24), (w.heap.size, .cells #[v, .slice A n c] 39)]
    (((w.alloc (.cells #[v, .slice A n c] 39)).alloc (.cells #[.int .i64 at'.1, .int .i64 at'.2] 24)).alloc (.cells #[.int .i64 0, .int .i64 0] 24)) :=
    (((Held.refl w).alloc (.cells #[v, .slice A n c] 39) rfl).alloc (.cells (stA at') 24) (by simp)).alloc (.cells #[.int .i64 0, .int .i64 0] 24) (by simp)
  unfold stA
  go_enter Tryz.func44, Tryz.ntmps44
  go_wp2_with fail
  go_loopg [8] (n + 1) (fun gk i wr => ∃ k : Nat, i = .int .i64 (k : Int) ∧ gk + k = n + 1 ∧ k ≤ n ∧ Hid ((E.take k).find? (isAt at' nm) = none) ∧ Held w [(w.heap.size + 1 + 1, .cells #[.int .i64 0, .int .i64 0] 24), (w.heap.size + 1, .cells (stA at') 24), (w.heap.size, .cells #[v, .slice A n c] 39)] wr)
  case atStart => exact ⟨0, rfl, by omega, by omega, rfl, hb0⟩
  case round =>
    obtain ⟨k, rfl, hgk, hk, hnone, hH⟩ := hrel
    clear hb0
    have hc1 := (two_cells (g := w.heap.size) (hH.at 2 rfl)).2
    obtain ⟨c3, c4⟩ := two_cells (g := w.heap.size + 1) (hH.at 1 rfl)
    obtain ⟨m0, m1⟩ := two_cells (g := w.heap.size + 1 + 1) (hH.at 0 rfl)
    obtain ⟨f0, f1⟩ := two_free (g := w.heap.size + 1 + 1) (hH.at 0 rfl)
    by_cases hlt : k < n
    · obtain ⟨gi, o, rfl, hg, hrow⟩ := HI.out.row (by omega)
      have hp := find_none_take (p := isAt at' nm) (k := k) (by omega) hnone.out
      have hrk := (hrow k (by omega)).below hH.below hg
      obtain ⟨⟨di, en, ei⟩, hx⟩ : ∃ x, E[k] = x := ⟨_, rfl⟩
      rw [hx] at hrk hp
      clear hrow hx hnone
      obtain ⟨e0, e1, e2, e3, e4⟩ := hrk
      have hs := names_same en nm
      by_cases hq : di = at'
      · have hv := eqSt_yes hq
        subst hq
        by_cases hq2 : en = nm
        · subst hq2
          rw [decide_eq_true rfl] at hs
          have HG : Hid (lookE E di en = some ei) := by
            rw [if_pos (by unfold isAt; simp)] at hp
            show (E.find? (isAt di en)).map _ = _
            rw [find_take hp]
            rfl
          clear hp
          go_wp2_with fail
          go_quiet (fail)
          go_wp2_with fail
          exact bodyPost_ret (v := .tuple #[.agg (stA ei), .bool true]) (by simp [results, Tryz.results44, go_sem, stA, m0, m1]) rfl ⟨by rw [HG.out]; rfl, ((below_drewN' hH.below _).setCell (by dsimp only; omega) _).setCell (by dsimp only; omega) _⟩
        · rw [decide_eq_false hq2] at hs
          have HP : Hid ((E.take (k + 1)).find? (isAt di nm) = none) := by
            rw [if_neg (by unfold isAt; simp [hq2])] at hp
            exact hp
          clear hp
          go_wp2_with fail
          go_quiet (fail)
          go_wp2_with fail
          go_roundg (gk - 1)
          case measure => omega
          case rel => exact ⟨k + 1, by go_num, by omega, by omega, HP.out, hH.drewN _⟩
      · have hv := eqSt_no hq
        have HP : Hid ((E.take (k + 1)).find? (isAt at' nm) = none) := by
          rw [if_neg (by unfold isAt; simp [hq])] at hp
          exact hp
        clear hp
        go_wp2_with fail
        go_quiet (fail)
        go_wp2_with fail
        go_roundg (gk - 1)
        case measure => omega
        case rel => exact ⟨k + 1, by go_num, by omega, by omega, HP.out, hH.drewN _⟩
    · have HG : Hid (lookE E at' nm = none) := by
        have h := hnone.out
        rw [List.take_of_length_le (by omega)] at h
        show (E.find? (isAt at' nm)).map _ = _
        rw [h]
        rfl
      go_wp2_with fail
      exact bodyPost_ret (v := .tuple #[.agg (stA (0, 0)), .bool false]) (by simp [results, Tryz.results44, go_sem, stA, m0, m1]) rfl ⟨by rw [HG.out]; rfl, ((hH.below).setCell (by dsimp only; omega) _).setCell (by dsimp only; omega) _⟩

end Go.Proofs.YthcmgaibbpacfaaGreatDoor

/-
  The walks of the document's own List, Entries and Nodes (graphs).
-/
namespace Go.Proofs.YthcmgaibbpacfaaGreatDoor
open Go.RowKit StampMath GraphMath

theorem listE_snoc (E : List Ent) (k : Nat) (h : k < E.length) (d : St) : listE (E.take (k + 1)) d = if E[k].dir = d then listE (E.take k) d ++ [E[k]] else listE (E.take k) d := by
  unfold listE
  rw [List.take_succ_eq_append_getElem h, List.filter_append]
  by_cases e : E[k].dir = d
  · rw [if_pos e]; simp [e]
  · rw [if_neg e]; simp [e]

theorem listE_le (E : List Ent) (d : St) : (listE E d).length ≤ E.length := List.length_filter_le _ _

set_option maxRecDepth 100000 in
set_option maxHeartbeats 1600000 in
theorem refList (v : Value) (A : Option Addr) (n c : Nat) (E : List Ent) (id : St) (hn : n ≤ 1000) (w : World) (h : EntsIn w w.heap.size A n E) :
    Calls Tryz.prog 71 #[.agg #[v, .slice A n c], .agg (stA id)] w (EntsPost (listE E id) w) := by
  obtain ⟨i0, hi0, hz0, hz1, hz2⟩ := info_parts ent_infos
  have hl := h.len
  have HI : Hid (EntsIn w w.heap.size A n E) := h
  clear h
  have hb0 : Held w [(w.heap.size + 1, .cells (stA id) 24), (w.heap.size, .cells #[v, .slice A n c] 39)]
    ((w.alloc (.cells #[v, .slice A n c] 39)).alloc (.cells #[.int .i64 id.1, .int .i64 id.2] 24)) :=
    ((Held.refl w).alloc (.cells #[v, .slice A n c] 39) rfl).alloc (.cells (stA id) 24) (by simp)
  unfold stA
  go_enter Tryz.func71, Tryz.ntmps71
  go_wp2_with fail
  go_loopg [5, 6] (n + 1) (fun gk out i wr => ∃ k : Nat, i = .int .i64 (k : Int) ∧ gk + k = n + 1 ∧ k ≤ n ∧ wr.ownsRow (w.heap.size + 2) 66 5 out (listE (E.take k) id).length (flat ((listE (E.take k) id).map entA)) ∧ Held w [(w.heap.size + 1, .cells (stA id) 24), (w.heap.size, .cells #[v, .slice A n c] 39)] wr)
  case atStart => exact ⟨0, rfl, by omega, by omega, World.ownsRow_nil _ _ _ _, hb0⟩
  case round =>
    obtain ⟨k, rfl, hgk, hk, hown, hH⟩ := hrel
    clear hb0
    have hc1 := (two_cells (g := w.heap.size) (hH.at 1 rfl)).2
    obtain ⟨c3, c4⟩ := two_cells (g := w.heap.size + 1) (hH.at 0 rfl)
    by_cases hlt : k < n
    · obtain ⟨gi, o, rfl, hg, hrow⟩ := HI.out.row (by omega)
      have hsn := listE_snoc E k (by omega) id
      have hle : (listE (E.take k) id).length ≤ 1000 := by have := listE_le (E.take k) id; rw [List.length_take] at this; omega
      have hrk := fun W hb => (hrow k (by omega)).below (B := w.heap.size) (W' := W) hb hg
      obtain ⟨x, hx⟩ : ∃ x, E[k] = x := ⟨_, rfl⟩
      rw [hx] at hrk hsn
      clear hrow hx
      obtain ⟨e0, e1, e2, e3, e4⟩ := hrk wr hH.below
      have HR := Lib.hid hrk
      clear hrk
      by_cases hq : x.dir = id
      · have hv := eqSt_yes hq
        rw [if_pos hq] at hsn
        have HS := Lib.hid hsn
        clear hsn
        go_wp2_with fail
        go_quiet (fail)
        have hH2 := hH.drewN nq
        have hown2 : (wr.drewN nq).ownsRow (w.heap.size + 2) 66 5 u5 (listE (E.take k) id).length (flat ((listE (E.take k) id).map entA)) := hown
        generalize wr.drewN nq = w2 at hH2 hown2 ⊢
        clear hc1 c3 c4 e0 e1 e2 e3 e4 hH hown hv hq
        have hc1 := (two_cells (g := w.heap.size) (hH2.at 1 rfl)).2
        obtain ⟨e0, e1, e2, e3, e4⟩ := HR.out w2 hH2.below
        have hlow : w.heap.size + 1 < w2.heap.size := heap_lt (hH2.at 0 rfl)
        have hm : (listE (E.take k) id).length + 1 ≤ maxLen := by unfold maxLen; omega
        go_wp2_with (at_builtin; refine wpList_append_own _ rfl (.tmp 22) (.tmp 28) 31 rfl (w.heap.size + 2) 66 i0 _ 5 48 Tryz.underlying31 hi0 hz0 hz1 hz2 rfl (by decide) _ _ _ rfl (hown2.alloc _) ⟨w2.heap.size, 0, none⟩ 1 1 (entA x).toList rfl rfl (row_there w2 _ _) (ent_one x) hm (by omega) (by simp; omega) ?_; intro v2 w3 hown3 hg3 _)
        have hb3 : Held w [(w.heap.size + 1, .cells (stA id) 24), (w.heap.size, .cells #[v, .slice (some ⟨gi, o, none⟩) n c] 39)] w3 :=
          (hH2.step ((Below.refl _ _).alloc (Nat.le_refl _) _)).grown hg3 (fun q hq => (hown2.lt q hq).1) (by intro p hp; simp at hp; rcases hp with rfl | rfl <;> (dsimp only; omega))
        rw [flat_ent] at hown3
        go_roundg (gk - 1)
        case measure => omega
        case rel => exact ⟨k + 1, by go_num, by omega, by omega, by rw [HS.out, List.length_append]; exact hown3, hb3⟩
      · have hv := eqSt_no hq
        rw [if_neg hq] at hsn
        have HS := Lib.hid hsn
        clear hsn
        go_wp2_with fail
        go_quiet (fail)
        go_wp2_with fail
        go_roundg (gk - 1)
        case measure => omega
        case rel => exact ⟨k + 1, by go_num, by omega, by omega, by rw [HS.out]; exact hown, hH.drewN _⟩
    · obtain ⟨B, cc, rfl, q1, q2, q3⟩ := ents_own rfl hown
      rw [List.take_of_length_le (by omega)] at q1 q2
      go_wp2_with fail
      go_ret
      rw [List.take_of_length_le (show E.length ≤ k by omega)]
      exact ⟨B, cc, rfl, q1, q2, q3.1, q3.2, hH.below⟩

end Go.Proofs.YthcmgaibbpacfaaGreatDoor

/-
  The walks of the document's own in and only (records).
-/
namespace Go.Proofs.YthcmgaibbpacfaaGreatDoor
open Go.RowKit StampMath GraphMath

theorem mem_take_none {α : Type} [DecidableEq α] {l : List α} {x : α} {k : Nat} (hk : l.length ≤ k) (h : x ∉ l.take k) : x ∉ l := by
  rwa [List.take_of_length_le hk] at h

set_option maxRecDepth 100000 in
set_option maxHeartbeats 1600000 in
theorem refIn (v : Value) (A : Option Addr) (n c : Nat) (E : List Ent) (x : Ent) (hn : n ≤ 1000) (w : World) (h : EntsIn w w.heap.size A n E) :
    Calls Tryz.prog 64 #[.agg #[v, .slice A n c], .agg (entA x)] w fun e w' => e = .returned (.bool (decide (x ∈ E))) ∧ Below w.heap.size w w' := by
  have hl := h.len
  have HI : Hid (EntsIn w w.heap.size A n E) := h
  clear h
  have hb0 : Held w [(w.heap.size + 1, .cells (entA x) 66), (w.heap.size, .cells #[v, .slice A n c] 39)]
    ((w.alloc (.cells #[v, .slice A n c] 39)).alloc (.cells (entA x) 66)) :=
    ((Held.refl w).alloc (.cells #[v, .slice A n c] 39) rfl).alloc (.cells (entA x) 66) (by simp)
  obtain ⟨r, hr⟩ : ∃ r, r = decide (x ∈ E) := ⟨_, rfl⟩
  rw [← hr]
  have HR := Lib.hid hr
  clear hr
  unfold entA
  go_enter Tryz.func64, Tryz.ntmps64
  go_wp2_with fail
  go_loopg [5] (n + 1) (fun gk i wr => ∃ k : Nat, i = .int .i64 (k : Int) ∧ gk + k = n + 1 ∧ k ≤ n ∧ Hid (x ∉ E.take k) ∧ Held w [(w.heap.size + 1, .cells (entA x) 66), (w.heap.size, .cells #[v, .slice A n c] 39)] wr)
  case atStart => exact ⟨0, rfl, by omega, by omega, Lib.hid (by simp), hb0⟩
  case round =>
    obtain ⟨k, rfl, hgk, hk, hnone, hH⟩ := hrel
    clear hb0
    have hc1 := (two_cells (g := w.heap.size) (hH.at 1 rfl)).2
    obtain ⟨y0, y1, y2, y3, y4⟩ := ent_cells (g := w.heap.size + 1) (hH.at 0 rfl)
    by_cases hlt : k < n
    · obtain ⟨gi, o, rfl, hg, hrow⟩ := HI.out.row (by omega)
      have hrk := (hrow k (by omega)).below hH.below hg
      have lk : k < E.length := by omega
      obtain ⟨z, hz⟩ : ∃ z, E[k] = z := ⟨_, rfl⟩
      have hmem : z ∈ E := by rw [← hz]; exact List.getElem_mem lk
      have hsn : x ∉ E.take (k + 1) ↔ ¬ x = z := by
        rw [List.take_succ_eq_append_getElem lk, List.mem_append, hz, List.mem_singleton]
        exact ⟨fun q e => q (Or.inr e), fun q e => e.elim hnone.out q⟩
      rw [hz] at hrk
      clear hrow hz lk hnone
      obtain ⟨e0, e1, e2, e3, e4⟩ := hrk
      by_cases hq : z = x
      · subst hq
        have hv := run_eqEnt z z
        rw [decide_eq_true rfl] at hv
        have HT : Hid (r = true) := Lib.hid (by rw [HR.out]; exact decide_eq_true hmem)
        clear hmem hsn
        go_wp2_with fail
        go_quiet (fail)
        go_wp2_with fail
        go_ret
        exact ⟨by rw [HT.out]; rfl, below_drewN' hH.below _⟩
      · have hv := run_eqEnt z x
        rw [decide_eq_false hq] at hv
        have HP := Lib.hid (hsn.2 fun q => hq q.symm)
        clear hmem hsn
        go_wp2_with fail
        go_quiet (fail)
        go_wp2_with fail
        go_roundg (gk - 1)
        case measure => omega
        case rel => exact ⟨k + 1, by go_num, by omega, by omega, HP, hH.drewN _⟩
    · have HT : Hid (r = false) := Lib.hid (by rw [HR.out]; exact decide_eq_false (mem_take_none (by omega) hnone.out))
      go_wp2_with fail
      go_ret
      exact ⟨by rw [HT.out]; rfl, hH.below⟩

end Go.Proofs.YthcmgaibbpacfaaGreatDoor

/-
  The walk of the document's own only (records): the entries of a graph that another one hasn't.
-/
namespace Go.Proofs.YthcmgaibbpacfaaGreatDoor
open Go.RowKit StampMath GraphMath

/-- The entries of one list that aren't in another one. -/
def onlyE (E F : List Ent) : List Ent := E.filter fun e => !decide (e ∈ F)

theorem onlyE_snoc (E F : List Ent) (k : Nat) (h : k < E.length) : onlyE (E.take (k + 1)) F = if E[k] ∈ F then onlyE (E.take k) F else onlyE (E.take k) F ++ [E[k]] := by
  unfold onlyE
  rw [List.take_succ_eq_append_getElem h, List.filter_append]
  by_cases e : E[k] ∈ F
  · rw [if_pos e]; simp [e]
  · rw [if_neg e]; simp [e]

theorem onlyE_le (E F : List Ent) : (onlyE E F).length ≤ E.length := List.length_filter_le _ _

/-- What the test reads. -/
def OnlyS (w : World) (va vb : Value) (A A' : Option Addr) (n c m d : Nat) (gi p : Nat) (x : Ent) (W : World) : Prop :=
  Held w [(w.heap.size + 1, .cells #[vb, .slice A' m d] 39), (w.heap.size, .cells #[va, .slice A n c] 39)] W ∧ W.cell? ⟨w.heap.size, 1, none⟩ = some (.slice A n c) ∧ W.cell? ⟨w.heap.size + 1, 0, none⟩ = some vb ∧ W.cell? ⟨w.heap.size + 1, 1, none⟩ = some (.slice A' m d) ∧
  W.cell? ⟨gi, p, none⟩ = some (.int .i64 x.dir.1) ∧ W.cell? ⟨gi, p + 1, none⟩ = some (.int .i64 x.dir.2) ∧ W.cell? ⟨gi, p + 2, none⟩ = some (.string x.name) ∧ W.cell? ⟨gi, p + 3, none⟩ = some (.int .i64 x.ino.1) ∧ W.cell? ⟨gi, p + 4, none⟩ = some (.int .i64 x.ino.2)

set_option maxRecDepth 100000 in
set_option maxHeartbeats 1600000 in
theorem refOnlyOwn (va vb : Value) (A A' : Option Addr) (n c m d : Nat) (E F : List Ent) (hn : n ≤ 1000) (hm : m ≤ 1000) (w : World) (h : EntsIn w w.heap.size A n E) (h' : EntsIn w w.heap.size A' m F) :
    Calls Tryz.prog 36 #[.agg #[va, .slice A n c], .agg #[vb, .slice A' m d]] w fun e w' => ∃ v, e = .returned v ∧ w'.ownsRow (w.heap.size + 2) 66 5 v (onlyE E F).length (flat ((onlyE E F).map entA)) ∧ Below w.heap.size w w' := by
  obtain ⟨i0, hi0, hz0, hz1, hz2⟩ := info_parts ent_infos
  have hl := h.len
  have HI : Hid (EntsIn w w.heap.size A n E) := h
  have HF : Hid (∀ (W : World) (x : Ent), Below w.heap.size w W → Calls Tryz.prog 64 #[.agg #[vb, .slice A' m d], .agg #[.int .i64 x.dir.1, .int .i64 x.dir.2, .string x.name, .int .i64 x.ino.1, .int .i64 x.ino.2]] W fun e w' => e = .returned (.bool (decide (x ∈ F))) ∧ Below W.heap.size W w') := Lib.hid fun W x hW => refIn vb A' m d F x hm W ((h'.below hW).more hW.size)
  clear h h'
  have hb0 : Held w [(w.heap.size + 1, .cells #[vb, .slice A' m d] 39), (w.heap.size, .cells #[va, .slice A n c] 39)]
    ((w.alloc (.cells #[va, .slice A n c] 39)).alloc (.cells #[vb, .slice A' m d] 39)) :=
    ((Held.refl w).alloc (.cells #[va, .slice A n c] 39) rfl).alloc (.cells #[vb, .slice A' m d] 39) (by simp)
  go_enter Tryz.func36, Tryz.ntmps36
  go_wp2_with fail
  go_loopg [5, 6] (n + 1) (fun gk out i wr => ∃ k : Nat, i = .int .i64 (k : Int) ∧ gk + k = n + 1 ∧ k ≤ n ∧ wr.ownsRow (w.heap.size + 2) 66 5 out (onlyE (E.take k) F).length (flat ((onlyE (E.take k) F).map entA)) ∧ Held w [(w.heap.size + 1, .cells #[vb, .slice A' m d] 39), (w.heap.size, .cells #[va, .slice A n c] 39)] wr)
  case atStart => exact ⟨0, rfl, by omega, by omega, World.ownsRow_nil _ _ _ _, hb0⟩
  case round =>
    obtain ⟨k, rfl, hgk, hk, hown, hH⟩ := hrel
    clear hb0
    have hc1 := (two_cells (g := w.heap.size) (hH.at 1 rfl)).2
    obtain ⟨c3, c4⟩ := two_cells (g := w.heap.size + 1) (hH.at 0 rfl)
    by_cases hlt : k < n
    · obtain ⟨gi, o, rfl, hg, hrow⟩ := HI.out.row (by omega)
      have hsn := onlyE_snoc E F k (by omega)
      have hle : (onlyE (E.take k) F).length ≤ 1000 := by have := onlyE_le (E.take k) F; rw [List.length_take] at this; omega
      have hrk := fun W hb => (hrow k (by omega)).below (B := w.heap.size) (W' := W) hb hg
      obtain ⟨x, hx⟩ : ∃ x, E[k] = x := ⟨_, rfl⟩
      rw [hx] at hrk hsn
      clear hrow hx
      have HS0 : Hid (∀ W, Held w [(w.heap.size + 1, .cells #[vb, .slice A' m d] 39), (w.heap.size, .cells #[va, .slice (some ⟨gi, o, none⟩) n c] 39)] W → OnlyS w va vb (some ⟨gi, o, none⟩) A' n c m d gi (o + k * 5) x W) := Lib.hid fun W hW => ⟨hW, (two_cells (g := w.heap.size) (hW.at 1 rfl)).2, (two_cells (g := w.heap.size + 1) (hW.at 0 rfl)).1, (two_cells (g := w.heap.size + 1) (hW.at 0 rfl)).2, hrk W hW.below⟩
      have hx2 := HF.out (x := x)
      obtain ⟨q, hq⟩ : ∃ q, q = decide (x ∈ F) := ⟨_, rfl⟩
      rw [← hq] at hx2
      have HX := Lib.hid hx2
      have HQ := Lib.hid hq
      have HR := Lib.hid hrk
      clear hrk hx2 hq
      go_upto_region 5 with fail
      clear hc1 c3 c4
      have hS := HS0.out _ hH
      have hSd := HS0.out _ hH.drew
      have hown0 : Hid (wr.drew.ownsRow (w.heap.size + 2) 66 5 u5 (onlyE (E.take k) F).length (flat ((onlyE (E.take k) F).map entA))) := hown
      unfold OnlyS at hS hSd
      go_region_held3 (fun W => Held w [(w.heap.size + 1, .cells #[vb, .slice A' m d] 39), (w.heap.size, .cells #[va, .slice (some ⟨gi, o, none⟩) n c] 39)] W ∧ W.cell? ⟨w.heap.size, 1, none⟩ = some (.slice (some ⟨gi, o, none⟩) n c) ∧ W.cell? ⟨w.heap.size + 1, 0, none⟩ = some vb ∧ W.cell? ⟨w.heap.size + 1, 1, none⟩ = some (.slice A' m d) ∧ W.cell? ⟨gi, o + k * 5, none⟩ = some (.int .i64 x.dir.1) ∧ W.cell? ⟨gi, o + k * 5 + 1, none⟩ = some (.int .i64 x.dir.2) ∧ W.cell? ⟨gi, o + k * 5 + 2, none⟩ = some (.string x.name) ∧ W.cell? ⟨gi, o + k * 5 + 3, none⟩ = some (.int .i64 x.ino.1) ∧ W.cell? ⟨gi, o + k * 5 + 4, none⟩ = some (.int .i64 x.ino.2)) (with_reducible assumption)
        (first
          | (go_at_call 64; (with_reducible refine (HX.out _ hSd.1.below).mono ?_); rintro e w2 ⟨rfl, hb2⟩; have hS2 := HS0.out _ (hSd.1.step hb2); unfold OnlyS at hS2; have hown2 := Lib.hid (own_call hown0.out hb2)))
      have hH2 := hS2.1
      clear hS hSd hS2 hown hown0 hH HS0 HX hb2
      by_cases hm2 : x ∈ F
      · obtain rfl : q = true := by rw [HQ.out]; exact decide_eq_true hm2
        rw [if_pos hm2] at hsn
        have HS := Lib.hid hsn
        clear hsn HQ hm2
        go_wp2_with fail
        go_roundg (gk - 1)
        case measure => omega
        case rel => exact ⟨k + 1, by go_num, by omega, by omega, by rw [HS.out]; exact hown2.out, hH2⟩
      · obtain rfl : q = false := by rw [HQ.out]; exact decide_eq_false hm2
        rw [if_neg hm2] at hsn
        have HS := Lib.hid hsn
        clear hsn HQ hm2
        have hc1 := (two_cells (g := w.heap.size) (hH2.at 1 rfl)).2
        obtain ⟨e0, e1, e2, e3, e4⟩ := HR.out w2 hH2.below
        have hlow : w.heap.size + 1 < w2.heap.size := heap_lt (hH2.at 0 rfl)
        have hmm : (onlyE (E.take k) F).length + 1 ≤ maxLen := by unfold maxLen; omega
        have hown3 := hown2.out
        clear hown2
        go_wp2_with (at_builtin; refine wpList_append_own _ rfl (.tmp 22) (.tmp 28) 31 rfl (w.heap.size + 2) 66 i0 _ 5 48 Tryz.underlying31 hi0 hz0 hz1 hz2 rfl (by decide) _ _ _ rfl (hown3.alloc _) ⟨w2.heap.size, 0, none⟩ 1 1 (entA x).toList rfl rfl (row_there w2 _ _) (ent_one x) hmm (by omega) (by simp; omega) ?_; intro v3 w3 hown4 hg3 _)
        have hb3 : Held w [(w.heap.size + 1, .cells #[vb, .slice A' m d] 39), (w.heap.size, .cells #[va, .slice (some ⟨gi, o, none⟩) n c] 39)] w3 :=
          (hH2.step ((Below.refl _ _).alloc (Nat.le_refl _) _)).grown hg3 (fun q hq => (hown3.lt q hq).1) (by intro p hp; simp at hp; rcases hp with rfl | rfl <;> (dsimp only; omega))
        rw [flat_ent] at hown4
        go_roundg (gk - 1)
        case measure => omega
        case rel => exact ⟨k + 1, by go_num, by omega, by omega, by rw [HS.out, List.length_append]; exact hown4, hb3⟩
    · rw [List.take_of_length_le (by omega)] at hown
      go_wp2_with fail
      go_ret
      exact ⟨_, rfl, hown, hH.below⟩

theorem refOnly (va vb : Value) (A A' : Option Addr) (n c m d : Nat) (E F : List Ent) (hn : n ≤ 1000) (hm : m ≤ 1000) (w : World) (h : EntsIn w w.heap.size A n E) (h' : EntsIn w w.heap.size A' m F) :
    Calls Tryz.prog 36 #[.agg #[va, .slice A n c], .agg #[vb, .slice A' m d]] w (EntsPost (onlyE E F) w) := by
  refine (refOnlyOwn va vb A A' n c m d E F hn hm w h h').mono ?_
  rintro e w' ⟨v, rfl, hown, hb⟩
  obtain ⟨B, cc, rfl, q1, q2, q3⟩ := ents_own rfl hown
  exact ⟨B, cc, rfl, q1, q2, q3.1, q3.2, hb⟩

end Go.Proofs.YthcmgaibbpacfaaGreatDoor

/-
  Graphs as values: a struct of two slices.
-/
namespace Go.Proofs.YthcmgaibbpacfaaGreatDoor
open Go.RowKit StampMath GraphMath

/-- A slice's bounds, and that it lies in a block of N. -/
def Cap (N : Nat → Prop) (A : Option Addr) (n c : Nat) : Prop := n ≤ c ∧ c ≤ maxLen ∧ (A = none → c = 0) ∧ (0 < n → ∀ p, A = some p → N p.block)

theorem Cap.to {N N' : Nat → Prop} {A : Option Addr} {n c : Nat} (h : Cap N A n c) (hN : ∀ i, N i → N' i := by intro i hi; first | exact hi | exact Or.inl hi | exact Or.inr (by omega) | (dsimp only at hi; exact Or.inr (by omega)) | exact Or.inr (Nat.le_trans (by omega) hi)) : Cap N' A n c :=
  ⟨h.1, h.2.1, h.2.2.1, fun hn p hp => hN _ (h.2.2.2 hn p hp)⟩

/-- The value v is the graph g in memory, in blocks of N. -/
def GrAt (N : Nat → Prop) (W : World) (v : Value) (g : Gr) : Prop :=
  ∃ (A : Option Addr) (n c : Nat) (A' : Option Addr) (m d : Nat), v = .agg #[.slice A n c, .slice A' m d] ∧ InosIn W W.heap.size A n g.I ∧ Cap N A n c ∧ EntsIn W W.heap.size A' m g.E ∧ Cap N A' m d

theorem GrAt.step {N N' : Nat → Prop} {W W' : World} {v : Value} {g : Gr} (h : GrAt N W v g) (hb : Below W.heap.size W W') (hN : ∀ i, N i → N' i := by intro i hi; first | exact hi | exact Or.inl hi) : GrAt N' W' v g := by
  obtain ⟨A, n, c, A', m, d, h1, h2, h3, h4, h5⟩ := h
  exact ⟨A, n, c, A', m, d, h1, (h2.below hb).more hb.size, h3.to hN, (h4.below hb).more hb.size, h5.to hN⟩

theorem TabIn.keep {k : Nat} {W W' : World} {B B' : Nat} {A : Option Addr} {n : Nat} {rows : List (Array Value)} (h : TabIn k W B A n rows) (hk : 0 < n → ∀ p, A = some p → W'.heap[p.block]? = W.heap[p.block]?) (hB : B ≤ B') : TabIn k W' B' A n rows :=
  ⟨h.1, fun hn => by
    obtain ⟨g, o, e, hg, hc⟩ := h.2 hn
    exact ⟨g, o, e, by omega, fun j hj i v hv => (World.cell?_of_block (a := ⟨g, o + j * k + i, none⟩) (hk hn ⟨g, o, none⟩ e)).trans (hc j hj i v hv)⟩⟩

/-- It is kept where its blocks are. -/
theorem GrAt.keep {N N' : Nat → Prop} {W W' : World} {v : Value} {g : Gr} (h : GrAt N W v g) (hk : ∀ i, N i → W'.heap[i]? = W.heap[i]?) (hs : W.heap.size ≤ W'.heap.size) (hN : ∀ i, N i → N' i := by intro i hi; first | exact hi | exact Or.inl hi) : GrAt N' W' v g := by
  obtain ⟨A, n, c, A', m, d, h1, h2, h3, h4, h5⟩ := h
  exact ⟨A, n, c, A', m, d, h1, TabIn.keep h2 (fun hn p hp => hk _ (h3.2.2.2 hn p hp)) hs, h3.to hN, TabIn.keep h4 (fun hn p hp => hk _ (h5.2.2.2 hn p hp)) hs, h5.to hN⟩

theorem GrAt.form {N : Nat → Prop} {W : World} {v : Value} {g : Gr} (h : GrAt N W v g) : ∃ (A : Option Addr) (n c : Nat) (A' : Option Addr) (m d : Nat), v = .agg #[.slice A n c, .slice A' m d] := by
  obtain ⟨A, n, c, A', m, d, h1, _⟩ := h
  exact ⟨A, n, c, A', m, d, h1⟩

/-- Its blocks are there. -/
theorem GrAt.live {N : Nat → Prop} {W : World} {v : Value} {g : Gr} (h : GrAt N W v g) : GrAt (fun i => N i ∧ i < W.heap.size) W v g := by
  obtain ⟨A, n, c, A', m, d, h1, h2, h3, h4, h5⟩ := h
  have lt : ∀ {k n : Nat} {A : Option Addr} {rows : List (Array Value)}, TabIn k W W.heap.size A n rows → 0 < n → ∀ p, A = some p → p.block < W.heap.size := fun h hn p hp => by
    obtain ⟨g, o, e, hg, _⟩ := h.2 hn
    rw [e] at hp
    injection hp with hp
    rw [← hp]
    exact hg
  exact ⟨A, n, c, A', m, d, h1, h2, ⟨h3.1, h3.2.1, h3.2.2.1, fun hn p hp => ⟨h3.2.2.2 hn p hp, lt h2 hn p hp⟩⟩, h4, ⟨h5.1, h5.2.1, h5.2.2.1, fun hn p hp => ⟨h5.2.2.2 hn p hp, lt h4 hn p hp⟩⟩⟩

/-- These blocks, and what is made behind w. -/
def MoreN (N : Nat → Prop) (w : World) : Nat → Prop := fun i => N i ∨ w.heap.size ≤ i

/-- A graph and a number are answered. -/
def GrPost (N : Nat → Prop) (r : Gr × Int) (w : World) (e : Ending) (w' : World) : Prop :=
  ∃ v, e = .returned (.tuple #[v, .int .i64 r.2]) ∧ GrAt (MoreN N w) w' v r.1 ∧ Below w.heap.size w w'

end Go.Proofs.YthcmgaibbpacfaaGreatDoor

/-
  A graph beside the document's one in a box: what a round of the statements' loop leaves of both.
-/
namespace Go.Proofs.YthcmgaibbpacfaaGreatDoor
open Go.RowKit StampMath GraphMath OpMath

/-- A round's head: the graph, and the document's, in a box. -/
structure Play (H : GraphHave) (w W : World) (a : Addr) (bx : Nat) (γ : Gr) (X : Option Addr) (n1 c1 : Nat) (Y : Option Addr) (m1 d1 : Nat) (N : Nat → Prop) : Prop where
  gr : GX H w W N a γ
  x : GrAt (fun i => N i ∧ i ≠ bx) W (.agg #[.slice X n1 c1, .slice Y m1 d1]) γ
  here : N bx
  ge : w.heap.size ≤ bx
  box : W.heap[bx]? = some (.cells #[.slice X n1 c1, .slice Y m1 d1] 39 (0, 0))

theorem box_behind {W W' : World} {o : Obj} (hb : Below (W.alloc o).drew.heap.size (W.alloc o).drew W') : W'.heap[W.heap.size]? = some o :=
  (hb.block _ (heap_lt (heap_alloc_new W o))).trans (heap_alloc_new W o)

/-- What the document's answer to a deed leaves: a box with the next graph, and an error. -/
def Told (N : Nat → Prop) (w6 : World) (g' : Gr) (er : Int) (v n : Value) (W : World) : Prop :=
  ∃ (bn : Nat) (X : Option Addr) (n1 c1 : Nat) (Y : Option Addr) (m1 d1 : Nat), v = .pointer (some ⟨bn, 0, none⟩) ∧ n = .int .i64 er ∧ Below w6.heap.size w6 W ∧ w6.heap.size ≤ bn ∧
    W.heap[bn]? = some (.cells #[.slice X n1 c1, .slice Y m1 d1] 39 (0, 0)) ∧ GrAt (MoreN N w6) W (.agg #[.slice X n1 c1, .slice Y m1 d1]) g'

theorem told_after {N : Nat → Prop} {w6 W w8 : World} {g' : Gr} {er : Int} {X : Option Addr} {n1 c1 : Nat} {Y : Option Addr} {m1 d1 : Nat} (hW : Below w6.heap.size w6 W) (q8 : GrAt (MoreN N W) w8 (.agg #[.slice X n1 c1, .slice Y m1 d1]) g') (hb8 : Below W.heap.size W w8) :
    Told N w6 g' er (.pointer (some ⟨w8.heap.size, 0, none⟩)) (.int .i64 er) (w8.alloc (.cells #[.slice X n1 c1, .slice Y m1 d1] 39)) := by
  have h1 := below_step hW hb8
  exact ⟨_, X, n1, c1, Y, m1, d1, rfl, rfl, below_step h1 ((Below.refl _ _).alloc (Nat.le_refl _) _), h1.size, heap_alloc_new _ _, q8.step ((Below.refl _ _).alloc (Nat.le_refl _) _) fun i hi => hi.imp_right fun q => Nat.le_trans hW.size q⟩

theorem told_before {N : Nat → Prop} {w6 w8 : World} {o : Obj} {g' : Gr} {er : Int} {X : Option Addr} {n1 c1 : Nat} {Y : Option Addr} {m1 d1 : Nat} (hN : ∀ i, N i → i < w6.heap.size) (ho : w8.heap[w6.heap.size]? = some (.cells #[.slice none 0 0, .slice none 0 0] 39 (0, 0)))
    (q8 : GrAt (MoreN N (w6.alloc o).drew) w8 (.agg #[.slice X n1 c1, .slice Y m1 d1]) g') (hb8 : Below (w6.alloc o).drew.heap.size (w6.alloc o).drew w8) :
    Told N w6 g' er (.pointer (some ⟨w6.heap.size, 0, none⟩)) (.int .i64 er) ((w8.setCell ⟨w6.heap.size, 0, none⟩ (.slice X n1 c1)).setCell ⟨w6.heap.size, 1, none⟩ (.slice Y m1 d1)) := by
  have h1 : Below w6.heap.size w6 w8 := below_step (((Below.refl w6.heap.size w6).alloc (Nat.le_refl _) o).drew) hb8
  refine ⟨_, X, n1, c1, Y, m1, d1, rfl, rfl, (h1.setCell (p := ⟨w6.heap.size, 0, none⟩) (Nat.le_refl _) _).setCell (p := ⟨w6.heap.size, 1, none⟩) (Nat.le_refl _) _, Nat.le_refl _, ?_, q8.keep (fun i hi => ?_) (by simp) fun i hi => hi.imp_right fun q => ?_⟩
  · rw [heap_setCell_same _ _ _ _ _ _ (heap_setCell_same _ _ _ _ _ _ ho)]
    rfl
  · have hne : i ≠ w6.heap.size := by
      rcases hi with hi | hi
      · have := hN i hi; omega
      · have h2 : w6.heap.size + 1 ≤ i := by
          have h3 : (w6.alloc o).drew.heap.size = w6.heap.size + 1 := by show (w6.alloc o).heap.size = _; simp
          omega
        omega
    rw [heap_setCell_other _ _ _ _ hne, heap_setCell_other _ _ _ _ hne]
  · have h3 : (w6.alloc o).drew.heap.size = w6.heap.size + 1 := by show (w6.alloc o).heap.size = _; simp
    omega

/-- A round's end: the document's next graph is laid into the first box. -/
theorem play_end {H : GraphHave} {w w6 w9 w' : World} {a : Addr} {bx : Nat} {γ' : Gr} {N T : Nat → Prop} {X : Option Addr} {n1 c1 : Nat} {Y : Option Addr} {m1 d1 : Nat} {o1 o2 : Value} (h6 : GX H w w6 (fun i => N i ∨ T i) a γ') (hN : N bx) (hge : w.heap.size ≤ bx) (ho : w6.heap[bx]? = some (.cells #[o1, o2] 39 (0, 0)))
    (hB : Below w6.heap.size w6 w9) (q8 : GrAt (MoreN (fun i => N i ∧ i ≠ bx) w6) w9 (.agg #[.slice X n1 c1, .slice Y m1 d1]) γ') (hB2 : Below w9.heap.size w9 w') :
    ∃ N', Play H w ((w'.setCell ⟨bx, 0, none⟩ (.slice X n1 c1)).setCell ⟨bx, 1, none⟩ (.slice Y m1 d1)) a bx γ' X n1 c1 Y m1 d1 N' := by
  have g9 := (h6.grow hB).step hB2
  have hbut : But (fun i => i = bx) w' ((w'.setCell ⟨bx, 0, none⟩ (.slice X n1 c1)).setCell ⟨bx, 1, none⟩ (.slice Y m1 d1)) := ((But.refl (fun i => i = bx) w').setCell (p := ⟨bx, 0, none⟩) (.inl rfl) _).setCell (p := ⟨bx, 1, none⟩) (.inl rfl) _
  have g10 := g9.put hbut fun i hi => by subst hi; exact ⟨.inl (.inl hN), hge⟩
  have h9 : w'.heap[bx]? = some (.cells #[o1, o2] 39 (0, 0)) := ((hB2.block bx (Nat.lt_of_lt_of_le (heap_lt ho) hB.size)).trans (hB.block bx (heap_lt ho))).trans ho
  refine ⟨_, g10, ((q8.live.step (N' := fun i => MoreN (fun i => N i ∧ i ≠ bx) w6 i ∧ i < w9.heap.size) hB2).keep (fun i hi => ?_) (by simp) fun i hi => ?_), .inl (.inl hN), hge, ?_⟩
  · have hne : i ≠ bx := by
      rcases hi.1 with q | q
      · exact q.2
      · have := heap_lt ho; omega
    rw [heap_setCell_other _ _ _ _ hne, heap_setCell_other _ _ _ _ hne]
  · rcases hi.1 with q | q
    · exact ⟨.inl (.inl q.1), q.2⟩
    · have := heap_lt ho; exact ⟨.inr ⟨q, hi.2⟩, by omega⟩
  · rw [heap_setCell_same _ _ _ _ _ _ (heap_setCell_same _ _ _ _ _ _ h9)]
    rfl

end Go.Proofs.YthcmgaibbpacfaaGreatDoor

/-
  Records kept in a slice, beside the graph that they speak of.
-/
namespace Go.Proofs.YthcmgaibbpacfaaGreatDoor
open Go.RowKit StampMath GraphMath OpMath PackMath

/-- A row whose block is as it was. -/
theorem own_same {w w' : World} {base : Nat} {e : TypeId} {k : Nat} {v : Value} {n : Nat} {xs : List Value} (h : w.ownsRow base e k v n xs) (hb : ∀ g, v.ownBlock = some g → w'.heap[g]? = w.heap[g]?) : w'.ownsRow base e k v n xs := by
  obtain ⟨h0, h1 | ⟨g, cap, cur, h1, h2, h3, h4⟩⟩ := h
  · exact ⟨h0, Or.inl h1⟩
  · exact ⟨h0, Or.inr ⟨g, cap, cur, h1, h2, (hb g (by rw [h1]; rfl)).trans h3, h4⟩⟩

/-- A graph that is fine, made since w, outside the blocks N; among these a slice of records, whose own lists lie in M. -/
structure Stack (H : GraphHave) (w W : World) (N M : Nat → Prop) (a : Addr) (g : Gr) (rv : Value) (rs : List Rec) : Prop where
  fx : FX H w W N a g
  own : ∃ vs : List (Array Value), vs.length = rs.length ∧ W.ownsRow w.heap.size 36 5 rv rs.length (flat vs) ∧ (∀ v ∈ vs, v.size = 5) ∧ ∀ (j : Nat) (r : Rec) (v : Array Value), rs[j]? = some r → vs[j]? = some v → RecAt M W (.agg v) r
  sub : ∀ i, M i → N i
  row : ∀ b, rv.ownBlock = some b → N b ∧ ¬ M b

section
variable {H : GraphHave} {w W W' : World} {N M : Nat → Prop} {a : Addr} {g g' : Gr} {rv : Value} {rs : List Rec}

theorem Stack.start (h : FX H w W N a g) : Stack H w W N (fun _ => False) a g (.slice none 0 0) [] :=
  ⟨h, ⟨[], rfl, World.ownsRow_nil _ _ _ _, (fun _ hv => (nomatch hv)), fun j r v hr => by simp at hr⟩, (fun _ hi => hi.elim), fun b hb => by simp [Value.ownBlock] at hb⟩

/-- A call that leaves the blocks N; the graph may be another one. -/
theorem Stack.same (h : Stack H w W N M a g rv rs) {N' : Nat → Prop} (hN : ∀ i, N i → N' i) (k : FX H w W' N' a g') (s : Same N W W') : Stack H w W' N' M a g' rv rs := by
  obtain ⟨fx, ⟨vs, h1, h2, h3, h4⟩, sub, row⟩ := h
  refine ⟨k, ⟨vs, h1, own_same h2 fun b hb => s.2 b (row b hb).1, h3, fun j r v hr hv => (h4 j r v hr hv).keep (fun i hi _ => s.2 i (sub i hi)) s.1⟩, fun i hi => hN i (sub i hi), fun b hb => ⟨hN b (row b hb).1, (row b hb).2⟩⟩

theorem Stack.step (h : Stack H w W N M a g rv rs) (hb : Below W.heap.size W W') : Stack H w W' N M a g rv rs :=
  h.same (fun _ hi => hi) (h.fx.step hb) ⟨hb.size, fun i hi => hb.block i (h.fx.gx.lt i hi)⟩

/-- More lists are of records. -/
theorem Stack.more (h : Stack H w W N M a g rv rs) {B : Nat → Prop} (hB : ∀ i, B i → N i) (hr : ∀ b, rv.ownBlock = some b → ¬ B b) : Stack H w W N (fun i => M i ∨ B i) a g rv rs := by
  obtain ⟨fx, ⟨vs, h1, h2, h3, h4⟩, sub, row⟩ := h
  exact ⟨fx, ⟨vs, h1, h2, h3, fun j r v hr hv => (h4 j r v hr hv).mono fun i hi _ => Or.inl hi⟩, fun i hi => hi.elim (sub i) (hB i), fun b hb => ⟨(row b hb).1, fun q => q.elim (row b hb).2 (hr b hb)⟩⟩

/-- One record more lies behind the others. -/
theorem Stack.push (h : Stack H w W N M a g rv rs) {vs : List (Array Value)} (h1 : vs.length = rs.length) (h3 : ∀ v ∈ vs, v.size = 5) (h4 : ∀ (j : Nat) (r : Rec) (v : Array Value), rs[j]? = some r → vs[j]? = some v → RecAt M W (.agg v) r)
    {v : Array Value} {r : Rec} (hv : v.size = 5) (hr : RecAt M W (.agg v) r) {rv' : Value} (hown : W'.ownsRow w.heap.size 36 5 rv' (rs.length + 1) (flat vs ++ v.toList)) (hg : W.grownBy W' rv.ownBlock) (hat : rv'.ownBlock = rv.ownBlock ∨ rv'.ownBlock = some W.heap.size)
    (hlow : ∀ b, rv.ownBlock = some b → w.heap.size ≤ b) : Stack H w W' (fun i => N i ∨ (W.heap.size ≤ i ∧ i < W'.heap.size)) M a g rv' (rs ++ [r]) := by
  obtain ⟨⟨⟨⟨S, q1, q2, q3⟩, q4, q5, q6⟩, q7⟩, _, sub, row⟩ := h
  have hM : ∀ i, M i → W'.heap[i]? = W.heap[i]? := fun i hi => hg.block i (q5 i (sub i hi)) fun e => (row i e.symm).2 hi
  have hS : ∀ i, S i → W'.heap[i]? = W.heap[i]? := fun i hi => hg.block i (H.lt q1 i hi) fun e => q3 i (row i e.symm).1 hi
  refine ⟨⟨⟨⟨S, H.keep q1 hS, q2, fun i hi hs => ?_⟩, q4, fun i hi => ?_, ⟨hg.os.trans q6.os, hg.tape.trans q6.tape, hg.output.trans q6.output, Nat.le_trans q6.size hg.size, fun k hk => (hg.block k (Nat.lt_of_lt_of_le hk q6.size) fun e => ?_).trans (q6.block k hk)⟩⟩, q7⟩, ⟨vs ++ [v], by simp [h1], ?_, ?_, ?_⟩, fun i hi => Or.inl (sub i hi), fun b hb => ?_⟩
  · rcases hi with hi | hi
    · exact q3 i hi hs
    · have := H.lt q1 i hs; omega
  · rcases hi with hi | hi
    · exact Nat.lt_of_lt_of_le (q5 i hi) hg.size
    · exact hi.2
  · have := hlow k e.symm; omega
  · rw [flat_append, flat_one, List.length_append]
    exact hown
  · intro u hu
    rcases List.mem_append.1 hu with hu | hu
    · exact h3 u hu
    · rw [List.mem_singleton.1 hu]; exact hv
  · intro j r' v' hr' hv'
    by_cases hj : j < rs.length
    · rw [List.getElem?_append_left hj] at hr'
      rw [List.getElem?_append_left (by omega)] at hv'
      exact (h4 j r' v' hr' hv').keep (fun i hi _ => hM i hi) hg.size
    · have e1 : j = rs.length := by
        have := (List.getElem?_eq_some_iff.1 hr').1
        rw [List.length_append] at this
        simp at this
        omega
      subst e1
      rw [List.getElem?_append_right (Nat.le_refl _)] at hr'
      rw [← h1, List.getElem?_append_right (Nat.le_refl _)] at hv'
      simp at hr' hv'
      subst hr' hv'
      exact hr.keep (fun i hi _ => hM i hi) hg.size
  · rcases hat with q | q
    · rw [q] at hb
      exact ⟨Or.inl (row b hb).1, (row b hb).2⟩
    · rw [q] at hb
      injection hb with hb
      subst hb
      have hlt : W.heap.size < W'.heap.size := by
        rcases hown with ⟨_, ⟨e, _⟩ | ⟨g0, cap, cur, e, _, k1, _⟩⟩
        · rw [e] at q; cases q
        · rw [e] at q
          have : g0 = W.heap.size := by simpa [Value.ownBlock] using q
          rw [← this]
          exact heap_lt k1
      exact ⟨Or.inr ⟨Nat.le_refl _, hlt⟩, fun m => by have := q5 _ (sub _ m); omega⟩

end

end Go.Proofs.YthcmgaibbpacfaaGreatDoor
