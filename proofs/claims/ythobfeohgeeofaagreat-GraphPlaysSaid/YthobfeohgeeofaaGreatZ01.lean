/-
  The walks of the document's own Links, Get, Look (graphs).
-/
import Derived.Test.YthobfeohgeeofaaGreatZ00
import Derived.Test.YthobfeohgeeofaaGreatRows
import Derived.Test.YthobfeohgeeofaaGreatZ00
import Derived.Deep.LoopGhost
import Derived.Deep.QuietTactic
import Derived.BigQuiet
import Derived.Deep.Cut
namespace Go.Proofs.YthobfeohgeeofaaGreat
open Go.RowKit StampMath GraphMath

set_option maxRecDepth 100000 in
set_option maxHeartbeats 800000 in
theorem refLinks (v : Value) (A : Option Addr) (n c : Nat) (E : List Ent) (id : St) (hn : n ≤ 1000) (w : World) (h : EntsIn w w.heap.size A n E) :
    Calls Tryz.prog 54 #[.agg #[v, .slice A n c], .agg (stA id)] w fun e w' => e = .returned (.int .i64 (linksE E id : Nat)) ∧ Below w.heap.size w w' := by
  have hl := h.len
  have HB : Hid (EntsIn w w.heap.size A n E) := h
  clear h
  unfold stA
  obtain ⟨t, r⟩ := id
  dsimp only
  go_enter Tryz.func54, Tryz.ntmps54
  go_wp2_with fail
  go_loopg [5, 6] (n + 1) (fun gk x i wr => ∃ k : Nat, i = .int .i64 (k : Int) ∧ x = .int .i64 (linksE (E.take k) (t, r) : Nat) ∧ gk + k = n + 1 ∧ k ≤ n ∧ wr.heap[w.heap.size]? = some (.cells #[v, .slice A n c] 29 (0, 0)) ∧ wr.heap[w.heap.size + 1]? = some (.cells #[.int .i64 t, .int .i64 r] 34 (0, 0)) ∧ Below w.heap.size w wr)
  case atStart =>
    refine ⟨0, rfl, rfl, by omega, by omega, ?_, ?_, ((Below.refl _ w).alloc (Nat.le_refl _) _).alloc (by simp) _⟩
    · exact heap_alloc2_old w _ _
    · exact heap_alloc2_new w _ _
  case round =>
    obtain ⟨k, rfl, rfl, hgk, hk, h1, h2, hB⟩ := hrel
    have c1 := cell_of_row _ _ 1 _ _ (0, 0) h1
    have c2 := cell_of_row _ _ 0 _ _ (0, 0) h2
    have c3 := cell_of_row _ _ 1 _ _ (0, 0) h2
    by_cases hlt : k < n
    · obtain ⟨g, o, rfl, hg, hrow⟩ := HB.out.row (by omega)
      obtain ⟨e0, e1, e2, e3, e4⟩ := (hrow k (by omega)).below hB hg
      clear hrow
      have hsn := linksE_snoc E k (by omega) (t, r)
      have hnum : (linksE (E.take k) (t, r) : Int) ≤ 1000 := by have := linksE_le (E.take k) (t, r); rw [List.length_take] at this; omega
      by_cases hq : E[k].ino = (t, r)
      · rw [if_pos hq] at hsn
        have hv := eqSt_yes hq
        dsimp only at hv
        go_wp2_with fail
        go_quiet (fail)
        go_wp2_with fail
        go_roundg (gk - 1)
        case measure => omega
        case rel => exact ⟨k + 1, by go_num, by rw [hsn]; go_num, by omega, by omega, h1, h2, below_drewN' hB _⟩
      · rw [if_neg hq] at hsn
        have hv := eqSt_no hq
        dsimp only at hv
        go_wp2_with fail
        go_quiet (fail)
        go_wp2_with fail
        go_roundg (gk - 1)
        case measure => omega
        case rel => exact ⟨k + 1, by go_num, by rw [hsn], by omega, by omega, h1, h2, below_drewN' hB _⟩
    · go_wp2_with fail
      go_ret
      exact ⟨by rw [List.take_of_length_le (by omega)]; rfl, hB⟩

set_option maxRecDepth 100000 in
set_option maxHeartbeats 1600000 in
theorem refGet (A A' : Option Addr) (n c m d : Nat) (g : Gr) (id : St) (hn : n ≤ 1000) (hm : m ≤ 1000) (w : World) (h : InosIn w w.heap.size A n g.I) (h' : EntsIn w w.heap.size A' m g.E) :
    Calls Tryz.prog 37 #[.agg #[.slice A n c, .slice A' m d], .agg (stA id)] w fun e w' => e = .returned (.tuple #[.agg (inoA ((getG g id).getD noIno)), .bool (getG g id).isSome]) ∧ Below w.heap.size w w' := by
  have hl := h.len
  have HI : Hid (InosIn w w.heap.size A n g.I) := h
  have HL : Hid (∀ W : World, Below w.heap.size w W → Calls Tryz.prog 54 #[.agg #[.slice A n c, .slice A' m d], .agg #[.int .i64 id.1, .int .i64 id.2]] W fun e w' => e = .returned (.int .i64 (linksE g.E id : Nat)) ∧ Below W.heap.size W w') := fun W hW => refLinks (.slice A n c) A' m d g.E id hm W ((h'.below hW).more hW.size)
  clear h h'
  have hb0 : Held w [(w.heap.size + 1 + 1, .cells (inoA noIno) 47), (w.heap.size + 1, .cells (stA id) 34), (w.heap.size, .cells #[.slice A n c, .slice A' m d] 29)]
    (((w.alloc (.cells #[.slice A n c, .slice A' m d] 29)).alloc (.cells #[.int .i64 id.1, .int .i64 id.2] 34)).alloc (.cells #[.int .i64 0, .int .i64 0, .int .i64 0, .int .i64 0, .int .i64 0, .string ⟨#[]⟩] 47)) :=
    (((Held.refl w).alloc (.cells #[.slice A n c, .slice A' m d] 29) rfl).alloc (.cells (stA id) 34) (by simp)).alloc (.cells (inoA noIno) 47) (by simp)
  unfold stA
  go_enter Tryz.func37, Tryz.ntmps37
  go_wp2_with fail
  go_loopg [6] (n + 1) (fun gk i wr => ∃ k : Nat, i = .int .i64 (k : Int) ∧ gk + k = n + 1 ∧ k ≤ n ∧ Hid ((g.I.take k).find? (fun x => decide (x.id = id)) = none) ∧ Held w [(w.heap.size + 1 + 1, .cells (inoA noIno) 47), (w.heap.size + 1, .cells (stA id) 34), (w.heap.size, .cells #[.slice A n c, .slice A' m d] 29)] wr)
  case atStart => exact ⟨0, rfl, by omega, by omega, rfl, hb0⟩
  case round =>
    obtain ⟨k, rfl, hgk, hk, hnone, hH⟩ := hrel
    clear hb0
    obtain ⟨c1, c2⟩ := two_cells (g := w.heap.size) (hH.at 2 rfl)
    obtain ⟨c3, c4⟩ := two_cells (g := w.heap.size + 1) (hH.at 1 rfl)
    by_cases hlt : k < n
    · obtain ⟨gi, o, rfl, hg, hrow⟩ := HI.out.row (by omega)
      have hp := find_none_take (p := fun x : Ino => decide (x.id = id)) (k := k) (by omega) hnone.out
      have hrk := fun W hb => (hrow k (by omega)).below (B := w.heap.size) (W' := W) hb hg
      obtain ⟨⟨xi, kd, lk, md, da⟩, hx⟩ : ∃ x, g.I[k] = x := ⟨_, rfl⟩
      rw [hx] at hrk hp
      clear hrow hx hnone
      obtain ⟨e0, e1, e2, e3, e4, e5⟩ := hrk wr hH.below
      have HR := Lib.hid hrk
      clear hrk
      by_cases hq : xi = id
      · have hv := eqSt_yes hq
        subst hq
        rw [if_pos (decide_eq_true rfl)] at hp
        have HG : Hid (getG g xi = some ⟨xi, kd, (linksE g.E xi : Int), md, da⟩) := by
          show getG g xi = _
          unfold getG
          rw [find_take hp]
          rfl
        clear hp
        go_wp2_with fail
        go_quiet (fail)
        have hH2 := hH.drewN nq
        generalize wr.drewN nq = w2 at hH2 ⊢
        clear c1 c2 c3 c4 e0 e1 e2 e3 e4 e5 hH
        obtain ⟨c1, c2⟩ := two_cells (g := w.heap.size) (hH2.at 2 rfl)
        obtain ⟨c3, c4⟩ := two_cells (g := w.heap.size + 1) (hH2.at 1 rfl)
        obtain ⟨e0, e1, e2, e3, e4, e5⟩ := HR.out w2 hH2.below
        go_upto_region 6 with fail
        change Code.wp _ _ _ _ (w2.alloc (.cells (inoA ⟨xi, kd, lk, md, da⟩) 47))
        have hH3 := hH2.alloc (.cells (inoA ⟨xi, kd, lk, md, da⟩) 47) rfl
        obtain ⟨u, hu⟩ : ∃ u, u = w2.heap.size := ⟨_, rfl⟩
        have hlow : w.heap.size + 1 + 1 < u := by rw [hu]; exact heap_lt (hH2.at 0 rfl)
        rw [← hu] at hH3 ⊢
        generalize w2.alloc (.cells (inoA ⟨xi, kd, lk, md, da⟩) 47) = w3 at hH3 ⊢
        clear c1 c2 c3 c4 e0 e1 e2 e3 e4 e5 hH2 hu
        obtain ⟨c1, c2⟩ := two_cells (g := w.heap.size) (hH3.at 3 rfl)
        obtain ⟨c3, c4⟩ := two_cells (g := w.heap.size + 1) (hH3.at 2 rfl)
        go_wp2_with fail
        refine (HL.out _ hH3.below).mono ?_
        rintro e w4 ⟨rfl, hb4⟩
        have hH4 := hH3.step hb4
        clear c1 c2 c3 c4 hH3 hb4
        obtain ⟨e0, e1, e2, e3, e4, e5⟩ := ino_cells (g := u) (hH4.at 0 rfl)
        obtain ⟨f0, f1, f2, f3, f4, f5⟩ := ino_free (g := u) (hH4.at 0 rfl)
        obtain ⟨m0, m1, m2, m3, m4, m5⟩ := ino_cells (g := w.heap.size + 1 + 1) (hH4.at 1 rfl)
        obtain ⟨n0, n1, n2, n3, n4, n5⟩ := ino_free (g := w.heap.size + 1 + 1) (hH4.at 1 rfl)
        go_wp2_with fail
        exact bodyPost_ret (v := .tuple #[.agg (inoA ⟨xi, kd, (linksE g.E xi : Int), md, da⟩), .bool true]) (by simp [results, Tryz.results37, go_sem, inoA, noIno, m0, m1, m2, m3, m4, m5]) rfl ⟨by rw [HG.out]; rfl, below_six (hH4.below.setCell (by dsimp only; omega) _) (by omega) _ _ _ _ _ _⟩
      · have hv := eqSt_no hq
        rw [if_neg (by rw [decide_eq_false hq]; decide)] at hp
        have HP := Lib.hid hp
        clear hp
        go_wp2_with fail
        go_quiet (fail)
        go_wp2_with fail
        go_roundg (gk - 1)
        case measure => omega
        case rel => exact ⟨k + 1, by go_num, by omega, by omega, HP.out, hH.drewN _⟩
    · have hget : getG g id = none := by
        unfold getG
        have := hnone.out
        rw [List.take_of_length_le (by omega)] at this
        rw [this]
        rfl
      have HG := Lib.hid hget
      clear hget
      have f := ino_free (g := w.heap.size + 1 + 1) (hH.at 0 rfl)
      obtain ⟨f0, f1, f2, f3, f4, f5⟩ := f
      have m' := ino_cells (g := w.heap.size + 1 + 1) (hH.at 0 rfl)
      obtain ⟨m0, m1, m2, m3, m4, m5⟩ := m'
      go_wp2_with fail
      exact bodyPost_ret (v := .tuple #[.agg (inoA noIno), .bool false]) (by simp [results, Tryz.results37, go_sem, inoA, noIno, m0, m1, m2, m3, m4, m5]) rfl ⟨by rw [HG.out]; rfl, below_six hH.below (by omega) _ _ _ _ _ _⟩

end Go.Proofs.YthobfeohgeeofaaGreat

/-
  The walk of the document's own Look (graphs).
-/
namespace Go.Proofs.YthobfeohgeeofaaGreat
open Go.RowKit StampMath GraphMath

/-- Is it the entry nm of d? -/
def isAt (d : St) (nm : ByteArray) (e : Ent) : Bool := decide (e.dir = d) && decide (e.name = nm)

theorem names_same (a b : ByteArray) : (a.toList == b.toList) = decide (a = b) := by
  by_cases h : a = b
  · subst h; simp
  · rw [decide_eq_false h, beq_eq_false_iff_ne]; exact fun e => h (bytes_same e)

set_option maxRecDepth 100000 in
set_option maxHeartbeats 1600000 in
theorem refLook (v : Value) (A : Option Addr) (n c : Nat) (E : List Ent) (at' : St) (nm : ByteArray) (hn : n ≤ 1000) (w : World) (h : EntsIn w w.heap.size A n E) :
    Calls Tryz.prog 41 #[.agg #[v, .slice A n c], .agg (stA at'), .string nm] w fun e w' => e = .returned (.tuple #[.agg (stA ((lookE E at' nm).getD (0, 0))), .bool (lookE E at' nm).isSome]) ∧ Below w.heap.size w w' := by
  have hl := h.len
  have HI : Hid (EntsIn w w.heap.size A n E) := h
  clear h
  have hb0 : Held w [(w.heap.size + 1 + 1, .cells #[.int .i64 0, .int .i64 0] 34), (w.heap.size + 1, .cells (stA at') 34), (w.heap.size, .cells #[v, .slice A n c] 29)]
    (((w.alloc (.cells #[v, .slice A n c] 29)).alloc (.cells #[.int .i64 at'.1, .int .i64 at'.2] 34)).alloc (.cells #[.int .i64 0, .int .i64 0] 34)) :=
    (((Held.refl w).alloc (.cells #[v, .slice A n c] 29) rfl).alloc (.cells (stA at') 34) (by simp)).alloc (.cells #[.int .i64 0, .int .i64 0] 34) (by simp)
  unfold stA
  go_enter Tryz.func41, Tryz.ntmps41
  go_wp2_with fail
  go_loopg [8] (n + 1) (fun gk i wr => ∃ k : Nat, i = .int .i64 (k : Int) ∧ gk + k = n + 1 ∧ k ≤ n ∧ Hid ((E.take k).find? (isAt at' nm) = none) ∧ Held w [(w.heap.size + 1 + 1, .cells #[.int .i64 0, .int .i64 0] 34), (w.heap.size + 1, .cells (stA at') 34), (w.heap.size, .cells #[v, .slice A n c] 29)] wr)
  case atStart => exact ⟨0, rfl, by omega, by omega, rfl, hb0⟩
  case round =>
    obtain ⟨k, rfl, hgk, hk, hnone, hH⟩ := hrel
    clear hb0
    have hc1 := (two_cells (g := w.heap.size) (hH.at 2 rfl)).2
    obtain ⟨c3, c4⟩ := two_cells (g := w.heap.size + 1) (hH.at 1 rfl)
    obtain ⟨m0, m1⟩ := two_cells (g := w.heap.size + 1 + 1) (hH.at 0 rfl)
    obtain ⟨f0, f1⟩ := two_free (g := w.heap.size + 1 + 1) (hH.at 0 rfl)
    by_cases hlt : k < n
    · obtain ⟨gi, o, rfl, hg, hrow⟩ := HI.out.row (by omega)
      have hp := find_none_take (p := isAt at' nm) (k := k) (by omega) hnone.out
      have hrk := (hrow k (by omega)).below hH.below hg
      obtain ⟨⟨di, en, ei⟩, hx⟩ : ∃ x, E[k] = x := ⟨_, rfl⟩
      rw [hx] at hrk hp
      clear hrow hx hnone
      obtain ⟨e0, e1, e2, e3, e4⟩ := hrk
      have hs := names_same en nm
      by_cases hq : di = at'
      · have hv := eqSt_yes hq
        subst hq
        by_cases hq2 : en = nm
        · subst hq2
          rw [decide_eq_true rfl] at hs
          have HG : Hid (lookE E di en = some ei) := by
            rw [if_pos (by unfold isAt; simp)] at hp
            show (E.find? (isAt di en)).map _ = _
            rw [find_take hp]
            rfl
          clear hp
          go_wp2_with fail
          go_quiet (fail)
          go_wp2_with fail
          exact bodyPost_ret (v := .tuple #[.agg (stA ei), .bool true]) (by simp [results, Tryz.results41, go_sem, stA, m0, m1]) rfl ⟨by rw [HG.out]; rfl, ((below_drewN' hH.below _).setCell (by dsimp only; omega) _).setCell (by dsimp only; omega) _⟩
        · rw [decide_eq_false hq2] at hs
          have HP : Hid ((E.take (k + 1)).find? (isAt di nm) = none) := by
            rw [if_neg (by unfold isAt; simp [hq2])] at hp
            exact hp
          clear hp
          go_wp2_with fail
          go_quiet (fail)
          go_wp2_with fail
          go_roundg (gk - 1)
          case measure => omega
          case rel => exact ⟨k + 1, by go_num, by omega, by omega, HP.out, hH.drewN _⟩
      · have hv := eqSt_no hq
        have HP : Hid ((E.take (k + 1)).find? (isAt at' nm) = none) := by
          rw [if_neg (by unfold isAt; simp [hq])] at hp
          exact hp
        clear hp
        go_wp2_with fail
        go_quiet (fail)
        go_wp2_with fail
        go_roundg (gk - 1)
        case measure => omega
        case rel => exact ⟨k + 1, by go_num, by omega, by omega, HP.out, hH.drewN _⟩
    · have HG : Hid (lookE E at' nm = none) := by
        have h := hnone.out
        rw [List.take_of_length_le (by omega)] at h
        show (E.find? (isAt at' nm)).map _ = _
        rw [h]
        rfl
      go_wp2_with fail
      exact bodyPost_ret (v := .tuple #[.agg (stA (0, 0)), .bool false]) (by simp [results, Tryz.results41, go_sem, stA, m0, m1]) rfl ⟨by rw [HG.out]; rfl, ((hH.below).setCell (by dsimp only; omega) _).setCell (by dsimp only; omega) _⟩

end Go.Proofs.YthobfeohgeeofaaGreat

/-
  The walks of the document's own List, Entries and Nodes (graphs).
-/
namespace Go.Proofs.YthobfeohgeeofaaGreat
open Go.RowKit StampMath GraphMath

theorem listE_snoc (E : List Ent) (k : Nat) (h : k < E.length) (d : St) : listE (E.take (k + 1)) d = if E[k].dir = d then listE (E.take k) d ++ [E[k]] else listE (E.take k) d := by
  unfold listE
  rw [List.take_succ_eq_append_getElem h, List.filter_append]
  by_cases e : E[k].dir = d
  · rw [if_pos e]; simp [e]
  · rw [if_neg e]; simp [e]

theorem listE_le (E : List Ent) (d : St) : (listE E d).length ≤ E.length := List.length_filter_le _ _

set_option maxRecDepth 100000 in
set_option maxHeartbeats 1600000 in
theorem refList (v : Value) (A : Option Addr) (n c : Nat) (E : List Ent) (id : St) (hn : n ≤ 1000) (w : World) (h : EntsIn w w.heap.size A n E) :
    Calls Tryz.prog 42 #[.agg #[v, .slice A n c], .agg (stA id)] w (EntsPost (listE E id) w) := by
  obtain ⟨i0, hi0, hz0, hz1, hz2⟩ := info_parts ent_infos
  have hl := h.len
  have HI : Hid (EntsIn w w.heap.size A n E) := h
  clear h
  have hb0 : Held w [(w.heap.size + 1, .cells (stA id) 34), (w.heap.size, .cells #[v, .slice A n c] 29)]
    ((w.alloc (.cells #[v, .slice A n c] 29)).alloc (.cells #[.int .i64 id.1, .int .i64 id.2] 34)) :=
    ((Held.refl w).alloc (.cells #[v, .slice A n c] 29) rfl).alloc (.cells (stA id) 34) (by simp)
  unfold stA
  go_enter Tryz.func42, Tryz.ntmps42
  go_wp2_with fail
  go_loopg [5, 6] (n + 1) (fun gk out i wr => ∃ k : Nat, i = .int .i64 (k : Int) ∧ gk + k = n + 1 ∧ k ≤ n ∧ wr.ownsRow (w.heap.size + 2) 36 5 out (listE (E.take k) id).length (flat ((listE (E.take k) id).map entA)) ∧ Held w [(w.heap.size + 1, .cells (stA id) 34), (w.heap.size, .cells #[v, .slice A n c] 29)] wr)
  case atStart => exact ⟨0, rfl, by omega, by omega, World.ownsRow_nil _ _ _ _, hb0⟩
  case round =>
    obtain ⟨k, rfl, hgk, hk, hown, hH⟩ := hrel
    clear hb0
    have hc1 := (two_cells (g := w.heap.size) (hH.at 1 rfl)).2
    obtain ⟨c3, c4⟩ := two_cells (g := w.heap.size + 1) (hH.at 0 rfl)
    by_cases hlt : k < n
    · obtain ⟨gi, o, rfl, hg, hrow⟩ := HI.out.row (by omega)
      have hsn := listE_snoc E k (by omega) id
      have hle : (listE (E.take k) id).length ≤ 1000 := by have := listE_le (E.take k) id; rw [List.length_take] at this; omega
      have hrk := fun W hb => (hrow k (by omega)).below (B := w.heap.size) (W' := W) hb hg
      obtain ⟨x, hx⟩ : ∃ x, E[k] = x := ⟨_, rfl⟩
      rw [hx] at hrk hsn
      clear hrow hx
      obtain ⟨e0, e1, e2, e3, e4⟩ := hrk wr hH.below
      have HR := Lib.hid hrk
      clear hrk
      by_cases hq : x.dir = id
      · have hv := eqSt_yes hq
        rw [if_pos hq] at hsn
        have HS := Lib.hid hsn
        clear hsn
        go_wp2_with fail
        go_quiet (fail)
        have hH2 := hH.drewN nq
        have hown2 : (wr.drewN nq).ownsRow (w.heap.size + 2) 36 5 u5 (listE (E.take k) id).length (flat ((listE (E.take k) id).map entA)) := hown
        generalize wr.drewN nq = w2 at hH2 hown2 ⊢
        clear hc1 c3 c4 e0 e1 e2 e3 e4 hH hown hv hq
        have hc1 := (two_cells (g := w.heap.size) (hH2.at 1 rfl)).2
        obtain ⟨e0, e1, e2, e3, e4⟩ := HR.out w2 hH2.below
        have hlow : w.heap.size + 1 < w2.heap.size := heap_lt (hH2.at 0 rfl)
        have hm : (listE (E.take k) id).length + 1 ≤ maxLen := by unfold maxLen; omega
        go_wp2_with (at_builtin; refine wpList_append_own _ rfl (.tmp 22) (.tmp 28) 27 rfl (w.heap.size + 2) 36 i0 _ 5 48 Tryz.underlying27 hi0 hz0 hz1 hz2 rfl (by decide) _ _ _ rfl (hown2.alloc _) ⟨w2.heap.size, 0, none⟩ 1 1 (entA x).toList rfl rfl (row_there w2 _ _) (ent_one x) hm (by omega) (by simp; omega) ?_; intro v2 w3 hown3 hg3 _)
        have hb3 : Held w [(w.heap.size + 1, .cells (stA id) 34), (w.heap.size, .cells #[v, .slice (some ⟨gi, o, none⟩) n c] 29)] w3 :=
          (hH2.step ((Below.refl _ _).alloc (Nat.le_refl _) _)).grown hg3 (fun q hq => (hown2.lt q hq).1) (by intro p hp; simp at hp; rcases hp with rfl | rfl <;> (dsimp only; omega))
        rw [flat_ent] at hown3
        go_roundg (gk - 1)
        case measure => omega
        case rel => exact ⟨k + 1, by go_num, by omega, by omega, by rw [HS.out, List.length_append]; exact hown3, hb3⟩
      · have hv := eqSt_no hq
        rw [if_neg hq] at hsn
        have HS := Lib.hid hsn
        clear hsn
        go_wp2_with fail
        go_quiet (fail)
        go_wp2_with fail
        go_roundg (gk - 1)
        case measure => omega
        case rel => exact ⟨k + 1, by go_num, by omega, by omega, by rw [HS.out]; exact hown, hH.drewN _⟩
    · obtain ⟨B, cc, rfl, q1, q2, q3⟩ := ents_own rfl hown
      rw [List.take_of_length_le (by omega)] at q1 q2
      go_wp2_with fail
      go_ret
      rw [List.take_of_length_le (show E.length ≤ k by omega)]
      exact ⟨B, cc, rfl, q1, q2, q3.1, q3.2, hH.below⟩

end Go.Proofs.YthobfeohgeeofaaGreat

/-
  Graphs as values: a struct of two slices.
-/
namespace Go.Proofs.YthobfeohgeeofaaGreat
open Go.RowKit StampMath GraphMath

/-- A slice's bounds, and that it lies in a block of N. -/
def Cap (N : Nat → Prop) (A : Option Addr) (n c : Nat) : Prop := n ≤ c ∧ c ≤ maxLen ∧ (A = none → c = 0) ∧ (0 < n → ∀ p, A = some p → N p.block)

theorem Cap.to {N N' : Nat → Prop} {A : Option Addr} {n c : Nat} (h : Cap N A n c) (hN : ∀ i, N i → N' i := by intro i hi; first | exact hi | exact Or.inl hi | exact Or.inr (by omega) | (dsimp only at hi; exact Or.inr (by omega)) | exact Or.inr (Nat.le_trans (by omega) hi)) : Cap N' A n c :=
  ⟨h.1, h.2.1, h.2.2.1, fun hn p hp => hN _ (h.2.2.2 hn p hp)⟩

/-- The value v is the graph g in memory, in blocks of N. -/
def GrAt (N : Nat → Prop) (W : World) (v : Value) (g : Gr) : Prop :=
  ∃ (A : Option Addr) (n c : Nat) (A' : Option Addr) (m d : Nat), v = .agg #[.slice A n c, .slice A' m d] ∧ InosIn W W.heap.size A n g.I ∧ Cap N A n c ∧ EntsIn W W.heap.size A' m g.E ∧ Cap N A' m d

theorem GrAt.step {N N' : Nat → Prop} {W W' : World} {v : Value} {g : Gr} (h : GrAt N W v g) (hb : Below W.heap.size W W') (hN : ∀ i, N i → N' i := by intro i hi; first | exact hi | exact Or.inl hi) : GrAt N' W' v g := by
  obtain ⟨A, n, c, A', m, d, h1, h2, h3, h4, h5⟩ := h
  exact ⟨A, n, c, A', m, d, h1, (h2.below hb).more hb.size, h3.to hN, (h4.below hb).more hb.size, h5.to hN⟩

theorem TabIn.keep {k : Nat} {W W' : World} {B B' : Nat} {A : Option Addr} {n : Nat} {rows : List (Array Value)} (h : TabIn k W B A n rows) (hk : 0 < n → ∀ p, A = some p → W'.heap[p.block]? = W.heap[p.block]?) (hB : B ≤ B') : TabIn k W' B' A n rows :=
  ⟨h.1, fun hn => by
    obtain ⟨g, o, e, hg, hc⟩ := h.2 hn
    exact ⟨g, o, e, by omega, fun j hj i v hv => (World.cell?_of_block (a := ⟨g, o + j * k + i, none⟩) (hk hn ⟨g, o, none⟩ e)).trans (hc j hj i v hv)⟩⟩

/-- It is kept where its blocks are. -/
theorem GrAt.keep {N N' : Nat → Prop} {W W' : World} {v : Value} {g : Gr} (h : GrAt N W v g) (hk : ∀ i, N i → W'.heap[i]? = W.heap[i]?) (hs : W.heap.size ≤ W'.heap.size) (hN : ∀ i, N i → N' i := by intro i hi; first | exact hi | exact Or.inl hi) : GrAt N' W' v g := by
  obtain ⟨A, n, c, A', m, d, h1, h2, h3, h4, h5⟩ := h
  exact ⟨A, n, c, A', m, d, h1, TabIn.keep h2 (fun hn p hp => hk _ (h3.2.2.2 hn p hp)) hs, h3.to hN, TabIn.keep h4 (fun hn p hp => hk _ (h5.2.2.2 hn p hp)) hs, h5.to hN⟩

/-- Its blocks are there. -/
theorem GrAt.live {N : Nat → Prop} {W : World} {v : Value} {g : Gr} (h : GrAt N W v g) : GrAt (fun i => N i ∧ i < W.heap.size) W v g := by
  obtain ⟨A, n, c, A', m, d, h1, h2, h3, h4, h5⟩ := h
  have lt : ∀ {k n : Nat} {A : Option Addr} {rows : List (Array Value)}, TabIn k W W.heap.size A n rows → 0 < n → ∀ p, A = some p → p.block < W.heap.size := fun h hn p hp => by
    obtain ⟨g, o, e, hg, _⟩ := h.2 hn
    rw [e] at hp
    injection hp with hp
    rw [← hp]
    exact hg
  exact ⟨A, n, c, A', m, d, h1, h2, ⟨h3.1, h3.2.1, h3.2.2.1, fun hn p hp => ⟨h3.2.2.2 hn p hp, lt h2 hn p hp⟩⟩, h4, ⟨h5.1, h5.2.1, h5.2.2.1, fun hn p hp => ⟨h5.2.2.2 hn p hp, lt h4 hn p hp⟩⟩⟩

/-- These blocks, and what is made behind w. -/
def MoreN (N : Nat → Prop) (w : World) : Nat → Prop := fun i => N i ∨ w.heap.size ≤ i

/-- A graph and a number are answered. -/
def GrPost (N : Nat → Prop) (r : Gr × Int) (w : World) (e : Ending) (w' : World) : Prop :=
  ∃ v, e = .returned (.tuple #[v, .int .i64 r.2]) ∧ GrAt (MoreN N w) w' v r.1 ∧ Below w.heap.size w w'

end Go.Proofs.YthobfeohgeeofaaGreat

/-
  The walk of the document's own Parent (graphs).
-/
namespace Go.Proofs.YthobfeohgeeofaaGreat
open Go.RowKit StampMath GraphMath

theorem parentG_eq (g : Gr) (d : St) : parentG g d = if (getG g d).isSome = true ∧ ((getG g d).getD noIno).kind = 1 then (g.E.find? fun e => decide (e.ino = d)).map fun e => e.dir else none := by
  unfold parentG
  cases h : getG g d with
  | none => rw [if_neg (by simp)]
  | some x =>
    by_cases hk : x.kind = 1
    · rw [if_pos ⟨rfl, hk⟩]; simp [hk]
    · rw [if_neg (fun q => hk q.2)]; simp [hk]

set_option maxRecDepth 100000 in
set_option maxHeartbeats 1600000 in
theorem refParent (A A' : Option Addr) (n c m d : Nat) (g : Gr) (id : St) (hn : n ≤ 1000) (hm : m ≤ 1000) (w : World) (h : InosIn w w.heap.size A n g.I) (h' : EntsIn w w.heap.size A' m g.E) :
    Calls Tryz.prog 68 #[.agg #[.slice A n c, .slice A' m d], .agg (stA id)] w fun e w' => e = .returned (.tuple #[.agg (stA ((parentG g id).getD (0, 0))), .bool (parentG g id).isSome]) ∧ Below w.heap.size w w' := by
  have hl := h'.len
  have HI : Hid (EntsIn w w.heap.size A' m g.E) := h'
  have hpar := parentG_eq g id
  obtain ⟨X, hX⟩ : ∃ X, X = (getG g id).getD noIno := ⟨_, rfl⟩
  obtain ⟨is, his⟩ : ∃ is, is = (getG g id).isSome := ⟨_, rfl⟩
  have HG : Hid (∀ W : World, Below w.heap.size w W → Calls Tryz.prog 37 #[.agg #[.slice A n c, .slice A' m d], .agg #[.int .i64 id.1, .int .i64 id.2]] W fun e w' => e = .returned (.tuple #[.agg #[.int .i64 X.id.1, .int .i64 X.id.2, .int .i64 X.kind, .int .i64 X.links, .int .i64 X.mode, .string X.data], .bool is]) ∧ Below W.heap.size W w') := fun W hW => by
    rw [hX, his]
    exact refGet A A' n c m d g id hn hm W ((h.below hW).more hW.size) ((h'.below hW).more hW.size)
  rw [← hX, ← his] at hpar
  clear h h' hX his
  have HPar := Lib.hid hpar
  clear hpar
  have hb0 : Held w [(w.heap.size + 1 + 1, .cells #[.int .i64 0, .int .i64 0] 34), (w.heap.size + 1, .cells (stA id) 34), (w.heap.size, .cells #[.slice A n c, .slice A' m d] 29)]
    (((w.alloc (.cells #[.slice A n c, .slice A' m d] 29)).alloc (.cells #[.int .i64 id.1, .int .i64 id.2] 34)).alloc (.cells #[.int .i64 0, .int .i64 0] 34)) :=
    (((Held.refl w).alloc (.cells #[.slice A n c, .slice A' m d] 29) rfl).alloc (.cells (stA id) 34) (by simp)).alloc (.cells #[.int .i64 0, .int .i64 0] 34) (by simp)
  unfold stA
  go_enter Tryz.func68, Tryz.ntmps68
  go_wp2_with fail
  refine (HG.out _ hb0.below).mono ?_
  rintro e w1 ⟨rfl, hb1⟩
  have hH1 := hb0.step hb1
  clear hb0 hb1
  go_upto_region 2 with fail
  change Code.wp _ _ _ _ (w1.alloc (.cells (inoA X) 47))
  obtain ⟨u, hu⟩ : ∃ u, u = w1.heap.size := ⟨_, rfl⟩
  have hlow : w.heap.size + 1 + 1 < u := by rw [hu]; exact heap_lt (hH1.at 0 rfl)
  have hH2 := hH1.alloc (.cells (inoA X) 47) hu.symm
  rw [← hu]
  generalize w1.alloc (.cells (inoA X) 47) = w2 at hH2 ⊢
  clear hH1 hu
  go_wp2_with fail
  go_loopg [8] (m + 1) (fun gk i wr => ∃ k : Nat, i = .int .i64 (k : Int) ∧ gk + k = m + 1 ∧ k ≤ m ∧ Hid ((g.E.take k).find? (fun e => decide (e.ino = id)) = none) ∧ Held w [(u, .cells (inoA X) 47), (w.heap.size + 1 + 1, .cells #[.int .i64 0, .int .i64 0] 34), (w.heap.size + 1, .cells (stA id) 34), (w.heap.size, .cells #[.slice A n c, .slice A' m d] 29)] wr)
  case atStart => exact ⟨0, rfl, by omega, by omega, rfl, hH2⟩
  case round =>
    obtain ⟨k, rfl, hgk, hk, hnone, hH⟩ := hrel
    clear hH2
    have hc1 := (two_cells (g := w.heap.size) (hH.at 3 rfl)).2
    obtain ⟨c3, c4⟩ := two_cells (g := w.heap.size + 1) (hH.at 2 rfl)
    obtain ⟨m0, m1⟩ := two_cells (g := w.heap.size + 1 + 1) (hH.at 1 rfl)
    obtain ⟨f0, f1⟩ := two_free (g := w.heap.size + 1 + 1) (hH.at 1 rfl)
    have hx2 := (ino_cells (g := u) (hH.at 0 rfl)).2.2.1
    have hcase : (k < m ∧ is = true ∧ (X.kind == 1) = true) ∨ (parentG g id = none ∧ (¬ (k : Int) < m ∨ ((k : Int) < m ∧ is = false) ∨ ((k : Int) < m ∧ is = true ∧ (X.kind == 1) = false))) := by
      by_cases h1 : k < m
      · cases is with
        | false => exact Or.inr ⟨HPar.out.trans (if_neg (by simp)), Or.inr (Or.inl ⟨by omega, rfl⟩)⟩
        | true =>
          by_cases h2 : X.kind = 1
          · exact Or.inl ⟨h1, rfl, beq_iff_eq.2 h2⟩
          · exact Or.inr ⟨HPar.out.trans (if_neg fun q => h2 q.2), Or.inr (Or.inr ⟨by omega, rfl, beq_eq_false_iff_ne.2 h2⟩)⟩
      · refine Or.inr ⟨?_, Or.inl (by omega)⟩
        have h := hnone.out
        rw [List.take_of_length_le (by omega)] at h
        rw [HPar.out, h]
        simp
    rcases hcase with ⟨hlt, rfl, hkd⟩ | ⟨hpn, hcase⟩
    · obtain ⟨gi, o, rfl, hg, hrow⟩ := HI.out.row (by omega)
      have hp := find_none_take (p := fun e : Ent => decide (e.ino = id)) (k := k) (by omega) hnone.out
      have hrk := (hrow k (by omega)).below hH.below hg
      obtain ⟨⟨di, en, ei⟩, hx⟩ : ∃ x, g.E[k] = x := ⟨_, rfl⟩
      rw [hx] at hrk hp
      clear hrow hx hnone
      obtain ⟨e0, e1, e2, e3, e4⟩ := hrk
      by_cases hq : ei = id
      · have hv := eqSt_yes hq
        have HR : Hid (parentG g id = some di) := by
          rw [if_pos (decide_eq_true hq)] at hp
          show parentG g id = _
          rw [HPar.out, if_pos ⟨rfl, beq_iff_eq.1 hkd⟩, find_take hp]
          rfl
        clear hp
        subst hq
        go_wp2_with fail
        go_quiet (fail)
        go_wp2_with fail
        exact bodyPost_ret (v := .tuple #[.agg (stA di), .bool true]) (by simp [results, Tryz.results68, go_sem, stA, m0, m1]) rfl ⟨by rw [HR.out]; rfl, ((below_drewN' hH.below _).setCell (by dsimp only; omega) _).setCell (by dsimp only; omega) _⟩
      · have hv := eqSt_no hq
        have HP : Hid ((g.E.take (k + 1)).find? (fun e => decide (e.ino = id)) = none) := by
          rw [if_neg (by rw [decide_eq_false hq]; decide)] at hp
          exact hp
        clear hp
        go_wp2_with fail
        go_quiet (fail)
        go_wp2_with fail
        go_roundg (gk - 1)
        case measure => omega
        case rel => exact ⟨k + 1, by go_num, by omega, by omega, HP.out, hH.drewN _⟩
    · have HR := Lib.hid hpn
      clear hpn
      rcases hcase with h1 | ⟨h1, rfl⟩ | ⟨h1, rfl, h2⟩
      all_goals
        go_wp2_with fail
        exact bodyPost_ret (v := .tuple #[.agg (stA (0, 0)), .bool false]) (by simp [results, Tryz.results68, go_sem, stA, m0, m1]) rfl ⟨by rw [HR.out]; rfl, ((hH.below).setCell (by dsimp only; omega) _).setCell (by dsimp only; omega) _⟩

end Go.Proofs.YthobfeohgeeofaaGreat

/-
  A slice of pairs of integers (structs of two integer fields) that is only read. It needs no program.
-/
namespace Go.Proofs.YthobfeohgeeofaaGreat
open Go.RowKit

/-- Both cells of a box written. -/
theorem box_set {w : World} {g : Nat} {a b c d : Value} {t : TypeId} (h : w.heap[g]? = some (.cells #[a, b] t (0, 0))) :
    ((w.setCell ⟨g, 0, none⟩ c).setCell ⟨g, 1, none⟩ d).heap[g]? = some (.cells #[c, d] t (0, 0)) := by
  rw [heap_setCell_same _ _ _ _ _ _ (heap_setCell_same _ _ _ _ _ _ h)]
  rfl

/-- The slice with address A and length n reads as the pairs xs, and lies below block B. -/
def PairsIn (W : World) (B : Nat) (A : Option Addr) (n : Nat) (xs : List (Int × Int)) : Prop :=
  xs.length = n ∧ (0 < n → ∃ g o, A = some ⟨g, o, none⟩ ∧ g < B ∧
    ∀ j (h : j < xs.length), W.cell? ⟨g, o + j * 2, none⟩ = some (.int .i64 xs[j].1) ∧ W.cell? ⟨g, o + j * 2 + 1, none⟩ = some (.int .i64 xs[j].2))

theorem PairsIn.below {W W' : World} {B : Nat} {A : Option Addr} {n : Nat} {xs : List (Int × Int)} (h : PairsIn W B A n xs) (hb : Below B W W') : PairsIn W' B A n xs :=
  ⟨h.1, fun hn => by
    obtain ⟨g, o, e, hg, hc⟩ := h.2 hn
    exact ⟨g, o, e, hg, fun j hj => ⟨(hb.cell (p := ⟨g, o + j * 2, none⟩) hg).trans (hc j hj).1, (hb.cell (p := ⟨g, o + j * 2 + 1, none⟩) hg).trans (hc j hj).2⟩⟩⟩

theorem PairsIn.more {W : World} {B B' : Nat} {A : Option Addr} {n : Nat} {xs : List (Int × Int)} (h : PairsIn W B A n xs) (hB : B ≤ B') : PairsIn W B' A n xs :=
  ⟨h.1, fun hn => by
    obtain ⟨g, o, e, hg, hc⟩ := h.2 hn
    exact ⟨g, o, e, by omega, hc⟩⟩

end Go.Proofs.YthobfeohgeeofaaGreat

/-
  The walk of the document's own Under (graphs).
-/
namespace Go.Proofs.YthobfeohgeeofaaGreat
open Go.RowKit StampMath GraphMath

theorem underN_succ (g : Gr) (n : Nat) (a b : St) : underN g (n + 1) a b = if a = b then true else match parentG g a with
    | none => false
    | some up => underN g n up b := rfl

/-- The three boxes that the walk of Under holds. -/
structure UBox (w W : World) (x y : Value) (cur dir : St) : Prop where
  a : W.heap[w.heap.size]? = some (.cells #[x, y] 29 (0, 0))
  b : W.heap[w.heap.size + 1]? = some (.cells #[.int .i64 cur.1, .int .i64 cur.2] 34 (0, 0))
  c : W.heap[w.heap.size + 1 + 1]? = some (.cells #[.int .i64 dir.1, .int .i64 dir.2] 34 (0, 0))
  low : Below w.heap.size w W

theorem UBox.step {w W W' : World} {x y : Value} {cur dir : St} (h : UBox w W x y cur dir) (hb : Below W.heap.size W W') : UBox w W' x y cur dir :=
  ⟨(hb.block _ (heap_lt h.a)).trans h.a, (hb.block _ (heap_lt h.b)).trans h.b, (hb.block _ (heap_lt h.c)).trans h.c, below_step h.low hb⟩

theorem UBox.set {w W : World} {x y : Value} {cur dir : St} (h : UBox w W x y cur dir) (up : St) :
    UBox w ((W.setCell ⟨w.heap.size + 1, 0, none⟩ (.int .i64 up.1)).setCell ⟨w.heap.size + 1, 1, none⟩ (.int .i64 up.2)) x y up dir :=
  ⟨(heap_setCell_other _ _ _ _ (by dsimp only; omega)).trans ((heap_setCell_other _ _ _ _ (by dsimp only; omega)).trans h.a), box_set h.b, (heap_setCell_other _ _ _ _ (by dsimp only; omega)).trans ((heap_setCell_other _ _ _ _ (by dsimp only; omega)).trans h.c),
    (h.low.setCell (by dsimp only; omega) _).setCell (by dsimp only; omega) _⟩

set_option maxRecDepth 100000 in
set_option maxHeartbeats 1600000 in
theorem refUnder (A A' : Option Addr) (n c m d : Nat) (g : Gr) (id dir : St) (hn : n ≤ 1000) (hm : m ≤ 1000) (w : World) (h : InosIn w w.heap.size A n g.I) (h' : EntsIn w w.heap.size A' m g.E) :
    Calls Tryz.prog 56 #[.agg #[.slice A n c, .slice A' m d], .agg (stA id), .agg (stA dir)] w fun e w' => e = .returned (.bool (underG g id dir)) ∧ Below w.heap.size w w' := by
  have hl := h.len
  have HP : Hid (∀ (a : St) (W : World), Below w.heap.size w W → Calls Tryz.prog 68 #[.agg #[.slice A n c, .slice A' m d], .agg #[.int .i64 a.1, .int .i64 a.2]] W fun e w' => e = .returned (.tuple #[.agg #[.int .i64 ((parentG g a).getD (0, 0)).1, .int .i64 ((parentG g a).getD (0, 0)).2], .bool (parentG g a).isSome]) ∧ Below W.heap.size W w') := fun a W hW =>
    refParent A A' n c m d g a hn hm W ((h.below hW).more hW.size) ((h'.below hW).more hW.size)
  clear h h'
  have hb0 : UBox w (((w.alloc (.cells #[.slice A n c, .slice A' m d] 29)).alloc (.cells #[.int .i64 id.1, .int .i64 id.2] 34)).alloc (.cells #[.int .i64 dir.1, .int .i64 dir.2] 34)) (.slice A n c) (.slice A' m d) id dir := by
    have hq := (((Held.refl w).alloc (.cells #[.slice A n c, .slice A' m d] 29) rfl).alloc (.cells #[.int .i64 id.1, .int .i64 id.2] 34) (g := w.heap.size + 1) (by simp)).alloc (.cells #[.int .i64 dir.1, .int .i64 dir.2] 34) (g := w.heap.size + 1 + 1) (by simp)
    exact ⟨hq.at 2 rfl, hq.at 1 rfl, hq.at 0 rfl, hq.below⟩
  unfold stA
  go_enter Tryz.func56, Tryz.ntmps56
  go_wp2_with fail
  go_loopg [7] (n + 2) (fun gk i wr => ∃ (k : Nat) (cur : St), i = .int .i64 (k : Int) ∧ gk + k = n + 2 ∧ k ≤ n + 1 ∧ Hid (underN g (n + 1 - k) cur dir = underG g id dir) ∧ UBox w wr (.slice A n c) (.slice A' m d) cur dir)
  case atStart => exact ⟨0, id, rfl, by omega, by omega, (by unfold underG; rw [hl]; rfl), hb0⟩
  case round =>
    obtain ⟨k, cur, rfl, hgk, hk, hun, hH⟩ := hrel
    clear hb0
    obtain ⟨c1, c2⟩ := two_cells hH.a
    obtain ⟨c3, c4⟩ := two_cells hH.b
    obtain ⟨c5, c6⟩ := two_cells hH.c
    obtain ⟨f0, f1⟩ := two_free hH.b
    by_cases hlt : k ≤ n
    · have hun2 := hun.out
      rw [show n + 1 - k = (n - k) + 1 by omega, underN_succ] at hun2
      by_cases hq : cur = dir
      · rw [if_pos hq] at hun2
        have HU := Lib.hid hun2
        clear hun hun2
        have hv := eqSt_yes hq
        subst hq
        go_wp2_with fail
        go_ret
        exact ⟨by rw [← HU.out]; rfl, hH.low⟩
      · rw [if_neg hq] at hun2
        have hv := eqSt_no hq
        have HPc := Lib.hid (HP.out cur)
        cases hpar : parentG g cur with
        | none =>
          rw [hpar] at hun2 HPc
          have HU : Hid (false = underG g id dir) := hun2
          have HQ : Hid (∀ (W : World), Below w.heap.size w W → Calls Tryz.prog 68 #[.agg #[.slice A n c, .slice A' m d], .agg #[.int .i64 cur.1, .int .i64 cur.2]] W fun e w' => e = .returned (.tuple #[.agg #[.int .i64 0, .int .i64 0], .bool false]) ∧ Below W.heap.size W w') := HPc
          clear hun hun2 HPc hpar HP
          go_wp2_with fail
          refine (HQ.out _ hH.low).mono ?_
          rintro e w1 ⟨rfl, hb1⟩
          have hH1 := hH.step hb1
          clear hH hb1 c1 c2 c3 c4 c5 c6 f0 f1
          go_wp2_with fail
          go_ret
          exact ⟨by rw [← HU.out]; rfl, hH1.low.alloc hH1.low.size _⟩
        | some up =>
          rw [hpar] at hun2 HPc
          have HU : Hid (underN g (n - k) up dir = underG g id dir) := hun2
          have HQ : Hid (∀ (W : World), Below w.heap.size w W → Calls Tryz.prog 68 #[.agg #[.slice A n c, .slice A' m d], .agg #[.int .i64 cur.1, .int .i64 cur.2]] W fun e w' => e = .returned (.tuple #[.agg #[.int .i64 up.1, .int .i64 up.2], .bool true]) ∧ Below W.heap.size W w') := HPc
          clear hun hun2 HPc hpar
          go_wp2_with fail
          refine (HQ.out _ hH.low).mono ?_
          rintro e w1 ⟨rfl, hb1⟩
          have hH1 := hH.step hb1
          clear hH hb1 c1 c2 c3 c4 c5 c6 f0 f1
          go_upto_region 9 with fail
          have hb2 : Below w1.heap.size w1 (w1.alloc (.cells #[.int .i64 up.1, .int .i64 up.2] 34)) := (Below.refl _ _).alloc (Nat.le_refl _) _
          have hH2 := hH1.step hb2
          have hu2 := two_cells (heap_alloc_new w1 (.cells #[.int .i64 up.1, .int .i64 up.2] 34))
          obtain ⟨u, hu⟩ : ∃ u, u = w1.heap.size := ⟨_, rfl⟩
          have hlow : w.heap.size + 1 + 1 < u := by rw [hu]; exact heap_lt hH1.c
          rw [← hu] at hu2 ⊢
          generalize w1.alloc (.cells #[.int .i64 up.1, .int .i64 up.2] 34) = w2 at hH2 hu2 ⊢
          clear hb2 hH1 hu
          obtain ⟨u0, u1⟩ := hu2
          obtain ⟨c3, c4⟩ := two_cells hH2.b
          obtain ⟨f0, f1⟩ := two_free hH2.b
          go_wp2_with fail
          go_roundg (gk - 1)
          case measure => omega
          case rel => exact ⟨k + 1, up, by go_num, by omega, by omega, (by rw [show n + 1 - (k + 1) = n - k by omega]; exact HU.out), hH2.set up⟩
    · have HU : Hid (false = underG g id dir) := by
        have h := hun.out
        rw [show n + 1 - k = 0 by omega] at h
        exact h
      go_wp2_with fail
      go_ret
      exact ⟨by rw [← HU.out]; rfl, hH.low⟩

end Go.Proofs.YthobfeohgeeofaaGreat

/-
  The walks of the document's own has and Name.
-/
namespace Go.Proofs.YthobfeohgeeofaaGreat
open Go.RowKit OpMath

set_option maxRecDepth 100000 in
set_option maxHeartbeats 800000 in
theorem refHas (s : ByteArray) (c : UInt8) (hs : s.size ≤ 5000) (w : World) :
    Calls Tryz.prog 67 #[.string s, .int .u8 (c.toNat : Int)] w fun e w' => e = .returned (.bool (hasB s c)) ∧ w = w' := by
  go_enter Tryz.func67, Tryz.ntmps67
  go_wp2_with fail
  go_loop [5] (fun i => ∃ k : Nat, i = .int .i64 (k : Int) ∧ k ≤ s.size ∧ Hid ((s.data.toList.take k).any (· == c) = false)) (fun i => s.size - (intOf i).toNat)
  case atStart => exact ⟨0, rfl, by omega, rfl⟩
  case round =>
    obtain ⟨k, rfl, hk, hno⟩ := hrel
    by_cases hlt : k < s.size
    · have hN := any_next s c k hlt
      rw [hno.out, Bool.false_or] at hN
      by_cases hc : s[k] = c
      · have hd : ((s[k].toNat : Int) == (c.toNat : Int)) = true := by rw [hc]; exact beq_self_eq_true _
        have HY := Lib.hid (any_some s c k hlt hc)
        clear hN hc
        go_wp2_with fail
        go_ret
        exact ⟨by rw [HY.out]; rfl, rfl⟩
      · have hd : ((s[k].toNat : Int) == (c.toNat : Int)) = false := by
          rw [beq_eq_false_iff_ne]
          intro e
          exact hc (UInt8.toNat_inj.1 (by omega))
        rw [beq_eq_false_iff_ne.2 hc] at hN
        have HN := Lib.hid hN
        clear hN hc
        go_wp2_with fail
        exact ⟨⟨k + 1, by go_num, by omega, HN⟩, by simp [intOf]; omega⟩
    · have hE := any_all s c k (by omega)
      rw [hno.out] at hE
      have HE := Lib.hid hE
      clear hE
      go_wp2_with fail
      go_ret
      exact ⟨by rw [← HE.out]; rfl, rfl⟩

set_option maxRecDepth 100000 in
set_option maxHeartbeats 800000 in
theorem refName (s : ByteArray) (hs : s.size ≤ 9223372036854775807) (w : World) :
    Calls Tryz.prog 55 #[.string s] w fun e w' => e = .returned (.bool (nameB s)) ∧ w = w' := by
  obtain ⟨b1, h1⟩ : ∃ b, b = (s.toList == [46]) := ⟨_, rfl⟩
  obtain ⟨b2, h2⟩ : ∃ b, b = (s.toList == [46, 46]) := ⟨_, rfl⟩
  obtain ⟨b3, h3⟩ : ∃ b, b = hasB s 47 := ⟨_, rfl⟩
  obtain ⟨b4, h4⟩ : ∃ b, b = hasB s 0 := ⟨_, rfl⟩
  have H3 : s.size ≤ 8 → Hid (∀ W : World, Calls Tryz.prog 67 #[.string s, .int .u8 47] W fun e w' => e = .returned (.bool b3) ∧ W = w') := fun h8 W => by rw [h3]; exact refHas s 47 (by omega) W
  have H4 : s.size ≤ 8 → Hid (∀ W : World, Calls Tryz.prog 67 #[.string s, .int .u8 0] W fun e w' => e = .returned (.bool b4) ∧ W = w') := fun h8 W => by rw [h4]; exact refHas s 0 (by omega) W
  have hN : nameB s = (decide (1 ≤ s.size) && decide (s.size ≤ 8) && !b1 && !b2 && !b3 && !b4) := by rw [h1, h2, h3, h4]; rfl
  have HN := Lib.hid hN
  have q1 := h1.symm
  have q2 := h2.symm
  clear hN h1 h2 h3 h4
  by_cases hA : 1 ≤ s.size
  · by_cases hB : s.size ≤ 8
    · have H3 := H3 hB
      have H4 := H4 hB
      cases b1
      · cases b2
        · cases b3
          · go_enter Tryz.func55, Tryz.ntmps55
            go_wp2_with fail
            refine (H3.out _).mono ?_
            rintro e w' ⟨rfl, rfl⟩
            go_wp2_with fail
            refine (H4.out _).mono ?_
            rintro e w' ⟨rfl, rfl⟩
            go_wp2_with fail
            go_ret
            exact ⟨by rw [HN.out]; simp [hA, hB], rfl⟩
          · go_enter Tryz.func55, Tryz.ntmps55
            go_wp2_with fail
            refine (H3.out _).mono ?_
            rintro e w' ⟨rfl, rfl⟩
            go_wp2_with fail
            go_ret
            exact ⟨by rw [HN.out]; simp [hA, hB], rfl⟩
        · go_enter Tryz.func55, Tryz.ntmps55
          go_wp2_with fail
          go_ret
          exact ⟨by rw [HN.out]; simp [hA, hB], rfl⟩
      · go_enter Tryz.func55, Tryz.ntmps55
        go_wp2_with fail
        go_ret
        exact ⟨by rw [HN.out]; simp [hA, hB], rfl⟩
    · have hd : decide ((s.size : Int) ≤ 8) = false := by simp; omega
      clear H3 H4
      go_enter Tryz.func55, Tryz.ntmps55
      go_wp2_with fail
      go_ret
      exact ⟨by rw [HN.out]; simp [hB], rfl⟩
  · have hd : decide (1 ≤ (s.size : Int)) = false := by simp; omega
    clear H3 H4
    go_enter Tryz.func55, Tryz.ntmps55
    go_wp2_with fail
    go_ret
    exact ⟨by rw [HN.out]; simp [hA], rfl⟩

end Go.Proofs.YthobfeohgeeofaaGreat

/-
  The walk of the document's own why (graphs): why an entry can't be.
-/
namespace Go.Proofs.YthobfeohgeeofaaGreat
open Go.RowKit StampMath GraphMath OpMath

/-- The same, of what was looked up. -/
def whyB (nm ai xi : Bool) (ak : Int) (lk : Bool) (xk : Int) (rt u : Bool) (xl : Int) : Int :=
  if nm = false then 1 else if ai = false ∨ xi = false then 3 else if ak ≠ 1 then 6 else if lk = true then 4 else if xk = 1 ∧ (rt = true ∨ u = true) then 8 else if xk = 1 ∧ 0 < xl ∨ 6 ≤ xl then 12 else 0

theorem whyG_eq (nm : Bool) (g : Gr) (e : Ent) : whyG nm g e = whyB nm (getG g e.dir).isSome (getG g e.ino).isSome ((getG g e.dir).getD noIno).kind (lookE g.E e.dir e.name).isSome ((getG g e.ino).getD noIno).kind (decide (e.ino = (0, 0))) (underG g e.dir e.ino) ((getG g e.ino).getD noIno).links := by
  unfold whyG whyB
  cases nm
  · rfl
  · rw [if_neg (by decide), if_neg (by decide)]
    cases h1 : getG g e.dir with
    | none => simp
    | some a =>
      cases h2 : getG g e.ino with
      | none => simp
      | some x => simp

set_option maxRecDepth 100000 in
set_option maxHeartbeats 3200000 in
theorem refWhy (v : Value) (g : Gr) (e : Ent) (hn : g.I.length ≤ 1000) (hm : g.E.length ≤ 1000) (hs : e.name.size ≤ 9223372036854775807) (w : World) {N : Nat → Prop} (hv : GrAt N w v g) :
    Calls Tryz.prog 39 #[v, .agg (entA e)] w fun x w' => x = .returned (.int .i64 (whyG (nameB e.name) g e)) ∧ Below w.heap.size w w' := by
  obtain ⟨A, n, c, A', m, d, rfl, hI, hc1, hE, hc2⟩ := hv
  have hl := hI.len
  have hl' := hE.len
  have hwhy := whyG_eq (nameB e.name) g e
  obtain ⟨a, ha⟩ : ∃ a, a = (getG g e.dir).getD noIno := ⟨_, rfl⟩
  obtain ⟨ai, hai⟩ : ∃ ai, ai = (getG g e.dir).isSome := ⟨_, rfl⟩
  obtain ⟨x, hx⟩ : ∃ x, x = (getG g e.ino).getD noIno := ⟨_, rfl⟩
  obtain ⟨xi, hxi⟩ : ∃ xi, xi = (getG g e.ino).isSome := ⟨_, rfl⟩
  obtain ⟨p, hp⟩ : ∃ p, p = (lookE g.E e.dir e.name).getD (0, 0) := ⟨_, rfl⟩
  obtain ⟨lk, hlk⟩ : ∃ lk, lk = (lookE g.E e.dir e.name).isSome := ⟨_, rfl⟩
  obtain ⟨u, hu⟩ : ∃ u, u = underG g e.dir e.ino := ⟨_, rfl⟩
  obtain ⟨nm, hnm⟩ : ∃ nm, nm = nameB e.name := ⟨_, rfl⟩
  have G1 : Hid (∀ W : World, Below w.heap.size w W → Calls Tryz.prog 37 #[.agg #[.slice A n c, .slice A' m d], .agg #[.int .i64 e.dir.1, .int .i64 e.dir.2]] W fun z w' => z = .returned (.tuple #[.agg #[.int .i64 a.id.1, .int .i64 a.id.2, .int .i64 a.kind, .int .i64 a.links, .int .i64 a.mode, .string a.data], .bool ai]) ∧ Below W.heap.size W w') := fun W hW => by
    rw [ha, hai]; exact refGet A A' n c m d g e.dir (by omega) (by omega) W ((hI.below hW).more hW.size) ((hE.below hW).more hW.size)
  have G2 : Hid (∀ W : World, Below w.heap.size w W → Calls Tryz.prog 37 #[.agg #[.slice A n c, .slice A' m d], .agg #[.int .i64 e.ino.1, .int .i64 e.ino.2]] W fun z w' => z = .returned (.tuple #[.agg #[.int .i64 x.id.1, .int .i64 x.id.2, .int .i64 x.kind, .int .i64 x.links, .int .i64 x.mode, .string x.data], .bool xi]) ∧ Below W.heap.size W w') := fun W hW => by
    rw [hx, hxi]; exact refGet A A' n c m d g e.ino (by omega) (by omega) W ((hI.below hW).more hW.size) ((hE.below hW).more hW.size)
  have L1 : Hid (∀ W : World, Below w.heap.size w W → Calls Tryz.prog 41 #[.agg #[.slice A n c, .slice A' m d], .agg #[.int .i64 e.dir.1, .int .i64 e.dir.2], .string e.name] W fun z w' => z = .returned (.tuple #[.agg #[.int .i64 p.1, .int .i64 p.2], .bool lk]) ∧ Below W.heap.size W w') := fun W hW => by
    rw [hp, hlk]; exact refLook (.slice A n c) A' m d g.E e.dir e.name (by omega) W ((hE.below hW).more hW.size)
  have U1 : Hid (∀ W : World, Below w.heap.size w W → Calls Tryz.prog 56 #[.agg #[.slice A n c, .slice A' m d], .agg #[.int .i64 e.dir.1, .int .i64 e.dir.2], .agg #[.int .i64 e.ino.1, .int .i64 e.ino.2]] W fun z w' => z = .returned (.bool u) ∧ Below W.heap.size W w') := fun W hW => by
    rw [hu]; exact refUnder A A' n c m d g e.dir e.ino (by omega) (by omega) W ((hI.below hW).more hW.size) ((hE.below hW).more hW.size)
  have N1 : Hid (∀ W : World, Calls Tryz.prog 55 #[.string e.name] W fun z w' => z = .returned (.bool nm) ∧ W = w') := fun W => by rw [hnm]; exact refName e.name hs W
  have hroot : decide (e.ino = (0, 0)) = ((e.ino.1 == 0) && (e.ino.2 == 0)) := by
    rw [Bool.eq_iff_iff, decide_eq_true_iff, Bool.and_eq_true, beq_iff_eq, beq_iff_eq]
    exact Prod.ext_iff
  rw [← ha, ← hai, ← hx, ← hxi, ← hlk, ← hu, ← hnm, hroot] at hwhy
  rw [← hnm]
  obtain ⟨r1, hr1⟩ : ∃ r1, (e.ino.1 == 0) = r1 := ⟨_, rfl⟩
  obtain ⟨r2, hr2⟩ : ∃ r2, (e.ino.2 == 0) = r2 := ⟨_, rfl⟩
  rw [hr1, hr2] at hwhy
  have HW := Lib.hid hwhy
  clear hwhy ha hai hx hxi hp hlk hu hnm hI hE hroot hc1 hc2
  have hb0 : Held w [(w.heap.size + 1, .cells (entA e) 36), (w.heap.size, .cells #[.slice A n c, .slice A' m d] 29)]
    ((w.alloc (.cells #[.slice A n c, .slice A' m d] 29)).alloc (.cells (entA e) 36)) :=
    ((Held.refl w).alloc (.cells #[.slice A n c, .slice A' m d] 29) rfl).alloc (.cells (entA e) 36) (by simp)
  unfold entA
  go_enter Tryz.func39, Tryz.ntmps39
  go_upto_region 1 with fail
  change Code.wp _ _ _ _ ((w.alloc (.cells #[.slice A n c, .slice A' m d] 29)).alloc (.cells (entA e) 36))
  generalize (w.alloc (.cells #[.slice A n c, .slice A' m d] 29)).alloc (.cells (entA e) 36) = w0 at hb0 ⊢
  obtain ⟨c1, c2⟩ := two_cells (g := w.heap.size) (hb0.at 1 rfl)
  obtain ⟨e0, e1, e2, e3, e4⟩ := ent_cells (g := w.heap.size + 1) (hb0.at 0 rfl)
  go_wp2_with fail
  refine (G1.out _ hb0.below).mono ?_
  rintro z w1 ⟨rfl, hb1⟩
  have hH1 := hb0.step hb1
  clear hb0 hb1 c1 c2 e0 e1 e2 e3 e4
  go_upto_region 2 with fail
  obtain ⟨ua, hua⟩ : ∃ u, u = w1.heap.size := ⟨_, rfl⟩
  have hla : w.heap.size + 1 < ua := by rw [hua]; exact heap_lt (hH1.at 0 rfl)
  have hH2 := hH1.alloc (.cells (inoA a) 47) hua.symm
  change Code.wp _ _ _ _ (w1.alloc (.cells (inoA a) 47))
  rw [← hua]
  generalize w1.alloc (.cells (inoA a) 47) = w2 at hH2 ⊢
  clear hH1 hua
  obtain ⟨c1, c2⟩ := two_cells (g := w.heap.size) (hH2.at 2 rfl)
  obtain ⟨e0, e1, e2, e3, e4⟩ := ent_cells (g := w.heap.size + 1) (hH2.at 1 rfl)
  go_wp2_with fail
  refine (G2.out _ hH2.below).mono ?_
  rintro z w3 ⟨rfl, hb3⟩
  have hH3 := hH2.step hb3
  clear hH2 hb3 c1 c2 e0 e1 e2 e3 e4
  go_upto_region 3 with fail
  obtain ⟨ux, hux⟩ : ∃ u, u = w3.heap.size := ⟨_, rfl⟩
  have hlx : ua < ux := by rw [hux]; exact heap_lt (hH3.at 0 rfl)
  have hH4 := hH3.alloc (.cells (inoA x) 47) hux.symm
  change Code.wp _ _ _ _ (w3.alloc (.cells (inoA x) 47))
  rw [← hux]
  generalize w3.alloc (.cells (inoA x) 47) = w4 at hH4 ⊢
  clear hH3 hux
  obtain ⟨c1, c2⟩ := two_cells (g := w.heap.size) (hH4.at 3 rfl)
  obtain ⟨e0, e1, e2, e3, e4⟩ := ent_cells (g := w.heap.size + 1) (hH4.at 2 rfl)
  go_wp2_with fail
  refine (L1.out _ hH4.below).mono ?_
  rintro z w5 ⟨rfl, hb5⟩
  have hH5 := hH4.step hb5
  clear hH4 hb5 c1 c2 e0 e1 e2 e3 e4
  go_upto_region 4 with fail
  have hH6 := hH5.alloc (.cells #[.int .i64 p.1, .int .i64 p.2] 34) rfl
  generalize w5.alloc (.cells #[.int .i64 p.1, .int .i64 p.2] 34) = w6 at hH6 ⊢
  obtain ⟨up, hup⟩ : ∃ u, u = w5.heap.size := ⟨_, rfl⟩
  rw [← hup] at hH6 ⊢
  clear hH5 hup
  obtain ⟨c1, c2⟩ := two_cells (g := w.heap.size) (hH6.at 4 rfl)
  obtain ⟨e0, e1, e2, e3, e4⟩ := ent_cells (g := w.heap.size + 1) (hH6.at 3 rfl)
  have ka := (ino_cells (g := ua) (hH6.at 2 rfl)).2.2.1
  have kx := (ino_cells (g := ux) (hH6.at 1 rfl)).2.2.1
  have lx := (ino_cells (g := ux) (hH6.at 1 rfl)).2.2.2.1
  have HB := Lib.hid hH6.below
  clear hH6
  go_wp2_with fail
  refine (N1.out _).mono ?_
  rintro z w7 ⟨rfl, rfl⟩
  cases nm
  · go_wp2_with fail
    go_ret
    exact ⟨by rw [HW.out]; rfl, HB.out⟩
  cases ai
  · go_wp2_with fail
    go_ret
    exact ⟨by rw [HW.out]; simp [whyB], HB.out⟩
  cases xi
  · go_wp2_with fail
    go_ret
    exact ⟨by rw [HW.out]; simp [whyB], HB.out⟩
  by_cases hk : a.kind = 1
  · have hkb : (a.kind == 1) = true := beq_iff_eq.2 hk
    have Hk := Lib.hid hk
    clear hk
    cases lk
    · by_cases hx : x.kind = 1
      · have hxb : (x.kind == 1) = true := beq_iff_eq.2 hx
        have Hx := Lib.hid hx
        clear hx
        cases r1
        · go_wp2_with fail
          refine (U1.out _ HB.out).mono ?_
          rintro z w8 ⟨rfl, hb8⟩
          have kx8 := cell_later hb8 kx
          have lx8 := cell_later hb8 lx
          have HB8 := Lib.hid (below_step HB.out hb8)
          clear hb8
          cases u
          · by_cases h1 : 0 < x.links
            · go_wp2_with fail
              go_ret
              exact ⟨by rw [HW.out]; simp [whyB, Hk.out, Hx.out, h1], HB8.out⟩
            · have h2 : ¬ 6 ≤ x.links := by omega
              go_wp2_with fail
              go_ret
              exact ⟨by rw [HW.out]; simp [whyB, Hk.out, Hx.out, h1, h2], HB8.out⟩
          · go_wp2_with fail
            go_ret
            exact ⟨by rw [HW.out]; simp [whyB, Hk.out, Hx.out], HB8.out⟩
        · cases r2
          · go_wp2_with fail
            refine (U1.out _ HB.out).mono ?_
            rintro z w8 ⟨rfl, hb8⟩
            have kx8 := cell_later hb8 kx
            have lx8 := cell_later hb8 lx
            have HB8 := Lib.hid (below_step HB.out hb8)
            clear hb8
            cases u
            · by_cases h1 : 0 < x.links
              · go_wp2_with fail
                go_ret
                exact ⟨by rw [HW.out]; simp [whyB, Hk.out, Hx.out, h1], HB8.out⟩
              · have h2 : ¬ 6 ≤ x.links := by omega
                go_wp2_with fail
                go_ret
                exact ⟨by rw [HW.out]; simp [whyB, Hk.out, Hx.out, h1, h2], HB8.out⟩
            · go_wp2_with fail
              go_ret
              exact ⟨by rw [HW.out]; simp [whyB, Hk.out, Hx.out], HB8.out⟩
          · go_wp2_with fail
            go_ret
            exact ⟨by rw [HW.out]; simp [whyB, Hk.out, Hx.out], HB.out⟩
      · have hxb : (x.kind == 1) = false := beq_eq_false_iff_ne.2 hx
        have Hx := Lib.hid hx
        clear hx
        by_cases h2 : 6 ≤ x.links
        · go_wp2_with fail
          go_ret
          exact ⟨by rw [HW.out]; simp [whyB, Hk.out, Hx.out, h2], HB.out⟩
        · go_wp2_with fail
          go_ret
          exact ⟨by rw [HW.out]; simp [whyB, Hk.out, Hx.out, h2], HB.out⟩
    · go_wp2_with fail
      go_ret
      exact ⟨by rw [HW.out]; simp [whyB, Hk.out], HB.out⟩
  · have hkb : (a.kind == 1) = false := beq_eq_false_iff_ne.2 hk
    have Hk := Lib.hid hk
    clear hk
    go_wp2_with fail
    go_ret
    exact ⟨by rw [HW.out]; simp [whyB, Hk.out], HB.out⟩

end Go.Proofs.YthobfeohgeeofaaGreat

/-
  The walk of the document's own May (stamps).
-/
namespace Go.Proofs.YthobfeohgeeofaaGreat
open Go.RowKit StampMath

set_option maxHeartbeats 400000 in
theorem refMay (t r : Int) (w : World) :
    Calls Tryz.prog 36 #[.agg #[.int .i64 t, .int .i64 r]] w fun e w' => e = .returned (.bool (mayB t r)) ∧ Below w.heap.size w w' := by
  have hcase : ((t == 0) = true ∧ mayB t r = (r == 0)) ∨ ((t == 0) = false ∧ decide (1 ≤ t) = false ∧ mayB t r = false) ∨ ((t == 0) = false ∧ 1 ≤ t ∧ decide (t ≤ 1073741824) = false ∧ mayB t r = false) ∨
      ((t == 0) = false ∧ 1 ≤ t ∧ t ≤ 1073741824 ∧ decide (0 ≤ r) = false ∧ mayB t r = false) ∨ ((t == 0) = false ∧ 1 ≤ t ∧ t ≤ 1073741824 ∧ 0 ≤ r ∧ mayB t r = decide (r ≤ 7)) := by
    unfold mayB
    by_cases h0 : t = 0
    · exact Or.inl ⟨by simp [h0], by rw [if_pos h0]⟩
    · rw [if_neg h0]
      by_cases h1 : 1 ≤ t
      · by_cases h2 : t ≤ 1073741824
        · by_cases h3 : 0 ≤ r
          · exact Or.inr (Or.inr (Or.inr (Or.inr ⟨by simp [h0], h1, h2, h3, by simp [h1, h2, h3]⟩)))
          · exact Or.inr (Or.inr (Or.inr (Or.inl ⟨by simp [h0], h1, h2, by simp; omega, by simp [h3]⟩)))
        · exact Or.inr (Or.inr (Or.inl ⟨by simp [h0], h1, by simp; omega, by simp [h2]⟩))
      · exact Or.inr (Or.inl ⟨by simp [h0], by simp; omega, by simp [h1]⟩)
  rcases hcase with ⟨h0, h⟩ | ⟨h0, h1, h⟩ | ⟨h0, h1, h2, h⟩ | ⟨h0, h1, h2, h3, h⟩ | ⟨h0, h1, h2, h3, h⟩
  all_goals
    have H := Lib.hid h
    clear h
    go_enter Tryz.func36, Tryz.ntmps36
    go_wp2_with fail
    go_ret
    exact ⟨by rw [H.out]; rfl, (Below.refl _ _).alloc (Nat.le_refl _) _⟩

end Go.Proofs.YthobfeohgeeofaaGreat

/-
  The walk of the document's own Less.
-/
namespace Go.Proofs.YthobfeohgeeofaaGreat
open Go.RowKit StampMath

set_option maxHeartbeats 400000 in
theorem refLess (t r t' r' : Int) (w : World) :
    Calls Tryz.prog 38 #[.agg #[.int .i64 t, .int .i64 r], .agg #[.int .i64 t', .int .i64 r']] w fun e w' => e = .returned (.bool (lessB t r t' r')) ∧ Below w.heap.size w w' := by
  have hcase : (t < t' ∧ lessB t r t' r' = true) ∨ (¬ t < t' ∧ (t == t') = true ∧ lessB t r t' r' = decide (r < r')) ∨ (¬ t < t' ∧ (t == t') = false ∧ lessB t r t' r' = false) := by
    by_cases h1 : t < t'
    · exact Or.inl ⟨h1, by simp [lessB, h1]⟩
    · by_cases h2 : t = t'
      · exact Or.inr (Or.inl ⟨h1, by simp [h2], by simp [lessB, h2]⟩)
      · exact Or.inr (Or.inr ⟨h1, by simp [h2], by simp [lessB, h1, h2]⟩)
  rcases hcase with ⟨h1, h⟩ | ⟨h1, h2, h⟩ | ⟨h1, h2, h⟩
  all_goals
    have H := Lib.hid h
    clear h
    go_enter Tryz.func38, Tryz.ntmps38
    go_wp2_with fail
    go_ret
    exact ⟨by rw [H.out]; rfl, ((Below.refl _ _).alloc (Nat.le_refl _) _).alloc (by simp) _⟩

end Go.Proofs.YthobfeohgeeofaaGreat

/-
  A region that draws its order, whose own operations only read, and whose callees may make memory but turn nothing that is there: one walk, in the text's order. It needs no program.
-/
namespace Go.Proofs.YthobfeohgeeofaaGreat
open Go.RowKit

open Classical in
/-- A world in which all that was there in w reads as before: x, if it is one. -/
noncomputable def later (w x : World) : World := if Below w.heap.size w x then x else w

theorem later_below (w x : World) : Below w.heap.size w (later w x) := by
  unfold later
  split
  · assumption
  · exact Below.refl _ _

theorem later_of {w x : World} (h : Below w.heap.size w x) : later w x = x := by
  unfold later
  rw [if_pos h]

theorem later_cell {w : World} {a : Addr} {v : Value} (h : w.cell? a = some v) (x : World) : (later w x).cell? a = some v := cell_later (later_below w x) h

/-- The walk of the lexical order serves every order. -/
theorem wp_region_later {P : Program} {id : Nat} {Q : Exit → Act → World → Prop} {a : Act} {w : World} {l : List Oper} (hm : P.follows .mixedOrders = true) (hB : Region.lexB .any l.toArray = true)
    (h : wpQuiet P l.toArray (fun w' => ∃ x, w' = later w x) (fun a' => ∀ w', (∃ x, w' = later w x) → Q .normal a' w') l a) : (Code.region id l.toArray true).wp P Q a w :=
  wp_region_quiet (C := fun w' => ∃ x, w' = later w x) hm hB ⟨w.drew, (later_of (Below.refl _ _).drew).symm⟩ (by simpa using h)

/-- A callee's contract, met in such a world. -/
theorem later_call {P : Program} {f : FuncId} {args : Array Value} {w x : World} {v : Value} (h : Calls P f args (later w x) fun e w' => e = .returned v ∧ Below (later w x).heap.size (later w x) w') :
    Calls P f args (later w x) fun e w'' => e = .returned v ∧ ∃ y, w'' = later w y :=
  h.mono fun _ w' ⟨he, hb⟩ => ⟨he, w', (later_of (below_step (later_below w x) hb)).symm⟩

end Go.Proofs.YthobfeohgeeofaaGreat

/-
  The walks of the document's own Ahead and Tie (graphs).
-/
namespace Go.Proofs.YthobfeohgeeofaaGreat
open Go.RowKit StampMath GraphMath OpMath

theorem bytes_less : ∀ (x y : List UInt8), Op.bytesLess x y = decide (x < y)
  | [], [] => by simp [Op.bytesLess]
  | _ :: _, [] => by simp [Op.bytesLess]
  | [], _ :: _ => by simp [Op.bytesLess]
  | a :: x, b :: y => by
    rw [Op.bytesLess, bytes_less x y]
    simp only [List.cons_lt_cons_iff]
    by_cases h1 : a < b <;> by_cases h2 : a = b <;> by_cases h3 : x < y <;> simp [h1, h2, h3]

theorem names_less (a b : ByteArray) : Op.bytesLess a.toList b.toList = decide (a.data.toList < b.data.toList) := by
  rw [bytes_less, ByteArray.toList_eq, ByteArray.toList_eq]

set_option maxRecDepth 100000 in
set_option maxHeartbeats 800000 in
theorem refAhead (a b : Ent) (w : World) :
    Calls Tryz.prog 40 #[.agg (entA a), .agg (entA b)] w fun x w' => x = .returned (.bool (aheadE a b)) ∧ Below w.heap.size w w' := by
  have hb0 : Held w [(w.heap.size + 1, .cells (entA b) 36), (w.heap.size, .cells (entA a) 36)] ((w.alloc (.cells (entA a) 36)).alloc (.cells (entA b) 36)) :=
    ((Held.refl w).alloc (.cells (entA a) 36) rfl).alloc (.cells (entA b) 36) (by simp)
  have hA : aheadE a b = (lessS a.dir b.dir || (decide (a.dir = b.dir) && decide (a.name.data.toList < b.name.data.toList))) := rfl
  have hs := names_less a.name b.name
  obtain ⟨nl, hnl⟩ : ∃ nl, nl = decide (a.name.data.toList < b.name.data.toList) := ⟨_, rfl⟩
  obtain ⟨sl, hsl⟩ : ∃ sl, sl = lessS a.dir b.dir := ⟨_, rfl⟩
  have HL : Hid (∀ W : World, Calls Tryz.prog 38 #[.agg #[.int .i64 a.dir.1, .int .i64 a.dir.2], .agg #[.int .i64 b.dir.1, .int .i64 b.dir.2]] W fun e w' => e = .returned (.bool sl) ∧ Below W.heap.size W w') := fun W => by
    rw [hsl]; exact refLess a.dir.1 a.dir.2 b.dir.1 b.dir.2 W
  rw [← hnl] at hs hA
  rw [← hsl] at hA
  have HA := Lib.hid hA
  clear hA hnl hsl
  unfold entA
  go_enter Tryz.func40, Tryz.ntmps40
  go_upto_region 1 with fail
  change Code.wp _ _ _ _ ((w.alloc (.cells (entA a) 36)).alloc (.cells (entA b) 36))
  generalize (w.alloc (.cells (entA a) 36)).alloc (.cells (entA b) 36) = w0 at hb0 ⊢
  obtain ⟨c0, c1, c2, c3, c4⟩ := ent_cells (g := w.heap.size) (hb0.at 1 rfl)
  obtain ⟨e0, e1, e2, e3, e4⟩ := ent_cells (g := w.heap.size + 1) (hb0.at 0 rfl)
  go_wp2_with fail
  refine (HL.out _).mono ?_
  rintro z w1 ⟨rfl, hb1⟩
  have hH1 := hb0.step hb1
  clear hb0 hb1 c0 c1 c2 c3 c4 e0 e1 e2 e3 e4
  obtain ⟨c0, c1, c2, c3, c4⟩ := ent_cells (g := w.heap.size) (hH1.at 1 rfl)
  obtain ⟨e0, e1, e2, e3, e4⟩ := ent_cells (g := w.heap.size + 1) (hH1.at 0 rfl)
  cases sl
  · by_cases hq : a.dir = b.dir
    · have hv := eqSt_yes hq
      have HQ := Lib.hid hq
      clear hq
      go_wp2_with fail
      go_ret
      exact ⟨by rw [HA.out]; simp [HQ.out], hH1.below⟩
    · have hv := eqSt_no hq
      have HQ := Lib.hid hq
      clear hq
      go_wp2_with fail
      go_ret
      exact ⟨by rw [HA.out]; simp [HQ.out], hH1.below⟩
  · go_wp2_with fail
    go_ret
    exact ⟨by rw [HA.out]; simp, hH1.below⟩

end Go.Proofs.YthobfeohgeeofaaGreat
