/-
  The walks of the document's own Links, Get, Look (graphs).
-/
import Derived.Test.YthcmgaibbpacfaaGreatDoorZ00
import Derived.Test.YthcmgaibbpacfaaGreatDoorRows
import Derived.Test.YthcmgaibbpacfaaGreatDoorZ01
import Derived.Deep.LoopGhost
import Derived.Deep.QuietTactic
import Derived.BigQuiet
import Derived.Deep.Cut
namespace Go.Proofs.YthcmgaibbpacfaaGreatDoor
open Go.RowKit StampMath GraphMath

set_option maxRecDepth 100000 in
set_option maxHeartbeats 800000 in
theorem refLinks (v : Value) (A : Option Addr) (n c : Nat) (E : List Ent) (id : St) (hn : n ≤ 1000) (w : World) (h : EntsIn w w.heap.size A n E) :
    Calls Tryz.prog 65 #[.agg #[v, .slice A n c], .agg (stA id)] w fun e w' => e = .returned (.int .i64 (linksE E id : Nat)) ∧ Below w.heap.size w w' := by
  have hl := h.len
  have HB : Hid (EntsIn w w.heap.size A n E) := h
  clear h
  unfold stA
  obtain ⟨t, r⟩ := id
  dsimp only
  go_enter Tryz.func65, Tryz.ntmps65
  go_wp2_with fail
  go_loopg [5, 6] (n + 1) (fun gk x i wr => ∃ k : Nat, i = .int .i64 (k : Int) ∧ x = .int .i64 (linksE (E.take k) (t, r) : Nat) ∧ gk + k = n + 1 ∧ k ≤ n ∧ wr.heap[w.heap.size]? = some (.cells #[v, .slice A n c] 39 (0, 0)) ∧ wr.heap[w.heap.size + 1]? = some (.cells #[.int .i64 t, .int .i64 r] 24 (0, 0)) ∧ Below w.heap.size w wr)
  case atStart =>
    refine ⟨0, rfl, rfl, by omega, by omega, ?_, ?_, ((Below.refl _ w).alloc (Nat.le_refl _) _).alloc (by simp) _⟩
    · exact heap_alloc2_old w _ _
    · exact heap_alloc2_new w _ _
  case round =>
    obtain ⟨k, rfl, rfl, hgk, hk, h1, h2, hB⟩ := hrel
    have c1 := cell_of_row _ _ 1 _ _ (0, 0) h1
    have c2 := cell_of_row _ _ 0 _ _ (0, 0) h2
    have c3 := cell_of_row _ _ 1 _ _ (0, 0) h2
    by_cases hlt : k < n
    · obtain ⟨g, o, rfl, hg, hrow⟩ := HB.out.row (by omega)
      obtain ⟨e0, e1, e2, e3, e4⟩ := (hrow k (by omega)).below hB hg
      clear hrow
      have hsn := linksE_snoc E k (by omega) (t, r)
      have hnum : (linksE (E.take k) (t, r) : Int) ≤ 1000 := by have := linksE_le (E.take k) (t, r); rw [List.length_take] at this; omega
      by_cases hq : E[k].ino = (t, r)
      · rw [if_pos hq] at hsn
        have hv := eqSt_yes hq
        dsimp only at hv
        go_wp2_with fail
        go_quiet (fail)
        go_wp2_with fail
        go_roundg (gk - 1)
        case measure => omega
        case rel => exact ⟨k + 1, by go_num, by rw [hsn]; go_num, by omega, by omega, h1, h2, below_drewN' hB _⟩
      · rw [if_neg hq] at hsn
        have hv := eqSt_no hq
        dsimp only at hv
        go_wp2_with fail
        go_quiet (fail)
        go_wp2_with fail
        go_roundg (gk - 1)
        case measure => omega
        case rel => exact ⟨k + 1, by go_num, by rw [hsn], by omega, by omega, h1, h2, below_drewN' hB _⟩
    · go_wp2_with fail
      go_ret
      exact ⟨by rw [List.take_of_length_le (by omega)]; rfl, hB⟩

set_option maxRecDepth 100000 in
set_option maxHeartbeats 1600000 in
theorem refGet (A A' : Option Addr) (n c m d : Nat) (g : Gr) (id : St) (hn : n ≤ 1000) (hm : m ≤ 1000) (w : World) (h : InosIn w w.heap.size A n g.I) (h' : EntsIn w w.heap.size A' m g.E) :
    Calls Tryz.prog 38 #[.agg #[.slice A n c, .slice A' m d], .agg (stA id)] w fun e w' => e = .returned (.tuple #[.agg (inoA ((getG g id).getD noIno)), .bool (getG g id).isSome]) ∧ Below w.heap.size w w' := by
  have hl := h.len
  have HI : Hid (InosIn w w.heap.size A n g.I) := h
  have HL : Hid (∀ W : World, Below w.heap.size w W → Calls Tryz.prog 65 #[.agg #[.slice A n c, .slice A' m d], .agg #[.int .i64 id.1, .int .i64 id.2]] W fun e w' => e = .returned (.int .i64 (linksE g.E id : Nat)) ∧ Below W.heap.size W w') := fun W hW => refLinks (.slice A n c) A' m d g.E id hm W ((h'.below hW).more hW.size)
  clear h h'
  have hb0 : Held w [(w.heap.size + 1 + 1, .cells (inoA noIno) 70), (w.heap.size + 1, .cells (stA id) 24), (w.heap.size, .cells #[.slice A n c, .slice A' m d] 39)]
    (((w.alloc (.cells #[.slice A n c, .slice A' m d] 39)).alloc (.cells #[.int .i64 id.1, .int .i64 id.2] 24)).alloc (.cells #[.int .i64 0, .int .i64 0, .int .i64 0, .int .i64 0, .int .i64 0, .string ⟨#[]⟩] 70)) :=
    (((Held.refl w).alloc (.cells #[.slice A n c, .slice A' m d] 39) rfl).alloc (.cells (stA id) 24) (by simp)).alloc (.cells (inoA noIno) 70) (by simp)
  unfold stA
  go_enter Tryz.func38, Tryz.ntmps38
  go_wp2_with fail
  go_loopg [6] (n + 1) (fun gk i wr => ∃ k : Nat, i = .int .i64 (k : Int) ∧ gk + k = n + 1 ∧ k ≤ n ∧ Hid ((g.I.take k).find? (fun x => decide (x.id = id)) = none) ∧ Held w [(w.heap.size + 1 + 1, .cells (inoA noIno) 70), (w.heap.size + 1, .cells (stA id) 24), (w.heap.size, .cells #[.slice A n c, .slice A' m d] 39)] wr)
  case atStart => exact ⟨0, rfl, by omega, by omega, rfl, hb0⟩
  case round =>
    obtain ⟨k, rfl, hgk, hk, hnone, hH⟩ := hrel
    clear hb0
    obtain ⟨c1, c2⟩ := two_cells (g := w.heap.size) (hH.at 2 rfl)
    obtain ⟨c3, c4⟩ := two_cells (g := w.heap.size + 1) (hH.at 1 rfl)
    by_cases hlt : k < n
    · obtain ⟨gi, o, rfl, hg, hrow⟩ := HI.out.row (by omega)
      have hp := find_none_take (p := fun x : Ino => decide (x.id = id)) (k := k) (by omega) hnone.out
      have hrk := fun W hb => (hrow k (by omega)).below (B := w.heap.size) (W' := W) hb hg
      obtain ⟨⟨xi, kd, lk, md, da⟩, hx⟩ : ∃ x, g.I[k] = x := ⟨_, rfl⟩
      rw [hx] at hrk hp
      clear hrow hx hnone
      obtain ⟨e0, e1, e2, e3, e4, e5⟩ := hrk wr hH.below
      have HR := Lib.hid hrk
      clear hrk
      by_cases hq : xi = id
      · have hv := eqSt_yes hq
        subst hq
        rw [if_pos (decide_eq_true rfl)] at hp
        have HG : Hid (getG g xi = some ⟨xi, kd, (linksE g.E xi : Int), md, da⟩) := by
          show getG g xi = _
          unfold getG
          rw [find_take hp]
          rfl
        clear hp
        go_wp2_with fail
        go_quiet (fail)
        have hH2 := hH.drewN nq
        generalize wr.drewN nq = w2 at hH2 ⊢
        clear c1 c2 c3 c4 e0 e1 e2 e3 e4 e5 hH
        obtain ⟨c1, c2⟩ := two_cells (g := w.heap.size) (hH2.at 2 rfl)
        obtain ⟨c3, c4⟩ := two_cells (g := w.heap.size + 1) (hH2.at 1 rfl)
        obtain ⟨e0, e1, e2, e3, e4, e5⟩ := HR.out w2 hH2.below
        go_upto_region 6 with fail
        change Code.wp _ _ _ _ (w2.alloc (.cells (inoA ⟨xi, kd, lk, md, da⟩) 70))
        have hH3 := hH2.alloc (.cells (inoA ⟨xi, kd, lk, md, da⟩) 70) rfl
        obtain ⟨u, hu⟩ : ∃ u, u = w2.heap.size := ⟨_, rfl⟩
        have hlow : w.heap.size + 1 + 1 < u := by rw [hu]; exact heap_lt (hH2.at 0 rfl)
        rw [← hu] at hH3 ⊢
        generalize w2.alloc (.cells (inoA ⟨xi, kd, lk, md, da⟩) 70) = w3 at hH3 ⊢
        clear c1 c2 c3 c4 e0 e1 e2 e3 e4 e5 hH2 hu
        obtain ⟨c1, c2⟩ := two_cells (g := w.heap.size) (hH3.at 3 rfl)
        obtain ⟨c3, c4⟩ := two_cells (g := w.heap.size + 1) (hH3.at 2 rfl)
        go_wp2_with fail
        refine (HL.out _ hH3.below).mono ?_
        rintro e w4 ⟨rfl, hb4⟩
        have hH4 := hH3.step hb4
        clear c1 c2 c3 c4 hH3 hb4
        obtain ⟨e0, e1, e2, e3, e4, e5⟩ := ino_cells (g := u) (hH4.at 0 rfl)
        obtain ⟨f0, f1, f2, f3, f4, f5⟩ := ino_free (g := u) (hH4.at 0 rfl)
        obtain ⟨m0, m1, m2, m3, m4, m5⟩ := ino_cells (g := w.heap.size + 1 + 1) (hH4.at 1 rfl)
        obtain ⟨n0, n1, n2, n3, n4, n5⟩ := ino_free (g := w.heap.size + 1 + 1) (hH4.at 1 rfl)
        go_wp2_with fail
        exact bodyPost_ret (v := .tuple #[.agg (inoA ⟨xi, kd, (linksE g.E xi : Int), md, da⟩), .bool true]) (by simp [results, Tryz.results38, go_sem, inoA, noIno, m0, m1, m2, m3, m4, m5]) rfl ⟨by rw [HG.out]; rfl, below_six (hH4.below.setCell (by dsimp only; omega) _) (by omega) _ _ _ _ _ _⟩
      · have hv := eqSt_no hq
        rw [if_neg (by rw [decide_eq_false hq]; decide)] at hp
        have HP := Lib.hid hp
        clear hp
        go_wp2_with fail
        go_quiet (fail)
        go_wp2_with fail
        go_roundg (gk - 1)
        case measure => omega
        case rel => exact ⟨k + 1, by go_num, by omega, by omega, HP.out, hH.drewN _⟩
    · have hget : getG g id = none := by
        unfold getG
        have := hnone.out
        rw [List.take_of_length_le (by omega)] at this
        rw [this]
        rfl
      have HG := Lib.hid hget
      clear hget
      have f := ino_free (g := w.heap.size + 1 + 1) (hH.at 0 rfl)
      obtain ⟨f0, f1, f2, f3, f4, f5⟩ := f
      have m' := ino_cells (g := w.heap.size + 1 + 1) (hH.at 0 rfl)
      obtain ⟨m0, m1, m2, m3, m4, m5⟩ := m'
      go_wp2_with fail
      exact bodyPost_ret (v := .tuple #[.agg (inoA noIno), .bool false]) (by simp [results, Tryz.results38, go_sem, inoA, noIno, m0, m1, m2, m3, m4, m5]) rfl ⟨by rw [HG.out]; rfl, below_six hH.below (by omega) _ _ _ _ _ _⟩

end Go.Proofs.YthcmgaibbpacfaaGreatDoor
