/-
  The library's slices.Backward at inodes: an iterator that reads a slice from its end on, while the round writes maps and new blocks alone.
-/
import Derived.Test.YtoobmkkmomiigaaAuditCodeA
import Derived.Test.YtoobmkkmomiigaaKmapIn
import Derived.RangeFuncNested
import Derived.RangeFuncBound
import Derived.RangeFuncBox
import Derived.RangeFuncLeaves
import Derived.Shelf.Abstract
import Derived.WalkKit
import Derived.OwnWalkIn
import Derived.TacticsInMore
import Derived.LoopNIn
import Derived.LoopIn
import Derived.Sort.LoopGhostIn
import Derived.Sort.QuietIn
namespace Go.Proofs.Ytoobmkkmomiigaa
open Go.RowKit StampMath GraphMath

attribute [local go_sem] Oper.semAt_some

/-- All blocks of cells are as they were. -/
def KeepsRows (W W' : World) : Prop := ∀ (k : Nat) (o : Obj), W.heap[k]? = some o → o.isCells = true → W'.heap[k]? = some o

theorem KeepsRows.trans {A B C : World} (h : KeepsRows A B) (k : KeepsRows B C) : KeepsRows A C := fun i o hi ho => k i o (h i o hi ho) ho
theorem KeepsRows.alloc (W : World) (o : Obj) : KeepsRows W (W.alloc o) := fun _ _ hi _ => (heap_alloc_old _ _ (heap_lt hi)).trans hi
theorem KeepsRows.of_but {W W' : World} {S : Nat → Prop} (h : But S W W') (hS : ∀ i o, S i → W.heap[i]? = some o → o.isCells = false) : KeepsRows W W' := fun i o hi ho => by
  refine (h.block i (heap_lt hi) fun hs => ?_).trans hi
  rw [hS i o hs hi] at ho
  cases ho
theorem KeepsRows.putObj {W : World} {l : Nat} {o : Obj} (o' : Obj) (h : W.heap[l]? = some o) (hc : o.isCells = false) : KeepsRows W (W.putObj l o') := fun i o'' hi ho => by
  by_cases e : i = l
  · subst e
    rw [h] at hi
    cases hi
    rw [hc] at ho
    cases ho
  · exact (World.putObj_heap_other e).trans hi

theorem KeepsRows.cell {W W' : World} (h : KeepsRows W W') {a : Addr} {v : Value} (hc : W.cell? a = some v) : W'.cell? a = some v := by
  have hlt := World.block_lt_of_cell? _ _ hc
  obtain ⟨o, ho⟩ : ∃ o, W.heap[a.block]? = some o := ⟨_, Array.getElem?_eq_getElem hlt⟩
  have hcells : o.isCells = true := by
    cases o with
    | cells _ _ _ => rfl
    | _ => simp [World.cell?, ho] at hc
  rw [World.cell?_of_block ((h _ _ ho hcells).trans ho.symm)]
  exact hc

theorem KeepsRows.tab {W W' : World} (h : KeepsRows W W') {k B : Nat} {A : Option Addr} {n : Nat} {rows : List (Array Value)} (ht : TabIn k W B A n rows) : TabIn k W' B A n rows :=
  ⟨ht.1, fun hn => by
    obtain ⟨g, o, e, hg, hc⟩ := ht.2 hn
    exact ⟨g, o, e, hg, fun j hj i v hv => h.cell (hc j hj i v hv)⟩⟩

/-- What a round hands on: a number and its inode. -/
abbrev backed (x : Int × Ino) : Array Value := #[.int .i64 x.1, .agg (inoA x.2)]

theorem backward_code (v : Value) (A : Option Addr) (n c : Nat) (hv : v = .slice A n c) (w : World) :
    Calls Try.prog 28 #[v] w fun e w' => e = .returned (.func (.func 49) #[] #[.pointer (some ⟨w.heap.size, 0, none⟩)]) ∧ w' = w.alloc (.cells #[.slice A n c] 22) := by
  subst hv
  go_enter Try.func28, Try.ntmps28
  go_wp2_with fail
  go_ret
  exact ⟨rfl, rfl⟩

set_option maxRecDepth 100000 in
set_option maxHeartbeats 2000000 in
theorem backward_in (nf : Nat) (hf : 1 ≤ nf) (l Bn : Nat) (A : Option Addr) (n c : Nat) (N : List Ino) (hn : n ≤ 1000) (J Jx : List (Int × Ino) → World → Prop) (W0 : World)
    (hY : ∀ pre x W, J pre W → pre.length < 1001 → YieldAt Fence.wide (nf - 1) Try.prog l (backed x) W fun e W' =>
      (e = .returned (.bool true) ∧ J (pre ++ [x]) W' ∧ KeepsRows W W') ∨ (e = .returned (.bool false) ∧ Jx (pre ++ [x]) W'))
    (hc : W0.heap[Bn]? = some (.cells #[.slice A n c] 22 (0, 0))) (hin : InosIn W0 W0.heap.size A n N) (h0 : J [] W0) :
    CallsIn Fence.wide nf Try.prog 49 #[.func (.yield l) #[] #[], .pointer (some ⟨Bn, 0, none⟩)] W0 fun e W' => (∃ v, e = .returned v) ∧
      ((∃ ys : List (Int × Ino), ys.map Prod.snd = N.reverse ∧ J ys W') ∨ (∃ pre, True ∧ Jx pre W')) := by
  have hl := hin.len
  have HI := Lib.hid hin
  have c0 : W0.cell? ⟨Bn, 0, none⟩ = some (.slice A n c) := cell_of_row _ _ 0 _ _ (0, 0) hc
  clear hin
  refine callsIn_of_wp Try.func49 rfl trivial ?_ rfl
  simp only [Try.ntmps49, List.size_toArray, List.length_cons, List.length_nil, Nat.reduceAdd, Nat.reduceSub, Array.replicate_succ, Array.replicate_zero, List.push_toArray, List.append_toArray, List.nil_append, List.cons_append]
  gi_wp2_with fail
  gi_loopg [3] (n + 1) (fun gk vi wr => ∃ (k : Nat) (i : Int) (pre : List (Int × Ino)), vi = .int .i64 i ∧ i = (k : Int) - 1 ∧ gk = k + 1 ∧ k ≤ n ∧ pre.length + k = n ∧ Hid (pre.map Prod.snd = (N.drop k).reverse) ∧ Hid (J pre wr) ∧ wr.heap[Bn]? = some (.cells #[.slice A n c] 22 (0, 0)) ∧ Hid (InosIn wr W0.heap.size A n N))
  case atStart =>
    exact ⟨n, _, [], by go_num, rfl, by omega, by omega, by simp, by rw [List.drop_of_length_le (by omega)]; rfl, h0, hc, HI.out⟩
  case round =>
    obtain ⟨k, i, pre, rfl, hi, rfl, hk, hpre, hp, hJ, hcell, hin⟩ := hrel
    clear c0
    have c0 : wr.cell? ⟨Bn, 0, none⟩ = some (.slice A n c) := cell_of_row _ _ 0 _ _ (0, 0) hcell
    cases k with
    | zero =>
      have hi0 : decide (i ≥ 0) = false := decide_eq_false (by omega)
      clear hi
      gi_wp2_with fail
      go_end0
      exact ⟨⟨_, rfl⟩, .inl ⟨pre, by rw [hp.out]; rfl, hJ.out⟩⟩
    | succ j =>
      obtain rfl : i = (j : Int) := by omega
      clear hi
      obtain ⟨g, o, rfl, hg, hrow⟩ := hin.out.row (by omega)
      obtain ⟨e0, e1, e2, e3, e4, e5⟩ := hrow j (by omega)
      clear hrow
      have hnext : ((pre ++ [((j : Int), N[j])]).map Prod.snd) = (N.drop j).reverse := by
        rw [List.map_append, hp.out, List.drop_eq_getElem_cons (show j < N.length by omega), List.reverse_cons]
        rfl
      have hy0 := hY pre ((j : Int), N[j]) wr hJ.out (by omega)
      generalize N[j] = x at e0 e1 e2 e3 e4 e5 hnext hy0
      have HN := Lib.hid hnext
      clear hnext
      obtain ⟨⟨i1, i2⟩, xk, xl, xm, xd⟩ := x
      obtain ⟨fn, tmps, assign, body, hy, hRd⟩ := hy0
      simp only [inoA, backed] at hy
      dsimp only at e0 e1 e2 e3 e4 e5
      have HRd := Lib.hid hRd
      clear hRd hp hJ
      gi_wp2_with fail
      refine HRd.out.mono ?_
      rintro e W3 (⟨rfl, hJ3, hk3⟩ | ⟨rfl, hJx3⟩)
      · have hcell3 := hk3 _ _ hcell rfl
        have hin3 : InosIn W3 W0.heap.size (some ⟨g, o, none⟩) n N := hk3.tab hin.out
        clear hy e0 e1 e2 e3 e4 e5 c0 hcell hin
        gi_wp2_with fail
        gi_roundg (j + 1)
        case measure => omega
        case rel => exact ⟨j, _, pre ++ [((j : Int), Ino.mk (i1, i2) xk xl xm xd)], by go_num, rfl, rfl, by omega, by rw [List.length_append]; simp; omega, HN, hJ3, hcell3, hin3⟩
      · clear hy
        gi_wp2_with fail
        refine bodyPost_ret (results_none rfl _ _ _) rfl ?_
        exact ⟨⟨_, rfl⟩, .inr ⟨_, trivial, hJx3⟩⟩

theorem backward_stops (nf : Nat) (hf : 1 ≤ nf) (Bn : Nat) (A : Option Addr) (n c : Nat) (N : List Ino) (hn : n ≤ 1000) (w : World) (hc : w.heap[Bn]? = some (.cells #[.slice A n c] 22 (0, 0))) (hin : InosIn w w.heap.size A n N) :
    SeqStopsK Fence.wide nf Try.prog 49 #[.pointer (some ⟨Bn, 0, none⟩)] backed KeepsRows (fun ys => ys.map Prod.snd = N.reverse) (fun _ => True) 1001 w := fun l J Jx W hW _ _ hY h0 =>
  backward_in nf hf l Bn A n c N hn J Jx W hY ((hW.block Bn (heap_lt hc)).trans hc) ((hin.below hW).more hW.size) h0

end Go.Proofs.Ytoobmkkmomiigaa
