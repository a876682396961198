/-
  The library's slices.Backward at inodes: an iterator that reads a slice from its end on, while the round writes maps and new blocks alone.
-/
import Derived.Test.YtoobmkkmomiigaaGreatZ02
import Derived.Test.YtoobmkkmomiigaaGreatZ02
import Derived.RangeFuncNested
import Derived.RangeFuncBound
import Derived.RangeFuncBox
import Derived.RangeFuncLeaves
import Derived.Shelf.Abstract
import Derived.WalkKit
import Derived.OwnWalkIn
import Derived.TacticsInMore
import Derived.LoopNIn
import Derived.LoopIn
import Derived.Sort.LoopGhostIn
import Derived.Sort.QuietIn
import Derived.Deep.LoopGhost
import Derived.Deep.Cut
import Derived.Maps.Own
import Derived.Maps.OwnOps
import Derived.Test.YtoobmkkmomiigaaGreatZ01
import Derived.Maps.AppendAt
import Derived.Laws.OwnMore
import Derived.BigQuiet
import Derived.Test.YtoobmkkmomiigaaGreatZ00
import Derived.Test.YtoobmkkmomiigaaGreatRows
import Derived.Deep.RegionHeld3
import Derived.Sort.Grow
import Derived.Sort.Statements
import Derived.Shelf.SlSortCmp.Insertion
namespace Go.Proofs.YtoobmkkmomiigaaGreat
open Go.RowKit StampMath GraphMath

attribute [local go_sem] Oper.semAt_some

/-- All blocks of cells are as they were. -/
def KeepsRows (W W' : World) : Prop := ∀ (k : Nat) (o : Obj), W.heap[k]? = some o → o.isCells = true → W'.heap[k]? = some o

theorem KeepsRows.trans {A B C : World} (h : KeepsRows A B) (k : KeepsRows B C) : KeepsRows A C := fun i o hi ho => k i o (h i o hi ho) ho
theorem KeepsRows.alloc (W : World) (o : Obj) : KeepsRows W (W.alloc o) := fun _ _ hi _ => (heap_alloc_old _ _ (heap_lt hi)).trans hi
theorem KeepsRows.of_but {W W' : World} {S : Nat → Prop} (h : But S W W') (hS : ∀ i o, S i → W.heap[i]? = some o → o.isCells = false) : KeepsRows W W' := fun i o hi ho => by
  refine (h.block i (heap_lt hi) fun hs => ?_).trans hi
  rw [hS i o hs hi] at ho
  cases ho
theorem KeepsRows.putObj {W : World} {l : Nat} {o : Obj} (o' : Obj) (h : W.heap[l]? = some o) (hc : o.isCells = false) : KeepsRows W (W.putObj l o') := fun i o'' hi ho => by
  by_cases e : i = l
  · subst e
    rw [h] at hi
    cases hi
    rw [hc] at ho
    cases ho
  · exact (World.putObj_heap_other e).trans hi

theorem KeepsRows.cell {W W' : World} (h : KeepsRows W W') {a : Addr} {v : Value} (hc : W.cell? a = some v) : W'.cell? a = some v := by
  have hlt := World.block_lt_of_cell? _ _ hc
  obtain ⟨o, ho⟩ : ∃ o, W.heap[a.block]? = some o := ⟨_, Array.getElem?_eq_getElem hlt⟩
  have hcells : o.isCells = true := by
    cases o with
    | cells _ _ _ => rfl
    | _ => simp [World.cell?, ho] at hc
  rw [World.cell?_of_block ((h _ _ ho hcells).trans ho.symm)]
  exact hc

theorem KeepsRows.tab {W W' : World} (h : KeepsRows W W') {k B : Nat} {A : Option Addr} {n : Nat} {rows : List (Array Value)} (ht : TabIn k W B A n rows) : TabIn k W' B A n rows :=
  ⟨ht.1, fun hn => by
    obtain ⟨g, o, e, hg, hc⟩ := ht.2 hn
    exact ⟨g, o, e, hg, fun j hj i v hv => h.cell (hc j hj i v hv)⟩⟩

/-- What a round hands on: a number and its inode. -/
abbrev backed (x : Int × Ino) : Array Value := #[.int .i64 x.1, .agg (inoA x.2)]

theorem backward_code (v : Value) (A : Option Addr) (n c : Nat) (hv : v = .slice A n c) (w : World) :
    Calls Tryz.prog 54 #[v] w fun e w' => e = .returned (.func (.func 69) #[] #[.pointer (some ⟨w.heap.size, 0, none⟩)]) ∧ w' = w.alloc (.cells #[.slice A n c] 36) := by
  subst hv
  go_enter Tryz.func54, Tryz.ntmps54
  go_wp2_with fail
  go_ret
  exact ⟨rfl, rfl⟩

set_option maxRecDepth 100000 in
set_option maxHeartbeats 2000000 in
theorem backward_in (nf : Nat) (hf : 1 ≤ nf) (l Bn : Nat) (A : Option Addr) (n c : Nat) (N : List Ino) (hn : n ≤ 1000) (J Jx : List (Int × Ino) → World → Prop) (W0 : World)
    (hY : ∀ pre x W, J pre W → pre.length < 1001 → YieldAt Fence.wide (nf - 1) Tryz.prog l (backed x) W fun e W' =>
      (e = .returned (.bool true) ∧ J (pre ++ [x]) W' ∧ KeepsRows W W') ∨ (e = .returned (.bool false) ∧ Jx (pre ++ [x]) W'))
    (hc : W0.heap[Bn]? = some (.cells #[.slice A n c] 36 (0, 0))) (hin : InosIn W0 W0.heap.size A n N) (h0 : J [] W0) :
    CallsIn Fence.wide nf Tryz.prog 69 #[.func (.yield l) #[] #[], .pointer (some ⟨Bn, 0, none⟩)] W0 fun e W' => (∃ v, e = .returned v) ∧
      ((∃ ys : List (Int × Ino), ys.map Prod.snd = N.reverse ∧ J ys W') ∨ (∃ pre, True ∧ Jx pre W')) := by
  have hl := hin.len
  have HI := Lib.hid hin
  have c0 : W0.cell? ⟨Bn, 0, none⟩ = some (.slice A n c) := cell_of_row _ _ 0 _ _ (0, 0) hc
  clear hin
  refine callsIn_of_wp Tryz.func69 rfl trivial ?_ rfl
  simp only [Tryz.ntmps69, List.size_toArray, List.length_cons, List.length_nil, Nat.reduceAdd, Nat.reduceSub, Array.replicate_succ, Array.replicate_zero, List.push_toArray, List.append_toArray, List.nil_append, List.cons_append]
  gi_wp2_with fail
  gi_loopg [3] (n + 1) (fun gk vi wr => ∃ (k : Nat) (i : Int) (pre : List (Int × Ino)), vi = .int .i64 i ∧ i = (k : Int) - 1 ∧ gk = k + 1 ∧ k ≤ n ∧ pre.length + k = n ∧ Hid (pre.map Prod.snd = (N.drop k).reverse) ∧ Hid (J pre wr) ∧ wr.heap[Bn]? = some (.cells #[.slice A n c] 36 (0, 0)) ∧ Hid (InosIn wr W0.heap.size A n N))
  case atStart =>
    exact ⟨n, _, [], by go_num, rfl, by omega, by omega, by simp, by rw [List.drop_of_length_le (by omega)]; rfl, h0, hc, HI.out⟩
  case round =>
    obtain ⟨k, i, pre, rfl, hi, rfl, hk, hpre, hp, hJ, hcell, hin⟩ := hrel
    clear c0
    have c0 : wr.cell? ⟨Bn, 0, none⟩ = some (.slice A n c) := cell_of_row _ _ 0 _ _ (0, 0) hcell
    cases k with
    | zero =>
      have hi0 : decide (i ≥ 0) = false := decide_eq_false (by omega)
      clear hi
      gi_wp2_with fail
      go_end0
      exact ⟨⟨_, rfl⟩, .inl ⟨pre, by rw [hp.out]; rfl, hJ.out⟩⟩
    | succ j =>
      obtain rfl : i = (j : Int) := by omega
      clear hi
      obtain ⟨g, o, rfl, hg, hrow⟩ := hin.out.row (by omega)
      obtain ⟨e0, e1, e2, e3, e4, e5⟩ := hrow j (by omega)
      clear hrow
      have hnext : ((pre ++ [((j : Int), N[j])]).map Prod.snd) = (N.drop j).reverse := by
        rw [List.map_append, hp.out, List.drop_eq_getElem_cons (show j < N.length by omega), List.reverse_cons]
        rfl
      have hy0 := hY pre ((j : Int), N[j]) wr hJ.out (by omega)
      generalize N[j] = x at e0 e1 e2 e3 e4 e5 hnext hy0
      have HN := Lib.hid hnext
      clear hnext
      obtain ⟨⟨i1, i2⟩, xk, xl, xm, xd⟩ := x
      obtain ⟨fn, tmps, assign, body, hy, hRd⟩ := hy0
      simp only [inoA, backed] at hy
      dsimp only at e0 e1 e2 e3 e4 e5
      have HRd := Lib.hid hRd
      clear hRd hp hJ
      gi_wp2_with fail
      refine HRd.out.mono ?_
      rintro e W3 (⟨rfl, hJ3, hk3⟩ | ⟨rfl, hJx3⟩)
      · have hcell3 := hk3 _ _ hcell rfl
        have hin3 : InosIn W3 W0.heap.size (some ⟨g, o, none⟩) n N := hk3.tab hin.out
        clear hy e0 e1 e2 e3 e4 e5 c0 hcell hin
        gi_wp2_with fail
        gi_roundg (j + 1)
        case measure => omega
        case rel => exact ⟨j, _, pre ++ [((j : Int), Ino.mk (i1, i2) xk xl xm xd)], by go_num, rfl, rfl, by omega, by rw [List.length_append]; simp; omega, HN, hJ3, hcell3, hin3⟩
      · clear hy
        gi_wp2_with fail
        refine bodyPost_ret (results_none rfl _ _ _) rfl ?_
        exact ⟨⟨_, rfl⟩, .inr ⟨_, trivial, hJx3⟩⟩

theorem backward_stops (nf : Nat) (hf : 1 ≤ nf) (Bn : Nat) (A : Option Addr) (n c : Nat) (N : List Ino) (hn : n ≤ 1000) (w : World) (hc : w.heap[Bn]? = some (.cells #[.slice A n c] 36 (0, 0))) (hin : InosIn w w.heap.size A n N) :
    SeqStopsK Fence.wide nf Tryz.prog 69 #[.pointer (some ⟨Bn, 0, none⟩)] backed KeepsRows (fun ys => ys.map Prod.snd = N.reverse) (fun _ => True) 1001 w := fun l J Jx W hW _ _ hY h0 =>
  backward_in nf hf l Bn A n c N hn J Jx W hY ((hW.block Bn (heap_lt hc)).trans hc) ((hin.below hW).more hW.size) h0

end Go.Proofs.YtoobmkkmomiigaaGreat

/-
  The landed audit's look: what is looked up in inodes (by a range over slices.Backward) and in entries.
-/
namespace Go.Proofs.YtoobmkkmomiigaaGreat
open Go.RowKit StampMath GraphMath

/-- What is looked up in inodes that came from the end on. -/
theorem kindI_cons (x : Ino) (N : List Ino) (id : St) : kindI (x :: N) id = if x.id = id then some x.kind else kindI N id := by
  unfold kindI
  rw [List.find?_cons]
  by_cases h : x.id = id
  · rw [decide_eq_true h, if_pos h]; rfl
  · rw [decide_eq_false h, if_neg h]

theorem off_of {K V : Type} [DecidableEq K] (L : List (K × V)) (k x : K) : lookL (offL L k) x = if k = x then none else lookL L x := by
  unfold lookL offL
  induction L with
  | nil => by_cases h : k = x <;> simp [h]
  | cons p l ih =>
    rw [List.filter_cons]
    by_cases hp : p.1 = k
    · rw [decide_eq_true hp, Bool.not_true, if_neg (by decide), ih, List.find?_cons]
      by_cases h : k = x
      · rw [if_pos h, if_pos h]
      · rw [if_neg h, if_neg h, decide_eq_false (by rw [hp]; exact h)]
    · rw [decide_eq_false hp, Bool.not_false, if_pos rfl, List.find?_cons, List.find?_cons]
      by_cases h : p.1 = x
      · rw [decide_eq_true h]
        have : ¬ k = x := fun q => hp (by rw [h, q])
        rw [if_neg this]
      · rw [decide_eq_false h]
        exact ih

theorem look_put {K V : Type} [DecidableEq K] (L : List (K × V)) (k : K) (v : V) (x : K) : lookL ((k, v) :: offL L k) x = if k = x then some v else lookL L x := by
  by_cases h : k = x
  · rw [if_pos h]
    unfold lookL
    rw [List.find?_cons, decide_eq_true h]
    rfl
  · rw [if_neg h]
    have : lookL ((k, v) :: offL L k) x = lookL (offL L k) x := by
      unfold lookL
      rw [List.find?_cons, decide_eq_false h]
    rw [this, off_of, if_neg h]

theorem links_snoc (E : List Ent) (k : Nat) (hk : k < E.length) (id : St) : (linksE (E.take (k + 1)) id : Int) = (linksE (E.take k) id : Int) + if E[k].ino = id then 1 else 0 := by
  rw [List.take_succ_eq_append_getElem hk]
  unfold linksE
  rw [List.filter_append, List.length_append, List.filter_cons]
  by_cases h : E[k].ino = id
  · simp [h]
  · simp [h]

/-- What a round of look's first loop holds: its own inode in a box. -/
def LkAt (A A' : Option Addr) (n c m d s : Nat) (x : Int × Ino) (a : Act) (W : World) : Prop :=
  ∃ q, a = { tmps := #[.slice A n c, .slice A' m d, undef, undef, .pointer (some ⟨s, 0, none⟩), .pointer (some ⟨s + 1 + 1 + 1, 0, none⟩), undef, .pointer (some ⟨q, 0, none⟩), undef, undef, .slice A n c, .slice A' m d, .map (some (s + 1)), .map (some (s + 1 + 1)), .agg #[.slice A n c, .slice A' m d, .map (some (s + 1)), .map (some (s + 1 + 1))], .slice A n c, .func (.func 69) #[] #[.pointer (some ⟨s + 1 + 1 + 1 + 1, 0, none⟩)], .int .i64 x.1, .agg (inoA x.2), undef, undef, undef, undef, undef, undef, undef, undef, undef, undef, undef, undef, undef, undef, undef, undef, undef, undef, undef, undef, undef, undef], defers := [] } ∧ W.heap[q]? = some (.cells (inoA x.2) 41 (0, 0))

theorem lk_own (A A' : Option Addr) (n c m d s B0 : Nat) (x : Int × Ino) (a : Act) : OwnFrom B0 (fun (_ : Unit) W => LkAt A A' n c m d s x a W) := by
  rintro _ W W' row ⟨q, ha, hq⟩ hg hr
  refine ⟨q, ha, (hg.block q (heap_lt hq) fun e => ?_).trans hq⟩
  obtain ⟨_, o, ho, hc⟩ := hr q e.symm
  rw [hq] at ho
  cases ho
  cases hc

/-- What lies in memory between the rounds of look's first loop. -/
structure LkI (w : World) (A A' : Option Addr) (n c m d s B0 : Nat) (pre : List (Int × Ino)) (W : World) : Prop where
  res : W.heap[s]? = some (.cells #[.slice none 0 0, .slice none 0 0, .map none, .map none] 58 (0, 0))
  lists : W.heap[s + 1 + 1 + 1]? = some (.cells #[.slice A n c, .slice A' m d, .map (some (s + 1)), .map (some (s + 1 + 1))] 58 (0, 0))
  kinds : ∃ K : List (St × Int), KMap stV iV W (s + 1) K ∧ ∀ id, lookL K id = kindI (pre.map Prod.snd).reverse id
  links : KMap stV iV W (s + 1 + 1) ([] : List (St × Int))
  below : Below w.heap.size w W
  size : B0 ≤ W.heap.size

theorem LkI.step {w : World} {A A' : Option Addr} {n c m d s B0 : Nat} {pre : List (Int × Ino)} {W W' : World} (h : LkI w A A' n c m d s B0 pre W) (hs : s + 1 + 1 + 1 < B0) (hb : Below w.heap.size w W') (hz : B0 ≤ W'.heap.size) (hk : ∀ k, k < B0 → W'.heap[k]? = W.heap[k]?) : LkI w A A' n c m d s B0 pre W' := by
  obtain ⟨K, k1, k2⟩ := h.kinds
  exact ⟨(hk _ (by omega)).trans h.res, (hk _ hs).trans h.lists, ⟨K, k1.kept (hk _ (by omega)), k2⟩, h.links.kept (hk _ (by omega)), hb, hz⟩

theorem lkI_own (w : World) (A A' : Option Addr) (n c m d s B0 : Nat) (hs : s + 1 + 1 + 1 < B0) (hw : w.heap.size ≤ B0) : OwnFrom B0 (fun (pre : List (Int × Ino)) W => LkI w A A' n c m d s B0 pre W) := by
  intro pre W W' row h hg hr
  refine h.step hs ?_ (Nat.le_trans h.size hg.size) fun k hk => hg.block k (by have := h.size; omega) fun e => by have := (hr k e.symm).1; omega
  exact h.below.grown hg h.below.size fun q e => by have := (hr q e).1; omega

theorem but_four (w : World) (s : Nat) (a b c d : Value) : But (fun i => i = s) w ((((w.setCell ⟨s, 0, none⟩ a).setCell ⟨s, 1, none⟩ b).setCell ⟨s, 2, none⟩ c).setCell ⟨s, 3, none⟩ d) := by
  refine But.setCell (But.setCell (But.setCell (But.setCell (But.refl (fun i => i = s) w) ?_ a) ?_ b) ?_ c) ?_ d
  all_goals exact Or.inl rfl

theorem four_put {w : World} {s : Nat} {x y z t : Value} {T : TypeId} (h : w.heap[s]? = some (.cells #[x, y, z, t] T (0, 0))) (a b c d : Value) :
    ((((w.setCell ⟨s, 0, none⟩ a).setCell ⟨s, 1, none⟩ b).setCell ⟨s, 2, none⟩ c).setCell ⟨s, 3, none⟩ d).heap[s]? = some (.cells #[a, b, c, d] T (0, 0)) := by
  rw [heap_setCell_same _ _ _ _ _ _ (heap_setCell_same _ _ _ _ _ _ (heap_setCell_same _ _ _ _ _ _ (heap_setCell_same _ _ _ _ _ _ h)))]
  rfl

section
attribute [local go_sem] Oper.semAt_some

set_option maxRecDepth 100000 in
set_option maxHeartbeats 4000000 in
theorem auLook_code (A A' : Option Addr) (n c m d : Nat) (N : List Ino) (E : List Ent) (w : World) (h : Given w A n N A' m E) :
    Calls Tryz.prog 25 #[.slice A n c, .slice A' m d] w fun e w' => ∃ bk bl, e = .returned (.agg #[.slice A n c, .slice A' m d, .map (some bk), .map (some bl)]) ∧ Looked w' bk bl N E ∧ Below w.heap.size w w' := by
  have hn := h.fewI
  have hm := h.fewE
  have hE := h.ents.len
  have HG := Lib.hid h
  clear h
  refine (callsIn_wide (n := 5)).1 ?_
  refine callsIn_of_wp_marks Tryz.func25 rfl trivial ?_ rfl
  simp only [Tryz.ntmps25, List.size_toArray, List.length_cons, List.length_nil, Nat.reduceAdd, Nat.reduceSub, Array.replicate_succ, Array.replicate_zero, List.push_toArray, List.append_toArray, List.nil_append, List.cons_append]
  have hmk : ∀ W : World, (Instr.makeMap 56 none).run Tryz.prog W = .ok (.map (some W.heap.size)) (W.alloc (.map #[] 0)) := fun _ => rfl
  gi_wp2_with fail
  refine ⟨trivial, (callsIn_wide.2 (backward_code _ A n c rfl _)).mono ?_⟩
  rintro e w' ⟨rfl, rfl⟩
  clear hmk
  gi_wp2_with fail
  have hH := (((((Held.refl w).alloc (.cells #[.slice none 0 0, .slice none 0 0, .map none, .map none] 58) rfl).alloc (g := w.heap.size + 1) (.map #[] 0) (by simp)).alloc (g := w.heap.size + 1 + 1) (.map #[] 0) (by simp)).alloc (g := w.heap.size + 1 + 1 + 1) (.cells #[.slice A n c, .slice A' m d, .map (some (w.heap.size + 1)), .map (some (w.heap.size + 1 + 1))] 58) (by simp)).alloc (g := w.heap.size + 1 + 1 + 1 + 1) (.cells #[.slice A n c] 36) (by simp)
  have hz0 : (((((w.alloc (.cells #[.slice none 0 0, .slice none 0 0, .map none, .map none] 58)).alloc (.map #[] 0)).alloc (.map #[] 0)).alloc (.cells #[.slice A n c, .slice A' m d, .map (some (w.heap.size + 1)), .map (some (w.heap.size + 1 + 1))] 58)).alloc (.cells #[.slice A n c] 36)).heap.size = w.heap.size + 1 + 1 + 1 + 1 + 1 := by simp
  generalize (((((w.alloc (.cells #[.slice none 0 0, .slice none 0 0, .map none, .map none] 58)).alloc (.map #[] 0)).alloc (.map #[] 0)).alloc (.cells #[.slice A n c, .slice A' m d, .map (some (w.heap.size + 1)), .map (some (w.heap.size + 1 + 1))] 58)).alloc (.cells #[.slice A n c] 36)) = W0 at hH hz0 ⊢
  have hI0 : LkI w A A' n c m d w.heap.size W0.heap.size [] W0 :=
    ⟨hH.at 4 rfl, hH.at 1 rfl, ⟨[], ⟨#[], 0, [], hH.at 3 rfl, MapKept.stamped_empty 0, rfl, List.Perm.nil⟩, fun id => rfl⟩, ⟨#[], 0, [], hH.at 2 rfl, MapKept.stamped_empty 0, rfl, List.Perm.nil⟩, hH.below, Nat.le_refl _⟩
  have hb4 := hH.at 0 rfl
  have hin : InosIn W0 W0.heap.size A n N := (HG.out.inos.below hH.below).more hH.below.size
  obtain ⟨s, hs⟩ : ∃ s, s = w.heap.size := ⟨_, rfl⟩
  rw [← hs] at hz0 hI0 hb4 ⊢
  have hsB : s + 1 + 1 + 1 < W0.heap.size := by omega
  have hws : w.heap.size ≤ s := Nat.le_of_eq hs.symm
  have hwB : w.heap.size ≤ W0.heap.size := by omega
  have HS := Lib.hid hs
  clear hH hs
  refine wpIn_rangeFunc_ownH rfl (by decide) (gf := 69) (lb := #[.pointer (some ⟨s + 1 + 1 + 1 + 1, 0, none⟩)]) rfl trivial (enters_of Tryz.func69 (by kernel_rfl) rfl)
    (backward_stops (5 - 1) (by decide) (s + 1 + 1 + 1 + 1) A n c N hn W0 hb4 hin) (fun h k => KeepsRows.trans h k) (fun W l o o' _ hl hc _ => KeepsRows.putObj o' hl hc) (Below.refl _ _) (fun _ => rfl)
    (fun (pre : List (Int × Ino)) W => LkI w A A' n c m d s W0.heap.size pre W)
    (fun _ _ _ => False)
    (lkI_own w A A' n c m d s _ hsB hwB)
    (fun _ _ _ _ _ hs _ _ => hs)
    hI0
    (fun x a' W => LkAt A A' n c m d s x a' W) (fun x a' => lk_own _ _ _ _ _ _ _ _ x a') ?assign ?body ?done ?stop
  case assign =>
    rintro l pre x W K hI hK
    have hK' := hK { tmps := #[.slice A n c, .slice A' m d, undef, undef, .pointer (some ⟨s, 0, none⟩), .pointer (some ⟨s + 1 + 1 + 1, 0, none⟩), undef, .pointer (some ⟨W.heap.size, 0, none⟩), undef, undef, .slice A n c, .slice A' m d, .map (some (s + 1)), .map (some (s + 1 + 1)), .agg #[.slice A n c, .slice A' m d, .map (some (s + 1)), .map (some (s + 1 + 1))], .slice A n c, .func (.func 69) #[] #[.pointer (some ⟨s + 1 + 1 + 1 + 1, 0, none⟩)], .int .i64 x.1, .agg (inoA x.2), undef, undef, undef, undef, undef, undef, undef, undef, undef, undef, undef, undef, undef, undef, undef, undef, undef, undef, undef, undef, undef, undef], defers := [] } (W.alloc (.cells (inoA x.2) 41))
      ((KeepsOthers.alloc _ _).from _) (KeepsRows.alloc _ _) (hI.step hsB (hI.below.alloc hI.below.size _) (by have := hI.size; simp; omega) fun k hk => heap_alloc_old _ _ (by have := hI.size; omega)) ⟨W.heap.size, rfl, heap_alloc_new _ _⟩
    have HK := Lib.hid hK'
    clear hK hK' hI hI0
    obtain ⟨xi, ⟨i1, i2⟩, xk, xl, xm, xd⟩ := x
    simp only [backed, inoA] at HK ⊢
    gi_wp2_with fail
    exact HK.out
  case body =>
    rintro l pre x a' W hl _ hI ⟨q, rfl, hq⟩ hlt
    have hsz2 := hI.size
    obtain ⟨K, k1, k2⟩ := hI.kinds
    obtain ⟨w1, hrun, hm1, hbut, hsz⟩ := k1.store stShape Tryz.underlying56 x.2.id x.2.kind
    simp only [stV, stA, iV] at hrun
    have hc := cell_of_row _ _ 2 _ _ (0, 0) hI.lists
    obtain ⟨x0, x1, x2, x3, x4, x5⟩ := ino_cells hq
    have HI := Lib.hid hI
    have HM := Lib.hid hm1
    have HB := Lib.hid hbut
    have HK := Lib.hid k2
    have hkc : ∃ o, W.heap[s + 1]? = some o ∧ o.isCells = false := by
      obtain ⟨es, cl, M, q1, _⟩ := k1
      exact ⟨_, q1, rfl⟩
    clear hI hI0 k1 k2 hm1 hbut
    obtain ⟨xi, ⟨i1, i2⟩, xk, xl, xm, xd⟩ := x
    dsimp only at hrun x0 x1 x2 x3 x4 x5
    gi_wp2_with fail
    have hbk : ∀ k, k ≠ s + 1 → k < W.heap.size → w1.heap[k]? = W.heap[k]? := fun k h1 h2 => HB.out.block k h2 h1
    have hbelow : Below w.heap.size w w1 := HI.out.below.trans (HB.out.below (fun i hi => by omega) HI.out.below.size)
    refine ⟨⟨HB.out.size, fun k o h1 h2 h3 => (hbk k (by omega) (heap_lt h2)).trans h2⟩, KeepsRows.of_but HB.out (fun i o hi ho => ?_), ⟨(hbk _ (by omega) (by omega)).trans HI.out.res, (hbk _ (by omega) (by omega)).trans HI.out.lists, ⟨_, HM.out, fun id => ?_⟩, HI.out.links.kept (hbk _ (by omega) (by omega)), hbelow, by omega⟩⟩
    · obtain ⟨o', h1, h2⟩ := hkc
      rw [hi, h1] at ho
      cases ho
      exact h2
    · rw [look_put, List.map_append, List.reverse_append]
      simp only [List.map_cons, List.map_nil, List.reverse_cons, List.reverse_nil, List.nil_append, List.singleton_append]
      rw [kindI_cons, HK.out id]
  case done =>
    rintro D ys W hD hS hI hK
    obtain ⟨K, k1, k2⟩ := hI.kinds
    have hkK : Hid (∀ id, lookL K id = kindI N id) := fun id => by
      rw [k2 id, hS, List.reverse_reverse]
    have hsD : s + 1 + 1 + 1 < D := by omega
    have r0 := hI.res
    have r3 := hI.lists
    have HK1 := Lib.hid k1
    have HL0 := Lib.hid hI.links
    have hB0 := hI.below
    have hz := hI.size
    clear hI hI0 k1 k2 hS hin hb4
    dsimp only [Exit.inBlock, Exit.then]
    apply_assumption
    refine wpIn_wide.2 ?_
    go_wp2_with fail
    go_loopg [27] (m + 1) (fun gk i wr => ∃ k : Nat, i = .int .i64 (k : Int) ∧ gk + k = m + 1 ∧ k ≤ m ∧ Hid (KMap stV iV wr (s + 1) K) ∧ Hid (∃ L : List (St × Int), KMap stV iV wr (s + 1 + 1) L ∧ ∀ id, (lookL L id).getD 0 = (linksE (E.take k) id : Int)) ∧ wr.heap[s]? = some (.cells #[.slice none 0 0, .slice none 0 0, .map none, .map none] 58 (0, 0)) ∧ wr.heap[s + 1 + 1 + 1]? = some (.cells #[.slice A n c, .slice A' m d, .map (some (s + 1)), .map (some (s + 1 + 1))] 58 (0, 0)) ∧ wr.heap[D]? = some (.deferred (some [])) ∧ Hid (Below w.heap.size w wr))
    case atStart => exact ⟨0, rfl, by omega, by omega, HK1, ⟨[], HL0.out, fun id => rfl⟩, r0, r3, hK, hB0⟩
    case round =>
      obtain ⟨k, rfl, hgk, hk, hKs, hLs, q0, q3, qD, hB⟩ := hrel
      clear r0 r3 hK hB0 HK1 HL0 hz
      have hD := heap_lt qD
      by_cases hlt : k < m
      · obtain ⟨g, o, rfl, hg, hrow⟩ := HG.out.ents.row (by omega)
        have hlow := hB.out.size
        obtain ⟨e0, e1, e2, e3, e4⟩ := (hrow k (by omega)).below hB.out hg
        clear hrow
        obtain ⟨L, l1, l2⟩ := hLs.out
        have hsn := fun id => links_snoc E k (by omega) id
        have hnum : (linksE (E.take k) E[k].ino : Int) ≤ 1000 := by have := linksE_le (E.take k) E[k].ino; rw [List.length_take] at this; omega
        generalize E[k] = x at e0 e1 e2 e3 e4 hsn hnum
        obtain ⟨⟨d1, d2⟩, nm, ⟨i1, i2⟩⟩ := x
        dsimp only at e0 e1 e2 e3 e4 hsn hnum
        have HSn := Lib.hid hsn
        clear hsn hLs
        go_upto_region 8 with fail
        change Code.wp _ _ _ _ (wr.alloc (.cells (entA ⟨(d1, d2), nm, (i1, i2)⟩) 34))
        obtain ⟨u, hu⟩ : ∃ u, u = wr.heap.size := ⟨_, rfl⟩
        have hDu : D < u := by omega
        have t9 : (wr.alloc (.cells (entA ⟨(d1, d2), nm, (i1, i2)⟩) 34)).heap[u]? = some (.cells (entA ⟨(d1, d2), nm, (i1, i2)⟩) 34 (0, 0)) := by rw [hu]; exact heap_alloc_new _ _
        have hbA : Below wr.heap.size wr (wr.alloc (.cells (entA ⟨(d1, d2), nm, (i1, i2)⟩) 34)) := (Below.refl _ _).alloc (Nat.le_refl _) _
        rw [← hu]
        generalize wr.alloc (.cells (entA ⟨(d1, d2), nm, (i1, i2)⟩) 34) = w2 at t9 hbA ⊢
        have hB2 := below_step hB.out hbA
        have HK2 := Lib.hid (hKs.out.kept (hbA.block _ (by omega)))
        have l12 := l1.kept (hbA.block _ (by omega))
        have p0 := (hbA.block _ (by omega)).trans q0
        have p3 := (hbA.block _ (by omega)).trans q3
        have pD := (hbA.block _ hD).trans qD
        clear hbA hB hKs l1 q0 q3 qD e0 e1 e2 e3 e4 hu hlow hD
        obtain ⟨e0, e1, e2, e3, e4⟩ := ent_cells t9
        have c3 := cell_of_row _ _ 3 _ _ (0, 0) p3
        obtain ⟨v, hv⟩ : ∃ v, v = (linksE (E.take k) (i1, i2) : Int) := ⟨_, rfl⟩
        have hv2 : (lookL L (i1, i2)).getD 0 = v := by rw [hv]; exact l2 (i1, i2)
        have hwr : wrap64 (v + 1) = v + 1 := by
          have : 0 ≤ v := by omega
          unfold wrap64
          omega
        have l13 : KMap stV iV w2.drew (s + 1 + 1) L := l12
        obtain ⟨st, w3, hrun, hm3, hbut3, hsz3, hslot⟩ := l13.entry stShape Tryz.underlying56 0 zeroI (i1, i2)
        rw [hv2] at hrun hm3
        have hl2 := l13.look stShape Tryz.underlying56 (zeroI _) (i1, i2) false
        rw [if_neg (by decide), show ((lookL L (i1, i2)).map iV).getD (iV 0) = iV ((lookL L (i1, i2)).getD 0) by cases lookL L (i1, i2) <;> rfl, hv2] at hl2
        have hl3 := hm3.look stShape Tryz.underlying56 (zeroI _) (i1, i2) false
        rw [if_neg (by decide), look_put, if_pos rfl] at hl3
        obtain ⟨w4, hst, hm4, hbut4, hsz4⟩ := hslot w3 rfl (v + 1)
        simp only [stV, stA, iV, Option.map_some, Option.getD_some] at hrun hl2 hl3 hst
        have HM4 := Lib.hid hm4
        have hbut5 : But (fun i => i = s + 1 + 1) w2 w4 := (But.of_below (w := w2) (w' := w2.drew) (Below.refl _ _).drew).trans (hbut3.trans hbut4 fun i hi _ => hi) fun i hi _ => hi
        have HB5 := Lib.hid hbut5
        have HL2 := Lib.hid l2
        have HV := Lib.hid hv
        clear hm3 hm4 hbut3 hbut4 hslot l12 l13 l2 hv hv2 hnum hbut5 hsz3 hsz4
        go_region
        have h0 := (HB5.out.block _ (by have := heap_lt p0; omega) (by omega)).trans p0
        have h3 := (HB5.out.block _ (by have := heap_lt p3; omega) (by omega)).trans p3
        have hD := (HB5.out.block _ (by have := heap_lt pD; omega) (by omega)).trans pD
        have hKK := HK2.out.kept (HB5.out.block _ (by have := HK2.out.lt; omega) (by omega))
        have hBB := hB2.trans (HB5.out.below (fun i hi => by omega) hB2.size)
        have HSt : Hid (∀ id, (lookL (((i1, i2), v + 1) :: offL L (i1, i2)) id).getD 0 = (linksE (E.take (k + 1)) id : Int)) := fun id => by
          rw [look_put, HSn.out id]
          by_cases hid : ((i1, i2) : St) = id
          · rw [if_pos hid, if_pos hid, Option.getD_some, HV.out, hid]
          · rw [if_neg hid, if_neg hid, HL2.out id]
            omega
        clear hrun hl2 hl3 hst e0 e1 e2 e3 e4 c3 t9 p0 p3 pD
        go_wp2_with fail
        go_roundg (gk - 1)
        case measure => omega
        case rel => exact ⟨k + 1, by go_num, by omega, by omega, hKK, ⟨_, HM4.out, HSt.out⟩, h0, h3, hD, hBB⟩
      · obtain ⟨L, l1, l2⟩ := hLs.out
        have HLk : Hid (Looked wr (s + 1) (s + 1 + 1) N E) := ⟨⟨K, hKs.out, hkK.out⟩, ⟨L, l1, fun id => by rw [l2 id, List.take_of_length_le (by omega)]⟩⟩
        clear hLs l1 l2
        obtain ⟨c0, c1, c2, c3⟩ := lists_cells q3
        have f0 := frozen_of_row _ _ 0 _ _ q0
        have f1 := frozen_of_row _ _ 1 _ _ q0
        have f2 := frozen_of_row _ _ 2 _ _ q0
        have f3 := frozen_of_row _ _ 3 _ _ q0
        have z0 := cell_of_row _ _ 0 _ _ (0, 0) q0
        have z1 := cell_of_row _ _ 1 _ _ (0, 0) q0
        have z2 := cell_of_row _ _ 2 _ _ (0, 0) q0
        have z3 := cell_of_row _ _ 3 _ _ (0, 0) q0
        go_wp2_with fail
        have hbut : But (fun i => i = s) wr ((((wr.setCell ⟨s, 0, none⟩ (.slice A n c)).setCell ⟨s, 1, none⟩ (.slice A' m d)).setCell ⟨s, 2, none⟩ (.map (some (s + 1)))).setCell ⟨s, 3, none⟩ (.map (some (s + 1 + 1)))) :=
          but_four wr s _ _ _ _
        have h4 : ((((wr.setCell ⟨s, 0, none⟩ (.slice A n c)).setCell ⟨s, 1, none⟩ (.slice A' m d)).setCell ⟨s, 2, none⟩ (.map (some (s + 1)))).setCell ⟨s, 3, none⟩ (.map (some (s + 1 + 1)))).heap[s]? = some (.cells #[.slice A n c, .slice A' m d, .map (some (s + 1)), .map (some (s + 1 + 1))] 58 (0, 0)) := four_put q0 _ _ _ _
        generalize ((((wr.setCell ⟨s, 0, none⟩ (.slice A n c)).setCell ⟨s, 1, none⟩ (.slice A' m d)).setCell ⟨s, 2, none⟩ (.map (some (s + 1)))).setCell ⟨s, 3, none⟩ (.map (some (s + 1 + 1)))) = w4 at hbut h4 ⊢
        have hD4 := hbut.heap qD (by omega)
        have hb4 := hB.out.trans (hbut.below (fun i hi => by omega) hB.out.size)
        have hk4 := HLk.out.kept (W' := w4) (hbut.block _ HLk.out.lt.1 (by omega)) (hbut.block _ HLk.out.lt.2 (by omega))
        have hb5 := belowK_b (n₀ := w.heap.size) (w := w) (Nat.le_refl _) w4 D _ (.deferred none) (by omega) hD4 rfl rfl
        have hlow4 := heap_lt hD4
        have hDk := hb4.size
        have h5 : (w4.putObj D (.deferred none)).heap[s]? = _ := (World.putObj_heap_other (by omega)).trans h4
        have hk5 := hk4.kept (W' := w4.putObj D (.deferred none)) (World.putObj_heap_other (by omega)) (World.putObj_heap_other (by omega))
        obtain ⟨y0, y1, y2, y3⟩ := lists_cells h5
        refine ⟨by simp, .inl ⟨_, _, rfl, run_takeDeferred hD4, ?_⟩⟩
        exact ⟨.agg #[.slice A n c, .slice A' m d, .map (some (s + 1)), .map (some (s + 1 + 1))], by simp [results, Tryz.results25, go_sem, y0, y1, y2, y3], s + 1, s + 1 + 1, rfl, hk5, hb4.trans hb5⟩
  case stop =>
    rintro D c pre W _ _ h _
    exact h.elim
end

end Go.Proofs.YtoobmkkmomiigaaGreat

/-
  The landed audit's reached: which Ids are reached, each once, as they are come to.
-/
namespace Go.Proofs.YtoobmkkmomiigaaGreat
open Go.RowKit StampMath GraphMath OpMath

abbrev slV (v : Value) : Value := v
def unV (_ : Unit) : Value := .agg #[]
theorem zeroSl (w : World) : (zeroValue 22).run Tryz.prog w = .ok (slV (.slice none 0 0)) w := by kernel_rfl
theorem zeroUn (w : World) : (zeroValue 98).run Tryz.prog w = .ok (unV ()) w := by kernel_rfl
theorem st_infos : (Tryz.prog.info? 31).map (fun i => (i.zero, i.size, i.bytes)) = some (some (.agg #[.int .i64 0, .int .i64 0]), 2, 16) := by kernel_rfl
theorem st_one2 (x : St) : ∀ u ∈ (stA x).toList, u.oneCell' = true := by
  intro u hu
  simp [stA] at hu
  rcases hu with rfl | rfl <;> rfl

/-- The slice that stands at a key. -/
def valM (M : List (St × Value)) (s : St) : Value := (lookL M s).getD (.slice none 0 0)

/-- In the map lies what is right below each Id. -/
structure BelowI (W : World) (bB base : Nat) (N : List Ino) (E : List Ent) (M : List (St × Value)) : Prop where
  map : KMap stV slV W bB M
  rows : ∀ s, W.ownsRow base 31 2 (valM M s) (belowL N E s).length (flat ((belowL N E s).map stA))
  apart : ∀ s t b, (valM M s).ownBlock = some b → (valM M t).ownBlock = some b → s = t

theorem BelowI.below {W W' : World} {bB base : Nat} {N : List Ino} {E : List Ent} {M : List (St × Value)} (h : BelowI W bB base N E M) (hb : Below W.heap.size W W') : BelowI W' bB base N E M :=
  ⟨h.map.kept (hb.block _ h.map.lt), fun s => own_call (h.rows s) hb, h.apart⟩

/-- One more entry that doesn't lead anywhere. -/
theorem BelowI.same {W : World} {bB base : Nat} {N : List Ino} {E E' : List Ent} {M : List (St × Value)} (h : BelowI W bB base N E M) (he : ∀ s, belowL N E' s = belowL N E s) : BelowI W bB base N E' M :=
  ⟨h.map, fun s => by rw [he]; exact h.rows s, h.apart⟩

theorem BelowI.new {W : World} {bB base : Nat} {N : List Ino} (h : W.heap[bB]? = some (.map #[] 0)) : BelowI W bB base N [] [] :=
  ⟨⟨#[], 0, [], h, MapKept.stamped_empty 0, rfl, List.Perm.nil⟩, fun _ => World.ownsRow_nil _ _ _ _, fun _ _ _ h => by cases h⟩

theorem valM_put (M : List (St × Value)) (k : St) (v : Value) (s : St) : valM ((k, v) :: offL M k) s = if k = s then v else valM M s := by
  unfold valM
  rw [look_put]
  by_cases h : k = s <;> simp [h]

theorem flat_st (F : List St) (x : St) : flat (F.map stA) ++ (stA x).toList = flat ((F ++ [x]).map stA) := by simp [flat]

theorem grown_but {w w' : World} {b : Nat} (hb : But (fun i => i = b) w w') : w.grownBy w' (some b) := ⟨hb.os, hb.tape, hb.output, hb.size, fun i hi hn => hb.block i hi fun q => hn (by rw [q])⟩

/-- A row is kept through a write to another block. -/
theorem own_off {w w' : World} {base : Nat} {e : TypeId} {k : Nat} {v : Value} {n : Nat} {xs : List Value} (h : w.ownsRow base e k v n xs) {b : Nat} (hb : But (fun i => i = b) w w') (hne : ∀ j, v.ownBlock = some j → j ≠ b) : w'.ownsRow base e k v n xs :=
  h.kept (grown_but hb) (by
    cases hv : v.ownBlock with
    | none => exact .inl rfl
    | some j => exact .inr fun q => by cases q; exact hne _ hv rfl)

/-- One more entry that leads from a directory to an inode. -/
theorem BelowI.put {W W1 W2 W3 : World} {bB base : Nat} {N : List Ino} {E E' : List Ent} {M : List (St × Value)} {key ino : St} {v' : Value} (h : BelowI W bB base N E M) (hbase : bB < base)
    (he : ∀ s, belowL N E' s = belowL N E s ++ if key = s then [ino] else [])
    (h1 : But (fun i => i = bB) W W1) (h2 : W1.grownBy W2 (valM M key).ownBlock) (h3 : But (fun i => i = bB) W2 W3) (hm : KMap stV slV W3 bB ((key, v') :: offL M key))
    (hown : W2.ownsRow base 31 2 v' ((belowL N E key).length + 1) (flat ((belowL N E key).map stA) ++ (stA ino).toList)) (hat : v'.ownBlock = (valM M key).ownBlock ∨ v'.ownBlock = some W1.heap.size) : BelowI W3 bB base N E' ((key, v') :: offL M key) := by
  have hlow : ∀ s j, (valM M s).ownBlock = some j → base ≤ j ∧ j < W.heap.size := fun s j hj => (h.rows s).lt j hj
  refine ⟨hm, fun s => ?_, fun s t b hs ht => ?_⟩
  · rw [valM_put, he]
    by_cases hk : key = s
    · subst hk
      rw [if_pos rfl, if_pos rfl, List.length_append, ← flat_st]
      exact own_off hown h3 fun j hj => by have := (hown.lt j hj).1; omega
    · rw [if_neg hk, if_neg hk, List.append_nil]
      have r1 := own_off (h.rows s) h1 fun j hj => by have := (hlow s j hj).1; omega
      have r2 := r1.kept h2 (by
        cases hv : (valM M s).ownBlock with
        | none => exact .inl rfl
        | some j => exact .inr fun q => hk (h.apart key s j q.symm hv))
      exact own_off r2 h3 fun j hj => by have := (hlow s j hj).1; omega
  · rw [valM_put] at hs ht
    by_cases hks : key = s
    · by_cases hkt : key = t
      · rw [← hks, hkt]
      · rw [if_pos hks] at hs
        rw [if_neg hkt] at ht
        rcases hat with q | q
        · rw [hs] at q
          exact absurd (h.apart key t b q.symm ht) hkt
        · rw [hs] at q
          cases q
          have := (hlow t _ ht).2
          have := h1.size
          omega
    · rw [if_neg hks] at hs
      by_cases hkt : key = t
      · rw [if_pos hkt] at ht
        rcases hat with q | q
        · rw [ht] at q
          exact absurd (h.apart key s b q.symm hs) hks
        · rw [ht] at q
          cases q
          have := (hlow s _ hs).2
          have := h1.size
          omega
      · rw [if_neg hkt] at ht
        exact h.apart s t b hs ht

/-- A row of the call's own is no map. -/
theorem own_no_map {K V : Type} {ek : K → Value} {ev : V → Value} {w : World} {base : Nat} {e : TypeId} {k : Nat} {v : Value} {n : Nat} {xs : List Value} (h : w.ownsRow base e k v n xs) {b : Nat} {L : List (K × V)} (hm : KMap ek ev w b L) : ∀ j, v.ownBlock = some j → j ≠ b := by
  intro j hj hjb
  subst hjb
  obtain ⟨es, cl, M, q1, _⟩ := hm
  rcases h.2 with ⟨rfl, _⟩ | ⟨g, cap, cur, rfl, _, hg, _⟩
  · cases hj
  · cases hj
    rw [q1] at hg
    cases hg

theorem take_mem {α : Type} {L : List α} {j : Nat} (hj : j < L.length) {t : α} (h : t ∈ L.take (j + 1)) : t ∈ L.take j ∨ t = L[j] := by
  rw [List.take_succ_eq_append_getElem hj] at h
  rcases List.mem_append.1 h with h | h
  · exact .inl h
  · exact .inr (List.mem_singleton.1 h)

set_option maxRecDepth 100000 in
set_option maxHeartbeats 4000000 in
theorem reached_code (A A' : Option Addr) (n c m d bk bl : Nat) (N : List Ino) (E : List Ent) (w : World) (h : Given w A n N A' m E) (hL : Looked w bk bl N E) :
    Calls Tryz.prog 52 #[.agg #[.slice A n c, .slice A' m d, .map (some bk), .map (some bl)]] w fun e w' => ∃ (v : Value) (F : List St), e = .returned v ∧ F.Nodup ∧ (∀ s, s ∈ F ↔ Reached N E s) ∧ w'.ownsRow w.heap.size 31 2 v F.length (flat (F.map stA)) ∧ Below w.heap.size w w' := by
  have hm := h.fewE
  have hn := h.fewI
  have hE := h.ents.len
  have hNl := h.inos.len
  have HG := Lib.hid h
  have HL := Lib.hid hL
  obtain ⟨i0, hi0, hz0, hz1, hz2⟩ := info_parts st_infos
  have hb0 : Below w.heap.size w (w.alloc (.cells #[.slice A n c, .slice A' m d, .map (some bk), .map (some bl)] 58)) := (Below.refl _ _).alloc (Nat.le_refl _) _
  have he0 := heap_alloc_new w (.cells #[.slice A n c, .slice A' m d, .map (some bk), .map (some bl)] 58)
  clear h hL
  go_enter Tryz.func52, Tryz.ntmps52
  go_upto_region 1 with fail
  have hs0 : ∃ s, s = w.heap.size := ⟨_, rfl⟩
  obtain ⟨s, hs⟩ := hs0
  rw [← hs] at he0 ⊢
  have hws : w.heap.size ≤ s := Nat.le_of_eq hs.symm
  clear hs
  generalize w.alloc (.cells #[.slice A n c, .slice A' m d, .map (some bk), .map (some bl)] 58) = w1 at he0 hb0 ⊢
  have HB0 := Lib.hid hb0
  have HE0 := Lib.hid he0
  obtain ⟨b, hb⟩ : ∃ b, b = (kindI N (0, 0)).isSome := ⟨_, rfl⟩
  have HRl : Hid (∀ y, Calls Tryz.prog 42 #[] (later w1 y) fun e w' => e = .returned (.agg #[.int .i64 0, .int .i64 0]) ∧ ∃ z, w' = later w1 z) := fun y => later_call (auRoot_code _)
  have HHl : Hid (∀ y, Calls Tryz.prog 48 #[.agg #[.slice A n c, .slice A' m d, .map (some bk), .map (some bl)], .agg #[.int .i64 0, .int .i64 0]] (later w1 y) fun e w' => e = .returned (.bool b) ∧ ∃ z, w' = later w1 z) := fun y => later_call (by rw [hb]; exact has_code A A' n c m d bk bl N E (0, 0) _ (HL.out.below (below_step HB0.out (later_below w1 y))))
  obtain ⟨c0, c1, c2, c3⟩ := lists_cells he0
  have l0 := later_cell c0
  have l1 := later_cell c1
  have l2 := later_cell c2
  have l3 := later_cell c3
  have HBb := Lib.hid hb
  clear c0 c1 c2 c3 he0 hb0 hb
  cases b with
  | false =>
    have hno : Hid (∀ s, ¬ Reached N E s) := fun s => reached_none (by
      have := HBb.out
      cases hk : kindI N (0, 0) with
      | none => rfl
      | some _ => rw [hk] at this; cases this)
    refine wp_region_later (by kernel_rfl) (by kernel_rfl) ?_
    repeat (go_big_quiet_step (first | (with_reducible exact HRl.out _) | (with_reducible exact HHl.out _)))
    refine wpQuiet_nil ?_
    intro _ hw'
    obtain ⟨y, rfl⟩ := hw'
    clear l0 l1 l2 l3
    go_wp2_with fail
    go_ret
    exact ⟨_, [], rfl, List.nodup_nil, (fun s => ⟨(fun q => by cases q), fun q => absurd q (hno.out s)⟩), World.ownsRow_nil _ _ _ _, below_step HB0.out (later_below w1 y)⟩
  | true =>
    have hrt : Hid (Reached N E (0, 0)) := reached_root HBb.out.symm
    refine wp_region_later (by kernel_rfl) (by kernel_rfl) ?_
    repeat (go_big_quiet_step (first | (with_reducible exact HRl.out _) | (with_reducible exact HHl.out _)))
    refine wpQuiet_nil ?_
    intro _ hw'
    obtain ⟨y, rfl⟩ := hw'
    clear l0 l1 l2 l3 HRl HHl
    have HB1 := Lib.hid (below_step HB0.out (later_below w1 y))
    have he1 := ((later_below w1 y).block _ (heap_lt HE0.out)).trans HE0.out
    generalize later w1 y = w2 at HB1 he1 ⊢
    clear HE0 HB0 HBb
    have hmk : ∀ W : World, (Instr.makeMap 97 none).run Tryz.prog W = .ok (.map (some W.heap.size)) (W.alloc (.map #[] 0)) := fun _ => rfl
    obtain ⟨c0, c1, c2, c3⟩ := lists_cells he1
    obtain ⟨z, hz⟩ : ∃ z, z = w2.heap.size := ⟨_, rfl⟩
    have hzm : (w2.alloc (.map #[] 0)).heap[z]? = some (.map #[] 0) := by rw [hz]; exact heap_alloc_new _ _
    have hsz : s < z := by rw [hz]; exact heap_lt he1
    have he2 := (heap_alloc_old w2 (.map #[] 0) (heap_lt he1)).trans he1
    have hB2 := Lib.hid (HB1.out.alloc HB1.out.size (.map #[] 0))
    have hz3 : (w2.alloc (.map #[] 0)).heap.size = z + 1 := by simp [hz]
    have cc1 := cell_of_row _ _ 1 _ _ (0, 0) he2
    go_upto_region 4 with fail
    rw [← hz]
    have HZ := Lib.hid hz
    clear hmk hz c0 c1 c2 c3
    generalize w2.alloc (.map #[] 0) = w3 at hzm he2 hB2 hz3 cc1 ⊢
    have hI0 : BelowI w3 z (z + 1) N (E.take 0) [] := BelowI.new hzm
    go_wp2_with fail
    go_loopg [21] (m + 1) (fun gk i wr => ∃ (k : Nat) (M : List (St × Value)), i = .int .i64 (k : Int) ∧ gk + k = m + 1 ∧ k ≤ m ∧ Hid (BelowI wr z (z + 1) N (E.take k) M) ∧ wr.heap[s]? = some (.cells #[.slice A n c, .slice A' m d, .map (some bk), .map (some bl)] 58 (0, 0)) ∧ Hid (Below w.heap.size w wr) ∧ z + 1 ≤ wr.heap.size)
    case atStart => exact ⟨0, [], rfl, by omega, by omega, hI0, he2, hB2, by omega⟩
    case round =>
      obtain ⟨k, M, rfl, hgk, hk, hI, hq, hB, hlow⟩ := hrel
      clear hI0 he2 hB2 hz3 hzm he1 HB1 HZ cc1
      by_cases hlt : k < m
      · obtain ⟨g, o, rfl, hg, hrow⟩ := HG.out.ents.row (by omega)
        obtain ⟨e0, e1, e2, e3, e4⟩ := (hrow k (by omega)).below hB.out hg
        clear hrow
        have hsn := fun t => belowL_snoc N E k (by omega) t
        have HD : Hid (∀ W : World, Below w.heap.size w W → Calls Tryz.prog 41 #[.agg #[.slice A n c, .slice (some ⟨g, o, none⟩) m d, .map (some bk), .map (some bl)], .agg #[.int .i64 E[k].dir.1, .int .i64 E[k].dir.2]] W fun e w' => e = .returned (.bool (decide (kindI N E[k].dir = some 1))) ∧ Below W.heap.size W w') := fun W hW => isDir_code A (some ⟨g, o, none⟩) n c m d bk bl N E E[k].dir W (HL.out.below hW)
        have HH : Hid (∀ W : World, Below w.heap.size w W → Calls Tryz.prog 48 #[.agg #[.slice A n c, .slice (some ⟨g, o, none⟩) m d, .map (some bk), .map (some bl)], .agg #[.int .i64 E[k].ino.1, .int .i64 E[k].ino.2]] W fun e w' => e = .returned (.bool (kindI N E[k].ino).isSome) ∧ Below W.heap.size W w') := fun W hW => has_code A (some ⟨g, o, none⟩) n c m d bk bl N E E[k].ino W (HL.out.below hW)
        have hlen := fun t => belowL_len N (E.take k) t
        simp only [List.length_take] at hlen
        have HLen := Lib.hid hlen
        obtain ⟨x, hx⟩ : ∃ x, x = E[k] := ⟨_, rfl⟩
        rw [← hx] at e0 e1 e2 e3 e4 HD HH
        simp only [← hx] at hsn
        unfold okE at hsn
        generalize decide (kindI N x.dir = some 1) = p at HD hsn
        generalize (kindI N x.ino).isSome = r at HH hsn
        clear hx hlen
        obtain ⟨⟨d1, d2⟩, nm, ⟨i1, i2⟩⟩ := x
        dsimp only at e0 e1 e2 e3 e4 HD HH hsn
        have HSn := Lib.hid hsn
        clear hsn
        obtain ⟨c0, c1, c2, c3⟩ := lists_cells hq
        go_upto_region 7 with fail
        change Code.wp _ _ _ _ (wr.alloc (.cells (entA ⟨(d1, d2), nm, (i1, i2)⟩) 34))
        obtain ⟨u, hu⟩ : ∃ u, u = wr.heap.size := ⟨_, rfl⟩
        have t5 : (wr.alloc (.cells (entA ⟨(d1, d2), nm, (i1, i2)⟩) 34)).heap[u]? = some (.cells (entA ⟨(d1, d2), nm, (i1, i2)⟩) 34 (0, 0)) := by rw [hu]; exact heap_alloc_new _ _
        have hbA : Below wr.heap.size wr (wr.alloc (.cells (entA ⟨(d1, d2), nm, (i1, i2)⟩) 34)) := (Below.refl _ _).alloc (Nat.le_refl _) _
        rw [← hu]
        generalize wr.alloc (.cells (entA ⟨(d1, d2), nm, (i1, i2)⟩) 34) = w4 at t5 hbA ⊢
        have hI4 := Lib.hid (hI.out.below hbA)
        have hq4 := (hbA.block _ (heap_lt hq)).trans hq
        have hB4 := below_step hB.out hbA
        have hz4 := hbA.size
        have huz : z + 1 ≤ u := by omega
        clear hu hI hB hbA hq c0 c1 c2 c3 e0 e1 e2 e3 e4
        obtain ⟨c0, c1, c2, c3⟩ := lists_cells hq4
        obtain ⟨e0, e1, e2, e3, e4⟩ := ent_cells t5
        go_wp2_with fail
        refine (HD.out _ hB4).mono ?_
        rintro e w5 ⟨rfl, hb5⟩
        have hI5 := Lib.hid (hI4.out.below hb5)
        have hq5 := (hb5.block _ (heap_lt hq4)).trans hq4
        have t55 := (hb5.block _ (heap_lt t5)).trans t5
        have hB5 := below_step hB4 hb5
        have hz5 := hb5.size
        clear hI4 hq4 t5 hB4 hb5 c0 c1 c2 c3 e0 e1 e2 e3 e4 HD
        obtain ⟨c0, c1, c2, c3⟩ := lists_cells hq5
        obtain ⟨e0, e1, e2, e3, e4⟩ := ent_cells t55
        cases p with
        | false =>
          go_wp2_with fail
          go_roundg (gk - 1)
          case measure => omega
          case rel => exact ⟨k + 1, M, by go_num, by omega, by omega, hI5.out.same (fun t => by rw [HSn.out t, if_neg (by simp), List.append_nil]), hq5, hB5, by omega⟩
        | true =>
          go_wp2_with fail
          refine (HH.out _ hB5).mono ?_
          rintro e w6 ⟨rfl, hb6⟩
          have hI6 := Lib.hid (hI5.out.below hb6)
          have hq6 := (hb6.block _ (heap_lt hq5)).trans hq5
          have t56 := (hb6.block _ (heap_lt t55)).trans t55
          have hB6 := below_step hB5 hb6
          have hz6 := hb6.size
          clear hI5 hq5 t55 hB5 hb6 c0 c1 c2 c3 e0 e1 e2 e3 e4 HH
          obtain ⟨e0, e1, e2, e3, e4⟩ := ent_cells t56
          cases r with
          | false =>
            go_wp2_with fail
            go_roundg (gk - 1)
            case measure => omega
            case rel => exact ⟨k + 1, M, by go_num, by omega, by omega, hI6.out.same (fun t => by rw [HSn.out t, if_neg (by simp), List.append_nil]), hq6, hB6, by omega⟩
          | true =>
            have hbA : Below w6.heap.size w6 (w6.alloc (.cells #[.int .i64 i1, .int .i64 i2] 31)) := (Below.refl _ _).alloc (Nat.le_refl _) _
            have HIA := Lib.hid (hI6.out.below hbA)
            have HNW := Lib.hid (row_there w6 31 (stA (i1, i2)))
            have hl1 := HLen.out (d1, d2)
            have hm1 : (belowL N (E.take k) (d1, d2)).length + 1 ≤ maxLen := by unfold maxLen; omega
            have hm2 : ((belowL N (E.take k) (d1, d2)).length + 1) * 16 ≤ 140737488355328 := by omega
            go_wp2_with (first
              | (refine wpList_k_entry stShape (by rfl) (.tmp 35) (.tmp 37) _ (by rfl) Tryz.underlying97 (.slice none 0 0) zeroSl z M (by rfl) HIA.out.map (d1, d2) (by rfl) ?_; intro v0 st w8 hv0 HM8 HU8 HS8 HSl8; have hs8 := HS8.out; have hown8 : w8.ownsRow (z + 1) 31 2 v0 (belowL N (E.take k) (d1, d2)).length (flat ((belowL N (E.take k) (d1, d2)).map stA)) := (by rw [hv0]; exact own_off (HIA.out.rows (d1, d2)) HU8.out (fun j hj => by have := ((HIA.out.rows (d1, d2)).lt j hj).1; omega)); have HVV : Hid (valM M (d1, d2) = v0) := hv0.symm; clear hv0)
              | (at_builtin; refine wpList_append_own_at _ (by rfl) (.tmp 38) (.tmp 41) 22 (by rfl) (z + 1) 31 i0 _ 2 16 Tryz.underlying22 hi0 hz0 hz1 hz2 (by rfl) (by decide) v0 _ _ (by rfl) hown8 ⟨w6.heap.size, 0, none⟩ 1 1 (stA (i1, i2)).toList (by rfl) (by rfl) (fun j u hj => by have q := HNW.out j u hj; rw [tab_add] at q ⊢; exact HU8.out.cell q (fun q2 => by dsimp only at q2; omega)) (st_one2 _) hm1 hm2 (by simp at hs8; omega) ?_; intro v2 w9 hown9 hg9 _ hat9; have HW9 : Hid (w9.heap[z]? = w8.heap[z]?) := hg9.block z (by simp at hs8; omega) (fun q => by have := (hown8.lt z q.symm).1; omega))
              | (refine wpList_k_entryStore (by rfl) (.tmp 35) (.tmp 44) (.tmp 43) _ (by rfl) z M (by rfl) (d1, d2) st w8 HSl8.out HW9.out (by rfl) v2 (by rfl) ?_; intro w10 HM10 HU10 HS10))
            have hat : v2.ownBlock = (valM M (d1, d2)).ownBlock ∨ v2.ownBlock = some w8.heap.size := by rw [HVV.out]; exact hat9
            have hg8 : w8.grownBy w9 (valM M (d1, d2)).ownBlock := by rw [HVV.out]; exact hg9
            have hsA : (w6.alloc (.cells #[.int .i64 i1, .int .i64 i2] 31)).heap.size = w6.heap.size + 1 := by simp
            have hI10 := Lib.hid (HIA.out.put (E' := E.take (k + 1)) (by omega) (fun t => by
              rw [HSn.out t]
              by_cases ht : ((d1, d2) : St) = t
              · rw [if_pos ⟨rfl, ht⟩, if_pos ht]
              · rw [if_neg (fun q => ht q.2), if_neg ht]) HU8.out hg8 HU10.out HM10.out hown9 hat)
            have hBA := hB6.alloc hB6.size (.cells #[.int .i64 i1, .int .i64 i2] 31)
            have hB8 := hBA.trans (HU8.out.below (fun i hi => by omega) hBA.size)
            have hB9 := hB8.grown hg9 hB8.size (fun q hq => by have := (hown8.lt q hq).1; omega)
            have hB10 := Lib.hid (hB9.trans (HU10.out.below (fun i hi => by omega) hB9.size))
            have hz9 := hg9.size
            have hz10 := HU10.out.size
            have hq8 := HU8.out.heap ((heap_alloc_old w6 (.cells #[.int .i64 i1, .int .i64 i2] 31) (heap_lt hq6)).trans hq6) (by omega)
            have hq9 := (hg9.block s (heap_lt hq8) (fun q => by have := (hown8.lt s q.symm).1; omega)).trans hq8
            have hq10 := HU10.out.heap hq9 (by omega)
            have hs10 : z + 1 ≤ w10.heap.size := by omega
            clear hown8 hown9 hg9 hg8 hat9 hat HM8 HSl8 HU8 HM10 HU10 hBA hB8 hB9 hq6 hq8 hq9 hB6 hI6 HIA HNW e0 e1 e2 e3 e4
            go_roundg (gk - 1)
            case measure => omega
            case rel => exact ⟨k + 1, _, by go_num, by omega, by omega, hI10.out, hq10, hB10.out, hs10⟩
      · obtain ⟨wb, hwb⟩ : ∃ x, x = wr := ⟨_, rfl⟩
        subst hwb
        have hIE : BelowI wb z (z + 1) N E M := by have := hI.out; rwa [List.take_of_length_le (by omega)] at this
        have HIE := Lib.hid hIE
        obtain ⟨c0, c1, c2, c3⟩ := lists_cells hq
        clear hIE hI
        go_wp2_with fail
        refine (auRoot_code _).mono ?_
        rintro e w4 ⟨rfl, hb4⟩
        have hmk : ∀ W : World, (Instr.makeMap 99 none).run Tryz.prog W = .ok (.map (some W.heap.size)) (W.alloc (.map #[] 0)) := fun _ => rfl
        obtain ⟨u, hu⟩ : ∃ u, u = w4.heap.size := ⟨_, rfl⟩
        have hur : wb.heap.size ≤ u := by rw [hu]; exact hb4.size
        have ho0 : ((w4.alloc (.cells #[.int .i64 0, .int .i64 0] 31)).alloc (.map #[] 0)).ownsRow wb.heap.size 31 2 (.slice (some ⟨u, 0, none⟩) 1 1) 1 (flat ([((0, 0) : St)].map stA)) := by
          rw [hu]
          exact (World.ownsRow_lit w4 #[.int .i64 0, .int .i64 0] 1 (by omega) (by decide) rfl).alloc _
        have hm0 : ((w4.alloc (.cells #[.int .i64 0, .int .i64 0] 31)).alloc (.map #[] 0)).heap[u + 1]? = some (.map #[] 0) := by rw [hu]; exact heap_alloc2_new w4 _ _
        have hb5 : Below wb.heap.size wb ((w4.alloc (.cells #[.int .i64 0, .int .i64 0] 31)).alloc (.map #[] 0)) := (hb4.alloc hb4.size _).alloc (by simp; omega) _
        have HU := Lib.hid hu
        clear c0 c1 c2 c3 hu
        go_wp2_with fail
        rw [← HU.out]
        generalize ((w4.alloc (.cells #[.int .i64 0, .int .i64 0] 31)).alloc (.map #[] 0)) = w5 at ho0 hm0 hb5 ⊢
        clear HU hmk
        refine (auRoot_code _).mono ?_
        rintro e w6 ⟨rfl, hb6⟩
        have hm6 : KMap stV unV w6 (u + 1) ([] : List (St × Unit)) := ⟨#[], 0, [], (hb6.block _ (heap_lt hm0)).trans hm0, MapKept.stamped_empty 0, rfl, List.Perm.nil⟩
        have ho6 := own_call ho0 hb6
        have hb7 := below_step hb5 hb6
        obtain ⟨w7, hrun, hm7, hbut7, hsz7⟩ := hm6.store stShape Tryz.underlying99 (0, 0) ()
        simp only [stV, stA, unV] at hrun
        have ho7 := own_off ho6 hbut7 (fun j hj => by
          intro e
          subst e
          cases hj)
        have hb8 := Lib.hid (hb7.trans (hbut7.below (fun i hi => by omega) hb7.size))
        have HM7 := Lib.hid hm7
        have HO7 := Lib.hid ho7
        clear ho0 hm0 hb5 hb6 hm6 ho6 hb7 hm7 hbut7 hsz7 ho7
        go_wp2_with fail
        clear hrun
        have hrow0 := fun t => sts_own rfl (HIE.out.rows t)
        have HRow : Hid (∀ t, ∃ (A : Option Addr) (c : Nat), valM M t = .slice A (belowL N E t).length c ∧ StsIn wb wb.heap.size A (belowL N E t).length (belowL N E t)) := fun t => by
          obtain ⟨A, c, q1, q2, _⟩ := hrow0 t
          exact ⟨A, c, q1, q2⟩
        have hzr : z < wb.heap.size := by omega
        clear hrow0
        go_loopg [6, 8] (N.length + 1) (fun gp v i wq => ∃ (F : List St) (SF : List (St × Unit)) (q : Nat), i = .int .i64 (q : Int) ∧ gp + q = N.length + 1 ∧ q ≤ F.length ∧
          Hid (F.Nodup ∧ (∀ t ∈ F, Reached N E t) ∧ (0, 0) ∈ F ∧ ∀ j (hj : j < F.length), j < q → ∀ t ∈ belowL N E F[j], t ∈ F) ∧ Hid (KMap stV unV wq (u + 1) SF) ∧ Hid (∀ t, (lookL SF t).isSome = decide (t ∈ F)) ∧
          wq.ownsRow wb.heap.size 31 2 v F.length (flat (F.map stA)) ∧ Hid (Below wb.heap.size wb wq))
        case atStart =>
          refine ⟨[(0, 0)], _, 0, rfl, by omega, by simp, ⟨by simp, ?_, by simp, fun j hj q => by omega⟩, HM7, fun t => ?_, HO7.out, hb8⟩
          · intro t ht
            rw [List.mem_singleton.1 ht]
            exact hrt.out
          · rw [look_put]
            by_cases ht : ((0, 0) : St) = t
            · rw [if_pos ht, ← ht]
              simp
            · rw [if_neg ht]
              have : ¬ t = (0, 0) := fun q => ht q.symm
              simp [lookL, this]
        case round =>
          obtain ⟨F, SF, q, rfl, hgp, hqF, hF, hS, hSl, hown, hBq⟩ := hrel
          obtain ⟨wq, hwq⟩ : ∃ x, x = wr := ⟨_, rfl⟩
          subst hwq
          obtain ⟨gp, hgpe⟩ : ∃ x, x = gk := ⟨_, rfl⟩
          subst hgpe
          clear HM7 HO7 hb8
          have hFn : F.length ≤ N.length := found_few hF.out.1 hF.out.2.1
          have hFl : F.length ≤ 1000 := by omega
          obtain ⟨Af, cf, rfl, hin, _⟩ := sts_own rfl hown
          by_cases hlt : q < F.length
          · obtain ⟨g, o, rfl, hg, hrowF⟩ := hin.row (by omega)
            obtain ⟨f0, f1⟩ := hrowF q hlt
            have HFq : Hid (F[q] ∈ F) := List.getElem_mem hlt
            have hcl := hF.out.2.2.2
            have hnext : Hid (∀ F' : List St, F <+: F' → (∀ t ∈ belowL N E F[q], t ∈ F') → ∀ j (hj : j < F'.length), j < q + 1 → ∀ t ∈ belowL N E F'[j], t ∈ F') := fun F' hp hl j hj hjq t ht => by
              obtain ⟨G, rfl⟩ := hp
              have hjF : j < F.length := by omega
              rw [List.getElem_append_left hjF] at ht
              by_cases hjq2 : j < q
              · exact List.mem_append_left _ (hcl j hjF hjq2 t ht)
              · obtain rfl : j = q := by omega
                exact hl t ht
            clear hcl hrowF hin
            generalize F[q] = p at f0 f1 HFq hnext
            obtain ⟨Ab, cb, hv, hinL⟩ := HRow.out p
            have hlk : (Instr.lookup 97 (.map (some z)) (.agg #[.int .i64 p.1, .int .i64 p.2]) false).run Tryz.prog wq = .ok (.slice Ab (belowL N E p).length cb) wq := by
              have hl := (HIE.out.map.kept (hBq.out.block _ hzr)).look stShape Tryz.underlying97 (zeroSl wq) p false
              rw [if_neg (by decide), show ((lookL M p).map slV).getD (slV (.slice none 0 0)) = valM M p by unfold valM; cases lookL M p <;> rfl, hv] at hl
              exact hl
            have HRL : Hid (∀ t ∈ belowL N E p, Reached N E t) := fun t ht => belowL_reached (hF.out.2.1 p HFq.out) ht
            have hLl : (belowL N E p).length ≤ 1000 := by have := belowL_len N E p; omega
            generalize belowL N E p = L at hlk HRL hLl hinL hnext
            have HIL := Lib.hid hinL
            clear hv hinL HFq
            go_wp2_with fail
            clear hlk f0 f1
            go_loopg [6, 65] (L.length + 1) (fun gl v i wi => ∃ (F' : List St) (SF' : List (St × Unit)) (j : Nat), i = .int .i64 (j : Int) ∧ gl + j = L.length + 1 ∧ j ≤ L.length ∧
              Hid (F'.Nodup ∧ (∀ t ∈ F', Reached N E t) ∧ F <+: F' ∧ ∀ t ∈ L.take j, t ∈ F') ∧ Hid (KMap stV unV wi (u + 1) SF') ∧ Hid (∀ t, (lookL SF' t).isSome = decide (t ∈ F')) ∧
              wi.ownsRow wb.heap.size 31 2 v F'.length (flat (F'.map stA)) ∧ Hid (Below wb.heap.size wb wi))
            case atStart => exact ⟨F, SF, 0, rfl, by omega, by omega, ⟨hF.out.1, hF.out.2.1, List.prefix_refl _, fun t ht => by cases ht⟩, hS, hSl, hown, hBq⟩
            case round =>
              obtain ⟨F', SF', j, rfl, hgl, hj, hF', hS', hSl', hown', hBi⟩ := hrel
              have hFl' : F'.length ≤ 1000 := by
                have := found_few hF'.out.1 hF'.out.2.1
                omega
              by_cases hjl : j < L.length
              · obtain ⟨ga, oa, rfl, hga, hrowL⟩ := HIL.out.row (by omega)
                obtain ⟨r0, r1⟩ := (hrowL j hjl).below hBi.out hga
                have hRt := HRL.out L[j] (List.getElem_mem hjl)
                have htk : ∀ t, t ∈ L.take (j + 1) → t ∈ L.take j ∨ t = L[j] := fun t => take_mem hjl
                clear hrowL
                generalize L[j] = t at r0 r1 hRt htk
                have HRt := Lib.hid hRt
                have HTk := Lib.hid htk
                have hin' := hSl'.out t
                obtain ⟨b, hb⟩ : ∃ b, b = decide (t ∈ F') := ⟨_, rfl⟩
                rw [← hb] at hin'
                have HBd := Lib.hid hb
                clear hRt htk hb
                obtain ⟨t1, t2⟩ := t
                dsimp only at r0 r1
                go_upto_region 18 with fail
                change Code.wp _ _ _ _ (wr.alloc (.cells (stA (t1, t2)) 31))
                obtain ⟨x, hx⟩ : ∃ x, x = wr.heap.size := ⟨_, rfl⟩
                have hx8 : (wr.alloc (.cells (stA (t1, t2)) 31)).heap[x]? = some (.cells (stA (t1, t2)) 31 (0, 0)) := by rw [hx]; exact heap_alloc_new _ _
                have hbA : Below wr.heap.size wr (wr.alloc (.cells (stA (t1, t2)) 31)) := (Below.refl _ _).alloc (Nat.le_refl _) _
                rw [← hx]
                generalize wr.alloc (.cells (stA (t1, t2)) 31) = w8 at hx8 hbA ⊢
                have hm8 := hS'.out.kept (hbA.block _ hS'.out.lt)
                have ho8 := own_call hown' hbA
                have hb8 := hBi.out.trans (hbA.mono hBi.out.size)
                have hl := hm8.look stShape Tryz.underlying99 (zeroUn w8) (t1, t2) true
                rw [if_pos rfl, show ((lookL SF' (t1, t2)).map unV).getD (unV ()) = .agg #[] by cases lookL SF' (t1, t2) <;> rfl, hin'] at hl
                simp only [stV, stA] at hl
                have HM8 := Lib.hid hm8
                have HB8 := Lib.hid hb8
                obtain ⟨c0, c1⟩ := two_cells hx8
                clear hS' hown' hBi hbA hx hm8 hb8 r0 r1 hin'
                cases b with
                | true =>
                  go_wp2_with fail
                  go_roundg (gk - 1)
                  case measure => omega
                  case rel =>
                    have hin2 : (t1, t2) ∈ F' := of_decide_eq_true HBd.out.symm
                    refine ⟨F', SF', j + 1, by go_num, by omega, by omega, ⟨hF'.out.1, hF'.out.2.1, hF'.out.2.2.1, fun t ht => ?_⟩, HM8.out.kept (heap_alloc_old _ _ HM8.out.lt), hSl', ho8.alloc _, HB8.out.alloc HB8.out.size _⟩
                    rcases HTk.out t ht with h | h
                    · exact hF'.out.2.2.2 t h
                    · rw [h]; exact hin2
                | false =>
                  go_upto_region 19 with fail
                  have hbA : Below w8.heap.size w8 (w8.alloc (.cells #[] 98)) := (Below.refl _ _).alloc (Nat.le_refl _) _
                  have hx9 := (hbA.block _ (heap_lt hx8)).trans hx8
                  have hm9 := HM8.out.kept (hbA.block _ HM8.out.lt)
                  have ho9 := own_call ho8 hbA
                  have hb9 := HB8.out.trans (hbA.mono HB8.out.size)
                  generalize w8.alloc (.cells #[] 98) = w9 at hx9 hm9 ho9 hb9 ⊢
                  clear hl c0 c1 hx8 ho8 hbA HM8 HB8
                  obtain ⟨w10, hrun, hm10, hbut, hsz⟩ := hm9.store stShape Tryz.underlying99 (t1, t2) ()
                  simp only [stV, stA, unV] at hrun
                  have hxu : x ≠ u + 1 := fun q => by
                    obtain ⟨es, cl, M', q1, _⟩ := hm9
                    rw [← q, hx9] at q1
                    cases q1
                  have hx10 := hbut.heap hx9 hxu
                  have ho10 := own_off ho9 hbut (own_no_map ho9 hm9)
                  have hb10 := hb9.trans (hbut.below (fun i hi => by omega) hb9.size)
                  have hno := own_no_map ho10 hm10
                  have hmlt := hm10.lt
                  obtain ⟨c0, c1⟩ := two_cells hx9
                  obtain ⟨d0, d1⟩ := two_cells hx10
                  have HM10 := Lib.hid hm10
                  have HB10 := Lib.hid hb10
                  have hs10 := hb10.size
                  have hm1 : F'.length + 1 ≤ maxLen := by unfold maxLen; omega
                  clear hm9 ho9 hb9 hbut hsz hm10 hb10 hx9 hx10
                  go_wp2_with (at_builtin; refine wpList_append_own _ (by rfl) (.tmp 80) (.tmp 82) 22 (by rfl) wb.heap.size 31 i0 _ 2 16 Tryz.underlying22 hi0 hz0 hz1 hz2 (by rfl) (by decide) _ _ _ (by rfl) (ho10.alloc _) ⟨w10.heap.size, 0, none⟩ 1 1 (stA (t1, t2)).toList (by rfl) (by rfl) (row_there w10 31 (stA (t1, t2))) (st_one2 _) hm1 (by omega) (by simp; omega) ?_; intro v2 w11 hown11 hg11 _)
                  have hown12 : w11.ownsRow wb.heap.size 31 2 v2 (F' ++ [(t1, t2)]).length (flat ((F' ++ [(t1, t2)]).map stA)) := by
                    rw [List.length_append, ← flat_st]
                    exact hown11
                  have hsA : (w10.alloc (.cells #[.int .i64 t1, .int .i64 t2] 31)).heap.size = w10.heap.size + 1 := by simp
                  have hmk : w11.heap[u + 1]? = w10.heap[u + 1]? := (hg11.block (u + 1) (by omega) (fun q => hno _ q.symm rfl)).trans (heap_alloc_old _ _ hmlt)
                  have hm11 := Lib.hid (HM10.out.kept hmk)
                  have hBA := HB10.out.alloc HB10.out.size (.cells #[.int .i64 t1, .int .i64 t2] 31)
                  have hb11 := Lib.hid (hBA.grown hg11 hBA.size (fun q hq => by have := ((ho10.alloc (.cells #[.int .i64 t1, .int .i64 t2] 31)).lt q hq).1; omega))
                  have hno2 : Hid ((t1, t2) ∉ F') := of_decide_eq_false HBd.out.symm
                  clear hown11 hg11 ho10 hrun c0 c1 d0 d1 hno hBA
                  go_roundg (gk - 1)
                  case measure => omega
                  case rel =>
                    refine ⟨F' ++ [(t1, t2)], _, j + 1, by go_num, by omega, by omega, ⟨?_, fun t ht => ?_, hF'.out.2.2.1.trans (List.prefix_append _ _), fun t ht => ?_⟩, hm11, fun t => ?_, hown12, hb11⟩
                    · exact List.nodup_append.2 ⟨hF'.out.1, by simp, fun a ha b hb q => hno2.out (by rw [← List.mem_singleton.1 hb, ← q]; exact ha)⟩
                    · rcases List.mem_append.1 ht with h | h
                      · exact hF'.out.2.1 t h
                      · rw [List.mem_singleton.1 h]; exact HRt.out
                    · rcases HTk.out t ht with h | h
                      · exact List.mem_append_left _ (hF'.out.2.2.2 t h)
                      · rw [h]; simp
                    · rw [look_put]
                      by_cases ht : ((t1, t2) : St) = t
                      · rw [if_pos ht, ← ht]
                        simp
                      · rw [if_neg ht, hSl'.out t]
                        have : ¬ t = (t1, t2) := fun q => ht q.symm
                        simp [this]
              · go_wp2_with fail
                have hpl := hF'.out.2.2.1.length_le
                go_roundg (gp - 1)
                case measure => omega
                case rel =>
                  refine ⟨F', SF', q + 1, by go_num, by omega, by omega, ⟨hF'.out.1, hF'.out.2.1, hF'.out.2.2.1.subset hF.out.2.2.1, hnext.out F' hF'.out.2.2.1 fun t ht => hF'.out.2.2.2 t ?_⟩, hS', hSl', hown', hBi⟩
                  rw [List.take_of_length_le (by omega)]
                  exact ht
          · go_wp2_with fail
            go_ret
            refine ⟨_, F, rfl, hF.out.1, fun t => ⟨hF.out.2.1 t, fun hr => reached_closed hF.out.2.2.1 (fun s hs t ht => ?_) hr⟩, own_lower hown hB.out.size, hB.out.trans (hBq.out.mono hB.out.size)⟩
            obtain ⟨j, hj, rfl⟩ := List.getElem_of_mem hs
            exact hF.out.2.2.2 j hj (by omega) t ht

end Go.Proofs.YtoobmkkmomiigaaGreat

/-
  The library's IndexFunc and ContainsFunc, at each closure of audit's that comes to them (made by gen_auditidx.py).
-/
namespace Go.Proofs.YtoobmkkmomiigaaGreat
open Go.RowKit StampMath GraphMath OpMath

theorem any_none {α : Type} {p : α → Bool} {l : List α} (h : ∀ x ∈ l, p x = false) : l.any p = false := by
  rw [List.any_eq_false]
  exact fun x hx => by rw [h x hx]; decide

theorem any_some {α : Type} {p : α → Bool} {l : List α} {x : α} (hx : x ∈ l) (h : p x = true) : l.any p = true := List.any_eq_true.2 ⟨x, hx, h⟩

theorem all_take {α : Type} {p : α → Bool} {l : List α} {k : Nat} (hk : k < l.length) (h : ∀ x ∈ l.take k, p x = false) (h2 : p l[k] = false) : ∀ x ∈ l.take (k + 1), p x = false := by
  intro x hx
  rw [List.take_succ_eq_append_getElem hk] at hx
  rcases List.mem_append.1 hx with hx | hx
  · exact h x hx
  · rw [List.mem_singleton.1 hx]; exact h2

set_option maxRecDepth 100000 in
set_option maxHeartbeats 1600000 in
theorem idx_isNone (p : Ino → Bool) (A : Option Addr) (n c : Nat) (N : List Ino) (hn : n ≤ 1000) (w : World) (h : InosIn w w.heap.size A n N)
    (hC : ∀ (x : Ino), x ∈ N → ∀ W : World, Below w.heap.size w W → Calls Tryz.prog 44 #[.agg (inoA x)] W fun e w' => e = .returned (.bool (p x)) ∧ Below W.heap.size W w') :
    Calls Tryz.prog 66 #[.slice A n c, .func (.func 44) #[] #[]] w fun e w' => ∃ i : Int, e = .returned (.int .i64 i) ∧ decide (i ≥ 0) = N.any p ∧ Below w.heap.size w w' := by
  have hl := h.len
  have HI := Lib.hid h
  have HC := Lib.hid hC
  clear h hC
  go_enter Tryz.func66, Tryz.ntmps66
  go_wp2_with fail
  go_loopg [8] (n + 1) (fun gk i wr => ∃ k : Nat, i = .int .i64 (k : Int) ∧ gk + k = n + 1 ∧ k ≤ n ∧ Hid (∀ x ∈ N.take k, p x = false) ∧ Hid (Below w.heap.size w wr))
  case atStart => exact ⟨0, rfl, by omega, by omega, (fun x hx => by cases hx), Below.refl _ _⟩
  case round =>
    obtain ⟨k, rfl, hgk, hk, hno, hB⟩ := hrel
    by_cases hlt : k < n
    · obtain ⟨g, o, rfl, hg, hrow⟩ := HI.out.row (by omega)
      have hlow := hB.out.size
      obtain ⟨e0, e1, e2, e3, e4, e5⟩ := (hrow k (by omega)).below hB.out hg
      clear hrow
      have hx := HC.out N[k] (List.getElem_mem (by omega)) wr hB.out
      have hno' := all_take (p := p) (l := N) (k := k) (by omega)
      have hyes := any_some (p := p) (l := N) (x := N[k]) (List.getElem_mem (by omega))
      obtain ⟨v, hv⟩ : ∃ v, v = p N[k] := ⟨_, rfl⟩
      rw [← hv] at hx hno' hyes
      generalize N[k] = x at e0 e1 e2 e3 e4 e5 hx
      have HX := Lib.hid hx
      have HN := Lib.hid hno'
      have HY := Lib.hid hyes
      clear hx hno' hyes hv
      unfold inoA at HX
      cases v with
      | false =>
        go_wp2_with fail
        refine HX.out.mono ?_
        rintro e w2 ⟨rfl, hb2⟩
        go_wp2_with fail
        go_roundg (gk - 1)
        case measure => omega
        case rel => exact ⟨k + 1, by go_num, by omega, by omega, HN.out hno.out (by simp), below_step hB.out hb2⟩
      | true =>
        go_wp2_with fail
        refine HX.out.mono ?_
        rintro e w2 ⟨rfl, hb2⟩
        go_wp2_with fail
        go_ret
        exact ⟨_, rfl, by rw [HY.out (by simp)]; exact decide_eq_true (by omega), below_step hB.out hb2⟩
    · go_wp2_with fail
      go_ret
      exact ⟨_, rfl, by rw [any_none (p := p) (l := N) (fun x hx => hno.out x (by rw [List.take_of_length_le (by omega)]; exact hx))]; rfl, hB.out⟩

set_option maxRecDepth 100000 in
theorem has_isNone (p : Ino → Bool) (A : Option Addr) (n c : Nat) (N : List Ino) (hn : n ≤ 1000) (w : World) (h : InosIn w w.heap.size A n N)
    (hC : ∀ (x : Ino), x ∈ N → ∀ W : World, Below w.heap.size w W → Calls Tryz.prog 44 #[.agg (inoA x)] W fun e w' => e = .returned (.bool (p x)) ∧ Below W.heap.size W w') :
    Calls Tryz.prog 43 #[.slice A n c, .func (.func 44) #[] #[]] w fun e w' => e = .returned (.bool (N.any p)) ∧ Below w.heap.size w w' := by
  have HX := Lib.hid (idx_isNone p A n c N hn w h hC)
  clear h hC
  generalize N.any p = v at HX ⊢
  go_enter Tryz.func43, Tryz.ntmps43
  go_wp2_with fail
  refine HX.out.mono ?_
  rintro e w2 ⟨i, rfl, hi, hb2⟩
  cases v with
  | false =>
    have hi' := of_decide_eq_false hi
    clear hi
    go_wp2_with fail
    go_ret
    exact ⟨by first | rfl | simp <;> omega, hb2⟩
  | true =>
    have hi' := of_decide_eq_true hi
    clear hi
    go_wp2_with fail
    go_ret
    exact ⟨by first | rfl | simp <;> omega, hb2⟩

set_option maxRecDepth 100000 in
set_option maxHeartbeats 1600000 in
theorem idx_nameless (p : Ent → Bool) (A : Option Addr) (n c : Nat) (N : List Ent) (hn : n ≤ 1000) (w : World) (h : EntsIn w w.heap.size A n N)
    (hC : ∀ (x : Ent), x ∈ N → ∀ W : World, Below w.heap.size w W → Calls Tryz.prog 46 #[.agg (entA x)] W fun e w' => e = .returned (.bool (p x)) ∧ Below W.heap.size W w') :
    Calls Tryz.prog 67 #[.slice A n c, .func (.func 46) #[] #[]] w fun e w' => ∃ i : Int, e = .returned (.int .i64 i) ∧ decide (i ≥ 0) = N.any p ∧ Below w.heap.size w w' := by
  have hl := h.len
  have HI := Lib.hid h
  have HC := Lib.hid hC
  clear h hC
  go_enter Tryz.func67, Tryz.ntmps67
  go_wp2_with fail
  go_loopg [8] (n + 1) (fun gk i wr => ∃ k : Nat, i = .int .i64 (k : Int) ∧ gk + k = n + 1 ∧ k ≤ n ∧ Hid (∀ x ∈ N.take k, p x = false) ∧ Hid (Below w.heap.size w wr))
  case atStart => exact ⟨0, rfl, by omega, by omega, (fun x hx => by cases hx), Below.refl _ _⟩
  case round =>
    obtain ⟨k, rfl, hgk, hk, hno, hB⟩ := hrel
    by_cases hlt : k < n
    · obtain ⟨g, o, rfl, hg, hrow⟩ := HI.out.row (by omega)
      have hlow := hB.out.size
      obtain ⟨e0, e1, e2, e3, e4⟩ := (hrow k (by omega)).below hB.out hg
      clear hrow
      have hx := HC.out N[k] (List.getElem_mem (by omega)) wr hB.out
      have hno' := all_take (p := p) (l := N) (k := k) (by omega)
      have hyes := any_some (p := p) (l := N) (x := N[k]) (List.getElem_mem (by omega))
      obtain ⟨v, hv⟩ : ∃ v, v = p N[k] := ⟨_, rfl⟩
      rw [← hv] at hx hno' hyes
      generalize N[k] = x at e0 e1 e2 e3 e4 hx
      have HX := Lib.hid hx
      have HN := Lib.hid hno'
      have HY := Lib.hid hyes
      clear hx hno' hyes hv
      unfold entA at HX
      cases v with
      | false =>
        go_wp2_with fail
        refine HX.out.mono ?_
        rintro e w2 ⟨rfl, hb2⟩
        go_wp2_with fail
        go_roundg (gk - 1)
        case measure => omega
        case rel => exact ⟨k + 1, by go_num, by omega, by omega, HN.out hno.out (by simp), below_step hB.out hb2⟩
      | true =>
        go_wp2_with fail
        refine HX.out.mono ?_
        rintro e w2 ⟨rfl, hb2⟩
        go_wp2_with fail
        go_ret
        exact ⟨_, rfl, by rw [HY.out (by simp)]; exact decide_eq_true (by omega), below_step hB.out hb2⟩
    · go_wp2_with fail
      go_ret
      exact ⟨_, rfl, by rw [any_none (p := p) (l := N) (fun x hx => hno.out x (by rw [List.take_of_length_le (by omega)]; exact hx))]; rfl, hB.out⟩

set_option maxRecDepth 100000 in
theorem has_nameless (p : Ent → Bool) (A : Option Addr) (n c : Nat) (N : List Ent) (hn : n ≤ 1000) (w : World) (h : EntsIn w w.heap.size A n N)
    (hC : ∀ (x : Ent), x ∈ N → ∀ W : World, Below w.heap.size w W → Calls Tryz.prog 46 #[.agg (entA x)] W fun e w' => e = .returned (.bool (p x)) ∧ Below W.heap.size W w') :
    Calls Tryz.prog 45 #[.slice A n c, .func (.func 46) #[] #[]] w fun e w' => e = .returned (.bool (N.any p)) ∧ Below w.heap.size w w' := by
  have HX := Lib.hid (idx_nameless p A n c N hn w h hC)
  clear h hC
  generalize N.any p = v at HX ⊢
  go_enter Tryz.func45, Tryz.ntmps45
  go_wp2_with fail
  refine HX.out.mono ?_
  rintro e w2 ⟨i, rfl, hi, hb2⟩
  cases v with
  | false =>
    have hi' := of_decide_eq_false hi
    clear hi
    go_wp2_with fail
    go_ret
    exact ⟨by first | rfl | simp <;> omega, hb2⟩
  | true =>
    have hi' := of_decide_eq_true hi
    clear hi
    go_wp2_with fail
    go_ret
    exact ⟨by first | rfl | simp <;> omega, hb2⟩

set_option maxRecDepth 100000 in
set_option maxHeartbeats 1600000 in
theorem idx_lost (g0 : Nat) (p : Ent → Bool) (A : Option Addr) (n c : Nat) (N : List Ent) (hn : n ≤ 1000) (w : World) (h : EntsIn w w.heap.size A n N)
    (hC : ∀ (x : Ent), x ∈ N → ∀ W : World, Below w.heap.size w W → Calls Tryz.prog 47 #[.agg (entA x), .pointer (some ⟨g0, 0, none⟩)] W fun e w' => e = .returned (.bool (p x)) ∧ Below W.heap.size W w') :
    Calls Tryz.prog 67 #[.slice A n c, .func (.func 47) #[] #[.pointer (some ⟨g0, 0, none⟩)]] w fun e w' => ∃ i : Int, e = .returned (.int .i64 i) ∧ decide (i ≥ 0) = N.any p ∧ Below w.heap.size w w' := by
  have hl := h.len
  have HI := Lib.hid h
  have HC := Lib.hid hC
  clear h hC
  go_enter Tryz.func67, Tryz.ntmps67
  go_wp2_with fail
  go_loopg [8] (n + 1) (fun gk i wr => ∃ k : Nat, i = .int .i64 (k : Int) ∧ gk + k = n + 1 ∧ k ≤ n ∧ Hid (∀ x ∈ N.take k, p x = false) ∧ Hid (Below w.heap.size w wr))
  case atStart => exact ⟨0, rfl, by omega, by omega, (fun x hx => by cases hx), Below.refl _ _⟩
  case round =>
    obtain ⟨k, rfl, hgk, hk, hno, hB⟩ := hrel
    by_cases hlt : k < n
    · obtain ⟨g, o, rfl, hg, hrow⟩ := HI.out.row (by omega)
      have hlow := hB.out.size
      obtain ⟨e0, e1, e2, e3, e4⟩ := (hrow k (by omega)).below hB.out hg
      clear hrow
      have hx := HC.out N[k] (List.getElem_mem (by omega)) wr hB.out
      have hno' := all_take (p := p) (l := N) (k := k) (by omega)
      have hyes := any_some (p := p) (l := N) (x := N[k]) (List.getElem_mem (by omega))
      obtain ⟨v, hv⟩ : ∃ v, v = p N[k] := ⟨_, rfl⟩
      rw [← hv] at hx hno' hyes
      generalize N[k] = x at e0 e1 e2 e3 e4 hx
      have HX := Lib.hid hx
      have HN := Lib.hid hno'
      have HY := Lib.hid hyes
      clear hx hno' hyes hv
      unfold entA at HX
      cases v with
      | false =>
        go_wp2_with fail
        refine HX.out.mono ?_
        rintro e w2 ⟨rfl, hb2⟩
        go_wp2_with fail
        go_roundg (gk - 1)
        case measure => omega
        case rel => exact ⟨k + 1, by go_num, by omega, by omega, HN.out hno.out (by simp), below_step hB.out hb2⟩
      | true =>
        go_wp2_with fail
        refine HX.out.mono ?_
        rintro e w2 ⟨rfl, hb2⟩
        go_wp2_with fail
        go_ret
        exact ⟨_, rfl, by rw [HY.out (by simp)]; exact decide_eq_true (by omega), below_step hB.out hb2⟩
    · go_wp2_with fail
      go_ret
      exact ⟨_, rfl, by rw [any_none (p := p) (l := N) (fun x hx => hno.out x (by rw [List.take_of_length_le (by omega)]; exact hx))]; rfl, hB.out⟩

set_option maxRecDepth 100000 in
theorem has_lost (g0 : Nat) (p : Ent → Bool) (A : Option Addr) (n c : Nat) (N : List Ent) (hn : n ≤ 1000) (w : World) (h : EntsIn w w.heap.size A n N)
    (hC : ∀ (x : Ent), x ∈ N → ∀ W : World, Below w.heap.size w W → Calls Tryz.prog 47 #[.agg (entA x), .pointer (some ⟨g0, 0, none⟩)] W fun e w' => e = .returned (.bool (p x)) ∧ Below W.heap.size W w') :
    Calls Tryz.prog 45 #[.slice A n c, .func (.func 47) #[] #[.pointer (some ⟨g0, 0, none⟩)]] w fun e w' => e = .returned (.bool (N.any p)) ∧ Below w.heap.size w w' := by
  have HX := Lib.hid (idx_lost g0 p A n c N hn w h hC)
  clear h hC
  generalize N.any p = v at HX ⊢
  go_enter Tryz.func45, Tryz.ntmps45
  go_wp2_with fail
  refine HX.out.mono ?_
  rintro e w2 ⟨i, rfl, hi, hb2⟩
  cases v with
  | false =>
    have hi' := of_decide_eq_false hi
    clear hi
    go_wp2_with fail
    go_ret
    exact ⟨by first | rfl | simp <;> omega, hb2⟩
  | true =>
    have hi' := of_decide_eq_true hi
    clear hi
    go_wp2_with fail
    go_ret
    exact ⟨by first | rfl | simp <;> omega, hb2⟩

set_option maxRecDepth 100000 in
set_option maxHeartbeats 1600000 in
theorem idx_miscounted (g0 : Nat) (p : Ino → Bool) (A : Option Addr) (n c : Nat) (N : List Ino) (hn : n ≤ 1000) (w : World) (h : InosIn w w.heap.size A n N)
    (hC : ∀ (x : Ino), x ∈ N → ∀ W : World, Below w.heap.size w W → Calls Tryz.prog 49 #[.agg (inoA x), .pointer (some ⟨g0, 0, none⟩)] W fun e w' => e = .returned (.bool (p x)) ∧ Below W.heap.size W w') :
    Calls Tryz.prog 66 #[.slice A n c, .func (.func 49) #[] #[.pointer (some ⟨g0, 0, none⟩)]] w fun e w' => ∃ i : Int, e = .returned (.int .i64 i) ∧ decide (i ≥ 0) = N.any p ∧ Below w.heap.size w w' := by
  have hl := h.len
  have HI := Lib.hid h
  have HC := Lib.hid hC
  clear h hC
  go_enter Tryz.func66, Tryz.ntmps66
  go_wp2_with fail
  go_loopg [8] (n + 1) (fun gk i wr => ∃ k : Nat, i = .int .i64 (k : Int) ∧ gk + k = n + 1 ∧ k ≤ n ∧ Hid (∀ x ∈ N.take k, p x = false) ∧ Hid (Below w.heap.size w wr))
  case atStart => exact ⟨0, rfl, by omega, by omega, (fun x hx => by cases hx), Below.refl _ _⟩
  case round =>
    obtain ⟨k, rfl, hgk, hk, hno, hB⟩ := hrel
    by_cases hlt : k < n
    · obtain ⟨g, o, rfl, hg, hrow⟩ := HI.out.row (by omega)
      have hlow := hB.out.size
      obtain ⟨e0, e1, e2, e3, e4, e5⟩ := (hrow k (by omega)).below hB.out hg
      clear hrow
      have hx := HC.out N[k] (List.getElem_mem (by omega)) wr hB.out
      have hno' := all_take (p := p) (l := N) (k := k) (by omega)
      have hyes := any_some (p := p) (l := N) (x := N[k]) (List.getElem_mem (by omega))
      obtain ⟨v, hv⟩ : ∃ v, v = p N[k] := ⟨_, rfl⟩
      rw [← hv] at hx hno' hyes
      generalize N[k] = x at e0 e1 e2 e3 e4 e5 hx
      have HX := Lib.hid hx
      have HN := Lib.hid hno'
      have HY := Lib.hid hyes
      clear hx hno' hyes hv
      unfold inoA at HX
      cases v with
      | false =>
        go_wp2_with fail
        refine HX.out.mono ?_
        rintro e w2 ⟨rfl, hb2⟩
        go_wp2_with fail
        go_roundg (gk - 1)
        case measure => omega
        case rel => exact ⟨k + 1, by go_num, by omega, by omega, HN.out hno.out (by simp), below_step hB.out hb2⟩
      | true =>
        go_wp2_with fail
        refine HX.out.mono ?_
        rintro e w2 ⟨rfl, hb2⟩
        go_wp2_with fail
        go_ret
        exact ⟨_, rfl, by rw [HY.out (by simp)]; exact decide_eq_true (by omega), below_step hB.out hb2⟩
    · go_wp2_with fail
      go_ret
      exact ⟨_, rfl, by rw [any_none (p := p) (l := N) (fun x hx => hno.out x (by rw [List.take_of_length_le (by omega)]; exact hx))]; rfl, hB.out⟩

set_option maxRecDepth 100000 in
theorem has_miscounted (g0 : Nat) (p : Ino → Bool) (A : Option Addr) (n c : Nat) (N : List Ino) (hn : n ≤ 1000) (w : World) (h : InosIn w w.heap.size A n N)
    (hC : ∀ (x : Ino), x ∈ N → ∀ W : World, Below w.heap.size w W → Calls Tryz.prog 49 #[.agg (inoA x), .pointer (some ⟨g0, 0, none⟩)] W fun e w' => e = .returned (.bool (p x)) ∧ Below W.heap.size W w') :
    Calls Tryz.prog 43 #[.slice A n c, .func (.func 49) #[] #[.pointer (some ⟨g0, 0, none⟩)]] w fun e w' => e = .returned (.bool (N.any p)) ∧ Below w.heap.size w w' := by
  have HX := Lib.hid (idx_miscounted g0 p A n c N hn w h hC)
  clear h hC
  generalize N.any p = v at HX ⊢
  go_enter Tryz.func43, Tryz.ntmps43
  go_wp2_with fail
  refine HX.out.mono ?_
  rintro e w2 ⟨i, rfl, hi, hb2⟩
  cases v with
  | false =>
    have hi' := of_decide_eq_false hi
    clear hi
    go_wp2_with fail
    go_ret
    exact ⟨by first | rfl | simp <;> omega, hb2⟩
  | true =>
    have hi' := of_decide_eq_true hi
    clear hi
    go_wp2_with fail
    go_ret
    exact ⟨by first | rfl | simp <;> omega, hb2⟩

set_option maxRecDepth 100000 in
set_option maxHeartbeats 1600000 in
theorem idx_mislinked (g0 : Nat) (p : Ino → Bool) (A : Option Addr) (n c : Nat) (N : List Ino) (hn : n ≤ 1000) (w : World) (h : InosIn w w.heap.size A n N)
    (hC : ∀ (x : Ino), x ∈ N → ∀ W : World, Below w.heap.size w W → Calls Tryz.prog 50 #[.agg (inoA x), .pointer (some ⟨g0, 0, none⟩)] W fun e w' => e = .returned (.bool (p x)) ∧ Below W.heap.size W w') :
    Calls Tryz.prog 66 #[.slice A n c, .func (.func 50) #[] #[.pointer (some ⟨g0, 0, none⟩)]] w fun e w' => ∃ i : Int, e = .returned (.int .i64 i) ∧ decide (i ≥ 0) = N.any p ∧ Below w.heap.size w w' := by
  have hl := h.len
  have HI := Lib.hid h
  have HC := Lib.hid hC
  clear h hC
  go_enter Tryz.func66, Tryz.ntmps66
  go_wp2_with fail
  go_loopg [8] (n + 1) (fun gk i wr => ∃ k : Nat, i = .int .i64 (k : Int) ∧ gk + k = n + 1 ∧ k ≤ n ∧ Hid (∀ x ∈ N.take k, p x = false) ∧ Hid (Below w.heap.size w wr))
  case atStart => exact ⟨0, rfl, by omega, by omega, (fun x hx => by cases hx), Below.refl _ _⟩
  case round =>
    obtain ⟨k, rfl, hgk, hk, hno, hB⟩ := hrel
    by_cases hlt : k < n
    · obtain ⟨g, o, rfl, hg, hrow⟩ := HI.out.row (by omega)
      have hlow := hB.out.size
      obtain ⟨e0, e1, e2, e3, e4, e5⟩ := (hrow k (by omega)).below hB.out hg
      clear hrow
      have hx := HC.out N[k] (List.getElem_mem (by omega)) wr hB.out
      have hno' := all_take (p := p) (l := N) (k := k) (by omega)
      have hyes := any_some (p := p) (l := N) (x := N[k]) (List.getElem_mem (by omega))
      obtain ⟨v, hv⟩ : ∃ v, v = p N[k] := ⟨_, rfl⟩
      rw [← hv] at hx hno' hyes
      generalize N[k] = x at e0 e1 e2 e3 e4 e5 hx
      have HX := Lib.hid hx
      have HN := Lib.hid hno'
      have HY := Lib.hid hyes
      clear hx hno' hyes hv
      unfold inoA at HX
      cases v with
      | false =>
        go_wp2_with fail
        refine HX.out.mono ?_
        rintro e w2 ⟨rfl, hb2⟩
        go_wp2_with fail
        go_roundg (gk - 1)
        case measure => omega
        case rel => exact ⟨k + 1, by go_num, by omega, by omega, HN.out hno.out (by simp), below_step hB.out hb2⟩
      | true =>
        go_wp2_with fail
        refine HX.out.mono ?_
        rintro e w2 ⟨rfl, hb2⟩
        go_wp2_with fail
        go_ret
        exact ⟨_, rfl, by rw [HY.out (by simp)]; exact decide_eq_true (by omega), below_step hB.out hb2⟩
    · go_wp2_with fail
      go_ret
      exact ⟨_, rfl, by rw [any_none (p := p) (l := N) (fun x hx => hno.out x (by rw [List.take_of_length_le (by omega)]; exact hx))]; rfl, hB.out⟩

set_option maxRecDepth 100000 in
theorem has_mislinked (g0 : Nat) (p : Ino → Bool) (A : Option Addr) (n c : Nat) (N : List Ino) (hn : n ≤ 1000) (w : World) (h : InosIn w w.heap.size A n N)
    (hC : ∀ (x : Ino), x ∈ N → ∀ W : World, Below w.heap.size w W → Calls Tryz.prog 50 #[.agg (inoA x), .pointer (some ⟨g0, 0, none⟩)] W fun e w' => e = .returned (.bool (p x)) ∧ Below W.heap.size W w') :
    Calls Tryz.prog 43 #[.slice A n c, .func (.func 50) #[] #[.pointer (some ⟨g0, 0, none⟩)]] w fun e w' => e = .returned (.bool (N.any p)) ∧ Below w.heap.size w w' := by
  have HX := Lib.hid (idx_mislinked g0 p A n c N hn w h hC)
  clear h hC
  generalize N.any p = v at HX ⊢
  go_enter Tryz.func43, Tryz.ntmps43
  go_wp2_with fail
  refine HX.out.mono ?_
  rintro e w2 ⟨i, rfl, hi, hb2⟩
  cases v with
  | false =>
    have hi' := of_decide_eq_false hi
    clear hi
    go_wp2_with fail
    go_ret
    exact ⟨by first | rfl | simp <;> omega, hb2⟩
  | true =>
    have hi' := of_decide_eq_true hi
    clear hi
    go_wp2_with fail
    go_ret
    exact ⟨by first | rfl | simp <;> omega, hb2⟩

set_option maxRecDepth 100000 in
set_option maxHeartbeats 1600000 in
theorem idx_tooMuch (p : Ino → Bool) (A : Option Addr) (n c : Nat) (N : List Ino) (hn : n ≤ 1000) (w : World) (h : InosIn w w.heap.size A n N)
    (hC : ∀ (x : Ino), x ∈ N → ∀ W : World, Below w.heap.size w W → Calls Tryz.prog 53 #[.agg (inoA x)] W fun e w' => e = .returned (.bool (p x)) ∧ Below W.heap.size W w') :
    Calls Tryz.prog 66 #[.slice A n c, .func (.func 53) #[] #[]] w fun e w' => ∃ i : Int, e = .returned (.int .i64 i) ∧ decide (i ≥ 0) = N.any p ∧ Below w.heap.size w w' := by
  have hl := h.len
  have HI := Lib.hid h
  have HC := Lib.hid hC
  clear h hC
  go_enter Tryz.func66, Tryz.ntmps66
  go_wp2_with fail
  go_loopg [8] (n + 1) (fun gk i wr => ∃ k : Nat, i = .int .i64 (k : Int) ∧ gk + k = n + 1 ∧ k ≤ n ∧ Hid (∀ x ∈ N.take k, p x = false) ∧ Hid (Below w.heap.size w wr))
  case atStart => exact ⟨0, rfl, by omega, by omega, (fun x hx => by cases hx), Below.refl _ _⟩
  case round =>
    obtain ⟨k, rfl, hgk, hk, hno, hB⟩ := hrel
    by_cases hlt : k < n
    · obtain ⟨g, o, rfl, hg, hrow⟩ := HI.out.row (by omega)
      have hlow := hB.out.size
      obtain ⟨e0, e1, e2, e3, e4, e5⟩ := (hrow k (by omega)).below hB.out hg
      clear hrow
      have hx := HC.out N[k] (List.getElem_mem (by omega)) wr hB.out
      have hno' := all_take (p := p) (l := N) (k := k) (by omega)
      have hyes := any_some (p := p) (l := N) (x := N[k]) (List.getElem_mem (by omega))
      obtain ⟨v, hv⟩ : ∃ v, v = p N[k] := ⟨_, rfl⟩
      rw [← hv] at hx hno' hyes
      generalize N[k] = x at e0 e1 e2 e3 e4 e5 hx
      have HX := Lib.hid hx
      have HN := Lib.hid hno'
      have HY := Lib.hid hyes
      clear hx hno' hyes hv
      unfold inoA at HX
      cases v with
      | false =>
        go_wp2_with fail
        refine HX.out.mono ?_
        rintro e w2 ⟨rfl, hb2⟩
        go_wp2_with fail
        go_roundg (gk - 1)
        case measure => omega
        case rel => exact ⟨k + 1, by go_num, by omega, by omega, HN.out hno.out (by simp), below_step hB.out hb2⟩
      | true =>
        go_wp2_with fail
        refine HX.out.mono ?_
        rintro e w2 ⟨rfl, hb2⟩
        go_wp2_with fail
        go_ret
        exact ⟨_, rfl, by rw [HY.out (by simp)]; exact decide_eq_true (by omega), below_step hB.out hb2⟩
    · go_wp2_with fail
      go_ret
      exact ⟨_, rfl, by rw [any_none (p := p) (l := N) (fun x hx => hno.out x (by rw [List.take_of_length_le (by omega)]; exact hx))]; rfl, hB.out⟩

set_option maxRecDepth 100000 in
theorem has_tooMuch (p : Ino → Bool) (A : Option Addr) (n c : Nat) (N : List Ino) (hn : n ≤ 1000) (w : World) (h : InosIn w w.heap.size A n N)
    (hC : ∀ (x : Ino), x ∈ N → ∀ W : World, Below w.heap.size w W → Calls Tryz.prog 53 #[.agg (inoA x)] W fun e w' => e = .returned (.bool (p x)) ∧ Below W.heap.size W w') :
    Calls Tryz.prog 43 #[.slice A n c, .func (.func 53) #[] #[]] w fun e w' => e = .returned (.bool (N.any p)) ∧ Below w.heap.size w w' := by
  have HX := Lib.hid (idx_tooMuch p A n c N hn w h hC)
  clear h hC
  generalize N.any p = v at HX ⊢
  go_enter Tryz.func43, Tryz.ntmps43
  go_wp2_with fail
  refine HX.out.mono ?_
  rintro e w2 ⟨i, rfl, hi, hb2⟩
  cases v with
  | false =>
    have hi' := of_decide_eq_false hi
    clear hi
    go_wp2_with fail
    go_ret
    exact ⟨by first | rfl | simp <;> omega, hb2⟩
  | true =>
    have hi' := of_decide_eq_true hi
    clear hi
    go_wp2_with fail
    go_ret
    exact ⟨by first | rfl | simp <;> omega, hb2⟩

end Go.Proofs.YtoobmkkmomiigaaGreat

/-
  A slice of pairs of integers (structs of two integer fields) that is only read. It needs no program.
-/
namespace Go.Proofs.YtoobmkkmomiigaaGreat
open Go.RowKit

/-- Both cells of a box written. -/
theorem box_set {w : World} {g : Nat} {a b c d : Value} {t : TypeId} (h : w.heap[g]? = some (.cells #[a, b] t (0, 0))) :
    ((w.setCell ⟨g, 0, none⟩ c).setCell ⟨g, 1, none⟩ d).heap[g]? = some (.cells #[c, d] t (0, 0)) := by
  rw [heap_setCell_same _ _ _ _ _ _ (heap_setCell_same _ _ _ _ _ _ h)]
  rfl

/-- The slice with address A and length n reads as the pairs xs, and lies below block B. -/
def PairsIn (W : World) (B : Nat) (A : Option Addr) (n : Nat) (xs : List (Int × Int)) : Prop :=
  xs.length = n ∧ (0 < n → ∃ g o, A = some ⟨g, o, none⟩ ∧ g < B ∧
    ∀ j (h : j < xs.length), W.cell? ⟨g, o + j * 2, none⟩ = some (.int .i64 xs[j].1) ∧ W.cell? ⟨g, o + j * 2 + 1, none⟩ = some (.int .i64 xs[j].2))

theorem PairsIn.below {W W' : World} {B : Nat} {A : Option Addr} {n : Nat} {xs : List (Int × Int)} (h : PairsIn W B A n xs) (hb : Below B W W') : PairsIn W' B A n xs :=
  ⟨h.1, fun hn => by
    obtain ⟨g, o, e, hg, hc⟩ := h.2 hn
    exact ⟨g, o, e, hg, fun j hj => ⟨(hb.cell (p := ⟨g, o + j * 2, none⟩) hg).trans (hc j hj).1, (hb.cell (p := ⟨g, o + j * 2 + 1, none⟩) hg).trans (hc j hj).2⟩⟩⟩

theorem PairsIn.more {W : World} {B B' : Nat} {A : Option Addr} {n : Nat} {xs : List (Int × Int)} (h : PairsIn W B A n xs) (hB : B ≤ B') : PairsIn W B' A n xs :=
  ⟨h.1, fun hn => by
    obtain ⟨g, o, e, hg, hc⟩ := h.2 hn
    exact ⟨g, o, e, by omega, hc⟩⟩

end Go.Proofs.YtoobmkkmomiigaaGreat

/-
  The walks of package cmp's functions and of stamp's Compare, with what they leave: the world, so many draws on and so many blocks more.
-/
namespace Go.Proofs.YtoobmkkmomiigaaGreat
open Go.RowKit StampMath

theorem nan64 (t : Int) (w : World) : Calls Tryz.prog 73 #[.int .i64 t] w fun e w' => e = .returned (.bool false) ∧ w = w' := by
  go_enter Tryz.func73, Tryz.ntmps73
  go_wp2_with fail
  go_ret
  exact ⟨by simp, rfl⟩

theorem nanInt (t : Int) (w : World) : Calls Tryz.prog 74 #[.int .i64 t] w fun e w' => e = .returned (.bool false) ∧ w = w' := by
  go_enter Tryz.func74, Tryz.ntmps74
  go_wp2_with fail
  go_ret
  exact ⟨by simp, rfl⟩

theorem cell_alloc {W : World} {o : Obj} {a : Addr} {v : Value} (h : W.cell? a = some v) : (W.alloc o).cell? a = some v :=
  (World.cell?_alloc_lt W o a (World.block_lt_of_cell? _ _ h)).trans h

theorem kept_alloc4 {w W : World} {a b c d : Addr} {u v x y : Value} (o : Obj) (h : (W.cell? a = some u ∧ W.cell? b = some v ∧ W.cell? c = some x ∧ W.cell? d = some y) ∧ KeptFrom w W) :
    ((W.alloc o).cell? a = some u ∧ (W.alloc o).cell? b = some v ∧ (W.alloc o).cell? c = some x ∧ (W.alloc o).cell? d = some y) ∧ KeptFrom w (W.alloc o) :=
  ⟨⟨cell_alloc h.1.1, cell_alloc h.1.2.1, cell_alloc h.1.2.2.1, cell_alloc h.1.2.2.2⟩, (kept_below h.2).alloc (kept_below h.2).size o⟩

theorem cell_third (w : World) (o1 o2 : Obj) (a b : Value) (T : TypeId) :
    (((w.alloc o1).alloc o2).alloc (.cells #[a, b] T)).drew.cell? ⟨w.heap.size + 1 + 1, 0, none⟩ = some a ∧ (((w.alloc o1).alloc o2).alloc (.cells #[a, b] T)).drew.cell? ⟨w.heap.size + 1 + 1, 1, none⟩ = some b := by
  have h := heap_alloc_new ((w.alloc o1).alloc o2) (.cells #[a, b] T)
  have e : ((w.alloc o1).alloc o2).heap.size = w.heap.size + 1 + 1 := by simp
  rw [e] at h
  exact ⟨cell_of_row _ _ 0 _ _ (0, 0) h, cell_of_row _ _ 1 _ _ (0, 0) h⟩

/-- Which of two numbers is first. -/
def cmp1 (x y : Int) : Int := if x < y then -1 else if y < x then 1 else 0

set_option maxHeartbeats 400000 in
theorem compare64 (x y : Int) (w : World) : Calls Tryz.prog 59 #[.int .i64 x, .int .i64 y] w fun e w' => e = .returned (.int .i64 (cmp1 x y)) ∧ w = w' := by
  have hcase : (x < y ∧ cmp1 x y = -1) ∨ (¬ x < y ∧ y < x ∧ cmp1 x y = 1) ∨ (¬ x < y ∧ ¬ y < x ∧ cmp1 x y = 0) := by
    unfold cmp1
    by_cases h1 : x < y
    · exact Or.inl ⟨h1, by rw [if_pos h1]⟩
    · by_cases h2 : y < x
      · exact Or.inr (Or.inl ⟨h1, h2, by rw [if_neg h1, if_pos h2]⟩)
      · exact Or.inr (Or.inr ⟨h1, h2, by rw [if_neg h1, if_neg h2]⟩)
  rcases hcase with ⟨h1, h⟩ | ⟨h1, h2, h⟩ | ⟨h1, h2, h⟩
  all_goals
    rw [h]
    clear h
    go_enter Tryz.func59, Tryz.ntmps59
    go_wp2_with fail
    refine (nan64 _ _).mono ?_
    rintro e w' ⟨rfl, rfl⟩
    go_wp2_with fail
    refine (nan64 _ _).mono ?_
    rintro e w' ⟨rfl, rfl⟩
    go_wp2_with fail
    go_ret
    exact ⟨rfl, rfl⟩

set_option maxHeartbeats 400000 in
theorem compareInt (x y : Int) (w : World) : Calls Tryz.prog 60 #[.int .i64 x, .int .i64 y] w fun e w' => e = .returned (.int .i64 (cmp1 x y)) ∧ w = w' := by
  have hcase : (x < y ∧ cmp1 x y = -1) ∨ (¬ x < y ∧ y < x ∧ cmp1 x y = 1) ∨ (¬ x < y ∧ ¬ y < x ∧ cmp1 x y = 0) := by
    unfold cmp1
    by_cases h1 : x < y
    · exact Or.inl ⟨h1, by rw [if_pos h1]⟩
    · by_cases h2 : y < x
      · exact Or.inr (Or.inl ⟨h1, h2, by rw [if_neg h1, if_pos h2]⟩)
      · exact Or.inr (Or.inr ⟨h1, h2, by rw [if_neg h1, if_neg h2]⟩)
  rcases hcase with ⟨h1, h⟩ | ⟨h1, h2, h⟩ | ⟨h1, h2, h⟩
  all_goals
    rw [h]
    clear h
    go_enter Tryz.func60, Tryz.ntmps60
    go_wp2_with fail
    refine (nanInt _ _).mono ?_
    rintro e w' ⟨rfl, rfl⟩
    go_wp2_with fail
    refine (nanInt _ _).mono ?_
    rintro e w' ⟨rfl, rfl⟩
    go_wp2_with fail
    go_ret
    exact ⟨rfl, rfl⟩

/-- The first of two numbers that is not zero. -/
def or2 (a b : Int) : Int := if a = 0 then b else a

theorem or2_cmp (t r t' r' : Int) : or2 (cmp1 t t') (cmp1 r r') = cmp t r t' r' := by
  have h := cmp_cases t r t' r'
  unfold or2 cmp1
  split <;> split <;> (try split) <;> (try split) <;> omega

set_option maxHeartbeats 400000 in
theorem or_any (g : Nat) (a b : Int) (W : World) (h0 : W.cell? ⟨g, 0, none⟩ = some (.int .i64 a)) (h1 : W.cell? ⟨g, 1, none⟩ = some (.int .i64 b)) :
    Calls Tryz.prog 58 #[.slice (some ⟨g, 0, none⟩) 2 2] W fun e w' => e = .returned (.int .i64 (or2 a b)) ∧ W = w' := by
  go_enter Tryz.func58, Tryz.ntmps58
  go_wp2_with fail
  go_loop [8] (fun i => ∃ k : Nat, i = .int .i64 (k : Int) ∧ k ≤ 2 ∧ (0 < k → a = 0) ∧ (1 < k → b = 0)) (fun i => 2 - (intOf i).toNat)
  case atStart => exact ⟨0, rfl, by omega, by omega, by omega⟩
  case round =>
    obtain ⟨k, rfl, hk, ha, hb⟩ := hrel
    have HA := Lib.hid ha
    have HB := Lib.hid hb
    clear ha hb
    have hk3 : k = 0 ∨ k = 1 ∨ k = 2 := by omega
    clear hk
    rcases hk3 with rfl | rfl | rfl
    · by_cases hz : a = 0
      · have hz' : (a == 0) = true := by simp [hz]
        have HZ := Lib.hid hz
        clear hz
        go_wp2_with fail
        exact ⟨⟨1, by go_num, by omega, fun _ => HZ.out, by omega⟩, by simp [intOf]⟩
      · have hz' : (a == 0) = false := by simp [hz]
        have HZ := Lib.hid hz
        clear hz
        go_wp2_with fail
        go_ret
        exact ⟨by rw [or2, if_neg HZ.out]; rfl, rfl⟩
    · by_cases hz : b = 0
      · have hz' : (b == 0) = true := by simp [hz]
        have HZ := Lib.hid hz
        clear hz
        go_wp2_with fail
        exact ⟨⟨2, by go_num, by omega, fun _ => HA.out (by omega), fun _ => HZ.out⟩, by simp [intOf]⟩
      · have hz' : (b == 0) = false := by simp [hz]
        have HZ := Lib.hid hz
        clear hz
        go_wp2_with fail
        go_ret
        exact ⟨by rw [or2, if_pos (HA.out (by omega))]; rfl, rfl⟩
    · go_wp2_with fail
      go_ret
      exact ⟨by rw [or2, if_pos (HA.out (by omega)), HB.out (by omega)]; rfl, rfl⟩

/-- All that was there is as it was; draws and blocks have come. -/
def Grown (w W : World) : Prop := Below w.heap.size w W ∧ w.drawn ≤ W.drawn

theorem Grown.refl (w : World) : Grown w w := ⟨Below.refl _ _, Nat.le_refl _⟩
theorem Grown.alloc {w W : World} (h : Grown w W) (o : Obj) : Grown w (W.alloc o) := ⟨(kept_below h.1).alloc h.1.size o, h.2⟩
theorem Grown.drew {w W : World} (h : Grown w W) : Grown w W.drew := ⟨h.1.drew, Nat.le_trans h.2 (Nat.le_succ _)⟩
theorem Grown.trans {a b c : World} (h : Grown a b) (k : Grown b c) : Grown a c := ⟨below_step h.1 k.1, Nat.le_trans h.2 k.2⟩

theorem Grown.grow {w W : World} (h : Grown w W) : ∃ q os, W = Sort.grow (w.drewN q) os := by
  obtain ⟨hb, hd⟩ := h
  refine ⟨W.drawn - w.drawn, W.heap.extract w.heap.size W.heap.size, ?_⟩
  have hh : W.heap = w.heap ++ W.heap.extract w.heap.size W.heap.size := by
    apply Array.ext_getElem?
    intro i
    have hs := hb.size
    by_cases hi : i < w.heap.size
    · rw [hb.block i hi, Array.getElem?_append_left hi]
    · rw [Array.getElem?_append_right (by omega)]
      simp only [Array.getElem?_extract]
      by_cases hi2 : i < W.heap.size
      · rw [if_pos (by omega), show w.heap.size + (i - w.heap.size) = i by omega]
      · rw [if_neg (by omega), Array.getElem?_eq_none (by omega)]
  have e1 := hb.os
  have e2 := hb.tape
  have e3 := hb.output
  obtain ⟨H, T, D, O, U⟩ := W
  obtain ⟨H', T', D', O', U'⟩ := w
  simp only at hh e1 e2 e3 hd
  subst e1 e2 e3
  have e4 : D' + (D - D') = D := by omega
  unfold Sort.grow World.drewN
  simp only [World.mk.injEq, true_and, and_true]
  exact ⟨hh, e4.symm⟩

theorem grown_alloc4 {w W : World} {a b c d : Addr} {u v x y : Value} (o : Obj) (h : (W.cell? a = some u ∧ W.cell? b = some v ∧ W.cell? c = some x ∧ W.cell? d = some y) ∧ Grown w W) :
    ((W.alloc o).cell? a = some u ∧ (W.alloc o).cell? b = some v ∧ (W.alloc o).cell? c = some x ∧ (W.alloc o).cell? d = some y) ∧ Grown w (W.alloc o) :=
  ⟨⟨cell_alloc h.1.1, cell_alloc h.1.2.1, cell_alloc h.1.2.2.1, cell_alloc h.1.2.2.2⟩, h.2.alloc o⟩

set_option maxHeartbeats 800000 in
theorem compare_grown (t r t' r' : Int) (w : World) :
    Calls Tryz.prog 29 #[.agg #[.int .i64 t, .int .i64 r], .agg #[.int .i64 t', .int .i64 r']] w fun e w' => e = .returned (.int .i64 (cmp t r t' r')) ∧ Grown w w' := by
  have hv := or2_cmp t r t' r'
  obtain ⟨x, hx⟩ : ∃ x, x = cmp1 t t' := ⟨_, rfl⟩
  obtain ⟨y, hy⟩ : ∃ y, y = cmp1 r r' := ⟨_, rfl⟩
  have H1 : Hid (∀ W : World, Calls Tryz.prog 59 #[.int .i64 t, .int .i64 t'] W fun e w' => e = .returned (.int .i64 x) ∧ W = w') := fun W => by rw [hx]; exact compare64 _ _ W
  have H2 : Hid (∀ W : World, Calls Tryz.prog 60 #[.int .i64 r, .int .i64 r'] W fun e w' => e = .returned (.int .i64 y) ∧ W = w') := fun W => by rw [hy]; exact compareInt _ _ W
  rw [← hx, ← hy] at hv
  have HV := Lib.hid hv
  clear hv hx hy
  go_enter Tryz.func29, Tryz.ntmps29
  go_wp2_with fail
  have hS0 : (((w.alloc (.cells #[.int .i64 t, .int .i64 r] 31)).alloc (.cells #[.int .i64 t', .int .i64 r'] 31)).drew.cell? ⟨w.heap.size, 0, none⟩ = some (.int .i64 t) ∧ ((w.alloc (.cells #[.int .i64 t, .int .i64 r] 31)).alloc (.cells #[.int .i64 t', .int .i64 r'] 31)).drew.cell? ⟨w.heap.size, 1, none⟩ = some (.int .i64 r) ∧ ((w.alloc (.cells #[.int .i64 t, .int .i64 r] 31)).alloc (.cells #[.int .i64 t', .int .i64 r'] 31)).drew.cell? ⟨w.heap.size + 1, 0, none⟩ = some (.int .i64 t') ∧ ((w.alloc (.cells #[.int .i64 t, .int .i64 r] 31)).alloc (.cells #[.int .i64 t', .int .i64 r'] 31)).drew.cell? ⟨w.heap.size + 1, 1, none⟩ = some (.int .i64 r')) ∧ Grown w ((w.alloc (.cells #[.int .i64 t, .int .i64 r] 31)).alloc (.cells #[.int .i64 t', .int .i64 r'] 31)).drew := by
    refine ⟨⟨?_, ?_, ?_, ?_⟩, (((Grown.refl _).alloc _).alloc _).drew⟩
    · exact cell_of_row _ _ 0 _ _ (0, 0) (heap_alloc2_old w _ _)
    · exact cell_of_row _ _ 1 _ _ (0, 0) (heap_alloc2_old w _ _)
    · exact cell_of_row _ _ 0 _ _ (0, 0) (heap_alloc2_new w _ _)
    · exact cell_of_row _ _ 1 _ _ (0, 0) (heap_alloc2_new w _ _)
  go_region_held3 (fun W => (W.cell? ⟨w.heap.size, 0, none⟩ = some (.int .i64 t) ∧ W.cell? ⟨w.heap.size, 1, none⟩ = some (.int .i64 r) ∧ W.cell? ⟨w.heap.size + 1, 0, none⟩ = some (.int .i64 t') ∧ W.cell? ⟨w.heap.size + 1, 1, none⟩ = some (.int .i64 r')) ∧ Grown w W) (first | assumption | exact grown_alloc4 _ (by assumption) | (refine ⟨⟨?_, ?_, ?_, ?_⟩, ?_⟩ <;> assumption))
    (first
      | (go_at_call 59; (with_reducible refine (H1.out _).mono ?_); rintro e w' ⟨rfl, rfl⟩; have hS := hS0)
      | (go_at_call 60; (with_reducible refine (H2.out _).mono ?_); rintro e w' ⟨rfl, rfl⟩; have hS := hS0)
      | (go_at_call 58; refine (or_any _ x y _ ?_ ?_).mono ?_; exact (cell_third w _ _ _ _ _).1; exact (cell_third w _ _ _ _ _).2; rintro e w' ⟨rfl, rfl⟩; have hS := ‹(_ ∧ _ ∧ _ ∧ _) ∧ Grown w _›))
  have hB := (show Grown w _ from And.right ‹(_ ∧ _ ∧ _ ∧ _) ∧ Grown w _›)
  clear hS0
  go_wp2_with fail
  go_ret
  exact ⟨by rw [← HV.out]; rfl, hB⟩

end Go.Proofs.YtoobmkkmomiigaaGreat

/-
  The order of entries and of inodes as a sort's own: it needs no program.
-/
namespace Go.Proofs.YtoobmkkmomiigaaGreat.GraphMath
open StampMath

instance entThere : Inhabited Ent := ⟨⟨(0, 0), ⟨#[]⟩, (0, 0)⟩⟩
instance inoThere : Inhabited Ino := ⟨noIno⟩

theorem sorted_only {α : Type} {r : α → α → Bool} (irr : ∀ x, r x x = false) (tr : ∀ x y z, r x y = true → r y z = true → r x z = true) {l E : List α} (hE : E.Pairwise fun a b => r a b = true) (hp : l.Perm E) (hs : l.Pairwise fun x y => r y x = false) : l = E := by
  have asym : ∀ x y, r x y = true → r y x = false := fun x y h => by
    cases hq : r y x with
    | false => rfl
    | true => have := tr x y x h hq; rw [irr] at this; cases this
  refine List.Perm.eq_of_pairwise (le := fun x y => r y x = false) (fun a b ha hb h1 h2 => ?_) hs (hE.imp fun h => asym _ _ h) hp
  have all : ∀ x ∈ E, ∀ y ∈ E, x = y ∨ r x y = true ∨ r y x = true := by
    intro x hx y hy
    obtain ⟨i, hi, rfl⟩ := List.getElem_of_mem hx
    obtain ⟨j, hj, rfl⟩ := List.getElem_of_mem hy
    have q := List.pairwise_iff_getElem.1 hE
    rcases Nat.lt_trichotomy i j with h | h | h
    · exact Or.inr (Or.inl (q i j hi hj h))
    · subst h; exact Or.inl rfl
    · exact Or.inr (Or.inr (q j i hj hi h))
  rcases all a (hp.mem_iff.1 ha) b hb with h | h | h
  · exact h
  · rw [h] at h2; cases h2
  · rw [h] at h1; cases h1

theorem bytesLess_eq : ∀ (x y : List UInt8), Op.bytesLess x y = decide (x < y)
  | [], [] => by simp [Op.bytesLess]
  | _ :: _, [] => by simp [Op.bytesLess]
  | [], _ :: _ => by simp [Op.bytesLess]
  | a :: x, b :: y => by
    rw [Op.bytesLess, bytesLess_eq x y]
    simp only [List.cons_lt_cons_iff]
    by_cases h1 : a < b <;> by_cases h2 : a = b <;> by_cases h3 : x < y <;> simp [h1, h2, h3]

theorem namesLess_eq (a b : ByteArray) : Op.bytesLess a.toList b.toList = decide (a.data.toList < b.data.toList) := by
  rw [bytesLess_eq, ByteArray.toList_eq, ByteArray.toList_eq]

/-- What package cmp's Compare tells of two strings. -/
def cmpB (a b : List UInt8) : Int := if a < b then -1 else if a = b then 0 else 1

theorem cmpB_lt (a b : List UInt8) : cmpB a b < 0 ↔ a < b := by
  unfold cmpB
  by_cases h : a < b
  · simp [h]
  · rw [if_neg h]
    by_cases h2 : a = b <;> simp [h, h2]

/-- What comparing two entries tells. -/
def aheadI (x y : Ent) : Int := if cmp x.dir.1 x.dir.2 y.dir.1 y.dir.2 = 0 then cmpB x.name.data.toList y.name.data.toList else cmp x.dir.1 x.dir.2 y.dir.1 y.dir.2

theorem cmp_lt (a b : St) : cmp a.1 a.2 b.1 b.2 < 0 ↔ lessS a b = true := by
  show (if lessS a b = true then (-1 : Int) else if lessS b a = true then 1 else 0) < 0 ↔ _
  by_cases h : lessS a b = true
  · simp [h]
  · rw [if_neg h]
    by_cases h2 : lessS b a = true <;> simp [h, h2]

theorem cmp_zero (a b : St) : cmp a.1 a.2 b.1 b.2 = 0 ↔ a = b := by
  show (if lessS a b = true then (-1 : Int) else if lessS b a = true then 1 else 0) = 0 ↔ _
  constructor
  · intro h
    by_cases h1 : lessS a b = true
    · rw [if_pos h1] at h; omega
    · rw [if_neg h1] at h
      by_cases h2 : lessS b a = true
      · rw [if_pos h2] at h; omega
      · by_cases he : a = b
        · exact he
        · exact absurd (lessS_total (Bool.eq_false_iff.2 h1) he) h2
  · rintro rfl
    rw [if_neg (by rw [lessS_irrefl]; simp), if_neg (by rw [lessS_irrefl]; simp)]

theorem aheadI_lt (x y : Ent) : ltOf aheadI x y = aheadE x y := by
  unfold ltOf aheadI
  rw [Bool.eq_iff_iff, decide_eq_true_iff, aheadE_iff]
  by_cases h : x.dir = y.dir
  · rw [if_pos ((cmp_zero _ _).2 h), cmpB_lt, h, lessS_irrefl]
    simp
  · rw [if_neg (fun q => h ((cmp_zero _ _).1 q)), cmp_lt]
    simp [h]

theorem aheadE_irrefl (x : Ent) : aheadE x x = false := by
  rw [Bool.eq_false_iff]
  intro h
  rcases (aheadE_iff x x).1 h with q | ⟨_, q⟩
  · rw [lessS_irrefl] at q; cases q
  · exact bytes_irrefl _ q

theorem aheadE_ntrans {x y z : Ent} (h1 : aheadE x y = false) (h2 : aheadE y z = false) : aheadE x z = false := by
  rw [Bool.eq_false_iff]
  intro h
  by_cases he : x.dir = y.dir ∧ x.name = y.name
  · rw [aheadE_iff, he.1, he.2, ← aheadE_iff, h2] at h
    cases h
  · have := aheadE_trans (aheadE_total h1 he) h
    rw [h2] at this
    cases this

theorem swo_ents : Sort.SWO (ltOf aheadI) where
  irrefl x := by rw [aheadI_lt]; exact aheadE_irrefl x
  trans x y z h1 h2 := by rw [aheadI_lt] at *; exact aheadE_trans h1 h2
  ntrans x y z h1 h2 := by rw [aheadI_lt] at *; exact aheadE_ntrans h1 h2

/-- What comparing two inodes tells. -/
def inoI (x y : Ino) : Int := cmp x.id.1 x.id.2 y.id.1 y.id.2

theorem inoI_lt (x y : Ino) : ltOf inoI x y = lessS x.id y.id := by
  unfold ltOf inoI
  rw [Bool.eq_iff_iff, decide_eq_true_iff, cmp_lt]

theorem swo_inos : Sort.SWO (ltOf inoI) where
  irrefl x := by rw [inoI_lt]; exact lessS_irrefl _
  trans x y z h1 h2 := by rw [inoI_lt] at *; exact lessS_trans h1 h2
  ntrans x y z h1 h2 := by
    rw [inoI_lt] at *
    rw [Bool.eq_false_iff]
    intro h
    by_cases he : x.id = y.id
    · rw [he, h2] at h; cases h
    · have := lessS_trans (lessS_total h1 he) h
      rw [h2] at this; cases this

theorem sorted_ents {l E : List Ent} (hE : E.Pairwise fun a b => aheadE a b = true) (hp : l.Perm E) (hs : l.Pairwise fun x y => ltOf aheadI y x = false) : l = E :=
  sorted_only aheadE_irrefl (fun _ _ _ => aheadE_trans) hE hp (hs.imp fun h => by rwa [aheadI_lt] at h)

theorem sorted_inos {l I : List Ino} (hI : I.Pairwise fun a b => lessS a.id b.id = true) (hp : l.Perm I) (hs : l.Pairwise fun x y => ltOf inoI y x = false) : l = I :=
  sorted_only (r := fun a b => lessS a.id b.id) (fun _ => lessS_irrefl _) (fun _ _ _ => lessS_trans) hI hp (hs.imp fun h => by rwa [inoI_lt] at h)

end Go.Proofs.YtoobmkkmomiigaaGreat.GraphMath

/-
  The walks of package cmp's functions at strings; cells that are kept beside them.
-/
namespace Go.Proofs.YtoobmkkmomiigaaGreat
open Go.RowKit StampMath GraphMath

theorem nanStr (s : ByteArray) (w : World) : Calls Tryz.prog 77 #[.string s] w fun e w' => e = .returned (.bool false) ∧ w = w' := by
  go_enter Tryz.func77, Tryz.ntmps77
  go_wp2_with fail
  go_ret
  exact ⟨by simp, rfl⟩

set_option maxHeartbeats 400000 in
theorem compareStr (x y : ByteArray) (w : World) : Calls Tryz.prog 65 #[.string x, .string y] w fun e w' => e = .returned (.int .i64 (cmpB x.data.toList y.data.toList)) ∧ w = w' := by
  have hcase : (Op.bytesLess x.toList y.toList = true ∧ cmpB x.data.toList y.data.toList = -1) ∨ (Op.bytesLess x.toList y.toList = false ∧ (x.toList == y.toList) = true ∧ cmpB x.data.toList y.data.toList = 0) ∨ (Op.bytesLess x.toList y.toList = false ∧ (x.toList == y.toList) = false ∧ cmpB x.data.toList y.data.toList = 1) := by
    rw [namesLess_eq, ByteArray.toList_eq, ByteArray.toList_eq]
    unfold cmpB
    by_cases h1 : x.data.toList < y.data.toList
    · exact Or.inl ⟨decide_eq_true h1, by rw [if_pos h1]⟩
    · by_cases h2 : x.data.toList = y.data.toList
      · exact Or.inr (Or.inl ⟨decide_eq_false h1, beq_iff_eq.2 h2, by rw [if_neg h1, if_pos h2]⟩)
      · exact Or.inr (Or.inr ⟨decide_eq_false h1, beq_eq_false_iff_ne.2 h2, by rw [if_neg h1, if_neg h2]⟩)
  rcases hcase with ⟨h1, h⟩ | ⟨h1, h2, h⟩ | ⟨h1, h2, h⟩
  all_goals
    rw [h]
    clear h
    go_enter Tryz.func65, Tryz.ntmps65
    go_wp2_with fail
    refine (nanStr _ _).mono ?_
    rintro e w' ⟨rfl, rfl⟩
    go_wp2_with fail
    refine (nanStr _ _).mono ?_
    rintro e w' ⟨rfl, rfl⟩
    go_wp2_with fail
    go_ret
    exact ⟨rfl, rfl⟩

theorem cells6_alloc {w W : World} {a b c d a' b' : Addr} {u v x y z t : Value} (o : Obj) (h : (W.cell? a = some u ∧ W.cell? b = some v ∧ W.cell? c = some x ∧ W.cell? d = some y ∧ W.cell? a' = some z ∧ W.cell? b' = some t) ∧ Grown w W) :
    ((W.alloc o).cell? a = some u ∧ (W.alloc o).cell? b = some v ∧ (W.alloc o).cell? c = some x ∧ (W.alloc o).cell? d = some y ∧ (W.alloc o).cell? a' = some z ∧ (W.alloc o).cell? b' = some t) ∧ Grown w (W.alloc o) :=
  ⟨⟨cell_alloc h.1.1, cell_alloc h.1.2.1, cell_alloc h.1.2.2.1, cell_alloc h.1.2.2.2.1, cell_alloc h.1.2.2.2.2.1, cell_alloc h.1.2.2.2.2.2⟩, h.2.alloc o⟩

theorem cells6_later {w W W' : World} {a b c d a' b' : Addr} {u v x y z t : Value} (hg : Grown W W') (h : (W.cell? a = some u ∧ W.cell? b = some v ∧ W.cell? c = some x ∧ W.cell? d = some y ∧ W.cell? a' = some z ∧ W.cell? b' = some t) ∧ Grown w W) :
    (W'.cell? a = some u ∧ W'.cell? b = some v ∧ W'.cell? c = some x ∧ W'.cell? d = some y ∧ W'.cell? a' = some z ∧ W'.cell? b' = some t) ∧ Grown w W' :=
  ⟨⟨cell_later hg.1 h.1.1, cell_later hg.1 h.1.2.1, cell_later hg.1 h.1.2.2.1, cell_later hg.1 h.1.2.2.2.1, cell_later hg.1 h.1.2.2.2.2.1, cell_later hg.1 h.1.2.2.2.2.2⟩, h.2.trans hg⟩

theorem cell_two (w : World) (a b : Value) (T : TypeId) :
    (w.alloc (.cells #[a, b] T)).cell? ⟨w.heap.size, 0, none⟩ = some a ∧ (w.alloc (.cells #[a, b] T)).cell? ⟨w.heap.size, 1, none⟩ = some b :=
  ⟨cell_of_row _ _ 0 _ _ (0, 0) (heap_alloc_new w _), cell_of_row _ _ 1 _ _ (0, 0) (heap_alloc_new w _)⟩

end Go.Proofs.YtoobmkkmomiigaaGreat
