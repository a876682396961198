/-
  The landed audit's look: what is looked up in inodes (by a range over slices.Backward) and in entries.
-/
import Derived.Test.YtoobmkkmomiigaaAuditBack
import Derived.Test.YtoobmkkmomiigaaAuditCodeB
import Derived.Test.YtoobmkkmomiigaaKmapEntry
import Derived.Deep.LoopGhost
import Derived.Deep.Cut
import Derived.Maps.Own
import Derived.Maps.OwnOps
namespace Go.Proofs.Ytoobmkkmomiigaa
open Go.RowKit StampMath GraphMath

/-- What is looked up in inodes that came from the end on. -/
theorem kindI_cons (x : Ino) (N : List Ino) (id : St) : kindI (x :: N) id = if x.id = id then some x.kind else kindI N id := by
  unfold kindI
  rw [List.find?_cons]
  by_cases h : x.id = id
  · rw [decide_eq_true h, if_pos h]; rfl
  · rw [decide_eq_false h, if_neg h]

theorem off_of {K V : Type} [DecidableEq K] (L : List (K × V)) (k x : K) : lookL (offL L k) x = if k = x then none else lookL L x := by
  unfold lookL offL
  induction L with
  | nil => by_cases h : k = x <;> simp [h]
  | cons p l ih =>
    rw [List.filter_cons]
    by_cases hp : p.1 = k
    · rw [decide_eq_true hp, Bool.not_true, if_neg (by decide), ih, List.find?_cons]
      by_cases h : k = x
      · rw [if_pos h, if_pos h]
      · rw [if_neg h, if_neg h, decide_eq_false (by rw [hp]; exact h)]
    · rw [decide_eq_false hp, Bool.not_false, if_pos rfl, List.find?_cons, List.find?_cons]
      by_cases h : p.1 = x
      · rw [decide_eq_true h]
        have : ¬ k = x := fun q => hp (by rw [h, q])
        rw [if_neg this]
      · rw [decide_eq_false h]
        exact ih

theorem look_put {K V : Type} [DecidableEq K] (L : List (K × V)) (k : K) (v : V) (x : K) : lookL ((k, v) :: offL L k) x = if k = x then some v else lookL L x := by
  by_cases h : k = x
  · rw [if_pos h]
    unfold lookL
    rw [List.find?_cons, decide_eq_true h]
    rfl
  · rw [if_neg h]
    have : lookL ((k, v) :: offL L k) x = lookL (offL L k) x := by
      unfold lookL
      rw [List.find?_cons, decide_eq_false h]
    rw [this, off_of, if_neg h]

theorem links_snoc (E : List Ent) (k : Nat) (hk : k < E.length) (id : St) : (linksE (E.take (k + 1)) id : Int) = (linksE (E.take k) id : Int) + if E[k].ino = id then 1 else 0 := by
  rw [List.take_succ_eq_append_getElem hk]
  unfold linksE
  rw [List.filter_append, List.length_append, List.filter_cons]
  by_cases h : E[k].ino = id
  · simp [h]
  · simp [h]

/-- What a round of look's first loop holds: its own inode in a box. -/
def LkAt (A A' : Option Addr) (n c m d s : Nat) (x : Int × Ino) (a : Act) (W : World) : Prop :=
  ∃ q, a = { tmps := #[.slice A n c, .slice A' m d, undef, undef, .pointer (some ⟨s, 0, none⟩), .pointer (some ⟨s + 1 + 1 + 1, 0, none⟩), undef, .pointer (some ⟨q, 0, none⟩), undef, undef, .slice A n c, .slice A' m d, .map (some (s + 1)), .map (some (s + 1 + 1)), .agg #[.slice A n c, .slice A' m d, .map (some (s + 1)), .map (some (s + 1 + 1))], .slice A n c, .func (.func 49) #[] #[.pointer (some ⟨s + 1 + 1 + 1 + 1, 0, none⟩)], .int .i64 x.1, .agg (inoA x.2), undef, undef, undef, undef, undef, undef, undef, undef, undef, undef, undef, undef, undef, undef, undef, undef, undef, undef, undef, undef, undef, undef], defers := [] } ∧ W.heap[q]? = some (.cells (inoA x.2) 31 (0, 0))

theorem lk_own (A A' : Option Addr) (n c m d s B0 : Nat) (x : Int × Ino) (a : Act) : OwnFrom B0 (fun (_ : Unit) W => LkAt A A' n c m d s x a W) := by
  rintro _ W W' row ⟨q, ha, hq⟩ hg hr
  refine ⟨q, ha, (hg.block q (heap_lt hq) fun e => ?_).trans hq⟩
  obtain ⟨_, o, ho, hc⟩ := hr q e.symm
  rw [hq] at ho
  cases ho
  cases hc

/-- What lies in memory between the rounds of look's first loop. -/
structure LkI (w : World) (A A' : Option Addr) (n c m d s B0 : Nat) (pre : List (Int × Ino)) (W : World) : Prop where
  res : W.heap[s]? = some (.cells #[.slice none 0 0, .slice none 0 0, .map none, .map none] 44 (0, 0))
  lists : W.heap[s + 1 + 1 + 1]? = some (.cells #[.slice A n c, .slice A' m d, .map (some (s + 1)), .map (some (s + 1 + 1))] 44 (0, 0))
  kinds : ∃ K : List (St × Int), KMap stV iV W (s + 1) K ∧ ∀ id, lookL K id = kindI (pre.map Prod.snd).reverse id
  links : KMap stV iV W (s + 1 + 1) ([] : List (St × Int))
  below : Below w.heap.size w W
  size : B0 ≤ W.heap.size

theorem LkI.step {w : World} {A A' : Option Addr} {n c m d s B0 : Nat} {pre : List (Int × Ino)} {W W' : World} (h : LkI w A A' n c m d s B0 pre W) (hs : s + 1 + 1 + 1 < B0) (hb : Below w.heap.size w W') (hz : B0 ≤ W'.heap.size) (hk : ∀ k, k < B0 → W'.heap[k]? = W.heap[k]?) : LkI w A A' n c m d s B0 pre W' := by
  obtain ⟨K, k1, k2⟩ := h.kinds
  exact ⟨(hk _ (by omega)).trans h.res, (hk _ hs).trans h.lists, ⟨K, k1.kept (hk _ (by omega)), k2⟩, h.links.kept (hk _ (by omega)), hb, hz⟩

theorem lkI_own (w : World) (A A' : Option Addr) (n c m d s B0 : Nat) (hs : s + 1 + 1 + 1 < B0) (hw : w.heap.size ≤ B0) : OwnFrom B0 (fun (pre : List (Int × Ino)) W => LkI w A A' n c m d s B0 pre W) := by
  intro pre W W' row h hg hr
  refine h.step hs ?_ (Nat.le_trans h.size hg.size) fun k hk => hg.block k (by have := h.size; omega) fun e => by have := (hr k e.symm).1; omega
  exact h.below.grown hg h.below.size fun q e => by have := (hr q e).1; omega

theorem but_four (w : World) (s : Nat) (a b c d : Value) : But (fun i => i = s) w ((((w.setCell ⟨s, 0, none⟩ a).setCell ⟨s, 1, none⟩ b).setCell ⟨s, 2, none⟩ c).setCell ⟨s, 3, none⟩ d) := by
  refine But.setCell (But.setCell (But.setCell (But.setCell (But.refl (fun i => i = s) w) ?_ a) ?_ b) ?_ c) ?_ d
  all_goals exact Or.inl rfl

theorem four_put {w : World} {s : Nat} {x y z t : Value} {T : TypeId} (h : w.heap[s]? = some (.cells #[x, y, z, t] T (0, 0))) (a b c d : Value) :
    ((((w.setCell ⟨s, 0, none⟩ a).setCell ⟨s, 1, none⟩ b).setCell ⟨s, 2, none⟩ c).setCell ⟨s, 3, none⟩ d).heap[s]? = some (.cells #[a, b, c, d] T (0, 0)) := by
  rw [heap_setCell_same _ _ _ _ _ _ (heap_setCell_same _ _ _ _ _ _ (heap_setCell_same _ _ _ _ _ _ (heap_setCell_same _ _ _ _ _ _ h)))]
  rfl

section
attribute [local go_sem] Oper.semAt_some

set_option maxRecDepth 100000 in
set_option maxHeartbeats 4000000 in
theorem look_code (A A' : Option Addr) (n c m d : Nat) (N : List Ino) (E : List Ent) (w : World) (h : Given w A n N A' m E) :
    Calls Try.prog 15 #[.slice A n c, .slice A' m d] w fun e w' => ∃ bk bl, e = .returned (.agg #[.slice A n c, .slice A' m d, .map (some bk), .map (some bl)]) ∧ Looked w' bk bl N E ∧ Below w.heap.size w w' := by
  have hn := h.fewI
  have hm := h.fewE
  have hE := h.ents.len
  have HG := Lib.hid h
  clear h
  refine (callsIn_wide (n := 5)).1 ?_
  refine callsIn_of_wp_marks Try.func15 rfl trivial ?_ rfl
  simp only [Try.ntmps15, List.size_toArray, List.length_cons, List.length_nil, Nat.reduceAdd, Nat.reduceSub, Array.replicate_succ, Array.replicate_zero, List.push_toArray, List.append_toArray, List.nil_append, List.cons_append]
  have hmk : ∀ W : World, (Instr.makeMap 42 none).run Try.prog W = .ok (.map (some W.heap.size)) (W.alloc (.map #[] 0)) := fun _ => rfl
  gi_wp2_with fail
  refine ⟨trivial, (callsIn_wide.2 (backward_code _ A n c rfl _)).mono ?_⟩
  rintro e w' ⟨rfl, rfl⟩
  clear hmk
  gi_wp2_with fail
  have hH := (((((Held.refl w).alloc (.cells #[.slice none 0 0, .slice none 0 0, .map none, .map none] 44) rfl).alloc (g := w.heap.size + 1) (.map #[] 0) (by simp)).alloc (g := w.heap.size + 1 + 1) (.map #[] 0) (by simp)).alloc (g := w.heap.size + 1 + 1 + 1) (.cells #[.slice A n c, .slice A' m d, .map (some (w.heap.size + 1)), .map (some (w.heap.size + 1 + 1))] 44) (by simp)).alloc (g := w.heap.size + 1 + 1 + 1 + 1) (.cells #[.slice A n c] 22) (by simp)
  have hz0 : (((((w.alloc (.cells #[.slice none 0 0, .slice none 0 0, .map none, .map none] 44)).alloc (.map #[] 0)).alloc (.map #[] 0)).alloc (.cells #[.slice A n c, .slice A' m d, .map (some (w.heap.size + 1)), .map (some (w.heap.size + 1 + 1))] 44)).alloc (.cells #[.slice A n c] 22)).heap.size = w.heap.size + 1 + 1 + 1 + 1 + 1 := by simp
  generalize (((((w.alloc (.cells #[.slice none 0 0, .slice none 0 0, .map none, .map none] 44)).alloc (.map #[] 0)).alloc (.map #[] 0)).alloc (.cells #[.slice A n c, .slice A' m d, .map (some (w.heap.size + 1)), .map (some (w.heap.size + 1 + 1))] 44)).alloc (.cells #[.slice A n c] 22)) = W0 at hH hz0 ⊢
  have hI0 : LkI w A A' n c m d w.heap.size W0.heap.size [] W0 :=
    ⟨hH.at 4 rfl, hH.at 1 rfl, ⟨[], ⟨#[], 0, [], hH.at 3 rfl, MapKept.stamped_empty 0, rfl, List.Perm.nil⟩, fun id => rfl⟩, ⟨#[], 0, [], hH.at 2 rfl, MapKept.stamped_empty 0, rfl, List.Perm.nil⟩, hH.below, Nat.le_refl _⟩
  have hb4 := hH.at 0 rfl
  have hin : InosIn W0 W0.heap.size A n N := (HG.out.inos.below hH.below).more hH.below.size
  obtain ⟨s, hs⟩ : ∃ s, s = w.heap.size := ⟨_, rfl⟩
  rw [← hs] at hz0 hI0 hb4 ⊢
  have hsB : s + 1 + 1 + 1 < W0.heap.size := by omega
  have hws : w.heap.size ≤ s := Nat.le_of_eq hs.symm
  have hwB : w.heap.size ≤ W0.heap.size := by omega
  have HS := Lib.hid hs
  clear hH hs
  refine wpIn_rangeFunc_ownH rfl (by decide) (gf := 49) (lb := #[.pointer (some ⟨s + 1 + 1 + 1 + 1, 0, none⟩)]) rfl trivial (enters_of Try.func49 (by kernel_rfl) rfl)
    (backward_stops (5 - 1) (by decide) (s + 1 + 1 + 1 + 1) A n c N hn W0 hb4 hin) (fun h k => KeepsRows.trans h k) (fun W l o o' _ hl hc _ => KeepsRows.putObj o' hl hc) (Below.refl _ _) (fun _ => rfl)
    (fun (pre : List (Int × Ino)) W => LkI w A A' n c m d s W0.heap.size pre W)
    (fun _ _ _ => False)
    (lkI_own w A A' n c m d s _ hsB hwB)
    (fun _ _ _ _ _ hs _ _ => hs)
    hI0
    (fun x a' W => LkAt A A' n c m d s x a' W) (fun x a' => lk_own _ _ _ _ _ _ _ _ x a') ?assign ?body ?done ?stop
  case assign =>
    rintro l pre x W K hI hK
    have hK' := hK { tmps := #[.slice A n c, .slice A' m d, undef, undef, .pointer (some ⟨s, 0, none⟩), .pointer (some ⟨s + 1 + 1 + 1, 0, none⟩), undef, .pointer (some ⟨W.heap.size, 0, none⟩), undef, undef, .slice A n c, .slice A' m d, .map (some (s + 1)), .map (some (s + 1 + 1)), .agg #[.slice A n c, .slice A' m d, .map (some (s + 1)), .map (some (s + 1 + 1))], .slice A n c, .func (.func 49) #[] #[.pointer (some ⟨s + 1 + 1 + 1 + 1, 0, none⟩)], .int .i64 x.1, .agg (inoA x.2), undef, undef, undef, undef, undef, undef, undef, undef, undef, undef, undef, undef, undef, undef, undef, undef, undef, undef, undef, undef, undef, undef], defers := [] } (W.alloc (.cells (inoA x.2) 31))
      ((KeepsOthers.alloc _ _).from _) (KeepsRows.alloc _ _) (hI.step hsB (hI.below.alloc hI.below.size _) (by have := hI.size; simp; omega) fun k hk => heap_alloc_old _ _ (by have := hI.size; omega)) ⟨W.heap.size, rfl, heap_alloc_new _ _⟩
    have HK := Lib.hid hK'
    clear hK hK' hI hI0
    obtain ⟨xi, ⟨i1, i2⟩, xk, xl, xm, xd⟩ := x
    simp only [backed, inoA] at HK ⊢
    gi_wp2_with fail
    exact HK.out
  case body =>
    rintro l pre x a' W hl _ hI ⟨q, rfl, hq⟩ hlt
    have hsz2 := hI.size
    obtain ⟨K, k1, k2⟩ := hI.kinds
    obtain ⟨w1, hrun, hm1, hbut, hsz⟩ := k1.store stShape Try.underlying42 x.2.id x.2.kind
    simp only [stV, stA, iV] at hrun
    have hc := cell_of_row _ _ 2 _ _ (0, 0) hI.lists
    obtain ⟨x0, x1, x2, x3, x4, x5⟩ := ino_cells hq
    have HI := Lib.hid hI
    have HM := Lib.hid hm1
    have HB := Lib.hid hbut
    have HK := Lib.hid k2
    have hkc : ∃ o, W.heap[s + 1]? = some o ∧ o.isCells = false := by
      obtain ⟨es, cl, M, q1, _⟩ := k1
      exact ⟨_, q1, rfl⟩
    clear hI hI0 k1 k2 hm1 hbut
    obtain ⟨xi, ⟨i1, i2⟩, xk, xl, xm, xd⟩ := x
    dsimp only at hrun x0 x1 x2 x3 x4 x5
    gi_wp2_with fail
    have hbk : ∀ k, k ≠ s + 1 → k < W.heap.size → w1.heap[k]? = W.heap[k]? := fun k h1 h2 => HB.out.block k h2 h1
    have hbelow : Below w.heap.size w w1 := HI.out.below.trans (HB.out.below (fun i hi => by omega) HI.out.below.size)
    refine ⟨⟨HB.out.size, fun k o h1 h2 h3 => (hbk k (by omega) (heap_lt h2)).trans h2⟩, KeepsRows.of_but HB.out (fun i o hi ho => ?_), ⟨(hbk _ (by omega) (by omega)).trans HI.out.res, (hbk _ (by omega) (by omega)).trans HI.out.lists, ⟨_, HM.out, fun id => ?_⟩, HI.out.links.kept (hbk _ (by omega) (by omega)), hbelow, by omega⟩⟩
    · obtain ⟨o', h1, h2⟩ := hkc
      rw [hi, h1] at ho
      cases ho
      exact h2
    · rw [look_put, List.map_append, List.reverse_append]
      simp only [List.map_cons, List.map_nil, List.reverse_cons, List.reverse_nil, List.nil_append, List.singleton_append]
      rw [kindI_cons, HK.out id]
  case done =>
    rintro D ys W hD hS hI hK
    obtain ⟨K, k1, k2⟩ := hI.kinds
    have hkK : Hid (∀ id, lookL K id = kindI N id) := fun id => by
      rw [k2 id, hS, List.reverse_reverse]
    have hsD : s + 1 + 1 + 1 < D := by omega
    have r0 := hI.res
    have r3 := hI.lists
    have HK1 := Lib.hid k1
    have HL0 := Lib.hid hI.links
    have hB0 := hI.below
    have hz := hI.size
    clear hI hI0 k1 k2 hS hin hb4
    dsimp only [Exit.inBlock, Exit.then]
    apply_assumption
    refine wpIn_wide.2 ?_
    go_wp2_with fail
    go_loopg [27] (m + 1) (fun gk i wr => ∃ k : Nat, i = .int .i64 (k : Int) ∧ gk + k = m + 1 ∧ k ≤ m ∧ Hid (KMap stV iV wr (s + 1) K) ∧ Hid (∃ L : List (St × Int), KMap stV iV wr (s + 1 + 1) L ∧ ∀ id, (lookL L id).getD 0 = (linksE (E.take k) id : Int)) ∧ wr.heap[s]? = some (.cells #[.slice none 0 0, .slice none 0 0, .map none, .map none] 44 (0, 0)) ∧ wr.heap[s + 1 + 1 + 1]? = some (.cells #[.slice A n c, .slice A' m d, .map (some (s + 1)), .map (some (s + 1 + 1))] 44 (0, 0)) ∧ wr.heap[D]? = some (.deferred (some [])) ∧ Hid (Below w.heap.size w wr))
    case atStart => exact ⟨0, rfl, by omega, by omega, HK1, ⟨[], HL0.out, fun id => rfl⟩, r0, r3, hK, hB0⟩
    case round =>
      obtain ⟨k, rfl, hgk, hk, hKs, hLs, q0, q3, qD, hB⟩ := hrel
      clear r0 r3 hK hB0 HK1 HL0 hz
      have hD := heap_lt qD
      by_cases hlt : k < m
      · obtain ⟨g, o, rfl, hg, hrow⟩ := HG.out.ents.row (by omega)
        have hlow := hB.out.size
        obtain ⟨e0, e1, e2, e3, e4⟩ := (hrow k (by omega)).below hB.out hg
        clear hrow
        obtain ⟨L, l1, l2⟩ := hLs.out
        have hsn := fun id => links_snoc E k (by omega) id
        have hnum : (linksE (E.take k) E[k].ino : Int) ≤ 1000 := by have := linksE_le (E.take k) E[k].ino; rw [List.length_take] at this; omega
        generalize E[k] = x at e0 e1 e2 e3 e4 hsn hnum
        obtain ⟨⟨d1, d2⟩, nm, ⟨i1, i2⟩⟩ := x
        dsimp only at e0 e1 e2 e3 e4 hsn hnum
        have HSn := Lib.hid hsn
        clear hsn hLs
        go_upto_region 8 with fail
        change Code.wp _ _ _ _ (wr.alloc (.cells (entA ⟨(d1, d2), nm, (i1, i2)⟩) 33))
        obtain ⟨u, hu⟩ : ∃ u, u = wr.heap.size := ⟨_, rfl⟩
        have hDu : D < u := by omega
        have t9 : (wr.alloc (.cells (entA ⟨(d1, d2), nm, (i1, i2)⟩) 33)).heap[u]? = some (.cells (entA ⟨(d1, d2), nm, (i1, i2)⟩) 33 (0, 0)) := by rw [hu]; exact heap_alloc_new _ _
        have hbA : Below wr.heap.size wr (wr.alloc (.cells (entA ⟨(d1, d2), nm, (i1, i2)⟩) 33)) := (Below.refl _ _).alloc (Nat.le_refl _) _
        rw [← hu]
        generalize wr.alloc (.cells (entA ⟨(d1, d2), nm, (i1, i2)⟩) 33) = w2 at t9 hbA ⊢
        have hB2 := below_step hB.out hbA
        have HK2 := Lib.hid (hKs.out.kept (hbA.block _ (by omega)))
        have l12 := l1.kept (hbA.block _ (by omega))
        have p0 := (hbA.block _ (by omega)).trans q0
        have p3 := (hbA.block _ (by omega)).trans q3
        have pD := (hbA.block _ hD).trans qD
        clear hbA hB hKs l1 q0 q3 qD e0 e1 e2 e3 e4 hu hlow hD
        obtain ⟨e0, e1, e2, e3, e4⟩ := ent_cells t9
        have c3 := cell_of_row _ _ 3 _ _ (0, 0) p3
        obtain ⟨v, hv⟩ : ∃ v, v = (linksE (E.take k) (i1, i2) : Int) := ⟨_, rfl⟩
        have hv2 : (lookL L (i1, i2)).getD 0 = v := by rw [hv]; exact l2 (i1, i2)
        have hwr : wrap64 (v + 1) = v + 1 := by
          have : 0 ≤ v := by omega
          unfold wrap64
          omega
        have l13 : KMap stV iV w2.drew (s + 1 + 1) L := l12
        obtain ⟨st, w3, hrun, hm3, hbut3, hsz3, hslot⟩ := l13.entry stShape Try.underlying42 0 zeroI (i1, i2)
        rw [hv2] at hrun hm3
        have hl2 := l13.look stShape Try.underlying42 (zeroI _) (i1, i2) false
        rw [if_neg (by decide), show ((lookL L (i1, i2)).map iV).getD (iV 0) = iV ((lookL L (i1, i2)).getD 0) by cases lookL L (i1, i2) <;> rfl, hv2] at hl2
        have hl3 := hm3.look stShape Try.underlying42 (zeroI _) (i1, i2) false
        rw [if_neg (by decide), look_put, if_pos rfl] at hl3
        obtain ⟨w4, hst, hm4, hbut4, hsz4⟩ := hslot w3 rfl (v + 1)
        simp only [stV, stA, iV, Option.map_some, Option.getD_some] at hrun hl2 hl3 hst
        have HM4 := Lib.hid hm4
        have hbut5 : But (fun i => i = s + 1 + 1) w2 w4 := (But.of_below (w := w2) (w' := w2.drew) (Below.refl _ _).drew).trans (hbut3.trans hbut4 fun i hi _ => hi) fun i hi _ => hi
        have HB5 := Lib.hid hbut5
        have HL2 := Lib.hid l2
        have HV := Lib.hid hv
        clear hm3 hm4 hbut3 hbut4 hslot l12 l13 l2 hv hv2 hnum hbut5 hsz3 hsz4
        go_region
        have h0 := (HB5.out.block _ (by have := heap_lt p0; omega) (by omega)).trans p0
        have h3 := (HB5.out.block _ (by have := heap_lt p3; omega) (by omega)).trans p3
        have hD := (HB5.out.block _ (by have := heap_lt pD; omega) (by omega)).trans pD
        have hKK := HK2.out.kept (HB5.out.block _ (by have := HK2.out.lt; omega) (by omega))
        have hBB := hB2.trans (HB5.out.below (fun i hi => by omega) hB2.size)
        have HSt : Hid (∀ id, (lookL (((i1, i2), v + 1) :: offL L (i1, i2)) id).getD 0 = (linksE (E.take (k + 1)) id : Int)) := fun id => by
          rw [look_put, HSn.out id]
          by_cases hid : ((i1, i2) : St) = id
          · rw [if_pos hid, if_pos hid, Option.getD_some, HV.out, hid]
          · rw [if_neg hid, if_neg hid, HL2.out id]
            omega
        clear hrun hl2 hl3 hst e0 e1 e2 e3 e4 c3 t9 p0 p3 pD
        go_wp2_with fail
        go_roundg (gk - 1)
        case measure => omega
        case rel => exact ⟨k + 1, by go_num, by omega, by omega, hKK, ⟨_, HM4.out, HSt.out⟩, h0, h3, hD, hBB⟩
      · obtain ⟨L, l1, l2⟩ := hLs.out
        have HLk : Hid (Looked wr (s + 1) (s + 1 + 1) N E) := ⟨⟨K, hKs.out, hkK.out⟩, ⟨L, l1, fun id => by rw [l2 id, List.take_of_length_le (by omega)]⟩⟩
        clear hLs l1 l2
        obtain ⟨c0, c1, c2, c3⟩ := lists_cells q3
        have f0 := frozen_of_row _ _ 0 _ _ q0
        have f1 := frozen_of_row _ _ 1 _ _ q0
        have f2 := frozen_of_row _ _ 2 _ _ q0
        have f3 := frozen_of_row _ _ 3 _ _ q0
        have z0 := cell_of_row _ _ 0 _ _ (0, 0) q0
        have z1 := cell_of_row _ _ 1 _ _ (0, 0) q0
        have z2 := cell_of_row _ _ 2 _ _ (0, 0) q0
        have z3 := cell_of_row _ _ 3 _ _ (0, 0) q0
        go_wp2_with fail
        have hbut : But (fun i => i = s) wr ((((wr.setCell ⟨s, 0, none⟩ (.slice A n c)).setCell ⟨s, 1, none⟩ (.slice A' m d)).setCell ⟨s, 2, none⟩ (.map (some (s + 1)))).setCell ⟨s, 3, none⟩ (.map (some (s + 1 + 1)))) :=
          but_four wr s _ _ _ _
        have h4 : ((((wr.setCell ⟨s, 0, none⟩ (.slice A n c)).setCell ⟨s, 1, none⟩ (.slice A' m d)).setCell ⟨s, 2, none⟩ (.map (some (s + 1)))).setCell ⟨s, 3, none⟩ (.map (some (s + 1 + 1)))).heap[s]? = some (.cells #[.slice A n c, .slice A' m d, .map (some (s + 1)), .map (some (s + 1 + 1))] 44 (0, 0)) := four_put q0 _ _ _ _
        generalize ((((wr.setCell ⟨s, 0, none⟩ (.slice A n c)).setCell ⟨s, 1, none⟩ (.slice A' m d)).setCell ⟨s, 2, none⟩ (.map (some (s + 1)))).setCell ⟨s, 3, none⟩ (.map (some (s + 1 + 1)))) = w4 at hbut h4 ⊢
        have hD4 := hbut.heap qD (by omega)
        have hb4 := hB.out.trans (hbut.below (fun i hi => by omega) hB.out.size)
        have hk4 := HLk.out.kept (W' := w4) (hbut.block _ HLk.out.lt.1 (by omega)) (hbut.block _ HLk.out.lt.2 (by omega))
        have hb5 := belowK_b (n₀ := w.heap.size) (w := w) (Nat.le_refl _) w4 D _ (.deferred none) (by omega) hD4 rfl rfl
        have hlow4 := heap_lt hD4
        have hDk := hb4.size
        have h5 : (w4.putObj D (.deferred none)).heap[s]? = _ := (World.putObj_heap_other (by omega)).trans h4
        have hk5 := hk4.kept (W' := w4.putObj D (.deferred none)) (World.putObj_heap_other (by omega)) (World.putObj_heap_other (by omega))
        obtain ⟨y0, y1, y2, y3⟩ := lists_cells h5
        refine ⟨by simp, .inl ⟨_, _, rfl, run_takeDeferred hD4, ?_⟩⟩
        exact ⟨.agg #[.slice A n c, .slice A' m d, .map (some (s + 1)), .map (some (s + 1 + 1))], by simp [results, Try.results15, go_sem, y0, y1, y2, y3], s + 1, s + 1 + 1, rfl, hk5, hb4.trans hb5⟩
  case stop =>
    rintro D c pre W _ _ h _
    exact h.elim
end

end Go.Proofs.Ytoobmkkmomiigaa
