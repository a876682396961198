/-
  The landed graph's Untie.
-/
import Derived.Test.YthcmgaibbpacfaaGreatDoorZ07
import Derived.Test.YthcmgaibbpacfaaGreatDoorZ07
import Derived.Test.YthcmgaibbpacfaaGreatDoorZ01
import Derived.Test.YthcmgaibbpacfaaGreatDoorZ07
import Derived.Maps.Own
import Derived.Maps.OwnOps
import Derived.Deep.Cut
import Derived.BigQuiet
import Derived.Test.YthcmgaibbpacfaaGreatDoorZ00
import Derived.Test.YthcmgaibbpacfaaGreatDoorZ03
import Derived.Shelf.SlMaps.Clone
import Derived.Deep.RegionWith
namespace Go.Proofs.YthcmgaibbpacfaaGreatDoor
open Go.RowKit StampMath GraphMath

set_option maxRecDepth 100000 in
set_option maxHeartbeats 1600000 in
theorem untie_code (a : Addr) (S : Nat → Prop) (g : Gr) (d : St) (nm : ByteArray) (w : World) (h : GIn w S a g) (hg : g.ok) :
    Calls Tryz.prog 51 #[.pointer (some a), .agg (stA d), .string nm] w fun e w' => e = .returned (.tuple #[.agg (stA (untieG g d nm).2.1), .int .i64 (untieG g d nm).2.2]) ∧ GIn w' S a (untieG g d nm).1 ∧ But S w w' := by
  cases hq : lookE g.E d nm with
  | none =>
    have e1 : untieG g d nm = (g, (0, 0), 3) := by unfold untieG; rw [hq]
    have HQ : Hid (∀ W : World, Below w.heap.size w W → Calls Tryz.prog 79 #[.pointer (some a), .agg #[.int .i64 d.1, .int .i64 d.2], .string nm] W fun e w' => e = .returned (.tuple #[.agg #[.int .i64 0, .int .i64 0], .bool false]) ∧ Below W.heap.size W w') := fun W hW => by
      have := look_code a S g d nm W (h.keep fun i hi => hW.block i (h.lt i hi))
      rw [hq] at this
      exact this
    rw [e1]
    have hG := Lib.hid h
    clear h e1 hq
    have hbW : Below w.heap.size w ((w.alloc (.cells #[.int .i64 d.1, .int .i64 d.2] 24)).alloc (.cells #[.int .i64 0, .int .i64 0] 24)) := ((Below.refl _ _).alloc (Nat.le_refl _) _).alloc (by simp) _
    unfold stA
    go_enter Tryz.func51, Tryz.ntmps51
    go_wp2_with fail
    refine (HQ.out _ hbW).mono ?_
    rintro e w1 ⟨rfl, hb1⟩
    have hr : w1.heap[w.heap.size + 1]? = some (.cells #[.int .i64 0, .int .i64 0] 24 (0, 0)) := (hb1.block _ (by simp)).trans (heap_alloc2_new w _ _)
    obtain ⟨m0, m1⟩ := two_cells hr
    obtain ⟨f0, f1⟩ := two_free hr
    have hb2 := below_step hbW hb1
    have hlt := heap_lt hr
    have hHr := Lib.hid hr
    clear hb1 hr hbW
    go_wp2_with fail
    have hb3 := ((hb2.setCell (p := ⟨w.heap.size + 1, 0, none⟩) (by dsimp only; omega) (.int .i64 0)).setCell (p := ⟨w.heap.size + 1, 1, none⟩) (by dsimp only; omega) (.int .i64 0)).alloc (by simp; exact hb2.size) (.cells #[.int .i64 0, .int .i64 0] 24)
    obtain ⟨y0, y1⟩ := two_cells ((heap_alloc_old _ (.cells #[.int .i64 0, .int .i64 0] 24) (by simp; omega)).trans (box_set (c := .int .i64 0) (d := .int .i64 0) hHr.out))
    exact bodyPost_ret (v := .tuple #[.agg (stA (0, 0)), .int .i64 3]) (by simp [results, Tryz.results51, go_sem, stA, y0, y1]) rfl ⟨rfl, hG.out.keep fun i hi => hb3.block i (hG.out.lt i hi), But.of_below hb3⟩
  | some id =>
    have hmem := (look_iff hg).1 hq
    obtain ⟨x0, hx0, hxid⟩ := hg.inos _ hmem
    have hget : getG g id = some { x0 with links := (linksE g.E id : Int) } := (get_iff hg).2 ⟨x0, hx0, hxid, rfl⟩
    obtain ⟨X, hX⟩ : ∃ X : Ino, X = { x0 with links := (linksE g.E id : Int) } := ⟨_, rfl⟩
    rw [← hX] at hget
    have HQ : Hid (∀ W : World, Below w.heap.size w W → Calls Tryz.prog 79 #[.pointer (some a), .agg #[.int .i64 d.1, .int .i64 d.2], .string nm] W fun e w' => e = .returned (.tuple #[.agg #[.int .i64 id.1, .int .i64 id.2], .bool true]) ∧ Below W.heap.size W w') := fun W hW => by
      have := look_code a S g d nm W (h.keep fun i hi => hW.block i (h.lt i hi))
      rw [hq] at this
      exact this
    have hbW : Below w.heap.size w ((w.alloc (.cells #[.int .i64 d.1, .int .i64 d.2] 24)).alloc (.cells #[.int .i64 0, .int .i64 0] 24)) := ((Below.refl _ _).alloc (Nat.le_refl _) _).alloc (by simp) _
    obtain ⟨b, bi, be, rfl, h1, h2, h3, hb, hi, he, hS⟩ := h
    obtain ⟨d0, d1⟩ := two_cells hb
    have hlt := heap_lt hb
    have hwr : wrap64 (X.links + -1) = X.links + -1 := by
      have h6 := hg.six id
      have h7 : X.links = (linksE g.E id : Int) := by rw [hX]
      unfold wrap64
      omega
    have HC : Hid (∀ W : World, W.heap[b]? = some (.cells #[.map (some bi), .map (some be)] 96 (0, 0)) → KMap stV inoV W bi (pairsI g) → Calls Tryz.prog 80 #[.pointer (some ⟨b, 0, none⟩), .agg #[.int .i64 id.1, .int .i64 id.2], .int .i64 (-1)] W fun e w' => e = .returned (.tuple #[]) ∧ KMap stV inoV w' bi ((id, { X with links := X.links + -1 }) :: offL (pairsI g) id) ∧ But (fun i => i = bi) W w') := fun W hb hi => count_code b bi be (pairsI g) id (-1) X W hb hi (by rw [look_pairsI hg]; exact hget) hwr
    have HI := Lib.hid hi
    have HE := Lib.hid he
    have HS := Lib.hid hS
    have HBlk := Lib.hid hb
    have HG := Lib.hid hget
    have HO := Lib.hid hq
    clear hi he hS hb hget hq hmem hx0 hxid hX hwr d0
    unfold stA
    go_enter Tryz.func51, Tryz.ntmps51
    go_wp2_with fail
    refine (HQ.out _ hbW).mono ?_
    rintro e w1 ⟨rfl, hb1⟩
    have hr0 : w1.heap[w.heap.size]? = some (.cells #[.int .i64 d.1, .int .i64 d.2] 24 (0, 0)) := (hb1.block _ (by simp <;> omega)).trans (heap_alloc2_old w _ _)
    have hr1 : w1.heap[w.heap.size + 1]? = some (.cells #[.int .i64 0, .int .i64 0] 24 (0, 0)) := (hb1.block _ (by simp)).trans (heap_alloc2_new w _ _)
    have hb2 := below_step hbW hb1
    clear hb1 hbW
    go_upto_region 4 with fail
    change Code.wp _ _ _ _ (w1.alloc (.cells #[.int .i64 id.1, .int .i64 id.2] 24))
    obtain ⟨u, hu⟩ : ∃ u, u = w1.heap.size := ⟨_, rfl⟩
    have hlow : w.heap.size + 1 < u := by rw [hu]; exact heap_lt hr1
    have q0 : (w1.alloc (.cells #[.int .i64 id.1, .int .i64 id.2] 24)).heap[w.heap.size]? = some (.cells #[.int .i64 d.1, .int .i64 d.2] 24 (0, 0)) := (heap_alloc_old _ _ (by omega)).trans hr0
    have q1 : (w1.alloc (.cells #[.int .i64 id.1, .int .i64 id.2] 24)).heap[w.heap.size + 1]? = some (.cells #[.int .i64 0, .int .i64 0] 24 (0, 0)) := (heap_alloc_old _ _ (by omega)).trans hr1
    have q2 : (w1.alloc (.cells #[.int .i64 id.1, .int .i64 id.2] 24)).heap[u]? = some (.cells #[.int .i64 id.1, .int .i64 id.2] 24 (0, 0)) := by rw [hu]; exact heap_alloc_new _ _
    have hb3 := hb2.alloc hb2.size (.cells #[.int .i64 id.1, .int .i64 id.2] 24)
    rw [← hu]
    generalize w1.alloc (.cells #[.int .i64 id.1, .int .i64 id.2] 24) = w2 at q0 q1 q2 hb3 ⊢
    clear hr0 hr1 hb2 hu
    obtain ⟨x0, x1⟩ := two_cells q0
    have d1w := (hb3.cell (p := ⟨b, 1, none⟩) hlt).trans d1
    obtain ⟨w3, hrun, hm3, hbut3, hsz3⟩ := (HE.out.kept (hb3.drew.block be HE.out.lt)).drop plShape Tryz.underlying94 (d, nm) 0
    simp only [plV] at hrun
    have HM3 := Lib.hid hm3
    have HU3 := Lib.hid hbut3
    have HB3 := Lib.hid hb3
    have HQ1 := Lib.hid q1
    have HQ2 := Lib.hid q2
    have hilt := HI.out.lt
    have helt := HE.out.lt
    clear hm3 hbut3 hb3 q0 q1 q2
    go_region
    clear hrun x0 x1 d1w
    have hb4 : But (fun i => i = be) w w3 := (But.of_below HB3.out.drew).trans HU3.out fun i hi _ => hi
    have z1 : w3.heap[w.heap.size + 1]? = some (.cells #[.int .i64 0, .int .i64 0] 24 (0, 0)) := HU3.out.heap (a := w2.drew) HQ1.out (fun q => by omega)
    have z2 : w3.heap[u]? = some (.cells #[.int .i64 id.1, .int .i64 id.2] 24 (0, 0)) := HU3.out.heap (a := w2.drew) HQ2.out (fun q => by omega)
    have hblk := hb4.heap HBlk.out (fun q => h2 q)
    have hi3 : KMap stV inoV w3 bi (pairsI g) := HI.out.kept (hb4.block bi hilt fun q => h3 q)
    have hs4 := hb4.size
    have hz1 := heap_lt z1
    have hz2 := heap_lt z2
    have HB4 := Lib.hid hb4
    obtain ⟨x0, x1⟩ := two_cells z2
    clear hb4
    go_wp2_with fail
    refine (HC.out _ hblk hi3).mono ?_
    rintro e w4 ⟨rfl, hm4, hb5⟩
    have v1 : w4.heap[w.heap.size + 1]? = some (.cells #[.int .i64 0, .int .i64 0] 24 (0, 0)) := hb5.heap z1 (fun q => by omega)
    have v2 : w4.heap[u]? = some (.cells #[.int .i64 id.1, .int .i64 id.2] 24 (0, 0)) := hb5.heap z2 (fun q => by omega)
    have HM4 := Lib.hid hm4
    have HB5 := Lib.hid hb5
    clear x0 x1 z1 z2 hblk hi3 hm4 hb5
    obtain ⟨x0, x1⟩ := two_cells v2
    obtain ⟨m0, m1⟩ := two_cells v1
    obtain ⟨f0, f1⟩ := two_free v1
    have HV1 := Lib.hid v1
    clear v1 v2
    go_wp2_with fail
    have hb7 : But (fun i => i = bi ∨ i = be) w w4 := (HB4.out.mono (T := fun i => i = bi ∨ i = be) fun i hi => Or.inr hi).trans HB5.out fun i hi _ => Or.inl hi
    have hb8 : But (fun i => i = bi ∨ i = be) w ((w4.setCell ⟨w.heap.size + 1, 0, none⟩ (.int .i64 id.1)).setCell ⟨w.heap.size + 1, 1, none⟩ (.int .i64 id.2)) := (hb7.setCell (p := ⟨w.heap.size + 1, 0, none⟩) (Or.inr (by dsimp only; omega)) _).setCell (p := ⟨w.heap.size + 1, 1, none⟩) (Or.inr (by dsimp only; omega)) _
    have hk6 : ∀ i, i < w.heap.size → ((w4.setCell ⟨w.heap.size + 1, 0, none⟩ (.int .i64 id.1)).setCell ⟨w.heap.size + 1, 1, none⟩ (.int .i64 id.2)).heap[i]? = w4.heap[i]? := fun i hi => (heap_setCell_other _ _ _ _ (by dsimp only; omega)).trans (heap_setCell_other _ _ _ _ (by dsimp only; omega))
    have hu : untieG g d nm = (⟨g.I, g.E.filter fun e => !(decide (e.dir = d) && decide (e.name = nm))⟩, id, 0) := by unfold untieG; rw [HO.out]
    have hok := hg.untie d nm
    obtain ⟨z0, z1⟩ := two_cells (box_set (c := .int .i64 id.1) (d := .int .i64 id.2) HV1.out)
    refine bodyPost_ret (v := .tuple #[.agg (stA id), .int .i64 0]) (by simp [results, Tryz.results51, go_sem, stA, z0, z1]) rfl ⟨by rw [hu]; rfl, ⟨b, bi, be, rfl, h1, h2, h3, ?_, ?_, ?_, HS.out⟩, hb8.mono fun i hi => (HS.out i).2 (Or.inr hi)⟩
    · exact hb8.heap HBlk.out (fun q => q.elim h1 h2)
    · refine KMap.perm ?_ (put_perm (keys_pairsI hg) (keys_pairsI hok) (x := id) (v := { X with links := X.links + -1 }) fun k => ?_)
      · exact HM4.out.kept (hk6 bi hilt)
      · rw [look_pairsI hok, look_pairsI hg, untie_get hg HO.out]
        by_cases hk : k = id
        · rw [if_pos hk, hk, HG.out]
          simp [Int.sub_eq_add_neg]
        · rw [if_neg hk]
          cases getG g k <;> simp [hk]
    · refine KMap.perm ?_ (off_perm (keys_pairsE hg) (keys_pairsE hok) (untie_look hg HO.out))
      exact (HM3.out.kept (HB5.out.block be (by omega) fun q => h3 q.symm)).kept (hk6 be helt)

end Go.Proofs.YthcmgaibbpacfaaGreatDoor

/-
  The landed graph's sorted (made by gen_graphsorted.py), at List's closure; List.
-/
namespace Go.Proofs.YthcmgaibbpacfaaGreatDoor
open Go.RowKit StampMath GraphMath

set_option maxRecDepth 100000 in
theorem listClo (d e : St) (b : Nat) (W : World) (hb : W.heap[b]? = some (.cells #[.int .i64 d.1, .int .i64 d.2] 24 (0, 0))) :
    Calls Tryz.prog 105 #[.agg #[.int .i64 e.1, .int .i64 e.2], .pointer (some ⟨b, 0, none⟩)] W fun x W' => x = .returned (.bool (decide (e = d))) ∧ Below W.heap.size W W' := by
  obtain ⟨c0, c1⟩ := two_cells hb
  have hl := heap_lt hb
  by_cases hq : e = d
  · have hv := eqSt_yes hq
    rw [decide_eq_true hq]
    clear hq
    go_enter Tryz.func105, Tryz.ntmps105
    go_wp2_with fail
    go_ret
    exact ⟨rfl, (Below.refl _ _).alloc (Nat.le_refl _) _⟩
  · have hv := eqSt_no hq
    rw [decide_eq_false hq]
    clear hq
    go_enter Tryz.func105, Tryz.ntmps105
    go_wp2_with fail
    go_ret
    exact ⟨rfl, (Below.refl _ _).alloc (Nat.le_refl _) _⟩

set_option maxRecDepth 100000 in
set_option maxHeartbeats 1600000 in
theorem sortedList_code (a : Addr) (S : Nat → Prop) (g : Gr) (d : St) (bc : Nat) (q : St → Bool) (hq : ∀ x, q x = decide (x = d)) (w : World) (h : GIn w S a g) (hg : g.ok) (hc : w.heap[bc]? = some (.cells #[.int .i64 d.1, .int .i64 d.2] 24 (0, 0))) :
    Calls Tryz.prog 60 #[.pointer (some a), .func (.func 105) #[] #[.pointer (some ⟨bc, 0, none⟩)]] w (EntsNew (g.E.filter fun e => q e.dir) w) := by
  have HC : Hid (∀ (e : St) (W : World), Below w.heap.size w W → Calls Tryz.prog 105 #[.agg #[.int .i64 e.1, .int .i64 e.2], .pointer (some ⟨bc, 0, none⟩)] W fun x W' => x = .returned (.bool (q e)) ∧ Below W.heap.size W W') := fun e W hW => by rw [hq]; exact listClo d e bc W ((hW.block bc (heap_lt hc)).trans hc)
  clear hq hc
  obtain ⟨b, bi, be, rfl, h1, h2, h3, hb, hi, he, hS⟩ := h
  obtain ⟨c0, c1⟩ := two_cells hb
  obtain ⟨i0, hi0, hz0, hz1, hz2⟩ := info_parts ent_infos
  have HE := Lib.hid he
  have hlt := heap_lt hb
  have hltE := he.lt
  clear hi he hb hS
  have hlen : Hid ((pairsE g).length ≤ 1000) := by
    show (pairsE g).length ≤ 1000
    unfold pairsE
    rw [List.length_map]
    exact Nat.le_trans hg.entsFew (by decide)
  have hgE := Lib.hid (hg.sortE.filter fun e => q e.dir)
  go_enter Tryz.func60, Tryz.ntmps60
  go_wp2_with (at_range; refine wpList_k_range (by rfl) _ _ (by rfl) Tryz.underlying94 be _ (by rfl) HE.out ?_; intro w1 HR1 HB1 HS1)
  go_frame
  go_loopg [5] ((pairsE g).length + 1) (fun gk l wr => ∃ (done todo : List ((St × ByteArray) × St)), gk = todo.length + 1 ∧ Hid (KRange plV stV wr be w.heap.size (pairsE g) todo) ∧ Hid ((done ++ todo).Perm (pairsE g)) ∧ wr.ownsRow (w.heap.size + 1) 66 5 l ((done.map entOf).filter fun e => q e.dir).length (flat (((done.map entOf).filter fun e => q e.dir).map entA)) ∧ Hid (Below w.heap.size w wr) ∧ w.heap.size + 1 ≤ wr.heap.size)
  case atStart => exact ⟨[], pairsE g, rfl, HR1, List.Perm.refl _, World.ownsRow_nil _ _ _ _, HB1, by rw [HS1.out]; omega⟩
  case round =>
    obtain ⟨done, todo, rfl, hR, hP, hown, hB, hs1⟩ := hrel
    clear HR1 HB1 HS1
    go_wp2_with (refine wpList_k_next (by rfl) _ (by rfl) be w.heap.size _ _ (by rfl) hR.out ?_ ?_)
    · intro h0
      have hdone : ((done.map entOf).filter fun e => q e.dir).Perm (g.E.filter fun e => q e.dir) := by
        refine List.Perm.filter _ ?_
        have h5 := hP.out
        rw [h0, List.append_nil] at h5
        have h6 := h5.map entOf
        unfold pairsE at h6
        rwa [List.map_map, show entOf ∘ (fun e : Ent => ((e.dir, e.name), e.ino)) = id from rfl, List.map_id] at h6
      have h1000 : ((done.map entOf).filter fun e => q e.dir).length < 4611686018427387904 := by
        have h5 := hlen.out
        have h6 := hP.out.length_eq
        have h7 := List.length_filter_le (fun e : Ent => q e.dir) (done.map entOf)
        simp only [List.length_append, List.length_map] at h6 h7
        omega
      generalize ((done.map entOf).filter fun e => q e.dir) = fs at hdone h1000 hown ⊢
      have HD := Lib.hid hdone
      clear hdone
      have hs := sort_own (w := wr) Tryz.sortEnt 5 Tryz.isAgg66 Tryz.sizeOf66 entA (fun _ => rfl) ent_one aheadI swo_ents 92 #[] (enters_of Tryz.func92 (by kernel_rfl) rfl)
        (fun W x y => (ahead_grown x y W).mono fun _ _ h => ⟨h.1, h.2.grow⟩) (by simp) hown h1000
      change Calls Tryz.prog 91 _ _ _ at hs
      have hrow := hown.lt
      clear hown
      have HS := Lib.hid hs
      clear hs
      go_wp2_with fail
      refine (HS.out).mono ?_
      rintro e w2 ⟨rfl, ys, hp, hsd, hown2, hbut⟩
      have hys : ys = g.E.filter fun e => q e.dir := sorted_ents hgE.out (hp.trans HD.out) hsd
      have hl : fs.length = (g.E.filter fun e => q e.dir).length := HD.out.length_eq
      rw [hys, hl] at hown2
      clear hp hsd hys
      go_wp2_with fail
      go_ret
      refine ⟨_, rfl, ?_, ?_⟩
      · exact own_lower hown2 (Nat.le_succ _)
      · exact hB.out.trans (hbut.below (fun i hi => Nat.le_of_succ_le (hrow i hi).1) (by omega))
    · intro t r nm t' r' todo' w2 hp hR2 hB2 hs2 hen
      simp only [plV, stV, stA] at hen ⊢
      have hown2 := own_iter hown hB2.out (by omega)
      have h1000 : ((done.map entOf).filter fun e => q e.dir).length ≤ 1000 := by
        have h5 := hlen.out
        have h6 := hP.out.length_eq
        have h7 := List.length_filter_le (fun e : Ent => q e.dir) (done.map entOf)
        simp only [List.length_append, List.length_map] at h6 h7
        omega
      have hfs : ∀ b : Bool, q (t, r) = b → ((done ++ [(((t, r), nm), (t', r'))]).map entOf).filter (fun e => q e.dir) = ((done.map entOf).filter fun e => q e.dir) ++ (if b = true then [⟨(t, r), nm, (t', r')⟩] else []) := by
        intro b hb
        rw [List.map_append, List.filter_append]
        congr 1
        simp only [List.map_cons, List.map_nil, entOf, List.filter_cons, List.filter_nil, hb]
      have HF := Lib.hid hfs
      clear hfs
      have e2 : Below w.heap.size wr w2 := hB2.out.below (fun i hi => by omega) (by omega)
      have hb2 := hB.out.trans e2
      have hP2 : Hid ((done ++ [(((t, r), nm), (t', r'))] ++ todo').Perm (pairsE g)) := by
        have e1 : (done ++ todo).Perm (done ++ ((((t, r), nm), (t', r')) :: todo')) := hp.out.append_left _
        show (done ++ [(((t, r), nm), (t', r'))] ++ todo').Perm _
        rw [List.append_assoc]
        exact e1.symm.trans hP.out
      have hlen2 := hp.out.length_eq
      simp only [List.length_cons] at hlen2
      generalize ((done.map entOf).filter fun e => q e.dir) = fs at hown2 h1000 HF
      have hm : fs.length + 1 ≤ maxLen := by unfold maxLen; omega
      have hs2' : w.heap.size + 1 ≤ w2.heap.size := by rw [hs2.out]; exact hs1
      clear hown hB hB2 hs2 hP hp hR e2
      go_upto_region 7 with fail
      obtain ⟨z, hz⟩ : ∃ z, z = w2.heap.size := ⟨_, rfl⟩
      have k0 : ((w2.alloc (.cells #[.int .i64 t, .int .i64 r, .string nm] 100)).alloc (.cells #[.int .i64 t', .int .i64 r'] 24)).heap[z]? = some (.cells #[.int .i64 t, .int .i64 r, .string nm] 100 (0, 0)) := by rw [hz]; exact heap_alloc2_old w2 _ _
      have k1 : ((w2.alloc (.cells #[.int .i64 t, .int .i64 r, .string nm] 100)).alloc (.cells #[.int .i64 t', .int .i64 r'] 24)).heap[z + 1]? = some (.cells #[.int .i64 t', .int .i64 r'] 24 (0, 0)) := by rw [hz]; exact heap_alloc2_new w2 _ _
      have hbA : Below w2.heap.size w2 ((w2.alloc (.cells #[.int .i64 t, .int .i64 r, .string nm] 100)).alloc (.cells #[.int .i64 t', .int .i64 r'] 24)) := ((Below.refl _ _).alloc (Nat.le_refl _) _).alloc (by simp) _
      rw [← hz]
      generalize ((w2.alloc (.cells #[.int .i64 t, .int .i64 r, .string nm] 100)).alloc (.cells #[.int .i64 t', .int .i64 r'] 24)) = w3 at k0 k1 hbA ⊢
      have hz3 := hbA.size
      have hown3 := own_call hown2 hbA
      have hR3 := hR2.out.kept (hbA.block _ (by omega)) (hbA.block _ (by omega))
      have hb3 := below_step hb2 hbA
      clear hown2 hR2 hb2 hbA hen hz
      have x0 := cell_of_row _ _ 0 _ _ (0, 0) k0
      have x1 := cell_of_row _ _ 1 _ _ (0, 0) k0
      go_wp2_with fail
      refine (HC.out (t, r) w3 hb3).mono ?_
      rintro e w4 ⟨rfl, hb4⟩
      have l0 := (hb4.block _ (heap_lt k0)).trans k0
      have l1 := (hb4.block _ (heap_lt k1)).trans k1
      have hz4 := hb4.size
      have hown4 := own_call hown3 hb4
      have hR4 := hR3.kept (hb4.block _ (by omega)) (hb4.block _ (by omega))
      have hb5 := below_step hb3 hb4
      have HR4 := Lib.hid hR4
      have HB5 := Lib.hid hb5
      have HL0 := Lib.hid l0
      clear hown3 hR3 hb3 hb4 x0 x1 k0 k1 hR4 hb5
      obtain ⟨qb, hqb⟩ : ∃ qb, qb = q (t, r) := ⟨_, rfl⟩
      have hF := HF.out qb hqb.symm
      rw [← hqb]
      clear hqb HF
      cases qb with
      | false =>
        rw [if_neg (by decide), List.append_nil] at hF
        have HF := Lib.hid hF
        clear hF
        go_wp2_with fail
        go_roundg (todo'.length + 1)
        case measure => omega
        case rel => exact ⟨done ++ [(((t, r), nm), (t', r'))], todo', rfl, HR4.out, hP2.out, by rw [HF.out]; exact hown4, HB5.out, by omega⟩
      | true =>
        rw [if_pos rfl] at hF
        have HF := Lib.hid hF
        clear hF
        have x0 := cell_of_row _ _ 0 _ _ (0, 0) HL0.out
        have x1 := cell_of_row _ _ 1 _ _ (0, 0) HL0.out
        have x2 := cell_of_row _ _ 2 _ _ (0, 0) HL0.out
        obtain ⟨y0, y1⟩ := two_cells l1
        have HW := Lib.hid (row_there w4 66 (entA ⟨(t, r), nm, (t', r')⟩))
        go_wp2_with (at_builtin; refine wpList_append_own _ rfl (.tmp 24) (.tmp 31) 31 rfl (w.heap.size + 1) 66 i0 _ 5 48 Tryz.underlying31 hi0 hz0 hz1 hz2 rfl (by decide) _ _ _ rfl (hown4.alloc _) ⟨w4.heap.size, 0, none⟩ 1 1 (entA ⟨(t, r), nm, (t', r')⟩).toList rfl rfl HW.out (ent_one _) hm (by omega) (by simp; omega) ?_; intro v2 w5 hown5 hg5 _)
        have hbw : Below (w.heap.size + 1) w4 w5 := (((Below.refl w4.heap.size w4).alloc (Nat.le_refl _) _).mono (by omega)).grown hg5 (by simp; omega) (fun j hj => (hown4.lt j hj).1)
        go_roundg (todo'.length + 1)
        case measure => omega
        case rel =>
          refine ⟨done ++ [(((t, r), nm), (t', r'))], todo', rfl, HR4.out.kept (hbw.block _ (by omega)) (hbw.block _ (by omega)), hP2.out, ?_, HB5.out.trans (hbw.mono (by omega)), by have := hbw.size; omega⟩
          rw [HF.out, List.length_append]
          show w5.ownsRow _ _ 5 v2 (fs.length + 1) _
          rw [← flat_ent]
          exact hown5

set_option maxRecDepth 100000 in
theorem list_code (a : Addr) (S : Nat → Prop) (g : Gr) (id : St) (w : World) (h : GIn w S a g) (hg : g.ok) :
    Calls Tryz.prog 82 #[.pointer (some a), .agg (stA id)] w (EntsNew (listE g.E id) w) := by
  have hb0 : Below w.heap.size w (w.alloc (.cells #[.int .i64 id.1, .int .i64 id.2] 24)) := (Below.refl _ _).alloc (Nat.le_refl _) _
  have hs := sortedList_code a S g id w.heap.size (fun x => decide (x = id)) (fun _ => rfl) (w.alloc (.cells #[.int .i64 id.1, .int .i64 id.2] 24)) (h.keep fun i hi => hb0.block i (h.lt i hi)) hg (heap_alloc_new w _)
  have HS := Lib.hid hs
  clear h hs
  unfold stA
  go_enter Tryz.func82, Tryz.ntmps82
  go_wp2_with fail
  refine (HS.out).mono ?_
  rintro e w2 ⟨v, rfl, hown, hb⟩
  go_wp2_with fail
  go_ret
  exact ⟨v, rfl, own_lower hown hb0.size, below_step hb0 hb⟩

end Go.Proofs.YthcmgaibbpacfaaGreatDoor

/-
  The landed graph's Drop.
-/
namespace Go.Proofs.YthcmgaibbpacfaaGreatDoor
open Go.RowKit StampMath GraphMath

set_option maxRecDepth 100000 in
set_option maxHeartbeats 1600000 in
theorem drop_code (a : Addr) (S : Nat → Prop) (g : Gr) (id : St) (w : World) (h : GIn w S a g) (hg : g.ok) :
    Calls Tryz.prog 52 #[.pointer (some a), .agg (stA id)] w fun e w' => e = .returned (.int .i64 (dropG g id).2) ∧ GIn w' S a (dropG g id).1 ∧ But S w w' := by
  have hbW : Below w.heap.size w (w.alloc (.cells #[.int .i64 id.1, .int .i64 id.2] 24)) := (Below.refl _ _).alloc (Nat.le_refl _) _
  have hget : ∀ W : World, Below w.heap.size w W → Calls Tryz.prog 81 #[.pointer (some a), .agg (stA id)] W fun e w' => e = .returned (.tuple #[.agg (inoA ((getG g id).getD noIno)), .bool (getG g id).isSome]) ∧ Below W.heap.size W w' := fun W hW => get_code a S g id W (h.keep fun i hi => hW.block i (h.lt i hi)) hg
  cases hq : getG g id with
  | none =>
    have e1 : dropG g id = (g, 3) := by unfold dropG; rw [hq]
    rw [hq] at hget
    have HQ : Hid (∀ W : World, Below w.heap.size w W → Calls Tryz.prog 81 #[.pointer (some a), .agg #[.int .i64 id.1, .int .i64 id.2]] W fun e w' => e = .returned (.tuple #[.agg #[.int .i64 0, .int .i64 0, .int .i64 0, .int .i64 0, .int .i64 0, .string ⟨#[]⟩], .bool false]) ∧ Below W.heap.size W w') := hget
    rw [e1]
    have hG := Lib.hid h
    clear h e1 hq hget
    unfold stA
    go_enter Tryz.func52, Tryz.ntmps52
    go_wp2_with fail
    refine (HQ.out _ hbW).mono ?_
    rintro e w1 ⟨rfl, hb1⟩
    have hb2 := below_step hbW hb1
    go_wp2_with fail
    go_ret
    have hb3 := hb2.alloc hb2.size (.cells #[.int .i64 0, .int .i64 0, .int .i64 0, .int .i64 0, .int .i64 0, .string ⟨#[]⟩] 70)
    exact ⟨rfl, hG.out.keep fun i hi => hb3.block i (hG.out.lt i hi), But.of_below hb3⟩
  | some X =>
    rw [hq] at hget
    have HQ : Hid (∀ W : World, Below w.heap.size w W → Calls Tryz.prog 81 #[.pointer (some a), .agg #[.int .i64 id.1, .int .i64 id.2]] W fun e w' => e = .returned (.tuple #[.agg #[.int .i64 X.id.1, .int .i64 X.id.2, .int .i64 X.kind, .int .i64 X.links, .int .i64 X.mode, .string X.data], .bool true]) ∧ Below W.heap.size W w') := hget
    have hlist : ∀ W : World, Below w.heap.size w W → Calls Tryz.prog 82 #[.pointer (some a), .agg (stA id)] W (EntsNew (listE g.E id) W) := fun W hW => list_code a S g id W (h.keep fun i hi => hW.block i (h.lt i hi)) hg
    have HLs : Hid (∀ W : World, Below w.heap.size w W → Calls Tryz.prog 82 #[.pointer (some a), .agg #[.int .i64 id.1, .int .i64 id.2]] W (EntsNew (listE g.E id) W)) := hlist
    have hG := Lib.hid h
    clear hlist
    obtain ⟨b, bi, be, rfl, h1, h2, h3, hb, hi, he, hS⟩ := h
    obtain ⟨d0, d1⟩ := two_cells hb
    have hlt := heap_lt hb
    have HI := Lib.hid hi
    have HE := Lib.hid he
    have HS := Lib.hid hS
    have HBlk := Lib.hid hb
    have HG := Lib.hid hq
    clear hi he hS hb hget hq d1
    unfold stA
    go_enter Tryz.func52, Tryz.ntmps52
    go_wp2_with fail
    refine (HQ.out _ hbW).mono ?_
    rintro e w1 ⟨rfl, hb1⟩
    have hr0 : w1.heap[w.heap.size]? = some (.cells #[.int .i64 id.1, .int .i64 id.2] 24 (0, 0)) := (hb1.block _ (by simp)).trans (heap_alloc_new w _)
    have hb2 := below_step hbW hb1
    clear hb1 hbW
    go_upto_region 2 with fail
    change Code.wp _ _ _ _ (w1.alloc (.cells (inoA X) 70))
    obtain ⟨u, hu⟩ : ∃ u, u = w1.heap.size := ⟨_, rfl⟩
    have hlow : w.heap.size < u := by rw [hu]; exact heap_lt hr0
    have r0 : (w1.alloc (.cells (inoA X) 70)).heap[w.heap.size]? = _ := (heap_alloc_old w1 _ (by omega)).trans hr0
    have r1 : (w1.alloc (.cells (inoA X) 70)).heap[u]? = some (.cells (inoA X) 70 (0, 0)) := by rw [hu]; exact heap_alloc_new _ _
    have hb3 := hb2.alloc hb2.size (.cells (inoA X) 70)
    rw [← hu]
    generalize w1.alloc (.cells (inoA X) 70) = w2 at r0 r1 hb3 ⊢
    clear hr0 hb2 hu
    obtain ⟨x0, x1⟩ := two_cells r0
    have hD : dropG g id = if id = (0, 0) then (g, 8) else if 0 < X.links ∨ 0 < (listE g.E id).length then (g, 7) else (⟨g.I.filter fun x => !decide (x.id = id), g.E⟩, 0) := by unfold dropG; rw [HG.out]
    have HRl : Hid (∀ y, Calls Tryz.prog 48 #[] (later w2 y) fun e w' => e = .returned (.agg #[.int .i64 0, .int .i64 0]) ∧ Below (later w2 y).heap.size (later w2 y) w') := fun y => root_any _
    have HT0 := Lib.hid r0
    have HT1 := Lib.hid r1
    have HB2 := Lib.hid hb3
    have l0 := later_cell x0
    have l1 := later_cell x1
    clear r0 r1 hb3 x0 x1
    by_cases hz : id = (0, 0)
    · have hv : ∀ W : World, (Op.equalIn 10000 24 (.agg #[.int .i64 id.1, .int .i64 id.2]) (.agg #[.int .i64 0, .int .i64 0])).run Tryz.prog W = .ok true W := fun W => by rw [run_eqSt, decide_eq_true (show ((id.1, id.2) : St) = (0, 0) from hz)]
      rw [if_pos hz] at hD
      have HD := Lib.hid hD
      clear hD hz
      go_upto_region 4 with fail
      refine wp_region_later (by kernel_rfl) (by kernel_rfl) ?_
      repeat (go_big_quiet_step (first | (with_reducible exact later_call (HRl.out _))))
      refine wpQuiet_nil ?_
      intro _ hw'
      obtain ⟨y, rfl⟩ := hw'
      clear l0 l1
      go_wp2_with fail
      go_ret
      rw [HD.out]
      have hb3 := below_step HB2.out (later_below w2 y)
      exact ⟨rfl, hG.out.keep fun i hi => hb3.block i (hG.out.lt i hi), But.of_below hb3⟩
    · have hv : ∀ W : World, (Op.equalIn 10000 24 (.agg #[.int .i64 id.1, .int .i64 id.2]) (.agg #[.int .i64 0, .int .i64 0])).run Tryz.prog W = .ok false W := fun W => by rw [run_eqSt, decide_eq_false (show ¬ ((id.1, id.2) : St) = (0, 0) from hz)]
      rw [if_neg hz] at hD
      clear hz
      go_upto_region 4 with fail
      refine wp_region_later (by kernel_rfl) (by kernel_rfl) ?_
      repeat (go_big_quiet_step (first | (with_reducible exact later_call (HRl.out _))))
      refine wpQuiet_nil ?_
      intro _ hw'
      obtain ⟨y, rfl⟩ := hw'
      clear l0 l1 hv
      have hb3 := below_step HB2.out (later_below w2 y)
      have r0 := ((later_below w2 y).block _ (heap_lt HT0.out)).trans HT0.out
      have r1 := ((later_below w2 y).block _ (heap_lt HT1.out)).trans HT1.out
      generalize later w2 y = w2 at hb3 r0 r1 ⊢
      obtain ⟨x0, x1⟩ := two_cells r0
      have hx3 := (ino_cells r1).2.2.2.1
      by_cases hl : 0 < X.links
      · rw [if_pos (Or.inl hl)] at hD
        have HD := Lib.hid hD
        clear hD
        go_wp2_with fail
        go_ret
        rw [HD.out]
        exact ⟨rfl, hG.out.keep fun i hi => hb3.block i (hG.out.lt i hi), But.of_below hb3⟩
      · have HDp := Lib.hid hD
        clear hD
        go_wp2_with fail
        refine (HLs.out _ hb3).mono ?_
        rintro e w3 ⟨v, rfl, hown, hb4⟩
        obtain ⟨A, c, rfl, hEin, hnc, hcm, _⟩ := ents_own rfl hown
        have hb5 := below_step hb3 hb4
        have t0 : w3.heap[w.heap.size]? = _ := (hb4.block _ (heap_lt r0)).trans r0
        clear hown hEin hb4 r0 r1 x0 x1 hx3
        by_cases hn : 0 < (listE g.E id).length
        · have HD : Hid (dropG g id = (g, 7)) := by
            have := HDp.out
            rwa [if_pos (Or.inr hn)] at this
          have hn' : (0 : Int) < ((listE g.E id).length : Int) := by omega
          generalize ((listE g.E id).length) = ln at hn hn' hnc ⊢
          go_wp2_with fail
          go_ret
          rw [HD.out]
          exact ⟨rfl, hG.out.keep fun i hi => hb5.block i (hG.out.lt i hi), But.of_below hb5⟩
        · have HD : Hid (dropG g id = (⟨g.I.filter fun x => !decide (x.id = id), g.E⟩, 0)) := by
            have := HDp.out
            rwa [if_neg (by omega)] at this
          have hn' : (listE g.E id).length = 0 := by omega
          rw [hn'] at hnc ⊢
          obtain ⟨x0, x1⟩ := two_cells t0
          have d0w := (hb5.cell (p := ⟨b, 0, none⟩) hlt).trans d0
          obtain ⟨w5, hrun, hm5, hbut5, hsz5⟩ := (HI.out.kept (hb5.drew.block bi HI.out.lt)).drop stShape Tryz.underlying93 id 0
          simp only [stV, stA] at hrun
          have HM5 := Lib.hid hm5
          have hb6 : But (fun i => i = bi) w w5 := (But.of_below hb5.drew).trans hbut5 fun i hi _ => hi
          have HB6 := Lib.hid hb6
          clear hm5 hb5 hbut5 t0 hb6
          go_wp2_with fail
          go_region
          go_wp2_with fail
          go_ret
          have h0 : (dropG g id).2 = 0 := by rw [HD.out]
          have hok := hg.drop id
          refine ⟨by rw [h0]; rfl, ⟨b, bi, be, rfl, h1, h2, h3, ?_, ?_, ?_, HS.out⟩, HB6.out.mono fun i hi => (HS.out i).2 (Or.inr (Or.inl hi))⟩
          · exact HB6.out.heap HBlk.out (fun q => h1 q)
          · refine HM5.out.perm (off_perm (keys_pairsI hg) (keys_pairsI hok) fun k => ?_)
            rw [look_pairsI hok, look_pairsI hg, drop_get hg h0]
          · have e1 : pairsE (dropG g id).1 = pairsE g := by unfold pairsE; rw [drop_ents]
            rw [e1]
            exact HE.out.kept (HB6.out.block be HE.out.lt fun q => h3 q.symm)

end Go.Proofs.YthcmgaibbpacfaaGreatDoor

/-
  The code of package graph (a draft): Set.
-/
namespace Go.Proofs.YthcmgaibbpacfaaGreatDoor
open Go.RowKit StampMath GraphMath

set_option maxRecDepth 100000 in
set_option maxHeartbeats 1600000 in
theorem set_code (a : Addr) (S : Nat → Prop) (g : Gr) (id : St) (mode : Int) (data : ByteArray) (w : World) (h : GIn w S a g) (hg : g.ok) :
    Calls Tryz.prog 54 #[.pointer (some a), .agg (stA id), .int .i64 mode, .string data] w fun e w' => e = .returned (.int .i64 (setG g id mode data).2) ∧ GIn w' S a (setG g id mode data).1 ∧ But S w w' := by
  have hbW : Below w.heap.size w (w.alloc (.cells #[.int .i64 id.1, .int .i64 id.2] 24)) := (Below.refl _ _).alloc (Nat.le_refl _) _
  have hget : ∀ W : World, Below w.heap.size w W → Calls Tryz.prog 81 #[.pointer (some a), .agg (stA id)] W fun e w' => e = .returned (.tuple #[.agg (inoA ((getG g id).getD noIno)), .bool (getG g id).isSome]) ∧ Below W.heap.size W w' := fun W hW => get_code a S g id W (h.keep fun i hi => hW.block i (h.lt i hi)) hg
  cases hq : getG g id with
  | none =>
    have e1 : setG g id mode data = (g, 3) := by unfold setG; rw [hq]
    rw [hq] at hget
    have HQ : Hid (∀ W : World, Below w.heap.size w W → Calls Tryz.prog 81 #[.pointer (some a), .agg #[.int .i64 id.1, .int .i64 id.2]] W fun e w' => e = .returned (.tuple #[.agg #[.int .i64 0, .int .i64 0, .int .i64 0, .int .i64 0, .int .i64 0, .string ⟨#[]⟩], .bool false]) ∧ Below W.heap.size W w') := hget
    rw [e1]
    have hG := Lib.hid h
    clear h e1 hq hget
    unfold stA
    go_enter Tryz.func54, Tryz.ntmps54
    go_wp2_with fail
    refine (HQ.out _ hbW).mono ?_
    rintro e w1 ⟨rfl, hb1⟩
    have hb2 := below_step hbW hb1
    go_wp2_with fail
    go_ret
    have hb3 := hb2.alloc hb2.size (.cells #[.int .i64 0, .int .i64 0, .int .i64 0, .int .i64 0, .int .i64 0, .string ⟨#[]⟩] 70)
    exact ⟨rfl, hG.out.keep fun i hi => hb3.block i (hG.out.lt i hi), But.of_below hb3⟩
  | some X =>
    rw [hq] at hget
    have HQ : Hid (∀ W : World, Below w.heap.size w W → Calls Tryz.prog 81 #[.pointer (some a), .agg #[.int .i64 id.1, .int .i64 id.2]] W fun e w' => e = .returned (.tuple #[.agg #[.int .i64 X.id.1, .int .i64 X.id.2, .int .i64 X.kind, .int .i64 X.links, .int .i64 X.mode, .string X.data], .bool true]) ∧ Below W.heap.size W w') := hget
    obtain ⟨b, bi, be, rfl, h1, h2, h3, hb, hi, he, hS⟩ := h
    obtain ⟨d0, d1⟩ := two_cells hb
    have hlt := heap_lt hb
    have HI := Lib.hid hi
    have HE := Lib.hid he
    have HS := Lib.hid hS
    have HBlk := Lib.hid hb
    have HG := Lib.hid hq
    clear hi he hS hb hget hq d1
    unfold stA
    go_enter Tryz.func54, Tryz.ntmps54
    go_wp2_with fail
    refine (HQ.out _ hbW).mono ?_
    rintro e w1 ⟨rfl, hb1⟩
    have hr0 : w1.heap[w.heap.size]? = some (.cells #[.int .i64 id.1, .int .i64 id.2] 24 (0, 0)) := (hb1.block _ (by simp)).trans (heap_alloc_new w _)
    have hb2 := below_step hbW hb1
    clear hb1 hbW
    go_upto_region 2 with fail
    change Code.wp _ _ _ _ (w1.alloc (.cells (inoA X) 70))
    obtain ⟨u, hu⟩ : ∃ u, u = w1.heap.size := ⟨_, rfl⟩
    have hlow : w.heap.size < u := by rw [hu]; exact heap_lt hr0
    have r0 : (w1.alloc (.cells (inoA X) 70)).heap[w.heap.size]? = _ := (heap_alloc_old w1 _ (by omega)).trans hr0
    have r1 : (w1.alloc (.cells (inoA X) 70)).heap[u]? = some (.cells (inoA X) 70 (0, 0)) := by rw [hu]; exact heap_alloc_new _ _
    have hb3 := hb2.alloc hb2.size (.cells (inoA X) 70)
    rw [← hu]
    generalize w1.alloc (.cells (inoA X) 70) = w2 at r0 r1 hb3 ⊢
    clear hr0 hb2 hu
    obtain ⟨y0, y1, y2, y3, y4, y5⟩ := ino_cells r1
    obtain ⟨f0, f1, f2, f3, f4, f5⟩ := ino_free r1
    go_wp2_with fail
    have s1 : ((w2.setCell ⟨u, 4, none⟩ (.int .i64 mode)).setCell ⟨u, 5, none⟩ (.string data)).heap[u]? = some (.cells (inoA { X with mode := mode, data := data }) 70 (0, 0)) := heap_setCell_same _ _ _ _ _ _ (heap_setCell_same _ _ _ _ _ _ r1)
    have s0 : ((w2.setCell ⟨u, 4, none⟩ (.int .i64 mode)).setCell ⟨u, 5, none⟩ (.string data)).heap[w.heap.size]? = _ := (heap_setCell_other _ _ _ _ (by dsimp only; omega)).trans ((heap_setCell_other _ _ _ _ (by dsimp only; omega)).trans r0)
    have hb5 := (hb3.setCell (p := ⟨u, 4, none⟩) (by dsimp only; omega) (.int .i64 mode)).setCell (p := ⟨u, 5, none⟩) (by dsimp only; omega) (.string data)
    generalize (w2.setCell ⟨u, 4, none⟩ (.int .i64 mode)).setCell ⟨u, 5, none⟩ (.string data) = w4 at s0 s1 hb5 ⊢
    clear r0 r1 hb3 y0 y1 y2 y3 y4 y5 f0 f1 f2 f3 f4 f5
    obtain ⟨y0, y1, y2, y3, y4, y5⟩ := ino_cells s1
    obtain ⟨x0, x1⟩ := two_cells s0
    have d0w := (hb5.cell (p := ⟨b, 0, none⟩) hlt).trans d0
    obtain ⟨w5, hrun, hm5, hbut5, hsz5⟩ := (HI.out.kept (hb5.drew.block bi HI.out.lt)).store stShape Tryz.underlying93 id { X with mode := mode, data := data }
    simp only [stV, stA, inoV, inoA] at hrun
    have HM5 := Lib.hid hm5
    have hb6 : But (fun i => i = bi) w w5 := (But.of_below hb5.drew).trans hbut5 fun i hi _ => hi
    have HB6 := Lib.hid hb6
    clear hm5 hb5 hbut5 s0 s1 hb6
    go_region
    go_wp2_with fail
    go_ret
    have hu : setG g id mode data = (⟨g.I.map fun x => if x.id = id then { x with mode := mode, data := data } else x, g.E⟩, 0) := by unfold setG; rw [HG.out]
    have hok := hg.set id mode data
    refine ⟨by rw [hu]; rfl, ⟨b, bi, be, rfl, h1, h2, h3, ?_, ?_, ?_, HS.out⟩, HB6.out.mono fun i hi => (HS.out i).2 (Or.inr (Or.inl hi))⟩
    · exact HB6.out.heap HBlk.out (fun q => h1 q)
    · refine HM5.out.perm (put_perm (keys_pairsI hg) (keys_pairsI hok) fun k => ?_)
      rw [look_pairsI hok, look_pairsI hg, set_get]
      by_cases hk : k = id
      · rw [if_pos hk, hk, HG.out]
        simp
      · rw [if_neg hk]
        cases getG g k <;> simp [hk]
    · have e1 : pairsE (setG g id mode data).1 = pairsE g := by unfold pairsE; rw [set_ents]
      rw [e1]
      exact HE.out.kept (HB6.out.block be HE.out.lt fun q => h3 q.symm)

end Go.Proofs.YthcmgaibbpacfaaGreatDoor

/-
  The landed graph's Parent: the first entry of a directory that comes is the only one.
-/
namespace Go.Proofs.YthcmgaibbpacfaaGreatDoor
open Go.RowKit StampMath GraphMath

theorem parent_kind {g : Gr} {d : St} (h : ¬ ((getG g d).getD noIno).kind = 1) : parentG g d = none := by
  unfold parentG
  cases hq : getG g d with
  | none => rfl
  | some x =>
    rw [hq] at h
    exact if_neg h

theorem dir_kind {g : Gr} {d : St} (h : ((getG g d).getD noIno).kind = 1) : g.isDir d := by
  cases hq : getG g d with
  | none => rw [hq] at h; exact absurd h (by decide)
  | some x =>
    rw [hq] at h
    exact getDir_of hq h

set_option maxRecDepth 100000 in
set_option maxHeartbeats 1600000 in
theorem parent_code (a : Addr) (S : Nat → Prop) (g : Gr) (d : St) (w : World) (h : GIn w S a g) (hg : g.ok) :
    Calls Tryz.prog 133 #[.pointer (some a), .agg (stA d)] w fun e w' => e = .returned (.tuple #[.agg (stA ((parentG g d).getD (0, 0))), .bool (parentG g d).isSome]) ∧ Below w.heap.size w w' := by
  obtain ⟨X, hX⟩ : ∃ X, X = (getG g d).getD noIno := ⟨_, rfl⟩
  obtain ⟨is, his⟩ : ∃ is, is = (getG g d).isSome := ⟨_, rfl⟩
  have HG : Hid (∀ W : World, Below w.heap.size w W → Calls Tryz.prog 81 #[.pointer (some a), .agg #[.int .i64 d.1, .int .i64 d.2]] W fun e w' => e = .returned (.tuple #[.agg #[.int .i64 X.id.1, .int .i64 X.id.2, .int .i64 X.kind, .int .i64 X.links, .int .i64 X.mode, .string X.data], .bool is]) ∧ Below W.heap.size W w') := fun W hW => by
    rw [hX, his]
    exact get_code a S g d W (h.keep fun i hi => hW.block i (h.lt i hi)) hg
  have HN : Hid (¬ X.kind = 1 → parentG g d = none) := fun q => parent_kind (by rw [← hX]; exact q)
  have HD : Hid (X.kind = 1 → g.isDir d) := fun q => dir_kind (by rw [← hX]; exact q)
  obtain ⟨b, bi, be, rfl, h1, h2, h3, hb, hi, he, hS⟩ := h
  obtain ⟨d0, d1⟩ := two_cells hb
  have hlt := heap_lt hb
  have HE := Lib.hid he
  clear hX his hi he hb hS d0
  have hb0 : Below w.heap.size w ((w.alloc (.cells #[.int .i64 d.1, .int .i64 d.2] 24)).alloc (.cells #[.int .i64 0, .int .i64 0] 24)) := ((Below.refl _ _).alloc (Nat.le_refl _) _).alloc (by simp) _
  unfold stA
  go_enter Tryz.func133, Tryz.ntmps133
  go_wp2_with fail
  refine (HG.out _ hb0).mono ?_
  rintro e w1 ⟨rfl, hb1⟩
  have q0 : w1.heap[w.heap.size]? = some (.cells #[.int .i64 d.1, .int .i64 d.2] 24 (0, 0)) := (hb1.block _ (by simp <;> omega)).trans (heap_alloc2_old w _ _)
  have q1 : w1.heap[w.heap.size + 1]? = some (.cells #[.int .i64 0, .int .i64 0] 24 (0, 0)) := (hb1.block _ (by simp)).trans (heap_alloc2_new w _ _)
  have hb2 := below_step hb0 hb1
  clear hb0 hb1
  go_upto_region 2 with fail
  change Code.wp _ _ _ _ (w1.alloc (.cells (inoA X) 70))
  obtain ⟨u, hu⟩ : ∃ u, u = w1.heap.size := ⟨_, rfl⟩
  have hlow : w.heap.size + 1 < u := by rw [hu]; exact heap_lt q1
  have r0 : (w1.alloc (.cells (inoA X) 70)).heap[w.heap.size]? = _ := (heap_alloc_old w1 _ (by omega)).trans q0
  have r1 : (w1.alloc (.cells (inoA X) 70)).heap[w.heap.size + 1]? = _ := (heap_alloc_old w1 _ (by omega)).trans q1
  have r2 : (w1.alloc (.cells (inoA X) 70)).heap[u]? = some (.cells (inoA X) 70 (0, 0)) := by rw [hu]; exact heap_alloc_new _ _
  have hb3 := hb2.alloc hb2.size (.cells (inoA X) 70)
  rw [← hu]
  generalize w1.alloc (.cells (inoA X) 70) = w2 at r0 r1 r2 hb3 ⊢
  clear q0 q1 hb2 hu
  have hx2 := (ino_cells r2).2.2.1
  have hu2 := heap_lt r2
  by_cases hk : X.kind = 1
  · have hkd : (X.kind == 1) = true := beq_iff_eq.2 hk
    have HDir := Lib.hid (HD.out hk)
    have d1w := (hb3.cell (p := ⟨b, 1, none⟩) hlt).trans d1
    have HE2 := Lib.hid (HE.out.kept (hb3.block be HE.out.lt))
    have hltE := HE2.out.lt
    have HR0 := Lib.hid r0
    have HR1 := Lib.hid r1
    have HB3 := Lib.hid hb3
    clear hk HN HD r0 r1 r2 hb3
    go_wp2_with (at_range; refine wpList_k_range (by rfl) _ _ (by rfl) Tryz.underlying94 be _ (by rfl) HE2.out ?_; intro v1 HRg HB1 HS1)
    rw [show (X.kind != 1) = false by rw [bne, hkd]; rfl]
    clear hx2 hkd d1w
    go_frame
    go_loopg [] ((pairsE g).length + 1) (fun gk wr => ∃ (done todo : List ((St × ByteArray) × St)), gk = todo.length + 1 ∧ Hid (KRange plV stV wr be w2.heap.size (pairsE g) todo) ∧ Hid ((done ++ todo).Perm (pairsE g)) ∧ Hid (∀ p ∈ done, p.2 ≠ d) ∧ Hid (Below w2.heap.size w2 wr) ∧ w2.heap.size + 1 ≤ wr.heap.size)
    case atStart => exact ⟨[], pairsE g, rfl, HRg, List.Perm.refl _, (fun p hp => by cases hp), HB1, by rw [HS1.out]; omega⟩
    case round =>
      obtain ⟨done, todo, rfl, hR, hP, hnone, hB, hs1⟩ := hrel
      clear HRg HB1 HS1
      have t0 := (hB.out.block _ (by omega)).trans HR0.out
      have t1 := (hB.out.block _ (by omega)).trans HR1.out
      go_wp2_with (refine wpList_k_next (by rfl) _ (by rfl) be w2.heap.size _ _ (by rfl) hR.out ?_ ?_)
      · intro h0
        have hR : parentG g d = none := by
          cases hq : parentG g d with
          | none => rfl
          | some up =>
            obtain ⟨e, he, hei, _⟩ := parent_of hq
            have hm : ((e.dir, e.name), e.ino) ∈ pairsE g := List.mem_map.2 ⟨e, he, rfl⟩
            rw [h0, List.append_nil] at hP
            exact absurd hei (hnone.out _ (hP.out.mem_iff.2 hm))
        have HQ := Lib.hid hR
        clear hR h0
        obtain ⟨m0, m1⟩ := two_cells t1
        obtain ⟨f0, f1⟩ := two_free t1
        go_wp2_with fail
        obtain ⟨z0, z1⟩ := two_cells (box_set (c := .int .i64 0) (d := .int .i64 0) t1)
        exact bodyPost_ret (v := .tuple #[.agg (stA (0, 0)), .bool false]) (by simp [results, Tryz.results133, go_sem, stA, z0, z1]) rfl ⟨by rw [HQ.out]; rfl, (below_step HB3.out hB.out |>.setCell (by dsimp only; omega) _).setCell (by dsimp only; omega) _⟩
      · intro t r nm t' r' todo' w4 hp hR2 hB2 hs2 hen
        simp only [plV, stV, stA] at hen ⊢
        have hs2' : w2.heap.size + 1 ≤ w4.heap.size := by rw [hs2.out]; exact hs1
        have n0 := (hB2.out.block _ (by omega) (by omega)).trans t0
        have n1 := (hB2.out.block _ (by omega) (by omega)).trans t1
        have hb4 := hB.out.trans (hB2.out.below (fun i hi => by omega) (by omega))
        have hP2 : Hid ((done ++ [(((t, r), nm), (t', r'))] ++ todo').Perm (pairsE g)) := by
          have e1 : (done ++ todo).Perm (done ++ ((((t, r), nm), (t', r')) :: todo')) := hp.out.append_left _
          show (done ++ [(((t, r), nm), (t', r'))] ++ todo').Perm _
          rw [List.append_assoc]
          exact e1.symm.trans hP.out
        have hlen2 := hp.out.length_eq
        simp only [List.length_cons] at hlen2
        clear t0 t1 hB hB2 hs2 hP hp hR
        go_upto_region 7 with fail
        obtain ⟨z, hz⟩ : ∃ z, z = w4.heap.size := ⟨_, rfl⟩
        have k0 : ((w4.alloc (.cells #[.int .i64 t, .int .i64 r, .string nm] 100)).alloc (.cells #[.int .i64 t', .int .i64 r'] 24)).heap[z]? = some (.cells #[.int .i64 t, .int .i64 r, .string nm] 100 (0, 0)) := by rw [hz]; exact heap_alloc2_old w4 _ _
        have k1 : ((w4.alloc (.cells #[.int .i64 t, .int .i64 r, .string nm] 100)).alloc (.cells #[.int .i64 t', .int .i64 r'] 24)).heap[z + 1]? = some (.cells #[.int .i64 t', .int .i64 r'] 24 (0, 0)) := by rw [hz]; exact heap_alloc2_new w4 _ _
        have hbA : Below w4.heap.size w4 ((w4.alloc (.cells #[.int .i64 t, .int .i64 r, .string nm] 100)).alloc (.cells #[.int .i64 t', .int .i64 r'] 24)) := ((Below.refl _ _).alloc (Nat.le_refl _) _).alloc (by simp) _
        rw [← hz]
        generalize ((w4.alloc (.cells #[.int .i64 t, .int .i64 r, .string nm] 100)).alloc (.cells #[.int .i64 t', .int .i64 r'] 24)) = w5 at k0 k1 hbA ⊢
        have hz5 := hbA.size
        have hR5 := Lib.hid (hR2.out.kept (hbA.block _ (by omega)) (hbA.block _ (by omega)))
        have hb5 := below_step hb4 hbA
        have t0 := (hbA.block _ (by omega)).trans n0
        have t1 := (hbA.block _ (by omega)).trans n1
        clear hz hbA hR2 hb4 n0 n1 hen
        have x0 := cell_of_row _ _ 0 _ _ (0, 0) k0
        have x1 := cell_of_row _ _ 1 _ _ (0, 0) k0
        obtain ⟨y0, y1⟩ := two_cells k1
        obtain ⟨c3, c4⟩ := two_cells t0
        obtain ⟨m0, m1⟩ := two_cells t1
        obtain ⟨f0, f1⟩ := two_free t1
        have HT1 := Lib.hid t1
        have HB5 := Lib.hid hb5
        clear k0 k1 t0 t1 hb5
        by_cases hq : ((t', r') : St) = d
        · have hv := eqSt_yes hq
          have HQ : Hid (parentG g d = some (t, r)) := by
            have hm : (((t, r), nm), (t', r')) ∈ pairsE g := hP2.out.mem_iff.1 (by simp)
            obtain ⟨e, he, hee⟩ := List.mem_map.1 hm
            have e1 : e.ino = d := by rw [← hq]; exact congrArg Prod.snd hee
            have e2 : e.dir = (t, r) := congrArg (fun p => p.1.1) hee
            have hd := HDir.out
            rw [← e1] at hd
            have := hg.parent he hd
            rw [e1, e2] at this
            exact this
          simp only at hv
          go_wp2_with fail
          obtain ⟨z0, z1⟩ := two_cells (box_set (c := .int .i64 t) (d := .int .i64 r) HT1.out)
          exact bodyPost_ret (v := .tuple #[.agg (stA (t, r)), .bool true]) (by simp [results, Tryz.results133, go_sem, stA, z0, z1]) rfl ⟨by rw [HQ.out]; rfl, (below_step HB3.out HB5.out |>.setCell (by dsimp only; omega) _).setCell (by dsimp only; omega) _⟩
        · have hv := eqSt_no hq
          simp only at hv
          go_wp2_with fail
          go_roundg (todo'.length + 1)
          case measure => omega
          case rel =>
            refine ⟨done ++ [(((t, r), nm), (t', r'))], todo', rfl, hR5.out, hP2.out, fun p hp => ?_, HB5.out, by have := HB5.out.size; omega⟩
            rcases List.mem_append.1 hp with hp | hp
            · exact hnone.out p hp
            · rw [List.mem_singleton.1 hp]
              exact hq
  · have hkd : (X.kind == 1) = false := beq_eq_false_iff_ne.2 hk
    have HQ := Lib.hid (HN.out hk)
    clear hk HN HD
    obtain ⟨m0, m1⟩ := two_cells r1
    obtain ⟨f0, f1⟩ := two_free r1
    go_wp2_with fail
    obtain ⟨z0, z1⟩ := two_cells (box_set (c := .int .i64 0) (d := .int .i64 0) r1)
    exact bodyPost_ret (v := .tuple #[.agg (stA (0, 0)), .bool false]) (by simp [results, Tryz.results133, go_sem, stA, z0, z1]) rfl ⟨by rw [HQ.out]; rfl, ((hb3).setCell (by dsimp only; omega) _).setCell (by dsimp only; omega) _⟩

end Go.Proofs.YthcmgaibbpacfaaGreatDoor

/-
  The landed graph's Under: upwards by Parent, to the end.
-/
namespace Go.Proofs.YthcmgaibbpacfaaGreatDoor
open Go.RowKit StampMath GraphMath

theorem under_here (g : Gr) (a : St) : underG g a a = true := by
  unfold underG
  rw [underN_step, if_pos rfl]

theorem under_end {g : Gr} {a b : St} (hq : a ≠ b) (hp : parentG g a = none) : underG g a b = false := by
  unfold underG
  rw [underN_step, if_neg hq, hp]

theorem rank_up {g : Gr} {f : St → Nat} (hf : ∀ e ∈ g.E, g.isDir e.ino → f e.dir < f e.ino) {a p : St} (hp : parentG g a = some p) : f p < f a := by
  obtain ⟨e, he, h1, h2, h3⟩ := parent_of hp
  have := hf e he (by rw [h1]; exact h3)
  rwa [h1, h2] at this

/-- The two boxes that the walk of Under holds. -/
structure VBox (w W : World) (cur dir : St) : Prop where
  b : W.heap[w.heap.size]? = some (.cells #[.int .i64 cur.1, .int .i64 cur.2] 24 (0, 0))
  c : W.heap[w.heap.size + 1]? = some (.cells #[.int .i64 dir.1, .int .i64 dir.2] 24 (0, 0))
  low : Below w.heap.size w W

theorem VBox.step {w W W' : World} {cur dir : St} (h : VBox w W cur dir) (hb : Below W.heap.size W W') : VBox w W' cur dir :=
  ⟨(hb.block _ (heap_lt h.b)).trans h.b, (hb.block _ (heap_lt h.c)).trans h.c, below_step h.low hb⟩

theorem VBox.set {w W : World} {cur dir : St} (h : VBox w W cur dir) (up : St) :
    VBox w ((W.setCell ⟨w.heap.size, 0, none⟩ (.int .i64 up.1)).setCell ⟨w.heap.size, 1, none⟩ (.int .i64 up.2)) up dir :=
  ⟨box_set h.b, (heap_setCell_other _ _ _ _ (by dsimp only; omega)).trans ((heap_setCell_other _ _ _ _ (by dsimp only; omega)).trans h.c),
    (h.low.setCell (Nat.le_refl _) _).setCell (Nat.le_refl _) _⟩

set_option maxRecDepth 100000 in
set_option maxHeartbeats 1600000 in
theorem under_code (a : Addr) (S : Nat → Prop) (g : Gr) (id dir : St) (w : World) (h : GIn w S a g) (hg : g.ok) :
    Calls Tryz.prog 108 #[.pointer (some a), .agg (stA id), .agg (stA dir)] w fun e w' => e = .returned (.bool (underG g id dir)) ∧ Below w.heap.size w w' := by
  obtain ⟨f, hf⟩ := hg.rank
  have HP : Hid (∀ (x : St) (W : World), Below w.heap.size w W → Calls Tryz.prog 133 #[.pointer (some a), .agg #[.int .i64 x.1, .int .i64 x.2]] W fun e w' => e = .returned (.tuple #[.agg #[.int .i64 ((parentG g x).getD (0, 0)).1, .int .i64 ((parentG g x).getD (0, 0)).2], .bool (parentG g x).isSome]) ∧ Below W.heap.size W w') := fun x W hW =>
    parent_code a S g x W (h.keep fun i hi => hW.block i (h.lt i hi)) hg
  have HUp : Hid (∀ x p, parentG g x = some p → f p < f x) := fun x p hp => rank_up hf hp
  have HSt : Hid (∀ x p, parentG g x = some p → x ≠ dir → underG g x dir = underG g p dir) := fun x p hp hq => hg.under_step hp hq
  have HEnd : Hid (∀ x, parentG g x = none → x ≠ dir → underG g x dir = false) := fun x hp hq => under_end hq hp
  obtain ⟨b0, rfl⟩ : ∃ b0, a = ⟨b0, 0, none⟩ := by obtain ⟨b, _, _, rfl, _⟩ := h; exact ⟨b, rfl⟩
  clear h hf
  have hb0 : VBox w ((w.alloc (.cells #[.int .i64 id.1, .int .i64 id.2] 24)).alloc (.cells #[.int .i64 dir.1, .int .i64 dir.2] 24)) id dir :=
    ⟨heap_alloc2_old w _ _, heap_alloc2_new w _ _, ((Below.refl _ _).alloc (Nat.le_refl _) _).alloc (by simp) _⟩
  unfold stA
  go_enter Tryz.func108, Tryz.ntmps108
  go_wp2_with fail
  go_loopg [7] (f id + 2) (fun gk u wr => ∃ (b : Bool) (cur : St), u = .bool b ∧ gk = (if b = true then f cur + 2 else 1) ∧ Hid (if b = true then underG g cur dir = underG g id dir else underG g id dir = false) ∧ VBox w wr cur dir)
  case atStart => exact ⟨true, id, rfl, rfl, rfl, hb0⟩
  case round =>
    obtain ⟨b, cur, rfl, hgk, hun, hH⟩ := hrel
    clear hb0
    cases b with
    | false =>
      have HU : Hid (underG g id dir = false) := hun.out
      clear hun hgk
      go_wp2_with fail
      go_ret
      exact ⟨by rw [HU.out]; rfl, hH.low⟩
    | true =>
      have hgk' : gk = f cur + 2 := hgk
      have HU : Hid (underG g cur dir = underG g id dir) := hun.out
      clear hun hgk
      obtain ⟨c3, c4⟩ := two_cells hH.b
      obtain ⟨c5, c6⟩ := two_cells hH.c
      obtain ⟨f0, f1⟩ := two_free hH.b
      by_cases hq : cur = dir
      · have hv := eqSt_yes hq
        have HT : Hid (underG g id dir = true) := by rw [← HU.out, hq]; exact under_here g dir
        subst hq
        go_wp2_with fail
        go_ret
        exact ⟨by rw [HT.out]; rfl, hH.low⟩
      · have hv := eqSt_no hq
        have HPc := Lib.hid (HP.out cur)
        cases hpar : parentG g cur with
        | none =>
          have HF : Hid (underG g id dir = false) := by rw [← HU.out]; exact HEnd.out cur hpar hq
          rw [hpar] at HPc
          have HQ : Hid (∀ (W : World), Below w.heap.size w W → Calls Tryz.prog 133 #[.pointer (some ⟨b0, 0, none⟩), .agg #[.int .i64 cur.1, .int .i64 cur.2]] W fun e w' => e = .returned (.tuple #[.agg #[.int .i64 0, .int .i64 0], .bool false]) ∧ Below W.heap.size W w') := HPc
          clear HPc hpar HU hq
          go_wp2_with fail
          refine (HQ.out _ hH.low).mono ?_
          rintro e w1 ⟨rfl, hb1⟩
          have hH1 := hH.step hb1
          clear hH hb1 c3 c4 c5 c6 f0 f1 hv
          obtain ⟨c3, c4⟩ := two_cells hH1.b
          obtain ⟨f0, f1⟩ := two_free hH1.b
          go_wp2_with fail
          go_roundg 1
          case measure => omega
          case rel => exact ⟨false, (0, 0), rfl, rfl, HF.out, hH1.set (0, 0)⟩
        | some up =>
          have HS : Hid (underG g up dir = underG g id dir) := by rw [← HU.out]; exact (HSt.out cur up hpar hq).symm
          have hr := HUp.out cur up hpar
          rw [hpar] at HPc
          have HQ : Hid (∀ (W : World), Below w.heap.size w W → Calls Tryz.prog 133 #[.pointer (some ⟨b0, 0, none⟩), .agg #[.int .i64 cur.1, .int .i64 cur.2]] W fun e w' => e = .returned (.tuple #[.agg #[.int .i64 up.1, .int .i64 up.2], .bool true]) ∧ Below W.heap.size W w') := HPc
          clear HPc hpar HU hq
          go_wp2_with fail
          refine (HQ.out _ hH.low).mono ?_
          rintro e w1 ⟨rfl, hb1⟩
          have hH1 := hH.step hb1
          clear hH hb1 c3 c4 c5 c6 f0 f1 hv
          obtain ⟨c3, c4⟩ := two_cells hH1.b
          obtain ⟨f0, f1⟩ := two_free hH1.b
          go_wp2_with fail
          go_roundg (f up + 2)
          case measure => omega
          case rel => exact ⟨true, up, rfl, rfl, HS.out, hH1.set up⟩

end Go.Proofs.YthcmgaibbpacfaaGreatDoor

/-
  The landed graph's mayTie: why there can't be an entry.
-/
namespace Go.Proofs.YthcmgaibbpacfaaGreatDoor
open Go.RowKit StampMath GraphMath OpMath

theorem leads_dir {g : Gr} (h : g.ok) {a b : St} (hl : Leads g a b) (ha : g.isDir a) : g.isDir b := by
  induction hl with
  | here => exact ha
  | up e d he _ _ ih => exact ih (h.dirs e he)

theorem why_asked {g : Gr} (h : g.ok) {dir ino : St} {nm : ByteArray} {A X : Ino} (hA : getG g dir = some A) (hX : getG g ino = some X) :
    whyG true g ⟨dir, nm, ino⟩ = if A.kind ≠ 1 then 6 else if (lookE g.E dir nm).isSome then 4 else if ino = (0, 0) ∨ underG g dir ino = true then 8 else if fullB X = true then 12 else 0 := by
  unfold whyG
  rw [if_neg (by simp)]
  simp only [hA, hX]
  by_cases hk : A.kind = 1
  · have hk' : ¬ A.kind ≠ 1 := fun q => q hk
    rw [if_neg hk', if_neg hk']
    have hdir := getDir_of hA hk
    have hkind : ino = (0, 0) ∨ underG g dir ino = true → X.kind = 1 := by
      rintro (hz | hu)
      · obtain ⟨y, hy, hyi, hyk⟩ := h.root
        rw [hz, ← hyi, h.get hy] at hX
        injection hX with hX
        rw [← hX]
        exact hyk
      · obtain ⟨x, hx, hxk⟩ := h.getDir (leads_dir h (h.leads.1 hu) hdir)
        rw [hX] at hx
        injection hx with hx
        rw [hx]
        exact hxk
    by_cases hl : (lookE g.E dir nm).isSome = true
    · rw [if_pos hl, if_pos hl]
    · rw [if_neg hl, if_neg hl]
      by_cases hu : ino = (0, 0) ∨ underG g dir ino = true
      · rw [if_pos ⟨hkind hu, hu⟩, if_pos hu]
      · rw [if_neg fun q => hu q.2, if_neg hu]
        have hf : (X.kind = 1 ∧ 0 < X.links ∨ 6 ≤ X.links) ↔ fullB X = true := by
          unfold fullB
          by_cases hx : X.kind = 1
          · rw [if_pos hx, decide_eq_true_iff]; omega
          · rw [if_neg hx, decide_eq_true_iff]; omega
        by_cases hq : X.kind = 1 ∧ 0 < X.links ∨ 6 ≤ X.links
        · rw [if_pos hq, if_pos (hf.1 hq)]
        · rw [if_neg hq, if_neg fun r => hq (hf.2 r)]
  · rw [if_pos hk, if_pos hk]

theorem why_none {g : Gr} {dir ino : St} {nm : ByteArray} (h : (getG g dir).isSome = false ∨ (getG g ino).isSome = false) : whyG true g ⟨dir, nm, ino⟩ = 3 := by
  unfold whyG
  rw [if_neg (by simp)]
  cases h1 : getG g dir with
  | none => simp
  | some p =>
    cases h2 : getG g ino with
    | none => simp
    | some q => rw [h1, h2] at h; simp at h

set_option maxRecDepth 100000 in
set_option maxHeartbeats 4000000 in
theorem mayTie_code (a : Addr) (S : Nat → Prop) (g : Gr) (x : Ent) (w : World) (h : GIn w S a g) (hg : g.ok) (hsz : x.name.size ≤ maxLen) :
    Calls Tryz.prog 84 #[.pointer (some a), .agg (entA x)] w fun e w' => e = .returned (.int .i64 (whyG (nameB x.name) g x)) ∧ Below w.heap.size w w' := by
  obtain ⟨b, hb⟩ : ∃ b, b = nameB x.name := ⟨_, rfl⟩
  have HN : Hid (∀ W : World, Calls Tryz.prog 107 #[.string x.name] W fun e w' => e = .returned (.bool b) ∧ W = w') := fun W => by rw [hb]; exact name_any _ hsz W
  rw [← hb]
  clear hb hsz
  have HGet : Hid (∀ (id : St) (W : World), Below w.heap.size w W → Calls Tryz.prog 81 #[.pointer (some a), .agg #[.int .i64 id.1, .int .i64 id.2]] W fun e w' => e = .returned (.tuple #[.agg (inoA ((getG g id).getD noIno)), .bool (getG g id).isSome]) ∧ Below W.heap.size W w') := fun id W hW => get_code a S g id W (h.keep fun i hi => hW.block i (h.lt i hi)) hg
  have HLk : Hid (∀ W : World, Below w.heap.size w W → Calls Tryz.prog 79 #[.pointer (some a), .agg #[.int .i64 x.dir.1, .int .i64 x.dir.2], .string x.name] W fun e w' => e = .returned (.tuple #[.agg (stA ((lookE g.E x.dir x.name).getD (0, 0))), .bool (lookE g.E x.dir x.name).isSome]) ∧ Below W.heap.size W w') := fun W hW => look_code a S g x.dir x.name W (h.keep fun i hi => hW.block i (h.lt i hi))
  have HUn : Hid (∀ W : World, Below w.heap.size w W → Calls Tryz.prog 108 #[.pointer (some a), .agg #[.int .i64 x.dir.1, .int .i64 x.dir.2], .agg #[.int .i64 x.ino.1, .int .i64 x.ino.2]] W fun e w' => e = .returned (.bool (underG g x.dir x.ino)) ∧ Below W.heap.size W w') := fun W hW => under_code a S g x.dir x.ino W (h.keep fun i hi => hW.block i (h.lt i hi)) hg
  have HRt : Hid (∀ W : World, Calls Tryz.prog 48 #[] W fun e w' => e = .returned (.agg #[.int .i64 0, .int .i64 0]) ∧ Below W.heap.size W w') := root_any
  clear h
  obtain ⟨dir, nm, ino⟩ := x
  have hb0 : Below w.heap.size w (w.alloc (.cells (entA ⟨dir, nm, ino⟩) 66)) := (Below.refl _ _).alloc (Nat.le_refl _) _
  have he0 := heap_alloc_new w (.cells (entA ⟨dir, nm, ino⟩) 66)
  unfold entA
  cases b with
  | false =>
    have hw : Hid (whyG false g ⟨dir, nm, ino⟩ = 1) := by unfold whyG; exact if_pos rfl
    go_enter Tryz.func84, Tryz.ntmps84
    go_wp2_with fail
    refine (HN.out _).mono ?_
    rintro e w1 ⟨rfl, rfl⟩
    go_wp2_with fail
    go_ret
    exact ⟨by rw [hw.out]; rfl, hb0⟩
  | true =>
    go_enter Tryz.func84, Tryz.ntmps84
    go_wp2_with fail
    refine (HN.out _).mono ?_
    rintro e w1 ⟨rfl, rfl⟩
    have hW0 : ∃ W0, W0 = w.alloc (.cells (entA ⟨dir, nm, ino⟩) 66) := ⟨_, rfl⟩
    obtain ⟨W0, hW0⟩ := hW0
    have hW0' : w.alloc (.cells #[.int .i64 dir.1, .int .i64 dir.2, .string nm, .int .i64 ino.1, .int .i64 ino.2] 66) = W0 := hW0.symm
    rw [hW0']
    rw [← hW0] at he0 hb0
    clear hW0 hW0'
    obtain ⟨A, hA⟩ : ∃ A, A = (getG g dir).getD noIno := ⟨_, rfl⟩
    obtain ⟨ia, hia⟩ : ∃ ia, ia = (getG g dir).isSome := ⟨_, rfl⟩
    obtain ⟨X, hX⟩ : ∃ X, X = (getG g ino).getD noIno := ⟨_, rfl⟩
    obtain ⟨ix, hix⟩ : ∃ ix, ix = (getG g ino).isSome := ⟨_, rfl⟩
    have HA : Hid (∀ W : World, Below w.heap.size w W → Calls Tryz.prog 81 #[.pointer (some a), .agg #[.int .i64 dir.1, .int .i64 dir.2]] W fun e w' => e = .returned (.tuple #[.agg #[.int .i64 A.id.1, .int .i64 A.id.2, .int .i64 A.kind, .int .i64 A.links, .int .i64 A.mode, .string A.data], .bool ia]) ∧ Below W.heap.size W w') := by rw [hA, hia]; exact HGet.out dir
    have HX : Hid (∀ W : World, Below w.heap.size w W → Calls Tryz.prog 81 #[.pointer (some a), .agg #[.int .i64 ino.1, .int .i64 ino.2]] W fun e w' => e = .returned (.tuple #[.agg #[.int .i64 X.id.1, .int .i64 X.id.2, .int .i64 X.kind, .int .i64 X.links, .int .i64 X.mode, .string X.data], .bool ix]) ∧ Below W.heap.size W w') := by rw [hX, hix]; exact HGet.out ino
    have HFl : Hid (∀ W : World, Calls Tryz.prog 109 #[.agg #[.int .i64 X.id.1, .int .i64 X.id.2, .int .i64 X.kind, .int .i64 X.links, .int .i64 X.mode, .string X.data]] W fun e w' => e = .returned (.bool (fullB X)) ∧ Below W.heap.size W w') := fun W => full_code X W
    have HNo : Hid (ia = false ∨ ix = false → whyG true g ⟨dir, nm, ino⟩ = 3) := fun q => why_none (by rw [← hia, ← hix]; exact q)
    have HWh : Hid (ia = true → ix = true → whyG true g ⟨dir, nm, ino⟩ = if A.kind ≠ 1 then 6 else if (lookE g.E dir nm).isSome then 4 else if ino = (0, 0) ∨ underG g dir ino = true then 8 else if fullB X = true then 12 else 0) := fun q1 q2 => by
      rw [hia] at q1
      rw [hix] at q2
      refine why_asked hg ?_ ?_
      · rw [hA]
        cases h2 : getG g dir with
        | none => rw [h2] at q1; cases q1
        | some _ => rfl
      · rw [hX]
        cases h2 : getG g ino with
        | none => rw [h2] at q2; cases q2
        | some _ => rfl
    clear hA hia hX hix HGet
    obtain ⟨e0, e1, e2, e3, e4⟩ := ent_cells he0
    go_wp2_with fail
    refine (HA.out _ hb0).mono ?_
    rintro e w1 ⟨rfl, hb1⟩
    go_upto_region 4 with fail
    change Code.wp _ _ _ _ (w1.alloc (.cells (inoA A) 70))
    obtain ⟨u1, hu1⟩ : ∃ u, u = w1.heap.size := ⟨_, rfl⟩
    have hq0 := (hb1.block _ (heap_lt he0)).trans he0
    have hlow1 : w.heap.size < u1 := by rw [hu1]; exact heap_lt hq0
    have r0 := (heap_alloc_old w1 (.cells (inoA A) 70) (by omega)).trans hq0
    have r1 : (w1.alloc (.cells (inoA A) 70)).heap[u1]? = some (.cells (inoA A) 70 (0, 0)) := by rw [hu1]; exact heap_alloc_new _ _
    have hb2 := (below_step hb0 hb1).alloc (below_step hb0 hb1).size (.cells (inoA A) 70)
    rw [← hu1]
    generalize w1.alloc (.cells (inoA A) 70) = w2 at r0 r1 hb2 ⊢
    clear hq0 hb0 hb1 hu1 he0 e0 e1 e2 e3 e4
    obtain ⟨e0, e1, e2, e3, e4⟩ := ent_cells r0
    go_wp2_with fail
    refine (HX.out _ hb2).mono ?_
    rintro e w3 ⟨rfl, hb3⟩
    go_upto_region 5 with fail
    change Code.wp _ _ _ _ (w3.alloc (.cells (inoA X) 70))
    obtain ⟨u2, hu2⟩ : ∃ u, u = w3.heap.size := ⟨_, rfl⟩
    have q0 := (hb3.block _ (heap_lt r0)).trans r0
    have q1 := (hb3.block _ (heap_lt r1)).trans r1
    have hlow2 : u1 < u2 := by rw [hu2]; exact heap_lt q1
    have s0 := (heap_alloc_old w3 (.cells (inoA X) 70) (by omega)).trans q0
    have s1 := (heap_alloc_old w3 (.cells (inoA X) 70) (by omega)).trans q1
    have s2 : (w3.alloc (.cells (inoA X) 70)).heap[u2]? = some (.cells (inoA X) 70 (0, 0)) := by rw [hu2]; exact heap_alloc_new _ _
    have hb4 := (below_step hb2 hb3).alloc (below_step hb2 hb3).size (.cells (inoA X) 70)
    rw [← hu2]
    generalize w3.alloc (.cells (inoA X) 70) = w4 at s0 s1 s2 hb4 ⊢
    clear q0 q1 hb2 hb3 hu2 r0 r1 e0 e1 e2 e3 e4 HA HX
    obtain ⟨e0, e1, e2, e3, e4⟩ := ent_cells s0
    have a2 := (ino_cells s1).2.2.1
    have hcase : (ia = false ∨ (ia = true ∧ ix = false)) ∨ (ia = true ∧ ix = true) := by cases ia <;> cases ix <;> simp
    rcases hcase with hcase | ⟨rfl, rfl⟩
    · have hw : Hid (whyG true g ⟨dir, nm, ino⟩ = 3) := HNo.out (by rcases hcase with h | ⟨_, h⟩ <;> simp [h])
      rcases hcase with rfl | ⟨rfl, rfl⟩
      all_goals
        go_wp2_with fail
        go_ret
        exact ⟨by rw [hw.out]; rfl, hb4⟩
    · have hwhy := HWh.out rfl rfl
      by_cases hak : A.kind = 1
      · rw [if_neg (by simp [hak])] at hwhy
        have hak' : (A.kind != 1) = false := by simp [hak]
        obtain ⟨lk, hlk⟩ : ∃ lk, lk = (lookE g.E dir nm).isSome := ⟨_, rfl⟩
        obtain ⟨lv, hlv⟩ : ∃ lv, lv = (lookE g.E dir nm).getD (0, 0) := ⟨_, rfl⟩
        have HL : Hid (∀ W : World, Below w.heap.size w W → Calls Tryz.prog 79 #[.pointer (some a), .agg #[.int .i64 dir.1, .int .i64 dir.2], .string nm] W fun e w' => e = .returned (.tuple #[.agg #[.int .i64 lv.1, .int .i64 lv.2], .bool lk]) ∧ Below W.heap.size W w') := by rw [hlk, hlv]; exact HLk.out
        rw [← hlk] at hwhy
        have HW2 := Lib.hid hwhy
        clear hlk hlv hwhy HLk HWh HNo hak
        go_wp2_with fail
        refine (HL.out _ hb4).mono ?_
        rintro e w5 ⟨rfl, hb5⟩
        go_upto_region 10 with fail
        change Code.wp _ _ _ _ (w5.alloc (.cells #[.int .i64 lv.1, .int .i64 lv.2] 24))
        obtain ⟨u3, hu3⟩ : ∃ u, u = w5.heap.size := ⟨_, rfl⟩
        have q0 := (hb5.block _ (heap_lt s0)).trans s0
        have q2 := (hb5.block _ (heap_lt s2)).trans s2
        have hlow3 : u2 < u3 := by rw [hu3]; exact heap_lt q2
        have t0 := (heap_alloc_old w5 (.cells #[.int .i64 lv.1, .int .i64 lv.2] 24) (by omega)).trans q0
        have t2 := (heap_alloc_old w5 (.cells #[.int .i64 lv.1, .int .i64 lv.2] 24) (by omega)).trans q2
        have hb6 := (below_step hb4 hb5).alloc (below_step hb4 hb5).size (.cells #[.int .i64 lv.1, .int .i64 lv.2] 24)
        rw [← hu3]
        generalize w5.alloc (.cells #[.int .i64 lv.1, .int .i64 lv.2] 24) = w6 at t0 t2 hb6 ⊢
        clear q0 q2 hb4 hb5 hu3 s0 s1 s2 e0 e1 e2 e3 e4 a2 HL
        obtain ⟨e0, e1, e2, e3, e4⟩ := ent_cells t0
        cases lk with
        | true =>
          have hw : Hid (whyG true g ⟨dir, nm, ino⟩ = 4) := HW2.out.trans (if_pos rfl)
          go_wp2_with fail
          go_ret
          exact ⟨by rw [hw.out]; rfl, hb6⟩
        | false =>
          have hwhy3 : whyG true g ⟨dir, nm, ino⟩ = if ino = (0, 0) ∨ underG g dir ino = true then 8 else if fullB X = true then 12 else 0 := HW2.out.trans (if_neg (by simp))
          obtain ⟨un, hun⟩ : ∃ un, un = underG g dir ino := ⟨_, rfl⟩
          obtain ⟨fl, hfl⟩ : ∃ fl, fl = fullB X := ⟨_, rfl⟩
          have HU : Hid (∀ W : World, Below w.heap.size w W → Calls Tryz.prog 108 #[.pointer (some a), .agg #[.int .i64 dir.1, .int .i64 dir.2], .agg #[.int .i64 ino.1, .int .i64 ino.2]] W fun e w' => e = .returned (.bool un) ∧ Below W.heap.size W w') := by rw [hun]; exact HUn.out
          rw [← hun, ← hfl] at hwhy3
          rw [← hfl] at HFl
          have HW3 := Lib.hid hwhy3
          have HB6 := Lib.hid hb6
          have HT2 := Lib.hid t2
          have HT0 := Lib.hid t0
          have HRl : Hid (∀ y, Calls Tryz.prog 48 #[] (later w6 y) fun e w' => e = .returned (.agg #[.int .i64 0, .int .i64 0]) ∧ Below (later w6 y).heap.size (later w6 y) w') := fun y => HRt.out _
          have HUl : Hid (∀ y, Calls Tryz.prog 108 #[.pointer (some a), .agg #[.int .i64 dir.1, .int .i64 dir.2], .agg #[.int .i64 ino.1, .int .i64 ino.2]] (later w6 y) fun e w' => e = .returned (.bool un) ∧ Below (later w6 y).heap.size (later w6 y) w') := fun y => HU.out _ (below_step HB6.out (later_below w6 y))
          clear hun hfl hwhy3 HUn HW2 HU HRt
          by_cases hz : ino = (0, 0)
          · have hw : Hid (whyG true g ⟨dir, nm, ino⟩ = 8) := HW3.out.trans (if_pos (Or.inl hz))
            have hv : ∀ W : World, (Op.equalIn 10000 24 (.agg #[.int .i64 ino.1, .int .i64 ino.2]) (.agg #[.int .i64 0, .int .i64 0])).run Tryz.prog W = .ok true W := fun W => by rw [run_eqSt, decide_eq_true (show ((ino.1, ino.2) : St) = (0, 0) from hz)]
            clear hz
            have c0 := later_cell e0
            have c1 := later_cell e1
            have c3 := later_cell e3
            have c4 := later_cell e4
            clear e0 e1 e2 e3 e4
            go_upto_region 12 with fail
            refine wp_region_later (by kernel_rfl) (by kernel_rfl) ?_
            repeat (go_big_quiet_step (first | (with_reducible exact later_call (HRl.out _)) | (with_reducible exact later_call (HUl.out _))))
            refine wpQuiet_nil ?_
            intro _ hw'
            obtain ⟨y, rfl⟩ := hw'
            clear c0 c1 c3 c4
            go_wp2_with fail
            go_ret
            exact ⟨by rw [hw.out]; rfl, below_step HB6.out (later_below w6 y)⟩
          · have hv : ∀ W : World, (Op.equalIn 10000 24 (.agg #[.int .i64 ino.1, .int .i64 ino.2]) (.agg #[.int .i64 0, .int .i64 0])).run Tryz.prog W = .ok false W := fun W => by rw [run_eqSt, decide_eq_false (show ¬ ((ino.1, ino.2) : St) = (0, 0) from hz)]
            have hz' := Lib.hid hz
            clear hz
            cases un with
            | true =>
              have hw : Hid (whyG true g ⟨dir, nm, ino⟩ = 8) := HW3.out.trans (if_pos (Or.inr rfl))
              have c0 := later_cell e0
              have c1 := later_cell e1
              have c3 := later_cell e3
              have c4 := later_cell e4
              clear e0 e1 e2 e3 e4
              go_upto_region 12 with fail
              refine wp_region_later (by kernel_rfl) (by kernel_rfl) ?_
              repeat (go_big_quiet_step (first | (with_reducible exact later_call (HRl.out _)) | (with_reducible exact later_call (HUl.out _))))
              refine wpQuiet_nil ?_
              intro _ hw'
              obtain ⟨y, rfl⟩ := hw'
              clear c0 c1 c3 c4
              go_wp2_with fail
              go_ret
              exact ⟨by rw [hw.out]; rfl, below_step HB6.out (later_below w6 y)⟩
            | false =>
              have hwhy4 : Hid (whyG true g ⟨dir, nm, ino⟩ = if fl = true then 12 else 0) := HW3.out.trans (if_neg fun q => q.elim hz'.out (by simp))
              have c0 := later_cell e0
              have c1 := later_cell e1
              have c3 := later_cell e3
              have c4 := later_cell e4
              clear e0 e1 e2 e3 e4
              go_upto_region 12 with fail
              refine wp_region_later (by kernel_rfl) (by kernel_rfl) ?_
              repeat (go_big_quiet_step (first | (with_reducible exact later_call (HRl.out _)) | (with_reducible exact later_call (HUl.out _))))
              refine wpQuiet_nil ?_
              intro _ hw'
              obtain ⟨y, rfl⟩ := hw'
              clear c0 c1 c3 c4
              have hb9 := later_below w6 y
              have t2 := (hb9.block _ (heap_lt HT2.out)).trans HT2.out
              have hb10 := below_step HB6.out hb9
              obtain ⟨y0, y1, y2, y3, y4, y5⟩ := ino_cells t2
              clear t2 hb9
              cases fl with
              | true =>
                have hw : Hid (whyG true g ⟨dir, nm, ino⟩ = 12) := hwhy4.out.trans (if_pos rfl)
                go_wp2_with fail
                refine (HFl.out _).mono ?_
                rintro e w11 ⟨rfl, hb11⟩
                go_wp2_with fail
                go_ret
                exact ⟨by rw [hw.out]; rfl, below_step hb10 hb11⟩
              | false =>
                have hw : Hid (whyG true g ⟨dir, nm, ino⟩ = 0) := hwhy4.out.trans (if_neg (by simp))
                go_wp2_with fail
                refine (HFl.out _).mono ?_
                rintro e w11 ⟨rfl, hb11⟩
                go_wp2_with fail
                go_ret
                exact ⟨by rw [hw.out]; rfl, below_step hb10 hb11⟩
      · rw [if_pos hak] at hwhy
        have hw := Lib.hid hwhy
        have hak' : (A.kind != 1) = true := by simp [hak]
        clear hwhy hak
        go_wp2_with fail
        go_ret
        exact ⟨by rw [hw.out]; rfl, hb4⟩

end Go.Proofs.YthcmgaibbpacfaaGreatDoor

/-
  The landed graph's Tie.
-/
namespace Go.Proofs.YthcmgaibbpacfaaGreatDoor
open Go.RowKit StampMath GraphMath OpMath

set_option maxRecDepth 100000 in
set_option maxHeartbeats 1600000 in
theorem tie_code (a : Addr) (S : Nat → Prop) (g : Gr) (x : Ent) (w : World) (h : GIn w S a g) (hg : g.ok) (hsz : x.name.size ≤ maxLen) :
    Calls Tryz.prog 55 #[.pointer (some a), .agg (entA x)] w fun e w' => e = .returned (.int .i64 (tieG (nameB x.name) g x).2) ∧ GIn w' S a (tieG (nameB x.name) g x).1 ∧ But S w w' := by
  obtain ⟨why, hwhy⟩ : ∃ why, why = whyG (nameB x.name) g x := ⟨_, rfl⟩
  have HM : Hid (∀ W : World, Below w.heap.size w W → Calls Tryz.prog 84 #[.pointer (some a), .agg #[.int .i64 x.dir.1, .int .i64 x.dir.2, .string x.name, .int .i64 x.ino.1, .int .i64 x.ino.2]] W fun e w' => e = .returned (.int .i64 why) ∧ Below W.heap.size W w') := fun W hW => by
    rw [hwhy]
    exact mayTie_code a S g x W (h.keep fun i hi => hW.block i (h.lt i hi)) hg hsz
  have hG := Lib.hid h
  have hb0 : Below w.heap.size w (w.alloc (.cells (entA x) 66)) := (Below.refl _ _).alloc (Nat.le_refl _) _
  have he0 := heap_alloc_new w (.cells (entA x) 66)
  by_cases hw : why = 0
  · have htie : tieG (nameB x.name) g x = (⟨g.I, putIn (fun a => aheadE a x) g.E x⟩, 0) := by unfold tieG; rw [if_pos (by rw [← hwhy]; exact hw)]
    have h0 : (tieG (nameB x.name) g x).2 = 0 := by rw [htie]
    have hok := hg.tie (nameB x.name) x
    obtain ⟨X, hX⟩ : ∃ X, getG g x.ino = some X := by
      have : ¬ getG g x.ino = none := fun q => by
        have h1 : whyG (nameB x.name) g x = 0 := by rw [← hwhy]; exact hw
        unfold whyG at h1
        rw [q] at h1
        cases hn : nameB x.name with
        | false => rw [hn] at h1; simp at h1
        | true =>
          rw [hn] at h1
          cases hd : getG g x.dir with
          | none => rw [hd] at h1; simp at h1
          | some _ => rw [hd] at h1; simp at h1
      cases hq : getG g x.ino with
      | none => exact absurd hq this
      | some y => exact ⟨y, rfl⟩
    have hwr : wrap64 (X.links + 1) = X.links + 1 := by
      have h6 := hg.six x.ino
      obtain ⟨y, _, _, hy⟩ := get_some hX
      have h7 : X.links = (linksE g.E x.ino : Int) := by rw [hy]
      unfold wrap64
      omega
    have HG : Hid (tieG (nameB x.name) g x).1.ok := hok
    have HT0 := Lib.hid htie
    have HH0 := Lib.hid h0
    have HX := Lib.hid hX
    have HR := Lib.hid hwr
    obtain ⟨b, bi, be, rfl, h1, h2, h3, hb, hi, he, hS⟩ := h
    obtain ⟨d0, d1⟩ := two_cells hb
    have hlt := heap_lt hb
    have HI := Lib.hid hi
    have HE := Lib.hid he
    have HS := Lib.hid hS
    have HBlk := Lib.hid hb
    have hw0 : (why == 0) = true := beq_iff_eq.2 hw
    have HC : Hid (∀ W : World, W.heap[b]? = some (.cells #[.map (some bi), .map (some be)] 96 (0, 0)) → KMap stV inoV W bi (pairsI g) → Calls Tryz.prog 80 #[.pointer (some ⟨b, 0, none⟩), .agg #[.int .i64 x.ino.1, .int .i64 x.ino.2], .int .i64 1] W fun e w' => e = .returned (.tuple #[]) ∧ KMap stV inoV w' bi ((x.ino, { X with links := X.links + 1 }) :: offL (pairsI g) x.ino) ∧ But (fun i => i = bi) W w') := fun W hb hi => count_code b bi be (pairsI g) x.ino 1 X W hb hi (by rw [look_pairsI hg]; exact hX) hwr
    clear hi he hS hb hX hwr htie h0 hok hw hwhy d0
    obtain ⟨dir, nm, ino⟩ := x
    unfold entA
    go_enter Tryz.func55, Tryz.ntmps55
    go_upto_region 1 with fail
    change Code.wp _ _ _ _ (w.alloc (.cells (entA ⟨dir, nm, ino⟩) 66))
    generalize w.alloc (.cells (entA ⟨dir, nm, ino⟩) 66) = w1 at he0 hb0 ⊢
    obtain ⟨e0, e1, e2, e3, e4⟩ := ent_cells he0
    go_wp2_with fail
    refine (HM.out _ hb0).mono ?_
    rintro e w2 ⟨rfl, hb2⟩
    have he2 := (hb2.block _ (heap_lt he0)).trans he0
    have hb3 := below_step hb0 hb2
    clear he0 hb0 hb2 e0 e1 e2 e3 e4 HM
    obtain ⟨e0, e1, e2, e3, e4⟩ := ent_cells he2
    have d1w := (hb3.cell (p := ⟨b, 1, none⟩) hlt).trans d1
    obtain ⟨w3, hrun, hm3, hbut3, hsz3⟩ := (HE.out.kept (hb3.drew.block be HE.out.lt)).store plShape Tryz.underlying94 (dir, nm) ino
    simp only [stV, stA, plV] at hrun
    have HM3 := Lib.hid hm3
    have HU3 := Lib.hid hbut3
    have HB3 := Lib.hid hb3
    have HE2 := Lib.hid he2
    have hilt := HI.out.lt
    have helt := HE.out.lt
    clear hm3 hbut3 hb3 he2
    go_upto_region 4 with fail
    go_region
    clear hrun e0 e1 e2 e3 e4 d1w
    have hb4 : But (fun i => i = be) w w3 := (But.of_below HB3.out.drew).trans HU3.out fun i hi _ => hi
    have z0 : w3.heap[w.heap.size]? = some (.cells (entA ⟨dir, nm, ino⟩) 66 (0, 0)) := HU3.out.heap (a := w2.drew) HE2.out (fun q => by omega)
    have hblk := hb4.heap HBlk.out (fun q => h2 q)
    have hi3 : KMap stV inoV w3 bi (pairsI g) := HI.out.kept (hb4.block bi hilt fun q => h3 q)
    have HB4 := Lib.hid hb4
    obtain ⟨e0, e1, e2, e3, e4⟩ := ent_cells z0
    have hs4 := hb4.size
    clear hb4 z0
    go_wp2_with fail
    refine (HC.out _ hblk hi3).mono ?_
    rintro e w4 ⟨rfl, hm4, hb5⟩
    clear e0 e1 e2 e3 e4
    go_wp2_with fail
    go_ret
    have hb6 : But (fun i => i = bi ∨ i = be) w w4 := (HB4.out.mono (T := fun i => i = bi ∨ i = be) fun i hi => Or.inr hi).trans hb5 fun i hi _ => Or.inl hi
    refine ⟨by rw [HH0.out]; rfl, ⟨b, bi, be, rfl, h1, h2, h3, ?_, ?_, ?_, HS.out⟩, hb6.mono fun i hi => (HS.out i).2 (Or.inr hi)⟩
    · exact hb6.heap HBlk.out (fun q => q.elim h1 h2)
    · refine hm4.perm (put_perm (keys_pairsI hg) (keys_pairsI HG.out) (x := ino) (v := { X with links := X.links + 1 }) fun k => ?_)
      rw [look_pairsI HG.out, look_pairsI hg, tie_get HH0.out]
      by_cases hk : k = ino
      · rw [if_pos hk, hk, HX.out]
        simp
      · rw [if_neg hk]
        cases getG g k <;> simp [hk]
    · refine KMap.perm ?_ (put_perm (keys_pairsE hg) (keys_pairsE HG.out) fun p => ?_) (L := ((dir, nm), ino) :: offL (pairsE g) (dir, nm))
      · exact HM3.out.kept (hb5.block be (by omega) fun q => h3 q.symm)
      · rw [tie_look hg HH0.out]
  · have htie : tieG (nameB x.name) g x = (g, why) := by unfold tieG; rw [← hwhy, if_neg hw]
    rw [htie]
    have hw0 : (why == 0) = false := beq_eq_false_iff_ne.2 hw
    clear htie hwhy hw h
    obtain ⟨dir, nm, ino⟩ := x
    unfold entA
    go_enter Tryz.func55, Tryz.ntmps55
    go_upto_region 1 with fail
    change Code.wp _ _ _ _ (w.alloc (.cells (entA ⟨dir, nm, ino⟩) 66))
    generalize w.alloc (.cells (entA ⟨dir, nm, ino⟩) 66) = w1 at he0 hb0 ⊢
    obtain ⟨e0, e1, e2, e3, e4⟩ := ent_cells he0
    go_wp2_with fail
    refine (HM.out _ hb0).mono ?_
    rintro e w2 ⟨rfl, hb2⟩
    have hb3 := below_step hb0 hb2
    clear he0 hb0 hb2 e0 e1 e2 e3 e4 HM
    go_wp2_with fail
    go_ret
    exact ⟨rfl, hG.out.keep fun i hi => hb3.block i (hG.out.lt i hi), But.of_below hb3⟩

end Go.Proofs.YthcmgaibbpacfaaGreatDoor

/-
  maps.Clone: another map that holds the same.
-/
namespace Go.Proofs.YthcmgaibbpacfaaGreatDoor
open Go.RowKit Go.Shelf

theorem KMap.clone {P : Program} {ρ : Ren} (L : SlLaysW.n5 P ρ) {K V : Type} {ek : K → Value} {ev : V → Value} {w : World} {b : Nat} {l : List (K × V)} (h : KMap ek ev w b l) :
    Calls P (ρ.f 5) #[.map (some b)] w fun e w' => e = .returned (.map (some w.heap.size)) ∧ KMap ek ev w' w.heap.size l ∧ Below w.heap.size w w' ∧ w'.heap.size = w.heap.size + 1 := by
  obtain ⟨es, clock, M, h1, h2, h3, h4⟩ := h
  refine (AnyW.maps_Clone L b es clock w h1).mono ?_
  rintro e w' ⟨rfl, rfl⟩
  exact ⟨rfl, ⟨es, clock, M, heap_alloc_new w _, h2, h3, h4⟩, (Below.refl _ _).alloc (Nat.le_refl _) _, by simp⟩

end Go.Proofs.YthcmgaibbpacfaaGreatDoor

/-
  The landed graph's Copy: two maps cloned.
-/
namespace Go.Proofs.YthcmgaibbpacfaaGreatDoor
open Go.RowKit StampMath GraphMath

theorem cloneI_code (b : Nat) (L : List (St × Ino)) (w : World) (h : KMap stV inoV w b L) :
    Calls Tryz.prog 49 #[.map (some b)] w fun e w' => e = .returned (.map (some w.heap.size)) ∧ KMap stV inoV w' w.heap.size L ∧ Below w.heap.size w w' ∧ w'.heap.size = w.heap.size + 1 :=
  h.clone Tryz.cloneIno

theorem cloneE_code (b : Nat) (L : List ((St × ByteArray) × St)) (w : World) (h : KMap plV stV w b L) :
    Calls Tryz.prog 50 #[.map (some b)] w fun e w' => e = .returned (.map (some w.heap.size)) ∧ KMap plV stV w' w.heap.size L ∧ Below w.heap.size w w' ∧ w'.heap.size = w.heap.size + 1 :=
  h.clone Tryz.cloneEnt

set_option maxRecDepth 100000 in
set_option maxHeartbeats 1600000 in
theorem copy_code (a : Addr) (S : Nat → Prop) (g : Gr) (w : World) (h : GIn w S a g) :
    Calls Tryz.prog 20 #[.pointer (some a)] w fun e w' => ∃ b T, e = .returned (.pointer (some b)) ∧ GIn w' T b g ∧ (∀ i, T i → w.heap.size ≤ i) ∧ Below w.heap.size w w' := by
  obtain ⟨b, bi, be, rfl, h1, h2, h3, hb, hi, he, hS⟩ := h
  obtain ⟨d0, d1⟩ := two_cells hb
  have hlt := heap_lt hb
  have HI : Hid (∀ W : World, Below w.heap.size w W → Calls Tryz.prog 49 #[.map (some bi)] W fun e w' => e = .returned (.map (some W.heap.size)) ∧ KMap stV inoV w' W.heap.size (pairsI g) ∧ Below W.heap.size W w' ∧ w'.heap.size = W.heap.size + 1) := fun W hW => cloneI_code bi _ W (hi.kept (hW.block bi hi.lt))
  have HE : Hid (∀ W : World, Below w.heap.size w W → Calls Tryz.prog 50 #[.map (some be)] W fun e w' => e = .returned (.map (some W.heap.size)) ∧ KMap plV stV w' W.heap.size (pairsE g) ∧ Below W.heap.size W w' ∧ w'.heap.size = W.heap.size + 1) := fun W hW => cloneE_code be _ W (he.kept (hW.block be he.lt))
  clear hi he hS hb
  go_enter Tryz.func20, Tryz.ntmps20
  go_wp2_with fail
  go_region_with (first
    | (go_at_call 49; (with_reducible refine (HI.out _ (by repeat (first | exact Below.refl _ _ | assumption | apply Below.drew | refine below_step ?_ (by assumption)))).mono ?_); rintro z w1 ⟨rfl, hm1, hb1, hs1⟩; have HM1 := Lib.hid hm1; have HS1 := Lib.hid hs1; clear hm1 hs1; have d0 := cell_later hb1 d0; have d1 := cell_later hb1 d1)
    | (go_at_call 50; (with_reducible refine (HE.out _ (by repeat (first | exact Below.refl _ _ | assumption | apply Below.drew | refine below_step ?_ (by assumption)))).mono ?_); rintro z w2 ⟨rfl, hm2, hb2, hs2⟩; have HM2 := Lib.hid hm2; have HS2 := Lib.hid hs2; clear hm2 hs2; have d0 := cell_later hb2 d0; have d1 := cell_later hb2 d1))
  all_goals
    go_wp2_with fail
    go_ret
    have e1 : w1.heap.size = w.heap.size + 1 := HS1.out
    have e2 : w2.heap.size = w1.heap.size + 1 := HS2.out
    have hb3 : Below w.heap.size w w2 := below_step (below_step (Below.refl w.heap.size w).drew hb1) hb2
    refine ⟨⟨w2.heap.size, 0, none⟩, fun i => i = w2.heap.size ∨ i = w.heap.size ∨ i = w1.heap.size, rfl, ⟨w2.heap.size, w.heap.size, w1.heap.size, rfl, by omega, by omega, by omega, heap_alloc_new _ _, ?_, ?_, fun i => Iff.rfl⟩, fun i hi => by omega, hb3.alloc hb3.size _⟩
    · have hk : KMap stV inoV w1 w.heap.size (pairsI g) := HM1.out
      exact (hk.kept (hb2.block _ (by omega))).kept (heap_alloc_old _ _ (by omega))
    · exact HM2.out.kept (heap_alloc_old _ _ (by omega))

end Go.Proofs.YthcmgaibbpacfaaGreatDoor

/-
  The landed graph: what is asked of a nil graph; all contracts in one.
-/
namespace Go.Proofs.YthcmgaibbpacfaaGreatDoor
open Go.RowKit StampMath GraphMath OpMath

set_option maxRecDepth 100000 in
theorem nil_get (id : St) (w : World) : Calls Tryz.prog 81 #[.pointer none, .agg (stA id)] w fun e w' => e = .returned (.tuple #[.agg (inoA noIno), .bool false]) ∧ Below w.heap.size w w' := by
  unfold stA
  go_enter Tryz.func81, Tryz.ntmps81
  go_wp2_with fail
  exact bodyPost_ret (v := .tuple #[.agg (inoA noIno), .bool false]) (by simp [results, Tryz.results81, go_sem, inoA, noIno]) rfl ⟨rfl, by
    repeat (first | exact Below.refl _ _ | apply Below.drew | refine Below.alloc ?_ (by simp <;> omega) _)⟩

set_option maxRecDepth 100000 in
theorem nil_look (d : St) (nm : ByteArray) (w : World) : Calls Tryz.prog 79 #[.pointer none, .agg (stA d), .string nm] w fun e w' => e = .returned (.tuple #[.agg (stA (0, 0)), .bool false]) ∧ Below w.heap.size w w' := by
  unfold stA
  go_enter Tryz.func79, Tryz.ntmps79
  go_wp2_with fail
  exact bodyPost_ret (v := .tuple #[.agg (stA (0, 0)), .bool false]) (by simp [results, Tryz.results79, go_sem, stA]) rfl ⟨rfl, by
    repeat (first | exact Below.refl _ _ | apply Below.drew | refine Below.alloc ?_ (by simp <;> omega) _)⟩

theorem nil_inodes (w : World) : Calls Tryz.prog 25 #[.pointer none] w (InosNew [] w) := by
  go_enter Tryz.func25, Tryz.ntmps25
  go_wp2_with fail
  go_ret
  exact ⟨_, rfl, World.ownsRow_nil _ _ _ _, Below.refl _ _⟩

theorem nil_sorted (w : World) : Calls Tryz.prog 60 #[.pointer none, .func (.func 61) #[] #[]] w (EntsNew [] w) := by
  go_enter Tryz.func60, Tryz.ntmps60
  go_wp2_with fail
  go_ret
  exact ⟨_, rfl, World.ownsRow_nil _ _ _ _, Below.refl _ _⟩

theorem nil_entries (w : World) : Calls Tryz.prog 26 #[.pointer none] w (EntsNew [] w) := by
  have HS := Lib.hid (nil_sorted w)
  go_enter Tryz.func26, Tryz.ntmps26
  go_wp2_with fail
  refine (HS.out).mono ?_
  rintro e w1 ⟨v, rfl, hown, hb⟩
  go_wp2_with fail
  go_ret
  exact ⟨v, rfl, hown, hb⟩

theorem nil_copy (w : World) : Calls Tryz.prog 20 #[.pointer none] w fun e w' => e = .returned (.pointer none) ∧ Below w.heap.size w w' := by
  go_enter Tryz.func20, Tryz.ntmps20
  go_wp2_with fail
  go_ret
  exact ⟨rfl, Below.refl _ _⟩

theorem nil_make (w : World) : Calls Tryz.prog 53 #[.pointer none, .agg (stA (1, 0)), .int .i64 1] w fun e w' => e = .returned (.int .i64 3) ∧ Below w.heap.size w w' := by
  have HM : Hid (∀ W : World, Calls Tryz.prog 83 #[.agg #[.int .i64 1, .int .i64 0]] W fun e w' => e = .returned (.bool true) ∧ Below W.heap.size W w') := fun W => may_any 1 0 W
  have HR : Hid (∀ W : World, Calls Tryz.prog 48 #[] W fun e w' => e = .returned (.agg #[.int .i64 0, .int .i64 0]) ∧ Below W.heap.size W w') := root_any
  have HG : Hid (∀ W : World, Calls Tryz.prog 81 #[.pointer none, .agg #[.int .i64 0, .int .i64 0]] W fun e w' => e = .returned (.tuple #[.agg #[.int .i64 0, .int .i64 0, .int .i64 0, .int .i64 0, .int .i64 0, .string ⟨#[]⟩], .bool false]) ∧ Below W.heap.size W w') := fun W => nil_get (0, 0) W
  unfold stA
  go_enter Tryz.func53, Tryz.ntmps53
  go_wp2_with fail
  refine (HM.out _).mono ?_
  rintro e w1 ⟨rfl, hb1⟩
  have hb := below_step ((Below.refl w.heap.size w).alloc (Nat.le_refl _) _) hb1
  clear hb1
  go_wp2_with fail
  refine (HR.out _).mono ?_
  rintro e w2 ⟨rfl, hb2⟩
  have hb3 := below_step hb hb2
  clear hb hb2
  go_wp2_with fail
  refine (HG.out _).mono ?_
  rintro e w3 ⟨rfl, hb4⟩
  have hb5 := below_step hb3 hb4
  go_wp2_with fail
  go_ret
  exact ⟨rfl, hb5.alloc hb5.size _⟩

theorem nil_drop (id : St) (w : World) : Calls Tryz.prog 52 #[.pointer none, .agg (stA id)] w fun e w' => e = .returned (.int .i64 3) ∧ Below w.heap.size w w' := by
  have HG : Hid (∀ W : World, Calls Tryz.prog 81 #[.pointer none, .agg #[.int .i64 id.1, .int .i64 id.2]] W fun e w' => e = .returned (.tuple #[.agg #[.int .i64 0, .int .i64 0, .int .i64 0, .int .i64 0, .int .i64 0, .string ⟨#[]⟩], .bool false]) ∧ Below W.heap.size W w') := fun W => nil_get id W
  unfold stA
  go_enter Tryz.func52, Tryz.ntmps52
  go_wp2_with fail
  refine (HG.out _).mono ?_
  rintro e w1 ⟨rfl, hb1⟩
  have hb := below_step ((Below.refl w.heap.size w).alloc (Nat.le_refl _) _) hb1
  go_wp2_with fail
  go_ret
  exact ⟨rfl, hb.alloc hb.size _⟩

theorem nil_set (id : St) (w : World) : Calls Tryz.prog 54 #[.pointer none, .agg (stA id), .int .i64 1, .string ⟨#[]⟩] w fun e w' => e = .returned (.int .i64 3) ∧ Below w.heap.size w w' := by
  have HG : Hid (∀ W : World, Calls Tryz.prog 81 #[.pointer none, .agg #[.int .i64 id.1, .int .i64 id.2]] W fun e w' => e = .returned (.tuple #[.agg #[.int .i64 0, .int .i64 0, .int .i64 0, .int .i64 0, .int .i64 0, .string ⟨#[]⟩], .bool false]) ∧ Below W.heap.size W w') := fun W => nil_get id W
  unfold stA
  go_enter Tryz.func54, Tryz.ntmps54
  go_wp2_with fail
  refine (HG.out _).mono ?_
  rintro e w1 ⟨rfl, hb1⟩
  have hb := below_step ((Below.refl w.heap.size w).alloc (Nat.le_refl _) _) hb1
  go_wp2_with fail
  go_ret
  exact ⟨rfl, hb.alloc hb.size _⟩

theorem nil_mayTie (w : World) : Calls Tryz.prog 84 #[.pointer none, .agg (entA ⟨(0, 0), ⟨#[97]⟩, (0, 0)⟩)] w fun e w' => e = .returned (.int .i64 3) ∧ Below w.heap.size w w' := by
  have HN : Hid (∀ W : World, Calls Tryz.prog 107 #[.string ⟨#[97]⟩] W fun e w' => e = .returned (.bool true) ∧ W = w') := fun W => by
    have := name_any ⟨#[97]⟩ (by decide) W
    rwa [show nameB ⟨#[97]⟩ = true by decide +kernel] at this
  have HG : Hid (∀ W : World, Calls Tryz.prog 81 #[.pointer none, .agg #[.int .i64 0, .int .i64 0]] W fun e w' => e = .returned (.tuple #[.agg #[.int .i64 0, .int .i64 0, .int .i64 0, .int .i64 0, .int .i64 0, .string ⟨#[]⟩], .bool false]) ∧ Below W.heap.size W w') := fun W => nil_get (0, 0) W
  obtain ⟨nm, hnm⟩ : ∃ nm : ByteArray, nm = ⟨#[97]⟩ := ⟨_, rfl⟩
  rw [← hnm] at HN ⊢
  clear hnm
  have he0 := heap_alloc_new w (.cells (entA ⟨(0, 0), nm, (0, 0)⟩) 66)
  have hb0 : Below w.heap.size w (w.alloc (.cells (entA ⟨(0, 0), nm, (0, 0)⟩) 66)) := (Below.refl _ _).alloc (Nat.le_refl _) _
  unfold entA at he0 hb0 ⊢
  go_enter Tryz.func84, Tryz.ntmps84
  go_wp2_with fail
  refine (HN.out _).mono ?_
  rintro e w1 ⟨rfl, rfl⟩
  go_wp2_with fail
  refine (HG.out _).mono ?_
  rintro e w1 ⟨rfl, hb1⟩
  have q0 := (hb1.block _ (heap_lt he0)).trans he0
  have hb2 := below_step hb0 hb1
  have hl := heap_lt q0
  go_upto_region 4 with fail
  have r0 := (heap_alloc_old w1 (.cells #[.int .i64 0, .int .i64 0, .int .i64 0, .int .i64 0, .int .i64 0, .string ⟨#[]⟩] 70) hl).trans q0
  have hb3 := hb2.alloc hb2.size (.cells #[.int .i64 0, .int .i64 0, .int .i64 0, .int .i64 0, .int .i64 0, .string ⟨#[]⟩] 70)
  generalize w1.alloc (.cells #[.int .i64 0, .int .i64 0, .int .i64 0, .int .i64 0, .int .i64 0, .string ⟨#[]⟩] 70) = w2 at r0 hb3 ⊢
  obtain ⟨e0, e1, e2, e3, e4⟩ := ent_cells (x := ⟨(0, 0), nm, (0, 0)⟩) r0
  go_wp2_with fail
  refine (HG.out _).mono ?_
  rintro e w3 ⟨rfl, hb4⟩
  have hb5 := below_step hb3 hb4
  go_wp2_with fail
  go_ret
  exact ⟨rfl, hb5.alloc hb5.size _⟩

theorem nil_tie (w : World) : Calls Tryz.prog 55 #[.pointer none, .agg (entA ⟨(0, 0), ⟨#[97]⟩, (0, 0)⟩)] w fun e w' => e = .returned (.int .i64 3) ∧ Below w.heap.size w w' := by
  have HM0 : ∀ W : World, Calls Tryz.prog 84 #[.pointer none, .agg (entA ⟨(0, 0), ⟨#[97]⟩, (0, 0)⟩)] W fun e w' => e = .returned (.int .i64 3) ∧ Below W.heap.size W w' := nil_mayTie
  obtain ⟨nm, hnm⟩ : ∃ nm : ByteArray, nm = ⟨#[97]⟩ := ⟨_, rfl⟩
  rw [← hnm] at HM0 ⊢
  clear hnm
  have he0 := heap_alloc_new w (.cells (entA ⟨(0, 0), nm, (0, 0)⟩) 66)
  have hb0 : Below w.heap.size w (w.alloc (.cells (entA ⟨(0, 0), nm, (0, 0)⟩) 66)) := (Below.refl _ _).alloc (Nat.le_refl _) _
  obtain ⟨e0, e1, e2, e3, e4⟩ := ent_cells he0
  have HM := Lib.hid HM0
  clear HM0
  unfold entA at e0 e1 e2 e3 e4 hb0 HM ⊢
  go_enter Tryz.func55, Tryz.ntmps55
  go_wp2_with fail
  refine (HM.out _).mono ?_
  rintro e w1 ⟨rfl, hb1⟩
  have hb2 := below_step hb0 hb1
  go_wp2_with fail
  go_ret
  exact ⟨rfl, hb2⟩

noncomputable def graphHave : GraphHave where
  rep := GIn
  lt := GIn.lt
  keep := GIn.keep
  new := new_code
  get := get_code
  look := fun a S g d nm w h _ _ => look_code a S g d nm w h
  list := list_code
  inodes := inodes_code
  entries := entries_code
  parent := parent_code
  under := under_code
  make := fun a S g id kind w h hg => (make_code a S g id kind w h hg).mono fun _ _ q => ⟨S, q.1, q.2.1, fun _ hi => Or.inl hi, q.2.2⟩
  tie := fun a S g x w h hg hn => (tie_code a S g x w h hg hn).mono fun _ _ q => ⟨S, q.1, q.2.1, fun _ hi => Or.inl hi, q.2.2⟩
  untie := fun a S g d nm w h hg _ => (untie_code a S g d nm w h hg).mono fun _ _ q => ⟨S, q.1, q.2.1, fun _ hi => Or.inl hi, q.2.2⟩
  drop := fun a S g id w h hg => (drop_code a S g id w h hg).mono fun _ _ q => ⟨S, q.1, q.2.1, fun _ hi => Or.inl hi, q.2.2⟩
  set := fun a S g id mode data w h hg => (set_code a S g id mode data w h hg).mono fun _ _ q => ⟨S, q.1, q.2.1, fun _ hi => Or.inl hi, q.2.2⟩
  copy := fun a S g w h _ => copy_code a S g w h
  nilGet := nil_get
  nilLook := nil_look
  nilInodes := nil_inodes
  nilEntries := nil_entries
  nilMake := nil_make
  nilTie := nil_tie
  nilDrop := nil_drop
  nilSet := nil_set
  nilCopy := nil_copy

end Go.Proofs.YthcmgaibbpacfaaGreatDoor
