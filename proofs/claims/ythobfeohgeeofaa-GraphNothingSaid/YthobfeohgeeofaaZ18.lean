/-
  The landed graph's Untie.
-/
import Derived.Test.YthobfeohgeeofaaZ17
import Derived.Test.YthobfeohgeeofaaZ17
import Derived.Test.YthobfeohgeeofaaZ03
import Derived.Test.YthobfeohgeeofaaZ04
import Derived.Maps.Own
import Derived.Maps.OwnOps
import Derived.Deep.Cut
import Derived.Test.YthobfeohgeeofaaZ15
import Derived.Test.YthobfeohgeeofaaZ07
import Derived.BigQuiet
import Derived.Test.YthobfeohgeeofaaZ13
import Derived.Test.YthobfeohgeeofaaZ02
namespace Go.Proofs.Ythobfeohgeeofaa
open Go.RowKit StampMath GraphMath

set_option maxRecDepth 100000 in
set_option maxHeartbeats 1600000 in
theorem untie_code (a : Addr) (S : Nat → Prop) (g : Gr) (d : St) (nm : ByteArray) (w : World) (h : GIn w S a g) (hg : g.ok) :
    Calls Try.prog 29 #[.pointer (some a), .agg (stA d), .string nm] w fun e w' => e = .returned (.tuple #[.agg (stA (untieG g d nm).2.1), .int .i64 (untieG g d nm).2.2]) ∧ GIn w' S a (untieG g d nm).1 ∧ But S w w' := by
  cases hq : lookE g.E d nm with
  | none =>
    have e1 : untieG g d nm = (g, (0, 0), 3) := by unfold untieG; rw [hq]
    have HQ : Hid (∀ W : World, Below w.heap.size w W → Calls Try.prog 15 #[.pointer (some a), .agg #[.int .i64 d.1, .int .i64 d.2], .string nm] W fun e w' => e = .returned (.tuple #[.agg #[.int .i64 0, .int .i64 0], .bool false]) ∧ Below W.heap.size W w') := fun W hW => by
      have := look_code a S g d nm W (h.keep fun i hi => hW.block i (h.lt i hi))
      rw [hq] at this
      exact this
    rw [e1]
    have hG := Lib.hid h
    clear h e1 hq
    have hbW : Below w.heap.size w ((w.alloc (.cells #[.int .i64 d.1, .int .i64 d.2] 24)).alloc (.cells #[.int .i64 0, .int .i64 0] 24)) := ((Below.refl _ _).alloc (Nat.le_refl _) _).alloc (by simp) _
    unfold stA
    go_enter Try.func29, Try.ntmps29
    go_wp2_with fail
    refine (HQ.out _ hbW).mono ?_
    rintro e w1 ⟨rfl, hb1⟩
    have hr : w1.heap[w.heap.size + 1]? = some (.cells #[.int .i64 0, .int .i64 0] 24 (0, 0)) := (hb1.block _ (by simp)).trans (heap_alloc2_new w _ _)
    obtain ⟨m0, m1⟩ := two_cells hr
    obtain ⟨f0, f1⟩ := two_free hr
    have hb2 := below_step hbW hb1
    have hlt := heap_lt hr
    have hHr := Lib.hid hr
    clear hb1 hr hbW
    go_wp2_with fail
    have hb3 := ((hb2.setCell (p := ⟨w.heap.size + 1, 0, none⟩) (by dsimp only; omega) (.int .i64 0)).setCell (p := ⟨w.heap.size + 1, 1, none⟩) (by dsimp only; omega) (.int .i64 0)).alloc (by simp; exact hb2.size) (.cells #[.int .i64 0, .int .i64 0] 24)
    obtain ⟨y0, y1⟩ := two_cells ((heap_alloc_old _ (.cells #[.int .i64 0, .int .i64 0] 24) (by simp; omega)).trans (box_set (c := .int .i64 0) (d := .int .i64 0) hHr.out))
    exact bodyPost_ret (v := .tuple #[.agg (stA (0, 0)), .int .i64 3]) (by simp [results, Try.results29, go_sem, stA, y0, y1]) rfl ⟨rfl, hG.out.keep fun i hi => hb3.block i (hG.out.lt i hi), But.of_below hb3⟩
  | some id =>
    have hmem := (look_iff hg).1 hq
    obtain ⟨x0, hx0, hxid⟩ := hg.inos _ hmem
    have hget : getG g id = some { x0 with links := (linksE g.E id : Int) } := (get_iff hg).2 ⟨x0, hx0, hxid, rfl⟩
    obtain ⟨X, hX⟩ : ∃ X : Ino, X = { x0 with links := (linksE g.E id : Int) } := ⟨_, rfl⟩
    rw [← hX] at hget
    have HQ : Hid (∀ W : World, Below w.heap.size w W → Calls Try.prog 15 #[.pointer (some a), .agg #[.int .i64 d.1, .int .i64 d.2], .string nm] W fun e w' => e = .returned (.tuple #[.agg #[.int .i64 id.1, .int .i64 id.2], .bool true]) ∧ Below W.heap.size W w') := fun W hW => by
      have := look_code a S g d nm W (h.keep fun i hi => hW.block i (h.lt i hi))
      rw [hq] at this
      exact this
    have hbW : Below w.heap.size w ((w.alloc (.cells #[.int .i64 d.1, .int .i64 d.2] 24)).alloc (.cells #[.int .i64 0, .int .i64 0] 24)) := ((Below.refl _ _).alloc (Nat.le_refl _) _).alloc (by simp) _
    obtain ⟨b, bi, be, rfl, h1, h2, h3, hb, hi, he, hS⟩ := h
    obtain ⟨d0, d1⟩ := two_cells hb
    have hlt := heap_lt hb
    have hwr : wrap64 (X.links + -1) = X.links + -1 := by
      have h6 := hg.six id
      have h7 : X.links = (linksE g.E id : Int) := by rw [hX]
      unfold wrap64
      omega
    have HC : Hid (∀ W : World, W.heap[b]? = some (.cells #[.map (some bi), .map (some be)] 73 (0, 0)) → KMap stV inoV W bi (pairsI g) → Calls Try.prog 50 #[.pointer (some ⟨b, 0, none⟩), .agg #[.int .i64 id.1, .int .i64 id.2], .int .i64 (-1)] W fun e w' => e = .returned (.tuple #[]) ∧ KMap stV inoV w' bi ((id, { X with links := X.links + -1 }) :: offL (pairsI g) id) ∧ But (fun i => i = bi) W w') := fun W hb hi => count_code b bi be (pairsI g) id (-1) X W hb hi (by rw [look_pairsI hg]; exact hget) hwr
    have HI := Lib.hid hi
    have HE := Lib.hid he
    have HS := Lib.hid hS
    have HBlk := Lib.hid hb
    have HG := Lib.hid hget
    have HO := Lib.hid hq
    clear hi he hS hb hget hq hmem hx0 hxid hX hwr d0
    unfold stA
    go_enter Try.func29, Try.ntmps29
    go_wp2_with fail
    refine (HQ.out _ hbW).mono ?_
    rintro e w1 ⟨rfl, hb1⟩
    have hr0 : w1.heap[w.heap.size]? = some (.cells #[.int .i64 d.1, .int .i64 d.2] 24 (0, 0)) := (hb1.block _ (by simp <;> omega)).trans (heap_alloc2_old w _ _)
    have hr1 : w1.heap[w.heap.size + 1]? = some (.cells #[.int .i64 0, .int .i64 0] 24 (0, 0)) := (hb1.block _ (by simp)).trans (heap_alloc2_new w _ _)
    have hb2 := below_step hbW hb1
    clear hb1 hbW
    go_upto_region 4 with fail
    change Code.wp _ _ _ _ (w1.alloc (.cells #[.int .i64 id.1, .int .i64 id.2] 24))
    obtain ⟨u, hu⟩ : ∃ u, u = w1.heap.size := ⟨_, rfl⟩
    have hlow : w.heap.size + 1 < u := by rw [hu]; exact heap_lt hr1
    have q0 : (w1.alloc (.cells #[.int .i64 id.1, .int .i64 id.2] 24)).heap[w.heap.size]? = some (.cells #[.int .i64 d.1, .int .i64 d.2] 24 (0, 0)) := (heap_alloc_old _ _ (by omega)).trans hr0
    have q1 : (w1.alloc (.cells #[.int .i64 id.1, .int .i64 id.2] 24)).heap[w.heap.size + 1]? = some (.cells #[.int .i64 0, .int .i64 0] 24 (0, 0)) := (heap_alloc_old _ _ (by omega)).trans hr1
    have q2 : (w1.alloc (.cells #[.int .i64 id.1, .int .i64 id.2] 24)).heap[u]? = some (.cells #[.int .i64 id.1, .int .i64 id.2] 24 (0, 0)) := by rw [hu]; exact heap_alloc_new _ _
    have hb3 := hb2.alloc hb2.size (.cells #[.int .i64 id.1, .int .i64 id.2] 24)
    rw [← hu]
    generalize w1.alloc (.cells #[.int .i64 id.1, .int .i64 id.2] 24) = w2 at q0 q1 q2 hb3 ⊢
    clear hr0 hr1 hb2 hu
    obtain ⟨x0, x1⟩ := two_cells q0
    have d1w := (hb3.cell (p := ⟨b, 1, none⟩) hlt).trans d1
    obtain ⟨w3, hrun, hm3, hbut3, hsz3⟩ := (HE.out.kept (hb3.drew.block be HE.out.lt)).drop plShape Try.underlying71 (d, nm) 0
    simp only [plV] at hrun
    have HM3 := Lib.hid hm3
    have HU3 := Lib.hid hbut3
    have HB3 := Lib.hid hb3
    have HQ1 := Lib.hid q1
    have HQ2 := Lib.hid q2
    have hilt := HI.out.lt
    have helt := HE.out.lt
    clear hm3 hbut3 hb3 q0 q1 q2
    go_region
    clear hrun x0 x1 d1w
    have hb4 : But (fun i => i = be) w w3 := (But.of_below HB3.out.drew).trans HU3.out fun i hi _ => hi
    have z1 : w3.heap[w.heap.size + 1]? = some (.cells #[.int .i64 0, .int .i64 0] 24 (0, 0)) := HU3.out.heap (a := w2.drew) HQ1.out (fun q => by omega)
    have z2 : w3.heap[u]? = some (.cells #[.int .i64 id.1, .int .i64 id.2] 24 (0, 0)) := HU3.out.heap (a := w2.drew) HQ2.out (fun q => by omega)
    have hblk := hb4.heap HBlk.out (fun q => h2 q)
    have hi3 : KMap stV inoV w3 bi (pairsI g) := HI.out.kept (hb4.block bi hilt fun q => h3 q)
    have hs4 := hb4.size
    have hz1 := heap_lt z1
    have hz2 := heap_lt z2
    have HB4 := Lib.hid hb4
    obtain ⟨x0, x1⟩ := two_cells z2
    clear hb4
    go_wp2_with fail
    refine (HC.out _ hblk hi3).mono ?_
    rintro e w4 ⟨rfl, hm4, hb5⟩
    have v1 : w4.heap[w.heap.size + 1]? = some (.cells #[.int .i64 0, .int .i64 0] 24 (0, 0)) := hb5.heap z1 (fun q => by omega)
    have v2 : w4.heap[u]? = some (.cells #[.int .i64 id.1, .int .i64 id.2] 24 (0, 0)) := hb5.heap z2 (fun q => by omega)
    have HM4 := Lib.hid hm4
    have HB5 := Lib.hid hb5
    clear x0 x1 z1 z2 hblk hi3 hm4 hb5
    obtain ⟨x0, x1⟩ := two_cells v2
    obtain ⟨m0, m1⟩ := two_cells v1
    obtain ⟨f0, f1⟩ := two_free v1
    have HV1 := Lib.hid v1
    clear v1 v2
    go_wp2_with fail
    have hb7 : But (fun i => i = bi ∨ i = be) w w4 := (HB4.out.mono (T := fun i => i = bi ∨ i = be) fun i hi => Or.inr hi).trans HB5.out fun i hi _ => Or.inl hi
    have hb8 : But (fun i => i = bi ∨ i = be) w ((w4.setCell ⟨w.heap.size + 1, 0, none⟩ (.int .i64 id.1)).setCell ⟨w.heap.size + 1, 1, none⟩ (.int .i64 id.2)) := (hb7.setCell (p := ⟨w.heap.size + 1, 0, none⟩) (Or.inr (by dsimp only; omega)) _).setCell (p := ⟨w.heap.size + 1, 1, none⟩) (Or.inr (by dsimp only; omega)) _
    have hk6 : ∀ i, i < w.heap.size → ((w4.setCell ⟨w.heap.size + 1, 0, none⟩ (.int .i64 id.1)).setCell ⟨w.heap.size + 1, 1, none⟩ (.int .i64 id.2)).heap[i]? = w4.heap[i]? := fun i hi => (heap_setCell_other _ _ _ _ (by dsimp only; omega)).trans (heap_setCell_other _ _ _ _ (by dsimp only; omega))
    have hu : untieG g d nm = (⟨g.I, g.E.filter fun e => !(decide (e.dir = d) && decide (e.name = nm))⟩, id, 0) := by unfold untieG; rw [HO.out]
    have hok := hg.untie d nm
    obtain ⟨z0, z1⟩ := two_cells (box_set (c := .int .i64 id.1) (d := .int .i64 id.2) HV1.out)
    refine bodyPost_ret (v := .tuple #[.agg (stA id), .int .i64 0]) (by simp [results, Try.results29, go_sem, stA, z0, z1]) rfl ⟨by rw [hu]; rfl, ⟨b, bi, be, rfl, h1, h2, h3, ?_, ?_, ?_, HS.out⟩, hb8.mono fun i hi => (HS.out i).2 (Or.inr hi)⟩
    · exact hb8.heap HBlk.out (fun q => q.elim h1 h2)
    · refine KMap.perm ?_ (put_perm (keys_pairsI hg) (keys_pairsI hok) (x := id) (v := { X with links := X.links + -1 }) fun k => ?_)
      · exact HM4.out.kept (hk6 bi hilt)
      · rw [look_pairsI hok, look_pairsI hg, untie_get hg HO.out]
        by_cases hk : k = id
        · rw [if_pos hk, hk, HG.out]
          simp [Int.sub_eq_add_neg]
        · rw [if_neg hk]
          cases getG g k <;> simp [hk]
    · refine KMap.perm ?_ (off_perm (keys_pairsE hg) (keys_pairsE hok) (untie_look hg HO.out))
      exact (HM3.out.kept (HB5.out.block be (by omega) fun q => h3 q.symm)).kept (hk6 be helt)

end Go.Proofs.Ythobfeohgeeofaa

/-
  The landed graph's Drop.
-/
namespace Go.Proofs.Ythobfeohgeeofaa
open Go.RowKit StampMath GraphMath

set_option maxRecDepth 100000 in
set_option maxHeartbeats 1600000 in
theorem drop_code (a : Addr) (S : Nat → Prop) (g : Gr) (id : St) (w : World) (h : GIn w S a g) (hg : g.ok) :
    Calls Try.prog 30 #[.pointer (some a), .agg (stA id)] w fun e w' => e = .returned (.int .i64 (dropG g id).2) ∧ GIn w' S a (dropG g id).1 ∧ But S w w' := by
  have hbW : Below w.heap.size w (w.alloc (.cells #[.int .i64 id.1, .int .i64 id.2] 24)) := (Below.refl _ _).alloc (Nat.le_refl _) _
  have hget : ∀ W : World, Below w.heap.size w W → Calls Try.prog 13 #[.pointer (some a), .agg (stA id)] W fun e w' => e = .returned (.tuple #[.agg (inoA ((getG g id).getD noIno)), .bool (getG g id).isSome]) ∧ Below W.heap.size W w' := fun W hW => get_code a S g id W (h.keep fun i hi => hW.block i (h.lt i hi)) hg
  cases hq : getG g id with
  | none =>
    have e1 : dropG g id = (g, 3) := by unfold dropG; rw [hq]
    rw [hq] at hget
    have HQ : Hid (∀ W : World, Below w.heap.size w W → Calls Try.prog 13 #[.pointer (some a), .agg #[.int .i64 id.1, .int .i64 id.2]] W fun e w' => e = .returned (.tuple #[.agg #[.int .i64 0, .int .i64 0, .int .i64 0, .int .i64 0, .int .i64 0, .string ⟨#[]⟩], .bool false]) ∧ Below W.heap.size W w') := hget
    rw [e1]
    have hG := Lib.hid h
    clear h e1 hq hget
    unfold stA
    go_enter Try.func30, Try.ntmps30
    go_wp2_with fail
    refine (HQ.out _ hbW).mono ?_
    rintro e w1 ⟨rfl, hb1⟩
    have hb2 := below_step hbW hb1
    go_wp2_with fail
    go_ret
    have hb3 := hb2.alloc hb2.size (.cells #[.int .i64 0, .int .i64 0, .int .i64 0, .int .i64 0, .int .i64 0, .string ⟨#[]⟩] 42)
    exact ⟨rfl, hG.out.keep fun i hi => hb3.block i (hG.out.lt i hi), But.of_below hb3⟩
  | some X =>
    rw [hq] at hget
    have HQ : Hid (∀ W : World, Below w.heap.size w W → Calls Try.prog 13 #[.pointer (some a), .agg #[.int .i64 id.1, .int .i64 id.2]] W fun e w' => e = .returned (.tuple #[.agg #[.int .i64 X.id.1, .int .i64 X.id.2, .int .i64 X.kind, .int .i64 X.links, .int .i64 X.mode, .string X.data], .bool true]) ∧ Below W.heap.size W w') := hget
    have hlist : ∀ W : World, Below w.heap.size w W → Calls Try.prog 20 #[.pointer (some a), .agg (stA id)] W (EntsNew (listE g.E id) W) := fun W hW => list_code a S g id W (h.keep fun i hi => hW.block i (h.lt i hi)) hg
    have HLs : Hid (∀ W : World, Below w.heap.size w W → Calls Try.prog 20 #[.pointer (some a), .agg #[.int .i64 id.1, .int .i64 id.2]] W (EntsNew (listE g.E id) W)) := hlist
    have hG := Lib.hid h
    clear hlist
    obtain ⟨b, bi, be, rfl, h1, h2, h3, hb, hi, he, hS⟩ := h
    obtain ⟨d0, d1⟩ := two_cells hb
    have hlt := heap_lt hb
    have HI := Lib.hid hi
    have HE := Lib.hid he
    have HS := Lib.hid hS
    have HBlk := Lib.hid hb
    have HG := Lib.hid hq
    clear hi he hS hb hget hq d1
    unfold stA
    go_enter Try.func30, Try.ntmps30
    go_wp2_with fail
    refine (HQ.out _ hbW).mono ?_
    rintro e w1 ⟨rfl, hb1⟩
    have hr0 : w1.heap[w.heap.size]? = some (.cells #[.int .i64 id.1, .int .i64 id.2] 24 (0, 0)) := (hb1.block _ (by simp)).trans (heap_alloc_new w _)
    have hb2 := below_step hbW hb1
    clear hb1 hbW
    go_upto_region 2 with fail
    change Code.wp _ _ _ _ (w1.alloc (.cells (inoA X) 42))
    obtain ⟨u, hu⟩ : ∃ u, u = w1.heap.size := ⟨_, rfl⟩
    have hlow : w.heap.size < u := by rw [hu]; exact heap_lt hr0
    have r0 : (w1.alloc (.cells (inoA X) 42)).heap[w.heap.size]? = _ := (heap_alloc_old w1 _ (by omega)).trans hr0
    have r1 : (w1.alloc (.cells (inoA X) 42)).heap[u]? = some (.cells (inoA X) 42 (0, 0)) := by rw [hu]; exact heap_alloc_new _ _
    have hb3 := hb2.alloc hb2.size (.cells (inoA X) 42)
    rw [← hu]
    generalize w1.alloc (.cells (inoA X) 42) = w2 at r0 r1 hb3 ⊢
    clear hr0 hb2 hu
    obtain ⟨x0, x1⟩ := two_cells r0
    have hD : dropG g id = if id = (0, 0) then (g, 8) else if 0 < X.links ∨ 0 < (listE g.E id).length then (g, 7) else (⟨g.I.filter fun x => !decide (x.id = id), g.E⟩, 0) := by unfold dropG; rw [HG.out]
    have HRl : Hid (∀ y, Calls Try.prog 33 #[] (later w2 y) fun e w' => e = .returned (.agg #[.int .i64 0, .int .i64 0]) ∧ Below (later w2 y).heap.size (later w2 y) w') := fun y => root_any _
    have HT0 := Lib.hid r0
    have HT1 := Lib.hid r1
    have HB2 := Lib.hid hb3
    have l0 := later_cell x0
    have l1 := later_cell x1
    clear r0 r1 hb3 x0 x1
    by_cases hz : id = (0, 0)
    · have hv : ∀ W : World, (Op.equalIn 10000 24 (.agg #[.int .i64 id.1, .int .i64 id.2]) (.agg #[.int .i64 0, .int .i64 0])).run Try.prog W = .ok true W := fun W => by rw [run_eqSt, decide_eq_true (show ((id.1, id.2) : St) = (0, 0) from hz)]
      rw [if_pos hz] at hD
      have HD := Lib.hid hD
      clear hD hz
      go_upto_region 4 with fail
      refine wp_region_later (by kernel_rfl) (by kernel_rfl) ?_
      repeat (go_big_quiet_step (first | (with_reducible exact later_call (HRl.out _))))
      refine wpQuiet_nil ?_
      intro _ hw'
      obtain ⟨y, rfl⟩ := hw'
      clear l0 l1
      go_wp2_with fail
      go_ret
      rw [HD.out]
      have hb3 := below_step HB2.out (later_below w2 y)
      exact ⟨rfl, hG.out.keep fun i hi => hb3.block i (hG.out.lt i hi), But.of_below hb3⟩
    · have hv : ∀ W : World, (Op.equalIn 10000 24 (.agg #[.int .i64 id.1, .int .i64 id.2]) (.agg #[.int .i64 0, .int .i64 0])).run Try.prog W = .ok false W := fun W => by rw [run_eqSt, decide_eq_false (show ¬ ((id.1, id.2) : St) = (0, 0) from hz)]
      rw [if_neg hz] at hD
      clear hz
      go_upto_region 4 with fail
      refine wp_region_later (by kernel_rfl) (by kernel_rfl) ?_
      repeat (go_big_quiet_step (first | (with_reducible exact later_call (HRl.out _))))
      refine wpQuiet_nil ?_
      intro _ hw'
      obtain ⟨y, rfl⟩ := hw'
      clear l0 l1 hv
      have hb3 := below_step HB2.out (later_below w2 y)
      have r0 := ((later_below w2 y).block _ (heap_lt HT0.out)).trans HT0.out
      have r1 := ((later_below w2 y).block _ (heap_lt HT1.out)).trans HT1.out
      generalize later w2 y = w2 at hb3 r0 r1 ⊢
      obtain ⟨x0, x1⟩ := two_cells r0
      have hx3 := (ino_cells r1).2.2.2.1
      by_cases hl : 0 < X.links
      · rw [if_pos (Or.inl hl)] at hD
        have HD := Lib.hid hD
        clear hD
        go_wp2_with fail
        go_ret
        rw [HD.out]
        exact ⟨rfl, hG.out.keep fun i hi => hb3.block i (hG.out.lt i hi), But.of_below hb3⟩
      · have HDp := Lib.hid hD
        clear hD
        go_wp2_with fail
        refine (HLs.out _ hb3).mono ?_
        rintro e w3 ⟨v, rfl, hown, hb4⟩
        obtain ⟨A, c, rfl, hEin, hnc, hcm, _⟩ := ents_own rfl hown
        have hb5 := below_step hb3 hb4
        have t0 : w3.heap[w.heap.size]? = _ := (hb4.block _ (heap_lt r0)).trans r0
        clear hown hEin hb4 r0 r1 x0 x1 hx3
        by_cases hn : 0 < (listE g.E id).length
        · have HD : Hid (dropG g id = (g, 7)) := by
            have := HDp.out
            rwa [if_pos (Or.inr hn)] at this
          have hn' : (0 : Int) < ((listE g.E id).length : Int) := by omega
          generalize ((listE g.E id).length) = ln at hn hn' hnc ⊢
          go_wp2_with fail
          go_ret
          rw [HD.out]
          exact ⟨rfl, hG.out.keep fun i hi => hb5.block i (hG.out.lt i hi), But.of_below hb5⟩
        · have HD : Hid (dropG g id = (⟨g.I.filter fun x => !decide (x.id = id), g.E⟩, 0)) := by
            have := HDp.out
            rwa [if_neg (by omega)] at this
          have hn' : (listE g.E id).length = 0 := by omega
          rw [hn'] at hnc ⊢
          obtain ⟨x0, x1⟩ := two_cells t0
          have d0w := (hb5.cell (p := ⟨b, 0, none⟩) hlt).trans d0
          obtain ⟨w5, hrun, hm5, hbut5, hsz5⟩ := (HI.out.kept (hb5.drew.block bi HI.out.lt)).drop stShape Try.underlying70 id 0
          simp only [stV, stA] at hrun
          have HM5 := Lib.hid hm5
          have hb6 : But (fun i => i = bi) w w5 := (But.of_below hb5.drew).trans hbut5 fun i hi _ => hi
          have HB6 := Lib.hid hb6
          clear hm5 hb5 hbut5 t0 hb6
          go_wp2_with fail
          go_region
          go_wp2_with fail
          go_ret
          have h0 : (dropG g id).2 = 0 := by rw [HD.out]
          have hok := hg.drop id
          refine ⟨by rw [h0]; rfl, ⟨b, bi, be, rfl, h1, h2, h3, ?_, ?_, ?_, HS.out⟩, HB6.out.mono fun i hi => (HS.out i).2 (Or.inr (Or.inl hi))⟩
          · exact HB6.out.heap HBlk.out (fun q => h1 q)
          · refine HM5.out.perm (off_perm (keys_pairsI hg) (keys_pairsI hok) fun k => ?_)
            rw [look_pairsI hok, look_pairsI hg, drop_get hg h0]
          · have e1 : pairsE (dropG g id).1 = pairsE g := by unfold pairsE; rw [drop_ents]
            rw [e1]
            exact HE.out.kept (HB6.out.block be HE.out.lt fun q => h3 q.symm)

end Go.Proofs.Ythobfeohgeeofaa

/-
  The code of package graph (a draft): Set.
-/
namespace Go.Proofs.Ythobfeohgeeofaa
open Go.RowKit StampMath GraphMath

set_option maxRecDepth 100000 in
set_option maxHeartbeats 1600000 in
theorem set_code (a : Addr) (S : Nat → Prop) (g : Gr) (id : St) (mode : Int) (data : ByteArray) (w : World) (h : GIn w S a g) (hg : g.ok) :
    Calls Try.prog 31 #[.pointer (some a), .agg (stA id), .int .i64 mode, .string data] w fun e w' => e = .returned (.int .i64 (setG g id mode data).2) ∧ GIn w' S a (setG g id mode data).1 ∧ But S w w' := by
  have hbW : Below w.heap.size w (w.alloc (.cells #[.int .i64 id.1, .int .i64 id.2] 24)) := (Below.refl _ _).alloc (Nat.le_refl _) _
  have hget : ∀ W : World, Below w.heap.size w W → Calls Try.prog 13 #[.pointer (some a), .agg (stA id)] W fun e w' => e = .returned (.tuple #[.agg (inoA ((getG g id).getD noIno)), .bool (getG g id).isSome]) ∧ Below W.heap.size W w' := fun W hW => get_code a S g id W (h.keep fun i hi => hW.block i (h.lt i hi)) hg
  cases hq : getG g id with
  | none =>
    have e1 : setG g id mode data = (g, 3) := by unfold setG; rw [hq]
    rw [hq] at hget
    have HQ : Hid (∀ W : World, Below w.heap.size w W → Calls Try.prog 13 #[.pointer (some a), .agg #[.int .i64 id.1, .int .i64 id.2]] W fun e w' => e = .returned (.tuple #[.agg #[.int .i64 0, .int .i64 0, .int .i64 0, .int .i64 0, .int .i64 0, .string ⟨#[]⟩], .bool false]) ∧ Below W.heap.size W w') := hget
    rw [e1]
    have hG := Lib.hid h
    clear h e1 hq hget
    unfold stA
    go_enter Try.func31, Try.ntmps31
    go_wp2_with fail
    refine (HQ.out _ hbW).mono ?_
    rintro e w1 ⟨rfl, hb1⟩
    have hb2 := below_step hbW hb1
    go_wp2_with fail
    go_ret
    have hb3 := hb2.alloc hb2.size (.cells #[.int .i64 0, .int .i64 0, .int .i64 0, .int .i64 0, .int .i64 0, .string ⟨#[]⟩] 42)
    exact ⟨rfl, hG.out.keep fun i hi => hb3.block i (hG.out.lt i hi), But.of_below hb3⟩
  | some X =>
    rw [hq] at hget
    have HQ : Hid (∀ W : World, Below w.heap.size w W → Calls Try.prog 13 #[.pointer (some a), .agg #[.int .i64 id.1, .int .i64 id.2]] W fun e w' => e = .returned (.tuple #[.agg #[.int .i64 X.id.1, .int .i64 X.id.2, .int .i64 X.kind, .int .i64 X.links, .int .i64 X.mode, .string X.data], .bool true]) ∧ Below W.heap.size W w') := hget
    obtain ⟨b, bi, be, rfl, h1, h2, h3, hb, hi, he, hS⟩ := h
    obtain ⟨d0, d1⟩ := two_cells hb
    have hlt := heap_lt hb
    have HI := Lib.hid hi
    have HE := Lib.hid he
    have HS := Lib.hid hS
    have HBlk := Lib.hid hb
    have HG := Lib.hid hq
    clear hi he hS hb hget hq d1
    unfold stA
    go_enter Try.func31, Try.ntmps31
    go_wp2_with fail
    refine (HQ.out _ hbW).mono ?_
    rintro e w1 ⟨rfl, hb1⟩
    have hr0 : w1.heap[w.heap.size]? = some (.cells #[.int .i64 id.1, .int .i64 id.2] 24 (0, 0)) := (hb1.block _ (by simp)).trans (heap_alloc_new w _)
    have hb2 := below_step hbW hb1
    clear hb1 hbW
    go_upto_region 2 with fail
    change Code.wp _ _ _ _ (w1.alloc (.cells (inoA X) 42))
    obtain ⟨u, hu⟩ : ∃ u, u = w1.heap.size := ⟨_, rfl⟩
    have hlow : w.heap.size < u := by rw [hu]; exact heap_lt hr0
    have r0 : (w1.alloc (.cells (inoA X) 42)).heap[w.heap.size]? = _ := (heap_alloc_old w1 _ (by omega)).trans hr0
    have r1 : (w1.alloc (.cells (inoA X) 42)).heap[u]? = some (.cells (inoA X) 42 (0, 0)) := by rw [hu]; exact heap_alloc_new _ _
    have hb3 := hb2.alloc hb2.size (.cells (inoA X) 42)
    rw [← hu]
    generalize w1.alloc (.cells (inoA X) 42) = w2 at r0 r1 hb3 ⊢
    clear hr0 hb2 hu
    obtain ⟨y0, y1, y2, y3, y4, y5⟩ := ino_cells r1
    obtain ⟨f0, f1, f2, f3, f4, f5⟩ := ino_free r1
    go_wp2_with fail
    have s1 : ((w2.setCell ⟨u, 4, none⟩ (.int .i64 mode)).setCell ⟨u, 5, none⟩ (.string data)).heap[u]? = some (.cells (inoA { X with mode := mode, data := data }) 42 (0, 0)) := heap_setCell_same _ _ _ _ _ _ (heap_setCell_same _ _ _ _ _ _ r1)
    have s0 : ((w2.setCell ⟨u, 4, none⟩ (.int .i64 mode)).setCell ⟨u, 5, none⟩ (.string data)).heap[w.heap.size]? = _ := (heap_setCell_other _ _ _ _ (by dsimp only; omega)).trans ((heap_setCell_other _ _ _ _ (by dsimp only; omega)).trans r0)
    have hb5 := (hb3.setCell (p := ⟨u, 4, none⟩) (by dsimp only; omega) (.int .i64 mode)).setCell (p := ⟨u, 5, none⟩) (by dsimp only; omega) (.string data)
    generalize (w2.setCell ⟨u, 4, none⟩ (.int .i64 mode)).setCell ⟨u, 5, none⟩ (.string data) = w4 at s0 s1 hb5 ⊢
    clear r0 r1 hb3 y0 y1 y2 y3 y4 y5 f0 f1 f2 f3 f4 f5
    obtain ⟨y0, y1, y2, y3, y4, y5⟩ := ino_cells s1
    obtain ⟨x0, x1⟩ := two_cells s0
    have d0w := (hb5.cell (p := ⟨b, 0, none⟩) hlt).trans d0
    obtain ⟨w5, hrun, hm5, hbut5, hsz5⟩ := (HI.out.kept (hb5.drew.block bi HI.out.lt)).store stShape Try.underlying70 id { X with mode := mode, data := data }
    simp only [stV, stA, inoV, inoA] at hrun
    have HM5 := Lib.hid hm5
    have hb6 : But (fun i => i = bi) w w5 := (But.of_below hb5.drew).trans hbut5 fun i hi _ => hi
    have HB6 := Lib.hid hb6
    clear hm5 hb5 hbut5 s0 s1 hb6
    go_region
    go_wp2_with fail
    go_ret
    have hu : setG g id mode data = (⟨g.I.map fun x => if x.id = id then { x with mode := mode, data := data } else x, g.E⟩, 0) := by unfold setG; rw [HG.out]
    have hok := hg.set id mode data
    refine ⟨by rw [hu]; rfl, ⟨b, bi, be, rfl, h1, h2, h3, ?_, ?_, ?_, HS.out⟩, HB6.out.mono fun i hi => (HS.out i).2 (Or.inr (Or.inl hi))⟩
    · exact HB6.out.heap HBlk.out (fun q => h1 q)
    · refine HM5.out.perm (put_perm (keys_pairsI hg) (keys_pairsI hok) fun k => ?_)
      rw [look_pairsI hok, look_pairsI hg, set_get]
      by_cases hk : k = id
      · rw [if_pos hk, hk, HG.out]
        simp
      · rw [if_neg hk]
        cases getG g k <;> simp [hk]
    · have e1 : pairsE (setG g id mode data).1 = pairsE g := by unfold pairsE; rw [set_ents]
      rw [e1]
      exact HE.out.kept (HB6.out.block be HE.out.lt fun q => h3 q.symm)

end Go.Proofs.Ythobfeohgeeofaa

/-
  The landed graph's Parent: the first entry of a directory that comes is the only one.
-/
namespace Go.Proofs.Ythobfeohgeeofaa
open Go.RowKit StampMath GraphMath

theorem parent_kind {g : Gr} {d : St} (h : ¬ ((getG g d).getD noIno).kind = 1) : parentG g d = none := by
  unfold parentG
  cases hq : getG g d with
  | none => rfl
  | some x =>
    rw [hq] at h
    exact if_neg h

theorem dir_kind {g : Gr} {d : St} (h : ((getG g d).getD noIno).kind = 1) : g.isDir d := by
  cases hq : getG g d with
  | none => rw [hq] at h; exact absurd h (by decide)
  | some x =>
    rw [hq] at h
    exact getDir_of hq h

set_option maxRecDepth 100000 in
set_option maxHeartbeats 1600000 in
theorem parent_code (a : Addr) (S : Nat → Prop) (g : Gr) (d : St) (w : World) (h : GIn w S a g) (hg : g.ok) :
    Calls Try.prog 17 #[.pointer (some a), .agg (stA d)] w fun e w' => e = .returned (.tuple #[.agg (stA ((parentG g d).getD (0, 0))), .bool (parentG g d).isSome]) ∧ Below w.heap.size w w' := by
  obtain ⟨X, hX⟩ : ∃ X, X = (getG g d).getD noIno := ⟨_, rfl⟩
  obtain ⟨is, his⟩ : ∃ is, is = (getG g d).isSome := ⟨_, rfl⟩
  have HG : Hid (∀ W : World, Below w.heap.size w W → Calls Try.prog 13 #[.pointer (some a), .agg #[.int .i64 d.1, .int .i64 d.2]] W fun e w' => e = .returned (.tuple #[.agg #[.int .i64 X.id.1, .int .i64 X.id.2, .int .i64 X.kind, .int .i64 X.links, .int .i64 X.mode, .string X.data], .bool is]) ∧ Below W.heap.size W w') := fun W hW => by
    rw [hX, his]
    exact get_code a S g d W (h.keep fun i hi => hW.block i (h.lt i hi)) hg
  have HN : Hid (¬ X.kind = 1 → parentG g d = none) := fun q => parent_kind (by rw [← hX]; exact q)
  have HD : Hid (X.kind = 1 → g.isDir d) := fun q => dir_kind (by rw [← hX]; exact q)
  obtain ⟨b, bi, be, rfl, h1, h2, h3, hb, hi, he, hS⟩ := h
  obtain ⟨d0, d1⟩ := two_cells hb
  have hlt := heap_lt hb
  have HE := Lib.hid he
  clear hX his hi he hb hS d0
  have hb0 : Below w.heap.size w ((w.alloc (.cells #[.int .i64 d.1, .int .i64 d.2] 24)).alloc (.cells #[.int .i64 0, .int .i64 0] 24)) := ((Below.refl _ _).alloc (Nat.le_refl _) _).alloc (by simp) _
  unfold stA
  go_enter Try.func17, Try.ntmps17
  go_wp2_with fail
  refine (HG.out _ hb0).mono ?_
  rintro e w1 ⟨rfl, hb1⟩
  have q0 : w1.heap[w.heap.size]? = some (.cells #[.int .i64 d.1, .int .i64 d.2] 24 (0, 0)) := (hb1.block _ (by simp <;> omega)).trans (heap_alloc2_old w _ _)
  have q1 : w1.heap[w.heap.size + 1]? = some (.cells #[.int .i64 0, .int .i64 0] 24 (0, 0)) := (hb1.block _ (by simp)).trans (heap_alloc2_new w _ _)
  have hb2 := below_step hb0 hb1
  clear hb0 hb1
  go_upto_region 2 with fail
  change Code.wp _ _ _ _ (w1.alloc (.cells (inoA X) 42))
  obtain ⟨u, hu⟩ : ∃ u, u = w1.heap.size := ⟨_, rfl⟩
  have hlow : w.heap.size + 1 < u := by rw [hu]; exact heap_lt q1
  have r0 : (w1.alloc (.cells (inoA X) 42)).heap[w.heap.size]? = _ := (heap_alloc_old w1 _ (by omega)).trans q0
  have r1 : (w1.alloc (.cells (inoA X) 42)).heap[w.heap.size + 1]? = _ := (heap_alloc_old w1 _ (by omega)).trans q1
  have r2 : (w1.alloc (.cells (inoA X) 42)).heap[u]? = some (.cells (inoA X) 42 (0, 0)) := by rw [hu]; exact heap_alloc_new _ _
  have hb3 := hb2.alloc hb2.size (.cells (inoA X) 42)
  rw [← hu]
  generalize w1.alloc (.cells (inoA X) 42) = w2 at r0 r1 r2 hb3 ⊢
  clear q0 q1 hb2 hu
  have hx2 := (ino_cells r2).2.2.1
  have hu2 := heap_lt r2
  by_cases hk : X.kind = 1
  · have hkd : (X.kind == 1) = true := beq_iff_eq.2 hk
    have HDir := Lib.hid (HD.out hk)
    have d1w := (hb3.cell (p := ⟨b, 1, none⟩) hlt).trans d1
    have HE2 := Lib.hid (HE.out.kept (hb3.block be HE.out.lt))
    have hltE := HE2.out.lt
    have HR0 := Lib.hid r0
    have HR1 := Lib.hid r1
    have HB3 := Lib.hid hb3
    clear hk HN HD r0 r1 r2 hb3
    go_wp2_with (at_range; refine wpList_k_range (by rfl) _ _ (by rfl) Try.underlying71 be _ (by rfl) HE2.out ?_; intro v1 HRg HB1 HS1)
    rw [show (X.kind != 1) = false by rw [bne, hkd]; rfl]
    clear hx2 hkd d1w
    go_frame
    go_loopg [] ((pairsE g).length + 1) (fun gk wr => ∃ (done todo : List ((St × ByteArray) × St)), gk = todo.length + 1 ∧ Hid (KRange plV stV wr be w2.heap.size (pairsE g) todo) ∧ Hid ((done ++ todo).Perm (pairsE g)) ∧ Hid (∀ p ∈ done, p.2 ≠ d) ∧ Hid (Below w2.heap.size w2 wr) ∧ w2.heap.size + 1 ≤ wr.heap.size)
    case atStart => exact ⟨[], pairsE g, rfl, HRg, List.Perm.refl _, (fun p hp => by cases hp), HB1, by rw [HS1.out]; omega⟩
    case round =>
      obtain ⟨done, todo, rfl, hR, hP, hnone, hB, hs1⟩ := hrel
      clear HRg HB1 HS1
      have t0 := (hB.out.block _ (by omega)).trans HR0.out
      have t1 := (hB.out.block _ (by omega)).trans HR1.out
      go_wp2_with (refine wpList_k_next (by rfl) _ (by rfl) be w2.heap.size _ _ (by rfl) hR.out ?_ ?_)
      · intro h0
        have hR : parentG g d = none := by
          cases hq : parentG g d with
          | none => rfl
          | some up =>
            obtain ⟨e, he, hei, _⟩ := parent_of hq
            have hm : ((e.dir, e.name), e.ino) ∈ pairsE g := List.mem_map.2 ⟨e, he, rfl⟩
            rw [h0, List.append_nil] at hP
            exact absurd hei (hnone.out _ (hP.out.mem_iff.2 hm))
        have HQ := Lib.hid hR
        clear hR h0
        obtain ⟨m0, m1⟩ := two_cells t1
        obtain ⟨f0, f1⟩ := two_free t1
        go_wp2_with fail
        obtain ⟨z0, z1⟩ := two_cells (box_set (c := .int .i64 0) (d := .int .i64 0) t1)
        exact bodyPost_ret (v := .tuple #[.agg (stA (0, 0)), .bool false]) (by simp [results, Try.results17, go_sem, stA, z0, z1]) rfl ⟨by rw [HQ.out]; rfl, (below_step HB3.out hB.out |>.setCell (by dsimp only; omega) _).setCell (by dsimp only; omega) _⟩
      · intro t r nm t' r' todo' w4 hp hR2 hB2 hs2 hen
        simp only [plV, stV, stA] at hen ⊢
        have hs2' : w2.heap.size + 1 ≤ w4.heap.size := by rw [hs2.out]; exact hs1
        have n0 := (hB2.out.block _ (by omega) (by omega)).trans t0
        have n1 := (hB2.out.block _ (by omega) (by omega)).trans t1
        have hb4 := hB.out.trans (hB2.out.below (fun i hi => by omega) (by omega))
        have hP2 : Hid ((done ++ [(((t, r), nm), (t', r'))] ++ todo').Perm (pairsE g)) := by
          have e1 : (done ++ todo).Perm (done ++ ((((t, r), nm), (t', r')) :: todo')) := hp.out.append_left _
          show (done ++ [(((t, r), nm), (t', r'))] ++ todo').Perm _
          rw [List.append_assoc]
          exact e1.symm.trans hP.out
        have hlen2 := hp.out.length_eq
        simp only [List.length_cons] at hlen2
        clear t0 t1 hB hB2 hs2 hP hp hR
        go_upto_region 7 with fail
        obtain ⟨z, hz⟩ : ∃ z, z = w4.heap.size := ⟨_, rfl⟩
        have k0 : ((w4.alloc (.cells #[.int .i64 t, .int .i64 r, .string nm] 82)).alloc (.cells #[.int .i64 t', .int .i64 r'] 24)).heap[z]? = some (.cells #[.int .i64 t, .int .i64 r, .string nm] 82 (0, 0)) := by rw [hz]; exact heap_alloc2_old w4 _ _
        have k1 : ((w4.alloc (.cells #[.int .i64 t, .int .i64 r, .string nm] 82)).alloc (.cells #[.int .i64 t', .int .i64 r'] 24)).heap[z + 1]? = some (.cells #[.int .i64 t', .int .i64 r'] 24 (0, 0)) := by rw [hz]; exact heap_alloc2_new w4 _ _
        have hbA : Below w4.heap.size w4 ((w4.alloc (.cells #[.int .i64 t, .int .i64 r, .string nm] 82)).alloc (.cells #[.int .i64 t', .int .i64 r'] 24)) := ((Below.refl _ _).alloc (Nat.le_refl _) _).alloc (by simp) _
        rw [← hz]
        generalize ((w4.alloc (.cells #[.int .i64 t, .int .i64 r, .string nm] 82)).alloc (.cells #[.int .i64 t', .int .i64 r'] 24)) = w5 at k0 k1 hbA ⊢
        have hz5 := hbA.size
        have hR5 := Lib.hid (hR2.out.kept (hbA.block _ (by omega)) (hbA.block _ (by omega)))
        have hb5 := below_step hb4 hbA
        have t0 := (hbA.block _ (by omega)).trans n0
        have t1 := (hbA.block _ (by omega)).trans n1
        clear hz hbA hR2 hb4 n0 n1 hen
        have x0 := cell_of_row _ _ 0 _ _ (0, 0) k0
        have x1 := cell_of_row _ _ 1 _ _ (0, 0) k0
        obtain ⟨y0, y1⟩ := two_cells k1
        obtain ⟨c3, c4⟩ := two_cells t0
        obtain ⟨m0, m1⟩ := two_cells t1
        obtain ⟨f0, f1⟩ := two_free t1
        have HT1 := Lib.hid t1
        have HB5 := Lib.hid hb5
        clear k0 k1 t0 t1 hb5
        by_cases hq : ((t', r') : St) = d
        · have hv := eqSt_yes hq
          have HQ : Hid (parentG g d = some (t, r)) := by
            have hm : (((t, r), nm), (t', r')) ∈ pairsE g := hP2.out.mem_iff.1 (by simp)
            obtain ⟨e, he, hee⟩ := List.mem_map.1 hm
            have e1 : e.ino = d := by rw [← hq]; exact congrArg Prod.snd hee
            have e2 : e.dir = (t, r) := congrArg (fun p => p.1.1) hee
            have hd := HDir.out
            rw [← e1] at hd
            have := hg.parent he hd
            rw [e1, e2] at this
            exact this
          simp only at hv
          go_wp2_with fail
          obtain ⟨z0, z1⟩ := two_cells (box_set (c := .int .i64 t) (d := .int .i64 r) HT1.out)
          exact bodyPost_ret (v := .tuple #[.agg (stA (t, r)), .bool true]) (by simp [results, Try.results17, go_sem, stA, z0, z1]) rfl ⟨by rw [HQ.out]; rfl, (below_step HB3.out HB5.out |>.setCell (by dsimp only; omega) _).setCell (by dsimp only; omega) _⟩
        · have hv := eqSt_no hq
          simp only at hv
          go_wp2_with fail
          go_roundg (todo'.length + 1)
          case measure => omega
          case rel =>
            refine ⟨done ++ [(((t, r), nm), (t', r'))], todo', rfl, hR5.out, hP2.out, fun p hp => ?_, HB5.out, by have := HB5.out.size; omega⟩
            rcases List.mem_append.1 hp with hp | hp
            · exact hnone.out p hp
            · rw [List.mem_singleton.1 hp]
              exact hq
  · have hkd : (X.kind == 1) = false := beq_eq_false_iff_ne.2 hk
    have HQ := Lib.hid (HN.out hk)
    clear hk HN HD
    obtain ⟨m0, m1⟩ := two_cells r1
    obtain ⟨f0, f1⟩ := two_free r1
    go_wp2_with fail
    obtain ⟨z0, z1⟩ := two_cells (box_set (c := .int .i64 0) (d := .int .i64 0) r1)
    exact bodyPost_ret (v := .tuple #[.agg (stA (0, 0)), .bool false]) (by simp [results, Try.results17, go_sem, stA, z0, z1]) rfl ⟨by rw [HQ.out]; rfl, ((hb3).setCell (by dsimp only; omega) _).setCell (by dsimp only; omega) _⟩

end Go.Proofs.Ythobfeohgeeofaa

/-
  Plain mathematics of layer 9: directories are trees; links are counted right. It needs no program.
-/
namespace Go.Proofs.Ythobfeohgeeofaa.GraphMath
open StampMath

theorem leads_trans {g : Gr} {a b c : St} (h : Leads g a b) (k : Leads g b c) : Leads g a c := by
  induction h with
  | here _ => exact k
  | up e d he hd _ ih => exact Leads.up e c he hd (ih k)

theorem leads_rank {g : Gr} {f : St → Nat} (hf : ∀ e ∈ g.E, g.isDir e.ino → f e.dir < f e.ino) {a b : St} (h : Leads g a b) : a = b ∨ f b < f a := by
  induction h with
  | here _ => exact Or.inl rfl
  | up e d he hd _ ih =>
    have := hf e he hd
    rcases ih with rfl | h
    · exact Or.inr this
    · exact Or.inr (by omega)

theorem Gr.ok.anti {g : Gr} (h : g.ok) {a b : St} (h1 : underG g a b = true) (h2 : underG g b a = true) : a = b := by
  obtain ⟨f, hf⟩ := h.rank
  rcases leads_rank hf (h.leads.1 h1) with e | e
  · exact e
  · rcases leads_rank hf (h.leads.1 h2) with q | q
    · exact q.symm
    · omega

theorem Gr.ok.utrans {g : Gr} (h : g.ok) {a b c : St} (h1 : underG g a b = true) (h2 : underG g b c = true) : underG g a c = true :=
  h.leads.2 (leads_trans (h.leads.1 h1) (h.leads.1 h2))

theorem under_self (g : Gr) (a : St) : underG g a a = true := by
  unfold underG
  rw [underN_step, if_pos rfl]

/-- None is under itself by another one. -/
theorem Gr.ok.no_loop {g : Gr} (h : g.ok) {id p : St} (hp : parentG g id = some p) : underG g p id = false := by
  cases hu : underG g p id with
  | false => rfl
  | true =>
    obtain ⟨e, he, rfl, rfl, hd⟩ := parent_of hp
    obtain ⟨f, hf⟩ := h.rank
    have := hf e he hd
    rcases leads_rank hf (h.leads.1 hu) with q | q
    · rw [q] at this; omega
    · omega

theorem Gr.ok.under_up {g : Gr} (h : g.ok) {a p : St} (hp : parentG g a = some p) : underG g a p = true := by
  obtain ⟨e, he, rfl, rfl, hd⟩ := parent_of hp
  exact h.leads.2 (Leads.up e _ he hd (Leads.here _))

/-- Behind the first step. -/
theorem Gr.ok.under_step {g : Gr} (h : g.ok) {a b p : St} (hp : parentG g a = some p) (hab : a ≠ b) : underG g a b = underG g p b := by
  rw [Bool.eq_iff_iff, h.leads, h.leads]
  constructor
  · intro hl
    cases hl with
    | here _ => exact absurd rfl hab
    | up e d he hd hl =>
      have := h.parent he hd
      rw [hp] at this
      rw [Option.some.inj this]
      exact hl
  · intro hl
    obtain ⟨e, he, rfl, rfl, hd⟩ := parent_of hp
    exact Leads.up e b he hd hl

/-- A parent there is just of a directory with a link. -/
theorem Gr.ok.parent_iff {g : Gr} (h : g.ok) {x : Ino} (hx : x ∈ g.I) : (parentG g x.id).isSome = (decide (x.kind = 1) && decide (linksE g.E x.id = 1)) := by
  cases hp : parentG g x.id with
  | some p =>
    obtain ⟨e, he, hei, _, hd⟩ := parent_of hp
    have h1 := h.one x.id hd
    have h2 : 0 < linksE g.E x.id := List.length_pos_of_mem (a := e) (List.mem_filter.2 ⟨he, by simp [hei]⟩)
    obtain ⟨y, hy, hyi, hyk⟩ := hd
    have := h.ids hy hx hyi
    subst this
    rw [decide_eq_true hyk, decide_eq_true (by omega)]
    rfl
  | none =>
    symm
    rw [Option.isSome_none, Bool.and_eq_false_iff]
    by_cases hk : x.kind = 1
    · refine Or.inr (decide_eq_false fun hl => ?_)
      have hpos : 0 < (g.E.filter fun e => decide (e.ino = x.id)).length := by unfold linksE at hl; omega
      obtain ⟨e, hem⟩ := List.exists_mem_of_length_pos hpos
      obtain ⟨he, hei⟩ := List.mem_filter.1 hem
      have hei : e.ino = x.id := by simpa using hei
      have := h.parent he ⟨x, hx, hei.symm, hk⟩
      rw [hei, hp] at this
      cases this
    · exact Or.inl (decide_eq_false hk)

end Go.Proofs.Ythobfeohgeeofaa.GraphMath
