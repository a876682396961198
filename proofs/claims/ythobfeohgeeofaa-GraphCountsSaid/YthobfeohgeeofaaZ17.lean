/-
  The landed graph's New.
-/
import Derived.Test.YthobfeohgeeofaaZ13
import Derived.Test.YthobfeohgeeofaaZ03
import Derived.Test.YthobfeohgeeofaaZ04
import Derived.Maps.Own
import Derived.Maps.OwnOps
import Derived.Deep.Cut
namespace Go.Proofs.Ythobfeohgeeofaa
open Go.RowKit StampMath GraphMath

theorem pairsI_new : pairsI newG = [((0, 0), ⟨(0, 0), 1, 0, 0, ⟨#[]⟩⟩)] := by rw [pairsI, new_okG.inodes]; rfl

set_option maxRecDepth 100000 in
theorem new_code (w : World) : Calls Try.prog 9 #[] w fun e w' => ∃ a S, e = .returned (.pointer (some a)) ∧ GIn w' S a newG ∧ (∀ i, S i → w.heap.size ≤ i) ∧ Below w.heap.size w w' := by
  have HR : Hid (∀ W : World, Calls Try.prog 33 #[] W fun e w' => e = .returned (.agg #[.int .i64 0, .int .i64 0]) ∧ Below W.heap.size W w') := root_any
  have hmk0 : (Instr.makeMap 70 none).run Try.prog w = .ok (.map (some w.heap.size)) (w.alloc (.map #[] 0)) := rfl
  have hb0 : Below w.heap.size w (w.alloc (.map #[] 0)) := (Below.refl _ _).alloc (Nat.le_refl _) _
  have HM0 := Lib.hid (KMap.made (ek := stV) (ev := inoV) w)
  go_enter Try.func9, Try.ntmps9
  go_wp2_with fail
  refine (HR.out _).mono ?_
  rintro e w1 ⟨rfl, hb1⟩
  have hm1 := Lib.hid (HM0.out.kept (hb1.block _ (by simp)))
  have hb2 := below_step hb0 hb1
  have hz1 : w.heap.size < w1.heap.size := hm1.out.lt
  clear hmk0 hb0 hb1 HM0
  go_wp2_with fail
  refine (HR.out _).mono ?_
  rintro e w2 ⟨rfl, hb3⟩
  have hm2 := hm1.out.kept (hb3.block _ hz1)
  have hb4 := below_step hb2 hb3
  have hz2 : w.heap.size < w2.heap.size := hm2.lt
  clear hm1 hb2 hb3 hz1
  obtain ⟨w3, hrun, hm3, hbut, hsz⟩ := hm2.store stShape Try.underlying70 (0, 0) ⟨(0, 0), 1, 0, 0, ⟨#[]⟩⟩
  simp only [stV, stA, inoV, inoA] at hrun
  have hb5 : Below w.heap.size w w3 := hb4.trans (hbut.below (fun i hi => by omega) (by omega))
  have HM := Lib.hid hm3
  have HB := Lib.hid hb5
  have hz3 : w.heap.size < w3.heap.size := by rw [hsz]; exact hz2
  clear hm2 hb4 hz2 hm3 hbut hb5 hsz
  have hmk1 : (Instr.makeMap 71 none).run Try.prog w3 = .ok (.map (some w3.heap.size)) (w3.alloc (.map #[] 0)) := rfl
  go_wp2_with fail
  go_ret
  refine ⟨⟨w3.heap.size + 1, 0, none⟩, fun i => i = w3.heap.size + 1 ∨ i = w.heap.size ∨ i = w3.heap.size, ?_, ⟨w3.heap.size + 1, w.heap.size, w3.heap.size, rfl, by omega, by omega, by omega, ?_, ?_, ?_, fun i => Iff.rfl⟩, fun i hi => by omega, ?_⟩
  · rfl
  · rw [show w3.heap.size + 1 = (w3.alloc (.map #[] 0)).heap.size by simp]
    exact heap_alloc_new _ _
  · have hk : KMap stV inoV w3 w.heap.size (pairsI newG) := by
      have := HM.out
      rw [pairsI_new]
      exact this
    refine hk.kept ?_
    rw [heap_alloc_old _ _ (by simp; omega), heap_alloc_old _ _ (by omega)]
  · have hk : KMap plV stV (w3.alloc (.map #[] 0)) w3.heap.size [] := KMap.made w3
    refine hk.kept ?_
    rw [heap_alloc_old _ _ (by simp)]
  · exact (HB.out.alloc HB.out.size _).alloc (by simp; omega) _

end Go.Proofs.Ythobfeohgeeofaa

/-
  The code of package graph (a draft): Look.
-/
namespace Go.Proofs.Ythobfeohgeeofaa
open Go.RowKit StampMath GraphMath

set_option maxRecDepth 100000 in
theorem look_code (a : Addr) (S : Nat → Prop) (g : Gr) (d : St) (nm : ByteArray) (w : World) (h : GIn w S a g) :
    Calls Try.prog 15 #[.pointer (some a), .agg (stA d), .string nm] w fun e w' => e = .returned (.tuple #[.agg (stA ((lookE g.E d nm).getD (0, 0))), .bool (lookE g.E d nm).isSome]) ∧ Below w.heap.size w w' := by
  obtain ⟨b, bi, be, rfl, h1, h2, h3, hb, hi, he, hS⟩ := h
  obtain ⟨c0, c1⟩ := two_cells hb
  obtain ⟨ok, hok⟩ : ∃ ok, ok = (lookE g.E d nm).isSome := ⟨_, rfl⟩
  obtain ⟨v, hv⟩ : ∃ v, v = (lookE g.E d nm).getD (0, 0) := ⟨_, rfl⟩
  rw [← hok, ← hv]
  have hlook : ∀ W : World, Hid (Below w.heap.size w W) → (Instr.lookup 71 (.map (some be)) (.agg #[.int .i64 d.1, .int .i64 d.2, .string nm]) true).run Try.prog W = .ok (.tuple #[.agg #[.int .i64 v.1, .int .i64 v.2], .bool ok]) W := fun W hW => by
    have hl := (he.kept (hW.out.block be he.lt)).look plShape Try.underlying71 (zeroSt W) (d, nm) true
    rw [look_pairsE, if_pos rfl, show ((lookE g.E d nm).map stV).getD (stV (0, 0)) = stV v by rw [hv]; cases lookE g.E d nm <;> rfl, ← hok] at hl
    exact hl
  have hlt := heap_lt hb
  have HL := Lib.hid hlook
  clear hi he hb hS hlook hok hv
  unfold stA
  go_enter Try.func15, Try.ntmps15
  go_wp2_with fail
  have hbW : Below w.heap.size w ((w.alloc (.cells #[.int .i64 d.1, .int .i64 d.2] 24)).alloc (.cells #[.int .i64 0, .int .i64 0] 24)) := ((Below.refl _ _).alloc (Nat.le_refl _) _).alloc (by simp) _
  have hb1 := (hbW.alloc hbW.size (.cells #[.int .i64 0, .int .i64 0] 24)).drew
  have d0 := (hb1.cell (p := ⟨b, 1, none⟩) hlt).trans c1
  have hl := HL.out _ hb1
  have c0w := (hbW.cell (p := ⟨b, 1, none⟩) hlt).trans c1
  have hl0 := HL.out _ hbW.drew
  have HB := Lib.hid hbW
  clear hbW hb1
  go_region
  all_goals clear d0 hl c0w hl0
  all_goals go_wp2_with fail
  all_goals exact bodyPost_ret (v := .tuple #[.agg (stA v), .bool ok]) (by simp [results, Try.results15, go_sem, stA]) rfl ⟨rfl, by
    repeat (first | exact Below.refl _ _ | apply Below.drew | refine Below.alloc ?_ (by simp <;> omega) _)⟩

end Go.Proofs.Ythobfeohgeeofaa

/-
  The landed graph's full and count.
-/
namespace Go.Proofs.Ythobfeohgeeofaa
open Go.RowKit StampMath GraphMath

/-- Can no more entries be of an inode? -/
def fullB (X : Ino) : Bool := if X.kind = 1 then decide (0 < X.links) else decide (6 ≤ X.links)

set_option maxRecDepth 100000 in
theorem full_code (X : Ino) (w : World) :
    Calls Try.prog 66 #[.agg #[.int .i64 X.id.1, .int .i64 X.id.2, .int .i64 X.kind, .int .i64 X.links, .int .i64 X.mode, .string X.data]] w fun e w' => e = .returned (.bool (fullB X)) ∧ Below w.heap.size w w' := by
  by_cases hk : X.kind = 1
  · have hv : Hid (fullB X = decide (0 < X.links)) := if_pos hk
    have hk' : (X.kind == 1) = true := beq_iff_eq.2 hk
    clear hk
    go_enter Try.func66, Try.ntmps66
    go_wp2_with fail
    go_ret
    exact ⟨by rw [hv.out]; rfl, (Below.refl _ _).alloc (Nat.le_refl _) _⟩
  · have hv : Hid (fullB X = decide (6 ≤ X.links)) := if_neg hk
    have hk' : (X.kind == 1) = false := beq_eq_false_iff_ne.2 hk
    clear hk
    go_enter Try.func66, Try.ntmps66
    go_wp2_with fail
    go_ret
    exact ⟨by rw [hv.out]; rfl, (Below.refl _ _).alloc (Nat.le_refl _) _⟩

set_option maxRecDepth 100000 in
set_option maxHeartbeats 1600000 in
theorem count_code (b bi be : Nat) (LI : List (St × Ino)) (id : St) (more : Int) (X : Ino) (w : World) (hb : w.heap[b]? = some (.cells #[.map (some bi), .map (some be)] 73 (0, 0))) (hi : KMap stV inoV w bi LI) (hX : lookL LI id = some X) (hwr : wrap64 (X.links + more) = X.links + more) :
    Calls Try.prog 50 #[.pointer (some ⟨b, 0, none⟩), .agg #[.int .i64 id.1, .int .i64 id.2], .int .i64 more] w fun e w' => e = .returned (.tuple #[]) ∧ KMap stV inoV w' bi ((id, { X with links := X.links + more }) :: offL LI id) ∧ But (fun i => i = bi) w w' := by
  obtain ⟨d0, d1⟩ := two_cells hb
  have hlt := heap_lt hb
  have hlook : ∀ W : World, Hid (Below w.heap.size w W) → (Instr.lookup 70 (.map (some bi)) (.agg #[.int .i64 id.1, .int .i64 id.2]) false).run Try.prog W = .ok (.agg #[.int .i64 X.id.1, .int .i64 X.id.2, .int .i64 X.kind, .int .i64 X.links, .int .i64 X.mode, .string X.data]) W := fun W hW => by
    have hl := (hi.kept (hW.out.block bi hi.lt)).look stShape Try.underlying70 (zeroIno W) id false
    rw [if_neg (by decide), hX] at hl
    exact hl
  have HL := Lib.hid hlook
  have HI := Lib.hid hi
  clear hlook hi hb hX d1
  go_enter Try.func50, Try.ntmps50
  go_upto_region 1 with fail
  obtain ⟨u, hu⟩ : ∃ u, u = w.heap.size := ⟨_, rfl⟩
  have q2 : (w.alloc (.cells #[.int .i64 id.1, .int .i64 id.2] 24)).heap[u]? = some (.cells #[.int .i64 id.1, .int .i64 id.2] 24 (0, 0)) := by rw [hu]; exact heap_alloc_new _ _
  have hsz : (w.alloc (.cells #[.int .i64 id.1, .int .i64 id.2] 24)).heap.size = u + 1 := by simp [hu]
  have hb3 : Below w.heap.size w (w.alloc (.cells #[.int .i64 id.1, .int .i64 id.2] 24)) := (Below.refl _ _).alloc (Nat.le_refl _) _
  have hlow : w.heap.size ≤ u := Nat.le_of_eq hu.symm
  rw [← hu]
  generalize w.alloc (.cells #[.int .i64 id.1, .int .i64 id.2] 24) = w2 at q2 hsz hb3 ⊢
  clear hu
  obtain ⟨x0, x1⟩ := two_cells q2
  have d0w := (hb3.cell (p := ⟨b, 0, none⟩) hlt).trans d0
  have hbC := (hb3.alloc hb3.size (.cells #[.int .i64 0, .int .i64 0, .int .i64 0, .int .i64 0, .int .i64 0, .string ⟨#[]⟩] 42)).drew
  have l0 := HL.out _ hb3.drew
  have l1 := HL.out _ hbC
  have d0c := (hbC.cell (p := ⟨b, 0, none⟩) hlt).trans d0
  have x0c : ((w2.alloc (.cells #[.int .i64 0, .int .i64 0, .int .i64 0, .int .i64 0, .int .i64 0, .string ⟨#[]⟩] 42)).drew).cell? ⟨u, 0, none⟩ = some (.int .i64 id.1) := (World.cell?_alloc_lt w2 _ _ (World.block_lt_of_cell? _ _ x0)).trans x0
  have x1c : ((w2.alloc (.cells #[.int .i64 0, .int .i64 0, .int .i64 0, .int .i64 0, .int .i64 0, .string ⟨#[]⟩] 42)).drew).cell? ⟨u, 1, none⟩ = some (.int .i64 id.2) := (World.cell?_alloc_lt w2 _ _ (World.block_lt_of_cell? _ _ x1)).trans x1
  have HB := Lib.hid hb3
  clear hbC hb3
  go_region
  all_goals clear l0 l1 d0c x0c x1c
  all_goals
    have q3 : ((w2.alloc (.cells #[.int .i64 X.id.1, .int .i64 X.id.2, .int .i64 X.kind, .int .i64 X.links, .int .i64 X.mode, .string X.data] 42)).drew).heap[u + 1]? = some (.cells (inoA X) 42 (0, 0)) := by rw [← hsz]; exact heap_alloc_new _ _
    have r2 : ((w2.alloc (.cells #[.int .i64 X.id.1, .int .i64 X.id.2, .int .i64 X.kind, .int .i64 X.links, .int .i64 X.mode, .string X.data] 42)).drew).heap[u]? = _ := (heap_alloc_old w2 _ (by omega)).trans q2
    have hb4 := (HB.out.alloc HB.out.size (.cells #[.int .i64 X.id.1, .int .i64 X.id.2, .int .i64 X.kind, .int .i64 X.links, .int .i64 X.mode, .string X.data] 42)).drew
    generalize ((w2.alloc (.cells #[.int .i64 X.id.1, .int .i64 X.id.2, .int .i64 X.kind, .int .i64 X.links, .int .i64 X.mode, .string X.data] 42)).drew) = w3 at q3 r2 hb4 ⊢
    clear q2 x0 x1 d0w HB hsz
    have q3l := (ino_cells q3).2.2.2.1
    have q3f := (ino_free q3).2.2.2.1
    have d0w := (hb4.cell (p := ⟨b, 0, none⟩) hlt).trans d0
    go_upto_region 3 with fail
    rw [hwr]
    have s3 : (w3.setCell ⟨u + 1, 3, none⟩ (.int .i64 (X.links + more))).heap[u + 1]? = some (.cells (inoA { X with links := X.links + more }) 42 (0, 0)) := heap_setCell_same _ _ _ _ _ _ q3
    have s2 : (w3.setCell ⟨u + 1, 3, none⟩ (.int .i64 (X.links + more))).heap[u]? = _ := (heap_setCell_other _ _ _ _ (by dsimp only; omega)).trans r2
    have hb5 := hb4.setCell (p := ⟨u + 1, 3, none⟩) (by dsimp only; omega) (.int .i64 (X.links + more))
    generalize w3.setCell ⟨u + 1, 3, none⟩ (.int .i64 (X.links + more)) = w4 at s2 s3 hb5 ⊢
    clear q3 r2 hb4 q3l q3f d0w
    obtain ⟨y0, y1, y2, y3, y4, y5⟩ := ino_cells s3
    obtain ⟨x0, x1⟩ := two_cells s2
    have d0w := (hb5.cell (p := ⟨b, 0, none⟩) hlt).trans d0
    obtain ⟨w5, hrun, hm5, hbut5, hsz5⟩ := (HI.out.kept (hb5.drew.block bi HI.out.lt)).store stShape Try.underlying70 id { X with links := X.links + more }
    simp only [stV, stA, inoV, inoA] at hrun
    have HM5 := Lib.hid hm5
    have hb6 : But (fun i => i = bi) w w5 := (But.of_below hb5.drew).trans hbut5 fun i hi _ => hi
    have HB6 := Lib.hid hb6
    clear hm5 hb5 hbut5 s2 s3 hb6
    go_region
    go_end0
    exact ⟨rfl, HM5.out, HB6.out⟩

end Go.Proofs.Ythobfeohgeeofaa
