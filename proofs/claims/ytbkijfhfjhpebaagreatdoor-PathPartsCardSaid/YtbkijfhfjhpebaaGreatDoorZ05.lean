/-
  The landed graph's Tie.
-/
import Derived.Test.YtbkijfhfjhpebaaGreatDoorZ04
import Derived.Maps.Own
import Derived.Maps.OwnOps
import Derived.Deep.Cut
import Derived.Test.YtbkijfhfjhpebaaGreatDoorZ00
import Derived.Shelf.SlMaps.Clone
import Derived.Test.YtbkijfhfjhpebaaGreatDoorZ03
import Derived.Test.YtbkijfhfjhpebaaGreatDoorZ01
import Derived.Deep.RegionWith
import Derived.Test.YtbkijfhfjhpebaaGreatDoorRows
import Derived.Shelf.SlSortCmp.KitK
import Derived.Sort.LotA
import Derived.Sort.WalkB2
import Derived.Sort.WalkB12
import Derived.Deep.LoopGhost
namespace Go.Proofs.YtbkijfhfjhpebaaGreatDoor
open Go.RowKit StampMath GraphMath OpMath

set_option maxRecDepth 100000 in
set_option maxHeartbeats 1600000 in
theorem tie_code (a : Addr) (S : Nat → Prop) (g : Gr) (x : Ent) (w : World) (h : GIn w S a g) (hg : g.ok) (hsz : x.name.size ≤ maxLen) :
    Calls Tryz.prog 87 #[.pointer (some a), .agg (entA x)] w fun e w' => e = .returned (.int .i64 (tieG (nameB x.name) g x).2) ∧ GIn w' S a (tieG (nameB x.name) g x).1 ∧ But S w w' := by
  obtain ⟨why, hwhy⟩ : ∃ why, why = whyG (nameB x.name) g x := ⟨_, rfl⟩
  have HM : Hid (∀ W : World, Below w.heap.size w W → Calls Tryz.prog 127 #[.pointer (some a), .agg #[.int .i64 x.dir.1, .int .i64 x.dir.2, .string x.name, .int .i64 x.ino.1, .int .i64 x.ino.2]] W fun e w' => e = .returned (.int .i64 why) ∧ Below W.heap.size W w') := fun W hW => by
    rw [hwhy]
    exact mayTie_code a S g x W (h.keep fun i hi => hW.block i (h.lt i hi)) hg hsz
  have hG := Lib.hid h
  have hb0 : Below w.heap.size w (w.alloc (.cells (entA x) 70)) := (Below.refl _ _).alloc (Nat.le_refl _) _
  have he0 := heap_alloc_new w (.cells (entA x) 70)
  by_cases hw : why = 0
  · have htie : tieG (nameB x.name) g x = (⟨g.I, putIn (fun a => aheadE a x) g.E x⟩, 0) := by unfold tieG; rw [if_pos (by rw [← hwhy]; exact hw)]
    have h0 : (tieG (nameB x.name) g x).2 = 0 := by rw [htie]
    have hok := hg.tie (nameB x.name) x
    obtain ⟨X, hX⟩ : ∃ X, getG g x.ino = some X := by
      have : ¬ getG g x.ino = none := fun q => by
        have h1 : whyG (nameB x.name) g x = 0 := by rw [← hwhy]; exact hw
        unfold whyG at h1
        rw [q] at h1
        cases hn : nameB x.name with
        | false => rw [hn] at h1; simp at h1
        | true =>
          rw [hn] at h1
          cases hd : getG g x.dir with
          | none => rw [hd] at h1; simp at h1
          | some _ => rw [hd] at h1; simp at h1
      cases hq : getG g x.ino with
      | none => exact absurd hq this
      | some y => exact ⟨y, rfl⟩
    have hwr : wrap64 (X.links + 1) = X.links + 1 := by
      have h6 := hg.six x.ino
      obtain ⟨y, _, _, hy⟩ := get_some hX
      have h7 : X.links = (linksE g.E x.ino : Int) := by rw [hy]
      unfold wrap64
      omega
    have HG : Hid (tieG (nameB x.name) g x).1.ok := hok
    have HT0 := Lib.hid htie
    have HH0 := Lib.hid h0
    have HX := Lib.hid hX
    have HR := Lib.hid hwr
    obtain ⟨b, bi, be, rfl, h1, h2, h3, hb, hi, he, hS⟩ := h
    obtain ⟨d0, d1⟩ := two_cells hb
    have hlt := heap_lt hb
    have HI := Lib.hid hi
    have HE := Lib.hid he
    have HS := Lib.hid hS
    have HBlk := Lib.hid hb
    have hw0 : (why == 0) = true := beq_iff_eq.2 hw
    have HC : Hid (∀ W : World, W.heap[b]? = some (.cells #[.map (some bi), .map (some be)] 65 (0, 0)) → KMap stV inoV W bi (pairsI g) → Calls Tryz.prog 128 #[.pointer (some ⟨b, 0, none⟩), .agg #[.int .i64 x.ino.1, .int .i64 x.ino.2], .int .i64 1] W fun e w' => e = .returned (.tuple #[]) ∧ KMap stV inoV w' bi ((x.ino, { X with links := X.links + 1 }) :: offL (pairsI g) x.ino) ∧ But (fun i => i = bi) W w') := fun W hb hi => count_code b bi be (pairsI g) x.ino 1 X W hb hi (by rw [look_pairsI hg]; exact hX) hwr
    clear hi he hS hb hX hwr htie h0 hok hw hwhy d0
    obtain ⟨dir, nm, ino⟩ := x
    unfold entA
    go_enter Tryz.func87, Tryz.ntmps87
    go_upto_region 1 with fail
    change Code.wp _ _ _ _ (w.alloc (.cells (entA ⟨dir, nm, ino⟩) 70))
    generalize w.alloc (.cells (entA ⟨dir, nm, ino⟩) 70) = w1 at he0 hb0 ⊢
    obtain ⟨e0, e1, e2, e3, e4⟩ := ent_cells he0
    go_wp2_with fail
    refine (HM.out _ hb0).mono ?_
    rintro e w2 ⟨rfl, hb2⟩
    have he2 := (hb2.block _ (heap_lt he0)).trans he0
    have hb3 := below_step hb0 hb2
    clear he0 hb0 hb2 e0 e1 e2 e3 e4 HM
    obtain ⟨e0, e1, e2, e3, e4⟩ := ent_cells he2
    have d1w := (hb3.cell (p := ⟨b, 1, none⟩) hlt).trans d1
    obtain ⟨w3, hrun, hm3, hbut3, hsz3⟩ := (HE.out.kept (hb3.drew.block be HE.out.lt)).store plShape Tryz.underlying63 (dir, nm) ino
    simp only [stV, stA, plV] at hrun
    have HM3 := Lib.hid hm3
    have HU3 := Lib.hid hbut3
    have HB3 := Lib.hid hb3
    have HE2 := Lib.hid he2
    have hilt := HI.out.lt
    have helt := HE.out.lt
    clear hm3 hbut3 hb3 he2
    go_upto_region 4 with fail
    go_region
    clear hrun e0 e1 e2 e3 e4 d1w
    have hb4 : But (fun i => i = be) w w3 := (But.of_below HB3.out.drew).trans HU3.out fun i hi _ => hi
    have z0 : w3.heap[w.heap.size]? = some (.cells (entA ⟨dir, nm, ino⟩) 70 (0, 0)) := HU3.out.heap (a := w2.drew) HE2.out (fun q => by omega)
    have hblk := hb4.heap HBlk.out (fun q => h2 q)
    have hi3 : KMap stV inoV w3 bi (pairsI g) := HI.out.kept (hb4.block bi hilt fun q => h3 q)
    have HB4 := Lib.hid hb4
    obtain ⟨e0, e1, e2, e3, e4⟩ := ent_cells z0
    have hs4 := hb4.size
    clear hb4 z0
    go_wp2_with fail
    refine (HC.out _ hblk hi3).mono ?_
    rintro e w4 ⟨rfl, hm4, hb5⟩
    clear e0 e1 e2 e3 e4
    go_wp2_with fail
    go_ret
    have hb6 : But (fun i => i = bi ∨ i = be) w w4 := (HB4.out.mono (T := fun i => i = bi ∨ i = be) fun i hi => Or.inr hi).trans hb5 fun i hi _ => Or.inl hi
    refine ⟨by rw [HH0.out]; rfl, ⟨b, bi, be, rfl, h1, h2, h3, ?_, ?_, ?_, HS.out⟩, hb6.mono fun i hi => (HS.out i).2 (Or.inr hi)⟩
    · exact hb6.heap HBlk.out (fun q => q.elim h1 h2)
    · refine hm4.perm (put_perm (keys_pairsI hg) (keys_pairsI HG.out) (x := ino) (v := { X with links := X.links + 1 }) fun k => ?_)
      rw [look_pairsI HG.out, look_pairsI hg, tie_get HH0.out]
      by_cases hk : k = ino
      · rw [if_pos hk, hk, HX.out]
        simp
      · rw [if_neg hk]
        cases getG g k <;> simp [hk]
    · refine KMap.perm ?_ (put_perm (keys_pairsE hg) (keys_pairsE HG.out) fun p => ?_) (L := ((dir, nm), ino) :: offL (pairsE g) (dir, nm))
      · exact HM3.out.kept (hb5.block be (by omega) fun q => h3 q.symm)
      · rw [tie_look hg HH0.out]
  · have htie : tieG (nameB x.name) g x = (g, why) := by unfold tieG; rw [← hwhy, if_neg hw]
    rw [htie]
    have hw0 : (why == 0) = false := beq_eq_false_iff_ne.2 hw
    clear htie hwhy hw h
    obtain ⟨dir, nm, ino⟩ := x
    unfold entA
    go_enter Tryz.func87, Tryz.ntmps87
    go_upto_region 1 with fail
    change Code.wp _ _ _ _ (w.alloc (.cells (entA ⟨dir, nm, ino⟩) 70))
    generalize w.alloc (.cells (entA ⟨dir, nm, ino⟩) 70) = w1 at he0 hb0 ⊢
    obtain ⟨e0, e1, e2, e3, e4⟩ := ent_cells he0
    go_wp2_with fail
    refine (HM.out _ hb0).mono ?_
    rintro e w2 ⟨rfl, hb2⟩
    have hb3 := below_step hb0 hb2
    clear he0 hb0 hb2 e0 e1 e2 e3 e4 HM
    go_wp2_with fail
    go_ret
    exact ⟨rfl, hG.out.keep fun i hi => hb3.block i (hG.out.lt i hi), But.of_below hb3⟩

end Go.Proofs.YtbkijfhfjhpebaaGreatDoor

/-
  maps.Clone: another map that holds the same.
-/
namespace Go.Proofs.YtbkijfhfjhpebaaGreatDoor
open Go.RowKit Go.Shelf

theorem KMap.clone {P : Program} {ρ : Ren} (L : SlLaysW.n5 P ρ) {K V : Type} {ek : K → Value} {ev : V → Value} {w : World} {b : Nat} {l : List (K × V)} (h : KMap ek ev w b l) :
    Calls P (ρ.f 5) #[.map (some b)] w fun e w' => e = .returned (.map (some w.heap.size)) ∧ KMap ek ev w' w.heap.size l ∧ Below w.heap.size w w' ∧ w'.heap.size = w.heap.size + 1 := by
  obtain ⟨es, clock, M, h1, h2, h3, h4⟩ := h
  refine (AnyW.maps_Clone L b es clock w h1).mono ?_
  rintro e w' ⟨rfl, rfl⟩
  exact ⟨rfl, ⟨es, clock, M, heap_alloc_new w _, h2, h3, h4⟩, (Below.refl _ _).alloc (Nat.le_refl _) _, by simp⟩

end Go.Proofs.YtbkijfhfjhpebaaGreatDoor

/-
  The landed graph's Copy: two maps cloned.
-/
namespace Go.Proofs.YtbkijfhfjhpebaaGreatDoor
open Go.RowKit StampMath GraphMath

theorem cloneI_code (b : Nat) (L : List (St × Ino)) (w : World) (h : KMap stV inoV w b L) :
    Calls Tryz.prog 56 #[.map (some b)] w fun e w' => e = .returned (.map (some w.heap.size)) ∧ KMap stV inoV w' w.heap.size L ∧ Below w.heap.size w w' ∧ w'.heap.size = w.heap.size + 1 :=
  h.clone Tryz.cloneIno

theorem cloneE_code (b : Nat) (L : List ((St × ByteArray) × St)) (w : World) (h : KMap plV stV w b L) :
    Calls Tryz.prog 57 #[.map (some b)] w fun e w' => e = .returned (.map (some w.heap.size)) ∧ KMap plV stV w' w.heap.size L ∧ Below w.heap.size w w' ∧ w'.heap.size = w.heap.size + 1 :=
  h.clone Tryz.cloneEnt

set_option maxRecDepth 100000 in
set_option maxHeartbeats 1600000 in
theorem copy_code (a : Addr) (S : Nat → Prop) (g : Gr) (w : World) (h : GIn w S a g) :
    Calls Tryz.prog 37 #[.pointer (some a)] w fun e w' => ∃ b T, e = .returned (.pointer (some b)) ∧ GIn w' T b g ∧ (∀ i, T i → w.heap.size ≤ i) ∧ Below w.heap.size w w' := by
  obtain ⟨b, bi, be, rfl, h1, h2, h3, hb, hi, he, hS⟩ := h
  obtain ⟨d0, d1⟩ := two_cells hb
  have hlt := heap_lt hb
  have HI : Hid (∀ W : World, Below w.heap.size w W → Calls Tryz.prog 56 #[.map (some bi)] W fun e w' => e = .returned (.map (some W.heap.size)) ∧ KMap stV inoV w' W.heap.size (pairsI g) ∧ Below W.heap.size W w' ∧ w'.heap.size = W.heap.size + 1) := fun W hW => cloneI_code bi _ W (hi.kept (hW.block bi hi.lt))
  have HE : Hid (∀ W : World, Below w.heap.size w W → Calls Tryz.prog 57 #[.map (some be)] W fun e w' => e = .returned (.map (some W.heap.size)) ∧ KMap plV stV w' W.heap.size (pairsE g) ∧ Below W.heap.size W w' ∧ w'.heap.size = W.heap.size + 1) := fun W hW => cloneE_code be _ W (he.kept (hW.block be he.lt))
  clear hi he hS hb
  go_enter Tryz.func37, Tryz.ntmps37
  go_wp2_with fail
  go_region_with (first
    | (go_at_call 56; (with_reducible refine (HI.out _ (by repeat (first | exact Below.refl _ _ | assumption | apply Below.drew | refine below_step ?_ (by assumption)))).mono ?_); rintro z w1 ⟨rfl, hm1, hb1, hs1⟩; have HM1 := Lib.hid hm1; have HS1 := Lib.hid hs1; clear hm1 hs1; have d0 := cell_later hb1 d0; have d1 := cell_later hb1 d1)
    | (go_at_call 57; (with_reducible refine (HE.out _ (by repeat (first | exact Below.refl _ _ | assumption | apply Below.drew | refine below_step ?_ (by assumption)))).mono ?_); rintro z w2 ⟨rfl, hm2, hb2, hs2⟩; have HM2 := Lib.hid hm2; have HS2 := Lib.hid hs2; clear hm2 hs2; have d0 := cell_later hb2 d0; have d1 := cell_later hb2 d1))
  all_goals
    go_wp2_with fail
    go_ret
    have e1 : w1.heap.size = w.heap.size + 1 := HS1.out
    have e2 : w2.heap.size = w1.heap.size + 1 := HS2.out
    have hb3 : Below w.heap.size w w2 := below_step (below_step (Below.refl w.heap.size w).drew hb1) hb2
    refine ⟨⟨w2.heap.size, 0, none⟩, fun i => i = w2.heap.size ∨ i = w.heap.size ∨ i = w1.heap.size, rfl, ⟨w2.heap.size, w.heap.size, w1.heap.size, rfl, by omega, by omega, by omega, heap_alloc_new _ _, ?_, ?_, fun i => Iff.rfl⟩, fun i hi => by omega, hb3.alloc hb3.size _⟩
    · have hk : KMap stV inoV w1 w.heap.size (pairsI g) := HM1.out
      exact (hk.kept (hb2.block _ (by omega))).kept (heap_alloc_old _ _ (by omega))
    · exact HM2.out.kept (heap_alloc_old _ _ (by omega))

end Go.Proofs.YtbkijfhfjhpebaaGreatDoor

/-
  The landed graph: what is asked of a nil graph; all contracts in one.
-/
namespace Go.Proofs.YtbkijfhfjhpebaaGreatDoor
open Go.RowKit StampMath GraphMath OpMath

set_option maxRecDepth 100000 in
theorem nil_get (id : St) (w : World) : Calls Tryz.prog 12 #[.pointer none, .agg (stA id)] w fun e w' => e = .returned (.tuple #[.agg (inoA noIno), .bool false]) ∧ Below w.heap.size w w' := by
  unfold stA
  go_enter Tryz.func12, Tryz.ntmps12
  go_wp2_with fail
  exact bodyPost_ret (v := .tuple #[.agg (inoA noIno), .bool false]) (by simp [results, Tryz.results12, go_sem, inoA, noIno]) rfl ⟨rfl, by
    repeat (first | exact Below.refl _ _ | apply Below.drew | refine Below.alloc ?_ (by simp <;> omega) _)⟩

set_option maxRecDepth 100000 in
theorem nil_look (d : St) (nm : ByteArray) (w : World) : Calls Tryz.prog 15 #[.pointer none, .agg (stA d), .string nm] w fun e w' => e = .returned (.tuple #[.agg (stA (0, 0)), .bool false]) ∧ Below w.heap.size w w' := by
  unfold stA
  go_enter Tryz.func15, Tryz.ntmps15
  go_wp2_with fail
  exact bodyPost_ret (v := .tuple #[.agg (stA (0, 0)), .bool false]) (by simp [results, Tryz.results15, go_sem, stA]) rfl ⟨rfl, by
    repeat (first | exact Below.refl _ _ | apply Below.drew | refine Below.alloc ?_ (by simp <;> omega) _)⟩

theorem nil_inodes (w : World) : Calls Tryz.prog 11 #[.pointer none] w (InosNew [] w) := by
  go_enter Tryz.func11, Tryz.ntmps11
  go_wp2_with fail
  go_ret
  exact ⟨_, rfl, World.ownsRow_nil _ _ _ _, Below.refl _ _⟩

theorem nil_sorted (w : World) : Calls Tryz.prog 70 #[.pointer none, .func (.func 71) #[] #[]] w (EntsNew [] w) := by
  go_enter Tryz.func70, Tryz.ntmps70
  go_wp2_with fail
  go_ret
  exact ⟨_, rfl, World.ownsRow_nil _ _ _ _, Below.refl _ _⟩

theorem nil_entries (w : World) : Calls Tryz.prog 46 #[.pointer none] w (EntsNew [] w) := by
  have HS := Lib.hid (nil_sorted w)
  go_enter Tryz.func46, Tryz.ntmps46
  go_wp2_with fail
  refine (HS.out).mono ?_
  rintro e w1 ⟨v, rfl, hown, hb⟩
  go_wp2_with fail
  go_ret
  exact ⟨v, rfl, hown, hb⟩

theorem nil_copy (w : World) : Calls Tryz.prog 37 #[.pointer none] w fun e w' => e = .returned (.pointer none) ∧ Below w.heap.size w w' := by
  go_enter Tryz.func37, Tryz.ntmps37
  go_wp2_with fail
  go_ret
  exact ⟨rfl, Below.refl _ _⟩

theorem nil_make (w : World) : Calls Tryz.prog 124 #[.pointer none, .agg (stA (1, 0)), .int .i64 1] w fun e w' => e = .returned (.int .i64 3) ∧ Below w.heap.size w w' := by
  have HM : Hid (∀ W : World, Calls Tryz.prog 111 #[.agg #[.int .i64 1, .int .i64 0]] W fun e w' => e = .returned (.bool true) ∧ Below W.heap.size W w') := fun W => may_any 1 0 W
  have HR : Hid (∀ W : World, Calls Tryz.prog 36 #[] W fun e w' => e = .returned (.agg #[.int .i64 0, .int .i64 0]) ∧ Below W.heap.size W w') := root_any
  have HG : Hid (∀ W : World, Calls Tryz.prog 12 #[.pointer none, .agg #[.int .i64 0, .int .i64 0]] W fun e w' => e = .returned (.tuple #[.agg #[.int .i64 0, .int .i64 0, .int .i64 0, .int .i64 0, .int .i64 0, .string ⟨#[]⟩], .bool false]) ∧ Below W.heap.size W w') := fun W => nil_get (0, 0) W
  unfold stA
  go_enter Tryz.func124, Tryz.ntmps124
  go_wp2_with fail
  refine (HM.out _).mono ?_
  rintro e w1 ⟨rfl, hb1⟩
  have hb := below_step ((Below.refl w.heap.size w).alloc (Nat.le_refl _) _) hb1
  clear hb1
  go_wp2_with fail
  refine (HR.out _).mono ?_
  rintro e w2 ⟨rfl, hb2⟩
  have hb3 := below_step hb hb2
  clear hb hb2
  go_wp2_with fail
  refine (HG.out _).mono ?_
  rintro e w3 ⟨rfl, hb4⟩
  have hb5 := below_step hb3 hb4
  go_wp2_with fail
  go_ret
  exact ⟨rfl, hb5.alloc hb5.size _⟩

theorem nil_drop (id : St) (w : World) : Calls Tryz.prog 130 #[.pointer none, .agg (stA id)] w fun e w' => e = .returned (.int .i64 3) ∧ Below w.heap.size w w' := by
  have HG : Hid (∀ W : World, Calls Tryz.prog 12 #[.pointer none, .agg #[.int .i64 id.1, .int .i64 id.2]] W fun e w' => e = .returned (.tuple #[.agg #[.int .i64 0, .int .i64 0, .int .i64 0, .int .i64 0, .int .i64 0, .string ⟨#[]⟩], .bool false]) ∧ Below W.heap.size W w') := fun W => nil_get id W
  unfold stA
  go_enter Tryz.func130, Tryz.ntmps130
  go_wp2_with fail
  refine (HG.out _).mono ?_
  rintro e w1 ⟨rfl, hb1⟩
  have hb := below_step ((Below.refl w.heap.size w).alloc (Nat.le_refl _) _) hb1
  go_wp2_with fail
  go_ret
  exact ⟨rfl, hb.alloc hb.size _⟩

theorem nil_set (id : St) (w : World) : Calls Tryz.prog 126 #[.pointer none, .agg (stA id), .int .i64 1, .string ⟨#[]⟩] w fun e w' => e = .returned (.int .i64 3) ∧ Below w.heap.size w w' := by
  have HG : Hid (∀ W : World, Calls Tryz.prog 12 #[.pointer none, .agg #[.int .i64 id.1, .int .i64 id.2]] W fun e w' => e = .returned (.tuple #[.agg #[.int .i64 0, .int .i64 0, .int .i64 0, .int .i64 0, .int .i64 0, .string ⟨#[]⟩], .bool false]) ∧ Below W.heap.size W w') := fun W => nil_get id W
  unfold stA
  go_enter Tryz.func126, Tryz.ntmps126
  go_wp2_with fail
  refine (HG.out _).mono ?_
  rintro e w1 ⟨rfl, hb1⟩
  have hb := below_step ((Below.refl w.heap.size w).alloc (Nat.le_refl _) _) hb1
  go_wp2_with fail
  go_ret
  exact ⟨rfl, hb.alloc hb.size _⟩

theorem nil_mayTie (w : World) : Calls Tryz.prog 127 #[.pointer none, .agg (entA ⟨(0, 0), ⟨#[97]⟩, (0, 0)⟩)] w fun e w' => e = .returned (.int .i64 3) ∧ Below w.heap.size w w' := by
  have HN : Hid (∀ W : World, Calls Tryz.prog 112 #[.string ⟨#[97]⟩] W fun e w' => e = .returned (.bool true) ∧ W = w') := fun W => by
    have := name_any ⟨#[97]⟩ (by decide) W
    rwa [show nameB ⟨#[97]⟩ = true by decide +kernel] at this
  have HG : Hid (∀ W : World, Calls Tryz.prog 12 #[.pointer none, .agg #[.int .i64 0, .int .i64 0]] W fun e w' => e = .returned (.tuple #[.agg #[.int .i64 0, .int .i64 0, .int .i64 0, .int .i64 0, .int .i64 0, .string ⟨#[]⟩], .bool false]) ∧ Below W.heap.size W w') := fun W => nil_get (0, 0) W
  obtain ⟨nm, hnm⟩ : ∃ nm : ByteArray, nm = ⟨#[97]⟩ := ⟨_, rfl⟩
  rw [← hnm] at HN ⊢
  clear hnm
  have he0 := heap_alloc_new w (.cells (entA ⟨(0, 0), nm, (0, 0)⟩) 70)
  have hb0 : Below w.heap.size w (w.alloc (.cells (entA ⟨(0, 0), nm, (0, 0)⟩) 70)) := (Below.refl _ _).alloc (Nat.le_refl _) _
  unfold entA at he0 hb0 ⊢
  go_enter Tryz.func127, Tryz.ntmps127
  go_wp2_with fail
  refine (HN.out _).mono ?_
  rintro e w1 ⟨rfl, rfl⟩
  go_wp2_with fail
  refine (HG.out _).mono ?_
  rintro e w1 ⟨rfl, hb1⟩
  have q0 := (hb1.block _ (heap_lt he0)).trans he0
  have hb2 := below_step hb0 hb1
  have hl := heap_lt q0
  go_upto_region 4 with fail
  have r0 := (heap_alloc_old w1 (.cells #[.int .i64 0, .int .i64 0, .int .i64 0, .int .i64 0, .int .i64 0, .string ⟨#[]⟩] 32) hl).trans q0
  have hb3 := hb2.alloc hb2.size (.cells #[.int .i64 0, .int .i64 0, .int .i64 0, .int .i64 0, .int .i64 0, .string ⟨#[]⟩] 32)
  generalize w1.alloc (.cells #[.int .i64 0, .int .i64 0, .int .i64 0, .int .i64 0, .int .i64 0, .string ⟨#[]⟩] 32) = w2 at r0 hb3 ⊢
  obtain ⟨e0, e1, e2, e3, e4⟩ := ent_cells (x := ⟨(0, 0), nm, (0, 0)⟩) r0
  go_wp2_with fail
  refine (HG.out _).mono ?_
  rintro e w3 ⟨rfl, hb4⟩
  have hb5 := below_step hb3 hb4
  go_wp2_with fail
  go_ret
  exact ⟨rfl, hb5.alloc hb5.size _⟩

theorem nil_tie (w : World) : Calls Tryz.prog 87 #[.pointer none, .agg (entA ⟨(0, 0), ⟨#[97]⟩, (0, 0)⟩)] w fun e w' => e = .returned (.int .i64 3) ∧ Below w.heap.size w w' := by
  have HM0 : ∀ W : World, Calls Tryz.prog 127 #[.pointer none, .agg (entA ⟨(0, 0), ⟨#[97]⟩, (0, 0)⟩)] W fun e w' => e = .returned (.int .i64 3) ∧ Below W.heap.size W w' := nil_mayTie
  obtain ⟨nm, hnm⟩ : ∃ nm : ByteArray, nm = ⟨#[97]⟩ := ⟨_, rfl⟩
  rw [← hnm] at HM0 ⊢
  clear hnm
  have he0 := heap_alloc_new w (.cells (entA ⟨(0, 0), nm, (0, 0)⟩) 70)
  have hb0 : Below w.heap.size w (w.alloc (.cells (entA ⟨(0, 0), nm, (0, 0)⟩) 70)) := (Below.refl _ _).alloc (Nat.le_refl _) _
  obtain ⟨e0, e1, e2, e3, e4⟩ := ent_cells he0
  have HM := Lib.hid HM0
  clear HM0
  unfold entA at e0 e1 e2 e3 e4 hb0 HM ⊢
  go_enter Tryz.func87, Tryz.ntmps87
  go_wp2_with fail
  refine (HM.out _).mono ?_
  rintro e w1 ⟨rfl, hb1⟩
  have hb2 := below_step hb0 hb1
  go_wp2_with fail
  go_ret
  exact ⟨rfl, hb2⟩

noncomputable def graphHave : GraphHave where
  rep := GIn
  lt := GIn.lt
  keep := GIn.keep
  new := new_code
  get := get_code
  look := fun a S g d nm w h _ _ => look_code a S g d nm w h
  list := list_code
  inodes := inodes_code
  entries := entries_code
  parent := parent_code
  under := under_code
  make := fun a S g id kind w h hg => (make_code a S g id kind w h hg).mono fun _ _ q => ⟨S, q.1, q.2.1, fun _ hi => Or.inl hi, q.2.2⟩
  tie := fun a S g x w h hg hn => (tie_code a S g x w h hg hn).mono fun _ _ q => ⟨S, q.1, q.2.1, fun _ hi => Or.inl hi, q.2.2⟩
  untie := fun a S g d nm w h hg _ => (untie_code a S g d nm w h hg).mono fun _ _ q => ⟨S, q.1, q.2.1, fun _ hi => Or.inl hi, q.2.2⟩
  drop := fun a S g id w h hg => (drop_code a S g id w h hg).mono fun _ _ q => ⟨S, q.1, q.2.1, fun _ hi => Or.inl hi, q.2.2⟩
  set := fun a S g id mode data w h hg => (set_code a S g id mode data w h hg).mono fun _ _ q => ⟨S, q.1, q.2.1, fun _ hi => Or.inl hi, q.2.2⟩
  copy := fun a S g w h _ => copy_code a S g w h
  nilGet := nil_get
  nilLook := nil_look
  nilInodes := nil_inodes
  nilEntries := nil_entries
  nilMake := nil_make
  nilTie := nil_tie
  nilDrop := nil_drop
  nilSet := nil_set
  nilCopy := nil_copy

end Go.Proofs.YtbkijfhfjhpebaaGreatDoor

/-
  What the walks of the library's stable sort, at operations, ask of the program that they are in: its functions and its types. The size of an element is a number k, so that an element stays whole.
-/
namespace Go.Proofs.YtbkijfhfjhpebaaGreatDoor
open Go.RowKit Go.Shelf Go.Sort Go.Lib

structure SortIn (P : Program) (k : Nat) : Prop where
  mixed : P.follows .mixedOrders = true
  fSwap : P.funcs[165]? = some Tryz.f165
  fRot : P.funcs[146]? = some Tryz.f146
  fMerge : P.funcs[116]? = some Tryz.f116
  fStable : P.funcs[84]? = some Tryz.f84
  agg : ∀ w, (isAgg 56).run P w = .ok true w
  siz : ∀ w, (Go.sizeOf 56).run P w = .ok k w
  t0 : P.underlying 0 = some (TypeDesc.tuple #[])
  a0 : ∀ w, (isAgg 0).run P w = .ok false w
  z0 : ∀ w, (Go.sizeOf 0).run P w = .ok 1 w
  v0 : ∀ w, (zeroValue 0).run P w = .ok (Value.tuple #[]) w
  t3 : P.underlying 3 = some (TypeDesc.int IntKind.i64)
  a3 : ∀ w, (isAgg 3).run P w = .ok false w
  z3 : ∀ w, (Go.sizeOf 3).run P w = .ok 1 w
  v3 : ∀ w, (zeroValue 3).run P w = .ok (Value.int IntKind.i64 0) w
  t4 : P.underlying 4 = some (TypeDesc.bool)
  a4 : ∀ w, (isAgg 4).run P w = .ok false w
  z4 : ∀ w, (Go.sizeOf 4).run P w = .ok 1 w
  v4 : ∀ w, (zeroValue 4).run P w = .ok (Value.bool false) w
  t22 : P.underlying 22 = some (TypeDesc.slice 56)
  a22 : ∀ w, (isAgg 22).run P w = .ok false w
  z22 : ∀ w, (Go.sizeOf 22).run P w = .ok 1 w
  v22 : ∀ w, (zeroValue 22).run P w = .ok (Value.slice none 0 0) w
  t124 : P.underlying 114 = some (TypeDesc.int IntKind.u64)
  a124 : ∀ w, (isAgg 114).run P w = .ok false w
  z124 : ∀ w, (Go.sizeOf 114).run P w = .ok 1 w
  v124 : ∀ w, (zeroValue 114).run P w = .ok (Value.int IntKind.u64 0) w
  t68 : P.underlying 106 = some (TypeDesc.func #[56, 56] #[3] false)
  a68 : ∀ w, (isAgg 106).run P w = .ok false w
  z68 : ∀ w, (Go.sizeOf 106).run P w = .ok 1 w
  v68 : ∀ w, (zeroValue 106).run P w = .ok (Value.nilFunc) w

theorem sort_in : SortIn Tryz.prog 13 where
  mixed := by kernel_rfl
  fSwap := Tryz.func165
  fRot := Tryz.func146
  fMerge := Tryz.func116
  fStable := Tryz.func84
  agg := Tryz.isAgg56
  siz := Tryz.sizeOf56
  t0 := Tryz.underlying0
  a0 := Tryz.isAgg0
  z0 := Tryz.sizeOf0
  v0 := Tryz.zeroValue0
  t3 := Tryz.underlying3
  a3 := Tryz.isAgg3
  z3 := Tryz.sizeOf3
  v3 := Tryz.zeroValue3
  t4 := Tryz.underlying4
  a4 := Tryz.isAgg4
  z4 := Tryz.sizeOf4
  v4 := Tryz.zeroValue4
  t22 := Tryz.underlying22
  a22 := Tryz.isAgg22
  z22 := Tryz.sizeOf22
  v22 := Tryz.zeroValue22
  t124 := Tryz.underlying114
  a124 := Tryz.isAgg114
  z124 := Tryz.sizeOf114
  v124 := Tryz.zeroValue114
  t68 := Tryz.underlying106
  a68 := Tryz.isAgg106
  z68 := Tryz.sizeOf106
  v68 := Tryz.zeroValue106

end Go.Proofs.YtbkijfhfjhpebaaGreatDoor

/-
  Plain mathematics of a sort that is stable: two lists in which each key has the same things in the same order; two sorted pieces merged; the first one of each key. It needs no program.
-/
namespace Go.Proofs.YtbkijfhfjhpebaaGreatDoor.StableM
open Go.Sort

section
variable {α κ : Type} [DecidableEq κ] (key : α → κ)

/-- Each key's things, in their order. -/
def ofK (s : κ) (x : List α) : List α := x.filter fun a => decide (key a = s)

def SameK (x y : List α) : Prop := ∀ s, ofK key s x = ofK key s y

variable {key}

theorem SameK.refl (x : List α) : SameK key x x := fun _ => rfl
theorem SameK.symm {x y : List α} (h : SameK key x y) : SameK key y x := fun s => (h s).symm
theorem SameK.trans {x y z : List α} (h : SameK key x y) (k : SameK key y z) : SameK key x z := fun s => (h s).trans (k s)

theorem ofK_append (s : κ) (x y : List α) : ofK key s (x ++ y) = ofK key s x ++ ofK key s y := List.filter_append ..

theorem SameK.append {x x' y y' : List α} (h : SameK key x x') (k : SameK key y y') : SameK key (x ++ y) (x' ++ y') := fun s => by
  rw [ofK_append, ofK_append, h s, k s]

theorem ofK_none {s : κ} {x : List α} (h : ∀ a ∈ x, key a ≠ s) : ofK key s x = [] := by
  unfold ofK
  rw [List.filter_eq_nil_iff]
  intro a ha q
  exact h a ha (of_decide_eq_true q)

theorem SameK.comm {x y : List α} (h : ∀ a ∈ x, ∀ b ∈ y, key a ≠ key b) : SameK key (x ++ y) (y ++ x) := fun s => by
  rw [ofK_append, ofK_append]
  by_cases q : ∃ a ∈ x, key a = s
  · obtain ⟨a, ha, rfl⟩ := q
    rw [ofK_none (x := y) fun b hb e => h a ha b hb e.symm, List.append_nil, List.nil_append]
  · rw [ofK_none (x := x) fun a ha e => q ⟨a, ha, e⟩, List.append_nil, List.nil_append]

theorem mem_ofK {s : κ} {x : List α} {a : α} : a ∈ ofK key s x ↔ a ∈ x ∧ key a = s := by
  unfold ofK
  rw [List.mem_filter, decide_eq_true_iff]

theorem SameK.mem {x y : List α} (h : SameK key x y) (a : α) : a ∈ x ↔ a ∈ y := by
  have e := h (key a)
  constructor
  · intro q
    have : a ∈ ofK key (key a) y := by rw [← e]; exact mem_ofK.2 ⟨q, rfl⟩
    exact (mem_ofK.1 this).1
  · intro q
    have : a ∈ ofK key (key a) x := by rw [e]; exact mem_ofK.2 ⟨q, rfl⟩
    exact (mem_ofK.1 this).1

/-- What stands around both is taken off. -/
theorem SameK.inner {p x y z : List α} (h : SameK key (p ++ x ++ z) (p ++ y ++ z)) : SameK key x y := fun s => by
  have := h s
  rw [ofK_append, ofK_append, ofK_append, ofK_append] at this
  exact List.append_cancel_left (List.append_cancel_right this)

/-! ### sorted -/

variable (lt : κ → κ → Bool)

structure Lin : Prop where
  irrefl : ∀ a, lt a a = false
  trans : ∀ {a b c}, lt a b = true → lt b c = true → lt a c = true
  total : ∀ {a b}, lt a b = false → a ≠ b → lt b a = true

variable {lt}

omit [DecidableEq κ] in
theorem Lin.asymm (L : Lin lt) {a b : κ} (h : lt a b = true) : lt b a = false := by
  cases q : lt b a with
  | false => rfl
  | true => have := L.trans h q; rw [L.irrefl] at this; cases this

omit [DecidableEq κ] in
theorem Lin.ne (L : Lin lt) {a b : κ} (h : lt a b = true) : a ≠ b := fun e => by rw [e, L.irrefl] at h; cases h

theorem Lin.ntrans (L : Lin lt) {a b c : κ} (h : lt b a = false) (k : lt c b = false) : lt c a = false := by
  cases q : lt c a with
  | false => rfl
  | true =>
    by_cases e : b = a
    · subst e; rw [q] at k; cases k
    · have h1 := L.total h e
      have := L.trans q h1
      rw [this] at k; cases k

/-- a <= b < c. -/
theorem Lin.le_lt (L : Lin lt) {a b c : κ} (h : lt b a = false) (k : lt b c = true) : lt a c = true := by
  by_cases e : b = a
  · subst e; exact k
  · exact L.trans (L.total h e) k

theorem Lin.lt_le (L : Lin lt) {a b c : κ} (h : lt a b = true) (k : lt c b = false) : lt a c = true := by
  by_cases e : c = b
  · subst e; exact h
  · exact L.trans h (L.total k e)

theorem Lin.swo (L : Lin lt) (key : α → κ) : SWO fun x y : α => lt (key x) (key y) where
  irrefl _ := L.irrefl _
  trans _ _ _ h k := L.trans h k
  ntrans _ _ _ h k := L.ntrans k h

variable (key lt)

/-- No later one is below an earlier one. -/
def Up (x : List α) : Prop := x.Pairwise fun a b => lt (key b) (key a) = false

variable {key lt}

omit [DecidableEq κ] in
theorem Up.append {x y : List α} : Up key lt (x ++ y) ↔ Up key lt x ∧ Up key lt y ∧ ∀ a ∈ x, ∀ b ∈ y, lt (key b) (key a) = false := List.pairwise_append

omit [DecidableEq κ] in
theorem Up.head {x : List α} (h : Up key lt x) {a : α} (ha : a ∈ x) (L : Lin lt) (h0 : 0 < x.length) : lt (key a) (key x[0]) = false := by
  obtain ⟨i, hi, rfl⟩ := List.getElem_of_mem ha
  by_cases q : i = 0
  · subst q; exact L.irrefl _
  · exact List.pairwise_iff_getElem.1 h 0 i h0 hi (by omega)

omit [DecidableEq κ] in
theorem Up.last {x : List α} (h : Up key lt x) {a : α} (ha : a ∈ x) (L : Lin lt) (h0 : x.length - 1 < x.length) : lt (key x[x.length - 1]) (key a) = false := by
  obtain ⟨i, hi, rfl⟩ := List.getElem_of_mem ha
  by_cases q : i = x.length - 1
  · subst q; exact L.irrefl _
  · exact List.pairwise_iff_getElem.1 h i (x.length - 1) hi h0 (by omega)

/-- Two merges, side by side, of what was parted so that the middle pieces are strictly apart. -/
theorem merge_two (L : Lin lt) {l1 l2 r1 r2 m1 m2 : List α} (hl : Up key lt (l1 ++ l2)) (hr : Up key lt (r1 ++ r2)) (h1 : ∀ a ∈ r1, ∀ b ∈ l2, lt (key a) (key b) = true) (h2 : ∀ a ∈ l1, ∀ b ∈ r2, lt (key b) (key a) = false)
    (s1 : SameK key m1 (l1 ++ r1)) (s2 : SameK key m2 (l2 ++ r2)) (u1 : Up key lt m1) (u2 : Up key lt m2) : SameK key (m1 ++ m2) (l1 ++ l2 ++ (r1 ++ r2)) ∧ Up key lt (m1 ++ m2) := by
  constructor
  · have e1 : SameK key (r1 ++ l2) (l2 ++ r1) := SameK.comm fun a ha b hb => L.ne (h1 a ha b hb)
    have e2 : SameK key (l1 ++ (r1 ++ l2) ++ r2) (l1 ++ (l2 ++ r1) ++ r2) := ((SameK.refl _).append e1).append (SameK.refl _)
    refine (s1.append s2).trans ?_
    simpa only [List.append_assoc] using e2
  · refine Up.append.2 ⟨u1, u2, fun a ha b hb => ?_⟩
    obtain ⟨l1u, l2u, lx⟩ := Up.append.1 hl
    obtain ⟨r1u, r2u, rx⟩ := Up.append.1 hr
    rcases List.mem_append.1 ((s1.mem a).1 ha) with p | p <;> rcases List.mem_append.1 ((s2.mem b).1 hb) with q | q
    · exact lx a p b q
    · exact h2 a p b q
    · exact L.asymm (h1 a p b q)
    · exact rx a p b q

/-- One put behind those that are below it. -/
theorem merge_left (L : Lin lt) {x : α} {r1 r2 : List α} (hr : Up key lt (r1 ++ r2)) (h1 : ∀ a ∈ r1, lt (key a) (key x) = true) (h2 : ∀ b ∈ r2, lt (key b) (key x) = false) :
    SameK key (r1 ++ x :: r2) (x :: (r1 ++ r2)) ∧ Up key lt (r1 ++ x :: r2) := by
  obtain ⟨u1, u2, ux⟩ := Up.append.1 hr
  constructor
  · have e : SameK key (r1 ++ [x]) ([x] ++ r1) := SameK.comm fun a ha b hb => by rw [List.mem_singleton.1 hb]; exact L.ne (h1 a ha)
    have := e.append (SameK.refl r2)
    simpa only [List.append_assoc, List.singleton_append, List.cons_append, List.nil_append] using this
  · refine Up.append.2 ⟨u1, List.pairwise_cons.2 ⟨h2, u2⟩, fun a ha b hb => ?_⟩
    rcases List.mem_cons.1 hb with rfl | q
    · exact L.asymm (h1 a ha)
    · exact ux a ha b q

theorem merge_right (L : Lin lt) {y : α} {l1 l2 : List α} (hl : Up key lt (l1 ++ l2)) (h1 : ∀ a ∈ l1, lt (key y) (key a) = false) (h2 : ∀ b ∈ l2, lt (key y) (key b) = true) :
    SameK key (l1 ++ y :: l2) (l1 ++ l2 ++ [y]) ∧ Up key lt (l1 ++ y :: l2) := by
  obtain ⟨u1, u2, ux⟩ := Up.append.1 hl
  constructor
  · have e : SameK key ([y] ++ l2) (l2 ++ [y]) := SameK.comm fun a ha b hb => by rw [List.mem_singleton.1 ha]; exact L.ne (h2 b hb)
    have := (SameK.refl l1).append e
    simpa only [List.append_assoc, List.singleton_append] using this
  · refine Up.append.2 ⟨u1, List.pairwise_cons.2 ⟨fun b hb => L.asymm (h2 b hb), u2⟩, fun a ha b hb => ?_⟩
    rcases List.mem_cons.1 hb with rfl | q
    · exact h1 a ha
    · exact ux a ha b q

/-! ### the first one of each key -/

variable (key)

/-- Those whose key isn't that of the one right ahead. -/
def adjK : Option κ → List α → List α
  | _, [] => []
  | p, a :: l => if p = some (key a) then adjK (some (key a)) l else a :: adjK (some (key a)) l

variable {key}

theorem adj_mem (L : Lin lt) : ∀ (y : List α) (p : Option κ), (∀ q, p = some q → ∀ b ∈ y, lt (key b) q = false) → Up key lt y → ∀ a, a ∈ adjK key p y ↔ (p ≠ some (key a) ∧ (ofK key (key a) y).head? = some a)
  | [], _, _, _, a => by simp [adjK, ofK]
  | b :: l, p, hp, hu, a => by
    obtain ⟨h1, h2⟩ := List.pairwise_cons.1 hu
    have hq : ∀ q, some (key b) = some q → ∀ c ∈ l, lt (key c) q = false := fun q e c hc => by cases e; exact h1 c hc
    have IH := adj_mem L l (some (key b)) hq h2 a
    have hf : ofK key (key a) (b :: l) = if key b = key a then b :: ofK key (key a) l else ofK key (key a) l := by
      unfold ofK
      rw [List.filter_cons]
      by_cases e : key b = key a <;> simp [e]
    unfold adjK
    rw [hf]
    by_cases e : p = some (key b)
    · rw [if_pos e, IH, e]
      by_cases q : key b = key a
      · rw [q]; simp
      · rw [if_neg q]
    · rw [if_neg e, List.mem_cons, IH]
      by_cases q : key b = key a
      · rw [if_pos q, List.head?_cons]
        constructor
        · rintro (r | ⟨r, _⟩)
          · subst r; exact ⟨e, rfl⟩
          · rw [q] at r; exact absurd rfl r
        · rintro ⟨_, r⟩
          exact Or.inl (Option.some.inj r).symm
      · rw [if_neg q]
        have hba : a ≠ b := fun r => q (by rw [r])
        constructor
        · rintro (r | ⟨_, r⟩)
          · exact absurd r hba
          · refine ⟨fun e2 => ?_, r⟩
            have hm : a ∈ l := (mem_ofK.1 (List.mem_of_mem_head? r)).1
            have k1 := hp _ e2 b (List.mem_cons_self ..)
            have k2 := h1 a hm
            exact q (by
              cases k3 : lt (key b) (key a) with
              | true => rw [k3] at k1; cases k1
              | false => exact Classical.byContradiction fun k4 => by rw [L.total k3 k4] at k2; cases k2)
        · rintro ⟨_, r⟩
          exact Or.inr ⟨fun e2 => q (Option.some.inj e2), r⟩

theorem adj_sub : ∀ (y : List α) (p : Option κ), ∀ a ∈ adjK key p y, a ∈ y
  | [], _, _, h => nomatch h
  | b :: l, p, a, h => by
    unfold adjK at h
    split at h
    · exact List.mem_cons_of_mem _ (adj_sub l _ a h)
    · rcases List.mem_cons.1 h with rfl | h
      · exact List.mem_cons_self ..
      · exact List.mem_cons_of_mem _ (adj_sub l _ a h)

theorem adj_rises (L : Lin lt) : ∀ (y : List α) (p : Option κ), (∀ q, p = some q → ∀ b ∈ y, lt (key b) q = false) → Up key lt y → (adjK key p y).Pairwise fun a b => lt (key a) (key b) = true
  | [], _, _, _ => List.Pairwise.nil
  | b :: l, p, hp, hu => by
    obtain ⟨h1, h2⟩ := List.pairwise_cons.1 hu
    have hq : ∀ q, some (key b) = some q → ∀ c ∈ l, lt (key c) q = false := fun q e c hc => by cases e; exact h1 c hc
    have IH := adj_rises L l (some (key b)) hq h2
    unfold adjK
    split
    · exact IH
    · refine List.pairwise_cons.2 ⟨fun c hc => ?_, IH⟩
      have hm := adj_sub l _ c hc
      have := ((adj_mem L l (some (key b)) hq h2 c).1 hc).1
      exact L.total (h1 c hm) fun e => this (by rw [e])

/-- One more. -/
theorem adj_snoc : ∀ (l : List α) (p : Option κ) (a : α), adjK key p (l ++ [a]) = adjK key p l ++ (if (match l.getLast? with | none => p | some b => some (key b)) = some (key a) then [] else [a])
  | [], p, a => by
    show (if p = some (key a) then adjK key (some (key a)) [] else a :: adjK key (some (key a)) []) = [] ++ _
    rfl
  | b :: l, p, a => by
    rw [List.cons_append]
    unfold adjK
    rw [adj_snoc l (some (key b)) a]
    have e : (match (b :: l).getLast? with | none => p | some b => some (key b)) = (match l.getLast? with | none => some (key b) | some b => some (key b)) := by
      rw [List.getLast?_cons]
      cases l.getLast? <;> rfl
    rw [e]
    split <;> rfl

theorem adj_len : ∀ (l : List α) (p : Option κ), (adjK key p l).length ≤ l.length
  | [], _ => Nat.le_refl _
  | b :: l, p => by
    unfold adjK
    have := adj_len l (some (key b))
    split <;> simp only [List.length_cons] <;> omega

/-! ### exchanges, in lists -/

variable [Inhabited α]

omit [DecidableEq κ] in
theorem get_list (d : Array α) {x : List α} (h : d.toList = x) (i : Nat) (hi : i < x.length) : d[i]! = x[i] := by
  subst h
  rw [getElem!_pos d i (by simpa using hi), Array.getElem_toList]

theorem swp_list (d : Array α) {p q r : List α} {x y : α} (h : d.toList = p ++ x :: (q ++ y :: r)) (i j : Nat) (hi : i = p.length) (hj : j = p.length + 1 + q.length) :
    (swp d i j).toList = p ++ y :: (q ++ x :: r) ∧ (swp d j i).toList = p ++ y :: (q ++ x :: r) := by
  subst hi; subst hj
  have ei : d[p.length]! = x := by rw [get_list d h _ (by simp)]; simp
  have ej : d[p.length + 1 + q.length]! = y := by
    rw [get_list d h _ (by simp; omega)]
    rw [List.getElem_append_right (by omega)]
    simp only [show p.length + 1 + q.length - p.length = q.length + 1 by omega, List.getElem_cons_succ]
    simp
  have s1 : ∀ (z : α) (t : List α), (p ++ z :: t).set p.length = fun v => p ++ v :: t := fun z t => by
    funext v
    rw [List.set_append_right _ _ (Nat.le_refl _), Nat.sub_self, List.set_cons_zero]
  have s2 : ∀ (u z v : α) (t : List α), (p ++ u :: (q ++ z :: t)).set (p.length + 1 + q.length) v = p ++ u :: (q ++ v :: t) := fun u z v t => by
    rw [List.set_append_right _ _ (by omega), show p.length + 1 + q.length - p.length = q.length + 1 by omega, List.set_cons_succ, List.set_append_right _ _ (Nat.le_refl _), Nat.sub_self, List.set_cons_zero]
  unfold swp
  rw [ei, ej]
  constructor
  · rw [Array.toList_setIfInBounds, Array.toList_setIfInBounds, h, s1, s2]
  · rw [Array.toList_setIfInBounds, Array.toList_setIfInBounds, h, s2, s1]

/-! ### the insertion sort is stable -/

variable {f : α → α → Bool}

omit [Inhabited α] in
theorem split_two {x : List α} {j : Nat} (h : j + 1 < x.length) : x = x.take j ++ x[j] :: x[j + 1] :: x.drop (j + 2) := by
  have e1 : x.drop j = x[j] :: x.drop (j + 1) := List.drop_eq_getElem_cons (by omega)
  have e2 : x.drop (j + 1) = x[j + 1] :: x.drop (j + 1 + 1) := List.drop_eq_getElem_cons h
  rw [← e2, ← e1, List.take_append_drop]

theorem swp_same (hf : ∀ x y, f x y = true → key x ≠ key y) (d : Array α) (j : Nat) (h : j + 1 < d.size) (hl : f d[j + 1]! d[j]! = true) : SameK key (swp d (j + 1) j).toList d.toList := by
  have hj : j + 1 < d.toList.length := by simpa using h
  have e := split_two hj
  have e1 : d[j]! = d.toList[j] := get_list d rfl j (by omega)
  have e2 : d[j + 1]! = d.toList[j + 1] := get_list d rfl (j + 1) hj
  rw [e1, e2] at hl
  have hsw := (swp_list d (p := d.toList.take j) (q := []) (r := d.toList.drop (j + 2)) e j (j + 1) (by rw [List.length_take]; omega) (by rw [List.length_take]; simp; omega)).2
  rw [hsw]
  conv => rhs; rw [e]
  have k : SameK key ([d.toList[j + 1]] ++ [d.toList[j]]) ([d.toList[j]] ++ [d.toList[j + 1]]) := SameK.comm fun a ha b hb => by
    rw [List.mem_singleton.1 ha, List.mem_singleton.1 hb]
    exact hf _ _ hl
  have := ((SameK.refl (d.toList.take j)).append k).append (SameK.refl (d.toList.drop (j + 2)))
  simpa only [List.append_assoc, List.singleton_append, List.nil_append, List.cons_append] using this

theorem inner_same (hf : ∀ x y, f x y = true → key x ≠ key y) (a : Nat) : ∀ (j : Nat) (d : Array α), j < d.size → SameK key (insInner f a j d).toList d.toList
  | 0, d, _ => SameK.refl _
  | j + 1, d, h => by
    unfold insInner
    by_cases q : (decide (j + 1 > a) && f d[j + 1]! d[j]!) = true
    · rw [if_pos q]
      rw [Bool.and_eq_true] at q
      exact (inner_same hf a j _ (by rw [swp_size]; omega)).trans (swp_same hf d j h q.2)
    · rw [if_neg q]; exact SameK.refl _

theorem inner_size (a : Nat) : ∀ (j : Nat) (d : Array α), (insInner f a j d).size = d.size
  | 0, d => rfl
  | j + 1, d => by
    unfold insInner
    split
    · rw [inner_size a j, swp_size]
    · rfl

theorem outer_same (hf : ∀ x y, f x y = true → key x ≠ key y) (a b : Nat) : ∀ (n i : Nat) (d : Array α), b - i ≤ n → b ≤ d.size → SameK key (insOuter f a b i d).toList d.toList
  | 0, i, d, hn, _ => by
    rw [insOuter, if_neg (by omega)]
    exact SameK.refl _
  | n + 1, i, d, hn, hb => by
    rw [insOuter]
    split
    · exact (outer_same hf a b n (i + 1) _ (by omega) (by rw [inner_size]; exact hb)).trans (inner_same hf a i d (by omega))
    · exact SameK.refl _

/-- A piece of a row, sorted by insertion. -/
theorem insertion_list (L : Lin lt) (hf : ∀ x y, f x y = lt (key x) (key y)) (d : Array α) {p x z : List α} (h : d.toList = p ++ x ++ z) (a b : Nat) (ha : a = p.length) (hb : b = p.length + x.length) :
    ∃ y, (insertionSort f d a b).toList = p ++ y ++ z ∧ y.length = x.length ∧ SameK key y x ∧ Up key lt y := by
  have hff : f = fun x y => lt (key x) (key y) := by funext x y; exact hf x y
  have hO : SWO f := by rw [hff]; exact L.swo key
  have hsz : d.size = p.length + x.length + z.length := by rw [← Array.length_toList, h]; simp; omega
  obtain ⟨⟨hs, ho, _⟩, hsd⟩ := insertionSort_holds hO d a b (by omega) (by omega)
  have hsame : SameK key (insertionSort f d a b).toList d.toList := outer_same (fun x y q => by rw [hf] at q; exact L.ne q) a b (b - (a + 1)) (a + 1) d (Nat.le_refl _) (by omega)
  generalize insertionSort f d a b = d' at hs ho hsd hsame
  have hl' : d'.toList.length = p.length + x.length + z.length := by rw [Array.length_toList, hs, hsz]
  have e1 : d'.toList.take p.length = p := by
    apply List.ext_getElem
    · rw [List.length_take]; omega
    · intro i h1 h2
      rw [List.getElem_take]
      have := ho i (Or.inl (by omega))
      rw [get_list d' rfl i (by omega), get_list d h i (by simp; omega)] at this
      rw [this, List.getElem_append_left (by simp; omega), List.getElem_append_left h2]
  have e2 : d'.toList.drop (p.length + x.length) = z := by
    apply List.ext_getElem
    · rw [List.length_drop]; omega
    · intro i h1 h2
      rw [List.getElem_drop]
      have := ho (p.length + x.length + i) (Or.inr (by omega))
      rw [get_list d' rfl _ (by omega), get_list d h _ (by simp; omega)] at this
      rw [this, List.getElem_append_right (by simp)]
      congr 1
      simp
  have e3 : d'.toList = p ++ (d'.toList.drop p.length).take x.length ++ z := by
    rw [← e2]
    conv => lhs; rw [← List.take_append_drop p.length d'.toList, e1]
    rw [List.append_assoc]
    congr 1
    rw [← List.drop_drop, List.take_append_drop]
  have hlen : ((d'.toList.drop p.length).take x.length).length = x.length := by rw [List.length_take, List.length_drop]; omega
  refine ⟨_, e3, hlen, ?_, ?_⟩
  · rw [e3, h] at hsame
    exact hsame.inner
  · generalize (d'.toList.drop p.length).take x.length = y at e3 hlen
    refine List.pairwise_iff_getElem.2 fun i j hi hj hij => ?_
    have q := hsd (p.length + i) (p.length + j) (by omega) (by omega) (by omega)
    rw [hf, get_list d' e3 _ (by simp; omega), get_list d' e3 _ (by simp; omega)] at q
    simpa [List.getElem_append_left, List.getElem_append_right, hi, hj] using q

end

end Go.Proofs.YtbkijfhfjhpebaaGreatDoor.StableM

/-
  The library's swapRange and rotate, at elements of k cells: two pieces of a row change places (made by gen_stable.py).
-/
namespace Go.Proofs.YtbkijfhfjhpebaaGreatDoor
open Go.RowKit Go.Shelf Go.Sort Go.Lib StableM

section
variable {P : Program} {k : Nat} {α : Type} [Inhabited α]

omit [Inhabited α] in
theorem range_split {A X B Y Z : List α} {n i : Nat} (hX : X.length = n) (hY : Y.length = n) (hi : i < n) :
    A ++ (Y.take i ++ X.drop i) ++ B ++ (X.take i ++ Y.drop i) ++ Z = (A ++ Y.take i) ++ (X[i]'(by omega)) :: ((X.drop (i + 1) ++ B ++ X.take i) ++ (Y[i]'(by omega)) :: (Y.drop (i + 1) ++ Z)) ∧
    A ++ (Y.take (i + 1) ++ X.drop (i + 1)) ++ B ++ (X.take (i + 1) ++ Y.drop (i + 1)) ++ Z = (A ++ Y.take i) ++ (Y[i]'(by omega)) :: ((X.drop (i + 1) ++ B ++ X.take i) ++ (X[i]'(by omega)) :: (Y.drop (i + 1) ++ Z)) := by
  have h1 : i < X.length := by omega
  have h2 : i < Y.length := by omega
  constructor
  · rw [List.drop_eq_getElem_cons h1, List.drop_eq_getElem_cons h2]
    simp only [List.append_assoc, List.cons_append]
  · rw [List.take_succ_eq_append_getElem h1, List.take_succ_eq_append_getElem h2]
    simp only [List.append_assoc, List.cons_append, List.nil_append]

set_option maxHeartbeats 4000000 in
set_option maxRecDepth 1000000 in
theorem swapRange_in (L : SortIn P k) (enc : α → List Value) (fv : Value) (blk off cap : Nat) (d0 d : Array α) (w0 w : World) (R : RowK enc k w0 blk off d0) (hs : d.size = d0.size) (S : SWK enc k w0 blk off d w)
    (a b n : Nat) (A X B Y Z : List α) (hd : d.toList = A ++ X ++ B ++ Y ++ Z) (ha : a = A.length) (hb : b = A.length + n + B.length) (hX : X.length = n) (hY : Y.length = n) (hsz : d.size < 4611686018427387904) :
    Calls P 165 #[.slice (some ⟨blk, off, none⟩) d.size cap, .int .i64 a, .int .i64 b, .int .i64 n, fv] w fun e w' => e = .returned (.tuple #[]) ∧ ∃ d' : Array α, d'.size = d.size ∧ d'.toList = A ++ Y ++ B ++ X ++ Z ∧ SWK enc k w0 blk off d' w' := by
  obtain ⟨mixed, fSwap, fRot, fMerge, fStable, aE, zE, t0, a0, z0, v0, t3, a3, z3, v3, t4, a4, z4, v4, t22, a22, z22, v22, t124, a124, z124, v124, t68, a68, z68, v68⟩ := L
  have S0 : Aside (SWK enc k w0 blk off d w) := S
  have hds : A.length + n + B.length + n + Z.length = d.size := by
    have := congrArg List.length hd
    simp only [List.length_append, Array.length_toList] at this
    omega
  have HD : Aside (d.toList = A ++ X ++ B ++ Y ++ Z) := hd
  have HE : Aside (a = A.length ∧ b = A.length + n + B.length ∧ X.length = n ∧ Y.length = n ∧ d.size = d0.size ∧ A.length + n + B.length + n + Z.length = d.size) := ⟨ha, hb, hX, hY, hs, hds⟩
  have hn62 : n < 4611686018427387904 := by omega
  clear S hd ha hb hX hY hs hds
  go_enter fSwap, Tryz.ntmps165
  go_wp2
  go_loopg [10] n (fun kx s wr => ∃ (i : Nat) (dk : Array α), s = .int .i64 i ∧ i ≤ n ∧ n - i ≤ kx ∧ dk.size = d.size ∧ Aside (dk.toList = A ++ (Y.take i ++ X.drop i) ++ B ++ (X.take i ++ Y.drop i) ++ Z) ∧ Aside (SWK enc k w0 blk off dk wr))
  case atStart => exact ⟨0, d, by go_num, by omega, by omega, rfl, by show _ = _; rw [HD.out]; simp, S0⟩
  case round =>
    clear S0 HD
    obtain ⟨i, dk, rfl, hi, hkx, hdk, hl, S1⟩ := hrel
    have HK : Aside (dk.size = d.size) := hdk
    clear hdk
    by_cases hlt : i < n
    · have hltz : (i : Int) < (n : Int) := by omega
      obtain ⟨ha, hb, hX, hY, hs, hds⟩ := HE.out
      have hdk := HK.out
      have hl2 : Aside ((swp dk (a + i) (b + i)).toList = A ++ (Y.take (i + 1) ++ X.drop (i + 1)) ++ B ++ (X.take (i + 1) ++ Y.drop (i + 1)) ++ Z) := by
        obtain ⟨e1, e2⟩ := range_split (A := A) (B := B) (Z := Z) hX hY hlt
        have e3 := (swp_list dk (hl.out.trans e1) (a + i) (b + i) (by simp; omega) (by simp; omega)).1
        exact e3.trans e2.symm
      clear hl
      have ea1 : ((a : Int) + (i : Int)).toNat = a + i := by omega
      have pa1 : (0 : Int) ≤ (a : Int) + (i : Int) := by omega
      have ba1 : (a : Int) + (i : Int) < (d.size : Int) := by omega
      have ra1 : IntKind.i64.wrap ((a : Int) + (i : Int)) = (a : Int) + (i : Int) := by rw [IntKind.wrap_i64]; omega
      have ec1 : ((b : Int) + (i : Int)).toNat = b + i := by omega
      have pc1 : (0 : Int) ≤ (b : Int) + (i : Int) := by omega
      have bc1 : (b : Int) + (i : Int) < (d.size : Int) := by omega
      have rc1 : IntKind.i64.wrap ((b : Int) + (i : Int)) = (b : Int) + (i : Int) := by rw [IntKind.wrap_i64]; omega
      have S2 : Aside (SWK enc k w0 blk off (swp dk (a + i) (b + i)) ((wr.drew.setCells blk (off + (a + i) * k) (enc dk[b + i]!)).setCells blk (off + (b + i) * k) (enc dk[a + i]!))) := S1.out.swapped R (a + i) (b + i) (by omega) (by omega)
      have la1 := S1.out.ld1 R (by omega) P (a + i) (by omega)
      have lb1 := S1.out.ld1 R (by omega) P (b + i) (by omega)
      have sa1 := S1.out.st1 R (by omega) P (a + i) (by omega) dk[b + i]!
      have sb1 := S1.out.st2 R (by omega) P (a + i) (b + i) (by omega) (by omega) dk[b + i]! dk[a + i]!
      have na1 : (enc dk[a + i]!).length = k := R.hk _
      have nb1 : (enc dk[b + i]!).length = k := R.hk _
      generalize enc dk[a + i]! = cI1 at S2 la1 sb1 na1
      generalize enc dk[b + i]! = cJ1 at S2 lb1 sa1 sb1 nb1
      clear S1 ha hb hX hY hs hds hdk
      go_wp2_with fail
      go_big_region_o
      clear la1 lb1 sa1 sb1 ea1 pa1 ba1 ra1 ec1 pc1 bc1 rc1 na1 nb1
      generalize (wr.drew.setCells blk (off + (a + i) * k) cJ1).setCells blk (off + (b + i) * k) cI1 = w2 at S2 ⊢
      go_wp2
      go_roundg (n - (i + 1))
      case measure => omega
      case rel =>
        obtain ⟨ha, hb, hX, hY, hs, hds⟩ := HE.out
        exact ⟨i + 1, swp dk (a + i) (b + i), by go_num, by omega, Nat.le_refl _, by rw [size_swp]; exact HK.out, hl2, S2⟩
    · have hltz : ¬ (i : Int) < (n : Int) := by omega
      go_wp2
      go_end0
      refine ⟨rfl, dk, HK.out, ?_, S1.out⟩
      have e : i = n := by omega
      obtain ⟨ha, hb, hX, hY, hs, hds⟩ := HE.out
      rw [hl.out, e, List.take_of_length_le (by omega), List.take_of_length_le (by omega), List.drop_of_length_le (by omega), List.drop_of_length_le (by omega)]
      simp

set_option maxHeartbeats 4000000 in
set_option maxRecDepth 1000000 in
theorem rotate_in (L : SortIn P k) (enc : α → List Value) (fv : Value) (blk off cap : Nat) (d0 d : Array α) (w0 w : World) (R : RowK enc k w0 blk off d0) (hs : d.size = d0.size) (S : SWK enc k w0 blk off d w)
    (a m b : Nat) (A X Y Z : List α) (hd : d.toList = A ++ X ++ Y ++ Z) (ha : a = A.length) (hm : m = A.length + X.length) (hb : b = A.length + X.length + Y.length) (hX : 0 < X.length) (hY : 0 < Y.length) (hsz : d.size < 4611686018427387904) :
    Calls P 146 #[.slice (some ⟨blk, off, none⟩) d.size cap, .int .i64 a, .int .i64 m, .int .i64 b, fv] w fun e w' => e = .returned (.tuple #[]) ∧ ∃ d' : Array α, d'.size = d.size ∧ d'.toList = A ++ Y ++ X ++ Z ∧ SWK enc k w0 blk off d' w' := by
  have LL := L
  obtain ⟨mixed, fSwap, fRot, fMerge, fStable, aE, zE, t0, a0, z0, v0, t3, a3, z3, v3, t4, a4, z4, v4, t22, a22, z22, v22, t124, a124, z124, v124, t68, a68, z68, v68⟩ := L
  have eS : ∀ args w, (callFunc 165 args).run P w = .ok (.enter 165 args) w := enters_of fSwap (by kernel_rfl) rfl
  have S0 : Aside (SWK enc k w0 blk off d w) := S
  have hds : A.length + X.length + Y.length + Z.length = d.size := by
    have := congrArg List.length hd
    simp only [List.length_append, Array.length_toList] at this
    omega
  have HD : Aside (d.toList = A ++ X ++ Y ++ Z) := hd
  have HE : Aside (a = A.length ∧ m = A.length + X.length ∧ b = A.length + X.length + Y.length ∧ d.size = d0.size ∧ A.length + X.length + Y.length + Z.length = d.size) := ⟨ha, hm, hb, hs, hds⟩
  have hm1 : X.length ≤ m := by omega
  have hm2 : m + Y.length ≤ d.size := by omega
  have e1 : (m : Int) - (a : Int) = (X.length : Int) := by omega
  have e2 : (b : Int) - (m : Int) = (Y.length : Int) := by omega
  have hml : m < 4611686018427387904 := by omega
  have hxl : X.length < 4611686018427387904 := by omega
  have hyl : Y.length < 4611686018427387904 := by omega
  clear S hd ha hm hb hs hds
  obtain ⟨x0, hx0⟩ : ∃ x, x = X.length := ⟨_, rfl⟩
  obtain ⟨y0, hy0⟩ : ∃ y, y = Y.length := ⟨_, rfl⟩
  rw [← hx0] at e1 hX hm1 hxl
  rw [← hy0] at e2 hY hm2 hyl
  have HXY : Aside (x0 = X.length ∧ y0 = Y.length) := ⟨hx0, hy0⟩
  clear hx0 hy0
  go_enter fRot, Tryz.ntmps146
  go_wp2
  go_loopg [10, 11] (x0 + y0) (fun kx s t wr => ∃ (i j : Nat) (dk : Array α) (A1 X1 Y1 Z1 : List α), s = .int .i64 i ∧ t = .int .i64 j ∧ 0 < i ∧ 0 < j ∧ i + j ≤ kx ∧ i ≤ x0 ∧ j ≤ y0 ∧ Aside (dk.size = d.size) ∧ Aside (dk.toList = A1 ++ X1 ++ Y1 ++ Z1 ∧ A1 ++ Y1 ++ X1 ++ Z1 = A ++ Y ++ X ++ Z ∧ X1.length = i ∧ Y1.length = j ∧ A1.length + i = m) ∧ Aside (SWK enc k w0 blk off dk wr))
  case atStart =>
    obtain ⟨h1, h2⟩ := HXY.out
    obtain ⟨ha, hm, hb, hs, hds⟩ := HE.out
    exact ⟨x0, y0, d, A, X, Y, Z, by go_num, by go_num, by omega, by omega, by omega, by omega, by omega, rfl, ⟨HD.out, rfl, by omega, by omega, by omega⟩, S0⟩
  case round =>
    clear S0 HD
    obtain ⟨i, j, dk, A1, X1, Y1, Z1, rfl, rfl, hi0, hj0, hkx, hix, hjy, HK, HL, S1⟩ := hrel
    have w1 : (m : Int) - (i : Int) = ((m - i : Nat) : Int) := by omega
    rcases Nat.lt_trichotomy i j with hij | hij | hij
    · have n1 : ¬ (i : Int) = (j : Int) := by omega
      have n2 : ¬ (j : Int) < (i : Int) := by omega
      have w2 : (m : Int) + (j : Int) - (i : Int) = ((m + j - i : Nat) : Int) := by omega
      have HC : Hid (Calls P 165 #[.slice (some ⟨blk, off, none⟩) d.size cap, .int .i64 ((m - i : Nat) : Int), .int .i64 ((m + j - i : Nat) : Int), .int .i64 (i : Int), fv] wr fun e w' => e = .returned (.tuple #[]) ∧ ∃ d' : Array α, d'.size = d.size ∧ d'.toList = A1 ++ Y1.drop (j - i) ++ Y1.take (j - i) ++ X1 ++ Z1 ∧ SWK enc k w0 blk off d' w') := by
        obtain ⟨l1, l2, l3, l4, l5⟩ := HL.out
        have hk := HK.out
        have hs := HE.out.2.2.2.1
        have e9 : ∀ u v : List α, Y1 = u ++ v → A1 ++ X1 ++ Y1 ++ Z1 = A1 ++ X1 ++ u ++ v ++ Z1 := fun u v h => by rw [h]; simp only [List.append_assoc]
        have hY1 : Y1 = Y1.take (j - i) ++ Y1.drop (j - i) := (List.take_append_drop _ _).symm
        have := swapRange_in LL enc fv blk off cap d0 dk w0 wr R (hk.trans hs) S1.out (m - i) (m + j - i) i A1 X1 (Y1.take (j - i)) (Y1.drop (j - i)) Z1 (l1.trans (e9 _ _ hY1)) (by omega) (by rw [List.length_take]; omega) l3 (by rw [List.length_drop]; omega) (by omega)
        rw [hk] at this
        exact this
      go_wp2_with (go_at_fn 165; refine HC.out.mono ?_; rintro e w5 ⟨rfl, d5, hd5, hl5, hS5⟩)
      have S5 : Aside (SWK enc k w0 blk off d5 w5) := hS5
      have HK5 : Aside (d5.size = d.size) := hd5
      have HL5 : Aside (d5.toList = A1 ++ Y1.drop (j - i) ++ Y1.take (j - i) ++ X1 ++ Z1) := hl5
      clear hS5 hd5 hl5 HC S1
      go_wp2
      go_roundg (i + (j - i))
      case measure => omega
      case rel =>
        obtain ⟨l1, l2, l3, l4, l5⟩ := HL.out
        refine ⟨i, j - i, d5, A1, Y1.drop (j - i), Y1.take (j - i), X1 ++ Z1, rfl, by go_num, by omega, by omega, by omega, by omega, by omega, HK5, ⟨?_, ?_, by rw [List.length_drop]; omega, by rw [List.length_take]; omega, l5⟩, S5⟩
        · rw [HL5.out]; simp only [List.append_assoc]
        · rw [← l2]
          conv => rhs; rw [← List.take_append_drop (j - i) Y1]
          simp only [List.append_assoc]
    · subst hij
      have HC : Hid (Calls P 165 #[.slice (some ⟨blk, off, none⟩) d.size cap, .int .i64 ((m - i : Nat) : Int), .int .i64 (m : Int), .int .i64 (i : Int), fv] wr fun e w' => e = .returned (.tuple #[]) ∧ ∃ d' : Array α, d'.size = d.size ∧ d'.toList = A ++ Y ++ X ++ Z ∧ SWK enc k w0 blk off d' w') := by
        obtain ⟨l1, l2, l3, l4, l5⟩ := HL.out
        have hk := HK.out
        have hs := HE.out.2.2.2.1
        have := swapRange_in LL enc fv blk off cap d0 dk w0 wr R (hk.trans hs) S1.out (m - i) m i A1 X1 [] Y1 Z1 (by rw [l1]; simp) (by omega) (by simp; omega) l3 l4 (by omega)
        rw [hk, List.append_nil, l2] at this
        exact this
      go_wp2_with (go_at_fn 165; refine HC.out.mono ?_; rintro e w5 ⟨rfl, d5, hd5, hl5, hS5⟩)
      go_end0
      exact ⟨rfl, d5, hd5, hl5, hS5⟩
    · have n1 : ¬ (i : Int) = (j : Int) := by omega
      have n2 : (j : Int) < (i : Int) := by omega
      have HC : Hid (Calls P 165 #[.slice (some ⟨blk, off, none⟩) d.size cap, .int .i64 ((m - i : Nat) : Int), .int .i64 (m : Int), .int .i64 (j : Int), fv] wr fun e w' => e = .returned (.tuple #[]) ∧ ∃ d' : Array α, d'.size = d.size ∧ d'.toList = A1 ++ Y1 ++ X1.drop j ++ X1.take j ++ Z1 ∧ SWK enc k w0 blk off d' w') := by
        obtain ⟨l1, l2, l3, l4, l5⟩ := HL.out
        have hk := HK.out
        have hs := HE.out.2.2.2.1
        have e9 : ∀ u v : List α, X1 = u ++ v → A1 ++ X1 ++ Y1 ++ Z1 = A1 ++ u ++ v ++ Y1 ++ Z1 := fun u v h => by rw [h]; simp only [List.append_assoc]
        have hX1 : X1 = X1.take j ++ X1.drop j := (List.take_append_drop _ _).symm
        have := swapRange_in LL enc fv blk off cap d0 dk w0 wr R (hk.trans hs) S1.out (m - i) m j A1 (X1.take j) (X1.drop j) Y1 Z1 (l1.trans (e9 _ _ hX1)) (by omega) (by rw [List.length_drop]; omega) (by rw [List.length_take]; omega) l4 (by omega)
        rw [hk] at this
        exact this
      go_wp2_with (go_at_fn 165; refine HC.out.mono ?_; rintro e w5 ⟨rfl, d5, hd5, hl5, hS5⟩)
      have S5 : Aside (SWK enc k w0 blk off d5 w5) := hS5
      have HK5 : Aside (d5.size = d.size) := hd5
      have HL5 : Aside (d5.toList = A1 ++ Y1 ++ X1.drop j ++ X1.take j ++ Z1) := hl5
      clear hS5 hd5 hl5 HC S1
      go_wp2
      go_roundg (i - j + j)
      case measure => omega
      case rel =>
        obtain ⟨l1, l2, l3, l4, l5⟩ := HL.out
        refine ⟨i - j, j, d5, A1 ++ Y1, X1.drop j, X1.take j, Z1, by go_num, rfl, by omega, by omega, by omega, by omega, by omega, HK5, ⟨?_, ?_, by rw [List.length_drop]; omega, by rw [List.length_take]; omega, by rw [List.length_append]; omega⟩, S5⟩
        · rw [HL5.out]
        · rw [← l2]
          conv => rhs; rw [← List.take_append_drop j X1]
          simp only [List.append_assoc]

end

end Go.Proofs.YtbkijfhfjhpebaaGreatDoor

/-
  The library's symMerge, where one of the two pieces is one element, at elements of k cells (made by gen_stable.py).
-/
namespace Go.Proofs.YtbkijfhfjhpebaaGreatDoor
open Go.RowKit Go.Shelf Go.Sort Go.Lib StableM

section
variable {P : Program} {k : Nat} {α κ : Type} [Inhabited α] [DecidableEq κ] {key : α → κ} {lt : κ → κ → Bool}

/-- A row of which a piece is merged. -/
def Merged (enc : α → List Value) (k : Nat) (w0 : World) (blk off size : Nat) (key : α → κ) (lt : κ → κ → Bool) (p l r z : List α) (e : Ending) (w' : World) : Prop :=
  e = .returned (.tuple #[]) ∧ ∃ (d' : Array α) (q : List α), d'.size = size ∧ d'.toList = p ++ q ++ z ∧ q.length = l.length + r.length ∧ SameK key q (l ++ r) ∧ Up key lt q ∧ SWK enc k w0 blk off d' w'

omit [DecidableEq κ] in
theorem at_l {d : Array α} {p l r z : List α} (h : d.toList = p ++ l ++ r ++ z) {i : Nat} (hi : i < l.length) : d[p.length + i]! = l[i] := by
  rw [get_list d h _ (by simp; omega)]
  simp [List.getElem_append_left, List.getElem_append_right, hi]

omit [DecidableEq κ] in
theorem at_r {d : Array α} {p l r z : List α} (h : d.toList = p ++ l ++ r ++ z) {i : Nat} (hi : i < r.length) : d[p.length + l.length + i]! = r[i] := by
  rw [get_list d h _ (by simp; omega)]
  rw [List.getElem_append_left (by simp; omega), List.getElem_append_right (by simp)]
  congr 1
  simp

omit [Inhabited α] in
/-- All of the begin are below what its last one is below. -/
theorem take_lt (Ln : Lin lt) {x : List α} (h : Up key lt x) {c : Nat} {s : κ} (hc : c = 0 ∨ ∃ q : c - 1 < x.length, lt (key x[c - 1]) s = true) : ∀ a ∈ x.take c, lt (key a) s = true := by
  intro a ha
  obtain ⟨i, hi, rfl⟩ := List.getElem_of_mem ha
  rw [List.length_take] at hi
  rw [List.getElem_take]
  obtain rfl | ⟨q, hq⟩ := hc
  · omega
  · by_cases e : i = c - 1
    · subst e; exact hq
    · exact Ln.le_lt (List.pairwise_iff_getElem.1 h i (c - 1) (by omega) q (by omega)) hq

omit [Inhabited α] in
/-- .. aren't above what its last one isn't above. -/
theorem take_le (Ln : Lin lt) {x : List α} (h : Up key lt x) {c : Nat} {s : κ} (hc : c = 0 ∨ ∃ q : c - 1 < x.length, lt s (key x[c - 1]) = false) : ∀ a ∈ x.take c, lt s (key a) = false := by
  intro a ha
  obtain ⟨i, hi, rfl⟩ := List.getElem_of_mem ha
  rw [List.length_take] at hi
  rw [List.getElem_take]
  obtain rfl | ⟨q, hq⟩ := hc
  · omega
  · by_cases e : i = c - 1
    · subst e; exact hq
    · exact Ln.ntrans (List.pairwise_iff_getElem.1 h i (c - 1) (by omega) q (by omega)) hq

omit [Inhabited α] in
theorem drop_ge (Ln : Lin lt) {x : List α} (h : Up key lt x) {c : Nat} {s : κ} (hc : x.length ≤ c ∨ ∃ q : c < x.length, lt (key x[c]) s = false) : ∀ a ∈ x.drop c, lt (key a) s = false := by
  intro a ha
  obtain ⟨i, hi, rfl⟩ := List.getElem_of_mem ha
  rw [List.length_drop] at hi
  rw [List.getElem_drop]
  obtain q | ⟨q, hq⟩ := hc
  · omega
  · by_cases e : i = 0
    · subst e; exact hq
    · exact Ln.ntrans hq (List.pairwise_iff_getElem.1 h c (c + i) q (by omega) (by omega))

omit [Inhabited α] in
theorem drop_gt (Ln : Lin lt) {x : List α} (h : Up key lt x) {c : Nat} {s : κ} (hc : x.length ≤ c ∨ ∃ q : c < x.length, lt s (key x[c]) = true) : ∀ a ∈ x.drop c, lt s (key a) = true := by
  intro a ha
  obtain ⟨i, hi, rfl⟩ := List.getElem_of_mem ha
  rw [List.length_drop] at hi
  rw [List.getElem_drop]
  obtain q | ⟨q, hq⟩ := hc
  · omega
  · by_cases e : i = 0
    · subst e; exact hq
    · exact Ln.lt_le hq (List.pairwise_iff_getElem.1 h c (c + i) q (by omega) (by omega))

set_option maxHeartbeats 8000000 in
set_option maxRecDepth 1000000 in
theorem merge_left_in (L : SortIn P k) (Ln : Lin lt) (enc : α → List Value) (cf : α → α → Int) (hcf : ∀ x y, ltOf cf x y = lt (key x) (key y)) (g : Nat) (cb : Array Value) (eg : ∀ args w, (callFunc g args).run P w = .ok (.enter g args) w) (blk off cap : Nat) (d0 : Array α) (w0 : World) (hC : CmpLays P g cb enc k cf blk off d0.size w0) (R : RowK enc k w0 blk off d0) (hsz : d0.size < 4611686018427387904)
    (d : Array α) (w : World) (a m b : Nat) (p l r z : List α) (hs : d.size = d0.size) (S : SWK enc k w0 blk off d w) (hd : d.toList = p ++ l ++ r ++ z) (ha : a = p.length) (hm : m = p.length + l.length) (hb : b = p.length + l.length + r.length) (hl1 : l.length = 1) (hr0 : 0 < r.length) (hur : Up key lt r) :
    Calls P 116 #[.slice (some ⟨blk, off, none⟩) d0.size cap, .int .i64 a, .int .i64 m, .int .i64 b, .func (.func g) #[] cb] w (Merged enc k w0 blk off d0.size key lt p l r z) := by
  obtain ⟨mixed, fSwap, fRot, fMerge, fStable, aE, zE, t0, a0, z0, v0, t3, a3, z3, v3, t4, a4, z4, v4, t22, a22, z22, v22, t124, a124, z124, v124, t68, a68, z68, v68⟩ := L
  have S0 : Aside (SWK enc k w0 blk off d w) := S
  have HC : Aside (CmpLays P g cb enc k cf blk off d0.size w0) := hC
  have hds : p.length + l.length + r.length + z.length = d0.size := by
    have := congrArg List.length hd
    simp only [List.length_append, Array.length_toList] at this
    omega
  have HE : Aside (a = p.length ∧ m = p.length + l.length ∧ b = p.length + l.length + r.length ∧ d.size = d0.size ∧ l.length = 1 ∧ d.toList = p ++ l ++ r ++ z) := ⟨ha, hm, hb, hs, hl1, hd⟩
  have hma : (m : Int) - (a : Int) = 1 := by omega
  have hmb : m ≤ b := by omega
  have hbd : b ≤ d0.size := by omega
  have hbl : b < 4611686018427387904 := by omega
  have HK : Aside (d.size = d0.size) := hs
  have HU : Aside (Up key lt r) := hur
  have HF : Aside (∀ x y, ltOf cf x y = lt (key x) (key y)) := hcf
  clear S hC hd ha hm hb hs hl1 hds hur hcf
  go_enter fMerge, Tryz.ntmps116
  go_wp2
  go_loopg [10, 11] (b - m) (fun kx s t wr => ∃ (i j : Nat), s = .int .i64 i ∧ t = .int .i64 j ∧ m ≤ i ∧ i ≤ j ∧ j ≤ b ∧ j - i ≤ kx ∧ Aside (i = m ∨ ltOf cf d[i - 1]! d[a]! = true) ∧ Aside (j = b ∨ ltOf cf d[j]! d[a]! = false) ∧ Aside (SWK enc k w0 blk off d wr))
  case atStart => exact ⟨m, b, by go_num, by go_num, by omega, by omega, by omega, by omega, Or.inl rfl, Or.inl rfl, S0⟩
  case round =>
    clear S0
    obtain ⟨i, j, rfl, rfl, hmi, hij, hjb, hkx, HI, HJ, S1⟩ := hrel
    by_cases hlt : i < j
    · have hltz : (i : Int) < (j : Int) := by omega
      go_wp2_with fail
      obtain ⟨c, hc⟩ : ∃ c : Nat, c = (i + j) / 2 := ⟨_, rfl⟩
      have hcz : ((i : Int) + (j : Int)) / 2 = (c : Int) := by omega
      have hic : i ≤ c := by omega
      have hcj : c < j := by omega
      have hd := HK.out
      have ham : a < m := by omega
      simp only [hcz]
      clear hcz hc hma
      cases hL : ltOf cf d[c]! d[a]! with
      | true =>
        have HL : Aside (ltOf cf d[c]! d[a]! = true) := hL
        have ea1 : ((c : Int)).toNat = c := by omega
        have pa1 : (0 : Int) ≤ (c : Int) := by omega
        have ba1 : (c : Int) < (d0.size : Int) := by omega
        have ra1 : IntKind.i64.wrap ((c : Int)) = (c : Int) := by rw [IntKind.wrap_i64]; omega
        have ec1 : ((a : Int)).toNat = a := by omega
        have pc1 : (0 : Int) ≤ (a : Int) := by omega
        have bc1 : (a : Int) < (d0.size : Int) := by omega
        have rc1 : IntKind.i64.wrap ((a : Int)) = (a : Int) := by rw [IntKind.wrap_i64]; omega
        obtain ⟨x1, hx1⟩ : ∃ x, x = d[c]! := ⟨_, rfl⟩
        obtain ⟨y1, hy1⟩ : ∃ x, x = d[a]! := ⟨_, rfl⟩
        have la1 := S1.out.ld R (by omega) P (c) (by omega)
        have lb1 := S1.out.ld R (by omega) P (a) (by omega)
        rw [← hx1] at la1
        rw [← hy1] at lb1
        have hc1 := S1.out.cmp HC.out (by omega) x1 y1
        have hv1 : cf x1 y1 < 0 := by rw [hx1, hy1]; exact of_decide_eq_true hL
        have hd1 : decide (cf x1 y1 < 0) = true := decide_eq_true hv1
        clear hx1 hy1 hL hd
        go_quiet_grown (first | (go_at_fn g; refine Calls.grown_of (hc1 _ _)))
        have S2 : Aside (SWK enc k w0 blk off d (grow (wr.drewN nq) osq)) := S1.out.grown nq osq
        clear la1 lb1 hc1 S1 hv1 hd1 ea1 pa1 ba1 ra1 ec1 pc1 bc1 rc1
        generalize grow (wr.drewN nq) osq = w2 at S2 ⊢
        clear nq osq
        go_wp2
        go_roundg (j - (c + 1))
        case measure => omega
        case rel => exact ⟨c + 1, j, by go_num, rfl, by omega, by omega, hjb, Nat.le_refl _, Or.inr (by rw [Nat.add_sub_cancel]; exact HL.out), HJ, S2⟩
      | false =>
        have HL : Aside (ltOf cf d[c]! d[a]! = false) := hL
        have ea1 : ((c : Int)).toNat = c := by omega
        have pa1 : (0 : Int) ≤ (c : Int) := by omega
        have ba1 : (c : Int) < (d0.size : Int) := by omega
        have ra1 : IntKind.i64.wrap ((c : Int)) = (c : Int) := by rw [IntKind.wrap_i64]; omega
        have ec1 : ((a : Int)).toNat = a := by omega
        have pc1 : (0 : Int) ≤ (a : Int) := by omega
        have bc1 : (a : Int) < (d0.size : Int) := by omega
        have rc1 : IntKind.i64.wrap ((a : Int)) = (a : Int) := by rw [IntKind.wrap_i64]; omega
        obtain ⟨x1, hx1⟩ : ∃ x, x = d[c]! := ⟨_, rfl⟩
        obtain ⟨y1, hy1⟩ : ∃ x, x = d[a]! := ⟨_, rfl⟩
        have la1 := S1.out.ld R (by omega) P (c) (by omega)
        have lb1 := S1.out.ld R (by omega) P (a) (by omega)
        rw [← hx1] at la1
        rw [← hy1] at lb1
        have hc1 := S1.out.cmp HC.out (by omega) x1 y1
        have hv1 : ¬ cf x1 y1 < 0 := by rw [hx1, hy1]; exact of_decide_eq_false hL
        have hd1 : decide (cf x1 y1 < 0) = false := decide_eq_false hv1
        clear hx1 hy1 hL hd
        go_quiet_grown (first | (go_at_fn g; refine Calls.grown_of (hc1 _ _)))
        have S2 : Aside (SWK enc k w0 blk off d (grow (wr.drewN nq) osq)) := S1.out.grown nq osq
        clear la1 lb1 hc1 S1 hv1 hd1 ea1 pa1 ba1 ra1 ec1 pc1 bc1 rc1
        generalize grow (wr.drewN nq) osq = w2 at S2 ⊢
        clear nq osq
        go_wp2
        go_roundg (c - i)
        case measure => omega
        case rel => exact ⟨i, c, rfl, by go_num, hmi, by omega, by omega, Nat.le_refl _, HI, Or.inr HL.out, S2⟩
    · have hltz : ¬ (i : Int) < (j : Int) := by omega
      have hij' : i = j := by omega
      have HJ2 : Aside (i = b ∨ ltOf cf d[i]! d[a]! = false) := by rw [hij']; have := HJ.out; rw [← hij'] at this ⊢; exact this
      have hi1 : 1 ≤ i := by omega
      clear hij' HJ
      obtain ⟨w1, hw1⟩ : ∃ W, W = wr := ⟨_, rfl⟩
      rw [← hw1] at S1 ⊢
      clear hw1
      go_wp2
      go_loopg [13] (i - 1 - a) (fun kx s wr => ∃ (c : Nat) (dk : Array α), s = .int .i64 c ∧ a ≤ c ∧ c ≤ i - 1 ∧ i - 1 - c ≤ kx ∧ Aside (dk.size = d0.size) ∧ Aside (dk.toList = p ++ r.take (c - a) ++ l ++ r.drop (c - a) ++ z) ∧ Aside (SWK enc k w0 blk off dk wr))
      case atStart => exact ⟨a, d, by go_num, by omega, by omega, by omega, HK, by show _ = _; rw [HE.out.2.2.2.2.2]; simp, S1⟩
      case round =>
        clear S1
        obtain ⟨c, dk, rfl, hac, hci, hkx2, HK2, HL2, S1⟩ := hrel
        by_cases hlt2 : c < i - 1
        · have hlt2z : (c : Int) < (i : Int) - 1 := by omega
          have hdk := HK2.out
          have HL3 : Aside ((swp dk c (c + 1)).toList = p ++ r.take (c + 1 - a) ++ l ++ r.drop (c + 1 - a) ++ z) := by
            obtain ⟨ha, hm, hb, hs, hl1, hd⟩ := HE.out
            obtain ⟨x, rfl⟩ := List.length_eq_one_iff.1 hl1
            have hcr : c - a < r.length := by omega
            have e := HL2.out
            rw [List.drop_eq_getElem_cons hcr] at e
            have e2 : dk.toList = (p ++ r.take (c - a)) ++ x :: ([] ++ r[c - a] :: (r.drop (c - a + 1) ++ z)) := by rw [e]; simp only [List.append_assoc, List.cons_append, List.nil_append]
            have e3 := (swp_list dk e2 c (c + 1) (by simp; omega) (by simp; omega)).1
            show _ = _
            rw [e3, show c + 1 - a = c - a + 1 by omega, List.take_succ_eq_append_getElem hcr]
            simp only [List.append_assoc, List.cons_append, List.nil_append]
          clear hlt HL2
          go_wp2_with fail
          have ea2 : ((c : Int)).toNat = c := by omega
          have pa2 : (0 : Int) ≤ (c : Int) := by omega
          have ba2 : (c : Int) < (d0.size : Int) := by omega
          have ra2 : IntKind.i64.wrap ((c : Int)) = (c : Int) := by rw [IntKind.wrap_i64]; omega
          have ec2 : ((c : Int) + 1).toNat = c + 1 := by omega
          have pc2 : (0 : Int) ≤ (c : Int) + 1 := by omega
          have bc2 : (c : Int) + 1 < (d0.size : Int) := by omega
          have rc2 : IntKind.i64.wrap ((c : Int) + 1) = (c : Int) + 1 := by rw [IntKind.wrap_i64]; omega
          have S2 : Aside (SWK enc k w0 blk off (swp dk (c) (c + 1)) ((wr.drew.setCells blk (off + (c) * k) (enc dk[c + 1]!)).setCells blk (off + (c + 1) * k) (enc dk[c]!))) := S1.out.swapped R (c) (c + 1) (by omega) (by omega)
          have la2 := S1.out.ld1 R (by omega) P (c) (by omega)
          have lb2 := S1.out.ld1 R (by omega) P (c + 1) (by omega)
          have sa2 := S1.out.st1 R (by omega) P (c) (by omega) dk[c + 1]!
          have sb2 := S1.out.st2 R (by omega) P (c) (c + 1) (by omega) (by omega) dk[c + 1]! dk[c]!
          have na2 : (enc dk[c]!).length = k := R.hk _
          have nb2 : (enc dk[c + 1]!).length = k := R.hk _
          generalize enc dk[c]! = cI2 at S2 la2 sb2 na2
          generalize enc dk[c + 1]! = cJ2 at S2 lb2 sa2 sb2 nb2
          clear S1 hdk
          go_big_region_o
          clear la2 lb2 sa2 sb2 ea2 pa2 ba2 ra2 ec2 pc2 bc2 rc2 na2 nb2
          generalize (wr.drew.setCells blk (off + (c) * k) cJ2).setCells blk (off + (c + 1) * k) cI2 = w2 at S2 ⊢
          go_wp2
          go_roundg (i - 1 - (c + 1))
          case measure => omega
          case rel => exact ⟨c + 1, swp dk c (c + 1), by go_num, by omega, by omega, Nat.le_refl _, by show _ = _; rw [size_swp]; exact HK2.out, HL3, S2⟩
        · have hlt2z : ¬ (c : Int) < (i : Int) - 1 := by omega
          go_wp2
          have hFIN : ∃ q : List α, dk.toList = p ++ q ++ z ∧ q.length = l.length + r.length ∧ SameK key q (l ++ r) ∧ Up key lt q := by
            obtain ⟨ha, hm, hb, hs, hl1, hd⟩ := HE.out
            obtain ⟨x, rfl⟩ := List.length_eq_one_iff.1 hl1
            have hx : d[a]! = x := by
              have := at_l hd (i := 0) (by simp)
              rw [ha]; simpa using this
            have hI := HI.out
            have hJ := HJ2.out
            rw [hx, HF.out] at hI hJ
            have hur : Up key lt (r.take (c - a) ++ r.drop (c - a)) := by rw [List.take_append_drop]; exact HU.out
            have h1 : ∀ y ∈ r.take (c - a), lt (key y) (key x) = true := take_lt Ln HU.out (by
              rcases hI with q | q
              · exact Or.inl (by omega)
              · by_cases q0 : c - a = 0
                · exact Or.inl q0
                · refine Or.inr ⟨by omega, ?_⟩
                  have := at_r hd (i := c - a - 1) (by omega)
                  rw [show i - 1 = p.length + [x].length + (c - a - 1) by simp at hm ⊢; omega, this] at q
                  exact q)
            have h2 : ∀ y ∈ r.drop (c - a), lt (key y) (key x) = false := drop_ge Ln HU.out (by
              rcases hJ with q | q
              · exact Or.inl (by simp at hm hb ⊢; omega)
              · by_cases q0 : r.length ≤ c - a
                · exact Or.inl q0
                · refine Or.inr ⟨by omega, ?_⟩
                  have := at_r hd (i := c - a) (by omega)
                  rw [show i = p.length + [x].length + (c - a) by simp at hm ⊢; omega, this] at q
                  exact q)
            obtain ⟨g1, g2⟩ := merge_left Ln hur h1 h2
            rw [List.take_append_drop] at g1
            refine ⟨r.take (c - a) ++ x :: r.drop (c - a), ?_, ?_, g1, g2⟩
            · rw [HL2.out]; simp only [List.append_assoc, List.cons_append, List.nil_append]
            · have hcr : c - a ≤ r.length := by simp at hm hb; omega
              simp only [List.length_append, List.length_cons, List.length_take, List.length_drop, List.length_nil]; omega
          obtain ⟨q, f1, f2, f3, f4⟩ := hFIN
          (try simp only [Exit.inBlock, Exit.then]); refine bodyPost_ret (results_none rfl _ _ _) rfl ?_
          exact ⟨rfl, dk, q, HK2.out, f1, f2, f3, f4, S1.out⟩

set_option maxHeartbeats 8000000 in
set_option maxRecDepth 1000000 in
theorem merge_right_in (L : SortIn P k) (Ln : Lin lt) (enc : α → List Value) (cf : α → α → Int) (hcf : ∀ x y, ltOf cf x y = lt (key x) (key y)) (g : Nat) (cb : Array Value) (eg : ∀ args w, (callFunc g args).run P w = .ok (.enter g args) w) (blk off cap : Nat) (d0 : Array α) (w0 : World) (hC : CmpLays P g cb enc k cf blk off d0.size w0) (R : RowK enc k w0 blk off d0) (hsz : d0.size < 4611686018427387904)
    (d : Array α) (w : World) (a m b : Nat) (p l r z : List α) (hs : d.size = d0.size) (S : SWK enc k w0 blk off d w) (hd : d.toList = p ++ l ++ r ++ z) (ha : a = p.length) (hm : m = p.length + l.length) (hb : b = p.length + l.length + r.length) (hl1 : 1 < l.length) (hr0 : r.length = 1) (hul : Up key lt l) :
    Calls P 116 #[.slice (some ⟨blk, off, none⟩) d0.size cap, .int .i64 a, .int .i64 m, .int .i64 b, .func (.func g) #[] cb] w (Merged enc k w0 blk off d0.size key lt p l r z) := by
  obtain ⟨mixed, fSwap, fRot, fMerge, fStable, aE, zE, t0, a0, z0, v0, t3, a3, z3, v3, t4, a4, z4, v4, t22, a22, z22, v22, t124, a124, z124, v124, t68, a68, z68, v68⟩ := L
  have S0 : Aside (SWK enc k w0 blk off d w) := S
  have HC : Aside (CmpLays P g cb enc k cf blk off d0.size w0) := hC
  have hds : p.length + l.length + r.length + z.length = d0.size := by
    have := congrArg List.length hd
    simp only [List.length_append, Array.length_toList] at this
    omega
  have HE : Aside (a = p.length ∧ m = p.length + l.length ∧ b = p.length + l.length + r.length ∧ d.size = d0.size ∧ r.length = 1 ∧ d.toList = p ++ l ++ r ++ z) := ⟨ha, hm, hb, hs, hr0, hd⟩
  have hma : ((m : Int) - (a : Int) == 1) = false := by rw [beq_eq_false_iff_ne]; omega
  have hbm : (b : Int) - (m : Int) = 1 := by omega
  have ham : a < m := by omega
  have hmd : m < d0.size := by omega
  have hbl : m < 4611686018427387904 := by omega
  have HK : Aside (d.size = d0.size) := hs
  have HU : Aside (Up key lt l) := hul
  have HF : Aside (∀ x y, ltOf cf x y = lt (key x) (key y)) := hcf
  clear S hC hd ha hm hb hs hl1 hr0 hds hul hcf
  go_enter fMerge, Tryz.ntmps116
  go_wp2
  go_loopg [14, 15] (m - a) (fun kx s t wr => ∃ (i j : Nat), s = .int .i64 i ∧ t = .int .i64 j ∧ a ≤ i ∧ i ≤ j ∧ j ≤ m ∧ j - i ≤ kx ∧ Aside (i = a ∨ ltOf cf d[m]! d[i - 1]! = false) ∧ Aside (j = m ∨ ltOf cf d[m]! d[j]! = true) ∧ Aside (SWK enc k w0 blk off d wr))
  case atStart => exact ⟨a, m, by go_num, by go_num, by omega, by omega, by omega, by omega, Or.inl rfl, Or.inl rfl, S0⟩
  case round =>
    clear S0
    obtain ⟨i, j, rfl, rfl, hmi, hij, hjb, hkx, HI, HJ, S1⟩ := hrel
    by_cases hlt : i < j
    · have hltz : (i : Int) < (j : Int) := by omega
      go_wp2_with fail
      obtain ⟨c, hc⟩ : ∃ c : Nat, c = (i + j) / 2 := ⟨_, rfl⟩
      have hcz : ((i : Int) + (j : Int)) / 2 = (c : Int) := by omega
      have hic : i ≤ c := by omega
      have hcj : c < j := by omega
      have hd := HK.out
      simp only [hcz]
      clear hcz hc hma hbm
      cases hL : ltOf cf d[m]! d[c]! with
      | true =>
        have HL : Aside (ltOf cf d[m]! d[c]! = true) := hL
        have ea1 : ((m : Int)).toNat = m := by omega
        have pa1 : (0 : Int) ≤ (m : Int) := by omega
        have ba1 : (m : Int) < (d0.size : Int) := by omega
        have ra1 : IntKind.i64.wrap ((m : Int)) = (m : Int) := by rw [IntKind.wrap_i64]; omega
        have ec1 : ((c : Int)).toNat = c := by omega
        have pc1 : (0 : Int) ≤ (c : Int) := by omega
        have bc1 : (c : Int) < (d0.size : Int) := by omega
        have rc1 : IntKind.i64.wrap ((c : Int)) = (c : Int) := by rw [IntKind.wrap_i64]; omega
        obtain ⟨x1, hx1⟩ : ∃ x, x = d[m]! := ⟨_, rfl⟩
        obtain ⟨y1, hy1⟩ : ∃ x, x = d[c]! := ⟨_, rfl⟩
        have la1 := S1.out.ld R (by omega) P (m) (by omega)
        have lb1 := S1.out.ld R (by omega) P (c) (by omega)
        rw [← hx1] at la1
        rw [← hy1] at lb1
        have hc1 := S1.out.cmp HC.out (by omega) x1 y1
        have hv1 : cf x1 y1 < 0 := by rw [hx1, hy1]; exact of_decide_eq_true hL
        have hd1 : decide (cf x1 y1 < 0) = true := decide_eq_true hv1
        clear hx1 hy1 hL hd
        go_quiet_grown (first | (go_at_fn g; refine Calls.grown_of (hc1 _ _)))
        have S2 : Aside (SWK enc k w0 blk off d (grow (wr.drewN nq) osq)) := S1.out.grown nq osq
        clear la1 lb1 hc1 S1 hv1 hd1 ea1 pa1 ba1 ra1 ec1 pc1 bc1 rc1
        generalize grow (wr.drewN nq) osq = w2 at S2 ⊢
        clear nq osq
        go_wp2
        go_roundg (c - i)
        case measure => omega
        case rel => exact ⟨i, c, rfl, by go_num, hmi, by omega, by omega, Nat.le_refl _, HI, Or.inr HL.out, S2⟩
      | false =>
        have HL : Aside (ltOf cf d[m]! d[c]! = false) := hL
        have ea1 : ((m : Int)).toNat = m := by omega
        have pa1 : (0 : Int) ≤ (m : Int) := by omega
        have ba1 : (m : Int) < (d0.size : Int) := by omega
        have ra1 : IntKind.i64.wrap ((m : Int)) = (m : Int) := by rw [IntKind.wrap_i64]; omega
        have ec1 : ((c : Int)).toNat = c := by omega
        have pc1 : (0 : Int) ≤ (c : Int) := by omega
        have bc1 : (c : Int) < (d0.size : Int) := by omega
        have rc1 : IntKind.i64.wrap ((c : Int)) = (c : Int) := by rw [IntKind.wrap_i64]; omega
        obtain ⟨x1, hx1⟩ : ∃ x, x = d[m]! := ⟨_, rfl⟩
        obtain ⟨y1, hy1⟩ : ∃ x, x = d[c]! := ⟨_, rfl⟩
        have la1 := S1.out.ld R (by omega) P (m) (by omega)
        have lb1 := S1.out.ld R (by omega) P (c) (by omega)
        rw [← hx1] at la1
        rw [← hy1] at lb1
        have hc1 := S1.out.cmp HC.out (by omega) x1 y1
        have hv1 : ¬ cf x1 y1 < 0 := by rw [hx1, hy1]; exact of_decide_eq_false hL
        have hd1 : decide (cf x1 y1 < 0) = false := decide_eq_false hv1
        clear hx1 hy1 hL hd
        go_quiet_grown (first | (go_at_fn g; refine Calls.grown_of (hc1 _ _)))
        have S2 : Aside (SWK enc k w0 blk off d (grow (wr.drewN nq) osq)) := S1.out.grown nq osq
        clear la1 lb1 hc1 S1 hv1 hd1 ea1 pa1 ba1 ra1 ec1 pc1 bc1 rc1
        generalize grow (wr.drewN nq) osq = w2 at S2 ⊢
        clear nq osq
        go_wp2
        go_roundg (j - (c + 1))
        case measure => omega
        case rel => exact ⟨c + 1, j, by go_num, rfl, by omega, by omega, hjb, Nat.le_refl _, Or.inr (by rw [Nat.add_sub_cancel]; exact HL.out), HJ, S2⟩
    · have hltz : ¬ (i : Int) < (j : Int) := by omega
      have hij' : i = j := by omega
      have HJ2 : Aside (i = m ∨ ltOf cf d[m]! d[i]! = true) := by rw [hij']; have := HJ.out; rw [← hij'] at this ⊢; exact this
      clear hij' HJ
      obtain ⟨w1, hw1⟩ : ∃ W, W = wr := ⟨_, rfl⟩
      rw [← hw1] at S1 ⊢
      clear hw1
      go_wp2
      go_loopg [17] (m - i) (fun kx s wr => ∃ (c : Nat) (dk : Array α), s = .int .i64 c ∧ i ≤ c ∧ c ≤ m ∧ c - i ≤ kx ∧ Aside (dk.size = d0.size) ∧ Aside (dk.toList = p ++ l.take (c - a) ++ r ++ l.drop (c - a) ++ z) ∧ Aside (SWK enc k w0 blk off dk wr))
      case atStart => exact ⟨m, d, by go_num, by omega, by omega, by omega, HK, by obtain ⟨ha, hm, hb, hs, hl1, hd⟩ := HE.out; show _ = _; rw [hd, List.take_of_length_le (by omega), List.drop_of_length_le (by omega)]; simp, S1⟩
      case round =>
        clear S1
        obtain ⟨c, dk, rfl, hac, hci, hkx2, HK2, HL2, S1⟩ := hrel
        by_cases hlt2 : i < c
        · obtain ⟨c, rfl⟩ : ∃ e, c = e + 1 := ⟨c - 1, by omega⟩
          have hlt2z : (i : Int) < ((c + 1 : Nat) : Int) := by omega
          have hdk := HK2.out
          have hcc : ((c + 1 : Nat) : Int) = (c : Int) + 1 := by omega
          rw [hcc] at hlt2z ⊢
          have HL3 : Aside ((swp dk (c + 1) c).toList = p ++ l.take (c - a) ++ r ++ l.drop (c - a) ++ z) := by
            obtain ⟨ha, hm, hb, hs, hl1, hd⟩ := HE.out
            obtain ⟨y, rfl⟩ := List.length_eq_one_iff.1 hl1
            have hcr : c - a < l.length := by omega
            have e := HL2.out
            rw [show c + 1 - a = c - a + 1 by omega, List.take_succ_eq_append_getElem hcr] at e
            have e2 : dk.toList = (p ++ l.take (c - a)) ++ l[c - a] :: ([] ++ y :: (l.drop (c - a + 1) ++ z)) := by rw [e]; simp only [List.append_assoc, List.cons_append, List.nil_append]
            have e3 := (swp_list dk e2 c (c + 1) (by simp; omega) (by simp; omega)).2
            show _ = _
            rw [e3, List.drop_eq_getElem_cons hcr]
            simp only [List.append_assoc, List.cons_append, List.nil_append]
          clear hlt HL2 hcc
          go_wp2_with fail
          have ea2 : ((c : Int) + 1).toNat = c + 1 := by omega
          have pa2 : (0 : Int) ≤ (c : Int) + 1 := by omega
          have ba2 : (c : Int) + 1 < (d0.size : Int) := by omega
          have ra2 : IntKind.i64.wrap ((c : Int) + 1) = (c : Int) + 1 := by rw [IntKind.wrap_i64]; omega
          have ec2 : ((c : Int)).toNat = c := by omega
          have pc2 : (0 : Int) ≤ (c : Int) := by omega
          have bc2 : (c : Int) < (d0.size : Int) := by omega
          have rc2 : IntKind.i64.wrap ((c : Int)) = (c : Int) := by rw [IntKind.wrap_i64]; omega
          have S2 : Aside (SWK enc k w0 blk off (swp dk (c + 1) (c)) ((wr.drew.setCells blk (off + (c + 1) * k) (enc dk[c]!)).setCells blk (off + (c) * k) (enc dk[c + 1]!))) := S1.out.swapped R (c + 1) (c) (by omega) (by omega)
          have la2 := S1.out.ld1 R (by omega) P (c + 1) (by omega)
          have lb2 := S1.out.ld1 R (by omega) P (c) (by omega)
          have sa2 := S1.out.st1 R (by omega) P (c + 1) (by omega) dk[c]!
          have sb2 := S1.out.st2 R (by omega) P (c + 1) (c) (by omega) (by omega) dk[c]! dk[c + 1]!
          have na2 : (enc dk[c + 1]!).length = k := R.hk _
          have nb2 : (enc dk[c]!).length = k := R.hk _
          generalize enc dk[c + 1]! = cI2 at S2 la2 sb2 na2
          generalize enc dk[c]! = cJ2 at S2 lb2 sa2 sb2 nb2
          clear S1 hdk
          go_big_region_o
          clear la2 lb2 sa2 sb2 ea2 pa2 ba2 ra2 ec2 pc2 bc2 rc2 na2 nb2
          generalize (wr.drew.setCells blk (off + (c + 1) * k) cJ2).setCells blk (off + (c) * k) cI2 = w2 at S2 ⊢
          go_wp2
          go_roundg (c - i)
          case measure => omega
          case rel => exact ⟨c, swp dk (c + 1) c, by go_num, by omega, by omega, Nat.le_refl _, by show _ = _; rw [size_swp]; exact HK2.out, HL3, S2⟩
        · have hlt2z : ¬ (i : Int) < (c : Int) := by omega
          go_wp2
          have hFIN : ∃ q : List α, dk.toList = p ++ q ++ z ∧ q.length = l.length + r.length ∧ SameK key q (l ++ r) ∧ Up key lt q := by
            obtain ⟨ha, hm, hb, hs, hl1, hd⟩ := HE.out
            obtain ⟨y, rfl⟩ := List.length_eq_one_iff.1 hl1
            have hy : d[m]! = y := by
              have := at_r hd (i := 0) (by simp)
              rw [hm]; simpa using this
            have hI := HI.out
            have hJ := HJ2.out
            rw [hy, HF.out] at hI hJ
            have hul : Up key lt (l.take (c - a) ++ l.drop (c - a)) := by rw [List.take_append_drop]; exact HU.out
            have h1 : ∀ x ∈ l.take (c - a), lt (key y) (key x) = false := take_le Ln HU.out (by
              rcases hI with q | q
              · exact Or.inl (by omega)
              · by_cases q0 : c - a = 0
                · exact Or.inl q0
                · refine Or.inr ⟨by omega, ?_⟩
                  have := at_l hd (i := c - a - 1) (by omega)
                  rw [show i - 1 = p.length + (c - a - 1) by omega, this] at q
                  exact q)
            have h2 : ∀ x ∈ l.drop (c - a), lt (key y) (key x) = true := drop_gt Ln HU.out (by
              rcases hJ with q | q
              · exact Or.inl (by omega)
              · by_cases q0 : l.length ≤ c - a
                · exact Or.inl q0
                · refine Or.inr ⟨by omega, ?_⟩
                  have := at_l hd (i := c - a) (by omega)
                  rw [show i = p.length + (c - a) by omega, this] at q
                  exact q)
            obtain ⟨g1, g2⟩ := merge_right Ln hul h1 h2
            rw [List.take_append_drop] at g1
            refine ⟨l.take (c - a) ++ y :: l.drop (c - a), ?_, ?_, g1, g2⟩
            · rw [HL2.out]; simp only [List.append_assoc, List.cons_append, List.nil_append]
            · have hcr : c - a ≤ l.length := by omega
              simp only [List.length_append, List.length_cons, List.length_take, List.length_drop, List.length_nil]; omega
          obtain ⟨q, f1, f2, f3, f4⟩ := hFIN
          (try simp only [Exit.inBlock, Exit.then]); refine bodyPost_ret (results_none rfl _ _ _) rfl ?_
          exact ⟨rfl, dk, q, HK2.out, f1, f2, f3, f4, S1.out⟩

end

end Go.Proofs.YtbkijfhfjhpebaaGreatDoor
