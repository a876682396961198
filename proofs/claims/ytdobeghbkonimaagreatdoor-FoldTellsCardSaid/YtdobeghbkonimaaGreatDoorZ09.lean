/-
 The landed graph's sorted (made by gen_graphsorted.py), at List's closure; List.
-/
import Derived.Test.YtdobeghbkonimaaGreatDoorZ08
import Derived.Test.YtdobeghbkonimaaGreatDoorZ01
import Derived.BigQuiet
import Derived.Test.YtdobeghbkonimaaGreatDoorZ01
import Derived.Test.YtdobeghbkonimaaGreatDoorZ04
import Derived.Maps.Own
import Derived.Maps.OwnOps
import Derived.Deep.Cut
import Derived.Test.YtdobeghbkonimaaGreatDoorZ00
import Derived.Test.YtdobeghbkonimaaGreatDoorZ05
import Derived.Shelf.SlMaps.Clone
import Derived.Deep.RegionWith
import Derived.Test.YtdobeghbkonimaaGreatDoorRows
import Derived.Test.YtdobeghbkonimaaGreatDoorZ07
import Derived.Deep.DeepCutAuto
import Derived.Lib.BufferWrite
import Derived.Deep.OwnRows
import Derived.ProofKit
import Derived.OpenShut
import Derived.WideKeyEntry
import Derived.RangeFuncNested
import Derived.RangeFuncBound
import Derived.RangeFuncBox
import Derived.RangeFuncLeaves
import Derived.Shelf.Abstract
import Derived.WalkKit
import Derived.OwnWalkIn
import Derived.TacticsInMore
import Derived.LoopNIn
import Derived.LoopIn
import Derived.Sort.LoopGhostIn
import Derived.Sort.QuietIn
namespace Go.Proofs.YtdobeghbkonimaaGreatDoor
open Go.RowKit StampMath GraphMath

set_option maxRecDepth 100000 in
theorem listClo (d e : St) (b : Nat) (W : World) (hb : W.heap[b]? = some (.cells #[.int .i64 d.1,.int .i64 d.2] 24 (0,0))) :
  Calls Tryz.prog 213 #[.agg #[.int .i64 e.1,.int .i64 e.2],.pointer (some ⟨b,0,none⟩)] W fun x W'=>x = .returned (.bool (decide (e = d)))∧Below W.heap.size W W':=by
 obtain ⟨c0,c1⟩:=two_cells hb
 have hl:=heap_lt hb
 by_cases hq : e = d
 ·have hv:=eqSt_yes hq
  rw [decide_eq_true hq]
  clear hq
  go_enter Tryz.func213,Tryz.ntmps213
  go_wp2_with fail
  go_ret
  exact ⟨rfl,(Below.refl _ _).alloc (Nat.le_refl _) _⟩
 ·have hv:=eqSt_no hq
  rw [decide_eq_false hq]
  clear hq
  go_enter Tryz.func213,Tryz.ntmps213
  go_wp2_with fail
  go_ret
  exact ⟨rfl,(Below.refl _ _).alloc (Nat.le_refl _) _⟩

set_option maxRecDepth 100000 in
set_option maxHeartbeats 1600000 in
theorem sortedList_code (a : Addr) (S : Nat→Prop) (g : Gr) (d : St) (bc : Nat) (q : St→Bool) (hq : ∀ x,q x = decide (x = d)) (w : World) (h : GIn w S a g) (hg : g.ok) (hc : w.heap[bc]? = some (.cells #[.int .i64 d.1,.int .i64 d.2] 24 (0,0))) :
  Calls Tryz.prog 55 #[.pointer (some a),.func (.func 213) #[] #[.pointer (some ⟨bc,0,none⟩)]] w (EntsNew (g.E.filter fun e=>q e.dir) w):=by
 have HC : Hid (∀ (e : St) (W : World),Below w.heap.size w W→Calls Tryz.prog 213 #[.agg #[.int .i64 e.1,.int .i64 e.2],.pointer (some ⟨bc,0,none⟩)] W fun x W'=>x = .returned (.bool (q e))∧Below W.heap.size W W'):=fun e W hW=>by rw [hq]; exact listClo d e bc W ((hW.block bc (heap_lt hc)).trans hc)
 clear hq hc
 obtain ⟨b,bi,be,rfl,h1,h2,h3,hb,hi,he,hS⟩:=h
 obtain ⟨c0,c1⟩:=two_cells hb
 obtain ⟨i0,hi0,hz0,hz1,hz2⟩:=info_parts ent_infos
 have HE:=Lib.hid he
 have hlt:=heap_lt hb
 have hltE:=he.lt
 clear hi he hb hS
 have hlen : Hid ((pairsE g).length≤1000):=by
  show (pairsE g).length≤1000
  unfold pairsE
  rw [List.length_map]
  exact Nat.le_trans hg.entsFew (by decide)
 have hgE:=Lib.hid (hg.sortE.filter fun e=>q e.dir)
 go_enter Tryz.func55,Tryz.ntmps55
 go_wp2_with (at_range; refine wpList_k_range (by rfl) _ _ (by rfl) Tryz.underlying83 be _ (by rfl) HE.out ?_; intro w1 HR1 HB1 HS1)
 go_frame
 go_loopg [5] ((pairsE g).length + 1) (fun gk l wr=>∃ (done todo : List ((St × ByteArray) × St)),gk = todo.length + 1∧Hid (KRange plV stV wr be w.heap.size (pairsE g) todo)∧Hid ((done ++ todo).Perm (pairsE g))∧wr.ownsRow (w.heap.size + 1) 89 5 l ((done.map entOf).filter fun e=>q e.dir).length (flat (((done.map entOf).filter fun e=>q e.dir).map entA))∧Hid (Below w.heap.size w wr)∧w.heap.size + 1≤wr.heap.size)
 case atStart=>exact ⟨[],pairsE g,rfl,HR1,List.Perm.refl _,World.ownsRow_nil _ _ _ _,HB1,by rw [HS1.out]; omega⟩
 case round =>
  obtain ⟨done,todo,rfl,hR,hP,hown,hB,hs1⟩:=hrel
  clear HR1 HB1 HS1
  go_wp2_with (refine wpList_k_next (by rfl) _ (by rfl) be w.heap.size _ _ (by rfl) hR.out ?_ ?_)
  ·intro h0
   have hdone : ((done.map entOf).filter fun e=>q e.dir).Perm (g.E.filter fun e=>q e.dir):=by
    refine List.Perm.filter _ ?_
    have h5:=hP.out
    rw [h0,List.append_nil] at h5
    have h6:=h5.map entOf
    unfold pairsE at h6
    rwa [List.map_map,show entOf ∘ (fun e : Ent=>((e.dir,e.name),e.ino)) = id from rfl,List.map_id] at h6
   have h1000 : ((done.map entOf).filter fun e=>q e.dir).length < 4611686018427387904:=by
    have h5:=hlen.out
    have h6:=hP.out.length_eq
    have h7:=List.length_filter_le (fun e : Ent=>q e.dir) (done.map entOf)
    simp only [List.length_append,List.length_map] at h6 h7
    omega
   generalize ((done.map entOf).filter fun e=>q e.dir) = fs at hdone h1000 hown ⊢
   have HD:=Lib.hid hdone
   clear hdone
   have hs:=sort_own (w:=wr) Tryz.sortEnt 5 Tryz.isAgg89 Tryz.sizeOf89 entA (fun _=>rfl) ent_one aheadI swo_ents 90 #[] (enters_of Tryz.func90 (by kernel_rfl) rfl)
    (fun W x y=>(ahead_grown x y W).mono fun _ _ h=>⟨h.1,h.2.grow⟩) (by simp) hown h1000
   change Calls Tryz.prog 89 _ _ _ at hs
   have hrow:=hown.lt
   clear hown
   have HS:=Lib.hid hs
   clear hs
   go_wp2_with fail
   refine (HS.out).mono ?_
   rintro e w2 ⟨rfl,ys,hp,hsd,hown2,hbut⟩
   have hys : ys = g.E.filter fun e=>q e.dir:=sorted_ents hgE.out (hp.trans HD.out) hsd
   have hl : fs.length = (g.E.filter fun e=>q e.dir).length:=HD.out.length_eq
   rw [hys,hl] at hown2
   clear hp hsd hys
   go_wp2_with fail
   go_ret
   refine ⟨_,rfl,?_,?_⟩
   ·exact own_lower hown2 (Nat.le_succ _)
   ·exact hB.out.trans (hbut.below (fun i hi=>Nat.le_of_succ_le (hrow i hi).1) (by omega))
  ·intro t r nm t' r' todo' w2 hp hR2 hB2 hs2 hen
   simp only [plV,stV,stA] at hen ⊢
   have hown2:=own_iter hown hB2.out (by omega)
   have h1000 : ((done.map entOf).filter fun e=>q e.dir).length≤1000:=by
    have h5:=hlen.out
    have h6:=hP.out.length_eq
    have h7:=List.length_filter_le (fun e : Ent=>q e.dir) (done.map entOf)
    simp only [List.length_append,List.length_map] at h6 h7
    omega
   have hfs : ∀ b : Bool,q (t,r) = b→((done ++ [(((t,r),nm),(t',r'))]).map entOf).filter (fun e=>q e.dir) = ((done.map entOf).filter fun e=>q e.dir) ++ (if b = true then [⟨(t,r),nm,(t',r')⟩] else []):=by
    intro b hb
    rw [List.map_append,List.filter_append]
    congr 1
    simp only [List.map_cons,List.map_nil,entOf,List.filter_cons,List.filter_nil,hb]
   have HF:=Lib.hid hfs
   clear hfs
   have e2 : Below w.heap.size wr w2:=hB2.out.below (fun i hi=>by omega) (by omega)
   have hb2:=hB.out.trans e2
   have hP2 : Hid ((done ++ [(((t,r),nm),(t',r'))] ++ todo').Perm (pairsE g)):=by
    have e1 : (done ++ todo).Perm (done ++ ((((t,r),nm),(t',r')) :: todo')):=hp.out.append_left _
    show (done ++ [(((t,r),nm),(t',r'))] ++ todo').Perm _
    rw [List.append_assoc]
    exact e1.symm.trans hP.out
   have hlen2:=hp.out.length_eq
   simp only [List.length_cons] at hlen2
   generalize ((done.map entOf).filter fun e=>q e.dir) = fs at hown2 h1000 HF
   have hm : fs.length + 1≤maxLen:=by unfold maxLen; omega
   have hs2' : w.heap.size + 1≤w2.heap.size:=by rw [hs2.out]; exact hs1
   clear hown hB hB2 hs2 hP hp hR e2
   go_upto_region 7 with fail
   obtain ⟨z,hz⟩ : ∃ z,z = w2.heap.size:=⟨_,rfl⟩
   have k0 : ((w2.alloc (.cells #[.int .i64 t,.int .i64 r,.string nm] 97)).alloc (.cells #[.int .i64 t',.int .i64 r'] 24)).heap[z]? = some (.cells #[.int .i64 t,.int .i64 r,.string nm] 97 (0,0)):=by rw [hz]; exact heap_alloc2_old w2 _ _
   have k1 : ((w2.alloc (.cells #[.int .i64 t,.int .i64 r,.string nm] 97)).alloc (.cells #[.int .i64 t',.int .i64 r'] 24)).heap[z + 1]? = some (.cells #[.int .i64 t',.int .i64 r'] 24 (0,0)):=by rw [hz]; exact heap_alloc2_new w2 _ _
   have hbA : Below w2.heap.size w2 ((w2.alloc (.cells #[.int .i64 t,.int .i64 r,.string nm] 97)).alloc (.cells #[.int .i64 t',.int .i64 r'] 24)):=((Below.refl _ _).alloc (Nat.le_refl _) _).alloc (by simp) _
   rw [← hz]
   generalize ((w2.alloc (.cells #[.int .i64 t,.int .i64 r,.string nm] 97)).alloc (.cells #[.int .i64 t',.int .i64 r'] 24)) = w3 at k0 k1 hbA ⊢
   have hz3:=hbA.size
   have hown3:=own_call hown2 hbA
   have hR3:=hR2.out.kept (hbA.block _ (by omega)) (hbA.block _ (by omega))
   have hb3:=below_step hb2 hbA
   clear hown2 hR2 hb2 hbA hen hz
   have x0:=cell_of_row _ _ 0 _ _ (0,0) k0
   have x1:=cell_of_row _ _ 1 _ _ (0,0) k0
   go_wp2_with fail
   refine (HC.out (t,r) w3 hb3).mono ?_
   rintro e w4 ⟨rfl,hb4⟩
   have l0:=(hb4.block _ (heap_lt k0)).trans k0
   have l1:=(hb4.block _ (heap_lt k1)).trans k1
   have hz4:=hb4.size
   have hown4:=own_call hown3 hb4
   have hR4:=hR3.kept (hb4.block _ (by omega)) (hb4.block _ (by omega))
   have hb5:=below_step hb3 hb4
   have HR4:=Lib.hid hR4
   have HB5:=Lib.hid hb5
   have HL0:=Lib.hid l0
   clear hown3 hR3 hb3 hb4 x0 x1 k0 k1 hR4 hb5
   obtain ⟨qb,hqb⟩ : ∃ qb,qb = q (t,r):=⟨_,rfl⟩
   have hF:=HF.out qb hqb.symm
   rw [← hqb]
   clear hqb HF
   cases qb with
   | false =>
    rw [if_neg (by decide),List.append_nil] at hF
    have HF:=Lib.hid hF
    clear hF
    go_wp2_with fail
    go_roundg (todo'.length + 1)
    case measure=>omega
    case rel=>exact ⟨done ++ [(((t,r),nm),(t',r'))],todo',rfl,HR4.out,hP2.out,by rw [HF.out]; exact hown4,HB5.out,by omega⟩
   | true =>
    rw [if_pos rfl] at hF
    have HF:=Lib.hid hF
    clear hF
    have x0:=cell_of_row _ _ 0 _ _ (0,0) HL0.out
    have x1:=cell_of_row _ _ 1 _ _ (0,0) HL0.out
    have x2:=cell_of_row _ _ 2 _ _ (0,0) HL0.out
    obtain ⟨y0,y1⟩:=two_cells l1
    have HW:=Lib.hid (row_there w4 89 (entA ⟨(t,r),nm,(t',r')⟩))
    go_wp2_with (at_builtin; refine wpList_append_own _ rfl (.tmp 24) (.tmp 31) 35 rfl (w.heap.size + 1) 89 i0 _ 5 48 Tryz.underlying35 hi0 hz0 hz1 hz2 rfl (by decide) _ _ _ rfl (hown4.alloc _) ⟨w4.heap.size,0,none⟩ 1 1 (entA ⟨(t,r),nm,(t',r')⟩).toList rfl rfl HW.out (ent_one _) hm (by omega) (by simp; omega) ?_; intro v2 w5 hown5 hg5 _)
    have hbw : Below (w.heap.size + 1) w4 w5:=(((Below.refl w4.heap.size w4).alloc (Nat.le_refl _) _).mono (by omega)).grown hg5 (by simp; omega) (fun j hj=>(hown4.lt j hj).1)
    go_roundg (todo'.length + 1)
    case measure=>omega
    case rel =>
     refine ⟨done ++ [(((t,r),nm),(t',r'))],todo',rfl,HR4.out.kept (hbw.block _ (by omega)) (hbw.block _ (by omega)),hP2.out,?_,HB5.out.trans (hbw.mono (by omega)),by have:=hbw.size; omega⟩
     rw [HF.out,List.length_append]
     show w5.ownsRow _ _ 5 v2 (fs.length + 1) _
     rw [← flat_ent]
     exact hown5

set_option maxRecDepth 100000 in
theorem list_code (a : Addr) (S : Nat→Prop) (g : Gr) (id : St) (w : World) (h : GIn w S a g) (hg : g.ok) :
  Calls Tryz.prog 199 #[.pointer (some a),.agg (stA id)] w (EntsNew (listE g.E id) w):=by
 have hb0 : Below w.heap.size w (w.alloc (.cells #[.int .i64 id.1,.int .i64 id.2] 24)):=(Below.refl _ _).alloc (Nat.le_refl _) _
 have hs:=sortedList_code a S g id w.heap.size (fun x=>decide (x = id)) (fun _=>rfl) (w.alloc (.cells #[.int .i64 id.1,.int .i64 id.2] 24)) (h.keep fun i hi=>hb0.block i (h.lt i hi)) hg (heap_alloc_new w _)
 have HS:=Lib.hid hs
 clear h hs
 unfold stA
 go_enter Tryz.func199,Tryz.ntmps199
 go_wp2_with fail
 refine (HS.out).mono ?_
 rintro e w2 ⟨v,rfl,hown,hb⟩
 go_wp2_with fail
 go_ret
 exact ⟨v,rfl,own_lower hown hb0.size,below_step hb0 hb⟩

end Go.Proofs.YtdobeghbkonimaaGreatDoor

namespace Go.Proofs.YtdobeghbkonimaaGreatDoor
open Go.RowKit StampMath GraphMath

set_option maxRecDepth 100000 in
set_option maxHeartbeats 1600000 in
theorem drop_code (a : Addr) (S : Nat→Prop) (g : Gr) (id : St) (w : World) (h : GIn w S a g) (hg : g.ok) :
  Calls Tryz.prog 167 #[.pointer (some a),.agg (stA id)] w fun e w'=>e = .returned (.int .i64 (dropG g id).2)∧GIn w' S a (dropG g id).1∧But S w w':=by
 have hbW : Below w.heap.size w (w.alloc (.cells #[.int .i64 id.1,.int .i64 id.2] 24)):=(Below.refl _ _).alloc (Nat.le_refl _) _
 have hget : ∀ W : World,Below w.heap.size w W→Calls Tryz.prog 35 #[.pointer (some a),.agg (stA id)] W fun e w'=>e = .returned (.tuple #[.agg (inoA ((getG g id).getD noIno)),.bool (getG g id).isSome])∧Below W.heap.size W w':=fun W hW=>get_code a S g id W (h.keep fun i hi=>hW.block i (h.lt i hi)) hg
 cases hq : getG g id with
 | none =>
  have e1 : dropG g id = (g,3):=by unfold dropG; rw [hq]
  rw [hq] at hget
  have HQ : Hid (∀ W : World,Below w.heap.size w W→Calls Tryz.prog 35 #[.pointer (some a),.agg #[.int .i64 id.1,.int .i64 id.2]] W fun e w'=>e = .returned (.tuple #[.agg #[.int .i64 0,.int .i64 0,.int .i64 0,.int .i64 0,.int .i64 0,.string ⟨#[]⟩],.bool false])∧Below W.heap.size W w'):=hget
  rw [e1]
  have hG:=Lib.hid h
  clear h e1 hq hget
  unfold stA
  go_enter Tryz.func167,Tryz.ntmps167
  go_wp2_with fail
  refine (HQ.out _ hbW).mono ?_
  rintro e w1 ⟨rfl,hb1⟩
  have hb2:=below_step hbW hb1
  go_wp2_with fail
  go_ret
  have hb3:=hb2.alloc hb2.size (.cells #[.int .i64 0,.int .i64 0,.int .i64 0,.int .i64 0,.int .i64 0,.string ⟨#[]⟩] 59)
  exact ⟨rfl,hG.out.keep fun i hi=>hb3.block i (hG.out.lt i hi),But.of_below hb3⟩
 | some X =>
  rw [hq] at hget
  have HQ : Hid (∀ W : World,Below w.heap.size w W→Calls Tryz.prog 35 #[.pointer (some a),.agg #[.int .i64 id.1,.int .i64 id.2]] W fun e w'=>e = .returned (.tuple #[.agg #[.int .i64 X.id.1,.int .i64 X.id.2,.int .i64 X.kind,.int .i64 X.links,.int .i64 X.mode,.string X.data],.bool true])∧Below W.heap.size W w'):=hget
  have hlist : ∀ W : World,Below w.heap.size w W→Calls Tryz.prog 199 #[.pointer (some a),.agg (stA id)] W (EntsNew (listE g.E id) W):=fun W hW=>list_code a S g id W (h.keep fun i hi=>hW.block i (h.lt i hi)) hg
  have HLs : Hid (∀ W : World,Below w.heap.size w W→Calls Tryz.prog 199 #[.pointer (some a),.agg #[.int .i64 id.1,.int .i64 id.2]] W (EntsNew (listE g.E id) W)):=hlist
  have hG:=Lib.hid h
  clear hlist
  obtain ⟨b,bi,be,rfl,h1,h2,h3,hb,hi,he,hS⟩:=h
  obtain ⟨d0,d1⟩:=two_cells hb
  have hlt:=heap_lt hb
  have HI:=Lib.hid hi
  have HE:=Lib.hid he
  have HS:=Lib.hid hS
  have HBlk:=Lib.hid hb
  have HG:=Lib.hid hq
  clear hi he hS hb hget hq d1
  unfold stA
  go_enter Tryz.func167,Tryz.ntmps167
  go_wp2_with fail
  refine (HQ.out _ hbW).mono ?_
  rintro e w1 ⟨rfl,hb1⟩
  have hr0 : w1.heap[w.heap.size]? = some (.cells #[.int .i64 id.1,.int .i64 id.2] 24 (0,0)):=(hb1.block _ (by simp)).trans (heap_alloc_new w _)
  have hb2:=below_step hbW hb1
  clear hb1 hbW
  go_upto_region 2 with fail
  change Code.wp _ _ _ _ (w1.alloc (.cells (inoA X) 59))
  obtain ⟨u,hu⟩ : ∃ u,u = w1.heap.size:=⟨_,rfl⟩
  have hlow : w.heap.size < u:=by rw [hu]; exact heap_lt hr0
  have r0 : (w1.alloc (.cells (inoA X) 59)).heap[w.heap.size]? = _:=(heap_alloc_old w1 _ (by omega)).trans hr0
  have r1 : (w1.alloc (.cells (inoA X) 59)).heap[u]? = some (.cells (inoA X) 59 (0,0)):=by rw [hu]; exact heap_alloc_new _ _
  have hb3:=hb2.alloc hb2.size (.cells (inoA X) 59)
  rw [← hu]
  generalize w1.alloc (.cells (inoA X) 59) = w2 at r0 r1 hb3 ⊢
  clear hr0 hb2 hu
  obtain ⟨x0,x1⟩:=two_cells r0
  have hD : dropG g id = if id = (0,0) then (g,8) else if 0 < X.links∨0 < (listE g.E id).length then (g,7) else (⟨g.I.filter fun x=>!decide (x.id = id),g.E⟩,0):=by unfold dropG; rw [HG.out]
  have HRl : Hid (∀ y,Calls Tryz.prog 62 #[] (later w2 y) fun e w'=>e = .returned (.agg #[.int .i64 0,.int .i64 0])∧Below (later w2 y).heap.size (later w2 y) w'):=fun y=>root_any _
  have HT0:=Lib.hid r0
  have HT1:=Lib.hid r1
  have HB2:=Lib.hid hb3
  have l0:=later_cell x0
  have l1:=later_cell x1
  clear r0 r1 hb3 x0 x1
  by_cases hz : id = (0,0)
  ·have hv : ∀ W : World,(Op.equalIn 10000 24 (.agg #[.int .i64 id.1,.int .i64 id.2]) (.agg #[.int .i64 0,.int .i64 0])).run Tryz.prog W = .ok true W:=fun W=>by rw [run_eqSt,decide_eq_true (show ((id.1,id.2) : St) = (0,0) from hz)]
   rw [if_pos hz] at hD
   have HD:=Lib.hid hD
   clear hD hz
   go_upto_region 4 with fail
   refine wp_region_later (by kernel_rfl) (by kernel_rfl) ?_
   repeat (go_big_quiet_step (first | (with_reducible exact later_call (HRl.out _))))
   refine wpQuiet_nil ?_
   intro _ hw'
   obtain ⟨y,rfl⟩:=hw'
   clear l0 l1
   go_wp2_with fail
   go_ret
   rw [HD.out]
   have hb3:=below_step HB2.out (later_below w2 y)
   exact ⟨rfl,hG.out.keep fun i hi=>hb3.block i (hG.out.lt i hi),But.of_below hb3⟩
  ·have hv : ∀ W : World,(Op.equalIn 10000 24 (.agg #[.int .i64 id.1,.int .i64 id.2]) (.agg #[.int .i64 0,.int .i64 0])).run Tryz.prog W = .ok false W:=fun W=>by rw [run_eqSt,decide_eq_false (show ¬ ((id.1,id.2) : St) = (0,0) from hz)]
   rw [if_neg hz] at hD
   clear hz
   go_upto_region 4 with fail
   refine wp_region_later (by kernel_rfl) (by kernel_rfl) ?_
   repeat (go_big_quiet_step (first | (with_reducible exact later_call (HRl.out _))))
   refine wpQuiet_nil ?_
   intro _ hw'
   obtain ⟨y,rfl⟩:=hw'
   clear l0 l1 hv
   have hb3:=below_step HB2.out (later_below w2 y)
   have r0:=((later_below w2 y).block _ (heap_lt HT0.out)).trans HT0.out
   have r1:=((later_below w2 y).block _ (heap_lt HT1.out)).trans HT1.out
   generalize later w2 y = w2 at hb3 r0 r1 ⊢
   obtain ⟨x0,x1⟩:=two_cells r0
   have hx3:=(ino_cells r1).2.2.2.1
   by_cases hl : 0 < X.links
   ·rw [if_pos (Or.inl hl)] at hD
    have HD:=Lib.hid hD
    clear hD
    go_wp2_with fail
    go_ret
    rw [HD.out]
    exact ⟨rfl,hG.out.keep fun i hi=>hb3.block i (hG.out.lt i hi),But.of_below hb3⟩
   ·have HDp:=Lib.hid hD
    clear hD
    go_wp2_with fail
    refine (HLs.out _ hb3).mono ?_
    rintro e w3 ⟨v,rfl,hown,hb4⟩
    obtain ⟨A,c,rfl,hEin,hnc,hcm,_⟩:=ents_own rfl hown
    have hb5:=below_step hb3 hb4
    have t0 : w3.heap[w.heap.size]? = _:=(hb4.block _ (heap_lt r0)).trans r0
    clear hown hEin hb4 r0 r1 x0 x1 hx3
    by_cases hn : 0 < (listE g.E id).length
    ·have HD : Hid (dropG g id = (g,7)):=by
      have:=HDp.out
      rwa [if_pos (Or.inr hn)] at this
     have hn' : (0 : Int) < ((listE g.E id).length : Int):=by omega
     generalize ((listE g.E id).length) = ln at hn hn' hnc ⊢
     go_wp2_with fail
     go_ret
     rw [HD.out]
     exact ⟨rfl,hG.out.keep fun i hi=>hb5.block i (hG.out.lt i hi),But.of_below hb5⟩
    ·have HD : Hid (dropG g id = (⟨g.I.filter fun x=>!decide (x.id = id),g.E⟩,0)):=by
      have:=HDp.out
      rwa [if_neg (by omega)] at this
     have hn' : (listE g.E id).length = 0:=by omega
     rw [hn'] at hnc ⊢
     obtain ⟨x0,x1⟩:=two_cells t0
     have d0w:=(hb5.cell (p:=⟨b,0,none⟩) hlt).trans d0
     obtain ⟨w5,hrun,hm5,hbut5,hsz5⟩:=(HI.out.kept (hb5.drew.block bi HI.out.lt)).drop stShape Tryz.underlying82 id 0
     simp only [stV,stA] at hrun
     have HM5:=Lib.hid hm5
     have hb6 : But (fun i=>i = bi) w w5:=(But.of_below hb5.drew).trans hbut5 fun i hi _=>hi
     have HB6:=Lib.hid hb6
     clear hm5 hb5 hbut5 t0 hb6
     go_wp2_with fail
     go_region
     go_wp2_with fail
     go_ret
     have h0 : (dropG g id).2 = 0:=by rw [HD.out]
     have hok:=hg.drop id
     refine ⟨by rw [h0]; rfl,⟨b,bi,be,rfl,h1,h2,h3,?_,?_,?_,HS.out⟩,HB6.out.mono fun i hi=>(HS.out i).2 (Or.inr (Or.inl hi))⟩
     ·exact HB6.out.heap HBlk.out (fun q=>h1 q)
     ·refine HM5.out.perm (off_perm (keys_pairsI hg) (keys_pairsI hok) fun k=>?_)
      rw [look_pairsI hok,look_pairsI hg,drop_get hg h0]
     ·have e1 : pairsE (dropG g id).1 = pairsE g:=by unfold pairsE; rw [drop_ents]
      rw [e1]
      exact HE.out.kept (HB6.out.block be HE.out.lt fun q=>h3 q.symm)

end Go.Proofs.YtdobeghbkonimaaGreatDoor

namespace Go.Proofs.YtdobeghbkonimaaGreatDoor
open Go.RowKit StampMath GraphMath

set_option maxRecDepth 100000 in
set_option maxHeartbeats 1600000 in
theorem set_code (a : Addr) (S : Nat→Prop) (g : Gr) (id : St) (mode : Int) (data : ByteArray) (w : World) (h : GIn w S a g) (hg : g.ok) :
  Calls Tryz.prog 163 #[.pointer (some a),.agg (stA id),.int .i64 mode,.string data] w fun e w'=>e = .returned (.int .i64 (setG g id mode data).2)∧GIn w' S a (setG g id mode data).1∧But S w w':=by
 have hbW : Below w.heap.size w (w.alloc (.cells #[.int .i64 id.1,.int .i64 id.2] 24)):=(Below.refl _ _).alloc (Nat.le_refl _) _
 have hget : ∀ W : World,Below w.heap.size w W→Calls Tryz.prog 35 #[.pointer (some a),.agg (stA id)] W fun e w'=>e = .returned (.tuple #[.agg (inoA ((getG g id).getD noIno)),.bool (getG g id).isSome])∧Below W.heap.size W w':=fun W hW=>get_code a S g id W (h.keep fun i hi=>hW.block i (h.lt i hi)) hg
 cases hq : getG g id with
 | none =>
  have e1 : setG g id mode data = (g,3):=by unfold setG; rw [hq]
  rw [hq] at hget
  have HQ : Hid (∀ W : World,Below w.heap.size w W→Calls Tryz.prog 35 #[.pointer (some a),.agg #[.int .i64 id.1,.int .i64 id.2]] W fun e w'=>e = .returned (.tuple #[.agg #[.int .i64 0,.int .i64 0,.int .i64 0,.int .i64 0,.int .i64 0,.string ⟨#[]⟩],.bool false])∧Below W.heap.size W w'):=hget
  rw [e1]
  have hG:=Lib.hid h
  clear h e1 hq hget
  unfold stA
  go_enter Tryz.func163,Tryz.ntmps163
  go_wp2_with fail
  refine (HQ.out _ hbW).mono ?_
  rintro e w1 ⟨rfl,hb1⟩
  have hb2:=below_step hbW hb1
  go_wp2_with fail
  go_ret
  have hb3:=hb2.alloc hb2.size (.cells #[.int .i64 0,.int .i64 0,.int .i64 0,.int .i64 0,.int .i64 0,.string ⟨#[]⟩] 59)
  exact ⟨rfl,hG.out.keep fun i hi=>hb3.block i (hG.out.lt i hi),But.of_below hb3⟩
 | some X =>
  rw [hq] at hget
  have HQ : Hid (∀ W : World,Below w.heap.size w W→Calls Tryz.prog 35 #[.pointer (some a),.agg #[.int .i64 id.1,.int .i64 id.2]] W fun e w'=>e = .returned (.tuple #[.agg #[.int .i64 X.id.1,.int .i64 X.id.2,.int .i64 X.kind,.int .i64 X.links,.int .i64 X.mode,.string X.data],.bool true])∧Below W.heap.size W w'):=hget
  obtain ⟨b,bi,be,rfl,h1,h2,h3,hb,hi,he,hS⟩:=h
  obtain ⟨d0,d1⟩:=two_cells hb
  have hlt:=heap_lt hb
  have HI:=Lib.hid hi
  have HE:=Lib.hid he
  have HS:=Lib.hid hS
  have HBlk:=Lib.hid hb
  have HG:=Lib.hid hq
  clear hi he hS hb hget hq d1
  unfold stA
  go_enter Tryz.func163,Tryz.ntmps163
  go_wp2_with fail
  refine (HQ.out _ hbW).mono ?_
  rintro e w1 ⟨rfl,hb1⟩
  have hr0 : w1.heap[w.heap.size]? = some (.cells #[.int .i64 id.1,.int .i64 id.2] 24 (0,0)):=(hb1.block _ (by simp)).trans (heap_alloc_new w _)
  have hb2:=below_step hbW hb1
  clear hb1 hbW
  go_upto_region 2 with fail
  change Code.wp _ _ _ _ (w1.alloc (.cells (inoA X) 59))
  obtain ⟨u,hu⟩ : ∃ u,u = w1.heap.size:=⟨_,rfl⟩
  have hlow : w.heap.size < u:=by rw [hu]; exact heap_lt hr0
  have r0 : (w1.alloc (.cells (inoA X) 59)).heap[w.heap.size]? = _:=(heap_alloc_old w1 _ (by omega)).trans hr0
  have r1 : (w1.alloc (.cells (inoA X) 59)).heap[u]? = some (.cells (inoA X) 59 (0,0)):=by rw [hu]; exact heap_alloc_new _ _
  have hb3:=hb2.alloc hb2.size (.cells (inoA X) 59)
  rw [← hu]
  generalize w1.alloc (.cells (inoA X) 59) = w2 at r0 r1 hb3 ⊢
  clear hr0 hb2 hu
  obtain ⟨y0,y1,y2,y3,y4,y5⟩:=ino_cells r1
  obtain ⟨f0,f1,f2,f3,f4,f5⟩:=ino_free r1
  go_wp2_with fail
  have s1 : ((w2.setCell ⟨u,4,none⟩ (.int .i64 mode)).setCell ⟨u,5,none⟩ (.string data)).heap[u]? = some (.cells (inoA { X with mode:=mode,data:=data }) 59 (0,0)):=heap_setCell_same _ _ _ _ _ _ (heap_setCell_same _ _ _ _ _ _ r1)
  have s0 : ((w2.setCell ⟨u,4,none⟩ (.int .i64 mode)).setCell ⟨u,5,none⟩ (.string data)).heap[w.heap.size]? = _:=(heap_setCell_other _ _ _ _ (by dsimp only; omega)).trans ((heap_setCell_other _ _ _ _ (by dsimp only; omega)).trans r0)
  have hb5:=(hb3.setCell (p:=⟨u,4,none⟩) (by dsimp only; omega) (.int .i64 mode)).setCell (p:=⟨u,5,none⟩) (by dsimp only; omega) (.string data)
  generalize (w2.setCell ⟨u,4,none⟩ (.int .i64 mode)).setCell ⟨u,5,none⟩ (.string data) = w4 at s0 s1 hb5 ⊢
  clear r0 r1 hb3 y0 y1 y2 y3 y4 y5 f0 f1 f2 f3 f4 f5
  obtain ⟨y0,y1,y2,y3,y4,y5⟩:=ino_cells s1
  obtain ⟨x0,x1⟩:=two_cells s0
  have d0w:=(hb5.cell (p:=⟨b,0,none⟩) hlt).trans d0
  obtain ⟨w5,hrun,hm5,hbut5,hsz5⟩:=(HI.out.kept (hb5.drew.block bi HI.out.lt)).store stShape Tryz.underlying82 id { X with mode:=mode,data:=data }
  simp only [stV,stA,inoV,inoA] at hrun
  have HM5:=Lib.hid hm5
  have hb6 : But (fun i=>i = bi) w w5:=(But.of_below hb5.drew).trans hbut5 fun i hi _=>hi
  have HB6:=Lib.hid hb6
  clear hm5 hb5 hbut5 s0 s1 hb6
  go_region
  go_wp2_with fail
  go_ret
  have hu : setG g id mode data = (⟨g.I.map fun x=>if x.id = id then { x with mode:=mode,data:=data } else x,g.E⟩,0):=by unfold setG; rw [HG.out]
  have hok:=hg.set id mode data
  refine ⟨by rw [hu]; rfl,⟨b,bi,be,rfl,h1,h2,h3,?_,?_,?_,HS.out⟩,HB6.out.mono fun i hi=>(HS.out i).2 (Or.inr (Or.inl hi))⟩
  ·exact HB6.out.heap HBlk.out (fun q=>h1 q)
  ·refine HM5.out.perm (put_perm (keys_pairsI hg) (keys_pairsI hok) fun k=>?_)
   rw [look_pairsI hok,look_pairsI hg,set_get]
   by_cases hk : k = id
   ·rw [if_pos hk,hk,HG.out]
    simp
   ·rw [if_neg hk]
    cases getG g k <;> simp [hk]
  ·have e1 : pairsE (setG g id mode data).1 = pairsE g:=by unfold pairsE; rw [set_ents]
   rw [e1]
   exact HE.out.kept (HB6.out.block be HE.out.lt fun q=>h3 q.symm)

end Go.Proofs.YtdobeghbkonimaaGreatDoor

namespace Go.Proofs.YtdobeghbkonimaaGreatDoor
open Go.RowKit StampMath GraphMath

theorem parent_kind {g : Gr} {d : St} (h : ¬ ((getG g d).getD noIno).kind = 1) : parentG g d = none:=by
 unfold parentG
 cases hq : getG g d with
 | none=>rfl
 | some x =>
  rw [hq] at h
  exact if_neg h

theorem dir_kind {g : Gr} {d : St} (h : ((getG g d).getD noIno).kind = 1) : g.isDir d:=by
 cases hq : getG g d with
 | none=>rw [hq] at h; exact absurd h (by decide)
 | some x =>
  rw [hq] at h
  exact getDir_of hq h

set_option maxRecDepth 100000 in
set_option maxHeartbeats 1600000 in
theorem parent_code (a : Addr) (S : Nat→Prop) (g : Gr) (d : St) (w : World) (h : GIn w S a g) (hg : g.ok) :
  Calls Tryz.prog 200 #[.pointer (some a),.agg (stA d)] w fun e w'=>e = .returned (.tuple #[.agg (stA ((parentG g d).getD (0,0))),.bool (parentG g d).isSome])∧Below w.heap.size w w':=by
 obtain ⟨X,hX⟩ : ∃ X,X = (getG g d).getD noIno:=⟨_,rfl⟩
 obtain ⟨is,his⟩ : ∃ is,is = (getG g d).isSome:=⟨_,rfl⟩
 have HG : Hid (∀ W : World,Below w.heap.size w W→Calls Tryz.prog 35 #[.pointer (some a),.agg #[.int .i64 d.1,.int .i64 d.2]] W fun e w'=>e = .returned (.tuple #[.agg #[.int .i64 X.id.1,.int .i64 X.id.2,.int .i64 X.kind,.int .i64 X.links,.int .i64 X.mode,.string X.data],.bool is])∧Below W.heap.size W w'):=fun W hW=>by
  rw [hX,his]
  exact get_code a S g d W (h.keep fun i hi=>hW.block i (h.lt i hi)) hg
 have HN : Hid (¬ X.kind = 1→parentG g d = none):=fun q=>parent_kind (by rw [← hX]; exact q)
 have HD : Hid (X.kind = 1→g.isDir d):=fun q=>dir_kind (by rw [← hX]; exact q)
 obtain ⟨b,bi,be,rfl,h1,h2,h3,hb,hi,he,hS⟩:=h
 obtain ⟨d0,d1⟩:=two_cells hb
 have hlt:=heap_lt hb
 have HE:=Lib.hid he
 clear hX his hi he hb hS d0
 have hb0 : Below w.heap.size w ((w.alloc (.cells #[.int .i64 d.1,.int .i64 d.2] 24)).alloc (.cells #[.int .i64 0,.int .i64 0] 24)):=((Below.refl _ _).alloc (Nat.le_refl _) _).alloc (by simp) _
 unfold stA
 go_enter Tryz.func200,Tryz.ntmps200
 go_wp2_with fail
 refine (HG.out _ hb0).mono ?_
 rintro e w1 ⟨rfl,hb1⟩
 have q0 : w1.heap[w.heap.size]? = some (.cells #[.int .i64 d.1,.int .i64 d.2] 24 (0,0)):=(hb1.block _ (by simp <;> omega)).trans (heap_alloc2_old w _ _)
 have q1 : w1.heap[w.heap.size + 1]? = some (.cells #[.int .i64 0,.int .i64 0] 24 (0,0)):=(hb1.block _ (by simp)).trans (heap_alloc2_new w _ _)
 have hb2:=below_step hb0 hb1
 clear hb0 hb1
 go_upto_region 2 with fail
 change Code.wp _ _ _ _ (w1.alloc (.cells (inoA X) 59))
 obtain ⟨u,hu⟩ : ∃ u,u = w1.heap.size:=⟨_,rfl⟩
 have hlow : w.heap.size + 1 < u:=by rw [hu]; exact heap_lt q1
 have r0 : (w1.alloc (.cells (inoA X) 59)).heap[w.heap.size]? = _:=(heap_alloc_old w1 _ (by omega)).trans q0
 have r1 : (w1.alloc (.cells (inoA X) 59)).heap[w.heap.size + 1]? = _:=(heap_alloc_old w1 _ (by omega)).trans q1
 have r2 : (w1.alloc (.cells (inoA X) 59)).heap[u]? = some (.cells (inoA X) 59 (0,0)):=by rw [hu]; exact heap_alloc_new _ _
 have hb3:=hb2.alloc hb2.size (.cells (inoA X) 59)
 rw [← hu]
 generalize w1.alloc (.cells (inoA X) 59) = w2 at r0 r1 r2 hb3 ⊢
 clear q0 q1 hb2 hu
 have hx2:=(ino_cells r2).2.2.1
 have hu2:=heap_lt r2
 by_cases hk : X.kind = 1
 ·have hkd : (X.kind == 1) = true:=beq_iff_eq.2 hk
  have HDir:=Lib.hid (HD.out hk)
  have d1w:=(hb3.cell (p:=⟨b,1,none⟩) hlt).trans d1
  have HE2:=Lib.hid (HE.out.kept (hb3.block be HE.out.lt))
  have hltE:=HE2.out.lt
  have HR0:=Lib.hid r0
  have HR1:=Lib.hid r1
  have HB3:=Lib.hid hb3
  clear hk HN HD r0 r1 r2 hb3
  go_wp2_with (at_range; refine wpList_k_range (by rfl) _ _ (by rfl) Tryz.underlying83 be _ (by rfl) HE2.out ?_; intro v1 HRg HB1 HS1)
  rw [show (X.kind != 1) = false by rw [bne,hkd]; rfl]
  clear hx2 hkd d1w
  go_frame
  go_loopg [] ((pairsE g).length + 1) (fun gk wr=>∃ (done todo : List ((St × ByteArray) × St)),gk = todo.length + 1∧Hid (KRange plV stV wr be w2.heap.size (pairsE g) todo)∧Hid ((done ++ todo).Perm (pairsE g))∧Hid (∀ p∈done,p.2 ≠ d)∧Hid (Below w2.heap.size w2 wr)∧w2.heap.size + 1≤wr.heap.size)
  case atStart=>exact ⟨[],pairsE g,rfl,HRg,List.Perm.refl _,(fun p hp=>by cases hp),HB1,by rw [HS1.out]; omega⟩
  case round =>
   obtain ⟨done,todo,rfl,hR,hP,hnone,hB,hs1⟩:=hrel
   clear HRg HB1 HS1
   have t0:=(hB.out.block _ (by omega)).trans HR0.out
   have t1:=(hB.out.block _ (by omega)).trans HR1.out
   go_wp2_with (refine wpList_k_next (by rfl) _ (by rfl) be w2.heap.size _ _ (by rfl) hR.out ?_ ?_)
   ·intro h0
    have hR : parentG g d = none:=by
     cases hq : parentG g d with
     | none=>rfl
     | some up =>
      obtain ⟨e,he,hei,_⟩:=parent_of hq
      have hm : ((e.dir,e.name),e.ino)∈pairsE g:=List.mem_map.2 ⟨e,he,rfl⟩
      rw [h0,List.append_nil] at hP
      exact absurd hei (hnone.out _ (hP.out.mem_iff.2 hm))
    have HQ:=Lib.hid hR
    clear hR h0
    obtain ⟨m0,m1⟩:=two_cells t1
    obtain ⟨f0,f1⟩:=two_free t1
    go_wp2_with fail
    obtain ⟨z0,z1⟩:=two_cells (box_set (c:=.int .i64 0) (d:=.int .i64 0) t1)
    exact bodyPost_ret (v:=.tuple #[.agg (stA (0,0)),.bool false]) (by simp [results,Tryz.results200,go_sem,stA,z0,z1]) rfl ⟨by rw [HQ.out]; rfl,(below_step HB3.out hB.out |>.setCell (by dsimp only; omega) _).setCell (by dsimp only; omega) _⟩
   ·intro t r nm t' r' todo' w4 hp hR2 hB2 hs2 hen
    simp only [plV,stV,stA] at hen ⊢
    have hs2' : w2.heap.size + 1≤w4.heap.size:=by rw [hs2.out]; exact hs1
    have n0:=(hB2.out.block _ (by omega) (by omega)).trans t0
    have n1:=(hB2.out.block _ (by omega) (by omega)).trans t1
    have hb4:=hB.out.trans (hB2.out.below (fun i hi=>by omega) (by omega))
    have hP2 : Hid ((done ++ [(((t,r),nm),(t',r'))] ++ todo').Perm (pairsE g)):=by
     have e1 : (done ++ todo).Perm (done ++ ((((t,r),nm),(t',r')) :: todo')):=hp.out.append_left _
     show (done ++ [(((t,r),nm),(t',r'))] ++ todo').Perm _
     rw [List.append_assoc]
     exact e1.symm.trans hP.out
    have hlen2:=hp.out.length_eq
    simp only [List.length_cons] at hlen2
    clear t0 t1 hB hB2 hs2 hP hp hR
    go_upto_region 7 with fail
    obtain ⟨z,hz⟩ : ∃ z,z = w4.heap.size:=⟨_,rfl⟩
    have k0 : ((w4.alloc (.cells #[.int .i64 t,.int .i64 r,.string nm] 97)).alloc (.cells #[.int .i64 t',.int .i64 r'] 24)).heap[z]? = some (.cells #[.int .i64 t,.int .i64 r,.string nm] 97 (0,0)):=by rw [hz]; exact heap_alloc2_old w4 _ _
    have k1 : ((w4.alloc (.cells #[.int .i64 t,.int .i64 r,.string nm] 97)).alloc (.cells #[.int .i64 t',.int .i64 r'] 24)).heap[z + 1]? = some (.cells #[.int .i64 t',.int .i64 r'] 24 (0,0)):=by rw [hz]; exact heap_alloc2_new w4 _ _
    have hbA : Below w4.heap.size w4 ((w4.alloc (.cells #[.int .i64 t,.int .i64 r,.string nm] 97)).alloc (.cells #[.int .i64 t',.int .i64 r'] 24)):=((Below.refl _ _).alloc (Nat.le_refl _) _).alloc (by simp) _
    rw [← hz]
    generalize ((w4.alloc (.cells #[.int .i64 t,.int .i64 r,.string nm] 97)).alloc (.cells #[.int .i64 t',.int .i64 r'] 24)) = w5 at k0 k1 hbA ⊢
    have hz5:=hbA.size
    have hR5:=Lib.hid (hR2.out.kept (hbA.block _ (by omega)) (hbA.block _ (by omega)))
    have hb5:=below_step hb4 hbA
    have t0:=(hbA.block _ (by omega)).trans n0
    have t1:=(hbA.block _ (by omega)).trans n1
    clear hz hbA hR2 hb4 n0 n1 hen
    have x0:=cell_of_row _ _ 0 _ _ (0,0) k0
    have x1:=cell_of_row _ _ 1 _ _ (0,0) k0
    obtain ⟨y0,y1⟩:=two_cells k1
    obtain ⟨c3,c4⟩:=two_cells t0
    obtain ⟨m0,m1⟩:=two_cells t1
    obtain ⟨f0,f1⟩:=two_free t1
    have HT1:=Lib.hid t1
    have HB5:=Lib.hid hb5
    clear k0 k1 t0 t1 hb5
    by_cases hq : ((t',r') : St) = d
    ·have hv:=eqSt_yes hq
     have HQ : Hid (parentG g d = some (t,r)):=by
      have hm : (((t,r),nm),(t',r'))∈pairsE g:=hP2.out.mem_iff.1 (by simp)
      obtain ⟨e,he,hee⟩:=List.mem_map.1 hm
      have e1 : e.ino = d:=by rw [← hq]; exact congrArg Prod.snd hee
      have e2 : e.dir = (t,r):=congrArg (fun p=>p.1.1) hee
      have hd:=HDir.out
      rw [← e1] at hd
      have:=hg.parent he hd
      rw [e1,e2] at this
      exact this
     simp only at hv
     go_wp2_with fail
     obtain ⟨z0,z1⟩:=two_cells (box_set (c:=.int .i64 t) (d:=.int .i64 r) HT1.out)
     exact bodyPost_ret (v:=.tuple #[.agg (stA (t,r)),.bool true]) (by simp [results,Tryz.results200,go_sem,stA,z0,z1]) rfl ⟨by rw [HQ.out]; rfl,(below_step HB3.out HB5.out |>.setCell (by dsimp only; omega) _).setCell (by dsimp only; omega) _⟩
    ·have hv:=eqSt_no hq
     simp only at hv
     go_wp2_with fail
     go_roundg (todo'.length + 1)
     case measure=>omega
     case rel =>
      refine ⟨done ++ [(((t,r),nm),(t',r'))],todo',rfl,hR5.out,hP2.out,fun p hp=>?_,HB5.out,by have:=HB5.out.size; omega⟩
      rcases List.mem_append.1 hp with hp | hp
      ·exact hnone.out p hp
      ·rw [List.mem_singleton.1 hp]
       exact hq
 ·have hkd : (X.kind == 1) = false:=beq_eq_false_iff_ne.2 hk
  have HQ:=Lib.hid (HN.out hk)
  clear hk HN HD
  obtain ⟨m0,m1⟩:=two_cells r1
  obtain ⟨f0,f1⟩:=two_free r1
  go_wp2_with fail
  obtain ⟨z0,z1⟩:=two_cells (box_set (c:=.int .i64 0) (d:=.int .i64 0) r1)
  exact bodyPost_ret (v:=.tuple #[.agg (stA (0,0)),.bool false]) (by simp [results,Tryz.results200,go_sem,stA,z0,z1]) rfl ⟨by rw [HQ.out]; rfl,((hb3).setCell (by dsimp only; omega) _).setCell (by dsimp only; omega) _⟩

end Go.Proofs.YtdobeghbkonimaaGreatDoor

namespace Go.Proofs.YtdobeghbkonimaaGreatDoor
open Go.RowKit StampMath GraphMath

theorem under_here (g : Gr) (a : St) : underG g a a = true:=by
 unfold underG
 rw [underN_step,if_pos rfl]

theorem under_end {g : Gr} {a b : St} (hq : a ≠ b) (hp : parentG g a = none) : underG g a b = false:=by
 unfold underG
 rw [underN_step,if_neg hq,hp]

theorem rank_up {g : Gr} {f : St→Nat} (hf : ∀ e∈g.E,g.isDir e.ino→f e.dir < f e.ino) {a p : St} (hp : parentG g a = some p) : f p < f a:=by
 obtain ⟨e,he,h1,h2,h3⟩:=parent_of hp
 have:=hf e he (by rw [h1]; exact h3)
 rwa [h1,h2] at this

structure VBox (w W : World) (cur dir : St) : Prop where
 b : W.heap[w.heap.size]? = some (.cells #[.int .i64 cur.1,.int .i64 cur.2] 24 (0,0))
 c : W.heap[w.heap.size + 1]? = some (.cells #[.int .i64 dir.1,.int .i64 dir.2] 24 (0,0))
 low : Below w.heap.size w W

theorem VBox.step {w W W' : World} {cur dir : St} (h : VBox w W cur dir) (hb : Below W.heap.size W W') : VBox w W' cur dir :=
 ⟨(hb.block _ (heap_lt h.b)).trans h.b,(hb.block _ (heap_lt h.c)).trans h.c,below_step h.low hb⟩

theorem VBox.set {w W : World} {cur dir : St} (h : VBox w W cur dir) (up : St) :
  VBox w ((W.setCell ⟨w.heap.size,0,none⟩ (.int .i64 up.1)).setCell ⟨w.heap.size,1,none⟩ (.int .i64 up.2)) up dir :=
 ⟨box_set h.b,(heap_setCell_other _ _ _ _ (by dsimp only; omega)).trans ((heap_setCell_other _ _ _ _ (by dsimp only; omega)).trans h.c),
  (h.low.setCell (Nat.le_refl _) _).setCell (Nat.le_refl _) _⟩

set_option maxRecDepth 100000 in
set_option maxHeartbeats 1600000 in
theorem under_code (a : Addr) (S : Nat→Prop) (g : Gr) (id dir : St) (w : World) (h : GIn w S a g) (hg : g.ok) :
  Calls Tryz.prog 159 #[.pointer (some a),.agg (stA id),.agg (stA dir)] w fun e w'=>e = .returned (.bool (underG g id dir))∧Below w.heap.size w w':=by
 obtain ⟨f,hf⟩:=hg.rank
 have HP : Hid (∀ (x : St) (W : World),Below w.heap.size w W→Calls Tryz.prog 200 #[.pointer (some a),.agg #[.int .i64 x.1,.int .i64 x.2]] W fun e w'=>e = .returned (.tuple #[.agg #[.int .i64 ((parentG g x).getD (0,0)).1,.int .i64 ((parentG g x).getD (0,0)).2],.bool (parentG g x).isSome])∧Below W.heap.size W w'):=fun x W hW =>
  parent_code a S g x W (h.keep fun i hi=>hW.block i (h.lt i hi)) hg
 have HUp : Hid (∀ x p,parentG g x = some p→f p < f x):=fun x p hp=>rank_up hf hp
 have HSt : Hid (∀ x p,parentG g x = some p→x ≠ dir→underG g x dir = underG g p dir):=fun x p hp hq=>hg.under_step hp hq
 have HEnd : Hid (∀ x,parentG g x = none→x ≠ dir→underG g x dir = false):=fun x hp hq=>under_end hq hp
 obtain ⟨b0,rfl⟩ : ∃ b0,a = ⟨b0,0,none⟩:=by obtain ⟨b,_,_,rfl,_⟩:=h; exact ⟨b,rfl⟩
 clear h hf
 have hb0 : VBox w ((w.alloc (.cells #[.int .i64 id.1,.int .i64 id.2] 24)).alloc (.cells #[.int .i64 dir.1,.int .i64 dir.2] 24)) id dir :=
  ⟨heap_alloc2_old w _ _,heap_alloc2_new w _ _,((Below.refl _ _).alloc (Nat.le_refl _) _).alloc (by simp) _⟩
 unfold stA
 go_enter Tryz.func159,Tryz.ntmps159
 go_wp2_with fail
 go_loopg [7] (f id + 2) (fun gk u wr=>∃ (b : Bool) (cur : St),u = .bool b∧gk = (if b = true then f cur + 2 else 1)∧Hid (if b = true then underG g cur dir = underG g id dir else underG g id dir = false)∧VBox w wr cur dir)
 case atStart=>exact ⟨true,id,rfl,rfl,rfl,hb0⟩
 case round =>
  obtain ⟨b,cur,rfl,hgk,hun,hH⟩:=hrel
  clear hb0
  cases b with
  | false =>
   have HU : Hid (underG g id dir = false):=hun.out
   clear hun hgk
   go_wp2_with fail
   go_ret
   exact ⟨by rw [HU.out]; rfl,hH.low⟩
  | true =>
   have hgk' : gk = f cur + 2:=hgk
   have HU : Hid (underG g cur dir = underG g id dir):=hun.out
   clear hun hgk
   obtain ⟨c3,c4⟩:=two_cells hH.b
   obtain ⟨c5,c6⟩:=two_cells hH.c
   obtain ⟨f0,f1⟩:=two_free hH.b
   by_cases hq : cur = dir
   ·have hv:=eqSt_yes hq
    have HT : Hid (underG g id dir = true):=by rw [← HU.out,hq]; exact under_here g dir
    subst hq
    go_wp2_with fail
    go_ret
    exact ⟨by rw [HT.out]; rfl,hH.low⟩
   ·have hv:=eqSt_no hq
    have HPc:=Lib.hid (HP.out cur)
    cases hpar : parentG g cur with
    | none =>
     have HF : Hid (underG g id dir = false):=by rw [← HU.out]; exact HEnd.out cur hpar hq
     rw [hpar] at HPc
     have HQ : Hid (∀ (W : World),Below w.heap.size w W→Calls Tryz.prog 200 #[.pointer (some ⟨b0,0,none⟩),.agg #[.int .i64 cur.1,.int .i64 cur.2]] W fun e w'=>e = .returned (.tuple #[.agg #[.int .i64 0,.int .i64 0],.bool false])∧Below W.heap.size W w'):=HPc
     clear HPc hpar HU hq
     go_wp2_with fail
     refine (HQ.out _ hH.low).mono ?_
     rintro e w1 ⟨rfl,hb1⟩
     have hH1:=hH.step hb1
     clear hH hb1 c3 c4 c5 c6 f0 f1 hv
     obtain ⟨c3,c4⟩:=two_cells hH1.b
     obtain ⟨f0,f1⟩:=two_free hH1.b
     go_wp2_with fail
     go_roundg 1
     case measure=>omega
     case rel=>exact ⟨false,(0,0),rfl,rfl,HF.out,hH1.set (0,0)⟩
    | some up =>
     have HS : Hid (underG g up dir = underG g id dir):=by rw [← HU.out]; exact (HSt.out cur up hpar hq).symm
     have hr:=HUp.out cur up hpar
     rw [hpar] at HPc
     have HQ : Hid (∀ (W : World),Below w.heap.size w W→Calls Tryz.prog 200 #[.pointer (some ⟨b0,0,none⟩),.agg #[.int .i64 cur.1,.int .i64 cur.2]] W fun e w'=>e = .returned (.tuple #[.agg #[.int .i64 up.1,.int .i64 up.2],.bool true])∧Below W.heap.size W w'):=HPc
     clear HPc hpar HU hq
     go_wp2_with fail
     refine (HQ.out _ hH.low).mono ?_
     rintro e w1 ⟨rfl,hb1⟩
     have hH1:=hH.step hb1
     clear hH hb1 c3 c4 c5 c6 f0 f1 hv
     obtain ⟨c3,c4⟩:=two_cells hH1.b
     obtain ⟨f0,f1⟩:=two_free hH1.b
     go_wp2_with fail
     go_roundg (f up + 2)
     case measure=>omega
     case rel=>exact ⟨true,up,rfl,rfl,HS.out,hH1.set up⟩

end Go.Proofs.YtdobeghbkonimaaGreatDoor

namespace Go.Proofs.YtdobeghbkonimaaGreatDoor
open Go.RowKit StampMath GraphMath OpMath

theorem leads_dir {g : Gr} (h : g.ok) {a b : St} (hl : Leads g a b) (ha : g.isDir a) : g.isDir b:=by
 induction hl with
 | here=>exact ha
 | up e d he _ _ ih=>exact ih (h.dirs e he)

theorem why_asked {g : Gr} (h : g.ok) {dir ino : St} {nm : ByteArray} {A X : Ino} (hA : getG g dir = some A) (hX : getG g ino = some X) :
  whyG true g ⟨dir,nm,ino⟩ = if A.kind ≠ 1 then 6 else if (lookE g.E dir nm).isSome then 4 else if ino = (0,0)∨underG g dir ino = true then 8 else if fullB X = true then 12 else 0:=by
 unfold whyG
 rw [if_neg (by simp)]
 simp only [hA,hX]
 by_cases hk : A.kind = 1
 ·have hk' : ¬ A.kind ≠ 1:=fun q=>q hk
  rw [if_neg hk',if_neg hk']
  have hdir:=getDir_of hA hk
  have hkind : ino = (0,0)∨underG g dir ino = true→X.kind = 1:=by
   rintro (hz | hu)
   ·obtain ⟨y,hy,hyi,hyk⟩:=h.root
    rw [hz,← hyi,h.get hy] at hX
    injection hX with hX
    rw [← hX]
    exact hyk
   ·obtain ⟨x,hx,hxk⟩:=h.getDir (leads_dir h (h.leads.1 hu) hdir)
    rw [hX] at hx
    injection hx with hx
    rw [hx]
    exact hxk
  by_cases hl : (lookE g.E dir nm).isSome = true
  ·rw [if_pos hl,if_pos hl]
  ·rw [if_neg hl,if_neg hl]
   by_cases hu : ino = (0,0)∨underG g dir ino = true
   ·rw [if_pos ⟨hkind hu,hu⟩,if_pos hu]
   ·rw [if_neg fun q=>hu q.2,if_neg hu]
    have hf : (X.kind = 1∧0 < X.links∨6≤X.links) ↔ fullB X = true:=by
     unfold fullB
     by_cases hx : X.kind = 1
     ·rw [if_pos hx,decide_eq_true_iff]; omega
     ·rw [if_neg hx,decide_eq_true_iff]; omega
    by_cases hq : X.kind = 1∧0 < X.links∨6≤X.links
    ·rw [if_pos hq,if_pos (hf.1 hq)]
    ·rw [if_neg hq,if_neg fun r=>hq (hf.2 r)]
 ·rw [if_pos hk,if_pos hk]

theorem why_none {g : Gr} {dir ino : St} {nm : ByteArray} (h : (getG g dir).isSome = false∨(getG g ino).isSome = false) : whyG true g ⟨dir,nm,ino⟩ = 3:=by
 unfold whyG
 rw [if_neg (by simp)]
 cases h1 : getG g dir with
 | none=>simp
 | some p =>
  cases h2 : getG g ino with
  | none=>simp
  | some q=>rw [h1,h2] at h; simp at h

set_option maxRecDepth 100000 in
set_option maxHeartbeats 4000000 in
theorem mayTie_code (a : Addr) (S : Nat→Prop) (g : Gr) (x : Ent) (w : World) (h : GIn w S a g) (hg : g.ok) (hsz : x.name.size≤maxLen) :
  Calls Tryz.prog 164 #[.pointer (some a),.agg (entA x)] w fun e w'=>e = .returned (.int .i64 (whyG (nameB x.name) g x))∧Below w.heap.size w w':=by
 obtain ⟨b,hb⟩ : ∃ b,b = nameB x.name:=⟨_,rfl⟩
 have HN : Hid (∀ W : World,Calls Tryz.prog 116 #[.string x.name] W fun e w'=>e = .returned (.bool b)∧W = w'):=fun W=>by rw [hb]; exact name_any _ hsz W
 rw [← hb]
 clear hb hsz
 have HGet : Hid (∀ (id : St) (W : World),Below w.heap.size w W→Calls Tryz.prog 35 #[.pointer (some a),.agg #[.int .i64 id.1,.int .i64 id.2]] W fun e w'=>e = .returned (.tuple #[.agg (inoA ((getG g id).getD noIno)),.bool (getG g id).isSome])∧Below W.heap.size W w'):=fun id W hW=>get_code a S g id W (h.keep fun i hi=>hW.block i (h.lt i hi)) hg
 have HLk : Hid (∀ W : World,Below w.heap.size w W→Calls Tryz.prog 36 #[.pointer (some a),.agg #[.int .i64 x.dir.1,.int .i64 x.dir.2],.string x.name] W fun e w'=>e = .returned (.tuple #[.agg (stA ((lookE g.E x.dir x.name).getD (0,0))),.bool (lookE g.E x.dir x.name).isSome])∧Below W.heap.size W w'):=fun W hW=>look_code a S g x.dir x.name W (h.keep fun i hi=>hW.block i (h.lt i hi))
 have HUn : Hid (∀ W : World,Below w.heap.size w W→Calls Tryz.prog 159 #[.pointer (some a),.agg #[.int .i64 x.dir.1,.int .i64 x.dir.2],.agg #[.int .i64 x.ino.1,.int .i64 x.ino.2]] W fun e w'=>e = .returned (.bool (underG g x.dir x.ino))∧Below W.heap.size W w'):=fun W hW=>under_code a S g x.dir x.ino W (h.keep fun i hi=>hW.block i (h.lt i hi)) hg
 have HRt : Hid (∀ W : World,Calls Tryz.prog 62 #[] W fun e w'=>e = .returned (.agg #[.int .i64 0,.int .i64 0])∧Below W.heap.size W w'):=root_any
 clear h
 obtain ⟨dir,nm,ino⟩:=x
 have hb0 : Below w.heap.size w (w.alloc (.cells (entA ⟨dir,nm,ino⟩) 89)):=(Below.refl _ _).alloc (Nat.le_refl _) _
 have he0:=heap_alloc_new w (.cells (entA ⟨dir,nm,ino⟩) 89)
 unfold entA
 cases b with
 | false =>
  have hw : Hid (whyG false g ⟨dir,nm,ino⟩ = 1):=by unfold whyG; exact if_pos rfl
  go_enter Tryz.func164,Tryz.ntmps164
  go_wp2_with fail
  refine (HN.out _).mono ?_
  rintro e w1 ⟨rfl,rfl⟩
  go_wp2_with fail
  go_ret
  exact ⟨by rw [hw.out]; rfl,hb0⟩
 | true =>
  go_enter Tryz.func164,Tryz.ntmps164
  go_wp2_with fail
  refine (HN.out _).mono ?_
  rintro e w1 ⟨rfl,rfl⟩
  have hW0 : ∃ W0,W0 = w.alloc (.cells (entA ⟨dir,nm,ino⟩) 89):=⟨_,rfl⟩
  obtain ⟨W0,hW0⟩:=hW0
  have hW0' : w.alloc (.cells #[.int .i64 dir.1,.int .i64 dir.2,.string nm,.int .i64 ino.1,.int .i64 ino.2] 89) = W0:=hW0.symm
  rw [hW0']
  rw [← hW0] at he0 hb0
  clear hW0 hW0'
  obtain ⟨A,hA⟩ : ∃ A,A = (getG g dir).getD noIno:=⟨_,rfl⟩
  obtain ⟨ia,hia⟩ : ∃ ia,ia = (getG g dir).isSome:=⟨_,rfl⟩
  obtain ⟨X,hX⟩ : ∃ X,X = (getG g ino).getD noIno:=⟨_,rfl⟩
  obtain ⟨ix,hix⟩ : ∃ ix,ix = (getG g ino).isSome:=⟨_,rfl⟩
  have HA : Hid (∀ W : World,Below w.heap.size w W→Calls Tryz.prog 35 #[.pointer (some a),.agg #[.int .i64 dir.1,.int .i64 dir.2]] W fun e w'=>e = .returned (.tuple #[.agg #[.int .i64 A.id.1,.int .i64 A.id.2,.int .i64 A.kind,.int .i64 A.links,.int .i64 A.mode,.string A.data],.bool ia])∧Below W.heap.size W w'):=by rw [hA,hia]; exact HGet.out dir
  have HX : Hid (∀ W : World,Below w.heap.size w W→Calls Tryz.prog 35 #[.pointer (some a),.agg #[.int .i64 ino.1,.int .i64 ino.2]] W fun e w'=>e = .returned (.tuple #[.agg #[.int .i64 X.id.1,.int .i64 X.id.2,.int .i64 X.kind,.int .i64 X.links,.int .i64 X.mode,.string X.data],.bool ix])∧Below W.heap.size W w'):=by rw [hX,hix]; exact HGet.out ino
  have HFl : Hid (∀ W : World,Calls Tryz.prog 201 #[.agg #[.int .i64 X.id.1,.int .i64 X.id.2,.int .i64 X.kind,.int .i64 X.links,.int .i64 X.mode,.string X.data]] W fun e w'=>e = .returned (.bool (fullB X))∧Below W.heap.size W w'):=fun W=>full_code X W
  have HNo : Hid (ia = false∨ix = false→whyG true g ⟨dir,nm,ino⟩ = 3):=fun q=>why_none (by rw [← hia,← hix]; exact q)
  have HWh : Hid (ia = true→ix = true→whyG true g ⟨dir,nm,ino⟩ = if A.kind ≠ 1 then 6 else if (lookE g.E dir nm).isSome then 4 else if ino = (0,0)∨underG g dir ino = true then 8 else if fullB X = true then 12 else 0):=fun q1 q2=>by
   rw [hia] at q1
   rw [hix] at q2
   refine why_asked hg ?_ ?_
   ·rw [hA]
    cases h2 : getG g dir with
    | none=>rw [h2] at q1; cases q1
    | some _=>rfl
   ·rw [hX]
    cases h2 : getG g ino with
    | none=>rw [h2] at q2; cases q2
    | some _=>rfl
  clear hA hia hX hix HGet
  obtain ⟨e0,e1,e2,e3,e4⟩:=ent_cells he0
  go_wp2_with fail
  refine (HA.out _ hb0).mono ?_
  rintro e w1 ⟨rfl,hb1⟩
  go_upto_region 4 with fail
  change Code.wp _ _ _ _ (w1.alloc (.cells (inoA A) 59))
  obtain ⟨u1,hu1⟩ : ∃ u,u = w1.heap.size:=⟨_,rfl⟩
  have hq0:=(hb1.block _ (heap_lt he0)).trans he0
  have hlow1 : w.heap.size < u1:=by rw [hu1]; exact heap_lt hq0
  have r0:=(heap_alloc_old w1 (.cells (inoA A) 59) (by omega)).trans hq0
  have r1 : (w1.alloc (.cells (inoA A) 59)).heap[u1]? = some (.cells (inoA A) 59 (0,0)):=by rw [hu1]; exact heap_alloc_new _ _
  have hb2:=(below_step hb0 hb1).alloc (below_step hb0 hb1).size (.cells (inoA A) 59)
  rw [← hu1]
  generalize w1.alloc (.cells (inoA A) 59) = w2 at r0 r1 hb2 ⊢
  clear hq0 hb0 hb1 hu1 he0 e0 e1 e2 e3 e4
  obtain ⟨e0,e1,e2,e3,e4⟩:=ent_cells r0
  go_wp2_with fail
  refine (HX.out _ hb2).mono ?_
  rintro e w3 ⟨rfl,hb3⟩
  go_upto_region 5 with fail
  change Code.wp _ _ _ _ (w3.alloc (.cells (inoA X) 59))
  obtain ⟨u2,hu2⟩ : ∃ u,u = w3.heap.size:=⟨_,rfl⟩
  have q0:=(hb3.block _ (heap_lt r0)).trans r0
  have q1:=(hb3.block _ (heap_lt r1)).trans r1
  have hlow2 : u1 < u2:=by rw [hu2]; exact heap_lt q1
  have s0:=(heap_alloc_old w3 (.cells (inoA X) 59) (by omega)).trans q0
  have s1:=(heap_alloc_old w3 (.cells (inoA X) 59) (by omega)).trans q1
  have s2 : (w3.alloc (.cells (inoA X) 59)).heap[u2]? = some (.cells (inoA X) 59 (0,0)):=by rw [hu2]; exact heap_alloc_new _ _
  have hb4:=(below_step hb2 hb3).alloc (below_step hb2 hb3).size (.cells (inoA X) 59)
  rw [← hu2]
  generalize w3.alloc (.cells (inoA X) 59) = w4 at s0 s1 s2 hb4 ⊢
  clear q0 q1 hb2 hb3 hu2 r0 r1 e0 e1 e2 e3 e4 HA HX
  obtain ⟨e0,e1,e2,e3,e4⟩:=ent_cells s0
  have a2:=(ino_cells s1).2.2.1
  have hcase : (ia = false∨(ia = true∧ix = false))∨(ia = true∧ix = true):=by cases ia <;> cases ix <;> simp
  rcases hcase with hcase | ⟨rfl,rfl⟩
  ·have hw : Hid (whyG true g ⟨dir,nm,ino⟩ = 3):=HNo.out (by rcases hcase with h | ⟨_,h⟩ <;> simp [h])
   rcases hcase with rfl | ⟨rfl,rfl⟩
   all_goals
    go_wp2_with fail
    go_ret
    exact ⟨by rw [hw.out]; rfl,hb4⟩
  ·have hwhy:=HWh.out rfl rfl
   by_cases hak : A.kind = 1
   ·rw [if_neg (by simp [hak])] at hwhy
    have hak' : (A.kind != 1) = false:=by simp [hak]
    obtain ⟨lk,hlk⟩ : ∃ lk,lk = (lookE g.E dir nm).isSome:=⟨_,rfl⟩
    obtain ⟨lv,hlv⟩ : ∃ lv,lv = (lookE g.E dir nm).getD (0,0):=⟨_,rfl⟩
    have HL : Hid (∀ W : World,Below w.heap.size w W→Calls Tryz.prog 36 #[.pointer (some a),.agg #[.int .i64 dir.1,.int .i64 dir.2],.string nm] W fun e w'=>e = .returned (.tuple #[.agg #[.int .i64 lv.1,.int .i64 lv.2],.bool lk])∧Below W.heap.size W w'):=by rw [hlk,hlv]; exact HLk.out
    rw [← hlk] at hwhy
    have HW2:=Lib.hid hwhy
    clear hlk hlv hwhy HLk HWh HNo hak
    go_wp2_with fail
    refine (HL.out _ hb4).mono ?_
    rintro e w5 ⟨rfl,hb5⟩
    go_upto_region 10 with fail
    change Code.wp _ _ _ _ (w5.alloc (.cells #[.int .i64 lv.1,.int .i64 lv.2] 24))
    obtain ⟨u3,hu3⟩ : ∃ u,u = w5.heap.size:=⟨_,rfl⟩
    have q0:=(hb5.block _ (heap_lt s0)).trans s0
    have q2:=(hb5.block _ (heap_lt s2)).trans s2
    have hlow3 : u2 < u3:=by rw [hu3]; exact heap_lt q2
    have t0:=(heap_alloc_old w5 (.cells #[.int .i64 lv.1,.int .i64 lv.2] 24) (by omega)).trans q0
    have t2:=(heap_alloc_old w5 (.cells #[.int .i64 lv.1,.int .i64 lv.2] 24) (by omega)).trans q2
    have hb6:=(below_step hb4 hb5).alloc (below_step hb4 hb5).size (.cells #[.int .i64 lv.1,.int .i64 lv.2] 24)
    rw [← hu3]
    generalize w5.alloc (.cells #[.int .i64 lv.1,.int .i64 lv.2] 24) = w6 at t0 t2 hb6 ⊢
    clear q0 q2 hb4 hb5 hu3 s0 s1 s2 e0 e1 e2 e3 e4 a2 HL
    obtain ⟨e0,e1,e2,e3,e4⟩:=ent_cells t0
    cases lk with
    | true =>
     have hw : Hid (whyG true g ⟨dir,nm,ino⟩ = 4):=HW2.out.trans (if_pos rfl)
     go_wp2_with fail
     go_ret
     exact ⟨by rw [hw.out]; rfl,hb6⟩
    | false =>
     have hwhy3 : whyG true g ⟨dir,nm,ino⟩ = if ino = (0,0)∨underG g dir ino = true then 8 else if fullB X = true then 12 else 0:=HW2.out.trans (if_neg (by simp))
     obtain ⟨un,hun⟩ : ∃ un,un = underG g dir ino:=⟨_,rfl⟩
     obtain ⟨fl,hfl⟩ : ∃ fl,fl = fullB X:=⟨_,rfl⟩
     have HU : Hid (∀ W : World,Below w.heap.size w W→Calls Tryz.prog 159 #[.pointer (some a),.agg #[.int .i64 dir.1,.int .i64 dir.2],.agg #[.int .i64 ino.1,.int .i64 ino.2]] W fun e w'=>e = .returned (.bool un)∧Below W.heap.size W w'):=by rw [hun]; exact HUn.out
     rw [← hun,← hfl] at hwhy3
     rw [← hfl] at HFl
     have HW3:=Lib.hid hwhy3
     have HB6:=Lib.hid hb6
     have HT2:=Lib.hid t2
     have HT0:=Lib.hid t0
     have HRl : Hid (∀ y,Calls Tryz.prog 62 #[] (later w6 y) fun e w'=>e = .returned (.agg #[.int .i64 0,.int .i64 0])∧Below (later w6 y).heap.size (later w6 y) w'):=fun y=>HRt.out _
     have HUl : Hid (∀ y,Calls Tryz.prog 159 #[.pointer (some a),.agg #[.int .i64 dir.1,.int .i64 dir.2],.agg #[.int .i64 ino.1,.int .i64 ino.2]] (later w6 y) fun e w'=>e = .returned (.bool un)∧Below (later w6 y).heap.size (later w6 y) w'):=fun y=>HU.out _ (below_step HB6.out (later_below w6 y))
     clear hun hfl hwhy3 HUn HW2 HU HRt
     by_cases hz : ino = (0,0)
     ·have hw : Hid (whyG true g ⟨dir,nm,ino⟩ = 8):=HW3.out.trans (if_pos (Or.inl hz))
      have hv : ∀ W : World,(Op.equalIn 10000 24 (.agg #[.int .i64 ino.1,.int .i64 ino.2]) (.agg #[.int .i64 0,.int .i64 0])).run Tryz.prog W = .ok true W:=fun W=>by rw [run_eqSt,decide_eq_true (show ((ino.1,ino.2) : St) = (0,0) from hz)]
      clear hz
      have c0:=later_cell e0
      have c1:=later_cell e1
      have c3:=later_cell e3
      have c4:=later_cell e4
      clear e0 e1 e2 e3 e4
      go_upto_region 12 with fail
      refine wp_region_later (by kernel_rfl) (by kernel_rfl) ?_
      repeat (go_big_quiet_step (first | (with_reducible exact later_call (HRl.out _)) | (with_reducible exact later_call (HUl.out _))))
      refine wpQuiet_nil ?_
      intro _ hw'
      obtain ⟨y,rfl⟩:=hw'
      clear c0 c1 c3 c4
      go_wp2_with fail
      go_ret
      exact ⟨by rw [hw.out]; rfl,below_step HB6.out (later_below w6 y)⟩
     ·have hv : ∀ W : World,(Op.equalIn 10000 24 (.agg #[.int .i64 ino.1,.int .i64 ino.2]) (.agg #[.int .i64 0,.int .i64 0])).run Tryz.prog W = .ok false W:=fun W=>by rw [run_eqSt,decide_eq_false (show ¬ ((ino.1,ino.2) : St) = (0,0) from hz)]
      have hz':=Lib.hid hz
      clear hz
      cases un with
      | true =>
       have hw : Hid (whyG true g ⟨dir,nm,ino⟩ = 8):=HW3.out.trans (if_pos (Or.inr rfl))
       have c0:=later_cell e0
       have c1:=later_cell e1
       have c3:=later_cell e3
       have c4:=later_cell e4
       clear e0 e1 e2 e3 e4
       go_upto_region 12 with fail
       refine wp_region_later (by kernel_rfl) (by kernel_rfl) ?_
       repeat (go_big_quiet_step (first | (with_reducible exact later_call (HRl.out _)) | (with_reducible exact later_call (HUl.out _))))
       refine wpQuiet_nil ?_
       intro _ hw'
       obtain ⟨y,rfl⟩:=hw'
       clear c0 c1 c3 c4
       go_wp2_with fail
       go_ret
       exact ⟨by rw [hw.out]; rfl,below_step HB6.out (later_below w6 y)⟩
      | false =>
       have hwhy4 : Hid (whyG true g ⟨dir,nm,ino⟩ = if fl = true then 12 else 0):=HW3.out.trans (if_neg fun q=>q.elim hz'.out (by simp))
       have c0:=later_cell e0
       have c1:=later_cell e1
       have c3:=later_cell e3
       have c4:=later_cell e4
       clear e0 e1 e2 e3 e4
       go_upto_region 12 with fail
       refine wp_region_later (by kernel_rfl) (by kernel_rfl) ?_
       repeat (go_big_quiet_step (first | (with_reducible exact later_call (HRl.out _)) | (with_reducible exact later_call (HUl.out _))))
       refine wpQuiet_nil ?_
       intro _ hw'
       obtain ⟨y,rfl⟩:=hw'
       clear c0 c1 c3 c4
       have hb9:=later_below w6 y
       have t2:=(hb9.block _ (heap_lt HT2.out)).trans HT2.out
       have hb10:=below_step HB6.out hb9
       obtain ⟨y0,y1,y2,y3,y4,y5⟩:=ino_cells t2
       clear t2 hb9
       cases fl with
       | true =>
        have hw : Hid (whyG true g ⟨dir,nm,ino⟩ = 12):=hwhy4.out.trans (if_pos rfl)
        go_wp2_with fail
        refine (HFl.out _).mono ?_
        rintro e w11 ⟨rfl,hb11⟩
        go_wp2_with fail
        go_ret
        exact ⟨by rw [hw.out]; rfl,below_step hb10 hb11⟩
       | false =>
        have hw : Hid (whyG true g ⟨dir,nm,ino⟩ = 0):=hwhy4.out.trans (if_neg (by simp))
        go_wp2_with fail
        refine (HFl.out _).mono ?_
        rintro e w11 ⟨rfl,hb11⟩
        go_wp2_with fail
        go_ret
        exact ⟨by rw [hw.out]; rfl,below_step hb10 hb11⟩
   ·rw [if_pos hak] at hwhy
    have hw:=Lib.hid hwhy
    have hak' : (A.kind != 1) = true:=by simp [hak]
    clear hwhy hak
    go_wp2_with fail
    go_ret
    exact ⟨by rw [hw.out]; rfl,hb4⟩

end Go.Proofs.YtdobeghbkonimaaGreatDoor

namespace Go.Proofs.YtdobeghbkonimaaGreatDoor
open Go.RowKit StampMath GraphMath OpMath

set_option maxRecDepth 100000 in
set_option maxHeartbeats 1600000 in
theorem tie_code (a : Addr) (S : Nat→Prop) (g : Gr) (x : Ent) (w : World) (h : GIn w S a g) (hg : g.ok) (hsz : x.name.size≤maxLen) :
  Calls Tryz.prog 108 #[.pointer (some a),.agg (entA x)] w fun e w'=>e = .returned (.int .i64 (tieG (nameB x.name) g x).2)∧GIn w' S a (tieG (nameB x.name) g x).1∧But S w w':=by
 obtain ⟨why,hwhy⟩ : ∃ why,why = whyG (nameB x.name) g x:=⟨_,rfl⟩
 have HM : Hid (∀ W : World,Below w.heap.size w W→Calls Tryz.prog 164 #[.pointer (some a),.agg #[.int .i64 x.dir.1,.int .i64 x.dir.2,.string x.name,.int .i64 x.ino.1,.int .i64 x.ino.2]] W fun e w'=>e = .returned (.int .i64 why)∧Below W.heap.size W w'):=fun W hW=>by
  rw [hwhy]
  exact mayTie_code a S g x W (h.keep fun i hi=>hW.block i (h.lt i hi)) hg hsz
 have hG:=Lib.hid h
 have hb0 : Below w.heap.size w (w.alloc (.cells (entA x) 89)):=(Below.refl _ _).alloc (Nat.le_refl _) _
 have he0:=heap_alloc_new w (.cells (entA x) 89)
 by_cases hw : why = 0
 ·have htie : tieG (nameB x.name) g x = (⟨g.I,putIn (fun a=>aheadE a x) g.E x⟩,0):=by unfold tieG; rw [if_pos (by rw [← hwhy]; exact hw)]
  have h0 : (tieG (nameB x.name) g x).2 = 0:=by rw [htie]
  have hok:=hg.tie (nameB x.name) x
  obtain ⟨X,hX⟩ : ∃ X,getG g x.ino = some X:=by
   have : ¬ getG g x.ino = none:=fun q=>by
    have h1 : whyG (nameB x.name) g x = 0:=by rw [← hwhy]; exact hw
    unfold whyG at h1
    rw [q] at h1
    cases hn : nameB x.name with
    | false=>rw [hn] at h1; simp at h1
    | true =>
     rw [hn] at h1
     cases hd : getG g x.dir with
     | none=>rw [hd] at h1; simp at h1
     | some _=>rw [hd] at h1; simp at h1
   cases hq : getG g x.ino with
   | none=>exact absurd hq this
   | some y=>exact ⟨y,rfl⟩
  have hwr : wrap64 (X.links + 1) = X.links + 1:=by
   have h6:=hg.six x.ino
   obtain ⟨y,_,_,hy⟩:=get_some hX
   have h7 : X.links = (linksE g.E x.ino : Int):=by rw [hy]
   unfold wrap64
   omega
  have HG : Hid (tieG (nameB x.name) g x).1.ok:=hok
  have HT0:=Lib.hid htie
  have HH0:=Lib.hid h0
  have HX:=Lib.hid hX
  have HR:=Lib.hid hwr
  obtain ⟨b,bi,be,rfl,h1,h2,h3,hb,hi,he,hS⟩:=h
  obtain ⟨d0,d1⟩:=two_cells hb
  have hlt:=heap_lt hb
  have HI:=Lib.hid hi
  have HE:=Lib.hid he
  have HS:=Lib.hid hS
  have HBlk:=Lib.hid hb
  have hw0 : (why == 0) = true:=beq_iff_eq.2 hw
  have HC : Hid (∀ W : World,W.heap[b]? = some (.cells #[.map (some bi),.map (some be)] 85 (0,0))→KMap stV inoV W bi (pairsI g)→Calls Tryz.prog 165 #[.pointer (some ⟨b,0,none⟩),.agg #[.int .i64 x.ino.1,.int .i64 x.ino.2],.int .i64 1] W fun e w'=>e = .returned (.tuple #[])∧KMap stV inoV w' bi ((x.ino,{ X with links:=X.links + 1 }) :: offL (pairsI g) x.ino)∧But (fun i=>i = bi) W w'):=fun W hb hi=>count_code b bi be (pairsI g) x.ino 1 X W hb hi (by rw [look_pairsI hg]; exact hX) hwr
  clear hi he hS hb hX hwr htie h0 hok hw hwhy d0
  obtain ⟨dir,nm,ino⟩:=x
  unfold entA
  go_enter Tryz.func108,Tryz.ntmps108
  go_upto_region 1 with fail
  change Code.wp _ _ _ _ (w.alloc (.cells (entA ⟨dir,nm,ino⟩) 89))
  generalize w.alloc (.cells (entA ⟨dir,nm,ino⟩) 89) = w1 at he0 hb0 ⊢
  obtain ⟨e0,e1,e2,e3,e4⟩:=ent_cells he0
  go_wp2_with fail
  refine (HM.out _ hb0).mono ?_
  rintro e w2 ⟨rfl,hb2⟩
  have he2:=(hb2.block _ (heap_lt he0)).trans he0
  have hb3:=below_step hb0 hb2
  clear he0 hb0 hb2 e0 e1 e2 e3 e4 HM
  obtain ⟨e0,e1,e2,e3,e4⟩:=ent_cells he2
  have d1w:=(hb3.cell (p:=⟨b,1,none⟩) hlt).trans d1
  obtain ⟨w3,hrun,hm3,hbut3,hsz3⟩:=(HE.out.kept (hb3.drew.block be HE.out.lt)).store plShape Tryz.underlying83 (dir,nm) ino
  simp only [stV,stA,plV] at hrun
  have HM3:=Lib.hid hm3
  have HU3:=Lib.hid hbut3
  have HB3:=Lib.hid hb3
  have HE2:=Lib.hid he2
  have hilt:=HI.out.lt
  have helt:=HE.out.lt
  clear hm3 hbut3 hb3 he2
  go_upto_region 4 with fail
  go_region
  clear hrun e0 e1 e2 e3 e4 d1w
  have hb4 : But (fun i=>i = be) w w3:=(But.of_below HB3.out.drew).trans HU3.out fun i hi _=>hi
  have z0 : w3.heap[w.heap.size]? = some (.cells (entA ⟨dir,nm,ino⟩) 89 (0,0)):=HU3.out.heap (a:=w2.drew) HE2.out (fun q=>by omega)
  have hblk:=hb4.heap HBlk.out (fun q=>h2 q)
  have hi3 : KMap stV inoV w3 bi (pairsI g):=HI.out.kept (hb4.block bi hilt fun q=>h3 q)
  have HB4:=Lib.hid hb4
  obtain ⟨e0,e1,e2,e3,e4⟩:=ent_cells z0
  have hs4:=hb4.size
  clear hb4 z0
  go_wp2_with fail
  refine (HC.out _ hblk hi3).mono ?_
  rintro e w4 ⟨rfl,hm4,hb5⟩
  clear e0 e1 e2 e3 e4
  go_wp2_with fail
  go_ret
  have hb6 : But (fun i=>i = bi∨i = be) w w4:=(HB4.out.mono (T:=fun i=>i = bi∨i = be) fun i hi=>Or.inr hi).trans hb5 fun i hi _=>Or.inl hi
  refine ⟨by rw [HH0.out]; rfl,⟨b,bi,be,rfl,h1,h2,h3,?_,?_,?_,HS.out⟩,hb6.mono fun i hi=>(HS.out i).2 (Or.inr hi)⟩
  ·exact hb6.heap HBlk.out (fun q=>q.elim h1 h2)
  ·refine hm4.perm (put_perm (keys_pairsI hg) (keys_pairsI HG.out) (x:=ino) (v:={ X with links:=X.links + 1 }) fun k=>?_)
   rw [look_pairsI HG.out,look_pairsI hg,tie_get HH0.out]
   by_cases hk : k = ino
   ·rw [if_pos hk,hk,HX.out]
    simp
   ·rw [if_neg hk]
    cases getG g k <;> simp [hk]
  ·refine KMap.perm ?_ (put_perm (keys_pairsE hg) (keys_pairsE HG.out) fun p=>?_) (L:=((dir,nm),ino) :: offL (pairsE g) (dir,nm))
   ·exact HM3.out.kept (hb5.block be (by omega) fun q=>h3 q.symm)
   ·rw [tie_look hg HH0.out]
 ·have htie : tieG (nameB x.name) g x = (g,why):=by unfold tieG; rw [← hwhy,if_neg hw]
  rw [htie]
  have hw0 : (why == 0) = false:=beq_eq_false_iff_ne.2 hw
  clear htie hwhy hw h
  obtain ⟨dir,nm,ino⟩:=x
  unfold entA
  go_enter Tryz.func108,Tryz.ntmps108
  go_upto_region 1 with fail
  change Code.wp _ _ _ _ (w.alloc (.cells (entA ⟨dir,nm,ino⟩) 89))
  generalize w.alloc (.cells (entA ⟨dir,nm,ino⟩) 89) = w1 at he0 hb0 ⊢
  obtain ⟨e0,e1,e2,e3,e4⟩:=ent_cells he0
  go_wp2_with fail
  refine (HM.out _ hb0).mono ?_
  rintro e w2 ⟨rfl,hb2⟩
  have hb3:=below_step hb0 hb2
  clear he0 hb0 hb2 e0 e1 e2 e3 e4 HM
  go_wp2_with fail
  go_ret
  exact ⟨rfl,hG.out.keep fun i hi=>hb3.block i (hG.out.lt i hi),But.of_below hb3⟩

end Go.Proofs.YtdobeghbkonimaaGreatDoor

namespace Go.Proofs.YtdobeghbkonimaaGreatDoor
open Go.RowKit Go.Shelf

theorem KMap.clone {P : Program} {ρ : Ren} (L : SlLaysW.n5 P ρ) {K V : Type} {ek : K→Value} {ev : V→Value} {w : World} {b : Nat} {l : List (K × V)} (h : KMap ek ev w b l) :
  Calls P (ρ.f 5) #[.map (some b)] w fun e w'=>e = .returned (.map (some w.heap.size))∧KMap ek ev w' w.heap.size l∧Below w.heap.size w w'∧w'.heap.size = w.heap.size + 1:=by
 obtain ⟨es,clock,M,h1,h2,h3,h4⟩:=h
 refine (AnyW.maps_Clone L b es clock w h1).mono ?_
 rintro e w' ⟨rfl,rfl⟩
 exact ⟨rfl,⟨es,clock,M,heap_alloc_new w _,h2,h3,h4⟩,(Below.refl _ _).alloc (Nat.le_refl _) _,by simp⟩

end Go.Proofs.YtdobeghbkonimaaGreatDoor

namespace Go.Proofs.YtdobeghbkonimaaGreatDoor
open Go.RowKit StampMath GraphMath

theorem cloneI_code (b : Nat) (L : List (St × Ino)) (w : World) (h : KMap stV inoV w b L) :
  Calls Tryz.prog 58 #[.map (some b)] w fun e w'=>e = .returned (.map (some w.heap.size))∧KMap stV inoV w' w.heap.size L∧Below w.heap.size w w'∧w'.heap.size = w.heap.size + 1 :=
 h.clone Tryz.cloneIno

theorem cloneE_code (b : Nat) (L : List ((St × ByteArray) × St)) (w : World) (h : KMap plV stV w b L) :
  Calls Tryz.prog 59 #[.map (some b)] w fun e w'=>e = .returned (.map (some w.heap.size))∧KMap plV stV w' w.heap.size L∧Below w.heap.size w w'∧w'.heap.size = w.heap.size + 1 :=
 h.clone Tryz.cloneEnt

set_option maxRecDepth 100000 in
set_option maxHeartbeats 1600000 in
theorem copy_code (a : Addr) (S : Nat→Prop) (g : Gr) (w : World) (h : GIn w S a g) :
  Calls Tryz.prog 31 #[.pointer (some a)] w fun e w'=>∃ b T,e = .returned (.pointer (some b))∧GIn w' T b g∧(∀ i,T i→w.heap.size≤i)∧Below w.heap.size w w':=by
 obtain ⟨b,bi,be,rfl,h1,h2,h3,hb,hi,he,hS⟩:=h
 obtain ⟨d0,d1⟩:=two_cells hb
 have hlt:=heap_lt hb
 have HI : Hid (∀ W : World,Below w.heap.size w W→Calls Tryz.prog 58 #[.map (some bi)] W fun e w'=>e = .returned (.map (some W.heap.size))∧KMap stV inoV w' W.heap.size (pairsI g)∧Below W.heap.size W w'∧w'.heap.size = W.heap.size + 1):=fun W hW=>cloneI_code bi _ W (hi.kept (hW.block bi hi.lt))
 have HE : Hid (∀ W : World,Below w.heap.size w W→Calls Tryz.prog 59 #[.map (some be)] W fun e w'=>e = .returned (.map (some W.heap.size))∧KMap plV stV w' W.heap.size (pairsE g)∧Below W.heap.size W w'∧w'.heap.size = W.heap.size + 1):=fun W hW=>cloneE_code be _ W (he.kept (hW.block be he.lt))
 clear hi he hS hb
 go_enter Tryz.func31,Tryz.ntmps31
 go_wp2_with fail
 go_region_with (first
  | (go_at_call 58; (with_reducible refine (HI.out _ (by repeat (first | exact Below.refl _ _ | assumption | apply Below.drew | refine below_step ?_ (by assumption)))).mono ?_); rintro z w1 ⟨rfl,hm1,hb1,hs1⟩; have HM1:=Lib.hid hm1; have HS1:=Lib.hid hs1; clear hm1 hs1; have d0:=cell_later hb1 d0; have d1:=cell_later hb1 d1)
  | (go_at_call 59; (with_reducible refine (HE.out _ (by repeat (first | exact Below.refl _ _ | assumption | apply Below.drew | refine below_step ?_ (by assumption)))).mono ?_); rintro z w2 ⟨rfl,hm2,hb2,hs2⟩; have HM2:=Lib.hid hm2; have HS2:=Lib.hid hs2; clear hm2 hs2; have d0:=cell_later hb2 d0; have d1:=cell_later hb2 d1))
 all_goals
  go_wp2_with fail
  go_ret
  have e1 : w1.heap.size = w.heap.size + 1:=HS1.out
  have e2 : w2.heap.size = w1.heap.size + 1:=HS2.out
  have hb3 : Below w.heap.size w w2:=below_step (below_step (Below.refl w.heap.size w).drew hb1) hb2
  refine ⟨⟨w2.heap.size,0,none⟩,fun i=>i = w2.heap.size∨i = w.heap.size∨i = w1.heap.size,rfl,⟨w2.heap.size,w.heap.size,w1.heap.size,rfl,by omega,by omega,by omega,heap_alloc_new _ _,?_,?_,fun i=>Iff.rfl⟩,fun i hi=>by omega,hb3.alloc hb3.size _⟩
  ·have hk : KMap stV inoV w1 w.heap.size (pairsI g):=HM1.out
   exact (hk.kept (hb2.block _ (by omega))).kept (heap_alloc_old _ _ (by omega))
  ·exact HM2.out.kept (heap_alloc_old _ _ (by omega))

end Go.Proofs.YtdobeghbkonimaaGreatDoor

namespace Go.Proofs.YtdobeghbkonimaaGreatDoor
open Go.RowKit StampMath GraphMath OpMath

set_option maxRecDepth 100000 in
theorem nil_get (id : St) (w : World) : Calls Tryz.prog 35 #[.pointer none,.agg (stA id)] w fun e w'=>e = .returned (.tuple #[.agg (inoA noIno),.bool false])∧Below w.heap.size w w':=by
 unfold stA
 go_enter Tryz.func35,Tryz.ntmps35
 go_wp2_with fail
 exact bodyPost_ret (v:=.tuple #[.agg (inoA noIno),.bool false]) (by simp [results,Tryz.results35,go_sem,inoA,noIno]) rfl ⟨rfl,by
  repeat (first | exact Below.refl _ _ | apply Below.drew | refine Below.alloc ?_ (by simp <;> omega) _)⟩

set_option maxRecDepth 100000 in
theorem nil_look (d : St) (nm : ByteArray) (w : World) : Calls Tryz.prog 36 #[.pointer none,.agg (stA d),.string nm] w fun e w'=>e = .returned (.tuple #[.agg (stA (0,0)),.bool false])∧Below w.heap.size w w':=by
 unfold stA
 go_enter Tryz.func36,Tryz.ntmps36
 go_wp2_with fail
 exact bodyPost_ret (v:=.tuple #[.agg (stA (0,0)),.bool false]) (by simp [results,Tryz.results36,go_sem,stA]) rfl ⟨rfl,by
  repeat (first | exact Below.refl _ _ | apply Below.drew | refine Below.alloc ?_ (by simp <;> omega) _)⟩

theorem nil_inodes (w : World) : Calls Tryz.prog 24 #[.pointer none] w (InosNew [] w):=by
 go_enter Tryz.func24,Tryz.ntmps24
 go_wp2_with fail
 go_ret
 exact ⟨_,rfl,World.ownsRow_nil _ _ _ _,Below.refl _ _⟩

theorem nil_sorted (w : World) : Calls Tryz.prog 55 #[.pointer none,.func (.func 56) #[] #[]] w (EntsNew [] w):=by
 go_enter Tryz.func55,Tryz.ntmps55
 go_wp2_with fail
 go_ret
 exact ⟨_,rfl,World.ownsRow_nil _ _ _ _,Below.refl _ _⟩

theorem nil_entries (w : World) : Calls Tryz.prog 27 #[.pointer none] w (EntsNew [] w):=by
 have HS:=Lib.hid (nil_sorted w)
 go_enter Tryz.func27,Tryz.ntmps27
 go_wp2_with fail
 refine (HS.out).mono ?_
 rintro e w1 ⟨v,rfl,hown,hb⟩
 go_wp2_with fail
 go_ret
 exact ⟨v,rfl,hown,hb⟩

theorem nil_copy (w : World) : Calls Tryz.prog 31 #[.pointer none] w fun e w'=>e = .returned (.pointer none)∧Below w.heap.size w w':=by
 go_enter Tryz.func31,Tryz.ntmps31
 go_wp2_with fail
 go_ret
 exact ⟨rfl,Below.refl _ _⟩

theorem nil_make (w : World) : Calls Tryz.prog 161 #[.pointer none,.agg (stA (1,0)),.int .i64 1] w fun e w'=>e = .returned (.int .i64 3)∧Below w.heap.size w w':=by
 have HM : Hid (∀ W : World,Calls Tryz.prog 115 #[.agg #[.int .i64 1,.int .i64 0]] W fun e w'=>e = .returned (.bool true)∧Below W.heap.size W w'):=fun W=>may_any 1 0 W
 have HR : Hid (∀ W : World,Calls Tryz.prog 62 #[] W fun e w'=>e = .returned (.agg #[.int .i64 0,.int .i64 0])∧Below W.heap.size W w'):=root_any
 have HG : Hid (∀ W : World,Calls Tryz.prog 35 #[.pointer none,.agg #[.int .i64 0,.int .i64 0]] W fun e w'=>e = .returned (.tuple #[.agg #[.int .i64 0,.int .i64 0,.int .i64 0,.int .i64 0,.int .i64 0,.string ⟨#[]⟩],.bool false])∧Below W.heap.size W w'):=fun W=>nil_get (0,0) W
 unfold stA
 go_enter Tryz.func161,Tryz.ntmps161
 go_wp2_with fail
 refine (HM.out _).mono ?_
 rintro e w1 ⟨rfl,hb1⟩
 have hb:=below_step ((Below.refl w.heap.size w).alloc (Nat.le_refl _) _) hb1
 clear hb1
 go_wp2_with fail
 refine (HR.out _).mono ?_
 rintro e w2 ⟨rfl,hb2⟩
 have hb3:=below_step hb hb2
 clear hb hb2
 go_wp2_with fail
 refine (HG.out _).mono ?_
 rintro e w3 ⟨rfl,hb4⟩
 have hb5:=below_step hb3 hb4
 go_wp2_with fail
 go_ret
 exact ⟨rfl,hb5.alloc hb5.size _⟩

theorem nil_drop (id : St) (w : World) : Calls Tryz.prog 167 #[.pointer none,.agg (stA id)] w fun e w'=>e = .returned (.int .i64 3)∧Below w.heap.size w w':=by
 have HG : Hid (∀ W : World,Calls Tryz.prog 35 #[.pointer none,.agg #[.int .i64 id.1,.int .i64 id.2]] W fun e w'=>e = .returned (.tuple #[.agg #[.int .i64 0,.int .i64 0,.int .i64 0,.int .i64 0,.int .i64 0,.string ⟨#[]⟩],.bool false])∧Below W.heap.size W w'):=fun W=>nil_get id W
 unfold stA
 go_enter Tryz.func167,Tryz.ntmps167
 go_wp2_with fail
 refine (HG.out _).mono ?_
 rintro e w1 ⟨rfl,hb1⟩
 have hb:=below_step ((Below.refl w.heap.size w).alloc (Nat.le_refl _) _) hb1
 go_wp2_with fail
 go_ret
 exact ⟨rfl,hb.alloc hb.size _⟩

theorem nil_set (id : St) (w : World) : Calls Tryz.prog 163 #[.pointer none,.agg (stA id),.int .i64 1,.string ⟨#[]⟩] w fun e w'=>e = .returned (.int .i64 3)∧Below w.heap.size w w':=by
 have HG : Hid (∀ W : World,Calls Tryz.prog 35 #[.pointer none,.agg #[.int .i64 id.1,.int .i64 id.2]] W fun e w'=>e = .returned (.tuple #[.agg #[.int .i64 0,.int .i64 0,.int .i64 0,.int .i64 0,.int .i64 0,.string ⟨#[]⟩],.bool false])∧Below W.heap.size W w'):=fun W=>nil_get id W
 unfold stA
 go_enter Tryz.func163,Tryz.ntmps163
 go_wp2_with fail
 refine (HG.out _).mono ?_
 rintro e w1 ⟨rfl,hb1⟩
 have hb:=below_step ((Below.refl w.heap.size w).alloc (Nat.le_refl _) _) hb1
 go_wp2_with fail
 go_ret
 exact ⟨rfl,hb.alloc hb.size _⟩

theorem nil_mayTie (w : World) : Calls Tryz.prog 164 #[.pointer none,.agg (entA ⟨(0,0),⟨#[97]⟩,(0,0)⟩)] w fun e w'=>e = .returned (.int .i64 3)∧Below w.heap.size w w':=by
 have HN : Hid (∀ W : World,Calls Tryz.prog 116 #[.string ⟨#[97]⟩] W fun e w'=>e = .returned (.bool true)∧W = w'):=fun W=>by
  have:=name_any ⟨#[97]⟩ (by decide) W
  rwa [show nameB ⟨#[97]⟩ = true by decide +kernel] at this
 have HG : Hid (∀ W : World,Calls Tryz.prog 35 #[.pointer none,.agg #[.int .i64 0,.int .i64 0]] W fun e w'=>e = .returned (.tuple #[.agg #[.int .i64 0,.int .i64 0,.int .i64 0,.int .i64 0,.int .i64 0,.string ⟨#[]⟩],.bool false])∧Below W.heap.size W w'):=fun W=>nil_get (0,0) W
 obtain ⟨nm,hnm⟩ : ∃ nm : ByteArray,nm = ⟨#[97]⟩:=⟨_,rfl⟩
 rw [← hnm] at HN ⊢
 clear hnm
 have he0:=heap_alloc_new w (.cells (entA ⟨(0,0),nm,(0,0)⟩) 89)
 have hb0 : Below w.heap.size w (w.alloc (.cells (entA ⟨(0,0),nm,(0,0)⟩) 89)):=(Below.refl _ _).alloc (Nat.le_refl _) _
 unfold entA at he0 hb0 ⊢
 go_enter Tryz.func164,Tryz.ntmps164
 go_wp2_with fail
 refine (HN.out _).mono ?_
 rintro e w1 ⟨rfl,rfl⟩
 go_wp2_with fail
 refine (HG.out _).mono ?_
 rintro e w1 ⟨rfl,hb1⟩
 have q0:=(hb1.block _ (heap_lt he0)).trans he0
 have hb2:=below_step hb0 hb1
 have hl:=heap_lt q0
 go_upto_region 4 with fail
 have r0:=(heap_alloc_old w1 (.cells #[.int .i64 0,.int .i64 0,.int .i64 0,.int .i64 0,.int .i64 0,.string ⟨#[]⟩] 59) hl).trans q0
 have hb3:=hb2.alloc hb2.size (.cells #[.int .i64 0,.int .i64 0,.int .i64 0,.int .i64 0,.int .i64 0,.string ⟨#[]⟩] 59)
 generalize w1.alloc (.cells #[.int .i64 0,.int .i64 0,.int .i64 0,.int .i64 0,.int .i64 0,.string ⟨#[]⟩] 59) = w2 at r0 hb3 ⊢
 obtain ⟨e0,e1,e2,e3,e4⟩:=ent_cells (x:=⟨(0,0),nm,(0,0)⟩) r0
 go_wp2_with fail
 refine (HG.out _).mono ?_
 rintro e w3 ⟨rfl,hb4⟩
 have hb5:=below_step hb3 hb4
 go_wp2_with fail
 go_ret
 exact ⟨rfl,hb5.alloc hb5.size _⟩

theorem nil_tie (w : World) : Calls Tryz.prog 108 #[.pointer none,.agg (entA ⟨(0,0),⟨#[97]⟩,(0,0)⟩)] w fun e w'=>e = .returned (.int .i64 3)∧Below w.heap.size w w':=by
 have HM0 : ∀ W : World,Calls Tryz.prog 164 #[.pointer none,.agg (entA ⟨(0,0),⟨#[97]⟩,(0,0)⟩)] W fun e w'=>e = .returned (.int .i64 3)∧Below W.heap.size W w':=nil_mayTie
 obtain ⟨nm,hnm⟩ : ∃ nm : ByteArray,nm = ⟨#[97]⟩:=⟨_,rfl⟩
 rw [← hnm] at HM0 ⊢
 clear hnm
 have he0:=heap_alloc_new w (.cells (entA ⟨(0,0),nm,(0,0)⟩) 89)
 have hb0 : Below w.heap.size w (w.alloc (.cells (entA ⟨(0,0),nm,(0,0)⟩) 89)):=(Below.refl _ _).alloc (Nat.le_refl _) _
 obtain ⟨e0,e1,e2,e3,e4⟩:=ent_cells he0
 have HM:=Lib.hid HM0
 clear HM0
 unfold entA at e0 e1 e2 e3 e4 hb0 HM ⊢
 go_enter Tryz.func108,Tryz.ntmps108
 go_wp2_with fail
 refine (HM.out _).mono ?_
 rintro e w1 ⟨rfl,hb1⟩
 have hb2:=below_step hb0 hb1
 go_wp2_with fail
 go_ret
 exact ⟨rfl,hb2⟩

noncomputable def graphHave : GraphHave where
 rep:=GIn
 lt:=GIn.lt
 keep:=GIn.keep
 new:=new_code
 get:=get_code
 look:=fun a S g d nm w h _ _=>look_code a S g d nm w h
 list:=list_code
 inodes:=inodes_code
 entries:=entries_code
 parent:=parent_code
 under:=under_code
 make:=fun a S g id kind w h hg=>(make_code a S g id kind w h hg).mono fun _ _ q=>⟨S,q.1,q.2.1,fun _ hi=>Or.inl hi,q.2.2⟩
 tie:=fun a S g x w h hg hn=>(tie_code a S g x w h hg hn).mono fun _ _ q=>⟨S,q.1,q.2.1,fun _ hi=>Or.inl hi,q.2.2⟩
 untie:=fun a S g d nm w h hg _=>(untie_code a S g d nm w h hg).mono fun _ _ q=>⟨S,q.1,q.2.1,fun _ hi=>Or.inl hi,q.2.2⟩
 drop:=fun a S g id w h hg=>(drop_code a S g id w h hg).mono fun _ _ q=>⟨S,q.1,q.2.1,fun _ hi=>Or.inl hi,q.2.2⟩
 set:=fun a S g id mode data w h hg=>(set_code a S g id mode data w h hg).mono fun _ _ q=>⟨S,q.1,q.2.1,fun _ hi=>Or.inl hi,q.2.2⟩
 copy:=fun a S g w h _=>copy_code a S g w h
 nilGet:=nil_get
 nilLook:=nil_look
 nilInodes:=nil_inodes
 nilEntries:=nil_entries
 nilMake:=nil_make
 nilTie:=nil_tie
 nilDrop:=nil_drop
 nilSet:=nil_set
 nilCopy:=nil_copy

end Go.Proofs.YtdobeghbkonimaaGreatDoor

namespace Go.Proofs.YtdobeghbkonimaaGreatDoor
open Go.RowKit

theorem u8_info : (Tryz.prog.info? 5).map (fun i=>(i.zero,i.size,i.bytes)) = some (some (.int .u8 0),1,1):=by kernel_rfl

theorem conv_own {w : World} {base n : Nat} {v : Value} {xs : List UInt8} (hown : w.ownsRow base 5 1 v n (xs.map bcell)) (hn : 0 < n) :
  (convert 49 9 v).run Tryz.prog w = .ok (.string ⟨xs.toArray⟩) w:=by
 obtain ⟨g,cap,hv,_,_⟩:=hown.form hn
 have hl : xs.length = n:=by have:=hown.1; simpa using this
 subst hv
 subst hl
 have hc:=hown.cells (g:=g) rfl
 refine run_convert_bytes_back w _ _ _ _ cap xs Tryz.underlying49 Tryz.underlying5 Tryz.underlying9 (fun j hj=>hc j _ ?_)
 rw [List.getElem?_map,List.getElem?_eq_getElem hj]
 rfl

end Go.Proofs.YtdobeghbkonimaaGreatDoor

namespace Go.Proofs.YtdobeghbkonimaaGreatDoor
open Go.RowKit ExtentMath PackMath

def ByteRow (W : World) (B : Nat) (w : World) (g : Nat) (xs : List UInt8) : Prop :=
 W.heap[g]? = some (.cells (xs.map bcell).toArray 5 (0,0))∧Below B w W∧B≤g

theorem made_bytes (n : Nat) : madeCells #[.int .u8 0] n = ((List.replicate n (0 : UInt8)).map bcell).toArray:=by
 apply Array.ext
 ·simp [size_madeCells]
 ·intro i h1 h2
  simp [madeCells,Nat.mod_one,bcell]

theorem wpList_make_bytes {w0 w : World} {ops : Array Oper} {rest : List Oper} {o : Oper} {a : Act} {Q : Exit→Act→World→Prop} {B : Nat}
  (hg : o.guard = none) (l c : Operand) (hop : o.op = Op.makeSlice 49 l c) (hb : Below B w0 w) (hB : B≤w.heap.size)
  (kl kc : IntKind) (n : Nat) (hl : a.eval l = .int kl (n : Int)) (hc : a.eval c = .int kc (n : Int)) (hn : n≤100)
  (hK : ∀ w',Hid (ByteRow w' B w0 w.heap.size (List.replicate n 0))→wpList Tryz.prog ops Q rest (a.put o.dst (.slice (some ⟨w.heap.size,0,none⟩) n n)) w') :
  wpList Tryz.prog ops Q (o :: rest) a w:=by
 obtain ⟨i0,hi0,hz0,hz1,hz2⟩:=info_parts u8_info
 refine wpList_make_row w hg l c _ hop 5 i0 (.int .u8 0) Tryz.underlying49 hi0 hz0 hz1 rfl kl kc n hl hc (by rw [hz2]; omega) (by omega) (hK _ ?_)
 refine ⟨?_,hb.alloc hB _,hB⟩
 rw [made_bytes]
 exact Go.Deep.blk_alloc_new _ _

theorem run_copy_str (w : World) (dT sT ty elem : TypeId) (g o dLen dCap : Nat) (s : ByteArray) (cur : Array Value) (t : TypeId)
    (hu : Tryz.prog.underlying dT = some (.slice elem)) (hs : (Tryz.prog.info? elem).map (·.size) = some 1) (hg : w.heap[g]? = some (.cells cur t (0, 0))) (hfit : o + min s.size dLen ≤ cur.size) :
    (Builtin.copy_ #[dT, sT] ty #[.slice (some ⟨g, o, none⟩) dLen dCap, .string s]).run Tryz.prog w =
      .ok (goInt ((min s.size dLen : Nat) : Int)) (w.setRow g (cur.toList.take o ++ (s.data.toList.take (min s.size dLen)).map bcell ++ cur.toList.drop (o + min s.size dLen)).toArray) := by
  have hlen : ((s.data.toList.take (min s.size dLen)).map bcell).length = min s.size dLen := by simp
  have hst := run_storeCells_at Tryz.prog g o t ((s.data.toList.take (min s.size dLen)).map bcell) 0 cur w hg (by rw [hlen]; simpa using hfit) (by
    intro v hv
    obtain ⟨b, _, rfl⟩ := List.mem_map.1 hv
    rfl)
  rw [hlen] at hst
  simp only [Nat.add_zero] at hst
  have htk : List.take (Nat.min s.size dLen) (List.map (fun b : UInt8 => Value.int IntKind.u8 (b.toNat : Int)) s.data.toList) = (s.data.toList.take (min s.size dLen)).map bcell := by
    rw [List.map_take]
    rfl
  cases hq : Tryz.prog.info? elem with
  | none => simp [hq] at hs
  | some i =>
    simp [Builtin.copy_, run_underlying hu, Builtin.lenOf, Builtin.firstCells, sizeOf, typeInfo, hq]
    rw [htk, hst]
    simp [Result.andThen]

def lay (xs : List UInt8) (o : Nat) (ys : List UInt8) : List UInt8:=xs.take o ++ ys ++ xs.drop (o + ys.length)

theorem lay_len {xs : List UInt8} {o : Nat} {ys : List UInt8} (h : o + ys.length≤xs.length) : (lay xs o ys).length = xs.length:=by
 unfold lay
 simp
 omega

theorem bAt_lay {xs : List UInt8} {o : Nat} {ys : List UInt8} (h : o + ys.length≤xs.length) (i : Nat) : bAt (lay xs o ys) i = if o≤i∧i < o + ys.length then bAt ys (i - o) else bAt xs i:=by
 unfold lay bAt
 simp only [List.getD_eq_getElem?_getD]
 by_cases h1 : i < o
 ·rw [if_neg (by omega),List.append_assoc,List.getElem?_append_left (by simp; omega),List.getElem?_take,if_pos h1]
 ·by_cases h2 : i < o + ys.length
  ·rw [if_pos ⟨by omega,h2⟩,List.append_assoc,List.getElem?_append_right (by simp; omega),List.getElem?_append_left (by simp; omega)]
   congr 2
   simp
   omega
  ·rw [if_neg (by omega),List.getElem?_append_right (by simp; omega),List.getElem?_drop]
   congr 2
   simp
   omega

set_option maxRecDepth 100000 in
theorem wpList_copy_str {w0 w : World} {ops : Array Oper} {rest : List Oper} {o : Oper} {a : Act} {Q : Exit→Act→World→Prop} {B : Nat} (hgd : o.guard = none) (d x : Operand)
  (ho : o.op = .call { callee:=.builtin .copy,args:=#[d,x],argTypes:=#[49,9] }) (g off dLen dCap : Nat) (xs : List UInt8) (hR : Hid (ByteRow w B w0 g xs)) (s : ByteArray)
  (hd : a.eval d = .slice (some ⟨g,off,none⟩) dLen dCap) (hx : a.eval x = .string s) (hfit : off + dLen≤xs.length)
  (h : ∀ w',Hid (ByteRow w' B w0 g (lay xs off (s.data.toList.take (min s.size dLen))))→wpList Tryz.prog ops Q rest (a.put o.dst (goInt ((min s.size dLen : Nat) : Int))) w') : wpList Tryz.prog ops Q (o :: rest) a w:=by
 obtain ⟨hg,hb,hB⟩:=hR.out
 obtain ⟨i0,hi0,hz0,hz1,hz2⟩:=info_parts u8_info
 have hm : (s.data.toList.take (min s.size dLen)).length = min s.size dLen:=by
  rw [List.length_take]
  have e : s.data.toList.length = s.size:=by simp
  omega
 refine wpList_plain hgd fun K hK=>?_
 have hrun:=run_copy_str w 49 9 o.type 5 g off dLen dCap s _ _ Tryz.underlying49 (by rw [hi0]; simp [hz1]) hg (by rw [List.size_toArray,List.length_map]; omega)
 unfold Oper.wp
 simp only [execOp,ho,resolve,invoke,builtin,Sem.run_bind,Sem.run_pure,Result.andThen_ok,List.map_toArray,List.map_cons,List.map_nil,hd,hx,hrun]
 refine hK _ _ (h _ ⟨?_,?_,hB⟩)
 ·rw [setRow_heap w g _ _ _ _ hg]
  congr 3
  unfold lay
  rw [hm]
  simp
 ·exact hb.trans ⟨rfl,rfl,rfl,by simp [World.setRow],fun k hk=>setRow_other w g k _ (by omega)⟩

theorem conv_row {w0 w : World} {B g n cap : Nat} {xs : List UInt8} (hR : Hid (ByteRow w B w0 g xs)) (hn : xs.length = n) :
  (convert 49 9 (.slice (some ⟨g,0,none⟩) n cap)).run Tryz.prog w = .ok (.string ⟨xs.toArray⟩) w:=by
 subst hn
 obtain ⟨hg,_,_⟩:=hR.out
 refine run_convert_bytes_back w _ _ _ _ cap xs Tryz.underlying49 Tryz.underlying5 Tryz.underlying9 (fun j hj=>?_)
 have hh:=cell_of_row w g j (xs.map bcell).toArray 5 (0,0) hg
 rw [show (⟨g,0,none⟩ : Addr).add j = ⟨g,j,none⟩ by unfold Addr.add; split <;> simp_all,hh]
 simp [bcell,List.getElem?_eq_getElem hj]

theorem wpList_max_nat {w : World} {ops : Array Oper} {rest : List Oper} {o : Oper} {a : Act} {Q : Exit→Act→World→Prop} (hgd : o.guard = none) (x y : Operand) (ats : Array TypeId)
  (ho : o.op = .call { callee:=.builtin .max,args:=#[x,y],argTypes:=ats }) (A C : Int) (n : Nat) (hx : a.eval x = .int .i64 A) (hy : a.eval y = .int .i64 C) (hn : max A C = (n : Int))
  (h : wpList Tryz.prog ops Q rest (a.put o.dst (.int .i64 (n : Int))) w) : wpList Tryz.prog ops Q (o :: rest) a w:=by
 refine wpList_plain hgd fun K hK=>?_
 have hrun:=run_max_int2 (P:=Tryz.prog) (w:=w) ats o.type .i64 .i64 A C
 rw [show (if C > A then C else A) = (n : Int) by rw [← hn]; split <;> omega] at hrun
 unfold Oper.wp
 simp only [execOp,ho,resolve,invoke,builtin,Sem.run_bind,Sem.run_pure,Result.andThen_ok,List.map_toArray,List.map_cons,List.map_nil,hx,hy,hrun]
 exact hK _ _ h

theorem lay_tL' (d : List UInt8) (n : Nat) : lay (List.replicate n 0) 0 (d.take (min d.length n)) = tL d n:=by
 have hl : 0 + (d.take (min d.length n)).length≤(List.replicate n (0 : UInt8)).length:=by simp; omega
 refine same_bytes (by rw [lay_len hl,tL_len]; simp) fun i hi=>?_
 rw [lay_len hl,List.length_replicate] at hi
 rw [bAt_lay hl,bAt_tL,if_pos hi]
 by_cases h : i < d.length
 ·rw [if_pos ⟨Nat.zero_le _,by simp; omega⟩]
  unfold bAt
  simp only [List.getD_eq_getElem?_getD,Nat.sub_zero,List.getElem?_take]
  rw [if_pos (by omega)]
 ·rw [if_neg (by simp; omega),bAt_ge (show d.length≤i by omega)]
  unfold bAt
  simp [List.getD_eq_getElem?_getD,hi]

theorem lay_wL' (d s : List UInt8) (o n : Nat) (hn : n = max d.length (o + s.length)) : lay (lay (List.replicate n 0) 0 (d.take (min d.length n))) o (s.take (min s.length (n - o))) = wL d s o:=by
 rw [lay_tL',Nat.min_eq_left (by omega),List.take_length]
 have hl : o + s.length≤(tL d n).length:=by rw [tL_len]; omega
 refine same_bytes (by rw [lay_len hl,tL_len,wL_len,hn]) fun i hi=>?_
 rw [lay_len hl,tL_len] at hi
 rw [bAt_lay hl,bAt_wL,bAt_tL,if_pos hi]
 rfl

theorem lay_tL (d : ByteArray) (n : Nat) : lay (List.replicate n 0) 0 (d.data.toList.take (min d.size n)) = tL d.data.toList n:=by
 have h:=lay_tL' d.data.toList n
 rwa [len_bytes] at h

theorem lay_wL (d s : ByteArray) (o n : Nat) (hn : n = max d.size (o + s.size)) : lay (lay (List.replicate n 0) 0 (d.data.toList.take (min d.size n))) o (s.data.toList.take (min s.size (n - o))) = wL d.data.toList s.data.toList o:=by
 have h:=lay_wL' d.data.toList s.data.toList o n (by rw [len_bytes,len_bytes]; exact hn)
 rwa [len_bytes,len_bytes] at h

theorem lay_room (d : ByteArray) (n : Nat) : (lay (List.replicate n 0) 0 (d.data.toList.take (min d.size n))).length = n:=by rw [lay_tL,tL_len]

set_option maxRecDepth 100000 in
theorem trunc_code (d : ByteArray) (n : Int) (w : World) (hd : d.size≤2000) (hn : IsI64 n) :
  Calls Tryz.prog 169 #[.string d,.int .i64 n] w fun e w'=>e = .returned (.tuple #[.string (tR d n).1,.int .i64 (tR d n).2])∧Below w.heap.size w w':=by
 by_cases h0 : n < 0
 ·rw [show tR d n = (d,1) by unfold tR; rw [if_pos h0]]
  go_enter Tryz.func169,Tryz.ntmps169
  go_wp2_with fail
  go_ret2
  exact ⟨rfl,Below.refl _ _⟩
 by_cases h1 : 64 < n
 ·rw [show tR d n = (d,11) by unfold tR; rw [if_neg h0,if_pos (Or.inl h1)]]
  go_enter Tryz.func169,Tryz.ntmps169
  go_wp2_with fail
  go_ret2
  exact ⟨rfl,Below.refl _ _⟩
 by_cases h2 : 64 < d.size
 ·rw [show tR d n = (d,11) by unfold tR; rw [if_neg h0,if_pos (Or.inr h2)]]
  go_enter Tryz.func169,Tryz.ntmps169
  go_wp2_with fail
  go_ret2
  exact ⟨rfl,Below.refl _ _⟩
 obtain ⟨m,rfl⟩ : ∃ m : Nat,n = (m : Int):=⟨n.toNat,by omega⟩
 have hm64 : m≤64:=by omega
 rw [show tR d (m : Int) = (⟨(tL d.data.toList m).toArray⟩,0) by unfold tR; rw [if_neg h0,if_neg (by omega)]; rfl]
 clear h0 h1 hn
 have hl:=Lib.hid (lay_tL d m)
 go_enter Tryz.func169,Tryz.ntmps169
 go_wp2_with (first
  | (at_make; refine wpList_make_bytes rfl _ _ rfl (Below.refl w.heap.size w) (Nat.le_refl _) _ _ m rfl rfl (by omega) ?_; intro w1 HR1)
  | (refine wpList_copy_str (by rfl) _ _ (by rfl) _ 0 m m _ HR1 d (by rfl) (by rfl) (by simp) ?_; intro w2 HR2; have hcv:=conv_row (n:=m) (cap:=m) HR2 (by rw [hl.out]; exact tL_len _ _)))
 go_ret2
 exact ⟨by rw [← hl.out]; rfl,HR2.out.2.1⟩

set_option maxRecDepth 100000 in
theorem write_code (d : ByteArray) (off : Int) (s : ByteArray) (w : World) (hd : d.size≤2000) (hs : s.size≤2000) (ho : IsI64 off) :
  Calls Tryz.prog 168 #[.string d,.int .i64 off,.string s] w fun e w'=>e = .returned (.tuple #[.string (wR d off s).1,.int .i64 (wR d off s).2])∧Below w.heap.size w w':=by
 have hes : (s.toList == []) = decide (s.size = 0):=by
  rw [ByteArray.toList_eq]
  have e2 : s.data.toList.length = s.size:=by simp
  cases hl : s.data.toList with
  | nil=>rw [hl] at e2; rw [decide_eq_true (by simpa using e2.symm)]; rfl
  | cons a l=>rw [hl,List.length_cons] at e2; rw [decide_eq_false (by omega)]; rfl
 by_cases h0 : off < 0
 ·rw [show wR d off s = (d,1) by unfold wR; rw [if_pos (Or.inl h0)]]
  go_enter Tryz.func168,Tryz.ntmps168
  go_wp2_with fail
  go_ret2
  exact ⟨rfl,Below.refl _ _⟩
 by_cases hs0 : s.size = 0
 ·rw [show wR d off s = (d,1) by unfold wR; rw [if_pos (Or.inr hs0)]]
  rw [decide_eq_true hs0] at hes
  go_enter Tryz.func168,Tryz.ntmps168
  go_wp2_with fail
  go_ret2
  exact ⟨rfl,Below.refl _ _⟩
 rw [decide_eq_false hs0] at hes
 have hw:=Lib.hid (show wrap64 (64 - off) = 64 - off by unfold IsI64 at ho; unfold wrap64; omega)
 by_cases h1 : 64 - off < (s.size : Int)
 ·rw [show wR d off s = (d,11) by unfold wR; rw [if_neg (by omega),if_pos (by omega)]]
  have hq : decide (wrap64 (64 - off) < (s.size : Int)) = true:=by rw [hw.out]; exact decide_eq_true h1
  go_enter Tryz.func168,Tryz.ntmps168
  go_wp2_with fail
  go_ret2
  exact ⟨rfl,Below.refl _ _⟩
 by_cases h2 : 64 < d.size
 ·rw [show wR d off s = (d,11) by unfold wR; rw [if_neg (by omega),if_pos (by omega)]]
  go_enter Tryz.func168,Tryz.ntmps168
  go_wp2_with fail
  go_ret2
  exact ⟨rfl,Below.refl _ _⟩
 obtain ⟨o,rfl⟩ : ∃ m : Nat,off = (m : Int):=⟨off.toNat,by omega⟩
 obtain ⟨n,hn⟩ : ∃ n,n = max d.size (o + s.size):=⟨_,rfl⟩
 have hn64 : n≤64:=by omega
 rw [show wR d (o : Int) s = (⟨(wL d.data.toList s.data.toList o).toArray⟩,0) by unfold wR; rw [if_neg (by omega),if_neg (by omega)]; rfl]
 have hq : decide (wrap64 (64 - (o : Int)) < (s.size : Int)) = false:=by rw [hw.out]; exact decide_eq_false h1
 have hw2:=Lib.hid (show max (d.size : Int) ((o : Int) + (s.size : Int)) = (n : Int) by omega)
 have hl:=Lib.hid (lay_wL d s o n hn)
 have hll:=Lib.hid (show (wL d.data.toList s.data.toList o).length = n by rw [wL_len,len_bytes,len_bytes,hn])
 have hod : o≤n:=by omega
 have hno : ¬ n = o:=by omega
 have hcut:=Lib.hid (show o + (n - o)≤n by omega)
 clear h0 ho hn
 go_enter Tryz.func168,Tryz.ntmps168
 go_wp2_with (first
  | (refine wpList_max_nat (by rfl) _ _ _ (by rfl) _ _ n (by rfl) (by rfl) hw2.out ?_)
  | (at_make; refine wpList_make_bytes rfl _ _ rfl (Below.refl w.heap.size w) (Nat.le_refl _) _ _ n rfl rfl (by omega) ?_; intro w1 HR1)
  | (refine wpList_copy_str (by rfl) _ _ (by rfl) _ 0 n n _ HR1 d (by rfl) (by rfl) (by simp) ?_; intro w2 HR2)
  | (refine wpList_copy_str (by rfl) _ _ (by rfl) _ o (n - o) (n - o) _ HR2 s (by rfl) (by rfl) (by rw [lay_room]; exact hcut.out) ?_; intro w3 HR3; have hcv:=conv_row (n:=n) (cap:=n) HR3 (by rw [hl.out]; exact hll.out)))
 go_ret2
 exact ⟨by rw [← hl.out]; rfl,HR3.out.2.1⟩

theorem extentHave : ExtentHave where
 write:=fun d off s w hd hs ho=>write_code d off s w hd hs ho
 trunc:=fun d n w hd hn=>trunc_code d n w hd hn

end Go.Proofs.YtdobeghbkonimaaGreatDoor

namespace Go.Proofs.YtdobeghbkonimaaGreatDoor.GraphMath
open StampMath OpMath

def okE (N : List Ino) (e : Ent) : Bool:=decide (kindI N e.dir = some 1) && (kindI N e.ino).isSome

def belowL (N : List Ino) (E : List Ent) (s : St) : List St:=(E.filter fun e=>okE N e && decide (e.dir = s)).map (·.ino)

theorem belowL_snoc (N : List Ino) (E : List Ent) (k : Nat) (hk : k < E.length) (s : St) : belowL N (E.take (k + 1)) s = belowL N (E.take k) s ++ if okE N E[k] = true∧E[k].dir = s then [E[k].ino] else []:=by
 rw [List.take_succ_eq_append_getElem hk]
 unfold belowL
 rw [List.filter_append,List.map_append]
 congr 1
 by_cases h : okE N E[k] = true∧E[k].dir = s
 ·rw [if_pos h,List.filter_cons,if_pos (by rw [h.1,decide_eq_true h.2]; rfl)]
  rfl
 ·rw [if_neg h,List.filter_cons,if_neg fun q=>h (by simpa using q)]
  rfl

theorem belowL_len (N : List Ino) (E : List Ent) (s : St) : (belowL N E s).length≤E.length:=by
 unfold belowL
 rw [List.length_map]
 exact List.length_filter_le _ _

theorem belowL_reached {N : List Ino} {E : List Ent} {s t : St} (h : Reached N E s) (ht : t∈belowL N E s) : Reached N E t:=by
 obtain ⟨e,he,rfl⟩:=List.mem_map.1 ht
 obtain ⟨h1,h2⟩:=List.mem_filter.1 he
 simp only [okE,Bool.and_eq_true,decide_eq_true_eq] at h2
 obtain ⟨⟨h3,h4⟩,h5⟩:=h2
 obtain ⟨n,hn⟩:=h
 exact ⟨n + 1,.step h1 (by rw [h5]; exact hn) h3 h4⟩

theorem reached_closed {N : List Ino} {E : List Ent} {F : List St} (h0 : (0,0)∈F) (h1 : ∀ s∈F,∀ t∈belowL N E s,t∈F) {s : St} (h : Reached N E s) : s∈F:=by
 obtain ⟨n,h⟩:=h
 induction h with
 | root _=>exact h0
 | @step n e he _ hk hi ih =>
  refine h1 _ ih _ (List.mem_map.2 ⟨e,List.mem_filter.2 ⟨he,?_⟩,rfl⟩)
  simp [okE,hk,hi]

theorem reached_none {N : List Ino} {E : List Ent} (h : kindI N (0,0) = none) {s : St} : ¬ Reached N E s:=by
 rintro ⟨n,hn⟩
 induction hn with
 | root h2=>rw [h] at h2; cases h2
 | step _ _ _ _ ih=>exact ih

theorem reached_root {N : List Ino} {E : List Ent} (h : (kindI N (0,0)).isSome) : Reached N E (0,0):=⟨0,.root h⟩

theorem found_few {N : List Ino} {E : List Ent} {F : List St} (hn : F.Nodup) (h : ∀ s∈F,Reached N E s) : F.length≤N.length:=by
 have:=nodup_le hn (M:=N.map (·.id)) fun s hs=>by
  obtain ⟨x,hx,hxe⟩:=(h s hs).ino
  rw [← hxe]
  exact List.mem_map_of_mem hx
 simpa using this

end Go.Proofs.YtdobeghbkonimaaGreatDoor.GraphMath

namespace Go.Proofs.YtdobeghbkonimaaGreatDoor
open Go.RowKit StampMath GraphMath OpMath

def StsIn (W : World) (B : Nat) (A : Option Addr) (n : Nat) (l : List St) : Prop:=TabIn 2 W B A n (l.map stA)

def StAt (W : World) (g p : Nat) (s : St) : Prop:=W.cell? ⟨g,p,none⟩ = some (.int .i64 s.1)∧W.cell? ⟨g,p + 1,none⟩ = some (.int .i64 s.2)

theorem StsIn.row {W : World} {B : Nat} {A : Option Addr} {n : Nat} {l : List St} (h : StsIn W B A n l) (hn : 0 < n) : ∃ g o,A = some ⟨g,o,none⟩∧g < B∧∀ k (hk : k < l.length),StAt W g (o + k * 2) l[k]:=by
 obtain ⟨g,o,e,hg,hc⟩:=h.2 hn
 refine ⟨g,o,e,hg,fun k hk=>?_⟩
 have hk' : k < (l.map stA).length:=by simpa using hk
 have he : (l.map stA)[k] = stA l[k]:=by simp
 exact ⟨hc k hk' 0 _ (by rw [he]; rfl),hc k hk' 1 _ (by rw [he]; rfl)⟩

theorem StAt.below {W W' : World} {B g p : Nat} {s : St} (h : StAt W g p s) (hb : Below B W W') (hg : g < B) : StAt W' g p s :=
 ⟨(hb.cell (p:=⟨g,p,none⟩) hg).trans h.1,(hb.cell (p:=⟨g,p + 1,none⟩) hg).trans h.2⟩

theorem sts_own {W : World} {base : Nat} {v : Value} {n : Nat} {l : List St} (hn : l.length = n) (h : W.ownsRow base 24 2 v n (flat (l.map stA))) :
  ∃ (A : Option Addr) (c : Nat),v = .slice A n c∧StsIn W W.heap.size A n l∧n≤c∧c≤maxLen∧(A = Option.none→c = 0) :=
 tab_own (k:=2) (fun r hr=>by obtain ⟨e,_,rfl⟩:=List.mem_map.1 hr; rfl) (by simpa using hn) h

end Go.Proofs.YtdobeghbkonimaaGreatDoor

namespace Go.Proofs.YtdobeghbkonimaaGreatDoor
open Go.RowKit Go.MapKept
open Go.ChangeMaps (setBlock)

section
variable {K V : Type} {ek : K→Value} {ev : V→Value} {P : Program} {k e : TypeId}

theorem entry_parts (S : KShape P k ek) {t : TypeId} {w : World} {b : Nat} {es : Array MapEntry} {clock : Nat} (ht : P.underlying t = some (.map k e)) {z : Value} (hz : ∀ u : World,(zeroValue e).run P u = .ok z u) (hb : w.heap[b]? = some (.map es clock)) (hs : Stamped es clock) (hall : ∀ e∈es.toList,∃ y,e.key = ek y) (x : K) :
  ∃ (v0 : Value) (st : Nat) (es1 : Array MapEntry) (clock1 : Nat),(Instr.mapEntry t (.map (some b)) (ek x)).run P w = .ok (.tuple #[v0,goInt st]) (setBlock w b (.map es1 clock1)) ∧
   ((∃ e0∈es.toList,e0.key = ek x∧v0 = e0.val)∨((∀ x'∈es.toList,x'.key ≠ ek x)∧v0 = z))∧(Instr.mapUpdate t (.map (some b)) (ek x) v0).run P w = .ok () (setBlock w b (.map es1 clock1)) ∧
   ∀ (w2 : World) (val : Value),w2.heap[b]? = some (.map es1 clock1)→∃ es' clock',(Instr.entryStore t (.map (some b)) (goInt st) val).run P w2 = .ok () (setBlock w2 b (.map es' clock')) ∧
    (Instr.mapUpdate t (.map (some b)) (ek x) val).run P w = .ok () (setBlock w b (.map es' clock')):=by
 obtain ⟨s1,s2,_⟩:=hs
 rcases S.find w x es.toList hall with ⟨h1,h2⟩ | ⟨j,e0,h1,h2,h3⟩
 ·refine ⟨z,clock,es.push ⟨ek x,z,clock⟩,clock + 1,?_,Or.inr ⟨h2,rfl⟩,?_,fun w2 val hw2=>⟨es.push ⟨ek x,val,clock⟩,clock + 1,?_,?_⟩⟩
  ·simp [Instr.mapEntry,run_underlying ht,MapKept.run_getObj_map hb,S.check w,h1,hz,MapKept.run_setObj_map _ hb,Result.andThen,setBlock]
  ·simp [Instr.mapUpdate,run_underlying ht,MapKept.run_getObj_map hb,S.check w,h1,MapKept.run_setObj_map _ hb,Result.andThen,setBlock]
  ·have hidx : (es.push ⟨ek x,z,clock⟩).findIdx? (fun e=>((e.born : Nat) : Int) == ((clock : Nat) : Int)) = some es.size:=by
    rw [WideElems.findIdx_arr]
    have:=WideElems.findIdx_born (l:=(es.push ⟨ek x,z,clock⟩).toList) (j:=es.size) (e0:=⟨ek x,z,clock⟩) (by
     simp only [Array.toList_push,List.map_append,List.map_cons,List.map_nil]
     refine List.nodup_append.2 ⟨s2,by simp,fun a ha c hc e1=>?_⟩
     simp only [List.mem_singleton] at hc
     obtain ⟨x,hx,rfl⟩:=List.mem_map.1 ha
     have:=s1 x hx
     omega) (by simp)
    exact this
   have hmod : (es.push ⟨ek x,z,clock⟩).modify es.size (fun e=>{ e with val:=val }) = es.push ⟨ek x,val,clock⟩:=by
    apply Array.ext'
    rw [Array.toList_modify,Array.toList_push,Array.toList_push,← Array.length_toList,WideElems.modify_last]
   simp [Instr.entryStore,MapKept.run_getObj_map hw2,asInt,asIntOf,goInt,hidx,hmod,MapKept.run_setObj_map _ hw2,Result.andThen,setBlock]
  ·simp [Instr.mapUpdate,run_underlying ht,MapKept.run_getObj_map hb,S.check w,h1,MapKept.run_setObj_map _ hb,Result.andThen,setBlock]
 ·have hj : es[j]? = some e0:=by simpa using h2
  have hsame : es.modify j (fun e=>{ e with key:=ek x }) = es:=by
   apply Array.ext'
   rw [Array.toList_modify,ChangeMaps.modify_eq_set _ _ _ _ h2]
   have : ({ e0 with key:=ek x } : MapEntry) = e0:=by rw [← h3]
   rw [this]
   exact WideElems.set_self _ _ _ h2
  have hsame2 : es.modify j (fun e=>{ e with key:=ek x,val:=e0.val }) = es:=by
   apply Array.ext'
   rw [Array.toList_modify,ChangeMaps.modify_eq_set _ _ _ _ h2]
   have : ({ e0 with key:=ek x,val:=e0.val } : MapEntry) = e0:=by rw [← h3]
   rw [this]
   exact WideElems.set_self _ _ _ h2
  refine ⟨e0.val,e0.born,es,clock,?_,Or.inl ⟨e0,List.mem_of_getElem? h2,h3,rfl⟩,?_,fun w2 val hw2=>⟨es.modify j (fun e'=>{ e' with key:=ek x,val:=val }),clock,?_,?_⟩⟩
  ·simp [Instr.mapEntry,run_underlying ht,MapKept.run_getObj_map hb,S.check w,h1,hj,h3,S.stays w,hsame,MapKept.run_setObj_map _ hb,Result.andThen,setBlock]
  ·simp [Instr.mapUpdate,run_underlying ht,MapKept.run_getObj_map hb,S.check w,h1,hj,h3,S.stays w,hsame2,MapKept.run_setObj_map _ hb,Result.andThen,setBlock]
  ·have hidx : es.findIdx? (fun e=>((e.born : Nat) : Int) == ((e0.born : Nat) : Int)) = some j:=by
    rw [WideElems.findIdx_arr]
    exact WideElems.findIdx_born s2 h2
   have hmod : es.modify j (fun e=>{ e with val:=val }) = es.modify j (fun e'=>{ e' with key:=ek x,val:=val }):=by
    apply Array.ext'
    rw [Array.toList_modify,Array.toList_modify,ChangeMaps.modify_eq_set _ _ _ _ h2,ChangeMaps.modify_eq_set _ _ _ _ h2,← h3]
   simp [Instr.entryStore,MapKept.run_getObj_map hw2,asInt,asIntOf,goInt,hidx,hmod,MapKept.run_setObj_map _ hw2,Result.andThen,setBlock]
  ·simp [Instr.mapUpdate,run_underlying ht,MapKept.run_getObj_map hb,S.check w,h1,hj,h3,S.stays w,MapKept.run_setObj_map _ hb,Result.andThen,setBlock]

variable (ek ev P) in
def KSlot [DecidableEq K] (t : TypeId) (W : World) (b : Nat) (L : List (K × V)) (x : K) (st : Nat) : Prop :=
 ∀ (W2 : World),W2.heap[b]? = W.heap[b]?→∀ val : V,∃ W3,(Instr.entryStore t (.map (some b)) (.int .i64 (st : Int)) (ev val)).run P W2 = .ok () W3∧KMap ek ev W3 b ((x,val) :: offL L x)∧But (fun i=>i = b) W2 W3∧W3.heap.size = W2.heap.size

theorem KMap.entry [DecidableEq K] (S : KShape P k ek) {t : TypeId} {w : World} {b : Nat} {L : List (K × V)} (h : KMap ek ev w b L) (ht : P.underlying t = some (.map k e)) (zv : V) (hz : ∀ u : World,(zeroValue e).run P u = .ok (ev zv) u) (x : K) :
  ∃ (st : Nat) (w1 : World),(Instr.mapEntry t (.map (some b)) (ek x)).run P w = .ok (.tuple #[ev ((lookL L x).getD zv),.int .i64 (st : Int)]) w1∧KMap ek ev w1 b ((x,(lookL L x).getD zv) :: offL L x)∧But (fun i=>i = b) w w1∧w1.heap.size = w.heap.size∧KSlot ek ev P t w1 b L x st:=by
 have hup:=fun v=>h.store S ht x v
 obtain ⟨es,clock,M,h1,h2,h3,h4⟩:=h
 have hkM:=keys_of h2 h3
 obtain ⟨v0,st,es1,clock1,r1,hv,r2,r3⟩:=entry_parts S ht hz h1 h2 (all_shape h3) x
 have hv0 : v0 = ev ((lookL L x).getD zv):=by
  rw [← lookL_perm h4 hkM]
  rcases hv with ⟨e0,he0,hk0,rfl⟩ | ⟨hn,rfl⟩
  ·obtain ⟨j,hj,rfl⟩:=List.getElem_of_mem he0
   obtain ⟨p,q1,q2,q3⟩:=entry_shape h3 (List.getElem?_eq_getElem hj)
   have hpx : p.1 = x:=S.inj _ _ (q2.symm.trans hk0)
   have : lookL M x = some p.2:=(mem_lookL hkM).2 (by rw [← hpx]; exact List.mem_of_getElem? q1)
   rw [this,q3]
   rfl
  ·have hno : lookL M x = none:=lookL_none fun p hp e1=>by
    obtain ⟨j,hj,rfl⟩:=List.getElem_of_mem hp
    have hl : j < es.toList.length:=by have:=congrArg List.length h3; simp only [List.length_map] at this; omega
    obtain ⟨p',q1,q2,_⟩:=entry_shape h3 (List.getElem?_eq_getElem hl)
    rw [List.getElem?_eq_getElem hj] at q1
    have:=Option.some.inj q1
    subst this
    exact hn _ (List.getElem_mem hl) (by rw [q2,e1])
   rw [hno]
   rfl
 subst hv0
 obtain ⟨w',s1,s2,s3,s4⟩:=hup ((lookL L x).getD zv)
 rw [r2] at s1
 cases s1
 refine ⟨st,_,r1,s2,s3,s4,fun W2 hW2 val=>?_⟩
 have hW2':=hW2.trans (heap_set (o':=.map es1 clock1) h1).1
 obtain ⟨es',clock',t1,t2⟩:=r3 W2 (ev val) hW2'
 obtain ⟨w'',u1,u2,u3,u4⟩:=hup val
 rw [t2] at u1
 cases u1
 refine ⟨_,t1,u2.kept ?_,setBlock_but hW2',by simp [setBlock]⟩
 show (setBlock W2 b (.map es' clock')).heap[b]? = (setBlock w b (.map es' clock')).heap[b]?
 exact (heap_set hW2').1.trans (heap_set h1).1.symm

theorem wpList_k_entry [DecidableEq K] (S : KShape P k ek) {w : World} {ops : Array Oper} {rest : List Oper} {o : Oper} {a : Act} {Q : Exit→Act→World→Prop} (hg : o.guard = none) (m x : Operand) (t : TypeId)
  (hop : o.op = Op.mapEntry t m x) (ht : P.underlying t = some (.map k e)) (zv : V) (hz : ∀ u : World,(zeroValue e).run P u = .ok (ev zv) u) (b : Nat) (L : List (K × V)) (hm : a.eval m = .map (some b)) (h : KMap ek ev w b L) (key : K) (hx : a.eval x = ek key)
  (hK : ∀ (v : V) (st : Nat) (w' : World),v = (lookL L key).getD zv→Hid (KMap ek ev w' b ((key,v) :: offL L key))→Hid (But (fun i=>i = b) w w')→Hid (w'.heap.size = w.heap.size)→Hid (KSlot ek ev P t w' b L key st)→wpList P ops Q rest (a.put o.dst (.tuple #[ev v,.int .i64 (st : Int)])) w') : wpList P ops Q (o :: rest) a w:=by
 refine wpList_plain hg fun K' hK'=>?_
 obtain ⟨st,w',hrun,r1,r2,r3,r4⟩:=h.entry S ht zv hz key
 unfold Oper.wp
 simp [execOp,hop,hm,hx,hrun,Result.andThen]
 exact hK' _ _ (hK _ st w' rfl r1 r2 r3 r4)

theorem wpList_k_entryStore [DecidableEq K] {w : World} {ops : Array Oper} {rest : List Oper} {o : Oper} {a : Act} {Q : Exit→Act→World→Prop} (hg : o.guard = none) (m s v : Operand) (t : TypeId)
  (hop : o.op = Op.entryStore t m s v) (b : Nat) (L : List (K × V)) (hm : a.eval m = .map (some b)) (key : K) (st : Nat) (W : World) (h : KSlot ek ev P t W b L key st) (hW : w.heap[b]? = W.heap[b]?) (hs : a.eval s = .int .i64 (st : Int)) (val : V) (hv : a.eval v = ev val)
  (hK : ∀ w',Hid (KMap ek ev w' b ((key,val) :: offL L key))→Hid (But (fun i=>i = b) w w')→Hid (w'.heap.size = w.heap.size)→wpList P ops Q rest (a.put o.dst undef) w') : wpList P ops Q (o :: rest) a w:=by
 refine wpList_plain hg fun K' hK'=>?_
 obtain ⟨w',hrun,r1,r2,r3⟩:=h w hW val
 unfold Oper.wp
 simp [execOp,hop,hm,hs,hv,hrun,Result.andThen]
 exact hK' _ _ (hK w' r1 r2 r3)

end
end Go.Proofs.YtdobeghbkonimaaGreatDoor

namespace Go.Proofs.YtdobeghbkonimaaGreatDoor
open Go.RowKit StampMath GraphMath OpMath

theorem beq_dec (a b : Int) : (a == b) = decide (a = b):=by
 by_cases h : a = b
 ·simp [h]
 ·simp [h]

def iV (x : Int) : Value:=.int .i64 x
theorem zeroI (w : World) : (zeroValue 3).run Tryz.prog w = .ok (iV 0) w:=by kernel_rfl

structure Looked (W : World) (bk bl : Nat) (N : List Ino) (E : List Ent) : Prop where
 kinds : ∃ K : List (St × Int),KMap stV iV W bk K∧∀ id,lookL K id = kindI N id
 links : ∃ L : List (St × Int),KMap stV iV W bl L∧∀ id,(lookL L id).getD 0 = (linksE E id : Int)

theorem Looked.kept {W W' : World} {bk bl : Nat} {N : List Ino} {E : List Ent} (h : Looked W bk bl N E) (h1 : W'.heap[bk]? = W.heap[bk]?) (h2 : W'.heap[bl]? = W.heap[bl]?) : Looked W' bk bl N E:=by
 obtain ⟨⟨K,k1,k2⟩,⟨L,l1,l2⟩⟩:=h
 exact ⟨⟨K,k1.kept h1,k2⟩,⟨L,l1.kept h2,l2⟩⟩

theorem Looked.lt {W : World} {bk bl : Nat} {N : List Ino} {E : List Ent} (h : Looked W bk bl N E) : bk < W.heap.size∧bl < W.heap.size:=by
 obtain ⟨⟨K,k1,k2⟩,⟨L,l1,l2⟩⟩:=h
 exact ⟨k1.lt,l1.lt⟩

theorem Looked.below {W W' : World} {bk bl : Nat} {N : List Ino} {E : List Ent} (h : Looked W bk bl N E) (hb : Below W.heap.size W W') : Looked W' bk bl N E:=h.kept (hb.block _ h.lt.1) (hb.block _ h.lt.2)

theorem Looked.kind_ok {W : World} {bk bl : Nat} {N : List Ino} {E : List Ent} (h : Looked W bk bl N E) (id : St) :
  (Instr.lookup 132 (.map (some bk)) (.agg #[.int .i64 id.1,.int .i64 id.2]) true).run Tryz.prog W = .ok (.tuple #[.int .i64 ((kindI N id).getD 0),.bool (kindI N id).isSome]) W:=by
 obtain ⟨⟨K,k1,k2⟩,_⟩:=h
 have hl:=k1.look stShape Tryz.underlying132 (zeroI W) id true
 rw [if_pos rfl,k2 id,show ((kindI N id).map iV).getD (iV 0) = iV ((kindI N id).getD 0) by cases kindI N id <;> rfl] at hl
 exact hl

theorem Looked.kind {W : World} {bk bl : Nat} {N : List Ino} {E : List Ent} (h : Looked W bk bl N E) (id : St) :
  (Instr.lookup 132 (.map (some bk)) (.agg #[.int .i64 id.1,.int .i64 id.2]) false).run Tryz.prog W = .ok (.int .i64 ((kindI N id).getD 0)) W:=by
 obtain ⟨⟨K,k1,k2⟩,_⟩:=h
 have hl:=k1.look stShape Tryz.underlying132 (zeroI W) id false
 rw [if_neg (by decide),k2 id,show ((kindI N id).map iV).getD (iV 0) = iV ((kindI N id).getD 0) by cases kindI N id <;> rfl] at hl
 exact hl

theorem Looked.link {W : World} {bk bl : Nat} {N : List Ino} {E : List Ent} (h : Looked W bk bl N E) (id : St) :
  (Instr.lookup 132 (.map (some bl)) (.agg #[.int .i64 id.1,.int .i64 id.2]) false).run Tryz.prog W = .ok (.int .i64 (linksE E id : Nat)) W:=by
 obtain ⟨_,⟨L,l1,l2⟩⟩:=h
 have hl:=l1.look stShape Tryz.underlying132 (zeroI W) id false
 rw [if_neg (by decide),show ((lookL L id).map iV).getD (iV 0) = iV ((lookL L id).getD 0) by cases lookL L id <;> rfl,l2 id] at hl
 exact hl

theorem auRoot_code (w : World) : Calls Tryz.prog 142 #[] w fun e w'=>e = .returned (.agg #[.int .i64 0,.int .i64 0])∧Below w.heap.size w w':=by
 go_enter Tryz.func142,Tryz.ntmps142
 go_wp2_with fail
 obtain ⟨z0,z1⟩:=two_cells (heap_alloc_new w (.cells #[.int .i64 0,.int .i64 0] 24))
 exact bodyPost_ret (v:=.agg #[.int .i64 0,.int .i64 0]) (by simp [results,Tryz.results142,go_sem,z0,z1]) rfl ⟨rfl,(Below.refl _ _).alloc (Nat.le_refl _) _⟩

set_option maxRecDepth 100000 in
theorem has_code (A A' : Option Addr) (n c m d bk bl : Nat) (N : List Ino) (E : List Ent) (id : St) (w : World) (h : Looked w bk bl N E) :
  Calls Tryz.prog 148 #[.agg #[.slice A n c,.slice A' m d,.map (some bk),.map (some bl)],.agg #[.int .i64 id.1,.int .i64 id.2]] w fun e w'=>e = .returned (.bool (kindI N id).isSome)∧Below w.heap.size w w':=by
 have hb : Below w.heap.size w ((w.alloc (.cells #[.slice A n c,.slice A' m d,.map (some bk),.map (some bl)] 134)).alloc (.cells #[.int .i64 id.1,.int .i64 id.2] 24)):=((Below.refl _ _).alloc (Nat.le_refl _) _).alloc (by simp) _
 have hl:=(h.below hb).kind_ok id
 clear h
 go_enter Tryz.func148,Tryz.ntmps148
 go_wp2_with fail
 go_ret
 exact ⟨rfl,hb⟩

set_option maxRecDepth 100000 in
theorem isDir_code (A A' : Option Addr) (n c m d bk bl : Nat) (N : List Ino) (E : List Ent) (id : St) (w : World) (h : Looked w bk bl N E) :
  Calls Tryz.prog 141 #[.agg #[.slice A n c,.slice A' m d,.map (some bk),.map (some bl)],.agg #[.int .i64 id.1,.int .i64 id.2]] w fun e w'=>e = .returned (.bool (decide (kindI N id = some 1)))∧Below w.heap.size w w':=by
 have hb : Below w.heap.size w ((w.alloc (.cells #[.slice A n c,.slice A' m d,.map (some bk),.map (some bl)] 134)).alloc (.cells #[.int .i64 id.1,.int .i64 id.2] 24)):=((Below.refl _ _).alloc (Nat.le_refl _) _).alloc (by simp) _
 have hl:=(h.below hb).kind id
 have hv : ((kindI N id).getD 0 == 1) = decide (kindI N id = some 1):=by
  cases kindI N id with
  | none=>rfl
  | some k =>
   show (k == 1) = _
   rw [beq_dec]
   simp only [Option.some.injEq]
 generalize (kindI N id).getD 0 = k at hl hv
 clear h
 go_enter Tryz.func141,Tryz.ntmps141
 go_wp2_with fail
 go_ret
 exact ⟨by first | rfl | rw [← hv],hb⟩

def manyB (x : Ino) (k : Int) : Bool:=if x.id = (0,0) then decide (k = 0) else if x.kind = 1 then decide (k = 1) else decide (1≤k∧k≤6)

set_option maxRecDepth 100000 in
set_option maxHeartbeats 1600000 in
theorem mayLinks_code (x : Ino) (k : Int) (w : World) :
  Calls Tryz.prog 151 #[.agg (inoA x),.int .i64 k] w fun e w'=>e = .returned (.bool (manyB x k))∧Below w.heap.size w w':=by
 obtain ⟨b,hb⟩ : ∃ b,b = manyB x k:=⟨_,rfl⟩
 rw [← hb]
 unfold manyB at hb
 have hb0 : Below w.heap.size w (w.alloc (.cells (inoA x) 59)):=(Below.refl _ _).alloc (Nat.le_refl _) _
 have he0:=heap_alloc_new w (.cells (inoA x) 59)
 obtain ⟨⟨i1,i2⟩,xk,xl,xm,xd⟩:=x
 dsimp only at hb
 unfold inoA
 go_enter Tryz.func151,Tryz.ntmps151
 go_upto_region 1 with fail
 change Code.wp _ _ _ _ (w.alloc (.cells (inoA ⟨(i1,i2),xk,xl,xm,xd⟩) 59))
 generalize w.alloc (.cells (inoA ⟨(i1,i2),xk,xl,xm,xd⟩) 59) = w1 at he0 hb0 ⊢
 obtain ⟨x0,x1,x2,x3,x4,x5⟩:=ino_cells he0
 have l0:=later_cell x0
 have l1:=later_cell x1
 have HRl : Hid (∀ y,Calls Tryz.prog 142 #[] (later w1 y) fun e w'=>e = .returned (.agg #[.int .i64 0,.int .i64 0])∧Below (later w1 y).heap.size (later w1 y) w'):=fun y=>auRoot_code _
 have HE:=Lib.hid he0
 have HB:=Lib.hid hb0
 clear x0 x1 x2 x3 x4 x5 he0 hb0
 by_cases hz : ((i1,i2) : St) = (0,0)
 ·have hv : ∀ W : World,(Op.equalIn 10000 24 (.agg #[.int .i64 i1,.int .i64 i2]) (.agg #[.int .i64 0,.int .i64 0])).run Tryz.prog W = .ok true W:=fun W=>by rw [run_eqSt,decide_eq_true hz]
  rw [if_pos hz] at hb
  clear hz
  refine wp_region_later (by kernel_rfl) (by kernel_rfl) ?_
  repeat (go_big_quiet_step (first | (with_reducible exact later_call (HRl.out _))))
  refine wpQuiet_nil ?_
  intro _ hw'
  obtain ⟨y,rfl⟩:=hw'
  clear l0 l1 hv
  have hk : (k == 0) = b:=by rw [hb]; exact beq_dec _ _
  clear hb
  go_wp2_with fail
  go_ret
  exact ⟨by first | rfl | rw [← hk],below_step HB.out (later_below w1 y)⟩
 ·have hv : ∀ W : World,(Op.equalIn 10000 24 (.agg #[.int .i64 i1,.int .i64 i2]) (.agg #[.int .i64 0,.int .i64 0])).run Tryz.prog W = .ok false W:=fun W=>by rw [run_eqSt,decide_eq_false hz]
  rw [if_neg hz] at hb
  clear hz
  refine wp_region_later (by kernel_rfl) (by kernel_rfl) ?_
  repeat (go_big_quiet_step (first | (with_reducible exact later_call (HRl.out _))))
  refine wpQuiet_nil ?_
  intro _ hw'
  obtain ⟨y,rfl⟩:=hw'
  clear l0 l1 hv
  have hB:=below_step HB.out (later_below w1 y)
  have he1:=((later_below w1 y).block _ (heap_lt HE.out)).trans HE.out
  generalize later w1 y = w2 at hB he1 ⊢
  obtain ⟨x0,x1,x2,x3,x4,x5⟩:=ino_cells he1
  clear he1 HRl
  dsimp only at x2
  by_cases hk : xk = 1
  ·have hk' : (xk == 1) = true:=beq_iff_eq.2 hk
   rw [if_pos hk] at hb
   clear hk
   have hk2 : (k == 1) = b:=by rw [hb]; exact beq_dec _ _
   clear hb
   go_wp2_with fail
   go_ret
   exact ⟨by first | rfl | rw [← hk2],hB⟩
  ·have hk' : (xk == 1) = false:=beq_eq_false_iff_ne.2 hk
   rw [if_neg hk] at hb
   clear hk
   by_cases h1 : 1≤k
   ·by_cases h6 : k≤6
    ·rw [decide_eq_true ⟨h1,h6⟩] at hb
     subst hb
     go_wp2_with fail
     go_ret
     exact ⟨by first | rfl | simp [h1,h6],hB⟩
    ·rw [decide_eq_false (fun q=>h6 q.2)] at hb
     subst hb
     go_wp2_with fail
     go_ret
     exact ⟨by first | rfl | simp [h1,h6],hB⟩
   ·rw [decide_eq_false (fun q=>h1 q.1)] at hb
    subst hb
    go_wp2_with fail
    go_ret
    exact ⟨by first | rfl | simp [h1],hB⟩

end Go.Proofs.YtdobeghbkonimaaGreatDoor

namespace Go.Proofs.YtdobeghbkonimaaGreatDoor
open Go.RowKit StampMath GraphMath OpMath

def noneB (x : Ino) : Bool:=!(mayB x.id.1 x.id.2 && decide (1≤x.kind∧x.kind≤3))

def dataB (k : Int) (z : Int) : Bool:=if k = 1 then decide (z = 0) else if k = 2 then decide (z≤64) else if k = 3 then decide (1≤z∧z≤32) else true

def muchB (x : Ino) : Bool:=!(decide (0≤x.mode∧x.mode≤4095) && dataB x.kind x.data.size)

set_option maxRecDepth 100000 in
theorem isNone_code (x : Ino) (w : World) :
  Calls Tryz.prog 144 #[.agg (inoA x)] w fun e w'=>e = .returned (.bool (noneB x))∧Below w.heap.size w w':=by
 obtain ⟨b,hb⟩ : ∃ b,b = noneB x:=⟨_,rfl⟩
 rw [← hb]
 unfold noneB at hb
 have hb0 : Below w.heap.size w (w.alloc (.cells (inoA x) 59)):=(Below.refl _ _).alloc (Nat.le_refl _) _
 have he0:=heap_alloc_new w (.cells (inoA x) 59)
 obtain ⟨⟨i1,i2⟩,xk,xl,xm,xd⟩:=x
 dsimp only at hb
 obtain ⟨m,hm⟩ : ∃ m,m = mayB i1 i2:=⟨_,rfl⟩
 have HM : Hid (∀ W : World,Calls Tryz.prog 115 #[.agg #[.int .i64 i1,.int .i64 i2]] W fun e w'=>e = .returned (.bool m)∧Below W.heap.size W w'):=fun W=>by rw [hm]; exact may_any i1 i2 W
 rw [← hm] at hb
 clear hm
 have HE:=Lib.hid he0
 clear he0
 unfold inoA
 go_enter Tryz.func144,Tryz.ntmps144
 go_wp2_with fail
 refine (HM.out _).mono ?_
 rintro e w2 ⟨rfl,hb2⟩
 have he2:=(hb2.block _ (heap_lt HE.out)).trans HE.out
 have hB:=below_step hb0 hb2
 clear hb0 hb2 HE HM
 obtain ⟨x0,x1,x2,x3,x4,x5⟩:=ino_cells he2
 dsimp only at x2
 cases m with
 | false =>
  have hb' : b = true:=by rw [hb]; rfl
  clear hb
  subst hb'
  go_wp2_with fail
  go_ret
  exact ⟨rfl,hB⟩
 | true =>
  rw [Bool.true_and] at hb
  by_cases h1 : 1≤xk
  ·by_cases h3 : xk≤3
   ·rw [decide_eq_true ⟨h1,h3⟩] at hb
    subst hb
    have q1 : decide (xk < 1) = false:=decide_eq_false (by omega)
    have q3 : decide (xk > 3) = false:=decide_eq_false (by omega)
    go_wp2_with fail
    go_ret
    exact ⟨by first | rfl | simp <;> omega,hB⟩
   ·rw [decide_eq_false (fun q=>h3 q.2)] at hb
    subst hb
    have q1 : decide (xk < 1) = false:=decide_eq_false (by omega)
    have q3 : decide (xk > 3) = true:=decide_eq_true (by omega)
    go_wp2_with fail
    go_ret
    exact ⟨by first | rfl | simp <;> omega,hB⟩
  ·rw [decide_eq_false (fun q=>h1 q.1)] at hb
   subst hb
   have q1 : xk < 1:=by omega
   go_wp2_with fail
   go_ret
   exact ⟨by first | rfl | simp <;> omega,hB⟩

set_option maxRecDepth 100000 in
theorem nameless_code (x : Ent) (hs : x.name.size≤maxLen) (w : World) :
  Calls Tryz.prog 146 #[.agg (entA x)] w fun e w'=>e = .returned (.bool (!nameB x.name))∧Below w.heap.size w w':=by
 have hb0 : Below w.heap.size w (w.alloc (.cells (entA x) 89)):=(Below.refl _ _).alloc (Nat.le_refl _) _
 obtain ⟨⟨d1,d2⟩,nm,⟨i1,i2⟩⟩:=x
 obtain ⟨b,hb⟩ : ∃ b,b = nameB nm:=⟨_,rfl⟩
 have HN : Hid (∀ W : World,Calls Tryz.prog 116 #[.string nm] W fun e w'=>e = .returned (.bool b)∧W = w'):=fun W=>by rw [hb]; exact name_any _ hs W
 dsimp only
 rw [← hb]
 clear hb hs
 unfold entA
 go_enter Tryz.func146,Tryz.ntmps146
 go_wp2_with fail
 refine (HN.out _).mono ?_
 rintro e w2 ⟨rfl,rfl⟩
 go_wp2_with fail
 go_ret
 exact ⟨rfl,hb0⟩

set_option maxRecDepth 100000 in
theorem mayData_code (k z : Int) (w : World) :
  Calls Tryz.prog 197 #[.int .i64 k,.int .i64 z] w fun e w'=>e = .returned (.bool (dataB k z))∧w = w':=by
 obtain ⟨b,hb⟩ : ∃ b,b = dataB k z:=⟨_,rfl⟩
 rw [← hb]
 unfold dataB at hb
 by_cases k1 : k = 1
 ·rw [if_pos k1] at hb
  have q1 : (k == 1) = true:=beq_iff_eq.2 k1
  have hk : (z == 0) = b:=by rw [hb]; exact beq_dec _ _
  clear hb k1
  go_enter Tryz.func197,Tryz.ntmps197
  go_wp2_with fail
  go_ret
  exact ⟨by first | rfl | rw [← hk],rfl⟩
 rw [if_neg k1] at hb
 have q1 : (k == 1) = false:=beq_eq_false_iff_ne.2 k1
 clear k1
 by_cases k2 : k = 2
 ·rw [if_pos k2] at hb
  have q2 : (k == 2) = true:=beq_iff_eq.2 k2
  clear k2
  subst hb
  go_enter Tryz.func197,Tryz.ntmps197
  go_wp2_with fail
  go_ret
  exact ⟨rfl,rfl⟩
 rw [if_neg k2] at hb
 have q2 : (k == 2) = false:=beq_eq_false_iff_ne.2 k2
 clear k2
 by_cases k3 : k = 3
 ·rw [if_pos k3] at hb
  have q3 : (k == 3) = true:=beq_iff_eq.2 k3
  clear k3
  by_cases h1 : 1≤z
  ·by_cases h6 : z≤32
   ·rw [decide_eq_true ⟨h1,h6⟩] at hb
    subst hb
    go_enter Tryz.func197,Tryz.ntmps197
    go_wp2_with fail
    go_ret
    exact ⟨by first | rfl | simp [h1,h6],rfl⟩
   ·rw [decide_eq_false (fun q=>h6 q.2)] at hb
    subst hb
    go_enter Tryz.func197,Tryz.ntmps197
    go_wp2_with fail
    go_ret
    exact ⟨by first | rfl | simp [h1,h6],rfl⟩
  ·rw [decide_eq_false (fun q=>h1 q.1)] at hb
   subst hb
   go_enter Tryz.func197,Tryz.ntmps197
   go_wp2_with fail
   go_ret
   exact ⟨by first | rfl | simp [h1],rfl⟩
 rw [if_neg k3] at hb
 have q3 : (k == 3) = false:=beq_eq_false_iff_ne.2 k3
 clear k3
 subst hb
 go_enter Tryz.func197,Tryz.ntmps197
 go_wp2_with fail
 go_ret
 exact ⟨rfl,rfl⟩

set_option maxRecDepth 100000 in
theorem tooMuch_code (x : Ino) (hs : x.data.size≤maxLen) (w : World) :
  Calls Tryz.prog 153 #[.agg (inoA x)] w fun e w'=>e = .returned (.bool (muchB x))∧Below w.heap.size w w':=by
 obtain ⟨b,hb⟩ : ∃ b,b = muchB x:=⟨_,rfl⟩
 rw [← hb]
 unfold muchB at hb
 have hb0 : Below w.heap.size w (w.alloc (.cells (inoA x) 59)):=(Below.refl _ _).alloc (Nat.le_refl _) _
 obtain ⟨⟨i1,i2⟩,xk,xl,xm,xd⟩:=x
 dsimp only at hb hs
 have hs' : xd.size≤9223372036854775807:=by unfold maxLen at hs; omega
 clear hs
 obtain ⟨d,hd⟩ : ∃ d,d = dataB xk xd.size:=⟨_,rfl⟩
 have HM : Hid (∀ W : World,Calls Tryz.prog 197 #[.int .i64 xk,.int .i64 (xd.size : Int)] W fun e w'=>e = .returned (.bool d)∧W = w'):=fun W=>by rw [hd]; exact mayData_code xk _ W
 rw [← hd] at hb
 clear hd
 unfold inoA
 by_cases h1 : 0≤xm
 ·by_cases h3 : xm≤4095
  ·rw [decide_eq_true ⟨h1,h3⟩,Bool.true_and] at hb
   subst hb
   have q1 : decide (xm < 0) = false:=decide_eq_false (by omega)
   have q3 : decide (xm > 4095) = false:=decide_eq_false (by omega)
   go_enter Tryz.func153,Tryz.ntmps153
   go_wp2_with fail
   refine (HM.out _).mono ?_
   rintro e w2 ⟨rfl,rfl⟩
   go_wp2_with fail
   go_ret
   exact ⟨rfl,hb0⟩
  ·rw [decide_eq_false (fun q=>h3 q.2),Bool.false_and] at hb
   subst hb
   have q1 : decide (xm < 0) = false:=decide_eq_false (by omega)
   have q3 : xm > 4095:=by omega
   go_enter Tryz.func153,Tryz.ntmps153
   go_wp2_with fail
   go_ret
   exact ⟨by first | rfl | simp <;> omega,hb0⟩
 ·rw [decide_eq_false (fun q=>h1 q.1),Bool.false_and] at hb
  subst hb
  have q1 : xm < 0:=by omega
  go_enter Tryz.func153,Tryz.ntmps153
  go_wp2_with fail
  go_ret
  exact ⟨by first | rfl | simp <;> omega,hb0⟩

abbrev listsA (A A' : Option Addr) (n c m d bk bl : Nat) : Array Value:=#[.slice A n c,.slice A' m d,.map (some bk),.map (some bl)]

theorem lists_cells {w : World} {g : Nat} {A A' : Option Addr} {n c m d bk bl : Nat} {T : TypeId} (h : w.heap[g]? = some (.cells (listsA A A' n c m d bk bl) T (0,0))) :
  w.cell? ⟨g,0,none⟩ = some (.slice A n c)∧w.cell? ⟨g,1,none⟩ = some (.slice A' m d)∧w.cell? ⟨g,2,none⟩ = some (.map (some bk))∧w.cell? ⟨g,3,none⟩ = some (.map (some bl)) :=
 ⟨cell_of_row _ _ 0 _ _ (0,0) h,cell_of_row _ _ 1 _ _ (0,0) h,cell_of_row _ _ 2 _ _ (0,0) h,cell_of_row _ _ 3 _ _ (0,0) h⟩

def lostB (N : List Ino) (x : Ent) : Bool:=!(decide (kindI N x.dir = some 1) && (kindI N x.ino).isSome)

set_option maxRecDepth 100000 in
theorem lostClo_code (A A' : Option Addr) (n c m d bk bl g : Nat) (N : List Ino) (E : List Ent) (x : Ent) (w : World) (hg : w.heap[g]? = some (.cells (listsA A A' n c m d bk bl) 134 (0,0))) (h : Looked w bk bl N E) :
  Calls Tryz.prog 147 #[.agg (entA x),.pointer (some ⟨g,0,none⟩)] w fun e w'=>e = .returned (.bool (lostB N x))∧Below w.heap.size w w':=by
 have HD : Hid (∀ W : World,Below w.heap.size w W→Calls Tryz.prog 141 #[.agg #[.slice A n c,.slice A' m d,.map (some bk),.map (some bl)],.agg #[.int .i64 x.dir.1,.int .i64 x.dir.2]] W fun e w'=>e = .returned (.bool (decide (kindI N x.dir = some 1)))∧Below W.heap.size W w'):=fun W hW=>isDir_code A A' n c m d bk bl N E x.dir W (h.below hW)
 have HI : Hid (∀ W : World,Below w.heap.size w W→Calls Tryz.prog 148 #[.agg #[.slice A n c,.slice A' m d,.map (some bk),.map (some bl)],.agg #[.int .i64 x.ino.1,.int .i64 x.ino.2]] W fun e w'=>e = .returned (.bool (kindI N x.ino).isSome)∧Below W.heap.size W w'):=fun W hW=>has_code A A' n c m d bk bl N E x.ino W (h.below hW)
 unfold lostB
 generalize decide (kindI N x.dir = some 1) = p at HD ⊢
 generalize (kindI N x.ino).isSome = q at HI ⊢
 clear h
 have hlt:=heap_lt hg
 have hb0 : Below w.heap.size w (w.alloc (.cells (entA x) 89)):=(Below.refl _ _).alloc (Nat.le_refl _) _
 have he0:=heap_alloc_new w (.cells (entA x) 89)
 have hg0:=(hb0.block _ hlt).trans hg
 have HE:=Lib.hid he0
 have HG:=Lib.hid hg0
 obtain ⟨s0,s1,s2,s3⟩:=lists_cells hg
 clear he0 hg0 hg
 obtain ⟨⟨d1,d2⟩,nm,⟨i1,i2⟩⟩:=x
 unfold entA
 go_enter Tryz.func147,Tryz.ntmps147
 go_wp2_with fail
 refine (HD.out _ hb0).mono ?_
 rintro e w2 ⟨rfl,hb2⟩
 cases p with
 | false =>
  go_wp2_with fail
  go_ret
  exact ⟨rfl,below_step hb0 hb2⟩
 | true =>
  have he2:=(hb2.block _ (heap_lt HE.out)).trans HE.out
  have hg2:=(hb2.block _ (heap_lt HG.out)).trans HG.out
  have hB:=below_step hb0 hb2
  clear hb0 hb2 s0 s1 s2 s3
  obtain ⟨s0,s1,s2,s3⟩:=lists_cells hg2
  obtain ⟨e0,e1,e2,e3,e4⟩:=ent_cells he2
  clear he2 hg2
  go_wp2_with fail
  refine (HI.out _ hB).mono ?_
  rintro e w3 ⟨rfl,hb3⟩
  go_wp2_with fail
  go_ret
  exact ⟨rfl,below_step hB hb3⟩

set_option maxRecDepth 100000 in
theorem countClo_code (A A' : Option Addr) (n c m d bk bl g : Nat) (N : List Ino) (E : List Ent) (x : Ino) (w : World) (hg : w.heap[g]? = some (.cells (listsA A A' n c m d bk bl) 134 (0,0))) (h : Looked w bk bl N E) :
  Calls Tryz.prog 149 #[.agg (inoA x),.pointer (some ⟨g,0,none⟩)] w fun e w'=>e = .returned (.bool (!decide (x.links = (linksE E x.id : Int))))∧Below w.heap.size w w':=by
 have hb0 : Below w.heap.size w (w.alloc (.cells (inoA x) 59)):=(Below.refl _ _).alloc (Nat.le_refl _) _
 have he0:=heap_alloc_new w (.cells (inoA x) 59)
 have hg0:=(hb0.block _ (heap_lt hg)).trans hg
 have hL:=fun y=>(h.below (below_step hb0 (later_below _ y))).link x.id
 obtain ⟨b,hb⟩ : ∃ b,b = decide (x.links = (linksE E x.id : Int)):=⟨_,rfl⟩
 rw [← hb]
 clear h hg
 obtain ⟨⟨i1,i2⟩,xk,xl,xm,xd⟩:=x
 dsimp only at hb hL
 unfold inoA
 generalize (linksE E (i1,i2) : Int) = k at hb hL
 have hv : (xl != k) = !b:=by rw [hb,← beq_dec]; rfl
 clear hb
 go_enter Tryz.func149,Tryz.ntmps149
 go_upto_region 1 with fail
 change Code.wp _ _ _ _ (w.alloc (.cells (inoA ⟨(i1,i2),xk,xl,xm,xd⟩) 59))
 generalize w.alloc (.cells (inoA ⟨(i1,i2),xk,xl,xm,xd⟩) 59) = w1 at he0 hb0 hg0 hL ⊢
 obtain ⟨x0,x1,x2,x3,x4,x5⟩:=ino_cells he0
 obtain ⟨s0,s1,s2,s3⟩:=lists_cells hg0
 have l0:=later_cell x0
 have l1:=later_cell x1
 have l3:=later_cell x3
 have k3:=later_cell s3
 clear x0 x1 x2 x3 x4 x5 s0 s1 s2 s3 he0 hg0
 have HB:=Lib.hid hb0
 clear hb0
 refine wp_region_later (by kernel_rfl) (by kernel_rfl) ?_
 repeat (go_big_quiet_step (fail))
 refine wpQuiet_nil ?_
 intro _ hw'
 obtain ⟨y,rfl⟩:=hw'
 clear l0 l1 l3 k3 hL
 go_wp2_with fail
 go_ret
 exact ⟨by first | rfl | rw [← hv],below_step HB.out (later_below w1 y)⟩

set_option maxRecDepth 100000 in
theorem linkClo_code (A A' : Option Addr) (n c m d bk bl g : Nat) (N : List Ino) (E : List Ent) (x : Ino) (w : World) (hg : w.heap[g]? = some (.cells (listsA A A' n c m d bk bl) 134 (0,0))) (h : Looked w bk bl N E) :
  Calls Tryz.prog 150 #[.agg (inoA x),.pointer (some ⟨g,0,none⟩)] w fun e w'=>e = .returned (.bool (!manyB x (linksE E x.id : Nat)))∧Below w.heap.size w w':=by
 have hb0 : Below w.heap.size w (w.alloc (.cells (inoA x) 59)):=(Below.refl _ _).alloc (Nat.le_refl _) _
 have he0:=heap_alloc_new w (.cells (inoA x) 59)
 have hg0:=(hb0.block _ (heap_lt hg)).trans hg
 have hL:=fun y=>(h.below (below_step hb0 (later_below _ y))).link x.id
 have hM:=fun W=>mayLinks_code x (linksE E x.id : Nat) W
 obtain ⟨b,hb⟩ : ∃ b,b = manyB x (linksE E x.id : Nat):=⟨_,rfl⟩
 rw [← hb]
 rw [← hb] at hM
 clear h hg hb
 obtain ⟨⟨i1,i2⟩,xk,xl,xm,xd⟩:=x
 dsimp only at hL hM
 unfold inoA at hM ⊢
 generalize (linksE E (i1,i2) : Int) = k at hM hL
 go_enter Tryz.func150,Tryz.ntmps150
 go_upto_region 1 with fail
 change Code.wp _ _ _ _ (w.alloc (.cells (inoA ⟨(i1,i2),xk,xl,xm,xd⟩) 59))
 generalize w.alloc (.cells (inoA ⟨(i1,i2),xk,xl,xm,xd⟩) 59) = w1 at he0 hb0 hg0 hL ⊢
 obtain ⟨x0,x1,x2,x3,x4,x5⟩:=ino_cells he0
 obtain ⟨s0,s1,s2,s3⟩:=lists_cells hg0
 have l0:=later_cell x0
 have l1:=later_cell x1
 have l2:=later_cell x2
 have l3:=later_cell x3
 have l4:=later_cell x4
 have l5:=later_cell x5
 have k3:=later_cell s3
 clear x0 x1 x2 x3 x4 x5 s0 s1 s2 s3 he0 hg0
 have HB:=Lib.hid hb0
 have HMl:=Lib.hid fun (y : World)=>later_call (hM (later w1 y))
 clear hb0 hM
 refine wp_region_later (by kernel_rfl) (by kernel_rfl) ?_
 repeat (go_big_quiet_step (first | (with_reducible exact HMl.out _)))
 refine wpQuiet_nil ?_
 intro _ hw'
 obtain ⟨y,rfl⟩:=hw'
 clear l0 l1 l2 l3 l4 l5 k3 hL
 go_wp2_with fail
 go_ret
 exact ⟨rfl,below_step HB.out (later_below w1 y)⟩

end Go.Proofs.YtdobeghbkonimaaGreatDoor

namespace Go.Proofs.YtdobeghbkonimaaGreatDoor
open Go.RowKit StampMath GraphMath

attribute [local go_sem] Oper.semAt_some

def KeepsRows (W W' : World) : Prop:=∀ (k : Nat) (o : Obj),W.heap[k]? = some o→o.isCells = true→W'.heap[k]? = some o

theorem KeepsRows.trans {A B C : World} (h : KeepsRows A B) (k : KeepsRows B C) : KeepsRows A C:=fun i o hi ho=>k i o (h i o hi ho) ho
theorem KeepsRows.alloc (W : World) (o : Obj) : KeepsRows W (W.alloc o):=fun _ _ hi _=>(heap_alloc_old _ _ (heap_lt hi)).trans hi
theorem KeepsRows.of_but {W W' : World} {S : Nat→Prop} (h : But S W W') (hS : ∀ i o,S i→W.heap[i]? = some o→o.isCells = false) : KeepsRows W W':=fun i o hi ho=>by
 refine (h.block i (heap_lt hi) fun hs=>?_).trans hi
 rw [hS i o hs hi] at ho
 cases ho
theorem KeepsRows.putObj {W : World} {l : Nat} {o : Obj} (o' : Obj) (h : W.heap[l]? = some o) (hc : o.isCells = false) : KeepsRows W (W.putObj l o'):=fun i o'' hi ho=>by
 by_cases e : i = l
 ·subst e
  rw [h] at hi
  cases hi
  rw [hc] at ho
  cases ho
 ·exact (World.putObj_heap_other e).trans hi

theorem KeepsRows.cell {W W' : World} (h : KeepsRows W W') {a : Addr} {v : Value} (hc : W.cell? a = some v) : W'.cell? a = some v:=by
 have hlt:=World.block_lt_of_cell? _ _ hc
 obtain ⟨o,ho⟩ : ∃ o,W.heap[a.block]? = some o:=⟨_,Array.getElem?_eq_getElem hlt⟩
 have hcells : o.isCells = true:=by
  cases o with
  | cells _ _ _=>rfl
  | _=>simp [World.cell?,ho] at hc
 rw [World.cell?_of_block ((h _ _ ho hcells).trans ho.symm)]
 exact hc

theorem KeepsRows.tab {W W' : World} (h : KeepsRows W W') {k B : Nat} {A : Option Addr} {n : Nat} {rows : List (Array Value)} (ht : TabIn k W B A n rows) : TabIn k W' B A n rows :=
 ⟨ht.1,fun hn=>by
  obtain ⟨g,o,e,hg,hc⟩:=ht.2 hn
  exact ⟨g,o,e,hg,fun j hj i v hv=>h.cell (hc j hj i v hv)⟩⟩

abbrev backed (x : Int × Ino) : Array Value:=#[.int .i64 x.1,.agg (inoA x.2)]

theorem backward_code (v : Value) (A : Option Addr) (n c : Nat) (hv : v = .slice A n c) (w : World) :
  Calls Tryz.prog 154 #[v] w fun e w'=>e = .returned (.func (.func 198) #[] #[.pointer (some ⟨w.heap.size,0,none⟩)])∧w' = w.alloc (.cells #[.slice A n c] 34):=by
 subst hv
 go_enter Tryz.func154,Tryz.ntmps154
 go_wp2_with fail
 go_ret
 exact ⟨rfl,rfl⟩

set_option maxRecDepth 100000 in
set_option maxHeartbeats 2000000 in
theorem backward_in (nf : Nat) (hf : 1 ≤ nf) (l Bn : Nat) (A : Option Addr) (n c : Nat) (N : List Ino) (hn : n ≤ 1000) (J Jx : List (Int × Ino) → World → Prop) (W0 : World)
    (hY : ∀ pre x W, J pre W → pre.length < 1001 → YieldAt Fence.wide (nf - 1) Tryz.prog l (backed x) W fun e W' =>
      (e = .returned (.bool true) ∧ J (pre ++ [x]) W' ∧ KeepsRows W W') ∨ (e = .returned (.bool false) ∧ Jx (pre ++ [x]) W'))
    (hc : W0.heap[Bn]? = some (.cells #[.slice A n c] 34 (0, 0))) (hin : InosIn W0 W0.heap.size A n N) (h0 : J [] W0) :
    CallsIn Fence.wide nf Tryz.prog 198 #[.func (.yield l) #[] #[], .pointer (some ⟨Bn, 0, none⟩)] W0 fun e W' => (∃ v, e = .returned v) ∧
      ((∃ ys : List (Int × Ino), ys.map Prod.snd = N.reverse ∧ J ys W') ∨ (∃ pre, True ∧ Jx pre W')) := by
  have hl := hin.len
  have HI := Lib.hid hin
  have c0 : W0.cell? ⟨Bn, 0, none⟩ = some (.slice A n c) := cell_of_row _ _ 0 _ _ (0, 0) hc
  clear hin
  refine callsIn_of_wp Tryz.func198 rfl trivial ?_ rfl
  simp only [Tryz.ntmps198, List.size_toArray, List.length_cons, List.length_nil, Nat.reduceAdd, Nat.reduceSub, Array.replicate_succ, Array.replicate_zero, List.push_toArray, List.append_toArray, List.nil_append, List.cons_append]
  gi_wp2_with fail
  gi_loopg [3] (n + 1) (fun gk vi wr => ∃ (k : Nat) (i : Int) (pre : List (Int × Ino)), vi = .int .i64 i ∧ i = (k : Int) - 1 ∧ gk = k + 1 ∧ k ≤ n ∧ pre.length + k = n ∧ Hid (pre.map Prod.snd = (N.drop k).reverse) ∧ Hid (J pre wr) ∧ wr.heap[Bn]? = some (.cells #[.slice A n c] 34 (0, 0)) ∧ Hid (InosIn wr W0.heap.size A n N))
  case atStart =>
    exact ⟨n, _, [], by go_num, rfl, by omega, by omega, by simp, by rw [List.drop_of_length_le (by omega)]; rfl, h0, hc, HI.out⟩
  case round =>
    obtain ⟨k, i, pre, rfl, hi, rfl, hk, hpre, hp, hJ, hcell, hin⟩ := hrel
    clear c0
    have c0 : wr.cell? ⟨Bn, 0, none⟩ = some (.slice A n c) := cell_of_row _ _ 0 _ _ (0, 0) hcell
    cases k with
    | zero =>
      have hi0 : decide (i ≥ 0) = false := decide_eq_false (by omega)
      clear hi
      gi_wp2_with fail
      go_end0
      exact ⟨⟨_, rfl⟩, .inl ⟨pre, by rw [hp.out]; rfl, hJ.out⟩⟩
    | succ j =>
      obtain rfl : i = (j : Int) := by omega
      clear hi
      obtain ⟨g, o, rfl, hg, hrow⟩ := hin.out.row (by omega)
      obtain ⟨e0, e1, e2, e3, e4, e5⟩ := hrow j (by omega)
      clear hrow
      have hnext : ((pre ++ [((j : Int), N[j])]).map Prod.snd) = (N.drop j).reverse := by
        rw [List.map_append, hp.out, List.drop_eq_getElem_cons (show j < N.length by omega), List.reverse_cons]
        rfl
      have hy0 := hY pre ((j : Int), N[j]) wr hJ.out (by omega)
      generalize N[j] = x at e0 e1 e2 e3 e4 e5 hnext hy0
      have HN := Lib.hid hnext
      clear hnext
      obtain ⟨⟨i1, i2⟩, xk, xl, xm, xd⟩ := x
      obtain ⟨fn, tmps, assign, body, hy, hRd⟩ := hy0
      simp only [inoA, backed] at hy
      dsimp only at e0 e1 e2 e3 e4 e5
      have HRd := Lib.hid hRd
      clear hRd hp hJ
      gi_wp2_with fail
      refine HRd.out.mono ?_
      rintro e W3 (⟨rfl, hJ3, hk3⟩ | ⟨rfl, hJx3⟩)
      · have hcell3 := hk3 _ _ hcell rfl
        have hin3 : InosIn W3 W0.heap.size (some ⟨g, o, none⟩) n N := hk3.tab hin.out
        clear hy e0 e1 e2 e3 e4 e5 c0 hcell hin
        gi_wp2_with fail
        gi_roundg (j + 1)
        case measure => omega
        case rel => exact ⟨j, _, pre ++ [((j : Int), Ino.mk (i1, i2) xk xl xm xd)], by go_num, rfl, rfl, by omega, by rw [List.length_append]; simp; omega, HN, hJ3, hcell3, hin3⟩
      · clear hy
        gi_wp2_with fail
        refine bodyPost_ret (results_none rfl _ _ _) rfl ?_
        exact ⟨⟨_, rfl⟩, .inr ⟨_, trivial, hJx3⟩⟩

theorem backward_stops (nf : Nat) (hf : 1≤nf) (Bn : Nat) (A : Option Addr) (n c : Nat) (N : List Ino) (hn : n≤1000) (w : World) (hc : w.heap[Bn]? = some (.cells #[.slice A n c] 34 (0,0))) (hin : InosIn w w.heap.size A n N) :
  SeqStopsK Fence.wide nf Tryz.prog 198 #[.pointer (some ⟨Bn,0,none⟩)] backed KeepsRows (fun ys=>ys.map Prod.snd = N.reverse) (fun _=>True) 1001 w:=fun l J Jx W hW _ _ hY h0 =>
 backward_in nf hf l Bn A n c N hn J Jx W hY ((hW.block Bn (heap_lt hc)).trans hc) ((hin.below hW).more hW.size) h0

end Go.Proofs.YtdobeghbkonimaaGreatDoor
