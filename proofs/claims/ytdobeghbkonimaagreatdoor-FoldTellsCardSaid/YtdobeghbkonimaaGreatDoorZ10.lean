/-
 The landed audit's look: what is looked up in inodes (by a range over slices.Backward) and in entries.
-/
import Derived.Test.YtdobeghbkonimaaGreatDoorZ09
import Derived.Test.YtdobeghbkonimaaGreatDoorZ09
import Derived.Test.YtdobeghbkonimaaGreatDoorZ09
import Derived.Deep.LoopGhost
import Derived.Deep.Cut
import Derived.Maps.Own
import Derived.Maps.OwnOps
import Derived.Test.YtdobeghbkonimaaGreatDoorZ08
import Derived.Maps.AppendAt
import Derived.Laws.OwnMore
import Derived.BigQuiet
import Derived.Deep.RegionWith
import Derived.Test.YtdobeghbkonimaaGreatDoorZ00
import Derived.Test.YtdobeghbkonimaaGreatDoorZ01
namespace Go.Proofs.YtdobeghbkonimaaGreatDoor
open Go.RowKit StampMath GraphMath

theorem kindI_cons (x : Ino) (N : List Ino) (id : St) : kindI (x :: N) id = if x.id = id then some x.kind else kindI N id:=by
 unfold kindI
 rw [List.find?_cons]
 by_cases h : x.id = id
 ·rw [decide_eq_true h,if_pos h]; rfl
 ·rw [decide_eq_false h,if_neg h]

theorem off_of {K V : Type} [DecidableEq K] (L : List (K × V)) (k x : K) : lookL (offL L k) x = if k = x then none else lookL L x:=by
 unfold lookL offL
 induction L with
 | nil=>by_cases h : k = x <;> simp [h]
 | cons p l ih =>
  rw [List.filter_cons]
  by_cases hp : p.1 = k
  ·rw [decide_eq_true hp,Bool.not_true,if_neg (by decide),ih,List.find?_cons]
   by_cases h : k = x
   ·rw [if_pos h,if_pos h]
   ·rw [if_neg h,if_neg h,decide_eq_false (by rw [hp]; exact h)]
  ·rw [decide_eq_false hp,Bool.not_false,if_pos rfl,List.find?_cons,List.find?_cons]
   by_cases h : p.1 = x
   ·rw [decide_eq_true h]
    have : ¬ k = x:=fun q=>hp (by rw [h,q])
    rw [if_neg this]
   ·rw [decide_eq_false h]
    exact ih

theorem look_put {K V : Type} [DecidableEq K] (L : List (K × V)) (k : K) (v : V) (x : K) : lookL ((k,v) :: offL L k) x = if k = x then some v else lookL L x:=by
 by_cases h : k = x
 ·rw [if_pos h]
  unfold lookL
  rw [List.find?_cons,decide_eq_true h]
  rfl
 ·rw [if_neg h]
  have : lookL ((k,v) :: offL L k) x = lookL (offL L k) x:=by
   unfold lookL
   rw [List.find?_cons,decide_eq_false h]
  rw [this,off_of,if_neg h]

theorem links_snoc (E : List Ent) (k : Nat) (hk : k < E.length) (id : St) : (linksE (E.take (k + 1)) id : Int) = (linksE (E.take k) id : Int) + if E[k].ino = id then 1 else 0:=by
 rw [List.take_succ_eq_append_getElem hk]
 unfold linksE
 rw [List.filter_append,List.length_append,List.filter_cons]
 by_cases h : E[k].ino = id
 ·simp [h]
 ·simp [h]

def LkAt (A A' : Option Addr) (n c m d s : Nat) (x : Int × Ino) (a : Act) (W : World) : Prop :=
 ∃ q,a = { tmps:=#[.slice A n c,.slice A' m d,undef,undef,.pointer (some ⟨s,0,none⟩),.pointer (some ⟨s + 1 + 1 + 1,0,none⟩),undef,.pointer (some ⟨q,0,none⟩),undef,undef,.slice A n c,.slice A' m d,.map (some (s + 1)),.map (some (s + 1 + 1)),.agg #[.slice A n c,.slice A' m d,.map (some (s + 1)),.map (some (s + 1 + 1))],.slice A n c,.func (.func 198) #[] #[.pointer (some ⟨s + 1 + 1 + 1 + 1,0,none⟩)],.int .i64 x.1,.agg (inoA x.2),undef,undef,undef,undef,undef,undef,undef,undef,undef,undef,undef,undef,undef,undef,undef,undef,undef,undef,undef,undef,undef,undef],defers:=[] }∧W.heap[q]? = some (.cells (inoA x.2) 59 (0,0))

theorem lk_own (A A' : Option Addr) (n c m d s B0 : Nat) (x : Int × Ino) (a : Act) : OwnFrom B0 (fun (_ : Unit) W=>LkAt A A' n c m d s x a W):=by
 rintro _ W W' row ⟨q,ha,hq⟩ hg hr
 refine ⟨q,ha,(hg.block q (heap_lt hq) fun e=>?_).trans hq⟩
 obtain ⟨_,o,ho,hc⟩:=hr q e.symm
 rw [hq] at ho
 cases ho
 cases hc

structure LkI (w : World) (A A' : Option Addr) (n c m d s B0 : Nat) (pre : List (Int × Ino)) (W : World) : Prop where
 res : W.heap[s]? = some (.cells #[.slice none 0 0,.slice none 0 0,.map none,.map none] 134 (0,0))
 lists : W.heap[s + 1 + 1 + 1]? = some (.cells #[.slice A n c,.slice A' m d,.map (some (s + 1)),.map (some (s + 1 + 1))] 134 (0,0))
 kinds : ∃ K : List (St × Int),KMap stV iV W (s + 1) K∧∀ id,lookL K id = kindI (pre.map Prod.snd).reverse id
 links : KMap stV iV W (s + 1 + 1) ([] : List (St × Int))
 below : Below w.heap.size w W
 size : B0≤W.heap.size

theorem LkI.step {w : World} {A A' : Option Addr} {n c m d s B0 : Nat} {pre : List (Int × Ino)} {W W' : World} (h : LkI w A A' n c m d s B0 pre W) (hs : s + 1 + 1 + 1 < B0) (hb : Below w.heap.size w W') (hz : B0≤W'.heap.size) (hk : ∀ k,k < B0→W'.heap[k]? = W.heap[k]?) : LkI w A A' n c m d s B0 pre W':=by
 obtain ⟨K,k1,k2⟩:=h.kinds
 exact ⟨(hk _ (by omega)).trans h.res,(hk _ hs).trans h.lists,⟨K,k1.kept (hk _ (by omega)),k2⟩,h.links.kept (hk _ (by omega)),hb,hz⟩

theorem lkI_own (w : World) (A A' : Option Addr) (n c m d s B0 : Nat) (hs : s + 1 + 1 + 1 < B0) (hw : w.heap.size≤B0) : OwnFrom B0 (fun (pre : List (Int × Ino)) W=>LkI w A A' n c m d s B0 pre W):=by
 intro pre W W' row h hg hr
 refine h.step hs ?_ (Nat.le_trans h.size hg.size) fun k hk=>hg.block k (by have:=h.size; omega) fun e=>by have:=(hr k e.symm).1; omega
 exact h.below.grown hg h.below.size fun q e=>by have:=(hr q e).1; omega

theorem but_four (w : World) (s : Nat) (a b c d : Value) : But (fun i=>i = s) w ((((w.setCell ⟨s,0,none⟩ a).setCell ⟨s,1,none⟩ b).setCell ⟨s,2,none⟩ c).setCell ⟨s,3,none⟩ d):=by
 refine But.setCell (But.setCell (But.setCell (But.setCell (But.refl (fun i=>i = s) w) ?_ a) ?_ b) ?_ c) ?_ d
 all_goals exact Or.inl rfl

theorem four_put {w : World} {s : Nat} {x y z t : Value} {T : TypeId} (h : w.heap[s]? = some (.cells #[x,y,z,t] T (0,0))) (a b c d : Value) :
  ((((w.setCell ⟨s,0,none⟩ a).setCell ⟨s,1,none⟩ b).setCell ⟨s,2,none⟩ c).setCell ⟨s,3,none⟩ d).heap[s]? = some (.cells #[a,b,c,d] T (0,0)):=by
 rw [heap_setCell_same _ _ _ _ _ _ (heap_setCell_same _ _ _ _ _ _ (heap_setCell_same _ _ _ _ _ _ (heap_setCell_same _ _ _ _ _ _ h)))]
 rfl

section
attribute [local go_sem] Oper.semAt_some

set_option maxRecDepth 100000 in
set_option maxHeartbeats 4000000 in
theorem auLook_code (A A' : Option Addr) (n c m d : Nat) (N : List Ino) (E : List Ent) (w : World) (h : Given w A n N A' m E) :
  Calls Tryz.prog 98 #[.slice A n c,.slice A' m d] w fun e w'=>∃ bk bl,e = .returned (.agg #[.slice A n c,.slice A' m d,.map (some bk),.map (some bl)])∧Looked w' bk bl N E∧Below w.heap.size w w':=by
 have hn:=h.fewI
 have hm:=h.fewE
 have hE:=h.ents.len
 have HG:=Lib.hid h
 clear h
 refine (callsIn_wide (n:=5)).1 ?_
 refine callsIn_of_wp_marks Tryz.func98 rfl trivial ?_ rfl
 simp only [Tryz.ntmps98,List.size_toArray,List.length_cons,List.length_nil,Nat.reduceAdd,Nat.reduceSub,Array.replicate_succ,Array.replicate_zero,List.push_toArray,List.append_toArray,List.nil_append,List.cons_append]
 have hmk : ∀ W : World,(Instr.makeMap 132 none).run Tryz.prog W = .ok (.map (some W.heap.size)) (W.alloc (.map #[] 0)):=fun _=>rfl
 gi_wp2_with fail
 refine ⟨trivial,(callsIn_wide.2 (backward_code _ A n c rfl _)).mono ?_⟩
 rintro e w' ⟨rfl,rfl⟩
 clear hmk
 gi_wp2_with fail
 have hH:=(((((Held.refl w).alloc (.cells #[.slice none 0 0,.slice none 0 0,.map none,.map none] 134) rfl).alloc (g:=w.heap.size + 1) (.map #[] 0) (by simp)).alloc (g:=w.heap.size + 1 + 1) (.map #[] 0) (by simp)).alloc (g:=w.heap.size + 1 + 1 + 1) (.cells #[.slice A n c,.slice A' m d,.map (some (w.heap.size + 1)),.map (some (w.heap.size + 1 + 1))] 134) (by simp)).alloc (g:=w.heap.size + 1 + 1 + 1 + 1) (.cells #[.slice A n c] 34) (by simp)
 have hz0 : (((((w.alloc (.cells #[.slice none 0 0,.slice none 0 0,.map none,.map none] 134)).alloc (.map #[] 0)).alloc (.map #[] 0)).alloc (.cells #[.slice A n c,.slice A' m d,.map (some (w.heap.size + 1)),.map (some (w.heap.size + 1 + 1))] 134)).alloc (.cells #[.slice A n c] 34)).heap.size = w.heap.size + 1 + 1 + 1 + 1 + 1:=by simp
 generalize (((((w.alloc (.cells #[.slice none 0 0,.slice none 0 0,.map none,.map none] 134)).alloc (.map #[] 0)).alloc (.map #[] 0)).alloc (.cells #[.slice A n c,.slice A' m d,.map (some (w.heap.size + 1)),.map (some (w.heap.size + 1 + 1))] 134)).alloc (.cells #[.slice A n c] 34)) = W0 at hH hz0 ⊢
 have hI0 : LkI w A A' n c m d w.heap.size W0.heap.size [] W0 :=
  ⟨hH.at 4 rfl,hH.at 1 rfl,⟨[],⟨#[],0,[],hH.at 3 rfl,MapKept.stamped_empty 0,rfl,List.Perm.nil⟩,fun id=>rfl⟩,⟨#[],0,[],hH.at 2 rfl,MapKept.stamped_empty 0,rfl,List.Perm.nil⟩,hH.below,Nat.le_refl _⟩
 have hb4:=hH.at 0 rfl
 have hin : InosIn W0 W0.heap.size A n N:=(HG.out.inos.below hH.below).more hH.below.size
 obtain ⟨s,hs⟩ : ∃ s,s = w.heap.size:=⟨_,rfl⟩
 rw [← hs] at hz0 hI0 hb4 ⊢
 have hsB : s + 1 + 1 + 1 < W0.heap.size:=by omega
 have hws : w.heap.size≤s:=Nat.le_of_eq hs.symm
 have hwB : w.heap.size≤W0.heap.size:=by omega
 have HS:=Lib.hid hs
 clear hH hs
 refine wpIn_rangeFunc_ownH rfl (by decide) (gf:=198) (lb:=#[.pointer (some ⟨s + 1 + 1 + 1 + 1,0,none⟩)]) rfl trivial (enters_of Tryz.func198 (by kernel_rfl) rfl)
  (backward_stops (5 - 1) (by decide) (s + 1 + 1 + 1 + 1) A n c N hn W0 hb4 hin) (fun h k=>KeepsRows.trans h k) (fun W l o o' _ hl hc _=>KeepsRows.putObj o' hl hc) (Below.refl _ _) (fun _=>rfl)
  (fun (pre : List (Int × Ino)) W=>LkI w A A' n c m d s W0.heap.size pre W)
  (fun _ _ _=>False)
  (lkI_own w A A' n c m d s _ hsB hwB)
  (fun _ _ _ _ _ hs _ _=>hs)
  hI0
  (fun x a' W=>LkAt A A' n c m d s x a' W) (fun x a'=>lk_own _ _ _ _ _ _ _ _ x a') ?assign ?body ?done ?stop
 case assign =>
  rintro l pre x W K hI hK
  have hK':=hK { tmps:=#[.slice A n c,.slice A' m d,undef,undef,.pointer (some ⟨s,0,none⟩),.pointer (some ⟨s + 1 + 1 + 1,0,none⟩),undef,.pointer (some ⟨W.heap.size,0,none⟩),undef,undef,.slice A n c,.slice A' m d,.map (some (s + 1)),.map (some (s + 1 + 1)),.agg #[.slice A n c,.slice A' m d,.map (some (s + 1)),.map (some (s + 1 + 1))],.slice A n c,.func (.func 198) #[] #[.pointer (some ⟨s + 1 + 1 + 1 + 1,0,none⟩)],.int .i64 x.1,.agg (inoA x.2),undef,undef,undef,undef,undef,undef,undef,undef,undef,undef,undef,undef,undef,undef,undef,undef,undef,undef,undef,undef,undef,undef],defers:=[] } (W.alloc (.cells (inoA x.2) 59))
   ((KeepsOthers.alloc _ _).from _) (KeepsRows.alloc _ _) (hI.step hsB (hI.below.alloc hI.below.size _) (by have:=hI.size; simp; omega) fun k hk=>heap_alloc_old _ _ (by have:=hI.size; omega)) ⟨W.heap.size,rfl,heap_alloc_new _ _⟩
  have HK:=Lib.hid hK'
  clear hK hK' hI hI0
  obtain ⟨xi,⟨i1,i2⟩,xk,xl,xm,xd⟩:=x
  simp only [backed,inoA] at HK ⊢
  gi_wp2_with fail
  exact HK.out
 case body =>
  rintro l pre x a' W hl _ hI ⟨q,rfl,hq⟩ hlt
  have hsz2:=hI.size
  obtain ⟨K,k1,k2⟩:=hI.kinds
  obtain ⟨w1,hrun,hm1,hbut,hsz⟩:=k1.store stShape Tryz.underlying132 x.2.id x.2.kind
  simp only [stV,stA,iV] at hrun
  have hc:=cell_of_row _ _ 2 _ _ (0,0) hI.lists
  obtain ⟨x0,x1,x2,x3,x4,x5⟩:=ino_cells hq
  have HI:=Lib.hid hI
  have HM:=Lib.hid hm1
  have HB:=Lib.hid hbut
  have HK:=Lib.hid k2
  have hkc : ∃ o,W.heap[s + 1]? = some o∧o.isCells = false:=by
   obtain ⟨es,cl,M,q1,_⟩:=k1
   exact ⟨_,q1,rfl⟩
  clear hI hI0 k1 k2 hm1 hbut
  obtain ⟨xi,⟨i1,i2⟩,xk,xl,xm,xd⟩:=x
  dsimp only at hrun x0 x1 x2 x3 x4 x5
  gi_wp2_with fail
  have hbk : ∀ k,k ≠ s + 1→k < W.heap.size→w1.heap[k]? = W.heap[k]?:=fun k h1 h2=>HB.out.block k h2 h1
  have hbelow : Below w.heap.size w w1:=HI.out.below.trans (HB.out.below (fun i hi=>by omega) HI.out.below.size)
  refine ⟨⟨HB.out.size,fun k o h1 h2 h3=>(hbk k (by omega) (heap_lt h2)).trans h2⟩,KeepsRows.of_but HB.out (fun i o hi ho=>?_),⟨(hbk _ (by omega) (by omega)).trans HI.out.res,(hbk _ (by omega) (by omega)).trans HI.out.lists,⟨_,HM.out,fun id=>?_⟩,HI.out.links.kept (hbk _ (by omega) (by omega)),hbelow,by omega⟩⟩
  ·obtain ⟨o',h1,h2⟩:=hkc
   rw [hi,h1] at ho
   cases ho
   exact h2
  ·rw [look_put,List.map_append,List.reverse_append]
   simp only [List.map_cons,List.map_nil,List.reverse_cons,List.reverse_nil,List.nil_append,List.singleton_append]
   rw [kindI_cons,HK.out id]
 case done =>
  rintro D ys W hD hS hI hK
  obtain ⟨K,k1,k2⟩:=hI.kinds
  have hkK : Hid (∀ id,lookL K id = kindI N id):=fun id=>by
   rw [k2 id,hS,List.reverse_reverse]
  have hsD : s + 1 + 1 + 1 < D:=by omega
  have r0:=hI.res
  have r3:=hI.lists
  have HK1:=Lib.hid k1
  have HL0:=Lib.hid hI.links
  have hB0:=hI.below
  have hz:=hI.size
  clear hI hI0 k1 k2 hS hin hb4
  dsimp only [Exit.inBlock,Exit.then]
  apply_assumption
  refine wpIn_wide.2 ?_
  go_wp2_with fail
  go_loopg [27] (m + 1) (fun gk i wr=>∃ k : Nat,i = .int .i64 (k : Int)∧gk + k = m + 1∧k≤m∧Hid (KMap stV iV wr (s + 1) K)∧Hid (∃ L : List (St × Int),KMap stV iV wr (s + 1 + 1) L∧∀ id,(lookL L id).getD 0 = (linksE (E.take k) id : Int))∧wr.heap[s]? = some (.cells #[.slice none 0 0,.slice none 0 0,.map none,.map none] 134 (0,0))∧wr.heap[s + 1 + 1 + 1]? = some (.cells #[.slice A n c,.slice A' m d,.map (some (s + 1)),.map (some (s + 1 + 1))] 134 (0,0))∧wr.heap[D]? = some (.deferred (some []))∧Hid (Below w.heap.size w wr))
  case atStart=>exact ⟨0,rfl,by omega,by omega,HK1,⟨[],HL0.out,fun id=>rfl⟩,r0,r3,hK,hB0⟩
  case round =>
   obtain ⟨k,rfl,hgk,hk,hKs,hLs,q0,q3,qD,hB⟩:=hrel
   clear r0 r3 hK hB0 HK1 HL0 hz
   have hD:=heap_lt qD
   by_cases hlt : k < m
   ·obtain ⟨g,o,rfl,hg,hrow⟩:=HG.out.ents.row (by omega)
    have hlow:=hB.out.size
    obtain ⟨e0,e1,e2,e3,e4⟩:=(hrow k (by omega)).below hB.out hg
    clear hrow
    obtain ⟨L,l1,l2⟩:=hLs.out
    have hsn:=fun id=>links_snoc E k (by omega) id
    have hnum : (linksE (E.take k) E[k].ino : Int)≤1000:=by have:=linksE_le (E.take k) E[k].ino; rw [List.length_take] at this; omega
    generalize E[k] = x at e0 e1 e2 e3 e4 hsn hnum
    obtain ⟨⟨d1,d2⟩,nm,⟨i1,i2⟩⟩:=x
    dsimp only at e0 e1 e2 e3 e4 hsn hnum
    have HSn:=Lib.hid hsn
    clear hsn hLs
    go_upto_region 8 with fail
    change Code.wp _ _ _ _ (wr.alloc (.cells (entA ⟨(d1,d2),nm,(i1,i2)⟩) 89))
    obtain ⟨u,hu⟩ : ∃ u,u = wr.heap.size:=⟨_,rfl⟩
    have hDu : D < u:=by omega
    have t9 : (wr.alloc (.cells (entA ⟨(d1,d2),nm,(i1,i2)⟩) 89)).heap[u]? = some (.cells (entA ⟨(d1,d2),nm,(i1,i2)⟩) 89 (0,0)):=by rw [hu]; exact heap_alloc_new _ _
    have hbA : Below wr.heap.size wr (wr.alloc (.cells (entA ⟨(d1,d2),nm,(i1,i2)⟩) 89)):=(Below.refl _ _).alloc (Nat.le_refl _) _
    rw [← hu]
    generalize wr.alloc (.cells (entA ⟨(d1,d2),nm,(i1,i2)⟩) 89) = w2 at t9 hbA ⊢
    have hB2:=below_step hB.out hbA
    have HK2:=Lib.hid (hKs.out.kept (hbA.block _ (by omega)))
    have l12:=l1.kept (hbA.block _ (by omega))
    have p0:=(hbA.block _ (by omega)).trans q0
    have p3:=(hbA.block _ (by omega)).trans q3
    have pD:=(hbA.block _ hD).trans qD
    clear hbA hB hKs l1 q0 q3 qD e0 e1 e2 e3 e4 hu hlow hD
    obtain ⟨e0,e1,e2,e3,e4⟩:=ent_cells t9
    have c3:=cell_of_row _ _ 3 _ _ (0,0) p3
    obtain ⟨v,hv⟩ : ∃ v,v = (linksE (E.take k) (i1,i2) : Int):=⟨_,rfl⟩
    have hv2 : (lookL L (i1,i2)).getD 0 = v:=by rw [hv]; exact l2 (i1,i2)
    have hwr : wrap64 (v + 1) = v + 1:=by
     have : 0≤v:=by omega
     unfold wrap64
     omega
    have l13 : KMap stV iV w2.drew (s + 1 + 1) L:=l12
    obtain ⟨st,w3,hrun,hm3,hbut3,hsz3,hslot⟩:=l13.entry stShape Tryz.underlying132 0 zeroI (i1,i2)
    rw [hv2] at hrun hm3
    have hl2:=l13.look stShape Tryz.underlying132 (zeroI _) (i1,i2) false
    rw [if_neg (by decide),show ((lookL L (i1,i2)).map iV).getD (iV 0) = iV ((lookL L (i1,i2)).getD 0) by cases lookL L (i1,i2) <;> rfl,hv2] at hl2
    have hl3:=hm3.look stShape Tryz.underlying132 (zeroI _) (i1,i2) false
    rw [if_neg (by decide),look_put,if_pos rfl] at hl3
    obtain ⟨w4,hst,hm4,hbut4,hsz4⟩:=hslot w3 rfl (v + 1)
    simp only [stV,stA,iV,Option.map_some,Option.getD_some] at hrun hl2 hl3 hst
    have HM4:=Lib.hid hm4
    have hbut5 : But (fun i=>i = s + 1 + 1) w2 w4:=(But.of_below (w:=w2) (w':=w2.drew) (Below.refl _ _).drew).trans (hbut3.trans hbut4 fun i hi _=>hi) fun i hi _=>hi
    have HB5:=Lib.hid hbut5
    have HL2:=Lib.hid l2
    have HV:=Lib.hid hv
    clear hm3 hm4 hbut3 hbut4 hslot l12 l13 l2 hv hv2 hnum hbut5 hsz3 hsz4
    go_region
    have h0:=(HB5.out.block _ (by have:=heap_lt p0; omega) (by omega)).trans p0
    have h3:=(HB5.out.block _ (by have:=heap_lt p3; omega) (by omega)).trans p3
    have hD:=(HB5.out.block _ (by have:=heap_lt pD; omega) (by omega)).trans pD
    have hKK:=HK2.out.kept (HB5.out.block _ (by have:=HK2.out.lt; omega) (by omega))
    have hBB:=hB2.trans (HB5.out.below (fun i hi=>by omega) hB2.size)
    have HSt : Hid (∀ id,(lookL (((i1,i2),v + 1) :: offL L (i1,i2)) id).getD 0 = (linksE (E.take (k + 1)) id : Int)):=fun id=>by
     rw [look_put,HSn.out id]
     by_cases hid : ((i1,i2) : St) = id
     ·rw [if_pos hid,if_pos hid,Option.getD_some,HV.out,hid]
     ·rw [if_neg hid,if_neg hid,HL2.out id]
      omega
    clear hrun hl2 hl3 hst e0 e1 e2 e3 e4 c3 t9 p0 p3 pD
    go_wp2_with fail
    go_roundg (gk - 1)
    case measure=>omega
    case rel=>exact ⟨k + 1,by go_num,by omega,by omega,hKK,⟨_,HM4.out,HSt.out⟩,h0,h3,hD,hBB⟩
   ·obtain ⟨L,l1,l2⟩:=hLs.out
    have HLk : Hid (Looked wr (s + 1) (s + 1 + 1) N E):=⟨⟨K,hKs.out,hkK.out⟩,⟨L,l1,fun id=>by rw [l2 id,List.take_of_length_le (by omega)]⟩⟩
    clear hLs l1 l2
    obtain ⟨c0,c1,c2,c3⟩:=lists_cells q3
    have f0:=frozen_of_row _ _ 0 _ _ q0
    have f1:=frozen_of_row _ _ 1 _ _ q0
    have f2:=frozen_of_row _ _ 2 _ _ q0
    have f3:=frozen_of_row _ _ 3 _ _ q0
    have z0:=cell_of_row _ _ 0 _ _ (0,0) q0
    have z1:=cell_of_row _ _ 1 _ _ (0,0) q0
    have z2:=cell_of_row _ _ 2 _ _ (0,0) q0
    have z3:=cell_of_row _ _ 3 _ _ (0,0) q0
    go_wp2_with fail
    have hbut : But (fun i=>i = s) wr ((((wr.setCell ⟨s,0,none⟩ (.slice A n c)).setCell ⟨s,1,none⟩ (.slice A' m d)).setCell ⟨s,2,none⟩ (.map (some (s + 1)))).setCell ⟨s,3,none⟩ (.map (some (s + 1 + 1)))) :=
     but_four wr s _ _ _ _
    have h4 : ((((wr.setCell ⟨s,0,none⟩ (.slice A n c)).setCell ⟨s,1,none⟩ (.slice A' m d)).setCell ⟨s,2,none⟩ (.map (some (s + 1)))).setCell ⟨s,3,none⟩ (.map (some (s + 1 + 1)))).heap[s]? = some (.cells #[.slice A n c,.slice A' m d,.map (some (s + 1)),.map (some (s + 1 + 1))] 134 (0,0)):=four_put q0 _ _ _ _
    generalize ((((wr.setCell ⟨s,0,none⟩ (.slice A n c)).setCell ⟨s,1,none⟩ (.slice A' m d)).setCell ⟨s,2,none⟩ (.map (some (s + 1)))).setCell ⟨s,3,none⟩ (.map (some (s + 1 + 1)))) = w4 at hbut h4 ⊢
    have hD4:=hbut.heap qD (by omega)
    have hb4:=hB.out.trans (hbut.below (fun i hi=>by omega) hB.out.size)
    have hk4:=HLk.out.kept (W':=w4) (hbut.block _ HLk.out.lt.1 (by omega)) (hbut.block _ HLk.out.lt.2 (by omega))
    have hb5:=belowK_b (n₀:=w.heap.size) (w:=w) (Nat.le_refl _) w4 D _ (.deferred none) (by omega) hD4 rfl rfl
    have hlow4:=heap_lt hD4
    have hDk:=hb4.size
    have h5 : (w4.putObj D (.deferred none)).heap[s]? = _:=(World.putObj_heap_other (by omega)).trans h4
    have hk5:=hk4.kept (W':=w4.putObj D (.deferred none)) (World.putObj_heap_other (by omega)) (World.putObj_heap_other (by omega))
    obtain ⟨y0,y1,y2,y3⟩:=lists_cells h5
    refine ⟨by simp,.inl ⟨_,_,rfl,run_takeDeferred hD4,?_⟩⟩
    exact ⟨.agg #[.slice A n c,.slice A' m d,.map (some (s + 1)),.map (some (s + 1 + 1))],by simp [results,Tryz.results98,go_sem,y0,y1,y2,y3],s + 1,s + 1 + 1,rfl,hk5,hb4.trans hb5⟩
 case stop =>
  rintro D c pre W _ _ h _
  exact h.elim
end

end Go.Proofs.YtdobeghbkonimaaGreatDoor

namespace Go.Proofs.YtdobeghbkonimaaGreatDoor
open Go.RowKit StampMath GraphMath OpMath

abbrev slV (v : Value) : Value:=v
def unV (_ : Unit) : Value:=.agg #[]
theorem zeroSl (w : World) : (zeroValue 165).run Tryz.prog w = .ok (slV (.slice none 0 0)) w:=by kernel_rfl
theorem zeroUn (w : World) : (zeroValue 207).run Tryz.prog w = .ok (unV ()) w:=by kernel_rfl
theorem st_infos : (Tryz.prog.info? 24).map (fun i=>(i.zero,i.size,i.bytes)) = some (some (.agg #[.int .i64 0,.int .i64 0]),2,16):=by kernel_rfl
theorem st_one2 (x : St) : ∀ u∈(stA x).toList,u.oneCell' = true:=by
 intro u hu
 simp [stA] at hu
 rcases hu with rfl | rfl <;> rfl

def valM (M : List (St × Value)) (s : St) : Value:=(lookL M s).getD (.slice none 0 0)

structure BelowI (W : World) (bB base : Nat) (N : List Ino) (E : List Ent) (M : List (St × Value)) : Prop where
 map : KMap stV slV W bB M
 rows : ∀ s,W.ownsRow base 24 2 (valM M s) (belowL N E s).length (flat ((belowL N E s).map stA))
 apart : ∀ s t b,(valM M s).ownBlock = some b→(valM M t).ownBlock = some b→s = t

theorem BelowI.below {W W' : World} {bB base : Nat} {N : List Ino} {E : List Ent} {M : List (St × Value)} (h : BelowI W bB base N E M) (hb : Below W.heap.size W W') : BelowI W' bB base N E M :=
 ⟨h.map.kept (hb.block _ h.map.lt),fun s=>own_call (h.rows s) hb,h.apart⟩

theorem BelowI.same {W : World} {bB base : Nat} {N : List Ino} {E E' : List Ent} {M : List (St × Value)} (h : BelowI W bB base N E M) (he : ∀ s,belowL N E' s = belowL N E s) : BelowI W bB base N E' M :=
 ⟨h.map,fun s=>by rw [he]; exact h.rows s,h.apart⟩

theorem BelowI.new {W : World} {bB base : Nat} {N : List Ino} (h : W.heap[bB]? = some (.map #[] 0)) : BelowI W bB base N [] [] :=
 ⟨⟨#[],0,[],h,MapKept.stamped_empty 0,rfl,List.Perm.nil⟩,fun _=>World.ownsRow_nil _ _ _ _,fun _ _ _ h=>by cases h⟩

theorem valM_put (M : List (St × Value)) (k : St) (v : Value) (s : St) : valM ((k,v) :: offL M k) s = if k = s then v else valM M s:=by
 unfold valM
 rw [look_put]
 by_cases h : k = s <;> simp [h]

theorem flat_st (F : List St) (x : St) : flat (F.map stA) ++ (stA x).toList = flat ((F ++ [x]).map stA):=by simp [flat]

theorem grown_but {w w' : World} {b : Nat} (hb : But (fun i=>i = b) w w') : w.grownBy w' (some b):=⟨hb.os,hb.tape,hb.output,hb.size,fun i hi hn=>hb.block i hi fun q=>hn (by rw [q])⟩

theorem own_off {w w' : World} {base : Nat} {e : TypeId} {k : Nat} {v : Value} {n : Nat} {xs : List Value} (h : w.ownsRow base e k v n xs) {b : Nat} (hb : But (fun i=>i = b) w w') (hne : ∀ j,v.ownBlock = some j→j ≠ b) : w'.ownsRow base e k v n xs :=
 h.kept (grown_but hb) (by
  cases hv : v.ownBlock with
  | none=>exact .inl rfl
  | some j=>exact .inr fun q=>by cases q; exact hne _ hv rfl)

theorem BelowI.put {W W1 W2 W3 : World} {bB base : Nat} {N : List Ino} {E E' : List Ent} {M : List (St × Value)} {key ino : St} {v' : Value} (h : BelowI W bB base N E M) (hbase : bB < base)
  (he : ∀ s,belowL N E' s = belowL N E s ++ if key = s then [ino] else [])
  (h1 : But (fun i=>i = bB) W W1) (h2 : W1.grownBy W2 (valM M key).ownBlock) (h3 : But (fun i=>i = bB) W2 W3) (hm : KMap stV slV W3 bB ((key,v') :: offL M key))
  (hown : W2.ownsRow base 24 2 v' ((belowL N E key).length + 1) (flat ((belowL N E key).map stA) ++ (stA ino).toList)) (hat : v'.ownBlock = (valM M key).ownBlock∨v'.ownBlock = some W1.heap.size) : BelowI W3 bB base N E' ((key,v') :: offL M key):=by
 have hlow : ∀ s j,(valM M s).ownBlock = some j→base≤j∧j < W.heap.size:=fun s j hj=>(h.rows s).lt j hj
 refine ⟨hm,fun s=>?_,fun s t b hs ht=>?_⟩
 ·rw [valM_put,he]
  by_cases hk : key = s
  ·subst hk
   rw [if_pos rfl,if_pos rfl,List.length_append,← flat_st]
   exact own_off hown h3 fun j hj=>by have:=(hown.lt j hj).1; omega
  ·rw [if_neg hk,if_neg hk,List.append_nil]
   have r1:=own_off (h.rows s) h1 fun j hj=>by have:=(hlow s j hj).1; omega
   have r2:=r1.kept h2 (by
    cases hv : (valM M s).ownBlock with
    | none=>exact .inl rfl
    | some j=>exact .inr fun q=>hk (h.apart key s j q.symm hv))
   exact own_off r2 h3 fun j hj=>by have:=(hlow s j hj).1; omega
 ·rw [valM_put] at hs ht
  by_cases hks : key = s
  ·by_cases hkt : key = t
   ·rw [← hks,hkt]
   ·rw [if_pos hks] at hs
    rw [if_neg hkt] at ht
    rcases hat with q | q
    ·rw [hs] at q
     exact absurd (h.apart key t b q.symm ht) hkt
    ·rw [hs] at q
     cases q
     have:=(hlow t _ ht).2
     have:=h1.size
     omega
  ·rw [if_neg hks] at hs
   by_cases hkt : key = t
   ·rw [if_pos hkt] at ht
    rcases hat with q | q
    ·rw [ht] at q
     exact absurd (h.apart key s b q.symm hs) hks
    ·rw [ht] at q
     cases q
     have:=(hlow s _ hs).2
     have:=h1.size
     omega
   ·rw [if_neg hkt] at ht
    exact h.apart s t b hs ht

theorem own_no_map {K V : Type} {ek : K→Value} {ev : V→Value} {w : World} {base : Nat} {e : TypeId} {k : Nat} {v : Value} {n : Nat} {xs : List Value} (h : w.ownsRow base e k v n xs) {b : Nat} {L : List (K × V)} (hm : KMap ek ev w b L) : ∀ j,v.ownBlock = some j→j ≠ b:=by
 intro j hj hjb
 subst hjb
 obtain ⟨es,cl,M,q1,_⟩:=hm
 rcases h.2 with ⟨rfl,_⟩ | ⟨g,cap,cur,rfl,_,hg,_⟩
 ·cases hj
 ·cases hj
  rw [q1] at hg
  cases hg

theorem take_mem {α : Type} {L : List α} {j : Nat} (hj : j < L.length) {t : α} (h : t∈L.take (j + 1)) : t∈L.take j∨t = L[j]:=by
 rw [List.take_succ_eq_append_getElem hj] at h
 rcases List.mem_append.1 h with h | h
 ·exact .inl h
 ·exact .inr (List.mem_singleton.1 h)

set_option maxRecDepth 100000 in
set_option maxHeartbeats 4000000 in
theorem reached_code (A A' : Option Addr) (n c m d bk bl : Nat) (N : List Ino) (E : List Ent) (w : World) (h : Given w A n N A' m E) (hL : Looked w bk bl N E) :
  Calls Tryz.prog 152 #[.agg #[.slice A n c,.slice A' m d,.map (some bk),.map (some bl)]] w fun e w'=>∃ (v : Value) (F : List St),e = .returned v∧F.Nodup∧(∀ s,s∈F ↔ Reached N E s)∧w'.ownsRow w.heap.size 24 2 v F.length (flat (F.map stA))∧Below w.heap.size w w':=by
 have hm:=h.fewE
 have hn:=h.fewI
 have hE:=h.ents.len
 have hNl:=h.inos.len
 have HG:=Lib.hid h
 have HL:=Lib.hid hL
 obtain ⟨i0,hi0,hz0,hz1,hz2⟩:=info_parts st_infos
 have hb0 : Below w.heap.size w (w.alloc (.cells #[.slice A n c,.slice A' m d,.map (some bk),.map (some bl)] 134)):=(Below.refl _ _).alloc (Nat.le_refl _) _
 have he0:=heap_alloc_new w (.cells #[.slice A n c,.slice A' m d,.map (some bk),.map (some bl)] 134)
 clear h hL
 go_enter Tryz.func152,Tryz.ntmps152
 go_upto_region 1 with fail
 have hs0 : ∃ s,s = w.heap.size:=⟨_,rfl⟩
 obtain ⟨s,hs⟩:=hs0
 rw [← hs] at he0 ⊢
 have hws : w.heap.size≤s:=Nat.le_of_eq hs.symm
 clear hs
 generalize w.alloc (.cells #[.slice A n c,.slice A' m d,.map (some bk),.map (some bl)] 134) = w1 at he0 hb0 ⊢
 have HB0:=Lib.hid hb0
 have HE0:=Lib.hid he0
 obtain ⟨b,hb⟩ : ∃ b,b = (kindI N (0,0)).isSome:=⟨_,rfl⟩
 have HRl : Hid (∀ y,Calls Tryz.prog 142 #[] (later w1 y) fun e w'=>e = .returned (.agg #[.int .i64 0,.int .i64 0])∧∃ z,w' = later w1 z):=fun y=>later_call (auRoot_code _)
 have HHl : Hid (∀ y,Calls Tryz.prog 148 #[.agg #[.slice A n c,.slice A' m d,.map (some bk),.map (some bl)],.agg #[.int .i64 0,.int .i64 0]] (later w1 y) fun e w'=>e = .returned (.bool b)∧∃ z,w' = later w1 z):=fun y=>later_call (by rw [hb]; exact has_code A A' n c m d bk bl N E (0,0) _ (HL.out.below (below_step HB0.out (later_below w1 y))))
 obtain ⟨c0,c1,c2,c3⟩:=lists_cells he0
 have l0:=later_cell c0
 have l1:=later_cell c1
 have l2:=later_cell c2
 have l3:=later_cell c3
 have HBb:=Lib.hid hb
 clear c0 c1 c2 c3 he0 hb0 hb
 cases b with
 | false =>
  have hno : Hid (∀ s,¬ Reached N E s):=fun s=>reached_none (by
   have:=HBb.out
   cases hk : kindI N (0,0) with
   | none=>rfl
   | some _=>rw [hk] at this; cases this)
  refine wp_region_later (by kernel_rfl) (by kernel_rfl) ?_
  repeat (go_big_quiet_step (first | (with_reducible exact HRl.out _) | (with_reducible exact HHl.out _)))
  refine wpQuiet_nil ?_
  intro _ hw'
  obtain ⟨y,rfl⟩:=hw'
  clear l0 l1 l2 l3
  go_wp2_with fail
  go_ret
  exact ⟨_,[],rfl,List.nodup_nil,(fun s=>⟨(fun q=>by cases q),fun q=>absurd q (hno.out s)⟩),World.ownsRow_nil _ _ _ _,below_step HB0.out (later_below w1 y)⟩
 | true =>
  have hrt : Hid (Reached N E (0,0)):=reached_root HBb.out.symm
  refine wp_region_later (by kernel_rfl) (by kernel_rfl) ?_
  repeat (go_big_quiet_step (first | (with_reducible exact HRl.out _) | (with_reducible exact HHl.out _)))
  refine wpQuiet_nil ?_
  intro _ hw'
  obtain ⟨y,rfl⟩:=hw'
  clear l0 l1 l2 l3 HRl HHl
  have HB1:=Lib.hid (below_step HB0.out (later_below w1 y))
  have he1:=((later_below w1 y).block _ (heap_lt HE0.out)).trans HE0.out
  generalize later w1 y = w2 at HB1 he1 ⊢
  clear HE0 HB0 HBb
  have hmk : ∀ W : World,(Instr.makeMap 206 none).run Tryz.prog W = .ok (.map (some W.heap.size)) (W.alloc (.map #[] 0)):=fun _=>rfl
  obtain ⟨c0,c1,c2,c3⟩:=lists_cells he1
  obtain ⟨z,hz⟩ : ∃ z,z = w2.heap.size:=⟨_,rfl⟩
  have hzm : (w2.alloc (.map #[] 0)).heap[z]? = some (.map #[] 0):=by rw [hz]; exact heap_alloc_new _ _
  have hsz : s < z:=by rw [hz]; exact heap_lt he1
  have he2:=(heap_alloc_old w2 (.map #[] 0) (heap_lt he1)).trans he1
  have hB2:=Lib.hid (HB1.out.alloc HB1.out.size (.map #[] 0))
  have hz3 : (w2.alloc (.map #[] 0)).heap.size = z + 1:=by simp [hz]
  have cc1:=cell_of_row _ _ 1 _ _ (0,0) he2
  go_upto_region 4 with fail
  rw [← hz]
  have HZ:=Lib.hid hz
  clear hmk hz c0 c1 c2 c3
  generalize w2.alloc (.map #[] 0) = w3 at hzm he2 hB2 hz3 cc1 ⊢
  have hI0 : BelowI w3 z (z + 1) N (E.take 0) []:=BelowI.new hzm
  go_wp2_with fail
  go_loopg [21] (m + 1) (fun gk i wr=>∃ (k : Nat) (M : List (St × Value)),i = .int .i64 (k : Int)∧gk + k = m + 1∧k≤m∧Hid (BelowI wr z (z + 1) N (E.take k) M)∧wr.heap[s]? = some (.cells #[.slice A n c,.slice A' m d,.map (some bk),.map (some bl)] 134 (0,0))∧Hid (Below w.heap.size w wr)∧z + 1≤wr.heap.size)
  case atStart=>exact ⟨0,[],rfl,by omega,by omega,hI0,he2,hB2,by omega⟩
  case round =>
   obtain ⟨k,M,rfl,hgk,hk,hI,hq,hB,hlow⟩:=hrel
   clear hI0 he2 hB2 hz3 hzm he1 HB1 HZ cc1
   by_cases hlt : k < m
   ·obtain ⟨g,o,rfl,hg,hrow⟩:=HG.out.ents.row (by omega)
    obtain ⟨e0,e1,e2,e3,e4⟩:=(hrow k (by omega)).below hB.out hg
    clear hrow
    have hsn:=fun t=>belowL_snoc N E k (by omega) t
    have HD : Hid (∀ W : World,Below w.heap.size w W→Calls Tryz.prog 141 #[.agg #[.slice A n c,.slice (some ⟨g,o,none⟩) m d,.map (some bk),.map (some bl)],.agg #[.int .i64 E[k].dir.1,.int .i64 E[k].dir.2]] W fun e w'=>e = .returned (.bool (decide (kindI N E[k].dir = some 1)))∧Below W.heap.size W w'):=fun W hW=>isDir_code A (some ⟨g,o,none⟩) n c m d bk bl N E E[k].dir W (HL.out.below hW)
    have HH : Hid (∀ W : World,Below w.heap.size w W→Calls Tryz.prog 148 #[.agg #[.slice A n c,.slice (some ⟨g,o,none⟩) m d,.map (some bk),.map (some bl)],.agg #[.int .i64 E[k].ino.1,.int .i64 E[k].ino.2]] W fun e w'=>e = .returned (.bool (kindI N E[k].ino).isSome)∧Below W.heap.size W w'):=fun W hW=>has_code A (some ⟨g,o,none⟩) n c m d bk bl N E E[k].ino W (HL.out.below hW)
    have hlen:=fun t=>belowL_len N (E.take k) t
    simp only [List.length_take] at hlen
    have HLen:=Lib.hid hlen
    obtain ⟨x,hx⟩ : ∃ x,x = E[k]:=⟨_,rfl⟩
    rw [← hx] at e0 e1 e2 e3 e4 HD HH
    simp only [← hx] at hsn
    unfold okE at hsn
    generalize decide (kindI N x.dir = some 1) = p at HD hsn
    generalize (kindI N x.ino).isSome = r at HH hsn
    clear hx hlen
    obtain ⟨⟨d1,d2⟩,nm,⟨i1,i2⟩⟩:=x
    dsimp only at e0 e1 e2 e3 e4 HD HH hsn
    have HSn:=Lib.hid hsn
    clear hsn
    obtain ⟨c0,c1,c2,c3⟩:=lists_cells hq
    go_upto_region 7 with fail
    change Code.wp _ _ _ _ (wr.alloc (.cells (entA ⟨(d1,d2),nm,(i1,i2)⟩) 89))
    obtain ⟨u,hu⟩ : ∃ u,u = wr.heap.size:=⟨_,rfl⟩
    have t5 : (wr.alloc (.cells (entA ⟨(d1,d2),nm,(i1,i2)⟩) 89)).heap[u]? = some (.cells (entA ⟨(d1,d2),nm,(i1,i2)⟩) 89 (0,0)):=by rw [hu]; exact heap_alloc_new _ _
    have hbA : Below wr.heap.size wr (wr.alloc (.cells (entA ⟨(d1,d2),nm,(i1,i2)⟩) 89)):=(Below.refl _ _).alloc (Nat.le_refl _) _
    rw [← hu]
    generalize wr.alloc (.cells (entA ⟨(d1,d2),nm,(i1,i2)⟩) 89) = w4 at t5 hbA ⊢
    have hI4:=Lib.hid (hI.out.below hbA)
    have hq4:=(hbA.block _ (heap_lt hq)).trans hq
    have hB4:=below_step hB.out hbA
    have hz4:=hbA.size
    have huz : z + 1≤u:=by omega
    clear hu hI hB hbA hq c0 c1 c2 c3 e0 e1 e2 e3 e4
    obtain ⟨c0,c1,c2,c3⟩:=lists_cells hq4
    obtain ⟨e0,e1,e2,e3,e4⟩:=ent_cells t5
    go_wp2_with fail
    refine (HD.out _ hB4).mono ?_
    rintro e w5 ⟨rfl,hb5⟩
    have hI5:=Lib.hid (hI4.out.below hb5)
    have hq5:=(hb5.block _ (heap_lt hq4)).trans hq4
    have t55:=(hb5.block _ (heap_lt t5)).trans t5
    have hB5:=below_step hB4 hb5
    have hz5:=hb5.size
    clear hI4 hq4 t5 hB4 hb5 c0 c1 c2 c3 e0 e1 e2 e3 e4 HD
    obtain ⟨c0,c1,c2,c3⟩:=lists_cells hq5
    obtain ⟨e0,e1,e2,e3,e4⟩:=ent_cells t55
    cases p with
    | false =>
     go_wp2_with fail
     go_roundg (gk - 1)
     case measure=>omega
     case rel=>exact ⟨k + 1,M,by go_num,by omega,by omega,hI5.out.same (fun t=>by rw [HSn.out t,if_neg (by simp),List.append_nil]),hq5,hB5,by omega⟩
    | true =>
     go_wp2_with fail
     refine (HH.out _ hB5).mono ?_
     rintro e w6 ⟨rfl,hb6⟩
     have hI6:=Lib.hid (hI5.out.below hb6)
     have hq6:=(hb6.block _ (heap_lt hq5)).trans hq5
     have t56:=(hb6.block _ (heap_lt t55)).trans t55
     have hB6:=below_step hB5 hb6
     have hz6:=hb6.size
     clear hI5 hq5 t55 hB5 hb6 c0 c1 c2 c3 e0 e1 e2 e3 e4 HH
     obtain ⟨e0,e1,e2,e3,e4⟩:=ent_cells t56
     cases r with
     | false =>
      go_wp2_with fail
      go_roundg (gk - 1)
      case measure=>omega
      case rel=>exact ⟨k + 1,M,by go_num,by omega,by omega,hI6.out.same (fun t=>by rw [HSn.out t,if_neg (by simp),List.append_nil]),hq6,hB6,by omega⟩
     | true =>
      have hbA : Below w6.heap.size w6 (w6.alloc (.cells #[.int .i64 i1,.int .i64 i2] 24)):=(Below.refl _ _).alloc (Nat.le_refl _) _
      have HIA:=Lib.hid (hI6.out.below hbA)
      have HNW:=Lib.hid (row_there w6 24 (stA (i1,i2)))
      have hl1:=HLen.out (d1,d2)
      have hm1 : (belowL N (E.take k) (d1,d2)).length + 1≤maxLen:=by unfold maxLen; omega
      have hm2 : ((belowL N (E.take k) (d1,d2)).length + 1) * 16≤140737488355328:=by omega
      go_wp2_with (first
       | (refine wpList_k_entry stShape (by rfl) (.tmp 35) (.tmp 37) _ (by rfl) Tryz.underlying206 (.slice none 0 0) zeroSl z M (by rfl) HIA.out.map (d1,d2) (by rfl) ?_; intro v0 st w8 hv0 HM8 HU8 HS8 HSl8; have hs8:=HS8.out; have hown8 : w8.ownsRow (z + 1) 24 2 v0 (belowL N (E.take k) (d1,d2)).length (flat ((belowL N (E.take k) (d1,d2)).map stA)):=(by rw [hv0]; exact own_off (HIA.out.rows (d1,d2)) HU8.out (fun j hj=>by have:=((HIA.out.rows (d1,d2)).lt j hj).1; omega)); have HVV : Hid (valM M (d1,d2) = v0):=hv0.symm; clear hv0)
       | (at_builtin; refine wpList_append_own_at _ (by rfl) (.tmp 38) (.tmp 41) 165 (by rfl) (z + 1) 24 i0 _ 2 16 Tryz.underlying165 hi0 hz0 hz1 hz2 (by rfl) (by decide) v0 _ _ (by rfl) hown8 ⟨w6.heap.size,0,none⟩ 1 1 (stA (i1,i2)).toList (by rfl) (by rfl) (fun j u hj=>by have q:=HNW.out j u hj; rw [tab_add] at q ⊢; exact HU8.out.cell q (fun q2=>by dsimp only at q2; omega)) (st_one2 _) hm1 hm2 (by simp at hs8; omega) ?_; intro v2 w9 hown9 hg9 _ hat9; have HW9 : Hid (w9.heap[z]? = w8.heap[z]?):=hg9.block z (by simp at hs8; omega) (fun q=>by have:=(hown8.lt z q.symm).1; omega))
       | (refine wpList_k_entryStore (by rfl) (.tmp 35) (.tmp 44) (.tmp 43) _ (by rfl) z M (by rfl) (d1,d2) st w8 HSl8.out HW9.out (by rfl) v2 (by rfl) ?_; intro w10 HM10 HU10 HS10))
      have hat : v2.ownBlock = (valM M (d1,d2)).ownBlock∨v2.ownBlock = some w8.heap.size:=by rw [HVV.out]; exact hat9
      have hg8 : w8.grownBy w9 (valM M (d1,d2)).ownBlock:=by rw [HVV.out]; exact hg9
      have hsA : (w6.alloc (.cells #[.int .i64 i1,.int .i64 i2] 24)).heap.size = w6.heap.size + 1:=by simp
      have hI10:=Lib.hid (HIA.out.put (E':=E.take (k + 1)) (by omega) (fun t=>by
       rw [HSn.out t]
       by_cases ht : ((d1,d2) : St) = t
       ·rw [if_pos ⟨rfl,ht⟩,if_pos ht]
       ·rw [if_neg (fun q=>ht q.2),if_neg ht]) HU8.out hg8 HU10.out HM10.out hown9 hat)
      have hBA:=hB6.alloc hB6.size (.cells #[.int .i64 i1,.int .i64 i2] 24)
      have hB8:=hBA.trans (HU8.out.below (fun i hi=>by omega) hBA.size)
      have hB9:=hB8.grown hg9 hB8.size (fun q hq=>by have:=(hown8.lt q hq).1; omega)
      have hB10:=Lib.hid (hB9.trans (HU10.out.below (fun i hi=>by omega) hB9.size))
      have hz9:=hg9.size
      have hz10:=HU10.out.size
      have hq8:=HU8.out.heap ((heap_alloc_old w6 (.cells #[.int .i64 i1,.int .i64 i2] 24) (heap_lt hq6)).trans hq6) (by omega)
      have hq9:=(hg9.block s (heap_lt hq8) (fun q=>by have:=(hown8.lt s q.symm).1; omega)).trans hq8
      have hq10:=HU10.out.heap hq9 (by omega)
      have hs10 : z + 1≤w10.heap.size:=by omega
      clear hown8 hown9 hg9 hg8 hat9 hat HM8 HSl8 HU8 HM10 HU10 hBA hB8 hB9 hq6 hq8 hq9 hB6 hI6 HIA HNW e0 e1 e2 e3 e4
      go_roundg (gk - 1)
      case measure=>omega
      case rel=>exact ⟨k + 1,_,by go_num,by omega,by omega,hI10.out,hq10,hB10.out,hs10⟩
   ·obtain ⟨wb,hwb⟩ : ∃ x,x = wr:=⟨_,rfl⟩
    subst hwb
    have hIE : BelowI wb z (z + 1) N E M:=by have:=hI.out; rwa [List.take_of_length_le (by omega)] at this
    have HIE:=Lib.hid hIE
    obtain ⟨c0,c1,c2,c3⟩:=lists_cells hq
    clear hIE hI
    go_wp2_with fail
    refine (auRoot_code _).mono ?_
    rintro e w4 ⟨rfl,hb4⟩
    have hmk : ∀ W : World,(Instr.makeMap 208 none).run Tryz.prog W = .ok (.map (some W.heap.size)) (W.alloc (.map #[] 0)):=fun _=>rfl
    obtain ⟨u,hu⟩ : ∃ u,u = w4.heap.size:=⟨_,rfl⟩
    have hur : wb.heap.size≤u:=by rw [hu]; exact hb4.size
    have ho0 : ((w4.alloc (.cells #[.int .i64 0,.int .i64 0] 24)).alloc (.map #[] 0)).ownsRow wb.heap.size 24 2 (.slice (some ⟨u,0,none⟩) 1 1) 1 (flat ([((0,0) : St)].map stA)):=by
     rw [hu]
     exact (World.ownsRow_lit w4 #[.int .i64 0,.int .i64 0] 1 (by omega) (by decide) rfl).alloc _
    have hm0 : ((w4.alloc (.cells #[.int .i64 0,.int .i64 0] 24)).alloc (.map #[] 0)).heap[u + 1]? = some (.map #[] 0):=by rw [hu]; exact heap_alloc2_new w4 _ _
    have hb5 : Below wb.heap.size wb ((w4.alloc (.cells #[.int .i64 0,.int .i64 0] 24)).alloc (.map #[] 0)):=(hb4.alloc hb4.size _).alloc (by simp; omega) _
    have HU:=Lib.hid hu
    clear c0 c1 c2 c3 hu
    go_wp2_with fail
    rw [← HU.out]
    generalize ((w4.alloc (.cells #[.int .i64 0,.int .i64 0] 24)).alloc (.map #[] 0)) = w5 at ho0 hm0 hb5 ⊢
    clear HU hmk
    refine (auRoot_code _).mono ?_
    rintro e w6 ⟨rfl,hb6⟩
    have hm6 : KMap stV unV w6 (u + 1) ([] : List (St × Unit)):=⟨#[],0,[],(hb6.block _ (heap_lt hm0)).trans hm0,MapKept.stamped_empty 0,rfl,List.Perm.nil⟩
    have ho6:=own_call ho0 hb6
    have hb7:=below_step hb5 hb6
    obtain ⟨w7,hrun,hm7,hbut7,hsz7⟩:=hm6.store stShape Tryz.underlying208 (0,0) ()
    simp only [stV,stA,unV] at hrun
    have ho7:=own_off ho6 hbut7 (fun j hj=>by
     intro e
     subst e
     cases hj)
    have hb8:=Lib.hid (hb7.trans (hbut7.below (fun i hi=>by omega) hb7.size))
    have HM7:=Lib.hid hm7
    have HO7:=Lib.hid ho7
    clear ho0 hm0 hb5 hb6 hm6 ho6 hb7 hm7 hbut7 hsz7 ho7
    go_wp2_with fail
    clear hrun
    have hrow0:=fun t=>sts_own rfl (HIE.out.rows t)
    have HRow : Hid (∀ t,∃ (A : Option Addr) (c : Nat),valM M t = .slice A (belowL N E t).length c∧StsIn wb wb.heap.size A (belowL N E t).length (belowL N E t)):=fun t=>by
     obtain ⟨A,c,q1,q2,_⟩:=hrow0 t
     exact ⟨A,c,q1,q2⟩
    have hzr : z < wb.heap.size:=by omega
    clear hrow0
    go_loopg [6,8] (N.length + 1) (fun gp v i wq=>∃ (F : List St) (SF : List (St × Unit)) (q : Nat),i = .int .i64 (q : Int)∧gp + q = N.length + 1∧q≤F.length ∧
     Hid (F.Nodup∧(∀ t∈F,Reached N E t)∧(0,0)∈F∧∀ j (hj : j < F.length),j < q→∀ t∈belowL N E F[j],t∈F)∧Hid (KMap stV unV wq (u + 1) SF)∧Hid (∀ t,(lookL SF t).isSome = decide (t∈F)) ∧
     wq.ownsRow wb.heap.size 24 2 v F.length (flat (F.map stA))∧Hid (Below wb.heap.size wb wq))
    case atStart =>
     refine ⟨[(0,0)],_,0,rfl,by omega,by simp,⟨by simp,?_,by simp,fun j hj q=>by omega⟩,HM7,fun t=>?_,HO7.out,hb8⟩
     ·intro t ht
      rw [List.mem_singleton.1 ht]
      exact hrt.out
     ·rw [look_put]
      by_cases ht : ((0,0) : St) = t
      ·rw [if_pos ht,← ht]
       simp
      ·rw [if_neg ht]
       have : ¬ t = (0,0):=fun q=>ht q.symm
       simp [lookL,this]
    case round =>
     obtain ⟨F,SF,q,rfl,hgp,hqF,hF,hS,hSl,hown,hBq⟩:=hrel
     obtain ⟨wq,hwq⟩ : ∃ x,x = wr:=⟨_,rfl⟩
     subst hwq
     obtain ⟨gp,hgpe⟩ : ∃ x,x = gk:=⟨_,rfl⟩
     subst hgpe
     clear HM7 HO7 hb8
     have hFn : F.length≤N.length:=found_few hF.out.1 hF.out.2.1
     have hFl : F.length≤1000:=by omega
     obtain ⟨Af,cf,rfl,hin,_⟩:=sts_own rfl hown
     by_cases hlt : q < F.length
     ·obtain ⟨g,o,rfl,hg,hrowF⟩:=hin.row (by omega)
      obtain ⟨f0,f1⟩:=hrowF q hlt
      have HFq : Hid (F[q]∈F):=List.getElem_mem hlt
      have hcl:=hF.out.2.2.2
      have hnext : Hid (∀ F' : List St,F <+: F'→(∀ t∈belowL N E F[q],t∈F')→∀ j (hj : j < F'.length),j < q + 1→∀ t∈belowL N E F'[j],t∈F'):=fun F' hp hl j hj hjq t ht=>by
       obtain ⟨G,rfl⟩:=hp
       have hjF : j < F.length:=by omega
       rw [List.getElem_append_left hjF] at ht
       by_cases hjq2 : j < q
       ·exact List.mem_append_left _ (hcl j hjF hjq2 t ht)
       ·obtain rfl : j = q:=by omega
        exact hl t ht
      clear hcl hrowF hin
      generalize F[q] = p at f0 f1 HFq hnext
      obtain ⟨Ab,cb,hv,hinL⟩:=HRow.out p
      have hlk : (Instr.lookup 206 (.map (some z)) (.agg #[.int .i64 p.1,.int .i64 p.2]) false).run Tryz.prog wq = .ok (.slice Ab (belowL N E p).length cb) wq:=by
       have hl:=(HIE.out.map.kept (hBq.out.block _ hzr)).look stShape Tryz.underlying206 (zeroSl wq) p false
       rw [if_neg (by decide),show ((lookL M p).map slV).getD (slV (.slice none 0 0)) = valM M p by unfold valM; cases lookL M p <;> rfl,hv] at hl
       exact hl
      have HRL : Hid (∀ t∈belowL N E p,Reached N E t):=fun t ht=>belowL_reached (hF.out.2.1 p HFq.out) ht
      have hLl : (belowL N E p).length≤1000:=by have:=belowL_len N E p; omega
      generalize belowL N E p = L at hlk HRL hLl hinL hnext
      have HIL:=Lib.hid hinL
      clear hv hinL HFq
      go_wp2_with fail
      clear hlk f0 f1
      go_loopg [6,65] (L.length + 1) (fun gl v i wi=>∃ (F' : List St) (SF' : List (St × Unit)) (j : Nat),i = .int .i64 (j : Int)∧gl + j = L.length + 1∧j≤L.length ∧
       Hid (F'.Nodup∧(∀ t∈F',Reached N E t)∧F <+: F'∧∀ t∈L.take j,t∈F')∧Hid (KMap stV unV wi (u + 1) SF')∧Hid (∀ t,(lookL SF' t).isSome = decide (t∈F')) ∧
       wi.ownsRow wb.heap.size 24 2 v F'.length (flat (F'.map stA))∧Hid (Below wb.heap.size wb wi))
      case atStart=>exact ⟨F,SF,0,rfl,by omega,by omega,⟨hF.out.1,hF.out.2.1,List.prefix_refl _,fun t ht=>by cases ht⟩,hS,hSl,hown,hBq⟩
      case round =>
       obtain ⟨F',SF',j,rfl,hgl,hj,hF',hS',hSl',hown',hBi⟩:=hrel
       have hFl' : F'.length≤1000:=by
        have:=found_few hF'.out.1 hF'.out.2.1
        omega
       by_cases hjl : j < L.length
       ·obtain ⟨ga,oa,rfl,hga,hrowL⟩:=HIL.out.row (by omega)
        obtain ⟨r0,r1⟩:=(hrowL j hjl).below hBi.out hga
        have hRt:=HRL.out L[j] (List.getElem_mem hjl)
        have htk : ∀ t,t∈L.take (j + 1)→t∈L.take j∨t = L[j]:=fun t=>take_mem hjl
        clear hrowL
        generalize L[j] = t at r0 r1 hRt htk
        have HRt:=Lib.hid hRt
        have HTk:=Lib.hid htk
        have hin':=hSl'.out t
        obtain ⟨b,hb⟩ : ∃ b,b = decide (t∈F'):=⟨_,rfl⟩
        rw [← hb] at hin'
        have HBd:=Lib.hid hb
        clear hRt htk hb
        obtain ⟨t1,t2⟩:=t
        dsimp only at r0 r1
        go_upto_region 18 with fail
        change Code.wp _ _ _ _ (wr.alloc (.cells (stA (t1,t2)) 24))
        obtain ⟨x,hx⟩ : ∃ x,x = wr.heap.size:=⟨_,rfl⟩
        have hx8 : (wr.alloc (.cells (stA (t1,t2)) 24)).heap[x]? = some (.cells (stA (t1,t2)) 24 (0,0)):=by rw [hx]; exact heap_alloc_new _ _
        have hbA : Below wr.heap.size wr (wr.alloc (.cells (stA (t1,t2)) 24)):=(Below.refl _ _).alloc (Nat.le_refl _) _
        rw [← hx]
        generalize wr.alloc (.cells (stA (t1,t2)) 24) = w8 at hx8 hbA ⊢
        have hm8:=hS'.out.kept (hbA.block _ hS'.out.lt)
        have ho8:=own_call hown' hbA
        have hb8:=hBi.out.trans (hbA.mono hBi.out.size)
        have hl:=hm8.look stShape Tryz.underlying208 (zeroUn w8) (t1,t2) true
        rw [if_pos rfl,show ((lookL SF' (t1,t2)).map unV).getD (unV ()) = .agg #[] by cases lookL SF' (t1,t2) <;> rfl,hin'] at hl
        simp only [stV,stA] at hl
        have HM8:=Lib.hid hm8
        have HB8:=Lib.hid hb8
        obtain ⟨c0,c1⟩:=two_cells hx8
        clear hS' hown' hBi hbA hx hm8 hb8 r0 r1 hin'
        cases b with
        | true =>
         go_wp2_with fail
         go_roundg (gk - 1)
         case measure=>omega
         case rel =>
          have hin2 : (t1,t2)∈F':=of_decide_eq_true HBd.out.symm
          refine ⟨F',SF',j + 1,by go_num,by omega,by omega,⟨hF'.out.1,hF'.out.2.1,hF'.out.2.2.1,fun t ht=>?_⟩,HM8.out.kept (heap_alloc_old _ _ HM8.out.lt),hSl',ho8.alloc _,HB8.out.alloc HB8.out.size _⟩
          rcases HTk.out t ht with h | h
          ·exact hF'.out.2.2.2 t h
          ·rw [h]; exact hin2
        | false =>
         go_upto_region 19 with fail
         have hbA : Below w8.heap.size w8 (w8.alloc (.cells #[] 207)):=(Below.refl _ _).alloc (Nat.le_refl _) _
         have hx9:=(hbA.block _ (heap_lt hx8)).trans hx8
         have hm9:=HM8.out.kept (hbA.block _ HM8.out.lt)
         have ho9:=own_call ho8 hbA
         have hb9:=HB8.out.trans (hbA.mono HB8.out.size)
         generalize w8.alloc (.cells #[] 207) = w9 at hx9 hm9 ho9 hb9 ⊢
         clear hl c0 c1 hx8 ho8 hbA HM8 HB8
         obtain ⟨w10,hrun,hm10,hbut,hsz⟩:=hm9.store stShape Tryz.underlying208 (t1,t2) ()
         simp only [stV,stA,unV] at hrun
         have hxu : x ≠ u + 1:=fun q=>by
          obtain ⟨es,cl,M',q1,_⟩:=hm9
          rw [← q,hx9] at q1
          cases q1
         have hx10:=hbut.heap hx9 hxu
         have ho10:=own_off ho9 hbut (own_no_map ho9 hm9)
         have hb10:=hb9.trans (hbut.below (fun i hi=>by omega) hb9.size)
         have hno:=own_no_map ho10 hm10
         have hmlt:=hm10.lt
         obtain ⟨c0,c1⟩:=two_cells hx9
         obtain ⟨d0,d1⟩:=two_cells hx10
         have HM10:=Lib.hid hm10
         have HB10:=Lib.hid hb10
         have hs10:=hb10.size
         have hm1 : F'.length + 1≤maxLen:=by unfold maxLen; omega
         clear hm9 ho9 hb9 hbut hsz hm10 hb10 hx9 hx10
         go_wp2_with (at_builtin; refine wpList_append_own _ (by rfl) (.tmp 80) (.tmp 82) 165 (by rfl) wb.heap.size 24 i0 _ 2 16 Tryz.underlying165 hi0 hz0 hz1 hz2 (by rfl) (by decide) _ _ _ (by rfl) (ho10.alloc _) ⟨w10.heap.size,0,none⟩ 1 1 (stA (t1,t2)).toList (by rfl) (by rfl) (row_there w10 24 (stA (t1,t2))) (st_one2 _) hm1 (by omega) (by simp; omega) ?_; intro v2 w11 hown11 hg11 _)
         have hown12 : w11.ownsRow wb.heap.size 24 2 v2 (F' ++ [(t1,t2)]).length (flat ((F' ++ [(t1,t2)]).map stA)):=by
          rw [List.length_append,← flat_st]
          exact hown11
         have hsA : (w10.alloc (.cells #[.int .i64 t1,.int .i64 t2] 24)).heap.size = w10.heap.size + 1:=by simp
         have hmk : w11.heap[u + 1]? = w10.heap[u + 1]?:=(hg11.block (u + 1) (by omega) (fun q=>hno _ q.symm rfl)).trans (heap_alloc_old _ _ hmlt)
         have hm11:=Lib.hid (HM10.out.kept hmk)
         have hBA:=HB10.out.alloc HB10.out.size (.cells #[.int .i64 t1,.int .i64 t2] 24)
         have hb11:=Lib.hid (hBA.grown hg11 hBA.size (fun q hq=>by have:=((ho10.alloc (.cells #[.int .i64 t1,.int .i64 t2] 24)).lt q hq).1; omega))
         have hno2 : Hid ((t1,t2) ∉ F'):=of_decide_eq_false HBd.out.symm
         clear hown11 hg11 ho10 hrun c0 c1 d0 d1 hno hBA
         go_roundg (gk - 1)
         case measure=>omega
         case rel =>
          refine ⟨F' ++ [(t1,t2)],_,j + 1,by go_num,by omega,by omega,⟨?_,fun t ht=>?_,hF'.out.2.2.1.trans (List.prefix_append _ _),fun t ht=>?_⟩,hm11,fun t=>?_,hown12,hb11⟩
          ·exact List.nodup_append.2 ⟨hF'.out.1,by simp,fun a ha b hb q=>hno2.out (by rw [← List.mem_singleton.1 hb,← q]; exact ha)⟩
          ·rcases List.mem_append.1 ht with h | h
           ·exact hF'.out.2.1 t h
           ·rw [List.mem_singleton.1 h]; exact HRt.out
          ·rcases HTk.out t ht with h | h
           ·exact List.mem_append_left _ (hF'.out.2.2.2 t h)
           ·rw [h]; simp
          ·rw [look_put]
           by_cases ht : ((t1,t2) : St) = t
           ·rw [if_pos ht,← ht]
            simp
           ·rw [if_neg ht,hSl'.out t]
            have : ¬ t = (t1,t2):=fun q=>ht q.symm
            simp [this]
       ·go_wp2_with fail
        have hpl:=hF'.out.2.2.1.length_le
        go_roundg (gp - 1)
        case measure=>omega
        case rel =>
         refine ⟨F',SF',q + 1,by go_num,by omega,by omega,⟨hF'.out.1,hF'.out.2.1,hF'.out.2.2.1.subset hF.out.2.2.1,hnext.out F' hF'.out.2.2.1 fun t ht=>hF'.out.2.2.2 t ?_⟩,hS',hSl',hown',hBi⟩
         rw [List.take_of_length_le (by omega)]
         exact ht
     ·go_wp2_with fail
      go_ret
      refine ⟨_,F,rfl,hF.out.1,fun t=>⟨hF.out.2.1 t,fun hr=>reached_closed hF.out.2.2.1 (fun s hs t ht=>?_) hr⟩,own_lower hown hB.out.size,hB.out.trans (hBq.out.mono hB.out.size)⟩
      obtain ⟨j,hj,rfl⟩:=List.getElem_of_mem hs
      exact hF.out.2.2.2 j hj (by omega) t ht

end Go.Proofs.YtdobeghbkonimaaGreatDoor

namespace Go.Proofs.YtdobeghbkonimaaGreatDoor
open Go.RowKit StampMath GraphMath OpMath

theorem any_none {α : Type} {p : α→Bool} {l : List α} (h : ∀ x∈l,p x = false) : l.any p = false:=by
 rw [List.any_eq_false]
 exact fun x hx=>by rw [h x hx]; decide

theorem any_some {α : Type} {p : α→Bool} {l : List α} {x : α} (hx : x∈l) (h : p x = true) : l.any p = true:=List.any_eq_true.2 ⟨x,hx,h⟩

theorem all_take {α : Type} {p : α→Bool} {l : List α} {k : Nat} (hk : k < l.length) (h : ∀ x∈l.take k,p x = false) (h2 : p l[k] = false) : ∀ x∈l.take (k + 1),p x = false:=by
 intro x hx
 rw [List.take_succ_eq_append_getElem hk] at hx
 rcases List.mem_append.1 hx with hx | hx
 ·exact h x hx
 ·rw [List.mem_singleton.1 hx]; exact h2

set_option maxRecDepth 100000 in
set_option maxHeartbeats 1600000 in
theorem idx_isNone (p : Ino→Bool) (A : Option Addr) (n c : Nat) (N : List Ino) (hn : n≤1000) (w : World) (h : InosIn w w.heap.size A n N)
  (hC : ∀ (x : Ino),x∈N→∀ W : World,Below w.heap.size w W→Calls Tryz.prog 144 #[.agg (inoA x)] W fun e w'=>e = .returned (.bool (p x))∧Below W.heap.size W w') :
  Calls Tryz.prog 195 #[.slice A n c,.func (.func 144) #[] #[]] w fun e w'=>∃ i : Int,e = .returned (.int .i64 i)∧decide (i ≥ 0) = N.any p∧Below w.heap.size w w':=by
 have hl:=h.len
 have HI:=Lib.hid h
 have HC:=Lib.hid hC
 clear h hC
 go_enter Tryz.func195,Tryz.ntmps195
 go_wp2_with fail
 go_loopg [8] (n + 1) (fun gk i wr=>∃ k : Nat,i = .int .i64 (k : Int)∧gk + k = n + 1∧k≤n∧Hid (∀ x∈N.take k,p x = false)∧Hid (Below w.heap.size w wr))
 case atStart=>exact ⟨0,rfl,by omega,by omega,(fun x hx=>by cases hx),Below.refl _ _⟩
 case round =>
  obtain ⟨k,rfl,hgk,hk,hno,hB⟩:=hrel
  by_cases hlt : k < n
  ·obtain ⟨g,o,rfl,hg,hrow⟩:=HI.out.row (by omega)
   have hlow:=hB.out.size
   obtain ⟨e0,e1,e2,e3,e4,e5⟩:=(hrow k (by omega)).below hB.out hg
   clear hrow
   have hx:=HC.out N[k] (List.getElem_mem (by omega)) wr hB.out
   have hno':=all_take (p:=p) (l:=N) (k:=k) (by omega)
   have hyes:=any_some (p:=p) (l:=N) (x:=N[k]) (List.getElem_mem (by omega))
   obtain ⟨v,hv⟩ : ∃ v,v = p N[k]:=⟨_,rfl⟩
   rw [← hv] at hx hno' hyes
   generalize N[k] = x at e0 e1 e2 e3 e4 e5 hx
   have HX:=Lib.hid hx
   have HN:=Lib.hid hno'
   have HY:=Lib.hid hyes
   clear hx hno' hyes hv
   unfold inoA at HX
   cases v with
   | false =>
    go_wp2_with fail
    refine HX.out.mono ?_
    rintro e w2 ⟨rfl,hb2⟩
    go_wp2_with fail
    go_roundg (gk - 1)
    case measure=>omega
    case rel=>exact ⟨k + 1,by go_num,by omega,by omega,HN.out hno.out (by simp),below_step hB.out hb2⟩
   | true =>
    go_wp2_with fail
    refine HX.out.mono ?_
    rintro e w2 ⟨rfl,hb2⟩
    go_wp2_with fail
    go_ret
    exact ⟨_,rfl,by rw [HY.out (by simp)]; exact decide_eq_true (by omega),below_step hB.out hb2⟩
  ·go_wp2_with fail
   go_ret
   exact ⟨_,rfl,by rw [any_none (p:=p) (l:=N) (fun x hx=>hno.out x (by rw [List.take_of_length_le (by omega)]; exact hx))]; rfl,hB.out⟩

set_option maxRecDepth 100000 in
theorem has_isNone (p : Ino→Bool) (A : Option Addr) (n c : Nat) (N : List Ino) (hn : n≤1000) (w : World) (h : InosIn w w.heap.size A n N)
  (hC : ∀ (x : Ino),x∈N→∀ W : World,Below w.heap.size w W→Calls Tryz.prog 144 #[.agg (inoA x)] W fun e w'=>e = .returned (.bool (p x))∧Below W.heap.size W w') :
  Calls Tryz.prog 143 #[.slice A n c,.func (.func 144) #[] #[]] w fun e w'=>e = .returned (.bool (N.any p))∧Below w.heap.size w w':=by
 have HX:=Lib.hid (idx_isNone p A n c N hn w h hC)
 clear h hC
 generalize N.any p = v at HX ⊢
 go_enter Tryz.func143,Tryz.ntmps143
 go_wp2_with fail
 refine HX.out.mono ?_
 rintro e w2 ⟨i,rfl,hi,hb2⟩
 cases v with
 | false =>
  have hi':=of_decide_eq_false hi
  clear hi
  go_wp2_with fail
  go_ret
  exact ⟨by first | rfl | simp <;> omega,hb2⟩
 | true =>
  have hi':=of_decide_eq_true hi
  clear hi
  go_wp2_with fail
  go_ret
  exact ⟨by first | rfl | simp <;> omega,hb2⟩

set_option maxRecDepth 100000 in
set_option maxHeartbeats 1600000 in
theorem idx_nameless (p : Ent→Bool) (A : Option Addr) (n c : Nat) (N : List Ent) (hn : n≤1000) (w : World) (h : EntsIn w w.heap.size A n N)
  (hC : ∀ (x : Ent),x∈N→∀ W : World,Below w.heap.size w W→Calls Tryz.prog 146 #[.agg (entA x)] W fun e w'=>e = .returned (.bool (p x))∧Below W.heap.size W w') :
  Calls Tryz.prog 196 #[.slice A n c,.func (.func 146) #[] #[]] w fun e w'=>∃ i : Int,e = .returned (.int .i64 i)∧decide (i ≥ 0) = N.any p∧Below w.heap.size w w':=by
 have hl:=h.len
 have HI:=Lib.hid h
 have HC:=Lib.hid hC
 clear h hC
 go_enter Tryz.func196,Tryz.ntmps196
 go_wp2_with fail
 go_loopg [8] (n + 1) (fun gk i wr=>∃ k : Nat,i = .int .i64 (k : Int)∧gk + k = n + 1∧k≤n∧Hid (∀ x∈N.take k,p x = false)∧Hid (Below w.heap.size w wr))
 case atStart=>exact ⟨0,rfl,by omega,by omega,(fun x hx=>by cases hx),Below.refl _ _⟩
 case round =>
  obtain ⟨k,rfl,hgk,hk,hno,hB⟩:=hrel
  by_cases hlt : k < n
  ·obtain ⟨g,o,rfl,hg,hrow⟩:=HI.out.row (by omega)
   have hlow:=hB.out.size
   obtain ⟨e0,e1,e2,e3,e4⟩:=(hrow k (by omega)).below hB.out hg
   clear hrow
   have hx:=HC.out N[k] (List.getElem_mem (by omega)) wr hB.out
   have hno':=all_take (p:=p) (l:=N) (k:=k) (by omega)
   have hyes:=any_some (p:=p) (l:=N) (x:=N[k]) (List.getElem_mem (by omega))
   obtain ⟨v,hv⟩ : ∃ v,v = p N[k]:=⟨_,rfl⟩
   rw [← hv] at hx hno' hyes
   generalize N[k] = x at e0 e1 e2 e3 e4 hx
   have HX:=Lib.hid hx
   have HN:=Lib.hid hno'
   have HY:=Lib.hid hyes
   clear hx hno' hyes hv
   unfold entA at HX
   cases v with
   | false =>
    go_wp2_with fail
    refine HX.out.mono ?_
    rintro e w2 ⟨rfl,hb2⟩
    go_wp2_with fail
    go_roundg (gk - 1)
    case measure=>omega
    case rel=>exact ⟨k + 1,by go_num,by omega,by omega,HN.out hno.out (by simp),below_step hB.out hb2⟩
   | true =>
    go_wp2_with fail
    refine HX.out.mono ?_
    rintro e w2 ⟨rfl,hb2⟩
    go_wp2_with fail
    go_ret
    exact ⟨_,rfl,by rw [HY.out (by simp)]; exact decide_eq_true (by omega),below_step hB.out hb2⟩
  ·go_wp2_with fail
   go_ret
   exact ⟨_,rfl,by rw [any_none (p:=p) (l:=N) (fun x hx=>hno.out x (by rw [List.take_of_length_le (by omega)]; exact hx))]; rfl,hB.out⟩

set_option maxRecDepth 100000 in
theorem has_nameless (p : Ent→Bool) (A : Option Addr) (n c : Nat) (N : List Ent) (hn : n≤1000) (w : World) (h : EntsIn w w.heap.size A n N)
  (hC : ∀ (x : Ent),x∈N→∀ W : World,Below w.heap.size w W→Calls Tryz.prog 146 #[.agg (entA x)] W fun e w'=>e = .returned (.bool (p x))∧Below W.heap.size W w') :
  Calls Tryz.prog 145 #[.slice A n c,.func (.func 146) #[] #[]] w fun e w'=>e = .returned (.bool (N.any p))∧Below w.heap.size w w':=by
 have HX:=Lib.hid (idx_nameless p A n c N hn w h hC)
 clear h hC
 generalize N.any p = v at HX ⊢
 go_enter Tryz.func145,Tryz.ntmps145
 go_wp2_with fail
 refine HX.out.mono ?_
 rintro e w2 ⟨i,rfl,hi,hb2⟩
 cases v with
 | false =>
  have hi':=of_decide_eq_false hi
  clear hi
  go_wp2_with fail
  go_ret
  exact ⟨by first | rfl | simp <;> omega,hb2⟩
 | true =>
  have hi':=of_decide_eq_true hi
  clear hi
  go_wp2_with fail
  go_ret
  exact ⟨by first | rfl | simp <;> omega,hb2⟩

set_option maxRecDepth 100000 in
set_option maxHeartbeats 1600000 in
theorem idx_lost (g0 : Nat) (p : Ent→Bool) (A : Option Addr) (n c : Nat) (N : List Ent) (hn : n≤1000) (w : World) (h : EntsIn w w.heap.size A n N)
  (hC : ∀ (x : Ent),x∈N→∀ W : World,Below w.heap.size w W→Calls Tryz.prog 147 #[.agg (entA x),.pointer (some ⟨g0,0,none⟩)] W fun e w'=>e = .returned (.bool (p x))∧Below W.heap.size W w') :
  Calls Tryz.prog 196 #[.slice A n c,.func (.func 147) #[] #[.pointer (some ⟨g0,0,none⟩)]] w fun e w'=>∃ i : Int,e = .returned (.int .i64 i)∧decide (i ≥ 0) = N.any p∧Below w.heap.size w w':=by
 have hl:=h.len
 have HI:=Lib.hid h
 have HC:=Lib.hid hC
 clear h hC
 go_enter Tryz.func196,Tryz.ntmps196
 go_wp2_with fail
 go_loopg [8] (n + 1) (fun gk i wr=>∃ k : Nat,i = .int .i64 (k : Int)∧gk + k = n + 1∧k≤n∧Hid (∀ x∈N.take k,p x = false)∧Hid (Below w.heap.size w wr))
 case atStart=>exact ⟨0,rfl,by omega,by omega,(fun x hx=>by cases hx),Below.refl _ _⟩
 case round =>
  obtain ⟨k,rfl,hgk,hk,hno,hB⟩:=hrel
  by_cases hlt : k < n
  ·obtain ⟨g,o,rfl,hg,hrow⟩:=HI.out.row (by omega)
   have hlow:=hB.out.size
   obtain ⟨e0,e1,e2,e3,e4⟩:=(hrow k (by omega)).below hB.out hg
   clear hrow
   have hx:=HC.out N[k] (List.getElem_mem (by omega)) wr hB.out
   have hno':=all_take (p:=p) (l:=N) (k:=k) (by omega)
   have hyes:=any_some (p:=p) (l:=N) (x:=N[k]) (List.getElem_mem (by omega))
   obtain ⟨v,hv⟩ : ∃ v,v = p N[k]:=⟨_,rfl⟩
   rw [← hv] at hx hno' hyes
   generalize N[k] = x at e0 e1 e2 e3 e4 hx
   have HX:=Lib.hid hx
   have HN:=Lib.hid hno'
   have HY:=Lib.hid hyes
   clear hx hno' hyes hv
   unfold entA at HX
   cases v with
   | false =>
    go_wp2_with fail
    refine HX.out.mono ?_
    rintro e w2 ⟨rfl,hb2⟩
    go_wp2_with fail
    go_roundg (gk - 1)
    case measure=>omega
    case rel=>exact ⟨k + 1,by go_num,by omega,by omega,HN.out hno.out (by simp),below_step hB.out hb2⟩
   | true =>
    go_wp2_with fail
    refine HX.out.mono ?_
    rintro e w2 ⟨rfl,hb2⟩
    go_wp2_with fail
    go_ret
    exact ⟨_,rfl,by rw [HY.out (by simp)]; exact decide_eq_true (by omega),below_step hB.out hb2⟩
  ·go_wp2_with fail
   go_ret
   exact ⟨_,rfl,by rw [any_none (p:=p) (l:=N) (fun x hx=>hno.out x (by rw [List.take_of_length_le (by omega)]; exact hx))]; rfl,hB.out⟩

set_option maxRecDepth 100000 in
theorem has_lost (g0 : Nat) (p : Ent→Bool) (A : Option Addr) (n c : Nat) (N : List Ent) (hn : n≤1000) (w : World) (h : EntsIn w w.heap.size A n N)
  (hC : ∀ (x : Ent),x∈N→∀ W : World,Below w.heap.size w W→Calls Tryz.prog 147 #[.agg (entA x),.pointer (some ⟨g0,0,none⟩)] W fun e w'=>e = .returned (.bool (p x))∧Below W.heap.size W w') :
  Calls Tryz.prog 145 #[.slice A n c,.func (.func 147) #[] #[.pointer (some ⟨g0,0,none⟩)]] w fun e w'=>e = .returned (.bool (N.any p))∧Below w.heap.size w w':=by
 have HX:=Lib.hid (idx_lost g0 p A n c N hn w h hC)
 clear h hC
 generalize N.any p = v at HX ⊢
 go_enter Tryz.func145,Tryz.ntmps145
 go_wp2_with fail
 refine HX.out.mono ?_
 rintro e w2 ⟨i,rfl,hi,hb2⟩
 cases v with
 | false =>
  have hi':=of_decide_eq_false hi
  clear hi
  go_wp2_with fail
  go_ret
  exact ⟨by first | rfl | simp <;> omega,hb2⟩
 | true =>
  have hi':=of_decide_eq_true hi
  clear hi
  go_wp2_with fail
  go_ret
  exact ⟨by first | rfl | simp <;> omega,hb2⟩

set_option maxRecDepth 100000 in
set_option maxHeartbeats 1600000 in
theorem idx_miscounted (g0 : Nat) (p : Ino→Bool) (A : Option Addr) (n c : Nat) (N : List Ino) (hn : n≤1000) (w : World) (h : InosIn w w.heap.size A n N)
  (hC : ∀ (x : Ino),x∈N→∀ W : World,Below w.heap.size w W→Calls Tryz.prog 149 #[.agg (inoA x),.pointer (some ⟨g0,0,none⟩)] W fun e w'=>e = .returned (.bool (p x))∧Below W.heap.size W w') :
  Calls Tryz.prog 195 #[.slice A n c,.func (.func 149) #[] #[.pointer (some ⟨g0,0,none⟩)]] w fun e w'=>∃ i : Int,e = .returned (.int .i64 i)∧decide (i ≥ 0) = N.any p∧Below w.heap.size w w':=by
 have hl:=h.len
 have HI:=Lib.hid h
 have HC:=Lib.hid hC
 clear h hC
 go_enter Tryz.func195,Tryz.ntmps195
 go_wp2_with fail
 go_loopg [8] (n + 1) (fun gk i wr=>∃ k : Nat,i = .int .i64 (k : Int)∧gk + k = n + 1∧k≤n∧Hid (∀ x∈N.take k,p x = false)∧Hid (Below w.heap.size w wr))
 case atStart=>exact ⟨0,rfl,by omega,by omega,(fun x hx=>by cases hx),Below.refl _ _⟩
 case round =>
  obtain ⟨k,rfl,hgk,hk,hno,hB⟩:=hrel
  by_cases hlt : k < n
  ·obtain ⟨g,o,rfl,hg,hrow⟩:=HI.out.row (by omega)
   have hlow:=hB.out.size
   obtain ⟨e0,e1,e2,e3,e4,e5⟩:=(hrow k (by omega)).below hB.out hg
   clear hrow
   have hx:=HC.out N[k] (List.getElem_mem (by omega)) wr hB.out
   have hno':=all_take (p:=p) (l:=N) (k:=k) (by omega)
   have hyes:=any_some (p:=p) (l:=N) (x:=N[k]) (List.getElem_mem (by omega))
   obtain ⟨v,hv⟩ : ∃ v,v = p N[k]:=⟨_,rfl⟩
   rw [← hv] at hx hno' hyes
   generalize N[k] = x at e0 e1 e2 e3 e4 e5 hx
   have HX:=Lib.hid hx
   have HN:=Lib.hid hno'
   have HY:=Lib.hid hyes
   clear hx hno' hyes hv
   unfold inoA at HX
   cases v with
   | false =>
    go_wp2_with fail
    refine HX.out.mono ?_
    rintro e w2 ⟨rfl,hb2⟩
    go_wp2_with fail
    go_roundg (gk - 1)
    case measure=>omega
    case rel=>exact ⟨k + 1,by go_num,by omega,by omega,HN.out hno.out (by simp),below_step hB.out hb2⟩
   | true =>
    go_wp2_with fail
    refine HX.out.mono ?_
    rintro e w2 ⟨rfl,hb2⟩
    go_wp2_with fail
    go_ret
    exact ⟨_,rfl,by rw [HY.out (by simp)]; exact decide_eq_true (by omega),below_step hB.out hb2⟩
  ·go_wp2_with fail
   go_ret
   exact ⟨_,rfl,by rw [any_none (p:=p) (l:=N) (fun x hx=>hno.out x (by rw [List.take_of_length_le (by omega)]; exact hx))]; rfl,hB.out⟩

set_option maxRecDepth 100000 in
theorem has_miscounted (g0 : Nat) (p : Ino→Bool) (A : Option Addr) (n c : Nat) (N : List Ino) (hn : n≤1000) (w : World) (h : InosIn w w.heap.size A n N)
  (hC : ∀ (x : Ino),x∈N→∀ W : World,Below w.heap.size w W→Calls Tryz.prog 149 #[.agg (inoA x),.pointer (some ⟨g0,0,none⟩)] W fun e w'=>e = .returned (.bool (p x))∧Below W.heap.size W w') :
  Calls Tryz.prog 143 #[.slice A n c,.func (.func 149) #[] #[.pointer (some ⟨g0,0,none⟩)]] w fun e w'=>e = .returned (.bool (N.any p))∧Below w.heap.size w w':=by
 have HX:=Lib.hid (idx_miscounted g0 p A n c N hn w h hC)
 clear h hC
 generalize N.any p = v at HX ⊢
 go_enter Tryz.func143,Tryz.ntmps143
 go_wp2_with fail
 refine HX.out.mono ?_
 rintro e w2 ⟨i,rfl,hi,hb2⟩
 cases v with
 | false =>
  have hi':=of_decide_eq_false hi
  clear hi
  go_wp2_with fail
  go_ret
  exact ⟨by first | rfl | simp <;> omega,hb2⟩
 | true =>
  have hi':=of_decide_eq_true hi
  clear hi
  go_wp2_with fail
  go_ret
  exact ⟨by first | rfl | simp <;> omega,hb2⟩

set_option maxRecDepth 100000 in
set_option maxHeartbeats 1600000 in
theorem idx_mislinked (g0 : Nat) (p : Ino→Bool) (A : Option Addr) (n c : Nat) (N : List Ino) (hn : n≤1000) (w : World) (h : InosIn w w.heap.size A n N)
  (hC : ∀ (x : Ino),x∈N→∀ W : World,Below w.heap.size w W→Calls Tryz.prog 150 #[.agg (inoA x),.pointer (some ⟨g0,0,none⟩)] W fun e w'=>e = .returned (.bool (p x))∧Below W.heap.size W w') :
  Calls Tryz.prog 195 #[.slice A n c,.func (.func 150) #[] #[.pointer (some ⟨g0,0,none⟩)]] w fun e w'=>∃ i : Int,e = .returned (.int .i64 i)∧decide (i ≥ 0) = N.any p∧Below w.heap.size w w':=by
 have hl:=h.len
 have HI:=Lib.hid h
 have HC:=Lib.hid hC
 clear h hC
 go_enter Tryz.func195,Tryz.ntmps195
 go_wp2_with fail
 go_loopg [8] (n + 1) (fun gk i wr=>∃ k : Nat,i = .int .i64 (k : Int)∧gk + k = n + 1∧k≤n∧Hid (∀ x∈N.take k,p x = false)∧Hid (Below w.heap.size w wr))
 case atStart=>exact ⟨0,rfl,by omega,by omega,(fun x hx=>by cases hx),Below.refl _ _⟩
 case round =>
  obtain ⟨k,rfl,hgk,hk,hno,hB⟩:=hrel
  by_cases hlt : k < n
  ·obtain ⟨g,o,rfl,hg,hrow⟩:=HI.out.row (by omega)
   have hlow:=hB.out.size
   obtain ⟨e0,e1,e2,e3,e4,e5⟩:=(hrow k (by omega)).below hB.out hg
   clear hrow
   have hx:=HC.out N[k] (List.getElem_mem (by omega)) wr hB.out
   have hno':=all_take (p:=p) (l:=N) (k:=k) (by omega)
   have hyes:=any_some (p:=p) (l:=N) (x:=N[k]) (List.getElem_mem (by omega))
   obtain ⟨v,hv⟩ : ∃ v,v = p N[k]:=⟨_,rfl⟩
   rw [← hv] at hx hno' hyes
   generalize N[k] = x at e0 e1 e2 e3 e4 e5 hx
   have HX:=Lib.hid hx
   have HN:=Lib.hid hno'
   have HY:=Lib.hid hyes
   clear hx hno' hyes hv
   unfold inoA at HX
   cases v with
   | false =>
    go_wp2_with fail
    refine HX.out.mono ?_
    rintro e w2 ⟨rfl,hb2⟩
    go_wp2_with fail
    go_roundg (gk - 1)
    case measure=>omega
    case rel=>exact ⟨k + 1,by go_num,by omega,by omega,HN.out hno.out (by simp),below_step hB.out hb2⟩
   | true =>
    go_wp2_with fail
    refine HX.out.mono ?_
    rintro e w2 ⟨rfl,hb2⟩
    go_wp2_with fail
    go_ret
    exact ⟨_,rfl,by rw [HY.out (by simp)]; exact decide_eq_true (by omega),below_step hB.out hb2⟩
  ·go_wp2_with fail
   go_ret
   exact ⟨_,rfl,by rw [any_none (p:=p) (l:=N) (fun x hx=>hno.out x (by rw [List.take_of_length_le (by omega)]; exact hx))]; rfl,hB.out⟩

set_option maxRecDepth 100000 in
theorem has_mislinked (g0 : Nat) (p : Ino→Bool) (A : Option Addr) (n c : Nat) (N : List Ino) (hn : n≤1000) (w : World) (h : InosIn w w.heap.size A n N)
  (hC : ∀ (x : Ino),x∈N→∀ W : World,Below w.heap.size w W→Calls Tryz.prog 150 #[.agg (inoA x),.pointer (some ⟨g0,0,none⟩)] W fun e w'=>e = .returned (.bool (p x))∧Below W.heap.size W w') :
  Calls Tryz.prog 143 #[.slice A n c,.func (.func 150) #[] #[.pointer (some ⟨g0,0,none⟩)]] w fun e w'=>e = .returned (.bool (N.any p))∧Below w.heap.size w w':=by
 have HX:=Lib.hid (idx_mislinked g0 p A n c N hn w h hC)
 clear h hC
 generalize N.any p = v at HX ⊢
 go_enter Tryz.func143,Tryz.ntmps143
 go_wp2_with fail
 refine HX.out.mono ?_
 rintro e w2 ⟨i,rfl,hi,hb2⟩
 cases v with
 | false =>
  have hi':=of_decide_eq_false hi
  clear hi
  go_wp2_with fail
  go_ret
  exact ⟨by first | rfl | simp <;> omega,hb2⟩
 | true =>
  have hi':=of_decide_eq_true hi
  clear hi
  go_wp2_with fail
  go_ret
  exact ⟨by first | rfl | simp <;> omega,hb2⟩

set_option maxRecDepth 100000 in
set_option maxHeartbeats 1600000 in
theorem idx_tooMuch (p : Ino→Bool) (A : Option Addr) (n c : Nat) (N : List Ino) (hn : n≤1000) (w : World) (h : InosIn w w.heap.size A n N)
  (hC : ∀ (x : Ino),x∈N→∀ W : World,Below w.heap.size w W→Calls Tryz.prog 153 #[.agg (inoA x)] W fun e w'=>e = .returned (.bool (p x))∧Below W.heap.size W w') :
  Calls Tryz.prog 195 #[.slice A n c,.func (.func 153) #[] #[]] w fun e w'=>∃ i : Int,e = .returned (.int .i64 i)∧decide (i ≥ 0) = N.any p∧Below w.heap.size w w':=by
 have hl:=h.len
 have HI:=Lib.hid h
 have HC:=Lib.hid hC
 clear h hC
 go_enter Tryz.func195,Tryz.ntmps195
 go_wp2_with fail
 go_loopg [8] (n + 1) (fun gk i wr=>∃ k : Nat,i = .int .i64 (k : Int)∧gk + k = n + 1∧k≤n∧Hid (∀ x∈N.take k,p x = false)∧Hid (Below w.heap.size w wr))
 case atStart=>exact ⟨0,rfl,by omega,by omega,(fun x hx=>by cases hx),Below.refl _ _⟩
 case round =>
  obtain ⟨k,rfl,hgk,hk,hno,hB⟩:=hrel
  by_cases hlt : k < n
  ·obtain ⟨g,o,rfl,hg,hrow⟩:=HI.out.row (by omega)
   have hlow:=hB.out.size
   obtain ⟨e0,e1,e2,e3,e4,e5⟩:=(hrow k (by omega)).below hB.out hg
   clear hrow
   have hx:=HC.out N[k] (List.getElem_mem (by omega)) wr hB.out
   have hno':=all_take (p:=p) (l:=N) (k:=k) (by omega)
   have hyes:=any_some (p:=p) (l:=N) (x:=N[k]) (List.getElem_mem (by omega))
   obtain ⟨v,hv⟩ : ∃ v,v = p N[k]:=⟨_,rfl⟩
   rw [← hv] at hx hno' hyes
   generalize N[k] = x at e0 e1 e2 e3 e4 e5 hx
   have HX:=Lib.hid hx
   have HN:=Lib.hid hno'
   have HY:=Lib.hid hyes
   clear hx hno' hyes hv
   unfold inoA at HX
   cases v with
   | false =>
    go_wp2_with fail
    refine HX.out.mono ?_
    rintro e w2 ⟨rfl,hb2⟩
    go_wp2_with fail
    go_roundg (gk - 1)
    case measure=>omega
    case rel=>exact ⟨k + 1,by go_num,by omega,by omega,HN.out hno.out (by simp),below_step hB.out hb2⟩
   | true =>
    go_wp2_with fail
    refine HX.out.mono ?_
    rintro e w2 ⟨rfl,hb2⟩
    go_wp2_with fail
    go_ret
    exact ⟨_,rfl,by rw [HY.out (by simp)]; exact decide_eq_true (by omega),below_step hB.out hb2⟩
  ·go_wp2_with fail
   go_ret
   exact ⟨_,rfl,by rw [any_none (p:=p) (l:=N) (fun x hx=>hno.out x (by rw [List.take_of_length_le (by omega)]; exact hx))]; rfl,hB.out⟩

set_option maxRecDepth 100000 in
theorem has_tooMuch (p : Ino→Bool) (A : Option Addr) (n c : Nat) (N : List Ino) (hn : n≤1000) (w : World) (h : InosIn w w.heap.size A n N)
  (hC : ∀ (x : Ino),x∈N→∀ W : World,Below w.heap.size w W→Calls Tryz.prog 153 #[.agg (inoA x)] W fun e w'=>e = .returned (.bool (p x))∧Below W.heap.size W w') :
  Calls Tryz.prog 143 #[.slice A n c,.func (.func 153) #[] #[]] w fun e w'=>e = .returned (.bool (N.any p))∧Below w.heap.size w w':=by
 have HX:=Lib.hid (idx_tooMuch p A n c N hn w h hC)
 clear h hC
 generalize N.any p = v at HX ⊢
 go_enter Tryz.func143,Tryz.ntmps143
 go_wp2_with fail
 refine HX.out.mono ?_
 rintro e w2 ⟨i,rfl,hi,hb2⟩
 cases v with
 | false =>
  have hi':=of_decide_eq_false hi
  clear hi
  go_wp2_with fail
  go_ret
  exact ⟨by first | rfl | simp <;> omega,hb2⟩
 | true =>
  have hi':=of_decide_eq_true hi
  clear hi
  go_wp2_with fail
  go_ret
  exact ⟨by first | rfl | simp <;> omega,hb2⟩

end Go.Proofs.YtdobeghbkonimaaGreatDoor

namespace Go.Proofs.YtdobeghbkonimaaGreatDoor
open Go.RowKit StampMath GraphMath OpMath

set_option maxRecDepth 100000 in
set_option maxHeartbeats 1600000 in
theorem auAhead_grown (x y : Ent) (w : World) :
    Calls Tryz.prog 140 #[.agg (entA x), .agg (entA y)] w fun e w' => e = .returned (.int .i64 (aheadI x y)) ∧ Grown w w' := by
  have hv : or2 (cmp x.dir.1 x.dir.2 y.dir.1 y.dir.2) (cmpB x.name.data.toList y.name.data.toList) = aheadI x y := rfl
  obtain ⟨⟨xd1, xd2⟩, xn, ⟨xi1, xi2⟩⟩ := x
  obtain ⟨⟨yd1, yd2⟩, yn, ⟨yi1, yi2⟩⟩ := y
  unfold entA
  obtain ⟨c, hc⟩ : ∃ c, c = cmp xd1 xd2 yd1 yd2 := ⟨_, rfl⟩
  obtain ⟨k, hk⟩ : ∃ k, k = cmpB xn.data.toList yn.data.toList := ⟨_, rfl⟩
  simp only [← hc, ← hk] at hv
  have HC : Hid (∀ W : World, Calls Tryz.prog 40 #[.agg #[.int .i64 xd1, .int .i64 xd2], .agg #[.int .i64 yd1, .int .i64 yd2]] W fun e w' => e = .returned (.int .i64 c) ∧ Grown W w') := fun W => by rw [hc]; exact compare_grown _ _ _ _ W
  have HK : Hid (∀ W : World, Calls Tryz.prog 136 #[.string xn, .string yn] W fun e w' => e = .returned (.int .i64 k) ∧ W = w') := fun W => by rw [hk]; exact compareStr _ _ W
  have HV := Lib.hid hv
  clear hv hc hk
  go_enter Tryz.func140, Tryz.ntmps140
  go_wp2_with fail
  have hS0 : (((w.alloc (.cells #[.int .i64 xd1, .int .i64 xd2, .string xn, .int .i64 xi1, .int .i64 xi2] 89)).alloc (.cells #[.int .i64 yd1, .int .i64 yd2, .string yn, .int .i64 yi1, .int .i64 yi2] 89)).drew.cell? ⟨w.heap.size, 0, none⟩ = some (.int .i64 xd1) ∧ ((w.alloc (.cells #[.int .i64 xd1, .int .i64 xd2, .string xn, .int .i64 xi1, .int .i64 xi2] 89)).alloc (.cells #[.int .i64 yd1, .int .i64 yd2, .string yn, .int .i64 yi1, .int .i64 yi2] 89)).drew.cell? ⟨w.heap.size, 1, none⟩ = some (.int .i64 xd2) ∧ ((w.alloc (.cells #[.int .i64 xd1, .int .i64 xd2, .string xn, .int .i64 xi1, .int .i64 xi2] 89)).alloc (.cells #[.int .i64 yd1, .int .i64 yd2, .string yn, .int .i64 yi1, .int .i64 yi2] 89)).drew.cell? ⟨w.heap.size, 2, none⟩ = some (.string xn) ∧ ((w.alloc (.cells #[.int .i64 xd1, .int .i64 xd2, .string xn, .int .i64 xi1, .int .i64 xi2] 89)).alloc (.cells #[.int .i64 yd1, .int .i64 yd2, .string yn, .int .i64 yi1, .int .i64 yi2] 89)).drew.cell? ⟨w.heap.size + 1, 0, none⟩ = some (.int .i64 yd1) ∧ ((w.alloc (.cells #[.int .i64 xd1, .int .i64 xd2, .string xn, .int .i64 xi1, .int .i64 xi2] 89)).alloc (.cells #[.int .i64 yd1, .int .i64 yd2, .string yn, .int .i64 yi1, .int .i64 yi2] 89)).drew.cell? ⟨w.heap.size + 1, 1, none⟩ = some (.int .i64 yd2) ∧ ((w.alloc (.cells #[.int .i64 xd1, .int .i64 xd2, .string xn, .int .i64 xi1, .int .i64 xi2] 89)).alloc (.cells #[.int .i64 yd1, .int .i64 yd2, .string yn, .int .i64 yi1, .int .i64 yi2] 89)).drew.cell? ⟨w.heap.size + 1, 2, none⟩ = some (.string yn)) ∧ Grown w ((w.alloc (.cells #[.int .i64 xd1, .int .i64 xd2, .string xn, .int .i64 xi1, .int .i64 xi2] 89)).alloc (.cells #[.int .i64 yd1, .int .i64 yd2, .string yn, .int .i64 yi1, .int .i64 yi2] 89)).drew := by
    refine ⟨⟨?_, ?_, ?_, ?_, ?_, ?_⟩, (((Grown.refl _).alloc _).alloc _).drew⟩
    · exact cell_of_row _ _ 0 _ _ (0, 0) (heap_alloc2_old w _ _)
    · exact cell_of_row _ _ 1 _ _ (0, 0) (heap_alloc2_old w _ _)
    · exact cell_of_row _ _ 2 _ _ (0, 0) (heap_alloc2_old w _ _)
    · exact cell_of_row _ _ 0 _ _ (0, 0) (heap_alloc2_new w _ _)
    · exact cell_of_row _ _ 1 _ _ (0, 0) (heap_alloc2_new w _ _)
    · exact cell_of_row _ _ 2 _ _ (0, 0) (heap_alloc2_new w _ _)
  go_region_held3 (fun W => (W.cell? ⟨w.heap.size, 0, none⟩ = some (.int .i64 xd1) ∧ W.cell? ⟨w.heap.size, 1, none⟩ = some (.int .i64 xd2) ∧ W.cell? ⟨w.heap.size, 2, none⟩ = some (.string xn) ∧ W.cell? ⟨w.heap.size + 1, 0, none⟩ = some (.int .i64 yd1) ∧ W.cell? ⟨w.heap.size + 1, 1, none⟩ = some (.int .i64 yd2) ∧ W.cell? ⟨w.heap.size + 1, 2, none⟩ = some (.string yn)) ∧ Grown w W) (first | assumption | exact cells6_alloc _ (by assumption) | (refine ⟨⟨?_, ?_, ?_, ?_, ?_, ?_⟩, ?_⟩ <;> assumption))
    (first
      | (go_at_call 40; (with_reducible refine (HC.out _).mono ?_); rintro e w' ⟨rfl, hg⟩; have hS := cells6_later hg ‹(_ ∧ _ ∧ _ ∧ _ ∧ _ ∧ _) ∧ Grown w _›)
      | (go_at_call 136; (with_reducible refine (HK.out _).mono ?_); rintro e w' ⟨rfl, rfl⟩; have hS := ‹(_ ∧ _ ∧ _ ∧ _ ∧ _ ∧ _) ∧ Grown w _›)
      | (go_at_call 68; refine (or_any _ c k _ ?_ ?_).mono ?_; exact (cell_two _ _ _ _).1; exact (cell_two _ _ _ _).2; rintro e w' ⟨rfl, rfl⟩; have hS := ‹(_ ∧ _ ∧ _ ∧ _ ∧ _ ∧ _) ∧ Grown w _›))
  have hB := (show Grown w _ from And.right ‹(_ ∧ _ ∧ _ ∧ _ ∧ _ ∧ _) ∧ Grown w _›)
  clear hS0
  go_wp2_with fail
  go_ret
  exact ⟨by rw [← HV.out]; rfl, hB⟩

set_option maxRecDepth 100000 in
theorem auIno_code (x y : Ino) (w : World) :
  Calls Tryz.prog 138 #[.agg (inoA x),.agg (inoA y)] w fun e w'=>e = .returned (.int .i64 (inoI x y))∧Below w.heap.size w w':=by
 obtain ⟨⟨xd1,xd2⟩,xk,xl,xm,xd⟩:=x
 obtain ⟨⟨yd1,yd2⟩,yk,yl,ym,yd⟩:=y
 unfold inoA inoI
 obtain ⟨c,hc⟩ : ∃ c,c = cmp xd1 xd2 yd1 yd2:=⟨_,rfl⟩
 simp only [← hc]
 have HC : Hid (∀ W : World,Calls Tryz.prog 40 #[.agg #[.int .i64 xd1,.int .i64 xd2],.agg #[.int .i64 yd1,.int .i64 yd2]] W fun e w'=>e = .returned (.int .i64 c)∧Grown W w'):=fun W=>by rw [hc]; exact compare_grown _ _ _ _ W
 clear hc
 go_enter Tryz.func138,Tryz.ntmps138
 go_wp2_with fail
 refine (HC.out _).mono ?_
 rintro e w1 ⟨rfl,hg1⟩
 go_wp2_with fail
 go_ret
 exact ⟨rfl,((((Grown.refl _).alloc _).alloc _).trans hg1).1⟩

theorem auAhead_code (x y : Ent) (w : World) :
  Calls Tryz.prog 140 #[.agg (entA x),.agg (entA y)] w fun e w'=>e = .returned (.int .i64 (aheadI x y))∧Below w.heap.size w w':=(auAhead_grown x y w).mono fun _ _ h=>⟨h.1,h.2.1⟩

theorem pair_of_next {α : Type} {r : α→α→Prop} (tr : ∀ a b c,r a b→r b c→r a c) {l : List α} (h : ∀ i (hi : i + 1 < l.length),r l[i] l[i + 1]) : l.Pairwise r:=by
 rw [List.pairwise_iff_getElem]
 intro i j hi hj hij
 obtain ⟨d,rfl⟩ : ∃ d,j = i + 1 + d:=⟨j - (i + 1),by omega⟩
 induction d with
 | zero=>exact h i hj
 | succ d ih=>exact tr _ _ _ (ih (by omega) (by omega)) (h (i + 1 + d) hj)

theorem next_of_pair {α : Type} {r : α→α→Prop} {l : List α} (h : l.Pairwise r) {i : Nat} (hi : i + 1 < l.length) : r l[i] l[i + 1]:=List.pairwise_iff_getElem.1 h i (i + 1) (by omega) hi (by omega)

set_option maxRecDepth 100000 in
set_option maxHeartbeats 1600000 in
theorem risesI_code (A : Option Addr) (n c : Nat) (N : List Ino) (hn : n≤1000) (w : World) (h : InosIn w w.heap.size A n N) :
  Calls Tryz.prog 137 #[.slice A n c,.func (.func 138) #[] #[]] w fun e w'=>e = .returned (.bool (decide (N.Pairwise fun a b=>lessS a.id b.id = true)))∧Below w.heap.size w w':=by
 obtain ⟨B,hBd⟩ : ∃ B,B = decide (N.Pairwise fun a b=>lessS a.id b.id = true):=⟨_,rfl⟩
 rw [← hBd]
 have HBd:=Lib.hid hBd
 clear hBd
 have hl:=h.len
 have HI:=Lib.hid h
 clear h
 have HT : Hid (∀ a b c : Ino,lessS a.id b.id = true→lessS b.id c.id = true→lessS a.id c.id = true):=fun a b c=>lessS_trans
 go_enter Tryz.func137,Tryz.ntmps137
 go_wp2_with fail
 go_loopg [5] (n + 2) (fun gk i wr=>∃ k : Nat,i = .int .i64 (k : Int)∧gk + k = n + 3∧0 < k∧k≤n + 1∧Hid (∀ j (hj : j + 1 < N.length),j + 1 < k→ltOf inoI N[j] N[j + 1] = true)∧Hid (Below w.heap.size w wr))
 case atStart=>exact ⟨1,rfl,by omega,by omega,by omega,(fun j hj q=>by omega),Below.refl _ _⟩
 case round =>
  obtain ⟨k,rfl,hgk,hk0,hk,hno,hB⟩:=hrel
  by_cases hlt : k < n
  ·obtain ⟨g,o,rfl,hg,hrow⟩:=HI.out.row (by omega)
   have hlow:=hB.out.size
   obtain ⟨e0,e1,e2,e3,e4,e5⟩:=(hrow (k - 1) (by omega)).below hB.out hg
   obtain ⟨f0,f1,f2,f3,f4,f5⟩:=(hrow k (by omega)).below hB.out hg
   clear hrow
   have hk1 : k - 1 < N.length:=by omega
   have hk2 : k < N.length:=by omega
   have hs : ∀ j (hj : j + 1 < N.length),ltOf inoI (N[k - 1]'hk1) (N[k]'hk2) = true→j + 1 < k + 1→ltOf inoI N[j] N[j + 1] = true:=fun j hj q1 q2=>by
    by_cases q : j + 1 < k
    ·exact hno.out j hj q
    ·obtain rfl : k = j + 1:=by omega
     exact q1
   have hf : ¬ ltOf inoI (N[k - 1]'hk1) (N[k]'hk2) = true→¬ N.Pairwise fun a b=>lessS a.id b.id = true:=fun q hp=>q (by
    obtain ⟨j,rfl⟩ : ∃ j,k = j + 1:=⟨k - 1,by omega⟩
    rw [inoI_lt]
    exact next_of_pair hp (i:=j) (by omega))
   obtain ⟨x,hx⟩ : ∃ x,x = N[k - 1]'hk1:=⟨_,rfl⟩
   obtain ⟨y,hy⟩ : ∃ y,y = N[k]'hk2:=⟨_,rfl⟩
   rw [← hx] at e0 e1 e2 e3 e4 e5 hs hf
   rw [← hy] at f0 f1 f2 f3 f4 f5 hs hf
   clear hx hy
   obtain ⟨v,hv⟩ : ∃ v,v = inoI x y:=⟨_,rfl⟩
   unfold ltOf at hs hf
   rw [← hv] at hf
   simp only [← hv] at hs
   have HS:=Lib.hid hs
   have HF:=Lib.hid hf
   have HC : Hid (∀ W : World,Calls Tryz.prog 138 #[.agg (inoA x),.agg (inoA y)] W fun e w'=>e = .returned (.int .i64 v)∧Below W.heap.size W w'):=fun W=>by rw [hv]; exact auIno_code x y W
   clear hs hf hv
   unfold inoA at HC
   have le0:=later_cell e0
   have le1:=later_cell e1
   have le2:=later_cell e2
   have le3:=later_cell e3
   have le4:=later_cell e4
   have le5:=later_cell e5
   have lf0:=later_cell f0
   have lf1:=later_cell f1
   have lf2:=later_cell f2
   have lf3:=later_cell f3
   have lf4:=later_cell f4
   have lf5:=later_cell f5
   have HCl:=Lib.hid fun (y : World)=>later_call (HC.out (later wr y))
   clear e0 e1 e2 e3 e4 e5 f0 f1 f2 f3 f4 f5 HC
   go_upto_region 4 with fail
   refine wp_region_later (by kernel_rfl) (by kernel_rfl) ?_
   repeat (go_big_quiet_step (first | (with_reducible exact HCl.out _)))
   refine wpQuiet_nil ?_
   intro _ hw'
   obtain ⟨z,rfl⟩:=hw'
   clear le0 le1 le2 le3 le4 le5 lf0 lf1 lf2 lf3 lf4 lf5
   have hB2:=Lib.hid (below_step hB.out (later_below wr z))
   generalize later wr z = w2 at hB2 ⊢
   by_cases hv0 : v < 0
   ·have hd : decide (v ≥ 0) = false:=decide_eq_false (by omega)
    go_wp2_with fail
    go_roundg (gk - 1)
    case measure=>omega
    case rel=>exact ⟨k + 1,by go_num,by omega,by omega,by omega,(fun j hj q=>HS.out j hj (decide_eq_true hv0) q),hB2⟩
   ·have hd : v ≥ 0:=by omega
    go_wp2_with fail
    go_ret
    exact ⟨by rw [HBd.out,decide_eq_false (HF.out (by rw [decide_eq_false (show ¬ v < 0 by omega)]; decide))]; rfl,hB2.out⟩
  ·go_wp2_with fail
   go_ret
   have hp : N.Pairwise fun a b=>lessS a.id b.id = true:=pair_of_next (r:=fun (a b : Ino)=>lessS a.id b.id = true) HT.out fun j hj=>by
    rw [← inoI_lt]
    exact hno.out j hj (by omega)
   exact ⟨by rw [HBd.out,decide_eq_true hp]; rfl,hB.out⟩

set_option maxRecDepth 100000 in
set_option maxHeartbeats 1600000 in
theorem risesE_code (A : Option Addr) (n c : Nat) (N : List Ent) (hn : n≤1000) (w : World) (h : EntsIn w w.heap.size A n N) :
  Calls Tryz.prog 139 #[.slice A n c,.func (.func 140) #[] #[]] w fun e w'=>e = .returned (.bool (decide (N.Pairwise fun a b=>aheadE a b = true)))∧Below w.heap.size w w':=by
 obtain ⟨B,hBd⟩ : ∃ B,B = decide (N.Pairwise fun a b=>aheadE a b = true):=⟨_,rfl⟩
 rw [← hBd]
 have HBd:=Lib.hid hBd
 clear hBd
 have hl:=h.len
 have HI:=Lib.hid h
 clear h
 have HT : Hid (∀ a b c : Ent,aheadE a b = true→aheadE b c = true→aheadE a c = true):=fun a b c=>aheadE_trans
 go_enter Tryz.func139,Tryz.ntmps139
 go_wp2_with fail
 go_loopg [5] (n + 2) (fun gk i wr=>∃ k : Nat,i = .int .i64 (k : Int)∧gk + k = n + 3∧0 < k∧k≤n + 1∧Hid (∀ j (hj : j + 1 < N.length),j + 1 < k→ltOf aheadI N[j] N[j + 1] = true)∧Hid (Below w.heap.size w wr))
 case atStart=>exact ⟨1,rfl,by omega,by omega,by omega,(fun j hj q=>by omega),Below.refl _ _⟩
 case round =>
  obtain ⟨k,rfl,hgk,hk0,hk,hno,hB⟩:=hrel
  by_cases hlt : k < n
  ·obtain ⟨g,o,rfl,hg,hrow⟩:=HI.out.row (by omega)
   have hlow:=hB.out.size
   obtain ⟨e0,e1,e2,e3,e4⟩:=(hrow (k - 1) (by omega)).below hB.out hg
   obtain ⟨f0,f1,f2,f3,f4⟩:=(hrow k (by omega)).below hB.out hg
   clear hrow
   have hk1 : k - 1 < N.length:=by omega
   have hk2 : k < N.length:=by omega
   have hs : ∀ j (hj : j + 1 < N.length),ltOf aheadI (N[k - 1]'hk1) (N[k]'hk2) = true→j + 1 < k + 1→ltOf aheadI N[j] N[j + 1] = true:=fun j hj q1 q2=>by
    by_cases q : j + 1 < k
    ·exact hno.out j hj q
    ·obtain rfl : k = j + 1:=by omega
     exact q1
   have hf : ¬ ltOf aheadI (N[k - 1]'hk1) (N[k]'hk2) = true→¬ N.Pairwise fun a b=>aheadE a b = true:=fun q hp=>q (by
    obtain ⟨j,rfl⟩ : ∃ j,k = j + 1:=⟨k - 1,by omega⟩
    rw [aheadI_lt]
    exact next_of_pair hp (i:=j) (by omega))
   obtain ⟨x,hx⟩ : ∃ x,x = N[k - 1]'hk1:=⟨_,rfl⟩
   obtain ⟨y,hy⟩ : ∃ y,y = N[k]'hk2:=⟨_,rfl⟩
   rw [← hx] at e0 e1 e2 e3 e4 hs hf
   rw [← hy] at f0 f1 f2 f3 f4 hs hf
   clear hx hy
   obtain ⟨v,hv⟩ : ∃ v,v = aheadI x y:=⟨_,rfl⟩
   unfold ltOf at hs hf
   rw [← hv] at hf
   simp only [← hv] at hs
   have HS:=Lib.hid hs
   have HF:=Lib.hid hf
   have HC : Hid (∀ W : World,Calls Tryz.prog 140 #[.agg (entA x),.agg (entA y)] W fun e w'=>e = .returned (.int .i64 v)∧Below W.heap.size W w'):=fun W=>by rw [hv]; exact auAhead_code x y W
   clear hs hf hv
   unfold entA at HC
   have le0:=later_cell e0
   have le1:=later_cell e1
   have le2:=later_cell e2
   have le3:=later_cell e3
   have le4:=later_cell e4
   have lf0:=later_cell f0
   have lf1:=later_cell f1
   have lf2:=later_cell f2
   have lf3:=later_cell f3
   have lf4:=later_cell f4
   have HCl:=Lib.hid fun (y : World)=>later_call (HC.out (later wr y))
   clear e0 e1 e2 e3 e4 f0 f1 f2 f3 f4 HC
   go_upto_region 4 with fail
   refine wp_region_later (by kernel_rfl) (by kernel_rfl) ?_
   repeat (go_big_quiet_step (first | (with_reducible exact HCl.out _)))
   refine wpQuiet_nil ?_
   intro _ hw'
   obtain ⟨z,rfl⟩:=hw'
   clear le0 le1 le2 le3 le4 lf0 lf1 lf2 lf3 lf4
   have hB2:=Lib.hid (below_step hB.out (later_below wr z))
   generalize later wr z = w2 at hB2 ⊢
   by_cases hv0 : v < 0
   ·have hd : decide (v ≥ 0) = false:=decide_eq_false (by omega)
    go_wp2_with fail
    go_roundg (gk - 1)
    case measure=>omega
    case rel=>exact ⟨k + 1,by go_num,by omega,by omega,by omega,(fun j hj q=>HS.out j hj (decide_eq_true hv0) q),hB2⟩
   ·have hd : v ≥ 0:=by omega
    go_wp2_with fail
    go_ret
    exact ⟨by rw [HBd.out,decide_eq_false (HF.out (by rw [decide_eq_false (show ¬ v < 0 by omega)]; decide))]; rfl,hB2.out⟩
  ·go_wp2_with fail
   go_ret
   have hp : N.Pairwise fun a b=>aheadE a b = true:=pair_of_next (r:=fun (a b : Ent)=>aheadE a b = true) HT.out fun j hj=>by
    rw [← aheadI_lt]
    exact hno.out j hj (by omega)
   exact ⟨by rw [HBd.out,decide_eq_true hp]; rfl,hB.out⟩

end Go.Proofs.YtdobeghbkonimaaGreatDoor

namespace Go.Proofs.YtdobeghbkonimaaGreatDoor
open Go.RowKit StampMath GraphMath OpMath

noncomputable def badB (p : Prop) : Bool:=@decide (¬ p) (Classical.propDecidable _)

theorem badB_iff {p : Prop} : badB p = true ↔ ¬ p:=by unfold badB; exact @decide_eq_true_iff _ (Classical.propDecidable _)

theorem badB_of {p : Prop} {b : Bool} (h : b = true ↔ ¬ p) : badB p = b:=by
 rw [Bool.eq_iff_iff,badB_iff,h]

theorem any_ok {α : Type} {p : α→Bool} {q : α→Prop} {l : List α} (h : ∀ x∈l,p x = true ↔ ¬ q x) : l.any p = true ↔ ¬ ∀ x∈l,q x:=by
 rw [List.any_eq_true]
 constructor
 ·rintro ⟨x,hx,hp⟩ hq
  exact (h x hx).1 hp (hq x hx)
 ·intro hq
  refine Classical.byContradiction fun hn=>hq fun x hx=>Classical.byContradiction fun hqx=>hn ⟨x,hx,(h x hx).2 hqx⟩

theorem shape_bad {N : List Ino} {E : List Ent} : badB (shapeOk N E) = (!decide (kindI N (0,0) = some 1) || N.any noneB || E.any fun e=>!nameB e.name):=by
 refine badB_of ?_
 have h1 : N.any noneB = true ↔ ¬ ∀ x∈N,mayB x.id.1 x.id.2 = true∧1≤x.kind∧x.kind≤3:=any_ok fun x _=>by
  unfold noneB
  simp only [Bool.not_eq_true',Bool.and_eq_false_iff,decide_eq_false_iff_not]
  cases mayB x.id.1 x.id.2 <;> simp
 have h2 : (E.any fun e=>!nameB e.name) = true ↔ ¬ ∀ e∈E,nameB e.name = true:=any_ok fun x _=>by simp
 unfold shapeOk
 rw [Bool.or_eq_true,Bool.or_eq_true,h1,h2]
 simp only [Bool.not_eq_true',decide_eq_false_iff_not]
 constructor
 ·rintro ((h | h) | h) ⟨q1,q2,q3⟩
  ·exact h q3
  ·exact h q1
  ·exact h q2
 ·intro h
  by_cases q3 : kindI N (0,0) = some 1
  ·by_cases q1 : ∀ x∈N,mayB x.id.1 x.id.2 = true∧1≤x.kind∧x.kind≤3
   ·exact .inr fun q2=>h ⟨q1,q2,q3⟩
   ·exact .inl (.inr q1)
  ·exact .inl (.inl q3)

theorem lost_bad {N : List Ino} {E : List Ent} : badB (lostOk N E) = E.any (lostB N) :=
 badB_of (any_ok fun x _=>by
  unfold lostB
  simp only [Bool.not_eq_true',Bool.and_eq_false_iff,decide_eq_false_iff_not]
  cases (kindI N x.ino).isSome <;> simp)

theorem count_bad {N : List Ino} {E : List Ent} : badB (countOk N E) = N.any fun x=>!decide (x.links = (linksE E x.id : Int)) :=
 badB_of (any_ok fun x _=>by simp)

theorem many_bad {N : List Ino} {E : List Ent} : badB (manyOk N E) = N.any fun x=>!manyB x (linksE E x.id : Nat) :=
 badB_of (any_ok fun x _=>by
  unfold manyB manyOk1
  by_cases h : x.id = (0,0)
  ·simp [h]
  ·by_cases h1 : x.kind = 1
   ·simp [h,h1]; omega
   ·simp [h,h1]; omega)

theorem bounds_bad {N : List Ino} : badB (boundsOk N) = (decide (40 < N.length) || N.any muchB):=by
 refine badB_of ?_
 have h1 : N.any muchB = true ↔ ¬ ∀ x∈N,boundOk1 x:=any_ok fun x _=>by
  unfold muchB boundOk1 dataB
  by_cases hm : 0≤x.mode∧x.mode≤4095
  ·rw [decide_eq_true hm,Bool.true_and]
   by_cases k1 : x.kind = 1
   ·simp [k1,hm]
   ·by_cases k2 : x.kind = 2
    ·simp [k2,hm]; omega
    ·by_cases k3 : x.kind = 3
     ·simp [k3,hm]; omega
     ·simp [k1,k2,k3,hm]
  ·rw [decide_eq_false hm,Bool.false_and]
   simp only [Bool.not_false,true_iff]
   exact fun q=>hm ⟨q.1,q.2.1⟩
 unfold boundsOk
 rw [Bool.or_eq_true,h1,decide_eq_true_iff]
 constructor
 ·rintro (h | h) ⟨q1,q2⟩
  ·omega
  ·exact h q1
 ·intro h
  by_cases q2 : N.length≤40
  ·exact .inr fun q1=>h ⟨q1,q2⟩
  ·exact .inl (by omega)

theorem apart_bad {N : List Ino} {E : List Ent} {F : List St} (hn : F.Nodup) (hF : ∀ s,s∈F ↔ Reached N E s) {K : List (St × Int)} (hk : (K.map Prod.fst).Nodup) (hK : ∀ id,lookL K id = kindI N id) : badB (apartOk N E) = decide ((F.length : Int) < (K.length : Int)):=by
 refine badB_of ?_
 have hkey : ∀ s,s∈K.map Prod.fst ↔ (kindI N s).isSome:=fun s=>by
  rw [← hK s]
  constructor
  ·intro h
   obtain ⟨⟨a,v⟩,hp,rfl⟩:=List.mem_map.1 h
   rw [(mem_lookL hk).2 hp]
   rfl
  ·intro h
   cases hq : lookL K s with
   | none=>rw [hq] at h; cases h
   | some v=>exact List.mem_map.2 ⟨(s,v),(mem_lookL hk).1 hq,rfl⟩
 have hl : (K.map Prod.fst).length = K.length:=List.length_map _
 rw [decide_eq_true_iff]
 constructor
 ·intro h ha
  have:=nodup_le hk (M:=F) fun s hs=>by
   obtain ⟨x,hx,rfl⟩:=kindI_some ((hkey s).1 hs)
   exact (hF _).2 (ha x hx)
  omega
 ·intro ha
  refine Classical.byContradiction fun h=>ha fun x hx=>(hF _).1 (Classical.byContradiction fun hnx=>?_)
  have:=nodup_le (L:=x.id :: F) (M:=K.map Prod.fst) (List.nodup_cons.2 ⟨hnx,hn⟩) fun s hs=>by
   rw [hkey]
   rcases List.mem_cons.1 hs with rfl | hs
   ·exact kindI_of hx
   ·obtain ⟨y,hy,rfl⟩:=((hF s).1 hs).ino
    exact kindI_of hy
  simp at this
  omega

theorem order_bad {N : List Ino} {E : List Ent} : badB (orderOk N E) = (!decide (N.Pairwise fun a b=>lessS a.id b.id = true) || !decide (E.Pairwise fun a b=>aheadE a b = true)):=by
 refine badB_of ?_
 unfold orderOk
 by_cases h1 : N.Pairwise fun a b=>lessS a.id b.id = true
 ·by_cases h2 : E.Pairwise fun a b=>aheadE a b = true
  ·simp [h1,h2]
  ·simp [h1,h2]
 ·simp [h1]

section
variable (A A' : Option Addr) (n c m d bk bl : Nat) (N : List Ino) (E : List Ent) (w : World) (h : Given w A n N A' m E) (hL : Looked w bk bl N E)
include h hL

theorem box_held : Below w.heap.size w (w.alloc (.cells (listsA A A' n c m d bk bl) 134))∧(w.alloc (.cells (listsA A A' n c m d bk bl) 134)).heap[w.heap.size]? = some (.cells (listsA A A' n c m d bk bl) 134 (0,0)) ∧
  Given (w.alloc (.cells (listsA A A' n c m d bk bl) 134)) A n N A' m E∧Looked (w.alloc (.cells (listsA A A' n c m d bk bl) 134)) bk bl N E :=
 ⟨(Below.refl _ _).alloc (Nat.le_refl _) _,heap_alloc_new _ _,h.below ((Below.refl _ _).alloc (Nat.le_refl _) _),hL.below ((Below.refl _ _).alloc (Nat.le_refl _) _)⟩

set_option maxRecDepth 100000 in
theorem disordered_code : Calls Tryz.prog 91 #[.agg #[.slice A n c,.slice A' m d,.map (some bk),.map (some bl)]] w fun e w'=>e = .returned (.bool (badB (orderOk N E)))∧Below w.heap.size w w':=by
 obtain ⟨hb0,he0,hg0,hl0⟩:=box_held A A' n c m d bk bl N E w h hL
 rw [order_bad]
 have HI : Hid (∀ W : World,Below w.heap.size w W→Calls Tryz.prog 137 #[.slice A n c,.func (.func 138) #[] #[]] W fun e w'=>e = .returned (.bool (decide (N.Pairwise fun a b=>lessS a.id b.id = true)))∧Below W.heap.size W w'):=fun W hW=>risesI_code A n c N h.fewI W ((h.below hW).inos)
 have HJ : Hid (∀ W : World,Below w.heap.size w W→Calls Tryz.prog 139 #[.slice A' m d,.func (.func 140) #[] #[]] W fun e w'=>e = .returned (.bool (decide (E.Pairwise fun a b=>aheadE a b = true)))∧Below W.heap.size W w'):=fun W hW=>risesE_code A' m d E h.fewE W ((h.below hW).ents)
 generalize decide (N.Pairwise fun a b=>lessS a.id b.id = true) = p at HI ⊢
 generalize decide (E.Pairwise fun a b=>aheadE a b = true) = q at HJ ⊢
 have HE:=Lib.hid he0
 clear h hL he0 hg0 hl0
 go_enter Tryz.func91,Tryz.ntmps91
 go_wp2_with fail
 refine (HI.out _ hb0).mono ?_
 rintro e w2 ⟨rfl,hb2⟩
 have he2:=(hb2.block _ (heap_lt HE.out)).trans HE.out
 have hb3:=below_step hb0 hb2
 clear hb0 hb2 HE HI
 obtain ⟨c0,c1,c2,c3⟩:=lists_cells he2
 cases p with
 | false =>
  go_wp2_with fail
  go_ret
  exact ⟨rfl,hb3⟩
 | true =>
  go_wp2_with fail
  refine (HJ.out _ hb3).mono ?_
  rintro e w4 ⟨rfl,hb4⟩
  go_wp2_with fail
  go_ret
  exact ⟨rfl,below_step hb3 hb4⟩

set_option maxRecDepth 100000 in
theorem lost_code : Calls Tryz.prog 93 #[.agg #[.slice A n c,.slice A' m d,.map (some bk),.map (some bl)]] w fun e w'=>e = .returned (.bool (badB (lostOk N E)))∧Below w.heap.size w w':=by
 obtain ⟨hb0,he0,hg0,hl0⟩:=box_held A A' n c m d bk bl N E w h hL
 rw [lost_bad]
 have HC:=Lib.hid (has_lost w.heap.size (lostB N) A' m d E h.fewE _ hg0.ents fun x _ W hW=>lostClo_code A A' n c m d bk bl w.heap.size N E x W ((hW.block _ (heap_lt he0)).trans he0) (hl0.below hW))
 clear h hL he0 hg0 hl0
 go_enter Tryz.func93,Tryz.ntmps93
 go_wp2_with fail
 refine HC.out.mono ?_
 rintro e w2 ⟨rfl,hb2⟩
 go_wp2_with fail
 go_ret
 exact ⟨rfl,below_step hb0 hb2⟩

set_option maxRecDepth 100000 in
theorem miscounted_code : Calls Tryz.prog 94 #[.agg #[.slice A n c,.slice A' m d,.map (some bk),.map (some bl)]] w fun e w'=>e = .returned (.bool (badB (countOk N E)))∧Below w.heap.size w w':=by
 obtain ⟨hb0,he0,hg0,hl0⟩:=box_held A A' n c m d bk bl N E w h hL
 rw [count_bad]
 have HC:=Lib.hid (has_miscounted w.heap.size (fun x=>!decide (x.links = (linksE E x.id : Int))) A n c N h.fewI _ hg0.inos fun x _ W hW=>countClo_code A A' n c m d bk bl w.heap.size N E x W ((hW.block _ (heap_lt he0)).trans he0) (hl0.below hW))
 clear h hL he0 hg0 hl0
 go_enter Tryz.func94,Tryz.ntmps94
 go_wp2_with fail
 refine HC.out.mono ?_
 rintro e w2 ⟨rfl,hb2⟩
 go_wp2_with fail
 go_ret
 exact ⟨rfl,below_step hb0 hb2⟩

set_option maxRecDepth 100000 in
theorem mislinked_code : Calls Tryz.prog 95 #[.agg #[.slice A n c,.slice A' m d,.map (some bk),.map (some bl)]] w fun e w'=>e = .returned (.bool (badB (manyOk N E)))∧Below w.heap.size w w':=by
 obtain ⟨hb0,he0,hg0,hl0⟩:=box_held A A' n c m d bk bl N E w h hL
 rw [many_bad]
 have HC:=Lib.hid (has_mislinked w.heap.size (fun x=>!manyB x (linksE E x.id : Nat)) A n c N h.fewI _ hg0.inos fun x _ W hW=>linkClo_code A A' n c m d bk bl w.heap.size N E x W ((hW.block _ (heap_lt he0)).trans he0) (hl0.below hW))
 clear h hL he0 hg0 hl0
 go_enter Tryz.func95,Tryz.ntmps95
 go_wp2_with fail
 refine HC.out.mono ?_
 rintro e w2 ⟨rfl,hb2⟩
 go_wp2_with fail
 go_ret
 exact ⟨rfl,below_step hb0 hb2⟩

set_option maxRecDepth 100000 in
theorem unbounded_code : Calls Tryz.prog 97 #[.agg #[.slice A n c,.slice A' m d,.map (some bk),.map (some bl)]] w fun e w'=>e = .returned (.bool (badB (boundsOk N)))∧Below w.heap.size w w':=by
 obtain ⟨hb0,he0,hg0,hl0⟩:=box_held A A' n c m d bk bl N E w h hL
 rw [bounds_bad,h.inos.len]
 have HC:=Lib.hid (has_tooMuch muchB A n c N h.fewI _ hg0.inos fun x hx W _=>tooMuch_code x (h.datas x hx) W)
 clear h hL he0 hg0 hl0
 by_cases h40 : 40 < n
 ·rw [decide_eq_true h40]
  go_enter Tryz.func97,Tryz.ntmps97
  go_wp2_with fail
  go_ret
  exact ⟨by first | rfl | simp [h40],hb0⟩
 ·rw [decide_eq_false h40]
  have hd : decide ((n : Int) > 40) = false:=decide_eq_false (by omega)
  go_enter Tryz.func97,Tryz.ntmps97
  go_wp2_with fail
  refine HC.out.mono ?_
  rintro e w2 ⟨rfl,hb2⟩
  go_wp2_with fail
  go_ret
  exact ⟨by first | rfl | simp,below_step hb0 hb2⟩

set_option maxRecDepth 100000 in
set_option maxHeartbeats 1600000 in
theorem misshapen_code : Calls Tryz.prog 92 #[.agg #[.slice A n c,.slice A' m d,.map (some bk),.map (some bl)]] w fun e w'=>e = .returned (.bool (badB (shapeOk N E)))∧Below w.heap.size w w':=by
 obtain ⟨hb0,he0,hg0,hl0⟩:=box_held A A' n c m d bk bl N E w h hL
 rw [shape_bad]
 have HD : Hid (∀ W : World,Below w.heap.size w W→Calls Tryz.prog 141 #[.agg #[.slice A n c,.slice A' m d,.map (some bk),.map (some bl)],.agg #[.int .i64 0,.int .i64 0]] W fun e w'=>e = .returned (.bool (decide (kindI N (0,0) = some 1)))∧Below W.heap.size W w'):=fun W hW=>isDir_code A A' n c m d bk bl N E (0,0) W (hL.below hW)
 have HI : Hid (∀ W : World,Below w.heap.size w W→Calls Tryz.prog 143 #[.slice A n c,.func (.func 144) #[] #[]] W fun e w'=>e = .returned (.bool (N.any noneB))∧Below W.heap.size W w'):=fun W hW=>has_isNone noneB A n c N h.fewI W (h.below hW).inos fun x _ W' _=>isNone_code x W'
 have HJ : Hid (∀ W : World,Below w.heap.size w W→Calls Tryz.prog 145 #[.slice A' m d,.func (.func 146) #[] #[]] W fun e w'=>e = .returned (.bool (E.any fun e=>!nameB e.name))∧Below W.heap.size W w'):=fun W hW=>has_nameless (fun e=>!nameB e.name) A' m d E h.fewE W (h.below hW).ents fun x hx W' _=>nameless_code x (h.names x hx) W'
 generalize decide (kindI N (0,0) = some 1) = p at HD ⊢
 generalize N.any noneB = q at HI ⊢
 generalize (E.any fun e=>!nameB e.name) = r at HJ ⊢
 clear h hL hg0 hl0
 go_enter Tryz.func92,Tryz.ntmps92
 go_upto_region 1 with fail
 change Code.wp _ _ _ _ (w.alloc (.cells (listsA A A' n c m d bk bl) 134))
 generalize w.alloc (.cells (listsA A A' n c m d bk bl) 134) = w1 at he0 hb0 ⊢
 obtain ⟨c0,c1,c2,c3⟩:=lists_cells he0
 have l0:=later_cell c0
 have l1:=later_cell c1
 have l2:=later_cell c2
 have l3:=later_cell c3
 have HB:=Lib.hid hb0
 have HRl:=Lib.hid fun (y : World)=>later_call (auRoot_code (later w1 y))
 have HDl:=Lib.hid fun (y : World)=>later_call (HD.out (later w1 y) (below_step HB.out (later_below w1 y)))
 have HIl:=Lib.hid fun (y : World)=>later_call (HI.out (later w1 y) (below_step HB.out (later_below w1 y)))
 have HJl:=Lib.hid fun (y : World)=>later_call (HJ.out (later w1 y) (below_step HB.out (later_below w1 y)))
 clear c0 c1 c2 c3 he0 hb0 HD HI HJ
 have hcase : p = false∨(p = true∧q = true)∨(p = true∧q = false):=by cases p <;> cases q <;> simp
 rcases hcase with rfl | ⟨rfl,rfl⟩ | ⟨rfl,rfl⟩
 all_goals
  refine wp_region_later (by kernel_rfl) (by kernel_rfl) ?_
  repeat (go_big_quiet_step (first | (with_reducible exact HRl.out _) | (with_reducible exact HDl.out _) | (with_reducible exact HIl.out _) | (with_reducible exact HJl.out _)))
  refine wpQuiet_nil ?_
  intro _ hw'
  obtain ⟨y,rfl⟩:=hw'
  clear l0 l1 l2 l3
  go_wp2_with fail
  go_ret
  exact ⟨rfl,below_step HB.out (later_below w1 y)⟩

end

end Go.Proofs.YtdobeghbkonimaaGreatDoor

namespace Go.Proofs.YtdobeghbkonimaaGreatDoor
open Go.RowKit

def intV (xs : List Int) : List Value:=xs.map fun x=>.int .i64 x

theorem intV_len (xs : List Int) : (intV xs).length = xs.length:=by simp [intV]
theorem intV_at {xs : List Int} {j : Nat} (h : j < xs.length) : (intV xs)[j]? = some (.int .i64 xs[j]):=by
 unfold intV
 rw [List.getElem?_map,List.getElem?_eq_getElem h]
 rfl

def IntsIn (W : World) (B : Nat) (A : Option Addr) (n : Nat) (xs : List Int) : Prop :=
 xs.length = n∧(0 < n→∃ g o,A = some ⟨g,o,none⟩∧g < B∧∀ j (h : j < xs.length),W.cell? ⟨g,o + j,none⟩ = some (.int .i64 xs[j]))

theorem ints_own {W : World} {base : Nat} {e : TypeId} {v : Value} {n : Nat} {xs : List Int} (h : W.ownsRow base e 1 v n (intV xs)) :
  ∃ (A : Option Addr) (c : Nat),v = .slice A n c∧IntsIn W W.heap.size A n xs∧n≤c∧c≤maxLen:=by
 have hl : xs.length = n:=by have:=h.1; rw [intV_len] at this; omega
 rcases h.2 with ⟨rfl,h0⟩ | ⟨g,cap,cur,rfl,hb,hg,hnc,hcm,_,_⟩
 ·exact ⟨Option.none,0,by rw [h0],⟨hl,fun hn=>by omega⟩,by omega,by decide⟩
 ·refine ⟨some ⟨g,0,Option.none⟩,cap,rfl,⟨hl,fun _=>⟨g,0,rfl,(Array.getElem?_eq_some_iff.1 hg).1,fun j hj=>?_⟩⟩,hnc,hcm⟩
  have q:=h.cells (g:=g) rfl _ _ (intV_at hj)
  have e : (⟨g,0,Option.none⟩ : Addr).add j = ⟨g,0 + j,Option.none⟩:=by
   unfold Addr.add
   split <;> simp_all
  rw [e] at q
  exact q

theorem int_there (w : World) (T : TypeId) (x : Int) : ∀ j u,(intV [x])[j]? = some u→(w.alloc (.cells #[.int .i64 x] T)).cell? (Addr.add ⟨w.heap.size,0,none⟩ j) = some u:=by
 intro j u hj
 have h0 : j = 0:=by
  by_cases e : j = 0
  ·exact e
  ·rw [List.getElem?_eq_none (by simp [intV]; omega)] at hj
   cases hj
 subst h0
 simp [intV] at hj
 subst hj
 exact cell_of_row _ _ 0 _ _ (0,0) (heap_alloc_new w _)

theorem int_one (x : Int) : ∀ u∈intV [x],u.oneCell' = true:=by
 intro u hu
 simp [intV] at hu
 subst hu
 rfl

end Go.Proofs.YtdobeghbkonimaaGreatDoor

namespace Go.Proofs.YtdobeghbkonimaaGreatDoor
open Go.RowKit StampMath GraphMath OpMath

structure AuditAsk : Prop where
 check : ∀ (A : Option Addr) (n c : Nat) (N : List Ino) (A' : Option Addr) (m d : Nat) (E : List Ent) (w : World),Given w A n N A' m E →
  Calls Tryz.prog 57 #[.slice A n c,.slice A' m d] w fun e w'=>∃ (v : Value) (l : List Int),e = .returned v∧IsCheck N E l∧w'.ownsRow w.heap.size 3 1 v l.length (intV l)∧Below w.heap.size w w'
 fine : ∀ (A : Option Addr) (n c : Nat) (N : List Ino) (A' : Option Addr) (m d : Nat) (E : List Ent) (w : World),Given w A n N A' m E →
  Calls Tryz.prog 30 #[.slice A n c,.slice A' m d] w fun e w'=>∃ b : Bool,e = .returned (.bool b)∧(b = true ↔ fineP N E)∧Below w.heap.size w w'

end Go.Proofs.YtdobeghbkonimaaGreatDoor
