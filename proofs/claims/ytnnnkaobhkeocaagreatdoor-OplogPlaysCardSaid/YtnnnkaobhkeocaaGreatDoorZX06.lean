/-
 The walk of the document's own Drop (graphs).
-/
import Derived.Test.YtnnnkaobhkeocaaGreatDoorZX05
import Derived.Deep.RegionLaw
import Derived.Deep.AppendLies
namespace Go.Proofs.YtnnnkaobhkeocaaGreatDoor
open Go.RowKit StampMath GraphMath OpMath
theorem filter_snoc{α:Type}(f:α->Bool)(l:List α)(k:Nat)(h:k<l.length):(l.take (k+1)).filter f=if f l[k] then(l.take k).filter f++[l[k]] else(l.take k).filter f:=by
 rw[List.take_succ_eq_append_getElem h,List.filter_append]
 cases hf:f l[k]<;>simp[hf]
theorem dropG_eq(g:Gr)(id:St):dropG g id=if(getG g id).isSome=false then(g,3) else if id=(0,0) then(g,8) else if 0<((getG g id).getD noIno).links\/0<(listE g.E id).length then(g,7) else(⟨g.I.filter fun x=>!decide (x.id=id),g.E⟩,0):=by
 unfold dropG
 cases h:getG g id with
 |none=>simp
 |some x=>simp
set_option maxRecDepth 100000 in
set_option maxHeartbeats 3200000 in
theorem refDrop(N:Nat->Prop)(v:Value)(g:Gr)(id:St)(hn:g.I.length<=1000)(hm:g.E.length<=1000)(w:World)(hv:GrAt N w v g):
    Calls Tryz.prog 142 #[v,.agg (stA id)] w (GrPost N (dropG g id) w):=by
  obtain⟨i0,hi0,hz0,hz1,hz2⟩:=info_parts ino_infos;have HV:=Lib.hid hv;obtain⟨A,n,c,A',m,d,rfl,hI,hc1,hE,hc2⟩:=hv;have hl':=hI.len;obtain⟨x,hx⟩:∃x,x=(getG g id).getD noIno:=⟨_,rfl⟩;obtain⟨is,his⟩:∃is,is=(getG g id).isSome:=⟨_,rfl⟩;have HG:Hid (∀W:World,Below w.heap.size w W->Calls Tryz.prog 80 #[.agg #[.slice A n c,.slice A' m d],.agg #[.int .i64 id.1,.int .i64 id.2]] W fun z w'=>z=.returned (.tuple #[.agg #[.int .i64 x.id.1,.int .i64 x.id.2,.int .i64 x.kind,.int .i64 x.links,.int .i64 x.mode,.string x.data],.bool is])/\Below W.heap.size W w'):=fun W hW=>by
    rw[hx,his];exact refGet A A' n c m d g id (by have:=hI.len;omega) (by have:=hE.len;omega) W ((hI.below hW).more hW.size) ((hE.below hW).more hW.size)
  obtain⟨ll,hll⟩:∃ll,ll=(listE g.E id).length:=⟨_,rfl⟩;have HL:Hid (∀W:World,Below w.heap.size w W->Calls Tryz.prog 139 #[.agg #[.slice A n c,.slice A' m d],.agg #[.int .i64 id.1,.int .i64 id.2]] W fun z w'=>∃LA lc,z=.returned (.slice LA ll lc)/\Below W.heap.size W w'):=fun W hW=>by
    rw[hll];refine(refList (.slice A n c) A' m d g.E id (by have:=hE.len;omega) W ((hE.below hW).more hW.size)).mono ?_;rintro z w' ⟨LA,lc,hz,-,-,-,-,hb⟩;exact⟨LA,lc,hz,hb⟩
  have hll2:ll<=1000:=by have:=listE_le g.E id;omega
  obtain⟨R,hR⟩:∃R,R=dropG g id:=⟨_,rfl⟩;have hdrop:=dropG_eq g id;rw[<-hR,<-hx,<-his,<-hll] at hdrop;rw[<-hR];have HI:Hid (InosIn w w.heap.size A n g.I):=hI;have HE:Hid (EntsIn w w.heap.size A' m g.E/\Cap N A' m d):=⟨hE,hc2⟩;have HR:=Lib.hid hdrop;clear hI hE hc1 hc2 hx his hR hdrop hll;have hb0:Held w [(w.heap.size+1+1,.cells #[.slice none 0 0,.slice none 0 0] 31),(w.heap.size+1,.cells (stA id) 24),(w.heap.size,.cells #[.slice A n c,.slice A' m d] 31)]
    (((w.alloc (.cells #[.slice A n c,.slice A' m d] 31)).alloc (.cells (stA id) 24)).alloc (.cells #[.slice none 0 0,.slice none 0 0] 31)):=
    (((Held.refl w).alloc (.cells #[.slice A n c,.slice A' m d] 31) rfl).alloc (.cells (stA id) 24) (by simp)).alloc (.cells #[.slice none 0 0,.slice none 0 0] 31) (by simp)
  unfold stA
  go_enter Tryz.func142,Tryz.ntmps142
  go_upto_region 1 with fail
  change Code.wp _ _ _ _ (((w.alloc (.cells #[.slice A n c,.slice A' m d] 31)).alloc (.cells (stA id) 24)).alloc (.cells #[.slice none 0 0,.slice none 0 0] 31));generalize ((w.alloc (.cells #[.slice A n c,.slice A' m d] 31)).alloc (.cells (stA id) 24)).alloc (.cells #[.slice none 0 0,.slice none 0 0] 31)=w0 at hb0 ⊢;obtain⟨c1,c2⟩:=two_cells (g:=w.heap.size) (hb0.at 2 rfl);obtain⟨e0,e1⟩:=two_cells (g:=w.heap.size+1) (hb0.at 1 rfl)
  go_wp2_with fail
  refine(HG.out _ hb0.below).mono ?_;rintro z w2 ⟨rfl,hb2⟩;have hH2:=hb0.step hb2;clear hb0 hb2 c1 c2 e0 e1
  go_upto_region 2 with fail
  change Code.wp _ _ _ _ (w2.alloc (.cells (inoA x) 102));obtain⟨ux,hux⟩:∃u,u=w2.heap.size:=⟨_,rfl⟩;have hlx:w.heap.size+1+1<ux:=by rw[hux];exact heap_lt (hH2.at 0 rfl)
  have hH3:=hH2.alloc (.cells (inoA x) 102) hux.symm;rw[<-hux];generalize w2.alloc (.cells (inoA x) 102)=w3 at hH3 ⊢;clear hH2 hux;obtain⟨c1,c2⟩:=two_cells (g:=w.heap.size) (hH3.at 3 rfl);obtain⟨e0,e1⟩:=two_cells (g:=w.heap.size+1) (hH3.at 2 rfl);obtain⟨m0,m1⟩:=two_cells (g:=w.heap.size+1+1) (hH3.at 1 rfl);obtain⟨f0,f1⟩:=two_free (g:=w.heap.size+1+1) (hH3.at 1 rfl);have lx:=(ino_cells (g:=ux) (hH3.at 0 rfl)).2.2.2.1
  cases is
  · have HR1:Hid (R=(g,3)):=HR.out.trans (if_pos rfl)
    clear HR
    go_wp2_with fail
    exact bodyPost_ret (v:=.tuple #[.agg #[.slice A n c,.slice A' m d],.int .i64 3]) (by simp[results,Tryz.results142,go_sem,m0,m1]) rfl ⟨_,by rw[HR1.out],by rw[HR1.out];exact HV.out.step ((hH3.below.setCell (by dsimp only;omega) _).setCell (by dsimp only;omega) _),(hH3.below.setCell (by dsimp only;omega) _).setCell (by dsimp only;omega) _⟩
  have HR0:Hid (R=if id=(0,0) then(g,8) else if 0<x.links\/0<ll then(g,7) else(⟨g.I.filter fun x=> !decide (x.id=id),g.E⟩,0)):=HR.out.trans (if_neg (by decide));clear HR;have hcase:(R=(g,8)/\(id.1==0)=true/\(id.2==0)=true)\/((id.1==0)=false/\¬id=(0,0))\/((id.1==0)=true/\(id.2==0)=false/\¬id=(0,0)):=by
    by_cases h1:id.1=0
    · by_cases h2:id.2=0
      · exact Or.inl ⟨HR0.out.trans (if_pos (Prod.ext h1 h2)),beq_iff_eq.2 h1,beq_iff_eq.2 h2⟩
      · exact Or.inr (Or.inr ⟨beq_iff_eq.2 h1,beq_eq_false_iff_ne.2 h2,fun e=>h2 (congrArg Prod.snd e)⟩)
    · exact Or.inr (Or.inl ⟨beq_eq_false_iff_ne.2 h1,fun e=>h1 (congrArg Prod.fst e)⟩)
  rcases hcase with ⟨hR8,r1,r2⟩|hcase
  · have HR1:=Lib.hid hR8
    clear HR0 hR8
    go_wp2_with fail
    exact bodyPost_ret (v:=.tuple #[.agg #[.slice A n c,.slice A' m d],.int .i64 8]) (by simp[results,Tryz.results142,go_sem,m0,m1]) rfl ⟨_,by rw[HR1.out],by rw[HR1.out];exact HV.out.step ((hH3.below.setCell (by dsimp only;omega) _).setCell (by dsimp only;omega) _),(hH3.below.setCell (by dsimp only;omega) _).setCell (by dsimp only;omega) _⟩
  have hne:¬id=(0,0):=by rcases hcase with h|h;exact h.2;exact h.2.2
  have HR1:Hid (R=if 0<x.links\/0<ll then(g,7) else(⟨g.I.filter fun x=> !decide (x.id=id),g.E⟩,0)):=HR0.out.trans (if_neg hne);have hroot:(id.1==0)=false\/((id.1==0)=true/\(id.2==0)=false):=by rcases hcase with h|h;exact Or.inl h.1;exact Or.inr ⟨h.1,h.2.1⟩
  clear hcase hne HR0;by_cases hx0:0<x.links
  · have HR2:Hid (R=(g,7)):=HR1.out.trans (if_pos (Or.inl hx0))
    clear HR1;rcases hroot with r1|⟨r1,r2⟩
    all_goals
      go_wp2_with fail
      exact bodyPost_ret (v:=.tuple #[.agg #[.slice A n c,.slice A' m d],.int .i64 7]) (by simp[results,Tryz.results142,go_sem,m0,m1]) rfl ⟨_,by rw[HR2.out],by rw[HR2.out];exact HV.out.step ((hH3.below.setCell (by dsimp only;omega) _).setCell (by dsimp only;omega) _),(hH3.below.setCell (by dsimp only;omega) _).setCell (by dsimp only;omega) _⟩
  rcases hroot with r1|⟨r1,r2⟩
  all_goals
    go_wp2_with fail
    refine(HL.out _ hH3.below).mono ?_;rintro z w4 ⟨LA,lc,rfl,hb4⟩;have hH4:=hH3.step hb4;clear hH3 hb4 c1 c2 e0 e1 m0 m1 f0 f1 lx;obtain⟨c1,c2⟩:=two_cells (g:=w.heap.size) (hH4.at 3 rfl);obtain⟨m0,m1⟩:=two_cells (g:=w.heap.size+1+1) (hH4.at 1 rfl);obtain⟨f0,f1⟩:=two_free (g:=w.heap.size+1+1) (hH4.at 1 rfl);by_cases hl0:0<ll
    · have HR2:Hid (R=(g,7)):=HR1.out.trans (if_pos (Or.inr hl0))
      go_wp2_with fail
      exact bodyPost_ret (v:=.tuple #[.agg #[.slice A n c,.slice A' m d],.int .i64 7]) (by simp[results,Tryz.results142,go_sem,m0,m1]) rfl ⟨_,by rw[HR2.out],by rw[HR2.out];exact HV.out.step ((hH4.below.setCell (by dsimp only;omega) _).setCell (by dsimp only;omega) _),(hH4.below.setCell (by dsimp only;omega) _).setCell (by dsimp only;omega) _⟩
    have HR2:Hid (R=(⟨g.I.filter fun x=> !decide (x.id=id),g.E⟩,0)):=HR1.out.trans (if_neg (by omega));obtain rfl:ll=0:=by omega
    clear HR1 hl0 hll2
    go_upto_region 9 with fail
    change Code.wp _ _ _ _ (w4.alloc (.cells #[.slice none 0 0,.slice A' m d] 31));obtain⟨uo,huo⟩:∃u,u=w4.heap.size:=⟨_,rfl⟩;have hlo:ux<uo:=by rw[huo];exact heap_lt (hH4.at 0 rfl)
    have ho0:(w4.alloc (.cells #[.slice none 0 0,.slice A' m d] 31)).heap[uo]?=some (.cells #[.slice none 0 0,.slice A' m d] 31 (0,0)):=by rw[huo];exact heap_alloc_new _ _
    have hH5:=(hH4.step ((Below.refl w4.heap.size w4).alloc (Nat.le_refl _) (.cells #[.slice none 0 0,.slice A' m d] 31))).tail;rw[<-huo];generalize w4.alloc (.cells #[.slice none 0 0,.slice A' m d] 31)=w5 at hH5 ho0 ⊢;clear hH4 huo c1 c2 m0 m1 f0 f1
    go_wp2_with fail
    go_loopg [9] (n+1) (fun gk i wr=>∃(k:Nat)(out:Value),i=.int .i64 (k:Int)/\gk+k=n+1/\k<=n/\wr.heap[uo]?=some (.cells #[out,.slice A' m d] 31 (0,0))/\wr.ownsRow (uo+1) 102 6 out ((g.I.take k).filter fun x=> !decide (x.id=id)).length (flat (((g.I.take k).filter fun x=> !decide (x.id=id)).map inoA))/\
      Held w [(w.heap.size+1+1,.cells #[.slice none 0 0,.slice none 0 0] 31),(w.heap.size+1,.cells (stA id) 24),(w.heap.size,.cells #[.slice A n c,.slice A' m d] 31)] wr)
    case atStart=>exact⟨0,_,rfl,by omega,by omega,ho0,World.ownsRow_nil _ _ _ _,hH5⟩
    case round=>
      obtain⟨k,out,rfl,hgk,hk,ho,hown,hH⟩:=hrel;clear hH5 ho0;have c1:=(two_cells (g:=w.heap.size) (hH.at 2 rfl)).1;obtain⟨e0,e1⟩:=two_cells (g:=w.heap.size+1) (hH.at 1 rfl);by_cases hlt:k<n
      · obtain⟨gi,o,rfl,hg,hrow⟩:=HI.out.row (by omega)
        have hsn:=filter_snoc (fun x:Ino=> !decide (x.id=id)) g.I k (by omega);have hle:((g.I.take k).filter fun x=> !decide (x.id=id)).length<=1000:=by have:=List.length_filter_le (fun x:Ino=> !decide (x.id=id)) (g.I.take k);rw[List.length_take] at this;omega
        have hrk:=fun W hb=>(hrow k (by omega)).below (B:=w.heap.size) (W':=W) hb hg;obtain⟨y,hy⟩:∃x,g.I[k]=x:=⟨_,rfl⟩;rw[hy] at hrk hsn;clear hrow hy;obtain⟨p0,p1,_⟩:=hrk wr hH.below;have HRow:=Lib.hid hrk;clear hrk;by_cases hq:y.id=id
        · have hv:=eqSt_yes hq
          rw[if_neg (by simp[hq])] at hsn;have HS:=Lib.hid hsn;clear hsn
          go_wp2_with fail
          go_quiet (fail)
          go_wp2_with fail
          go_roundg (gk-1)
          case measure=>omega
          case rel=>exact⟨k+1,out,by go_num,by omega,by omega,ho,by rw[HS.out];exact hown,hH.drewN _⟩
        · have hv:=eqSt_no hq
          rw[if_pos (by simp[hq])] at hsn;have HS:=Lib.hid hsn;clear hsn
          go_upto_region 12 with fail
          go_quiet (fail)
          have hH2:=hH.drewN nq;have hown2:(wr.drewN nq).ownsRow (uo+1) 102 6 out ((g.I.take k).filter fun x=> !decide (x.id=id)).length (flat (((g.I.take k).filter fun x=> !decide (x.id=id)).map inoA)):=hown;have ho2:(wr.drewN nq).heap[uo]?=some (.cells #[out,.slice A' m d] 31 (0,0)):=ho;generalize wr.drewN nq=w6 at hH2 hown2 ho2 ⊢;clear c1 e0 e1 p0 p1 hH hown ho hv hq;have c1:=(two_cells (g:=w.heap.size) (hH2.at 2 rfl)).1;have o0:=(two_cells ho2).1;have f0:=(two_free ho2).1;obtain⟨p0,p1,p2,p3,p4,p5⟩:=HRow.out w6 hH2.below;have hm1:((g.I.take k).filter fun x=> !decide (x.id=id)).length+1<=maxLen:=by unfold maxLen;omega
          have hi0':(0:Int)<=(k:Int):=Int.natCast_nonneg _;have hi1:(k:Int)<(n:Int):=by omega
          have no:out.ownBlock≠some uo:=fun e=>by have:=(hown2.lt uo e).1;omega
          have ns:out.ownBlock≠some w.heap.size:=fun e=>by have:=(hown2.lt _ e).1;omega
          have ng:out.ownBlock≠some gi:=fun e=>by have:=(hown2.lt _ e).1;omega
          have lo:=heap_lt ho2;have ho3:((w6.alloc (.cells (inoA y) 102)).drew).heap[uo]?=some (.cells #[out,.slice A' m d] 31 (0,0)):=(heap_alloc_old w6 _ lo).trans ho2;have hfa:=(two_free ho3).1;have o3:((w6.alloc (.cells #[.int .i64 y.id.1,.int .i64 y.id.2,.int .i64 y.kind,.int .i64 y.links,.int .i64 y.mode,.string y.data] 102)).drew).cell? ⟨uo,0,none⟩=some out:=(two_cells ho3).1;have ls:w.heap.size<w6.heap.size:=heap_lt (hH2.at 2 rfl)
          go_upto_region 13 with fail
          go_region_law
            ((refine step_append_lies _ (by rfl) (.tmp 58) (.tmp 64) _ (by rfl) (uo+1) 102 i0 _ 6 56 Tryz.underlying28 hi0 hz0 hz1 hz2 rfl (by decide) out _ _ (by rfl) ((hown2.alloc _).drew)
                    ⟨w6.heap.size,0,none⟩ 1 1 (inoA y).toList (by rfl) (by rfl) (World.news_of_block (cs:=inoA y) (t:=102) (fr:=(0,0)) (heap_alloc_new w6 _)) (ino_one y)
                    (by omega) hm1 (by omega) (by simp;omega) (w6.heap.size+1) (by simp) ?_;intro gg cap w7 hown7 hgrow hat hlt7;have hf7:w7.frozen? ⟨uo,0,none⟩=false:=(hgrow.frozen_far ⟨uo,0,none⟩ (by simp;omega) (Ne.symm no)).trans hfa;have hc7:w7.cell? ⟨uo,0,none⟩=some out:=(hgrow.cell_far ⟨uo,0,none⟩ (by simp;omega) (Ne.symm no)).trans o3))
          all_goals
            have hH7:=(hH2.step (((Below.refl w6.heap.size w6).alloc (Nat.le_refl _) (.cells (inoA y) 102)).drew)).grown (B:=uo+1) hgrow (fun q hq=>(hown2.lt q hq).1) (by intro p hp;simp at hp;rcases hp with rfl|rfl|rfl<;>(dsimp only;omega)) (by omega);have ho7:=(hgrow.block uo (by simp;omega) (Ne.symm no)).trans ho3;rw[flat_ino] at hown7;have hown8:=hown7.kept (grownBy_set w7 uo 0 (.slice (some ⟨gg,0,none⟩) (((g.I.take k).filter fun x=> !decide (x.id=id)).length+1) cap)) (Or.inr fun e=>by have:=(hown7.lt uo e).1;omega);have ho8:=heap_setCell_same w7 uo 0 _ _ (.slice (some ⟨gg,0,none⟩) (((g.I.take k).filter fun x=> !decide (x.id=id)).length+1) cap) ho7
            go_wp2_with fail
            go_roundg (gk-1)
            case measure=>omega
            case rel=>exact⟨k+1,_,by go_num,by omega,by omega,ho8,by rw[HS.out,List.length_append];exact hown8,hH7.set (by intro p hp;simp at hp;rcases hp with rfl|rfl|rfl<;>(dsimp only;omega)) (by omega) _ _⟩
      · have hk2:(g.I.take k)=g.I:=List.take_of_length_le (by omega)
        rw[hk2] at hown;obtain⟨L,hL⟩:∃L,L=g.I.filter fun x=> !decide (x.id=id):=⟨_,rfl⟩;rw[<-hL] at hown HR2;obtain⟨B,cc,rfl,-⟩:=inos_own rfl hown;have hown6:=own_set2 hown (b:=w.heap.size+1+1) (by omega) (.slice B L.length cc) (.slice A' m d);obtain⟨p1,p2⟩:=inos_in hown6;have hB6:Below w.heap.size w ((wr.setCell ⟨w.heap.size+1+1,0,none⟩ (.slice B L.length cc)).setCell ⟨w.heap.size+1+1,1,none⟩ (.slice A' m d)):=(hH.below.setCell (by dsimp only;omega) _).setCell (by dsimp only;omega) _;have HF:=Lib.hid (And.intro (And.intro p1 p2) hB6);clear hown hown6 p1 p2 hB6 hL hk2;obtain⟨o0,o1⟩:=two_cells ho;obtain⟨m0,m1⟩:=two_cells (g:=w.heap.size+1+1) (hH.at 0 rfl);obtain⟨f0,f1⟩:=two_free (g:=w.heap.size+1+1) (hH.at 0 rfl)
        go_wp2_with fail
        exact bodyPost_ret (v:=.tuple #[.agg #[.slice B L.length cc,.slice A' m d],.int .i64 0]) (by simp[results,Tryz.results142,go_sem,m0,m1]) rfl ⟨_,by rw[HR2.out],by rw[HR2.out];exact⟨B,_,cc,A',m,d,rfl,HF.out.1.1,HF.out.1.2.to,(HE.out.1.below HF.out.2).more HF.out.2.size,HE.out.2.to⟩,HF.out.2⟩
def setI(id:St)(mode:Int)(data:ByteArray)(x:Ino):Ino:=if x.id=id then {x with mode:=mode,data:=data} else x
theorem setG_eq(g:Gr)(id:St)(mode:Int)(data:ByteArray):setG g id mode data=if(getG g id).isSome=false then(g,3) else(⟨g.I.map (setI id mode data),g.E⟩,0):=by
 unfold setG
 cases h:getG g id with
 |none=>simp
 |some x=>rfl
def setK(id:St)(mode:Int)(data:ByteArray)(I:List Ino)(k:Nat):List Ino:=(I.take k).map (setI id mode data)++I.drop k
theorem setK_zero(id:St)(mode:Int)(data:ByteArray)(I:List Ino):setK id mode data I 0=I:=by simp[setK]
theorem setK_all(id:St)(mode:Int)(data:ByteArray)(I:List Ino)(k:Nat)(h:I.length<=k):setK id mode data I k=I.map (setI id mode data):=by
 unfold setK;rw[List.take_of_length_le h,List.drop_of_length_le h,List.append_nil]
theorem setK_len(id:St)(mode:Int)(data:ByteArray)(I:List Ino)(k:Nat):(setK id mode data I k).length=I.length:=by
 unfold setK;rw[List.length_append,List.length_map,<-List.length_append,List.take_append_drop]
theorem setK_at(id:St)(mode:Int)(data:ByteArray)(I:List Ino)(k:Nat)(h:k<I.length):(setK id mode data I k)[k]?=some I[k]:=by
 unfold setK;rw[List.getElem?_append_right (by rw[List.length_map,List.length_take];omega),List.length_map,List.length_take,show k-min k I.length=0 by omega,List.getElem?_drop,Nat.add_zero];exact List.getElem?_eq_getElem h
theorem setK_succ(id:St)(mode:Int)(data:ByteArray)(I:List Ino)(k:Nat)(h:k<I.length):setK id mode data I (k+1)=(setK id mode data I k).set k (setI id mode data I[k]):=by
 unfold setK;rw[List.take_succ_eq_append_getElem h,List.map_append];have hl:((I.take k).map (setI id mode data)).length=k:=by rw[List.length_map,List.length_take];omega
 rw[List.set_append_right _ _ (by omega),hl,Nat.sub_self,List.drop_eq_getElem_cons h,List.set_cons_zero,List.append_assoc]
 rfl
theorem flat_set(I:List Ino)(k:Nat)(h:k<I.length)(mode:Int)(data:ByteArray)(x:Ino)(hx:I[k]=x):
  ((flat (I.map inoA)).set (k*6+4) (.int .i64 mode)).set (k*6+5) (.string data)=flat ((I.set k {x with mode:=mode,data:=data}).map inoA):=by
 apply List.ext_getElem?;intro p;have hl:(flat (I.map inoA)).length=I.length*6:=by rw[flat_len ino_sizes,List.length_map]
 have hl2:(flat ((I.set k {x with mode:=mode,data:=data}).map inoA)).length=I.length*6:=by rw[flat_len ino_sizes,List.length_map,List.length_set]
 by_cases hp:p<I.length*6
 ·have hj:p/6<I.length:=by omega
  have hi:p%6<6:=Nat.mod_lt _ (by decide);have hpe:p=p/6*6+p%6:=by omega
  obtain⟨j,hjd⟩:∃j,j=p/6:=⟨_,rfl⟩;obtain⟨i,hid⟩:∃i,i=p%6:=⟨_,rfl⟩;rw[<-hjd,<-hid] at hpe;rw[<-hjd] at hj;rw[<-hid] at hi;subst hpe;have f1:=flat_at (k:=6) (ino_sizes (I:=I)) j (by rw[List.length_map];exact hj) i hi;have f2:=flat_at (k:=6) (ino_sizes (I:=I.set k {x with mode:=mode,data:=data})) j (by rw[List.length_map,List.length_set];exact hj) i hi;rw[f2];rw[List.getElem?_set,List.getElem?_set,f1,List.length_set,hl];by_cases hjk:j=k
  ·subst hjk;have hi6:i=0\/i=1\/i=2\/i=3\/i=4\/i=5:=by omega
   rcases hi6 with rfl|rfl|rfl|rfl|rfl|rfl<;>simp[inoA,hx]<;>omega
  ·rw[if_neg (by omega),if_neg (by omega)];simp[Ne.symm hjk]
 ·rw[List.getElem?_eq_none (by simp;omega),List.getElem?_eq_none (by omega)]
theorem own_write{W:World}{base u:Nat}{n cap:Nat}{I:List Ino}(h:W.ownsRow base 102 6 (.slice (some ⟨u,0,none⟩) n cap) n (flat (I.map inoA))){k:Nat}(hk:k<I.length)(mode:Int)(data:ByteArray):
  ((W.setCell ⟨u,k*6+4,none⟩ (.int .i64 mode)).setCell ⟨u,k*6+5,none⟩ (.string data)).ownsRow base 102 6 (.slice (some ⟨u,0,none⟩) n cap) n (flat ((I.set k {I[k] with mode:=mode,data:=data}).map inoA)):=by
 obtain⟨h1,h2⟩:=h;rcases h2 with ⟨h0,_⟩|⟨g,cap',cur,he,hb,hg,hnc,hcm,hsz,htk⟩
 ·cases h0
 ·injection he with e1 e2 e3
  injection e1 with e1
  injection e1 with e1
  subst e1 e3;refine⟨by rw[<-flat_set I k hk mode data I[k] rfl,List.length_set,List.length_set];exact h1,Or.inr ⟨u,cap,_,rfl,hb,heap_setCell_same _ _ _ _ _ _ (heap_setCell_same _ _ _ _ _ _ hg),hnc,hcm,by simp[hsz],?_⟩⟩;rw[<-flat_set I k hk mode data I[k] rfl,<-htk,Array.toList_setIfInBounds,Array.toList_setIfInBounds];rw[List.take_set,List.take_set]
end Go.Proofs.YtnnnkaobhkeocaaGreatDoor
