/-
 The walk of the document's own Untie (graphs).
-/
import Derived.Test.YtnnnkaobhkeocaaGreatDoorZX06
import Derived.Test.YtnnnkaobhkeocaaGreatDoorZ02
import Derived.Test.YtnnnkaobhkeocaaGreatDoorZX04
import Derived.Test.YtnnnkaobhkeocaaGreatDoorZX05
import Derived.Test.YtnnnkaobhkeocaaGreatDoorZX07
import Derived.Test.YtnnnkaobhkeocaaGreatDoorZ01
import Derived.Test.YtnnnkaobhkeocaaGreatDoorZ00
namespace Go.Proofs.YtnnnkaobhkeocaaGreatDoor
open Go.RowKit StampMath GraphMath OpMath
def UntPost(N:Nat->Prop)(r:Gr×St×Int)(w:World)(e:Ending)(w':World):Prop:=
 ∃v,e=.returned (.tuple #[v,.agg (stA r.2.1),.int .i64 r.2.2])/\GrAt (MoreN N w) w' v r.1/\Below w.heap.size w w'
theorem untieG_eq(g:Gr)(d:St)(nm:ByteArray):untieG g d nm=if(lookE g.E d nm).isSome=false then(g,(0,0),3) else(⟨g.I,g.E.filter fun e=>!isAt d nm e⟩,(lookE g.E d nm).getD (0,0),0):=by
 unfold untieG
 cases h:lookE g.E d nm with
 |none=>simp
 |some x=>rfl
set_option maxRecDepth 100000 in
set_option maxHeartbeats 3200000 in
theorem refUntie(N:Nat->Prop)(v:Value)(g:Gr)(id:St)(nm:ByteArray)(hm:g.E.length<=1000)(w:World)(hv:GrAt N w v g):
    Calls Tryz.prog 103 #[v,.agg (stA id),.string nm] w (UntPost N (untieG g id nm) w):=by
  obtain⟨i0,hi0,hz0,hz1,hz2⟩:=info_parts ent_infos;have HV:=Lib.hid hv;obtain⟨A,n,c,A',m,d,rfl,hI,hc1,hE,hc2⟩:=hv;have hl':=hE.len;obtain⟨x,hx⟩:∃x,x=(lookE g.E id nm).getD (0,0):=⟨_,rfl⟩;obtain⟨is,his⟩:∃is,is=(lookE g.E id nm).isSome:=⟨_,rfl⟩;have HL:Hid (∀W:World,Below w.heap.size w W->Calls Tryz.prog 102 #[.agg #[.slice A n c,.slice A' m d],.agg #[.int .i64 id.1,.int .i64 id.2],.string nm] W fun z w'=>z=.returned (.tuple #[.agg #[.int .i64 x.1,.int .i64 x.2],.bool is])/\Below W.heap.size W w'):=fun W hW=>by
    rw[hx,his];exact refLook (.slice A n c) A' m d g.E id nm (by have:=hE.len;omega) W ((hE.below hW).more hW.size)
  obtain⟨R,hR⟩:∃R,R=untieG g id nm:=⟨_,rfl⟩;have hunt:=untieG_eq g id nm;rw[<-hR,<-hx,<-his] at hunt;rw[<-hR];have HE:Hid (EntsIn w w.heap.size A' m g.E):=hE;have HI:Hid (InosIn w w.heap.size A n g.I/\Cap N A n c):=⟨hI,hc1⟩;have HR:=Lib.hid hunt;clear hI hE hc1 hc2 hx his hR hunt;have hb0:Held w [(w.heap.size+1+1+1,.cells #[.int .i64 0,.int .i64 0] 24),(w.heap.size+1+1,.cells #[.slice none 0 0,.slice none 0 0] 31),(w.heap.size+1,.cells (stA id) 24),(w.heap.size,.cells #[.slice A n c,.slice A' m d] 31)]
    ((((w.alloc (.cells #[.slice A n c,.slice A' m d] 31)).alloc (.cells (stA id) 24)).alloc (.cells #[.slice none 0 0,.slice none 0 0] 31)).alloc (.cells #[.int .i64 0,.int .i64 0] 24)):=
    ((((Held.refl w).alloc (.cells #[.slice A n c,.slice A' m d] 31) rfl).alloc (.cells (stA id) 24) (by simp)).alloc (.cells #[.slice none 0 0,.slice none 0 0] 31) (by simp)).alloc (.cells #[.int .i64 0,.int .i64 0] 24) (by simp)
  unfold stA
  go_enter Tryz.func103,Tryz.ntmps103
  go_upto_region 1 with fail
  change Code.wp _ _ _ _ ((((w.alloc (.cells #[.slice A n c,.slice A' m d] 31)).alloc (.cells (stA id) 24)).alloc (.cells #[.slice none 0 0,.slice none 0 0] 31)).alloc (.cells #[.int .i64 0,.int .i64 0] 24));generalize (((w.alloc (.cells #[.slice A n c,.slice A' m d] 31)).alloc (.cells (stA id) 24)).alloc (.cells #[.slice none 0 0,.slice none 0 0] 31)).alloc (.cells #[.int .i64 0,.int .i64 0] 24)=w0 at hb0 ⊢;obtain⟨c1,c2⟩:=two_cells (g:=w.heap.size) (hb0.at 3 rfl);obtain⟨e0,e1⟩:=two_cells (g:=w.heap.size+1) (hb0.at 2 rfl)
  go_wp2_with fail
  refine(HL.out _ hb0.below).mono ?_;rintro z w2 ⟨rfl,hb2⟩;have hH2:=hb0.step hb2;clear hb0 hb2 c1 c2 e0 e1
  go_upto_region 2 with fail
  change Code.wp _ _ _ _ (w2.alloc (.cells #[.int .i64 x.1,.int .i64 x.2] 24));obtain⟨ux,hux⟩:∃u,u=w2.heap.size:=⟨_,rfl⟩;have hlx:w.heap.size+1+1+1<ux:=by rw[hux];exact heap_lt (hH2.at 0 rfl)
  have hH3:=hH2.alloc (.cells #[.int .i64 x.1,.int .i64 x.2] 24) hux.symm;rw[<-hux];generalize w2.alloc (.cells #[.int .i64 x.1,.int .i64 x.2] 24)=w3 at hH3 ⊢;clear hH2 hux;obtain⟨c1,c2⟩:=two_cells (g:=w.heap.size) (hH3.at 4 rfl)
  cases is
  · have HR1:Hid (R=(g,(0,0),3)):=HR.out.trans (if_pos rfl)
    clear HR;obtain⟨m0,m1⟩:=two_cells (g:=w.heap.size+1+1) (hH3.at 2 rfl);obtain⟨f0,f1⟩:=two_free (g:=w.heap.size+1+1) (hH3.at 2 rfl);obtain⟨m2,m3⟩:=two_cells (g:=w.heap.size+1+1+1) (hH3.at 1 rfl);obtain⟨f2,f3⟩:=two_free (g:=w.heap.size+1+1+1) (hH3.at 1 rfl)
    go_wp2_with fail
    have hB6:=(((hH3.below.setCell (p:=⟨w.heap.size+1+1,0,none⟩) (by dsimp only;omega) (.slice A n c)).setCell (p:=⟨w.heap.size+1+1,1,none⟩) (by dsimp only;omega) (.slice A' m d)).setCell (p:=⟨w.heap.size+1+1+1,0,none⟩) (by dsimp only;omega) (.int .i64 0)).setCell (p:=⟨w.heap.size+1+1+1,1,none⟩) (by dsimp only;omega) (.int .i64 0);exact bodyPost_ret (v:=.tuple #[.agg #[.slice A n c,.slice A' m d],.agg #[.int .i64 0,.int .i64 0],.int .i64 3]) (by simp[results,Tryz.results103,go_sem,m0,m1,m2,m3]) rfl ⟨_,by rw[HR1.out];rfl,by rw[HR1.out];exact HV.out.step hB6,hB6⟩
  have HR2:Hid (R=(⟨g.I,g.E.filter fun e=> !isAt id nm e⟩,x,0)):=HR.out.trans (if_neg (by decide));clear HR HV
  go_upto_region 5 with fail
  change Code.wp _ _ _ _ (w3.alloc (.cells #[.slice A n c,.slice none 0 0] 31));obtain⟨uo,huo⟩:∃u,u=w3.heap.size:=⟨_,rfl⟩;have hlo:ux<uo:=by rw[huo];exact heap_lt (hH3.at 0 rfl)
  have ho0:(w3.alloc (.cells #[.slice A n c,.slice none 0 0] 31)).heap[uo]?=some (.cells #[.slice A n c,.slice none 0 0] 31 (0,0)):=by rw[huo];exact heap_alloc_new _ _
  have hH5:=(hH3.step ((Below.refl w3.heap.size w3).alloc (Nat.le_refl _) (.cells #[.slice A n c,.slice none 0 0] 31)));rw[<-huo];generalize w3.alloc (.cells #[.slice A n c,.slice none 0 0] 31)=w5 at hH5 ho0 ⊢;clear hH3 huo c1 c2
  go_wp2_with fail
  go_loopg [12] (m+1) (fun gk i wr=>∃(k:Nat)(out:Value),i=.int .i64 (k:Int)/\gk+k=m+1/\k<=m/\wr.heap[uo]?=some (.cells #[.slice A n c,out] 31 (0,0))/\wr.ownsRow (uo+1) 126 5 out ((g.E.take k).filter fun e=> !isAt id nm e).length (flat (((g.E.take k).filter fun e=> !isAt id nm e).map entA))/\
    Held w [(ux,.cells #[.int .i64 x.1,.int .i64 x.2] 24),(w.heap.size+1+1+1,.cells #[.int .i64 0,.int .i64 0] 24),(w.heap.size+1+1,.cells #[.slice none 0 0,.slice none 0 0] 31),(w.heap.size+1,.cells (stA id) 24),(w.heap.size,.cells #[.slice A n c,.slice A' m d] 31)] wr)
  case atStart=>exact⟨0,_,rfl,by omega,by omega,ho0,World.ownsRow_nil _ _ _ _,hH5⟩
  case round=>
    obtain⟨k,out,rfl,hgk,hk,ho,hown,hH⟩:=hrel;clear hH5 ho0;have c2:=(two_cells (g:=w.heap.size) (hH.at 4 rfl)).2;obtain⟨e0,e1⟩:=two_cells (g:=w.heap.size+1) (hH.at 3 rfl);by_cases hlt:k<m
    · obtain⟨gi,o,rfl,hg,hrow⟩:=HE.out.row (by omega)
      have hsn:=filter_snoc (fun e:Ent=> !isAt id nm e) g.E k (by omega);have hle:((g.E.take k).filter fun e=> !isAt id nm e).length<=1000:=by have:=List.length_filter_le (fun e:Ent=> !isAt id nm e) (g.E.take k);rw[List.length_take] at this;omega
      have hrk:=fun W hb=>(hrow k (by omega)).below (B:=w.heap.size) (W':=W) hb hg;obtain⟨y,hy⟩:∃x,g.E[k]=x:=⟨_,rfl⟩;rw[hy] at hrk hsn;clear hrow hy;obtain⟨p0,p1,p2,p3,p4⟩:=hrk wr hH.below;have HRow:=Lib.hid hrk;clear hrk;have hs:=names_same y.name nm;have hcase:(isAt id nm y=true/\y.dir=id/\y.name=nm)\/(isAt id nm y=false/\(¬y.dir=id\/(y.dir=id/\¬y.name=nm))):=by
        unfold isAt;by_cases h1:y.dir=id
        · by_cases h2:y.name=nm
          · exact Or.inl ⟨by simp[h1,h2],h1,h2⟩
          · exact Or.inr ⟨by simp[h2],Or.inr ⟨h1,h2⟩⟩
        · exact Or.inr ⟨by simp[h1],Or.inl h1⟩
      rcases hcase with ⟨hat,h1,h2⟩|⟨hat,hcase⟩
      · have hv:=eqSt_yes h1
        rw[decide_eq_true h2] at hs;rw[if_neg (by simp[hat])] at hsn;have HS:=Lib.hid hsn;clear hsn h1 h2 hat
        go_wp2_with fail
        go_quiet (fail)
        go_wp2_with fail
        go_roundg (gk-1)
        case measure=>omega
        case rel=>exact⟨k+1,out,by go_num,by omega,by omega,ho,by rw[HS.out];exact hown,hH.drewN _⟩
      · rw[if_pos (by simp[hat])] at hsn
        have HS:=Lib.hid hsn;clear hsn hat;have hcase2:(∀W:World,(Op.equalIn 10000 24 (.agg #[.int .i64 y.dir.1,.int .i64 y.dir.2]) (.agg #[.int .i64 id.1,.int .i64 id.2])).run Tryz.prog W=.ok false W)\/((∀W:World,(Op.equalIn 10000 24 (.agg #[.int .i64 y.dir.1,.int .i64 y.dir.2]) (.agg #[.int .i64 id.1,.int .i64 id.2])).run Tryz.prog W=.ok true W)/\(y.name.toList==nm.toList)=false):=by
          rcases hcase with h|⟨h1,h2⟩
          · exact Or.inl (eqSt_no h)
          · exact Or.inr ⟨eqSt_yes h1,by rw[hs,decide_eq_false h2]⟩
        clear hcase hs;rcases hcase2 with hv|⟨hv,hs⟩
        all_goals
          go_upto_region 8 with fail
          go_quiet (fail)
          have hH2:=hH.drewN nq;have hown2:(wr.drewN nq).ownsRow (uo+1) 126 5 out ((g.E.take k).filter fun e=> !isAt id nm e).length (flat (((g.E.take k).filter fun e=> !isAt id nm e).map entA)):=hown;have ho2:(wr.drewN nq).heap[uo]?=some (.cells #[.slice A n c,out] 31 (0,0)):=ho;generalize wr.drewN nq=w6 at hH2 hown2 ho2 ⊢;clear c2 e0 e1 p0 p1 p2 p3 p4 hH hown ho hv;have c2:=(two_cells (g:=w.heap.size) (hH2.at 4 rfl)).2;have o1:=(two_cells ho2).2;have f1:=(two_free ho2).2;obtain⟨p0,p1,p2,p3,p4⟩:=HRow.out w6 hH2.below;have hm1:((g.E.take k).filter fun e=> !isAt id nm e).length+1<=maxLen:=by unfold maxLen;omega
          have hi0':(0:Int)<=(k:Int):=Int.natCast_nonneg _;have hi1:(k:Int)<(m:Int):=by omega
          have no:out.ownBlock≠some uo:=fun e=>by have:=(hown2.lt uo e).1;omega
          have lo:=heap_lt ho2;have ho3:((w6.alloc (.cells (entA y) 126)).drew).heap[uo]?=some (.cells #[.slice A n c,out] 31 (0,0)):=(heap_alloc_old w6 _ lo).trans ho2;have hfa:=(two_free ho3).2;have o3:((w6.alloc (.cells #[.int .i64 y.dir.1,.int .i64 y.dir.2,.string y.name,.int .i64 y.ino.1,.int .i64 y.ino.2] 126)).drew).cell? ⟨uo,1,none⟩=some out:=(two_cells ho3).2
          go_upto_region 9 with fail
          go_region_law
            ((refine step_append_lies _ (by rfl) (.tmp 53) (.tmp 59) _ (by rfl) (uo+1) 126 i0 _ 5 48 Tryz.underlying29 hi0 hz0 hz1 hz2 rfl (by decide) out _ _ (by rfl) ((hown2.alloc _).drew)
                    ⟨w6.heap.size,0,none⟩ 1 1 (entA y).toList (by rfl) (by rfl) (World.news_of_block (cs:=entA y) (t:=126) (fr:=(0,0)) (heap_alloc_new w6 _)) (ent_one y)
                    (by omega) hm1 (by omega) (by simp;omega) (w6.heap.size+1) (by simp) ?_;intro gg cap w7 hown7 hgrow hat hlt7;have hf7:w7.frozen? ⟨uo,1,none⟩=false:=(hgrow.frozen_far ⟨uo,1,none⟩ (by simp;omega) (Ne.symm no)).trans hfa;have hc7:w7.cell? ⟨uo,1,none⟩=some out:=(hgrow.cell_far ⟨uo,1,none⟩ (by simp;omega) (Ne.symm no)).trans o3))
          all_goals
            have hH7:=(hH2.step (((Below.refl w6.heap.size w6).alloc (Nat.le_refl _) (.cells (entA y) 126)).drew)).grown (B:=uo+1) hgrow (fun q hq=>(hown2.lt q hq).1) (by intro p hp;simp at hp;rcases hp with rfl|rfl|rfl|rfl|rfl<;>(dsimp only;omega)) (by omega);have ho7:=(hgrow.block uo (by simp;omega) (Ne.symm no)).trans ho3;rw[flat_ent] at hown7;have hown8:=hown7.kept (grownBy_set w7 uo 1 (.slice (some ⟨gg,0,none⟩) (((g.E.take k).filter fun e=> !isAt id nm e).length+1) cap)) (Or.inr fun e=>by have:=(hown7.lt uo e).1;omega);have ho8:=heap_setCell_same w7 uo 1 _ _ (.slice (some ⟨gg,0,none⟩) (((g.E.take k).filter fun e=> !isAt id nm e).length+1) cap) ho7
            go_wp2_with fail
            go_roundg (gk-1)
            case measure=>omega
            case rel=>exact⟨k+1,_,by go_num,by omega,by omega,ho8,by rw[HS.out,List.length_append];exact hown8,hH7.set (by intro p hp;simp at hp;rcases hp with rfl|rfl|rfl|rfl|rfl<;>(dsimp only;omega)) (by omega) _ _⟩
    · have hk2:(g.E.take k)=g.E:=List.take_of_length_le (by omega)
      rw[hk2] at hown;obtain⟨L,hL⟩:∃L,L=g.E.filter fun e=> !isAt id nm e:=⟨_,rfl⟩;rw[<-hL] at hown HR2;obtain⟨B,cc,rfl,-⟩:=ents_own rfl hown;obtain⟨o0,o1⟩:=two_cells ho;obtain⟨d0,d1⟩:=two_cells (g:=ux) (hH.at 0 rfl);obtain⟨m0,m1⟩:=two_cells (g:=w.heap.size+1+1) (hH.at 2 rfl);obtain⟨f0,f1⟩:=two_free (g:=w.heap.size+1+1) (hH.at 2 rfl);obtain⟨m2,m3⟩:=two_cells (g:=w.heap.size+1+1+1) (hH.at 1 rfl);obtain⟨f2,f3⟩:=two_free (g:=w.heap.size+1+1+1) (hH.at 1 rfl);have q4:∀a b c' d':Value,(((((wr.setCell ⟨w.heap.size+1+1,0,none⟩ a).setCell ⟨w.heap.size+1+1,1,none⟩ b).setCell ⟨w.heap.size+1+1+1,0,none⟩ c').setCell ⟨w.heap.size+1+1+1,1,none⟩ d').ownsRow (uo+1) 126 5 (.slice B L.length cc) L.length (flat (L.map entA))/\
          Below w.heap.size w ((((wr.setCell ⟨w.heap.size+1+1,0,none⟩ a).setCell ⟨w.heap.size+1+1,1,none⟩ b).setCell ⟨w.heap.size+1+1+1,0,none⟩ c').setCell ⟨w.heap.size+1+1+1,1,none⟩ d'))/\
          (((((wr.setCell ⟨w.heap.size+1+1+1,0,none⟩ c').setCell ⟨w.heap.size+1+1+1,1,none⟩ d').setCell ⟨w.heap.size+1+1,0,none⟩ a).setCell ⟨w.heap.size+1+1,1,none⟩ b).ownsRow (uo+1) 126 5 (.slice B L.length cc) L.length (flat (L.map entA))/\
          Below w.heap.size w ((((wr.setCell ⟨w.heap.size+1+1+1,0,none⟩ c').setCell ⟨w.heap.size+1+1+1,1,none⟩ d').setCell ⟨w.heap.size+1+1,0,none⟩ a).setCell ⟨w.heap.size+1+1,1,none⟩ b)):=fun a b c' d'=>
        ⟨⟨own_set2 (own_set2 hown (by omega) a b) (by omega) c' d',(((hH.below.setCell (by dsimp only;omega) _).setCell (by dsimp only;omega) _).setCell (by dsimp only;omega) _).setCell (by dsimp only;omega) _⟩,
          own_set2 (own_set2 hown (by omega) c' d') (by omega) a b,(((hH.below.setCell (by dsimp only;omega) _).setCell (by dsimp only;omega) _).setCell (by dsimp only;omega) _).setCell (by dsimp only;omega) _⟩
      have Q4:=Lib.hid q4;have hBd:=hH.below;clear q4 hown hk2 hL ho
      go_upto_region 10 with fail
      go_region
      all_goals
        go_wp2_with fail
        exact bodyPost_ret (v:=.tuple #[.agg #[.slice A n c,.slice B L.length cc],.agg #[.int .i64 x.1,.int .i64 x.2],.int .i64 0]) (by simp[results,Tryz.results103,go_sem,m0,m1,m2,m3]) rfl (by
          first
            | (have h:=(Q4.out (.slice A n c) (.slice B L.length cc) (.int .i64 x.1) (.int .i64 x.2)).1
               obtain⟨p1,p2⟩:=ents_in h.1
               exact⟨_,by rw[HR2.out];rfl,by rw[HR2.out];exact GrAt.step (N:=MoreN N w) (v:=.agg #[.slice A n c,.slice B L.length cc]) (g:=⟨g.I,L⟩) ⟨A,n,c,B,_,cc,rfl,(HI.out.1.below h.2).more h.2.size,HI.out.2.to,p1,p2.to⟩ ((Below.refl _ _).drew),h.2.drew⟩)
            | (have h:=(Q4.out (.slice A n c) (.slice B L.length cc) (.int .i64 x.1) (.int .i64 x.2)).2
               obtain⟨p1,p2⟩:=ents_in h.1
               exact⟨_,by rw[HR2.out];rfl,by rw[HR2.out];exact GrAt.step (N:=MoreN N w) (v:=.agg #[.slice A n c,.slice B L.length cc]) (g:=⟨g.I,L⟩) ⟨A,n,c,B,_,cc,rfl,(HI.out.1.below h.2).more h.2.size,HI.out.2.to,p1,p2.to⟩ ((Below.refl _ _).drew),h.2.drew⟩))
end Go.Proofs.YtnnnkaobhkeocaaGreatDoor
namespace Go.Proofs.YtnnnkaobhkeocaaGreatDoor
open Go.RowKit StampMath GraphMath
theorem want_put{N:Nat->Prop}{w W w1:World}{v:Value}{g:Gr}{b:Nat}(hb:w.heap.size<=b)(hW:W.heap.size=b+1)(hB:Below w.heap.size w W)(h:GrAt (MoreN (fun i=>N i/\i<w.heap.size) W) w1 v g/\Below W.heap.size W w1)(x y:Value):
  GrAt (MoreN N w) ((w1.setCell ⟨b,0,none⟩ x).setCell ⟨b,1,none⟩ y) v g/\Below w.heap.size w ((w1.setCell ⟨b,0,none⟩ x).setCell ⟨b,1,none⟩ y):=by
 refine⟨h.1.keep (fun i hi=>?_) (by simp) (fun i hi=>hi.elim (fun q=>.inl q.1) fun q=>.inr (Nat.le_trans (by omega) q)),((hB.trans (h.2.mono (by omega))).setCell hb _).setCell hb _⟩;have hne:i≠b:=by
  rcases hi with hi|hi
  ·have:=hi.2;omega
  ·omega
 rw[heap_setCell_other _ _ _ _ hne,heap_setCell_other _ _ _ _ hne]
theorem want_alloc{N:Nat->Prop}{W w':World}{v:Value}{g:Gr}(h:GrAt N w' v g/\Below W.heap.size W w')(o:Obj):GrAt N (w'.alloc o) v g/\Below W.heap.size W (w'.alloc o):=
 ⟨h.1.step ((Below.refl _ _).alloc (Nat.le_refl _) o),h.2.alloc h.2.size o⟩
theorem put_cells{w1:World}{b:Nat}{x y x' y':Value}{T:TypeId}(h:w1.heap[b]?=some (.cells #[x,y] T (0,0)))(o:Obj):
  (((w1.setCell ⟨b,0,none⟩ x').setCell ⟨b,1,none⟩ y').alloc o).cell? ⟨b,0,none⟩=some x'/\(((w1.setCell ⟨b,0,none⟩ x').setCell ⟨b,1,none⟩ y').alloc o).cell? ⟨b,1,none⟩=some y':=by
 have h2:((w1.setCell ⟨b,0,none⟩ x').setCell ⟨b,1,none⟩ y').heap[b]?=some (.cells #[x',y'] T (0,0)):=by
  rw[heap_setCell_same _ _ _ _ _ _ (heap_setCell_same _ _ _ _ _ _ h)]
  rfl
 exact two_cells ((heap_alloc_old _ _ (heap_lt h2)).trans h2)
end Go.Proofs.YtnnnkaobhkeocaaGreatDoor
namespace Go.Proofs.YtnnnkaobhkeocaaGreatDoor
open Go.RowKit StampMath GraphMath OpMath
def G1Post(N:Nat->Prop)(r:Gr)(w:World)(e:Ending)(w':World):Prop:=
 ∃(A:Option Addr)(n c:Nat)(A':Option Addr)(m d:Nat),e=.returned (.agg #[.slice A n c,.slice A' m d])/\GrAt (MoreN N w) w' (.agg #[.slice A n c,.slice A' m d]) r/\Below w.heap.size w w'
theorem GraphMath.Gr.ok.len0{g:Gr}(h:g.ok):0<g.I.length:=by
 obtain⟨x,hx,_⟩:=h.root;exact List.length_pos_of_mem hx
theorem GraphMath.Gr.ok.lenI{g:Gr}(h:g.ok):g.I.length<=1000:=Nat.le_trans h.few (by decide)
theorem GraphMath.Gr.ok.lenE{g:Gr}(h:g.ok):g.E.length<=1000:=Nat.le_trans h.entsFew (by decide)
set_option maxRecDepth 100000 in
set_option maxHeartbeats 800000 in
theorem refTie1(N:Nat->Prop)(v:Value)(g:Gr)(at':St)(nm:ByteArray)(ino:St)(hg:g.ok)(hs:nm.size<=9223372036854775807)(w:World)(hv:GrAt N w v g):
  Calls Tryz.prog 99 #[v,.agg (stA at'),.string nm,.agg (stA ino)] w (G1Post N (tie1 g at' nm ino) w):=by
 obtain⟨A,n,c,A',m,d,rfl⟩:=hv.form;have hbox:Below w.heap.size w ((((w.alloc (.cells #[.slice A n c,.slice A' m d] 31)).alloc (.cells #[.int .i64 at'.1,.int .i64 at'.2] 24)).alloc (.cells #[.int .i64 ino.1,.int .i64 ino.2] 24)).alloc (.cells #[.slice none 0 0,.slice none 0 0] 31)):=(((((Below.refl w.heap.size w).alloc (by simp<;>omega) _).alloc (by simp<;>omega) _).alloc (by simp<;>omega) _).alloc (by simp<;>omega) _);have hv2:=hv.live.step (N':=fun i=>N i/\i<w.heap.size) hbox;have hx:=heap_alloc_new (((w.alloc (.cells #[.slice A n c,.slice A' m d] 31)).alloc (.cells #[.int .i64 at'.1,.int .i64 at'.2] 24)).alloc (.cells #[.int .i64 ino.1,.int .i64 ino.2] 24)) (.cells #[.slice none 0 0,.slice none 0 0] 31);rw[World.size_alloc,World.size_alloc,World.size_alloc] at hx;have HC:=Lib.hid (refTie (fun i=>N i/\i<w.heap.size) _ g ⟨at',nm,ino⟩ hg.lenI hg.lenE hs _ hv2);have HX:Hid (((((w.alloc (.cells #[.slice A n c,.slice A' m d] 31)).alloc (.cells #[.int .i64 at'.1,.int .i64 at'.2] 24)).alloc (.cells #[.int .i64 ino.1,.int .i64 ino.2] 24)).alloc (.cells #[.slice none 0 0,.slice none 0 0] 31)).heap[(w.heap.size+1+1+1)]?=some (.cells #[.slice none 0 0,.slice none 0 0] 31 (0,0))):=hx;have HB:Hid (Below w.heap.size w ((((w.alloc (.cells #[.slice A n c,.slice A' m d] 31)).alloc (.cells #[.int .i64 at'.1,.int .i64 at'.2] 24)).alloc (.cells #[.int .i64 ino.1,.int .i64 ino.2] 24)).alloc (.cells #[.slice none 0 0,.slice none 0 0] 31))):=hbox;have HSZ:Hid (((((w.alloc (.cells #[.slice A n c,.slice A' m d] 31)).alloc (.cells #[.int .i64 at'.1,.int .i64 at'.2] 24)).alloc (.cells #[.int .i64 ino.1,.int .i64 ino.2] 24)).alloc (.cells #[.slice none 0 0,.slice none 0 0] 31)).heap.size=(w.heap.size+1+1+1)+1):=Lib.hid (by simp only[World.size_alloc]);clear hv hv2 hg hx hbox hs;unfold entA at HC;unfold tie1 stA
 go_enter Tryz.func99,Tryz.ntmps99
 go_wp2_with fail
 refine HC.out.mono ?_;rintro e w1 ⟨v,rfl,q⟩;obtain⟨B,k,l,B',k',l',rfl⟩:=q.1.form;have hx1:=(q.2.block _ (heap_lt HX.out)).trans HX.out;have hz:=heap_lt hx1;have q2:=Lib.hid (want_alloc (want_put (N:=N) (b:=(w.heap.size+1+1+1)) (by omega) HSZ.out HB.out q (.slice B k l) (.slice B' k' l')) (.cells #[.slice B k l,.slice B' k' l'] 31));obtain⟨m2,m3⟩:=two_cells hx1;obtain⟨f2,f3⟩:=two_free hx1;obtain⟨p0,p1⟩:=put_cells (x':=.slice B k l) (y':=.slice B' k' l') hx1 (.cells #[.slice B k l,.slice B' k' l'] 31);clear q HC hx1 HX HB
 go_wp2_with fail
 exact bodyPost_ret (v:=.agg #[.slice B k l,.slice B' k' l']) (by simp[results,Tryz.results99,go_sem,p0,p1]) rfl ⟨_,_,_,_,_,_,rfl,q2.out⟩
set_option maxRecDepth 100000 in
set_option maxHeartbeats 800000 in
theorem refSet1(N:Nat->Prop)(v:Value)(g:Gr)(id:St)(mode:Int)(data:ByteArray)(hg:g.ok)(w:World)(hv:GrAt N w v g):
  Calls Tryz.prog 100 #[v,.agg (stA id),.int .i64 mode,.string data] w (G1Post N (setG g id mode data).1 w):=by
 obtain⟨A,n,c,A',m,d,rfl⟩:=hv.form;have hbox:Below w.heap.size w (((w.alloc (.cells #[.slice A n c,.slice A' m d] 31)).alloc (.cells #[.int .i64 id.1,.int .i64 id.2] 24)).alloc (.cells #[.slice none 0 0,.slice none 0 0] 31)):=((((Below.refl w.heap.size w).alloc (by simp<;>omega) _).alloc (by simp<;>omega) _).alloc (by simp<;>omega) _);have hv2:=hv.live.step (N':=fun i=>N i/\i<w.heap.size) hbox;have hx:=heap_alloc_new ((w.alloc (.cells #[.slice A n c,.slice A' m d] 31)).alloc (.cells #[.int .i64 id.1,.int .i64 id.2] 24)) (.cells #[.slice none 0 0,.slice none 0 0] 31);rw[World.size_alloc,World.size_alloc] at hx;have HC:=Lib.hid (refSet (fun i=>N i/\i<w.heap.size) _ g id mode data hg.len0 hg.lenI hg.lenE _ hv2);have HX:Hid ((((w.alloc (.cells #[.slice A n c,.slice A' m d] 31)).alloc (.cells #[.int .i64 id.1,.int .i64 id.2] 24)).alloc (.cells #[.slice none 0 0,.slice none 0 0] 31)).heap[(w.heap.size+1+1)]?=some (.cells #[.slice none 0 0,.slice none 0 0] 31 (0,0))):=hx;have HB:Hid (Below w.heap.size w (((w.alloc (.cells #[.slice A n c,.slice A' m d] 31)).alloc (.cells #[.int .i64 id.1,.int .i64 id.2] 24)).alloc (.cells #[.slice none 0 0,.slice none 0 0] 31))):=hbox;have HSZ:Hid ((((w.alloc (.cells #[.slice A n c,.slice A' m d] 31)).alloc (.cells #[.int .i64 id.1,.int .i64 id.2] 24)).alloc (.cells #[.slice none 0 0,.slice none 0 0] 31)).heap.size=(w.heap.size+1+1)+1):=Lib.hid (by simp only[World.size_alloc]);clear hv hv2 hg hx hbox;unfold stA at HC ⊢
 go_enter Tryz.func100,Tryz.ntmps100
 go_wp2_with fail
 refine HC.out.mono ?_;rintro e w1 ⟨v,rfl,q⟩;obtain⟨B,k,l,B',k',l',rfl⟩:=q.1.form;have hx1:=(q.2.block _ (heap_lt HX.out)).trans HX.out;have hz:=heap_lt hx1;have q2:=Lib.hid (want_alloc (want_put (N:=N) (b:=(w.heap.size+1+1)) (by omega) HSZ.out HB.out q (.slice B k l) (.slice B' k' l')) (.cells #[.slice B k l,.slice B' k' l'] 31));obtain⟨m2,m3⟩:=two_cells hx1;obtain⟨f2,f3⟩:=two_free hx1;obtain⟨p0,p1⟩:=put_cells (x':=.slice B k l) (y':=.slice B' k' l') hx1 (.cells #[.slice B k l,.slice B' k' l'] 31);clear q HC hx1 HX HB
 go_wp2_with fail
 exact bodyPost_ret (v:=.agg #[.slice B k l,.slice B' k' l']) (by simp[results,Tryz.results100,go_sem,p0,p1]) rfl ⟨_,_,_,_,_,_,rfl,q2.out⟩
set_option maxRecDepth 100000 in
set_option maxHeartbeats 1600000 in
theorem refGone(N:Nat->Prop)(v:Value)(g:Gr)(at':St)(nm:ByteArray)(hg:g.ok)(w:World)(hv:GrAt N w v g):
  Calls Tryz.prog 101 #[v,.agg (stA at'),.string nm] w (G1Post N (goneG g at' nm) w):=by
 obtain⟨A,n,c,A',m,d,rfl⟩:=hv.form;have hbox:Below w.heap.size w (((w.alloc (.cells #[.slice A n c,.slice A' m d] 31)).alloc (.cells #[.int .i64 at'.1,.int .i64 at'.2] 24)).alloc (.cells #[.slice none 0 0,.slice none 0 0] 31)):=(((Below.refl w.heap.size w).alloc (by simp<;>omega) _).alloc (by simp<;>omega) _).alloc (by simp<;>omega) _;have hv2:=hv.live.step (N':=fun i=>N i/\i<w.heap.size) hbox;have hx:=heap_alloc_new ((w.alloc (.cells #[.slice A n c,.slice A' m d] 31)).alloc (.cells #[.int .i64 at'.1,.int .i64 at'.2] 24)) (.cells #[.slice none 0 0,.slice none 0 0] 31);rw[World.size_alloc,World.size_alloc] at hx;have HC:=Lib.hid (refUntie (fun i=>N i/\i<w.heap.size) _ g at' nm hg.lenE _ hv2);have hok:=hg.untie at' nm;have hgone:goneG g at' nm=if linksE (untieG g at' nm).1.E (untieG g at' nm).2.1=0 then(dropG (untieG g at' nm).1 (untieG g at' nm).2.1).1 else(untieG g at' nm).1:=rfl;unfold UntPost at HC;generalize goneG g at' nm=r at hgone ⊢;generalize (untieG g at' nm).1=u at HC hok hgone;generalize (untieG g at' nm).2.1=id at HC hgone;generalize (untieG g at' nm).2.2=er at HC;have HG:=Lib.hid hgone;have HX:=Lib.hid hx;have HB:=Lib.hid hbox;have HOK:=Lib.hid hok;clear hv hv2 hg hx hbox hgone hok;unfold stA at HC ⊢
 go_enter Tryz.func101,Tryz.ntmps101
 go_wp2_with fail
 refine HC.out.mono ?_;rintro e w1 ⟨v,rfl,q,hb1⟩;obtain⟨B,k,l,B',k',l',rfl⟩:=q.form;have Q:=Lib.hid q;have HB1:=Lib.hid hb1;clear HC q hb1
 go_upto_region 2 with fail
 have hsz:((((w.alloc (.cells #[.slice A n c,.slice A' m d] 31)).alloc (.cells #[.int .i64 at'.1,.int .i64 at'.2] 24)).alloc (.cells #[.slice none 0 0,.slice none 0 0] 31))).heap.size=w.heap.size+1+1+1:=by simp only[World.size_alloc]
 generalize ((w.alloc (.cells #[.slice A n c,.slice A' m d] 31)).alloc (.cells #[.int .i64 at'.1,.int .i64 at'.2] 24)).alloc (.cells #[.slice none 0 0,.slice none 0 0] 31)=w0 at hsz HB1 Q HX HB;have hx1:=(HB1.out.block _ (heap_lt HX.out)).trans HX.out;have hB1:=below_step HB.out HB1.out;have hbl:w.heap.size+1+1<w1.heap.size:=heap_lt hx1;have h01:=HB1.out.size;have hA:=((Below.refl w1.heap.size w1).alloc (Nat.le_refl _) (.cells #[.slice B k l,.slice B' k' l'] 31)).alloc (by simp) (.cells #[.int .i64 id.1,.int .i64 id.2] 24);have ho:=(heap_alloc_old _ (.cells #[.int .i64 id.1,.int .i64 id.2] 24) (heap_lt (heap_alloc_new w1 (.cells #[.slice B k l,.slice B' k' l'] 31)))).trans (heap_alloc_new w1 (.cells #[.slice B k l,.slice B' k' l'] 31));have hi:=heap_alloc_new (w1.alloc (.cells #[.slice B k l,.slice B' k' l'] 31)) (.cells #[.int .i64 id.1,.int .i64 id.2] 24);rw[World.size_alloc] at hi;have hr:=(hA.block _ (heap_lt hx1)).trans hx1;have q2:=Q.out.live.step (N':=fun i=>MoreN (fun i=>N i/\i<w.heap.size) w0 i/\i<w1.heap.size) hA;have hB2:=hB1.trans (hA.mono (by omega));generalize (w1.alloc (.cells #[.slice B k l,.slice B' k' l'] 31)).alloc (.cells #[.int .i64 id.1,.int .i64 id.2] 24)=w2 at ho hi hr q2 hB2 ⊢;clear hA hx1 hB1 Q HB1 HX HB;generalize w1.heap.size=b1 at ho hi q2 hbl h01 ⊢;obtain⟨o0,o1⟩:=two_cells ho;obtain⟨i0,i1⟩:=two_cells hi;obtain⟨r0,r1⟩:=two_cells hr;obtain⟨s0,s1⟩:=two_free hr;obtain⟨t0,t1⟩:=two_free ho;have HL:Hid (Calls Tryz.prog 115 #[.agg #[.slice B k l,.slice B' k' l'],.agg #[.int .i64 id.1,.int .i64 id.2]] w2 fun e w'=>e=.returned (.int .i64 (linksE u.E id:Nat))/\Below w2.heap.size w2 w'):=by
  obtain⟨A1,n1,c1,A2,m2,d2,e,_,_,hE,_⟩:=q2;simp only[Value.agg.injEq,Array.mk.injEq,List.cons.injEq,Value.slice.injEq,and_true] at e;obtain⟨⟨rfl,rfl,rfl⟩,rfl,rfl,rfl⟩:=e;exact refLinks _ B' k' l' u.E id (by have:=HOK.out.lenE;have:=hE.len;omega) w2 hE
 have Q2:=Lib.hid q2;have HB2:=Lib.hid hB2;have HR:=Lib.hid hr;have HO:=Lib.hid ho;have HI:=Lib.hid hi;clear q2 hB2 hr ho hi
 go_wp2_with fail
 refine HL.out.mono ?_;rintro e w3 ⟨rfl,hb3⟩;have hr3:=(hb3.block _ (heap_lt HR.out)).trans HR.out;have ho3:=(hb3.block _ (heap_lt HO.out)).trans HO.out;have hi3:=(hb3.block _ (heap_lt HI.out)).trans HI.out;have q3:=Q2.out.step (N':=fun i=>MoreN (fun i=>N i/\i<w.heap.size) w0 i/\i<b1) hb3;have hB3:=below_step HB2.out hb3;clear o0 o1 i0 i1 r0 r1 s0 s1 t0 t1 HL Q2 HB2 HR HO HI hb3;obtain⟨o0,o1⟩:=two_cells ho3;obtain⟨i0,i1⟩:=two_cells hi3;obtain⟨r0,r1⟩:=two_cells hr3;obtain⟨s0,s1⟩:=two_free hr3;obtain⟨t0,t1⟩:=two_free ho3;have hbs:b1<w3.heap.size:=heap_lt ho3;have HBS:=Lib.hid (And.intro hbl (And.intro h01 (And.intro hsz hbs)));by_cases h0:linksE u.E id=0
 ·have hz:(((linksE u.E id:Nat):Int)==0)=true:=by rw[h0];rfl
  have HG2:Hid (r=(dropG u id).1):=HG.out.trans (if_pos h0);have HD:=Lib.hid (refDrop _ _ u id HOK.out.lenI HOK.out.lenE w3 q3);unfold GrPost at HD;unfold stA at HD;have HR:=Lib.hid hr3;have HO:=Lib.hid ho3;have HB3:=Lib.hid hB3;clear h0 q3 hB3 hr3 ho3 hi3 HG hsz
  go_wp2_with fail
  refine HD.out.mono ?_;rintro e w4 ⟨v4,rfl,q4,hb4⟩;obtain⟨C,j,p,C',j',p',rfl⟩:=q4.form;have hr4:=(hb4.block _ (heap_lt HR.out)).trans HR.out;have ho4:=(hb4.block _ (heap_lt HO.out)).trans HO.out;have Q4:=Lib.hid q4;have HB4:=Lib.hid (below_step HB3.out hb4);clear o0 o1 i0 i1 r0 r1 s0 s1 t0 t1 HD q4 hb4 HR HO;obtain⟨o0,o1⟩:=two_cells ho4;obtain⟨r0,r1⟩:=two_cells hr4;obtain⟨s0,s1⟩:=two_free hr4;obtain⟨t0,t1⟩:=two_free ho4
  go_wp2_with fail
  obtain⟨z1,z2,z3,z4⟩:=HBS.out;refine bodyPost_ret (v:=.agg #[.slice C j p,.slice C' j' p']) (by simp[results,Tryz.results101,go_sem,r0,r1]) rfl ⟨_,_,_,_,_,_,rfl,?_,?_⟩
  ·rw[HG2.out];refine Q4.out.keep (fun i hi=>?_) (by simp) (fun i hi=>?_)
   ·have hne:i≠b1/\i≠w.heap.size+1+1:=by
     rcases hi with hi|hi
     ·rcases hi with ⟨hi|hi,hi2⟩
      ·exact⟨by omega,by have:=hi.2;omega⟩
      ·exact⟨by omega,by omega⟩
     ·exact⟨by omega,by omega⟩
    rw[heap_setCell_other _ _ _ _ hne.2,heap_setCell_other _ _ _ _ hne.2,heap_setCell_other _ _ _ _ hne.1,heap_setCell_other _ _ _ _ hne.1]
   ·rcases hi with hi|hi
    ·rcases hi with ⟨hi|hi,_⟩
     ·exact .inl hi.1
     ·exact .inr (by omega)
    ·exact .inr (Nat.le_trans HB3.out.size hi)
  ·exact(((HB4.out.setCell (p:=⟨b1,0,none⟩) (by dsimp only;omega) _).setCell (p:=⟨b1,1,none⟩) (by dsimp only;omega) _).setCell (p:=⟨w.heap.size+1+1,0,none⟩) (by dsimp only;omega) _).setCell (p:=⟨w.heap.size+1+1,1,none⟩) (by dsimp only;omega) _
 ·have hz:(((linksE u.E id:Nat):Int)==0)=false:=by rw[beq_eq_false_iff_ne];omega
  have HG2:Hid (r=u):=HG.out.trans (if_neg h0);have Q3:=Lib.hid q3;have HB3:=Lib.hid hB3;clear h0 q3 hB3 HG hsz
  go_wp2_with fail
  obtain⟨z1,z2,z3,z4⟩:=HBS.out;refine bodyPost_ret (v:=.agg #[.slice B k l,.slice B' k' l']) (by simp[results,Tryz.results101,go_sem,r0,r1]) rfl ⟨_,_,_,_,_,_,rfl,?_,?_⟩
  ·rw[HG2.out];refine Q3.out.keep (fun i hi=>?_) (by simp) (fun i hi=>?_)
   ·have hne:i≠w.heap.size+1+1:=by
     rcases hi with ⟨hi|hi,_⟩
     ·have:=hi.2;omega
     ·omega
    rw[heap_setCell_other _ _ _ _ hne,heap_setCell_other _ _ _ _ hne]
   ·rcases hi with ⟨hi|hi,_⟩
    ·exact .inl hi.1
    ·exact .inr (by omega)
  ·exact(HB3.out.setCell (p:=⟨w.heap.size+1+1,0,none⟩) (by dsimp only;omega) _).setCell (p:=⟨w.heap.size+1+1,1,none⟩) (by dsimp only;omega) _
def mB(l:Bool)(ka kx:Int)(lk:Bool)(ks n xl:Int):Int:=
 if ka=0\/(l=true/\kx=0) then 3 else if ka≠1 then 6 else if l=true/\kx=1 then 5 else if lk=true\/(l=false/\ks≠0) then 4 else if l=false/\40<=n then 13 else if l=true/\6<=xl then 12 else 0
theorem makesW_eq(g:Gr)(o:Opn):makesW g o=mB (o.k==4) (kindG g (oAt o)) ((getG g (oIno o)).getD noIno).kind (lookE g.E (oAt o) o.name).isSome (kindG g (oSt o)) (g.I.length:Int) ((getG g (oIno o)).getD noIno).links:=by
 unfold makesW mB linksG;rw[show kindG g (oIno o)=((getG g (oIno o)).getD noIno).kind from rfl];by_cases h:o.k=4
 ·simp[h]
 ·have h':(o.k==4)=false:=beq_eq_false_iff_ne.2 h;have e40:(40<=g.I.length)=((40:Int)<=(g.I.length:Int)):=propext (by omega);simp only[h',e40];simp[h]
theorem op_later{w:World}{g:Nat}{o:Opn}{T:TypeId}(h:w.heap[g]?=some (.cells (opA o) T (0,0)))(x:World):
  (later w x).cell? ⟨g,0,none⟩=some (.int .i64 o.st)/\(later w x).cell? ⟨g,1,none⟩=some (.int .i64 o.sr)/\(later w x).cell? ⟨g,2,none⟩=some (.int .i64 o.k)/\(later w x).cell? ⟨g,3,none⟩=some (.int .i64 o.pt)/\(later w x).cell? ⟨g,4,none⟩=some (.int .i64 o.pr)/\
  (later w x).cell? ⟨g,5,none⟩=some (.int .i64 o.it)/\(later w x).cell? ⟨g,6,none⟩=some (.int .i64 o.ir)/\(later w x).cell? ⟨g,7,none⟩=some (.int .i64 o.tt)/\(later w x).cell? ⟨g,8,none⟩=some (.int .i64 o.tr)/\
  (later w x).cell? ⟨g,9,none⟩=some (.string o.name)/\(later w x).cell? ⟨g,10,none⟩=some (.string o.new)/\(later w x).cell? ⟨g,11,none⟩=some (.int .i64 o.off)/\(later w x).cell? ⟨g,12,none⟩=some (.string o.data):=
 op_cells (((later_below w x).block _ (heap_lt h)).trans h)
set_option maxRecDepth 100000 in
set_option maxHeartbeats 3200000 in
theorem GrV.makes{w:World}{A:Option Addr}{n c:Nat}{A':Option Addr}{m d:Nat}{g:Gr}(h:GrV w A n c A' m d g)(o:Opn):
  Calls Tryz.prog 136 #[.agg #[.slice A n c,.slice A' m d],.agg (opA o)] w fun e w'=>e=.returned (.int .i64 (makesW g o))/\Below w.heap.size w w':=by
 have hl:(g.I.length:Int)=(n:Int):=by rw[h.I.len]
 have hM:=makesW_eq g o;rw[hl] at hM;have KA:Hid (∀W:World,Below w.heap.size w W->Calls Tryz.prog 135 #[.agg #[.slice A n c,.slice A' m d],.agg #[.int .i64 o.pt,.int .i64 o.pr]] W fun e w'=>e=.returned (.int .i64 (kindG g (oAt o)))/\Below W.heap.size W w'):=fun W hW=>(h.step hW).kind (oAt o);have KS:Hid (∀W:World,Below w.heap.size w W->Calls Tryz.prog 135 #[.agg #[.slice A n c,.slice A' m d],.agg #[.int .i64 o.st,.int .i64 o.sr]] W fun e w'=>e=.returned (.int .i64 (kindG g (oSt o)))/\Below W.heap.size W w'):=fun W hW=>(h.step hW).kind (oSt o);have GI:Hid (∀W:World,Below w.heap.size w W->Calls Tryz.prog 80 #[.agg #[.slice A n c,.slice A' m d],.agg #[.int .i64 o.it,.int .i64 o.ir]] W fun e w'=>e=.returned (.tuple #[.agg (inoA ((getG g (oIno o)).getD noIno)),.bool (getG g (oIno o)).isSome])/\Below W.heap.size W w'):=fun W hW=>(h.step hW).get (oIno o);have LK:Hid (∀W:World,Below w.heap.size w W->Calls Tryz.prog 102 #[.agg #[.slice A n c,.slice A' m d],.agg #[.int .i64 o.pt,.int .i64 o.pr],.string o.name] W fun e w'=>e=.returned (.tuple #[.agg #[.int .i64 ((lookE g.E (oAt o) o.name).getD (0,0)).1,.int .i64 ((lookE g.E (oAt o) o.name).getD (0,0)).2],.bool (lookE g.E (oAt o) o.name).isSome])/\Below W.heap.size W w'):=fun W hW=>(h.step hW).look (oAt o) o.name;generalize makesW g o=r at hM ⊢;generalize (lookE g.E (oAt o) o.name).getD (0,0)=p at LK;generalize (lookE g.E (oAt o) o.name).isSome=lk at LK hM;generalize (getG g (oIno o)).getD noIno=x at GI hM;generalize (getG g (oIno o)).isSome=xi at GI;unfold inoA at GI;generalize kindG g (oAt o)=ka at KA hM;generalize kindG g (oSt o)=ks at KS hM;obtain⟨l,hl4⟩:∃l,(o.k==4)=l:=⟨_,rfl⟩;rw[hl4] at hM;have HM:=Lib.hid hM;have hb0:Held w [(w.heap.size+1,.cells (opA o) 37),(w.heap.size,.cells #[.slice A n c,.slice A' m d] 31)]
  ((w.alloc (.cells #[.slice A n c,.slice A' m d] 31)).alloc (.cells (opA o) 37)):=
  ((Held.refl w).alloc (.cells #[.slice A n c,.slice A' m d] 31) rfl).alloc (.cells (opA o) 37) (by simp)
 clear h hl hM;unfold opA
 go_enter Tryz.func136,Tryz.ntmps136
 go_upto_region 1 with fail
 change Code.wp _ _ _ _ ((w.alloc (.cells #[.slice A n c,.slice A' m d] 31)).alloc (.cells (opA o) 37));generalize (w.alloc (.cells #[.slice A n c,.slice A' m d] 31)).alloc (.cells (opA o) 37)=w0 at hb0 ⊢;obtain⟨c1,c2⟩:=two_cells (g:=w.heap.size) (hb0.at 1 rfl);obtain⟨e0,e1,e2,e3,e4,e5,e6,e7,e8,e9,e10,e11,e12⟩:=op_cells (g:=w.heap.size+1) (hb0.at 0 rfl)
 go_wp2_with fail
 refine(GI.out _ hb0.below).mono ?_;rintro z w1 ⟨rfl,hb1⟩;have hH1:=hb0.step hb1;clear hb0 hb1 c1 c2 e0 e1 e2 e3 e4 e5 e6 e7 e8 e9 e10 e11 e12
 go_upto_region 2 with fail
 obtain⟨ua,hua⟩:∃u,u=w1.heap.size:=⟨_,rfl⟩;have hla:w.heap.size+1<ua:=by rw[hua];exact heap_lt (hH1.at 0 rfl)
 have hH2:=hH1.alloc (.cells (inoA x) 102) hua.symm;change Code.wp _ _ _ _ (w1.alloc (.cells (inoA x) 102));rw[<-hua];generalize w1.alloc (.cells (inoA x) 102)=w2 at hH2 ⊢;clear hH1 hua;have d1:=fun y=>later_cell (two_cells (g:=w.heap.size) (hH2.at 2 rfl)).1 y;have d2:=fun y=>later_cell (two_cells (g:=w.heap.size) (hH2.at 2 rfl)).2 y;have O:=Lib.hid (op_later (hH2.at 1 rfl));have f0:=fun y=>(O.out y).1;have f1:=fun y=>(O.out y).2.1;have f2:=fun y=>(O.out y).2.2.1;have f3:=fun y=>(O.out y).2.2.2.1;have f4:=fun y=>(O.out y).2.2.2.2.1;have f9:=fun y=>(O.out y).2.2.2.2.2.2.2.2.2.1;have kx:=fun y=>later_cell (ino_cells (g:=ua) (hH2.at 0 rfl)).2.2.1 y;have lx:=fun y=>later_cell (ino_cells (g:=ua) (hH2.at 0 rfl)).2.2.2.1 y;have HB:=Lib.hid hH2.below;have KA':Hid (∀y,Calls Tryz.prog 135 #[.agg #[.slice A n c,.slice A' m d],.agg #[.int .i64 o.pt,.int .i64 o.pr]] (later w2 y) fun e w''=>e=.returned (.int .i64 ka)/\∃z,w''=later w2 z):=fun y=>later_call (KA.out _ (below_step HB.out (later_below w2 y)));have KS':Hid (∀y,Calls Tryz.prog 135 #[.agg #[.slice A n c,.slice A' m d],.agg #[.int .i64 o.st,.int .i64 o.sr]] (later w2 y) fun e w''=>e=.returned (.int .i64 ks)/\∃z,w''=later w2 z):=fun y=>later_call (KS.out _ (below_step HB.out (later_below w2 y)));have LK':Hid (∀y,Calls Tryz.prog 102 #[.agg #[.slice A n c,.slice A' m d],.agg #[.int .i64 o.pt,.int .i64 o.pr],.string o.name] (later w2 y) fun e w''=>e=.returned (.tuple #[.agg #[.int .i64 p.1,.int .i64 p.2],.bool lk])/\∃z,w''=later w2 z):=fun y=>later_call (LK.out _ (below_step HB.out (later_below w2 y)));rw[show w2=later w2 w2 from(later_of (Below.refl _ _)).symm];clear hH2 KA KS LK GI O
 go_wp2_with fail
 refine(LK'.out _).mono ?_;rintro z w3 ⟨rfl,y,rfl⟩
 go_upto_region 3 with fail
 change Code.wp _ _ _ _ ((later w2 y).alloc (.cells #[.int .i64 p.1,.int .i64 p.2] 24));rw[show(later w2 y).alloc (.cells #[.int .i64 p.1,.int .i64 p.2] 24)=later w2 ((later w2 y).alloc (.cells #[.int .i64 p.1,.int .i64 p.2] 24)) from(later_of ((later_below w2 y).alloc (later_below w2 y).size _)).symm];generalize (later w2 y).alloc (.cells #[.int .i64 p.1,.int .i64 p.2] 24)=y2
 go_wp2_with fail
 refine(KA'.out _).mono ?_;rintro z w4 ⟨rfl,y4,rfl⟩
 go_wp2_with fail
 all_goals try(go_ret;exact⟨by rw[HM.out];clear d1 d2 f0 f1 f2 f3 f4 f9 kx lx KA' KS' LK' HM HB;simp_all[mB],below_step HB.out (later_below w2 _)⟩)
 all_goals
  refine(KA'.out _).mono ?_;rintro z w5 ⟨rfl,y5,rfl⟩
  go_wp2_with fail
 all_goals try(go_ret;exact⟨by rw[HM.out];clear d1 d2 f0 f1 f2 f3 f4 f9 kx lx KA' KS' LK' HM HB;simp_all[mB],below_step HB.out (later_below w2 _)⟩)
 all_goals
  refine(KS'.out _).mono ?_;rintro z w6 ⟨rfl,y6,rfl⟩
  go_wp2_with fail
 all_goals try(go_ret;exact⟨by rw[HM.out];clear d1 d2 f0 f1 f2 f3 f4 f9 kx lx KA' KS' LK' HM HB;simp_all[mB],below_step HB.out (later_below w2 _)⟩)
def rB(hs:Bool)(kt:Int)(is r1 r2:Bool)(ki:Int)(un:Bool)(kd:Int)(ln:Int):Int:=
 if hs=false\/kt=0 then 3 else if kt≠1 then 6 else if is=true/\r1=true/\r2=true then 0 else if ki=1/\un=true then 8 else if(is=true/\kd=1)/\ki≠1 then 5 else if is=true/\ki=1/\¬(is=true/\kd=1) then 6 else if(is=true/\kd=1)/\0<ln then 7 else 0
theorem renamesW_eq(g:Gr)(o:Opn):renamesW g o=rB (decide (lookE g.E (oAt o) o.name=some (oIno o))) (kindG g (oTo o)) (lookE g.E (oTo o) o.new).isSome (((lookE g.E (oTo o) o.new).getD (0,0)).1==o.it) (((lookE g.E (oTo o) o.new).getD (0,0)).2==o.ir)
  (kindG g (oIno o)) (underG g (oTo o) (oIno o)) (kindG g ((lookE g.E (oTo o) o.new).getD (0,0))) ((listE g.E ((lookE g.E (oTo o) o.new).getD (0,0))).length:Int):=by
 unfold renamesW rB targetG;have e0:∀n:Nat,(0<n)=((0:Int)<(n:Int)):=fun n=>propext (by omega);have e1:(lookE g.E (oTo o) o.new=some (oIno o))=((lookE g.E (oTo o) o.new).isSome=true/\(((lookE g.E (oTo o) o.new).getD (0,0)).1==o.it)=true/\(((lookE g.E (oTo o) o.new).getD (0,0)).2==o.ir)=true):=by
  cases lookE g.E (oTo o) o.new with
  |none=>simp
  |some t=>simp[oIno,Prod.ext_iff]
 simp only[e0,e1,ne_eq,decide_eq_false_iff_not]
set_option maxRecDepth 100000 in
set_option maxHeartbeats 3200000 in
theorem GrV.renames{w:World}{A:Option Addr}{n c:Nat}{A':Option Addr}{m d:Nat}{g:Gr}(h:GrV w A n c A' m d g)(o:Opn):
  Calls Tryz.prog 137 #[.agg #[.slice A n c,.slice A' m d],.agg (opA o)] w fun e w'=>e=.returned (.int .i64 (renamesW g o))/\Below w.heap.size w w':=by
 have hM:=renamesW_eq g o;have LK:Hid (∀W:World,Below w.heap.size w W->Calls Tryz.prog 102 #[.agg #[.slice A n c,.slice A' m d],.agg #[.int .i64 o.tt,.int .i64 o.tr],.string o.new] W fun e w'=>e=.returned (.tuple #[.agg #[.int .i64 ((lookE g.E (oTo o) o.new).getD (0,0)).1,.int .i64 ((lookE g.E (oTo o) o.new).getD (0,0)).2],.bool (lookE g.E (oTo o) o.new).isSome])/\Below W.heap.size W w'):=fun W hW=>(h.step hW).look (oTo o) o.new;generalize (lookE g.E (oTo o) o.new).getD (0,0)=t at LK hM;generalize (lookE g.E (oTo o) o.new).isSome=is at LK hM;have KI:Hid (∀W:World,Below w.heap.size w W->Calls Tryz.prog 135 #[.agg #[.slice A n c,.slice A' m d],.agg #[.int .i64 o.it,.int .i64 o.ir]] W fun e w'=>e=.returned (.int .i64 (kindG g (oIno o)))/\Below W.heap.size W w'):=fun W hW=>(h.step hW).kind (oIno o);have KT:Hid (∀W:World,Below w.heap.size w W->Calls Tryz.prog 135 #[.agg #[.slice A n c,.slice A' m d],.agg #[.int .i64 o.tt,.int .i64 o.tr]] W fun e w'=>e=.returned (.int .i64 (kindG g (oTo o)))/\Below W.heap.size W w'):=fun W hW=>(h.step hW).kind (oTo o);have KD:Hid (∀W:World,Below w.heap.size w W->Calls Tryz.prog 135 #[.agg #[.slice A n c,.slice A' m d],.agg #[.int .i64 t.1,.int .i64 t.2]] W fun e w'=>e=.returned (.int .i64 (kindG g t))/\Below W.heap.size W w'):=fun W hW=>(h.step hW).kind t;have HS:Hid (∀W:World,Below w.heap.size w W->Calls Tryz.prog 138 #[.agg #[.slice A n c,.slice A' m d],.agg #[.int .i64 o.pt,.int .i64 o.pr],.string o.name,.agg #[.int .i64 o.it,.int .i64 o.ir]] W fun e w'=>e=.returned (.bool (decide (lookE g.E (oAt o) o.name=some (oIno o))))/\Below W.heap.size W w'):=fun W hW=>(h.step hW).has (oAt o) o.name (oIno o);have UN:Hid (∀W:World,Below w.heap.size w W->Calls Tryz.prog 179 #[.agg #[.slice A n c,.slice A' m d],.agg #[.int .i64 o.tt,.int .i64 o.tr],.agg #[.int .i64 o.it,.int .i64 o.ir]] W fun e w'=>e=.returned (.bool (underG g (oTo o) (oIno o)))/\Below W.heap.size W w'):=fun W hW=>(h.step hW).under (oTo o) (oIno o);have LI:Hid (∀W:World,Below w.heap.size w W->Calls Tryz.prog 139 #[.agg #[.slice A n c,.slice A' m d],.agg #[.int .i64 t.1,.int .i64 t.2]] W fun e w'=>∃B k,e=.returned (.slice B (listE g.E t).length k)/\Below W.heap.size W w'):=fun W hW=>((h.step hW).list t).mono fun _ _ ⟨B,k,he,_,_,_,_,hb⟩=>⟨B,k,he,hb⟩;generalize decide (lookE g.E (oAt o) o.name=some (oIno o))=hs at HS hM;generalize kindG g (oIno o)=ki at KI hM;generalize kindG g (oTo o)=kt at KT hM;generalize kindG g t=kd at KD hM;generalize underG g (oTo o) (oIno o)=un at UN hM;generalize (listE g.E t).length=ln at LI hM;generalize renamesW g o=r at hM ⊢;obtain⟨r1,hr1⟩:∃r1,(t.1==o.it)=r1:=⟨_,rfl⟩;obtain⟨r2,hr2⟩:∃r2,(t.2==o.ir)=r2:=⟨_,rfl⟩;rw[hr1,hr2] at hM;have HM:=Lib.hid hM;have hb0:Held w [(w.heap.size+1,.cells (opA o) 37),(w.heap.size,.cells #[.slice A n c,.slice A' m d] 31)]
  ((w.alloc (.cells #[.slice A n c,.slice A' m d] 31)).alloc (.cells (opA o) 37)):=
  ((Held.refl w).alloc (.cells #[.slice A n c,.slice A' m d] 31) rfl).alloc (.cells (opA o) 37) (by simp)
 clear h hM;unfold opA
 go_enter Tryz.func137,Tryz.ntmps137
 go_upto_region 1 with fail
 change Code.wp _ _ _ _ ((w.alloc (.cells #[.slice A n c,.slice A' m d] 31)).alloc (.cells (opA o) 37));generalize (w.alloc (.cells #[.slice A n c,.slice A' m d] 31)).alloc (.cells (opA o) 37)=w0 at hb0 ⊢;obtain⟨c1,c2⟩:=two_cells (g:=w.heap.size) (hb0.at 1 rfl);obtain⟨e0,e1,e2,e3,e4,e5,e6,e7,e8,e9,e10,e11,e12⟩:=op_cells (g:=w.heap.size+1) (hb0.at 0 rfl)
 go_wp2_with fail
 refine(LK.out _ hb0.below).mono ?_;rintro z w1 ⟨rfl,hb1⟩;have hH1:=hb0.step hb1;clear hb0 hb1 c1 c2 e0 e1 e2 e3 e4 e5 e6 e7 e8 e9 e10 e11 e12
 go_upto_region 2 with fail
 obtain⟨ua,hua⟩:∃u,u=w1.heap.size:=⟨_,rfl⟩;have hla:w.heap.size+1<ua:=by rw[hua];exact heap_lt (hH1.at 0 rfl)
 have hH2:=hH1.alloc (.cells #[.int .i64 t.1,.int .i64 t.2] 24) hua.symm;change Code.wp _ _ _ _ (w1.alloc (.cells #[.int .i64 t.1,.int .i64 t.2] 24));rw[<-hua];generalize w1.alloc (.cells #[.int .i64 t.1,.int .i64 t.2] 24)=w2 at hH2 ⊢;clear hH1 hua;have d1:=fun y=>later_cell (two_cells (g:=w.heap.size) (hH2.at 2 rfl)).1 y;have d2:=fun y=>later_cell (two_cells (g:=w.heap.size) (hH2.at 2 rfl)).2 y;have O:=Lib.hid (op_later (hH2.at 1 rfl));have f3:=fun y=>(O.out y).2.2.2.1;have f4:=fun y=>(O.out y).2.2.2.2.1;have f5:=fun y=>(O.out y).2.2.2.2.2.1;have f6:=fun y=>(O.out y).2.2.2.2.2.2.1;have f7:=fun y=>(O.out y).2.2.2.2.2.2.2.1;have f8:=fun y=>(O.out y).2.2.2.2.2.2.2.2.1;have f9:=fun y=>(O.out y).2.2.2.2.2.2.2.2.2.1;have kx:=fun y=>later_cell (two_cells (g:=ua) (hH2.at 0 rfl)).1 y;have lx:=fun y=>later_cell (two_cells (g:=ua) (hH2.at 0 rfl)).2 y;have HB:=Lib.hid hH2.below;have KI':Hid (∀y,Calls Tryz.prog 135 #[.agg #[.slice A n c,.slice A' m d],.agg #[.int .i64 o.it,.int .i64 o.ir]] (later w2 y) fun e w''=>e=.returned (.int .i64 ki)/\∃z,w''=later w2 z):=fun y=>later_call (KI.out _ (below_step HB.out (later_below w2 y)));have KT':Hid (∀y,Calls Tryz.prog 135 #[.agg #[.slice A n c,.slice A' m d],.agg #[.int .i64 o.tt,.int .i64 o.tr]] (later w2 y) fun e w''=>e=.returned (.int .i64 kt)/\∃z,w''=later w2 z):=fun y=>later_call (KT.out _ (below_step HB.out (later_below w2 y)));have KD':Hid (∀y,Calls Tryz.prog 135 #[.agg #[.slice A n c,.slice A' m d],.agg #[.int .i64 t.1,.int .i64 t.2]] (later w2 y) fun e w''=>e=.returned (.int .i64 kd)/\∃z,w''=later w2 z):=fun y=>later_call (KD.out _ (below_step HB.out (later_below w2 y)));have HS':Hid (∀y,Calls Tryz.prog 138 #[.agg #[.slice A n c,.slice A' m d],.agg #[.int .i64 o.pt,.int .i64 o.pr],.string o.name,.agg #[.int .i64 o.it,.int .i64 o.ir]] (later w2 y) fun e w''=>e=.returned (.bool hs)/\∃z,w''=later w2 z):=fun y=>later_call (HS.out _ (below_step HB.out (later_below w2 y)));have UN':Hid (∀y,Calls Tryz.prog 179 #[.agg #[.slice A n c,.slice A' m d],.agg #[.int .i64 o.tt,.int .i64 o.tr],.agg #[.int .i64 o.it,.int .i64 o.ir]] (later w2 y) fun e w''=>e=.returned (.bool un)/\∃z,w''=later w2 z):=fun y=>later_call (UN.out _ (below_step HB.out (later_below w2 y)));have LI':Hid (∀y,Calls Tryz.prog 139 #[.agg #[.slice A n c,.slice A' m d],.agg #[.int .i64 t.1,.int .i64 t.2]] (later w2 y) fun e w''=>∃B k,e=.returned (.slice B ln k)/\∃z,w''=later w2 z):=fun y=>(LI.out _ (below_step HB.out (later_below w2 y))).mono fun _ w' ⟨B,k,he,hb⟩=>⟨B,k,he,w',(later_of (below_step (later_below w2 y) hb)).symm⟩;rw[show w2=later w2 w2 from(later_of (Below.refl _ _)).symm];clear hH2 KI KT KD HS UN LI LK O
 go_wp2_with fail
 iterate 12
  all_goals first
   |((fail_if_success (go_at_call 135));(fail_if_success (go_at_call 138));(fail_if_success (go_at_call 179));(fail_if_success (go_at_call 139));go_ret;exact⟨by rw[HM.out];clear d1 d2 f3 f4 f5 f6 f7 f8 f9 kx lx KI' KT' KD' HS' UN' LI' HM HB hr1 hr2;simp_all[rB],below_step HB.out (later_below w2 _)⟩)
   |(go_at_call 135;(with_reducible refine(KI'.out _).mono ?_);rintro z w5 ⟨rfl,y5,rfl⟩;go_wp2_with fail)
   |(go_at_call 135;(with_reducible refine(KT'.out _).mono ?_);rintro z w5 ⟨rfl,y5,rfl⟩;go_wp2_with fail)
   |(go_at_call 135;(with_reducible refine(KD'.out _).mono ?_);rintro z w5 ⟨rfl,y5,rfl⟩;go_wp2_with fail)
   |(go_at_call 138;(with_reducible refine(HS'.out _).mono ?_);rintro z w5 ⟨rfl,y5,rfl⟩;go_wp2_with fail)
   |(go_at_call 179;(with_reducible refine(UN'.out _).mono ?_);rintro z w5 ⟨rfl,y5,rfl⟩;go_wp2_with fail)
   |(go_at_call 139;(with_reducible refine(LI'.out _).mono ?_);rintro z w5 ⟨B,k,rfl,y5,rfl⟩;go_wp2_with fail)
   |skip
end Go.Proofs.YtnnnkaobhkeocaaGreatDoor
