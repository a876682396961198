/-
 The walk of the document's own Do: a rename.
-/
import Derived.Test.YtnnnkaobhkeocaaGreatDoorZX09
import Derived.Deep.Cut
import Derived.Deep.DeepCutAuto
import Derived.Test.YtnnnkaobhkeocaaGreatDoorZ02
namespace Go.Proofs.YtnnnkaobhkeocaaGreatDoor
open Go.RowKit StampMath GraphMath OpMath PackMath ExtentMath
theorem gone_ok{g:Gr}(h:g.ok)(d:St)(nm:ByteArray):(goneG g d nm).ok:=by
 unfold goneG
 split
 ·exact(h.untie d nm).drop _
 ·exact h.untie d nm
theorem ren_put{N:Nat->Prop}{w W:World}{v x0 y0:Value}{g:Gr}{T:TypeId}{R O:Option Obj}(h:GrAt (Clear N w (w.heap.size+1+1+1)) W v g)(hB:Below w.heap.size w W)(hr:W.heap[w.heap.size+1+1]?=R)(ho:W.heap[w.heap.size+1]?=O)(hg:W.heap[w.heap.size]?=some (.cells #[x0,y0] T (0,0)))(x y:Value):
  ((W.setCell ⟨w.heap.size,0,none⟩ x).setCell ⟨w.heap.size,1,none⟩ y).heap[w.heap.size+1+1]?=R/\((W.setCell ⟨w.heap.size,0,none⟩ x).setCell ⟨w.heap.size,1,none⟩ y).heap[w.heap.size+1]?=O/\
  ((W.setCell ⟨w.heap.size,0,none⟩ x).setCell ⟨w.heap.size,1,none⟩ y).heap[w.heap.size]?=some (.cells #[x,y] T (0,0))/\Below w.heap.size w ((W.setCell ⟨w.heap.size,0,none⟩ x).setCell ⟨w.heap.size,1,none⟩ y)/\
  GrAt (Clear N w (w.heap.size+1+1+1)) ((W.setCell ⟨w.heap.size,0,none⟩ x).setCell ⟨w.heap.size,1,none⟩ y) v g:=by
 have h2:w.heap.size+1+1≠w.heap.size:=by omega
 have h1:w.heap.size+1≠w.heap.size:=by omega
 refine⟨(heap_setCell_other _ _ _ _ h2).trans ((heap_setCell_other _ _ _ _ h2).trans hr),(heap_setCell_other _ _ _ _ h1).trans ((heap_setCell_other _ _ _ _ h1).trans ho),?_,(hB.setCell (p:=⟨w.heap.size,0,none⟩) (Nat.le_refl _) _).setCell (p:=⟨w.heap.size,1,none⟩) (Nat.le_refl _) _,?_⟩
 ·rw[heap_setCell_same _ _ _ _ _ _ (heap_setCell_same _ _ _ _ _ _ hg)]
  rfl
 ·refine h.keep (fun i hi=>?_) (by simp) fun i hi=>hi;have hne:i≠w.heap.size:=by
   rcases hi with hi|hi
   ·have:=hi.2;omega
   ·omega
  rw[heap_setCell_other _ _ _ _ hne,heap_setCell_other _ _ _ _ hne]
set_option maxRecDepth 100000 in
set_option maxHeartbeats 800000 in
theorem refDoRename(N:Nat->Prop)(v:Value)(g:Gr)(o:Opn)(hf:g.fine)(hw:whyA g o=0)(hk:o.k=7)(z1:o.name.size<=9223372036854775807)(z2:o.new.size<=9223372036854775807)(z3:o.data.size<=9223372036854775807)(ok:Ok64 o)(w:World)(hv:GrAt N w v g):
  Calls Tryz.prog 75 #[v,.agg (opA o)] w (GrPost N (doA g o) w):=by
 have hg:=hf.ok;have hdo:doA g o=(madeA g o,0):=by unfold doA;rw[if_pos hw]
 rw[hdo];have hm:=whyA_may hw;obtain⟨p1,p2,_,_,_,_,_,p8⟩:=mayO_parts hm;obtain⟨A,n,c,A',m,d,rfl,hV⟩:=hv.few hg.lenI hg.lenE;have hH0:Held w [(w.heap.size+1+1,.cells #[.slice none 0 0,.slice none 0 0] 31),(w.heap.size+1,.cells (opA o) 37),(w.heap.size,.cells #[.slice A n c,.slice A' m d] 31)]
  (((w.alloc (.cells #[.slice A n c,.slice A' m d] 31)).alloc (.cells (opA o) 37)).alloc (.cells #[.slice none 0 0,.slice none 0 0] 31)):=
  (((Held.refl w).alloc (.cells #[.slice A n c,.slice A' m d] 31) rfl).alloc (.cells (opA o) 37) (by simp)).alloc (.cells #[.slice none 0 0,.slice none 0 0] 31) (by simp)
 have hv0:=hv.live.step (N':=Clear N w (w.heap.size+1+1+1)) hH0.below fun i hi=>.inl hi;have HW:Hid (∀W:World,Below w.heap.size w W->Calls Tryz.prog 97 #[.agg #[.slice A n c,.slice A' m d],.agg (opA o)] W fun e w'=>e=.returned (.int .i64 0)/\Below W.heap.size W w'):=fun W hW=>by rw[<-hw];exact(hV.step hW).why o z1 z2 z3
 have HGt:Hid (∀W:World,Below w.heap.size w W->Calls Tryz.prog 80 #[.agg #[.slice A n c,.slice A' m d],.agg #[.int .i64 o.it,.int .i64 o.ir]] W fun e w'=>e=.returned (.tuple #[.agg (inoA (inoG g (oIno o))),.bool (getG g (oIno o)).isSome])/\Below W.heap.size W w'):=fun W hW=>(hV.step hW).get (oIno o);have HLk:Hid (∀W:World,Below w.heap.size w W->Calls Tryz.prog 102 #[.agg #[.slice A n c,.slice A' m d],.agg #[.int .i64 o.tt,.int .i64 o.tr],.string o.new] W fun e w'=>e=.returned (.tuple #[.agg #[.int .i64 ((targetG g o).getD (0,0)).1,.int .i64 ((targetG g o).getD (0,0)).2],.bool (targetG g o).isSome])/\Below W.heap.size W w'):=fun W hW=>(hV.step hW).look (oTo o) o.new;have hgo:(goneG g (oTo o) o.new).ok:=gone_ok hg (oTo o) o.new;have HE:Hid ((targetG g o=some (oIno o)->madeA g o=g)/\(targetG g o≠some (oIno o)->madeA g o=tie1 (untieG (if(targetG g o).isSome then goneG g (oTo o) o.new else g) (oAt o) o.name).1 (oTo o) o.new (oIno o))):=by
  constructor
  ·intro q;unfold madeA;rw[if_neg (by omega),if_neg (by omega),if_neg (by omega),if_pos hk,if_pos q]
  ·intro q;unfold madeA;rw[if_neg (by omega),if_neg (by omega),if_neg (by omega),if_pos hk,if_neg q]
 have hts:targetG g o=some (oIno o)\/(targetG g o≠some (oIno o)/\(targetG g o).isSome=true/\¬(targetG g o).getD (0,0)=oIno o)\/(targetG g o≠some (oIno o)/\(targetG g o).isSome=false):=by
  cases targetG g o with
  |none=>simp
  |some t=>by_cases q:t=oIno o<;>simp[q]
 have HP2:=Lib.hid hgo;have HTS:=Lib.hid hts;have HK7:=Lib.hid hk;clear hgo hts hk;generalize (getG g (oIno o)).isSome=xi at HGt;obtain⟨x,hx⟩:∃x,x=inoG g (oIno o):=⟨_,rfl⟩;rw[<-hx] at HGt;have H0:=Lib.hid hH0;have V0:=Lib.hid hv0;have HX:=Lib.hid hx;clear hH0 hv0 hv hdo hV hx;have HP:=Lib.hid (And.intro hf (And.intro hw (And.intro z1 (And.intro z2 (And.intro z3 (And.intro ok (And.intro hm p8)))))));clear hf hw z1 z2 z3 ok hm p8 hg;unfold opA at HW H0 V0 ⊢;unfold inoA at HGt;unfold GrPost
 go_enter Tryz.func75,Tryz.ntmps75
 go_wp2_with fail
 refine(HW.out _ H0.out.below).mono ?_;rintro e w1 ⟨rfl,hb1⟩;have hH1:=H0.out.step hb1;have hv1:=V0.out.clear_step hb1;obtain⟨g0,g1⟩:=two_cells (g:=w.heap.size) (hH1.at 2 rfl);obtain⟨e0,e1,e2,e3,e4,e5,e6,e7,e8,e9,e10,e11,e12⟩:=op_cells (o:=o) (g:=w.heap.size+1) (hH1.at 1 rfl);have H1:=Lib.hid hH1;have V1:=Lib.hid hv1;clear hH1 hv1 hb1 H0 V0 HW
 go_wp2_with fail
 refine(HGt.out _ H1.out.below).mono ?_;rintro e w2 ⟨rfl,hb2⟩;have hH2:=H1.out.step hb2;have hv2:=V1.out.clear_step hb2;clear H1 V1 HGt hb2 g0 g1 e0 e1 e2 e3 e4 e5 e6 e7 e8 e9 e10 e11 e12
 go_upto_region 5 with fail
 obtain⟨ux,hux⟩:∃u,u=w2.heap.size:=⟨_,rfl⟩;have hlx:w.heap.size+1+1<ux:=by rw[hux];exact heap_lt (hH2.at 0 rfl)
 have hH3:=hH2.alloc (.cells (inoA x) 102) hux.symm;have hv3:=hv2.clear_step ((Below.refl w2.heap.size w2).alloc (Nat.le_refl _) (.cells (inoA x) 102));have hs3:ux<(w2.alloc (.cells (inoA x) 102)).heap.size:=by rw[hux];simp
 change Code.wp _ _ _ _ (w2.alloc (.cells (inoA x) 102));rw[<-hux];generalize w2.alloc (.cells (inoA x) 102)=w3 at hH3 hv3 hs3 ⊢;clear hH2 hv2 hux;obtain⟨g0,g1⟩:=two_cells (g:=w.heap.size) (hH3.at 3 rfl);obtain⟨e0,e1,e2,e3,e4,e5,e6,e7,e8,e9,e10,e11,e12⟩:=op_cells (o:=o) (g:=w.heap.size+1) (hH3.at 2 rfl);obtain⟨r0,r1⟩:=two_cells (g:=w.heap.size+1+1) (hH3.at 1 rfl);obtain⟨s0,s1⟩:=two_free (g:=w.heap.size+1+1) (hH3.at 1 rfl);obtain⟨x0,x1,x2,x3,x4,x5⟩:=ino_cells (g:=ux) (hH3.at 0 rfl);have H3:=Lib.hid hH3;have V3:=Lib.hid hv3;clear hH3 hv3;have hk:=HK7.out;have b1:(o.k==1)=false:=by simp;omega
 have b2:(o.k==2)=false:=by simp;omega
 have b3:(o.k==3)=false:=by simp;omega
 have b4:(o.k==4)=false:=by simp;omega
 have b5:(o.k==5)=false:=by simp;omega
 have b6:(o.k==6)=false:=by simp;omega
 have b7:(o.k==7)=true:=by simp;omega
 clear hk HK7 p1 p2;generalize (targetG g o)=tg at HLk HE HTS;obtain⟨T,hT⟩:∃T,T=tg.getD (0,0):=⟨_,rfl⟩;obtain⟨is,his⟩:∃b,b=tg.isSome:=⟨_,rfl⟩;rw[<-hT,<-his] at HLk;have HT:=Lib.hid hT;have HIS:=Lib.hid his;clear hT his
 go_wp2_with fail
 refine(HLk.out _ H3.out.below).mono ?_;rintro e w4 ⟨rfl,hb4⟩;have hH4:=H3.out.step hb4;have hv4:=V3.out.clear_step hb4;clear H3 V3 HLk hb4 g0 g1 e0 e1 e2 e3 e4 e5 e6 e7 e8 e9 e10 e11 e12 r0 r1 s0 s1 x0 x1 x2 x3 x4 x5
 go_upto_region 18 with fail
 obtain⟨ut,hut⟩:∃u,u=w4.heap.size:=⟨_,rfl⟩;have hlt:w.heap.size+1+1<ut:=by rw[hut];exact heap_lt (hH4.at 1 rfl)
 have hH5:=hH4.alloc (.cells #[.int .i64 T.1,.int .i64 T.2] 24) hut.symm;have hv5:=hv4.clear_step ((Below.refl w4.heap.size w4).alloc (Nat.le_refl _) (.cells #[.int .i64 T.1,.int .i64 T.2] 24));have hs5:ut<(w4.alloc (.cells #[.int .i64 T.1,.int .i64 T.2] 24)).heap.size:=by rw[hut];simp
 change Code.wp _ _ _ _ (w4.alloc (.cells #[.int .i64 T.1,.int .i64 T.2] 24));rw[<-hut];generalize w4.alloc (.cells #[.int .i64 T.1,.int .i64 T.2] 24)=V at hH5 hv5 hs5 ⊢;clear hH4 hv4 hut;obtain⟨g0,g1⟩:=two_cells (g:=w.heap.size) (hH5.at 4 rfl);obtain⟨gf0,gf1⟩:=two_free (g:=w.heap.size) (hH5.at 4 rfl);obtain⟨e0,e1,e2,e3,e4,e5,e6,e7,e8,e9,e10,e11,e12⟩:=op_cells (o:=o) (g:=w.heap.size+1) (hH5.at 3 rfl);obtain⟨r0,r1⟩:=two_cells (g:=w.heap.size+1+1) (hH5.at 2 rfl);obtain⟨s0,s1⟩:=two_free (g:=w.heap.size+1+1) (hH5.at 2 rfl);obtain⟨t0,t1⟩:=two_cells (g:=ut) (hH5.at 0 rfl);have H5:=Lib.hid hH5;have V5:=Lib.hid hv5;clear hH5 hv5;have hT:=HT.out;have his:=HIS.out;clear HT HIS;rcases HTS.out with q|q|q
 ·have hyes:=eqSt_yes (a:=T) (c:=oIno o) (by rw[hT,q];rfl);have HE2:=Lib.hid (HE.out.1 q);rw[q] at his;simp only[Option.isSome_some] at his;subst his;dsimp only[oIno] at hyes;have Q2:=Lib.hid (clear_end (res:=w.heap.size+1+1) V5.out H5.out.below (by omega) (by omega) (.slice A n c) (.slice A' m d));clear HTS HE HP HP2 HX V5 H5 q hT
  go_wp2_with fail
  exact bodyPost_ret (v:=.tuple #[.agg #[.slice A n c,.slice A' m d],.int .i64 0]) (by simp[results,Tryz.results75,go_sem,r0,r1]) rfl ⟨_,rfl,by rw[HE2.out];exact Q2.out⟩
 ·have hno:=eqSt_no (a:=T) (c:=oIno o) (by rw[hT];exact q.2.2);have HE2:=Lib.hid (HE.out.2 q.1);rw[q.2.1] at his HE2;subst his;dsimp only[oIno] at hno;obtain⟨hf,hw,z1,z2,z3,ok,hm,p8⟩:=HP.out;have HG:=Lib.hid (refGone _ _ g (oTo o) o.new hf.ok V V5.out);unfold stA oTo G1Post at HG;have HO:=Lib.hid HP2.out;have HZ:=Lib.hid (And.intro z1 z2);clear HTS HE HP HP2 HX q hT hf hw z1 z2 z3 ok hm p8;rw[if_pos rfl] at HE2
  go_wp2_with fail
  refine HG.out.mono ?_;rintro e w5 ⟨C,j,p,C',j',p',rfl,q5,hb5⟩;have hH6:=H5.out.step hb5;obtain⟨n1,n2,n3,n4,n5⟩:=ren_put (x0:=.slice A n c) (y0:=.slice A' m d) (q5.clear (by omega)) hH6.below (hH6.at 2 rfl) (hH6.at 3 rfl) (hH6.at 4 rfl) (.slice C j p) (.slice C' j' p');have HQ:Hid (∃(D:Option Addr)(a b:Nat)(D':Option Addr)(a' b':Nat),(Held w [(w.heap.size+1+1,.cells #[.slice none 0 0,.slice none 0 0] 31),(w.heap.size+1,.cells (opA o) 37),(w.heap.size,.cells #[.slice D a b,.slice D' a' b'] 31)] ((w5.setCell ⟨w.heap.size,0,none⟩ (.slice C j p)).setCell ⟨w.heap.size,1,none⟩ (.slice C' j' p')))/\GrAt (Clear N w (w.heap.size+1+1+1)) ((w5.setCell ⟨w.heap.size,0,none⟩ (.slice C j p)).setCell ⟨w.heap.size,1,none⟩ (.slice C' j' p')) (.agg #[.slice D a b,.slice D' a' b']) (goneG g (oTo o) o.new)):=⟨C,j,p,C',j',p',⟨by
   intro p hp;simp only[List.mem_cons,List.not_mem_nil,or_false] at hp;rcases hp with rfl|rfl|rfl
   ·exact n1
   ·exact n2
   ·exact n3,n4⟩,n5⟩
  clear n1 n2 n3 n4 n5 g0 g1 gf0 gf1 e0 e1 e2 e3 e4 e5 e6 e7 e8 e9 e10 e11 e12 r0 r1 s0 s1 t0 t1 q5 hb5 H5 V5 HG;obtain⟨g0,g1⟩:=two_cells (g:=w.heap.size) (hH6.at 4 rfl);obtain⟨gf0,gf1⟩:=two_free (g:=w.heap.size) (hH6.at 4 rfl);clear hH6
  go_upto_region 22 with fail
  change Code.wp _ _ _ _ ((w5.setCell ⟨w.heap.size,0,none⟩ (.slice C j p)).setCell ⟨w.heap.size,1,none⟩ (.slice C' j' p'));generalize ((w5.setCell ⟨w.heap.size,0,none⟩ (.slice C j p)).setCell ⟨w.heap.size,1,none⟩ (.slice C' j' p'))=W at HQ ⊢;clear g0 g1 gf0 gf1;generalize goneG g (oTo o) o.new=g2 at HQ HE2 HO;obtain⟨C2,j2,p2,C2',j2',p2',hH,hv⟩:=HQ.out;have hu:=HO.out.untie (oAt o) o.name;have HU:=Lib.hid (refUntie _ _ g2 (oAt o) o.name HO.out.lenE W hv);unfold stA UntPost at HU;unfold stA oAt at HU;change Hid (madeA g o=tie1 (untieG g2 (o.pt,o.pr) o.name).1 (oTo o) o.new (oIno o)) at HE2;change(untieG g2 (o.pt,o.pr) o.name).1.ok at hu;generalize (untieG g2 (o.pt,o.pr) o.name).1=u at HU hu HE2;generalize (untieG g2 (o.pt,o.pr) o.name).2.1=id at HU;generalize (untieG g2 (o.pt,o.pr) o.name).2.2=er at HU;have z2:=HZ.out.2;have HT:Hid (∀(W:World)(C:Option Addr)(j p:Nat)(C':Option Addr)(j' p':Nat),GrAt (Clear N w (w.heap.size+1+1+1)) W (.agg #[.slice C j p,.slice C' j' p']) u->w.heap.size+1+1+1<=W.heap.size->Calls Tryz.prog 99 #[.agg #[.slice C j p,.slice C' j' p'],.agg #[.int .i64 o.tt,.int .i64 o.tr],.string o.new,.agg #[.int .i64 o.it,.int .i64 o.ir]] W fun e w'=>∃(A:Option Addr)(n c:Nat)(A':Option Addr)(m d:Nat),e=.returned (.agg #[.slice A n c,.slice A' m d])/\GrAt (Clear N w (w.heap.size+1+1+1)) w' (.agg #[.slice A n c,.slice A' m d]) (tie1 u (oTo o) o.new (oIno o))/\Below W.heap.size W w'):=fun W C j p C' j' p' h hs=>
   (refTie1 _ _ u (oTo o) o.new (oIno o) hu z2 W h).mono fun e w' ⟨A,n,c,A',m,d,q1,q2,q3⟩=>⟨A,n,c,A',m,d,q1,q2.clear hs,q3⟩
  obtain⟨g0,g1⟩:=two_cells (g:=w.heap.size) (hH.at 2 rfl);obtain⟨e0,e1,e2,e3,e4,e5,e6,e7,e8,e9,e10,e11,e12⟩:=op_cells (o:=o) (g:=w.heap.size+1) (hH.at 1 rfl);have HH:=Lib.hid hH;clear hH hv hu z2 HQ HO HZ
  go_wp2_with fail
  refine HU.out.mono ?_;rintro e w6 ⟨v,rfl,q6,hb6⟩;obtain⟨B,k,l,B',k',l',rfl⟩:=q6.form;have hH6:=HH.out.step hb6;have hz6:w.heap.size+1+1<w6.heap.size:=heap_lt (hH6.at 0 rfl);have hzz:w.heap.size+1+1<W.heap.size:=heap_lt (HH.out.at 0 rfl);have q7:=q6.clear (b:=w.heap.size+1+1+1) (by omega);have Q6:=Lib.hid q7;have K6:=Lib.hid hH6;clear g0 g1 e0 e1 e2 e3 e4 e5 e6 e7 e8 e9 e10 e11 e12 HU HH q6 hb6 q7 hH6
  go_upto_region 23 with fail
  obtain⟨ub,hub⟩:∃u,u=w6.heap.size:=⟨_,rfl⟩;have hH7:=(K6.out.alloc (.cells #[.slice B k l,.slice B' k' l'] 31) hub.symm).alloc (.cells #[.int .i64 id.1,.int .i64 id.2] 24) (g:=ub+1) (by rw[hub];simp);have v7:=Q6.out.clear_step (((Below.refl w6.heap.size w6).alloc (Nat.le_refl _) (.cells #[.slice B k l,.slice B' k' l'] 31)).alloc (by simp) (.cells #[.int .i64 id.1,.int .i64 id.2] 24));change Code.wp _ _ _ _ ((w6.alloc (.cells #[.slice B k l,.slice B' k' l'] 31)).alloc (.cells #[.int .i64 id.1,.int .i64 id.2] 24));rw[<-hub];generalize (w6.alloc (.cells #[.slice B k l,.slice B' k' l'] 31)).alloc (.cells #[.int .i64 id.1,.int .i64 id.2] 24)=w8 at hH7 v7 ⊢;have hz8:w.heap.size+1+1<w8.heap.size:=heap_lt (hH7.at 2 rfl);have HT8:=Lib.hid (HT.out w8 B k l B' k' l' v7 hz8);obtain⟨t0,t1⟩:=two_cells (g:=ub) (hH7.at 1 rfl);obtain⟨e0,e1,e2,e3,e4,e5,e6,e7,e8,e9,e10,e11,e12⟩:=op_cells (o:=o) (g:=w.heap.size+1) (hH7.at 3 rfl);have H8:=Lib.hid hH7;clear K6 Q6 hub hH7 v7 HT
  go_wp2_with fail
  refine HT8.out.mono ?_;rintro e w9 ⟨D,j5,p5,D',j5',p5',rfl,q9,hb9⟩;have hH9:=H8.out.step hb9;clear t0 t1 e0 e1 e2 e3 e4 e5 e6 e7 e8 e9 e10 e11 e12 HT8 H8;obtain⟨r0,r1⟩:=two_cells (g:=w.heap.size+1+1) (hH9.at 2 rfl);obtain⟨s0,s1⟩:=two_free (g:=w.heap.size+1+1) (hH9.at 2 rfl);have Q2:=Lib.hid (clear_end (res:=w.heap.size+1+1) q9 hH9.below (by omega) (by omega) (.slice D j5 p5) (.slice D' j5' p5'));clear hH9 q9 hb9
  go_wp2_with fail
  exact bodyPost_ret (v:=.tuple #[.agg #[.slice D j5 p5,.slice D' j5' p5'],.int .i64 0]) (by simp[results,Tryz.results75,go_sem,r0,r1]) rfl ⟨_,rfl,by rw[HE2.out];exact Q2.out⟩
 ·have HE2:=Lib.hid (HE.out.2 q.1);rw[q.2] at his HE2;subst his;obtain⟨hf,hw,z1,z2,z3,ok,hm,p8⟩:=HP.out;have HO:=Lib.hid hf.ok;have HZ:=Lib.hid (And.intro z1 z2);have HQ:Hid (∃(C:Option Addr)(j p:Nat)(C':Option Addr)(j' p':Nat),(Held w [(w.heap.size+1+1,.cells #[.slice none 0 0,.slice none 0 0] 31),(w.heap.size+1,.cells (opA o) 37),(w.heap.size,.cells #[.slice C j p,.slice C' j' p'] 31)] V)/\GrAt (Clear N w (w.heap.size+1+1+1)) V (.agg #[.slice C j p,.slice C' j' p']) g):=⟨A,n,c,A',m,d,⟨by
   intro p hp;simp only[List.mem_cons,List.not_mem_nil,or_false] at hp;rcases hp with rfl|rfl|rfl
   ·exact H5.out.at 2 rfl
   ·exact H5.out.at 3 rfl
   ·exact H5.out.at 4 rfl,H5.out.below⟩,V5.out⟩
  clear HTS HE HP HP2 HX q hT hf hw z1 z2 z3 ok hm p8 H5 V5;rw[if_neg (by decide)] at HE2
  go_upto_region 22 with fail
  clear g0 g1 gf0 gf1 e0 e1 e2 e3 e4 e5 e6 e7 e8 e9 e10 e11 e12 r0 r1 s0 s1 t0 t1;generalize V=W at HQ ⊢;obtain⟨g2,hg2⟩:∃x,x=g:=⟨_,rfl⟩;rw[<-hg2] at HQ HO;rw[show tie1 (untieG g (oAt o) o.name).1 (oTo o) o.new (oIno o)=tie1 (untieG g2 (oAt o) o.name).1 (oTo o) o.new (oIno o) by rw[hg2]] at HE2;clear hg2;obtain⟨C2,j2,p2,C2',j2',p2',hH,hv⟩:=HQ.out;have hu:=HO.out.untie (oAt o) o.name;have HU:=Lib.hid (refUntie _ _ g2 (oAt o) o.name HO.out.lenE W hv);unfold stA UntPost at HU;unfold stA oAt at HU;change Hid (madeA g o=tie1 (untieG g2 (o.pt,o.pr) o.name).1 (oTo o) o.new (oIno o)) at HE2;change(untieG g2 (o.pt,o.pr) o.name).1.ok at hu;generalize (untieG g2 (o.pt,o.pr) o.name).1=u at HU hu HE2;generalize (untieG g2 (o.pt,o.pr) o.name).2.1=id at HU;generalize (untieG g2 (o.pt,o.pr) o.name).2.2=er at HU;have z2:=HZ.out.2;have HT:Hid (∀(W:World)(C:Option Addr)(j p:Nat)(C':Option Addr)(j' p':Nat),GrAt (Clear N w (w.heap.size+1+1+1)) W (.agg #[.slice C j p,.slice C' j' p']) u->w.heap.size+1+1+1<=W.heap.size->Calls Tryz.prog 99 #[.agg #[.slice C j p,.slice C' j' p'],.agg #[.int .i64 o.tt,.int .i64 o.tr],.string o.new,.agg #[.int .i64 o.it,.int .i64 o.ir]] W fun e w'=>∃(A:Option Addr)(n c:Nat)(A':Option Addr)(m d:Nat),e=.returned (.agg #[.slice A n c,.slice A' m d])/\GrAt (Clear N w (w.heap.size+1+1+1)) w' (.agg #[.slice A n c,.slice A' m d]) (tie1 u (oTo o) o.new (oIno o))/\Below W.heap.size W w'):=fun W C j p C' j' p' h hs=>
   (refTie1 _ _ u (oTo o) o.new (oIno o) hu z2 W h).mono fun e w' ⟨A,n,c,A',m,d,q1,q2,q3⟩=>⟨A,n,c,A',m,d,q1,q2.clear hs,q3⟩
  obtain⟨g0,g1⟩:=two_cells (g:=w.heap.size) (hH.at 2 rfl);obtain⟨e0,e1,e2,e3,e4,e5,e6,e7,e8,e9,e10,e11,e12⟩:=op_cells (o:=o) (g:=w.heap.size+1) (hH.at 1 rfl);have HH:=Lib.hid hH;clear hH hv hu z2 HQ HO HZ
  go_wp2_with fail
  refine HU.out.mono ?_;rintro e w6 ⟨v,rfl,q6,hb6⟩;obtain⟨B,k,l,B',k',l',rfl⟩:=q6.form;have hH6:=HH.out.step hb6;have hz6:w.heap.size+1+1<w6.heap.size:=heap_lt (hH6.at 0 rfl);have hzz:w.heap.size+1+1<W.heap.size:=heap_lt (HH.out.at 0 rfl);have q7:=q6.clear (b:=w.heap.size+1+1+1) (by omega);have Q6:=Lib.hid q7;have K6:=Lib.hid hH6;clear g0 g1 e0 e1 e2 e3 e4 e5 e6 e7 e8 e9 e10 e11 e12 HU HH q6 hb6 q7 hH6
  go_upto_region 23 with fail
  obtain⟨ub,hub⟩:∃u,u=w6.heap.size:=⟨_,rfl⟩;have hH7:=(K6.out.alloc (.cells #[.slice B k l,.slice B' k' l'] 31) hub.symm).alloc (.cells #[.int .i64 id.1,.int .i64 id.2] 24) (g:=ub+1) (by rw[hub];simp);have v7:=Q6.out.clear_step (((Below.refl w6.heap.size w6).alloc (Nat.le_refl _) (.cells #[.slice B k l,.slice B' k' l'] 31)).alloc (by simp) (.cells #[.int .i64 id.1,.int .i64 id.2] 24));change Code.wp _ _ _ _ ((w6.alloc (.cells #[.slice B k l,.slice B' k' l'] 31)).alloc (.cells #[.int .i64 id.1,.int .i64 id.2] 24));rw[<-hub];generalize (w6.alloc (.cells #[.slice B k l,.slice B' k' l'] 31)).alloc (.cells #[.int .i64 id.1,.int .i64 id.2] 24)=w8 at hH7 v7 ⊢;have hz8:w.heap.size+1+1<w8.heap.size:=heap_lt (hH7.at 2 rfl);have HT8:=Lib.hid (HT.out w8 B k l B' k' l' v7 hz8);obtain⟨t0,t1⟩:=two_cells (g:=ub) (hH7.at 1 rfl);obtain⟨e0,e1,e2,e3,e4,e5,e6,e7,e8,e9,e10,e11,e12⟩:=op_cells (o:=o) (g:=w.heap.size+1) (hH7.at 3 rfl);have H8:=Lib.hid hH7;clear K6 Q6 hub hH7 v7 HT
  go_wp2_with fail
  refine HT8.out.mono ?_;rintro e w9 ⟨D,j5,p5,D',j5',p5',rfl,q9,hb9⟩;have hH9:=H8.out.step hb9;clear t0 t1 e0 e1 e2 e3 e4 e5 e6 e7 e8 e9 e10 e11 e12 HT8 H8;obtain⟨r0,r1⟩:=two_cells (g:=w.heap.size+1+1) (hH9.at 2 rfl);obtain⟨s0,s1⟩:=two_free (g:=w.heap.size+1+1) (hH9.at 2 rfl);have Q2:=Lib.hid (clear_end (res:=w.heap.size+1+1) q9 hH9.below (by omega) (by omega) (.slice D j5 p5) (.slice D' j5' p5'));clear hH9 q9 hb9
  go_wp2_with fail
  exact bodyPost_ret (v:=.tuple #[.agg #[.slice D j5 p5,.slice D' j5' p5'],.int .i64 0]) (by simp[results,Tryz.results75,go_sem,r0,r1]) rfl ⟨_,rfl,by rw[HE2.out];exact Q2.out⟩
set_option maxRecDepth 100000 in
set_option maxHeartbeats 3200000 in
theorem refDoOk(N:Nat->Prop)(v:Value)(g:Gr)(o:Opn)(hf:g.fine)(hw:whyA g o=0)(hk4:4<=o.k)(hk7:o.k≠7)(z1:o.name.size<=9223372036854775807)(z2:o.new.size<=9223372036854775807)(z3:o.data.size<=9223372036854775807)(ok:Ok64 o)(w:World)(hv:GrAt N w v g):
  Calls Tryz.prog 75 #[v,.agg (opA o)] w (GrPost N (doA g o) w):=by
 have hg:=hf.ok;have hdo:doA g o=(madeA g o,0):=by unfold doA;rw[if_pos hw]
 rw[hdo];have hm:=whyA_may hw;obtain⟨p1,p2,_,_,_,_,_,p8⟩:=mayO_parts hm;obtain⟨A,n,c,A',m,d,rfl,hV⟩:=hv.few hg.lenI hg.lenE;have hH0:Held w [(w.heap.size+1+1,.cells #[.slice none 0 0,.slice none 0 0] 31),(w.heap.size+1,.cells (opA o) 37),(w.heap.size,.cells #[.slice A n c,.slice A' m d] 31)]
  (((w.alloc (.cells #[.slice A n c,.slice A' m d] 31)).alloc (.cells (opA o) 37)).alloc (.cells #[.slice none 0 0,.slice none 0 0] 31)):=
  (((Held.refl w).alloc (.cells #[.slice A n c,.slice A' m d] 31) rfl).alloc (.cells (opA o) 37) (by simp)).alloc (.cells #[.slice none 0 0,.slice none 0 0] 31) (by simp)
 have hv0:=hv.live.step (N':=Clear N w (w.heap.size+1+1+1)) hH0.below fun i hi=>.inl hi;have HW:Hid (∀W:World,Below w.heap.size w W->Calls Tryz.prog 97 #[.agg #[.slice A n c,.slice A' m d],.agg (opA o)] W fun e w'=>e=.returned (.int .i64 0)/\Below W.heap.size W w'):=fun W hW=>by rw[<-hw];exact(hV.step hW).why o z1 z2 z3
 have HGt:Hid (∀W:World,Below w.heap.size w W->Calls Tryz.prog 80 #[.agg #[.slice A n c,.slice A' m d],.agg #[.int .i64 o.it,.int .i64 o.ir]] W fun e w'=>e=.returned (.tuple #[.agg (inoA (inoG g (oIno o))),.bool (getG g (oIno o)).isSome])/\Below W.heap.size W w'):=fun W hW=>(hV.step hW).get (oIno o);generalize (getG g (oIno o)).isSome=xi at HGt;obtain⟨x,hx⟩:∃x,x=inoG g (oIno o):=⟨_,rfl⟩;rw[<-hx] at HGt;have H0:=Lib.hid hH0;have V0:=Lib.hid hv0;have HX:=Lib.hid hx;clear hH0 hv0 hv hdo hV hx;have HP:=Lib.hid (And.intro hf (And.intro hw (And.intro z1 (And.intro z2 (And.intro z3 (And.intro ok (And.intro hm p8)))))));clear hf hw z1 z2 z3 ok hm p8 hg;unfold opA at HW H0 V0 ⊢;unfold inoA at HGt;unfold GrPost
 go_enter Tryz.func75,Tryz.ntmps75
 go_wp2_with fail
 refine(HW.out _ H0.out.below).mono ?_;rintro e w1 ⟨rfl,hb1⟩;have hH1:=H0.out.step hb1;have hv1:=V0.out.clear_step hb1;obtain⟨g0,g1⟩:=two_cells (g:=w.heap.size) (hH1.at 2 rfl);obtain⟨e0,e1,e2,e3,e4,e5,e6,e7,e8,e9,e10,e11,e12⟩:=op_cells (o:=o) (g:=w.heap.size+1) (hH1.at 1 rfl);have H1:=Lib.hid hH1;have V1:=Lib.hid hv1;clear hH1 hv1 hb1 H0 V0 HW
 go_wp2_with fail
 refine(HGt.out _ H1.out.below).mono ?_;rintro e w2 ⟨rfl,hb2⟩;have hH2:=H1.out.step hb2;have hv2:=V1.out.clear_step hb2;clear H1 V1 HGt hb2 g0 g1 e0 e1 e2 e3 e4 e5 e6 e7 e8 e9 e10 e11 e12
 go_upto_region 5 with fail
 obtain⟨ux,hux⟩:∃u,u=w2.heap.size:=⟨_,rfl⟩;have hlx:w.heap.size+1+1<ux:=by rw[hux];exact heap_lt (hH2.at 0 rfl)
 have hH3:=hH2.alloc (.cells (inoA x) 102) hux.symm;have hv3:=hv2.clear_step ((Below.refl w2.heap.size w2).alloc (Nat.le_refl _) (.cells (inoA x) 102));have hs3:ux<(w2.alloc (.cells (inoA x) 102)).heap.size:=by rw[hux];simp
 change Code.wp _ _ _ _ (w2.alloc (.cells (inoA x) 102));rw[<-hux];generalize w2.alloc (.cells (inoA x) 102)=w3 at hH3 hv3 hs3 ⊢;clear hH2 hv2 hux;obtain⟨g0,g1⟩:=two_cells (g:=w.heap.size) (hH3.at 3 rfl);obtain⟨e0,e1,e2,e3,e4,e5,e6,e7,e8,e9,e10,e11,e12⟩:=op_cells (o:=o) (g:=w.heap.size+1) (hH3.at 2 rfl);obtain⟨r0,r1⟩:=two_cells (g:=w.heap.size+1+1) (hH3.at 1 rfl);obtain⟨s0,s1⟩:=two_free (g:=w.heap.size+1+1) (hH3.at 1 rfl);obtain⟨x0,x1,x2,x3,x4,x5⟩:=ino_cells (g:=ux) (hH3.at 0 rfl);have H3:=Lib.hid hH3;have V3:=Lib.hid hv3;clear hH3 hv3;have hk:o.k=4\/o.k=5\/o.k=6\/o.k=8\/o.k=9\/o.k=10:=by omega
 rcases hk with hk|hk|hk|hk|hk|hk
 ·have HE:Hid (madeA g o=tie1 g (oAt o) o.name (oIno o)):=Lib.hid (by unfold madeA;rw[if_neg (by omega),if_pos hk]);have b1:(o.k==1)=false:=by simp;omega
  have b2:(o.k==2)=false:=by simp;omega
  have b3:(o.k==3)=false:=by simp;omega
  have b4:(o.k==4)=true:=by simp;omega
  obtain⟨hf,hw,z1,z2,z3,ok,hm,p8⟩:=HP.out;have HT:=Lib.hid (refTie1 _ _ g (oAt o) o.name (oIno o) hf.ok z1 w3 V3.out);unfold stA oAt oIno G1Post at HT;clear hf hw z1 z2 z3 ok hm p8 hk p1 p2
  go_wp2_with fail
  refine HT.out.mono ?_;rintro e w4 ⟨C,j,p,C',j',p',rfl,q4,hb4⟩;clear HT g0 g1 e0 e1 e2 e3 e4 e5 e6 e7 e8 e9 e10 e11 e12 r0 r1 s0 s1 x0 x1 x2 x3 x4 x5;have hH4:=H3.out.step hb4;obtain⟨r0,r1⟩:=two_cells (g:=w.heap.size+1+1) (hH4.at 1 rfl);obtain⟨s0,s1⟩:=two_free (g:=w.heap.size+1+1) (hH4.at 1 rfl);have Q2:=Lib.hid (clear_end (res:=w.heap.size+1+1) (q4.clear (by omega)) hH4.below (by omega) (by omega) (.slice C j p) (.slice C' j' p'));clear hH4 q4 hb4 H3 V3
  go_wp2_with fail
  exact bodyPost_ret (v:=.tuple #[.agg #[.slice C j p,.slice C' j' p'],.int .i64 0]) (by simp[results,Tryz.results75,go_sem,r0,r1]) rfl ⟨_,rfl,by rw[HE.out];exact Q2.out⟩
 ·have HE:Hid (madeA g o=goneG g (oAt o) o.name):=Lib.hid (by unfold madeA;rw[if_neg (by omega),if_neg (by omega),if_pos (by omega)]);have b1:(o.k==1)=false:=by simp;omega
  have b2:(o.k==2)=false:=by simp;omega
  have b3:(o.k==3)=false:=by simp;omega
  have b4:(o.k==4)=false:=by simp;omega
  have b5:(o.k==5)=true:=by simp;omega
  obtain⟨hf,hw,z1,z2,z3,ok,hm,p8⟩:=HP.out;have HT:=Lib.hid (refGone _ _ g (oAt o) o.name hf.ok w3 V3.out);unfold stA oAt G1Post at HT;clear hf hw z1 z2 z3 ok hm p8 hk p1 p2
  go_wp2_with fail
  refine HT.out.mono ?_;rintro e w4 ⟨C,j,p,C',j',p',rfl,q4,hb4⟩;clear HT g0 g1 e0 e1 e2 e3 e4 e5 e6 e7 e8 e9 e10 e11 e12 r0 r1 s0 s1 x0 x1 x2 x3 x4 x5;have hH4:=H3.out.step hb4;obtain⟨r0,r1⟩:=two_cells (g:=w.heap.size+1+1) (hH4.at 1 rfl);obtain⟨s0,s1⟩:=two_free (g:=w.heap.size+1+1) (hH4.at 1 rfl);have Q2:=Lib.hid (clear_end (res:=w.heap.size+1+1) (q4.clear (by omega)) hH4.below (by omega) (by omega) (.slice C j p) (.slice C' j' p'));clear hH4 q4 hb4 H3 V3
  go_wp2_with fail
  exact bodyPost_ret (v:=.tuple #[.agg #[.slice C j p,.slice C' j' p'],.int .i64 0]) (by simp[results,Tryz.results75,go_sem,r0,r1]) rfl ⟨_,rfl,by rw[HE.out];exact Q2.out⟩
 ·have HE:Hid (madeA g o=goneG g (oAt o) o.name):=Lib.hid (by unfold madeA;rw[if_neg (by omega),if_neg (by omega),if_pos (by omega)]);have b1:(o.k==1)=false:=by simp;omega
  have b2:(o.k==2)=false:=by simp;omega
  have b3:(o.k==3)=false:=by simp;omega
  have b4:(o.k==4)=false:=by simp;omega
  have b5:(o.k==5)=false:=by simp;omega
  have b6:(o.k==6)=true:=by simp;omega
  obtain⟨hf,hw,z1,z2,z3,ok,hm,p8⟩:=HP.out;have HT:=Lib.hid (refGone _ _ g (oAt o) o.name hf.ok w3 V3.out);unfold stA oAt G1Post at HT;clear hf hw z1 z2 z3 ok hm p8 hk p1 p2
  go_wp2_with fail
  refine HT.out.mono ?_;rintro e w4 ⟨C,j,p,C',j',p',rfl,q4,hb4⟩;clear HT g0 g1 e0 e1 e2 e3 e4 e5 e6 e7 e8 e9 e10 e11 e12 r0 r1 s0 s1 x0 x1 x2 x3 x4 x5;have hH4:=H3.out.step hb4;obtain⟨r0,r1⟩:=two_cells (g:=w.heap.size+1+1) (hH4.at 1 rfl);obtain⟨s0,s1⟩:=two_free (g:=w.heap.size+1+1) (hH4.at 1 rfl);have Q2:=Lib.hid (clear_end (res:=w.heap.size+1+1) (q4.clear (by omega)) hH4.below (by omega) (by omega) (.slice C j p) (.slice C' j' p'));clear hH4 q4 hb4 H3 V3
  go_wp2_with fail
  exact bodyPost_ret (v:=.tuple #[.agg #[.slice C j p,.slice C' j' p'],.int .i64 0]) (by simp[results,Tryz.results75,go_sem,r0,r1]) rfl ⟨_,rfl,by rw[HE.out];exact Q2.out⟩
 ·have HE:Hid (madeA g o=(setG g (oIno o) x.mode (wR x.data o.off o.data).1).1):=Lib.hid (by obtain⟨hf,_,_,_,_,_,hm,_⟩:=HP.out;rw[HX.out,wrote_is hf hm hk];unfold madeA;rw[if_neg (by omega),if_neg (by omega),if_neg (by omega),if_neg (by omega),if_pos hk]);have b1:(o.k==1)=false:=by simp;omega
  have b2:(o.k==2)=false:=by simp;omega
  have b3:(o.k==3)=false:=by simp;omega
  have b4:(o.k==4)=false:=by simp;omega
  have b5:(o.k==5)=false:=by simp;omega
  have b6:(o.k==6)=false:=by simp;omega
  have b7:(o.k==7)=false:=by simp;omega
  have b8:(o.k==8)=true:=by simp;omega
  obtain⟨hf,hw,z1,z2,z3,ok,hm,p8⟩:=HP.out;have hxd:x.data.size<=2000:=by have:=inoG_small hf (oIno o);rw[HX.out];omega
  have hsd:=data_small hm hk;have HR:=Lib.hid (refWrite x.data o.off o.data hxd (by omega) ok.off w3);obtain⟨dd,hdd⟩:∃dd,dd=(wR x.data o.off o.data).1:=⟨_,rfl⟩;rw[<-hdd] at HR HE;generalize (wR x.data o.off o.data).2=de at HR;have HT:=Lib.hid fun(W:World)(hW:Below w3.heap.size w3 W)=>refSet1 _ _ g (oIno o) x.mode dd hf.ok W (V3.out.clear_step hW);unfold stA oIno G1Post at HT;clear hf hw z1 z2 z3 ok hm p8 hk p1 p2 hxd hdd hsd
  go_wp2_with fail
  refine HR.out.mono ?_;rintro e w4 ⟨rfl,hb4⟩;have hT4:=HT.out w4 hb4;have hH4:=H3.out.step hb4;have hs4:=hb4.size;clear HT g0 g1 e0 e1 e2 e3 e4 e5 e6 e7 e8 e9 e10 e11 e12 r0 r1 s0 s1 x0 x1 x2 x3 x4 x5 hb4 H3 V3 HR;obtain⟨g0,g1⟩:=two_cells (g:=w.heap.size) (hH4.at 3 rfl);obtain⟨e0,e1,e2,e3,e4,e5,e6,e7,e8,e9,e10,e11,e12⟩:=op_cells (o:=o) (g:=w.heap.size+1) (hH4.at 2 rfl);obtain⟨x0,x1,x2,x3,x4,x5⟩:=ino_cells (g:=ux) (hH4.at 0 rfl);have HT:=Lib.hid hT4;have H4:=Lib.hid hH4;clear hT4 hH4
  go_wp2_with fail
  refine HT.out.mono ?_;rintro e w5 ⟨C,j,p,C',j',p',rfl,q5,hb5⟩;clear HT g0 g1 e0 e1 e2 e3 e4 e5 e6 e7 e8 e9 e10 e11 e12 x0 x1 x2 x3 x4 x5;have hH5:=H4.out.step hb5;obtain⟨r0,r1⟩:=two_cells (g:=w.heap.size+1+1) (hH5.at 1 rfl);obtain⟨s0,s1⟩:=two_free (g:=w.heap.size+1+1) (hH5.at 1 rfl);have Q2:=Lib.hid (clear_end (res:=w.heap.size+1+1) (q5.clear (by omega)) hH5.below (by omega) (by omega) (.slice C j p) (.slice C' j' p'));clear hH5 q5 hb5 H4
  go_wp2_with fail
  exact bodyPost_ret (v:=.tuple #[.agg #[.slice C j p,.slice C' j' p'],.int .i64 0]) (by simp[results,Tryz.results75,go_sem,r0,r1]) rfl ⟨_,rfl,by rw[HE.out];exact Q2.out⟩
 ·have HE:Hid (madeA g o=(setG g (oIno o) x.mode (tR x.data o.off).1).1):=Lib.hid (by obtain⟨hf,_,_,_,_,_,hm,_⟩:=HP.out;rw[HX.out,cut_is hf hm hk];unfold madeA;rw[if_neg (by omega),if_neg (by omega),if_neg (by omega),if_neg (by omega),if_neg (by omega),if_pos hk]);have b1:(o.k==1)=false:=by simp;omega
  have b2:(o.k==2)=false:=by simp;omega
  have b3:(o.k==3)=false:=by simp;omega
  have b4:(o.k==4)=false:=by simp;omega
  have b5:(o.k==5)=false:=by simp;omega
  have b6:(o.k==6)=false:=by simp;omega
  have b7:(o.k==7)=false:=by simp;omega
  have b8:(o.k==8)=false:=by simp;omega
  have b9:(o.k==9)=true:=by simp;omega
  obtain⟨hf,hw,z1,z2,z3,ok,hm,p8⟩:=HP.out;have hxd:x.data.size<=2000:=by have:=inoG_small hf (oIno o);rw[HX.out];omega
  have HR:=Lib.hid (refTrunc x.data o.off hxd w3);obtain⟨dd,hdd⟩:∃dd,dd=(tR x.data o.off).1:=⟨_,rfl⟩;rw[<-hdd] at HR HE;generalize (tR x.data o.off).2=de at HR;have HT:=Lib.hid fun(W:World)(hW:Below w3.heap.size w3 W)=>refSet1 _ _ g (oIno o) x.mode dd hf.ok W (V3.out.clear_step hW);unfold stA oIno G1Post at HT;clear hf hw z1 z2 z3 ok hm p8 hk p1 p2 hxd hdd
  go_wp2_with fail
  refine HR.out.mono ?_;rintro e w4 ⟨rfl,hb4⟩;have hT4:=HT.out w4 hb4;have hH4:=H3.out.step hb4;have hs4:=hb4.size;clear HT g0 g1 e0 e1 e2 e3 e4 e5 e6 e7 e8 e9 e10 e11 e12 r0 r1 s0 s1 x0 x1 x2 x3 x4 x5 hb4 H3 V3 HR;obtain⟨g0,g1⟩:=two_cells (g:=w.heap.size) (hH4.at 3 rfl);obtain⟨e0,e1,e2,e3,e4,e5,e6,e7,e8,e9,e10,e11,e12⟩:=op_cells (o:=o) (g:=w.heap.size+1) (hH4.at 2 rfl);obtain⟨x0,x1,x2,x3,x4,x5⟩:=ino_cells (g:=ux) (hH4.at 0 rfl);have HT:=Lib.hid hT4;have H4:=Lib.hid hH4;clear hT4 hH4
  go_wp2_with fail
  refine HT.out.mono ?_;rintro e w5 ⟨C,j,p,C',j',p',rfl,q5,hb5⟩;clear HT g0 g1 e0 e1 e2 e3 e4 e5 e6 e7 e8 e9 e10 e11 e12 x0 x1 x2 x3 x4 x5;have hH5:=H4.out.step hb5;obtain⟨r0,r1⟩:=two_cells (g:=w.heap.size+1+1) (hH5.at 1 rfl);obtain⟨s0,s1⟩:=two_free (g:=w.heap.size+1+1) (hH5.at 1 rfl);have Q2:=Lib.hid (clear_end (res:=w.heap.size+1+1) (q5.clear (by omega)) hH5.below (by omega) (by omega) (.slice C j p) (.slice C' j' p'));clear hH5 q5 hb5 H4
  go_wp2_with fail
  exact bodyPost_ret (v:=.tuple #[.agg #[.slice C j p,.slice C' j' p'],.int .i64 0]) (by simp[results,Tryz.results75,go_sem,r0,r1]) rfl ⟨_,rfl,by rw[HE.out];exact Q2.out⟩
 ·have HE:Hid (madeA g o=(setG g (oIno o) o.off x.data).1):=Lib.hid (by rw[HX.out];unfold madeA;rw[if_neg (by omega),if_neg (by omega),if_neg (by omega),if_neg (by omega),if_neg (by omega),if_neg (by omega)]);have b1:(o.k==1)=false:=by simp;omega
  have b2:(o.k==2)=false:=by simp;omega
  have b3:(o.k==3)=false:=by simp;omega
  have b4:(o.k==4)=false:=by simp;omega
  have b5:(o.k==5)=false:=by simp;omega
  have b6:(o.k==6)=false:=by simp;omega
  have b7:(o.k==7)=false:=by simp;omega
  have b8:(o.k==8)=false:=by simp;omega
  have b9:(o.k==9)=false:=by simp;omega
  obtain⟨hf,hw,z1,z2,z3,ok,hm,p8⟩:=HP.out;have HT:=Lib.hid (refSet1 _ _ g (oIno o) o.off x.data hf.ok w3 V3.out);unfold stA oIno G1Post at HT;clear hf hw z1 z2 z3 ok hm p8 hk p1 p2
  go_wp2_with fail
  refine HT.out.mono ?_;rintro e w4 ⟨C,j,p,C',j',p',rfl,q4,hb4⟩;clear HT g0 g1 e0 e1 e2 e3 e4 e5 e6 e7 e8 e9 e10 e11 e12 r0 r1 s0 s1 x0 x1 x2 x3 x4 x5;have hH4:=H3.out.step hb4;obtain⟨r0,r1⟩:=two_cells (g:=w.heap.size+1+1) (hH4.at 1 rfl);obtain⟨s0,s1⟩:=two_free (g:=w.heap.size+1+1) (hH4.at 1 rfl);have Q2:=Lib.hid (clear_end (res:=w.heap.size+1+1) (q4.clear (by omega)) hH4.below (by omega) (by omega) (.slice C j p) (.slice C' j' p'));clear hH4 q4 hb4 H3 V3
  go_wp2_with fail
  exact bodyPost_ret (v:=.tuple #[.agg #[.slice C j p,.slice C' j' p'],.int .i64 0]) (by simp[results,Tryz.results75,go_sem,r0,r1]) rfl ⟨_,rfl,by rw[HE.out];exact Q2.out⟩
end Go.Proofs.YtnnnkaobhkeocaaGreatDoor
namespace Go.Proofs.YtnnnkaobhkeocaaGreatDoor
open Go.RowKit StampMath GraphMath OpMath
theorem refDo(N:Nat->Prop)(v:Value)(g:Gr)(o:Opn)(hf:g.fine)(z1:o.name.size<=9223372036854775807)(z2:o.new.size<=9223372036854775807)(z3:o.data.size<=9223372036854775807)(ok:Ok64 o)(w:World)(hv:GrAt N w v g):
  Calls Tryz.prog 75 #[v,.agg (opA o)] w (GrPost N (doA g o) w):=by
 by_cases hw:whyA g o=0
 ·by_cases h3:o.k<=3
  ·exact refDoMake N v g o hf hw h3 z1 z2 z3 ok w hv
  ·by_cases h7:o.k=7
   ·exact refDoRename N v g o hf hw h7 z1 z2 z3 ok w hv
   ·exact refDoOk N v g o hf hw (by omega) h7 z1 z2 z3 ok w hv
 ·exact refDoBad N v g o hf.ok hw z1 z2 z3 w hv
end Go.Proofs.YtnnnkaobhkeocaaGreatDoor
namespace Go.Proofs.YtnnnkaobhkeocaaGreatDoor
open Go.RowKit StampMath GraphMath
set_option maxRecDepth 100000 in
set_option maxHeartbeats 800000 in
theorem refGraphNew(w:World):
  Calls Tryz.prog 35 #[] w fun e w'=>∃v,e=.returned v/\GrAt (fun i=>w.heap.size<=i) w' v newG/\Below w.heap.size w w':=by
 go_enter Tryz.func35,Tryz.ntmps35
 go_wp2_with fail
 have hx:=heap_alloc_new (w.alloc (.cells #[.slice (some ⟨w.heap.size+1,0,none⟩) 1 1,.slice none 0 0] 31)) (.cells (inoA ⟨(0,0),1,0,0,⟨#[]⟩⟩) 102);rw[World.size_alloc] at hx;have hI:InosIn ((w.alloc (.cells #[.slice (some ⟨w.heap.size+1,0,none⟩) 1 1,.slice none 0 0] 31)).alloc (.cells (inoA ⟨(0,0),1,0,0,⟨#[]⟩⟩) 102)) ((w.alloc (.cells #[.slice (some ⟨w.heap.size+1,0,none⟩) 1 1,.slice none 0 0] 31)).alloc (.cells (inoA ⟨(0,0),1,0,0,⟨#[]⟩⟩) 102)).heap.size (some ⟨w.heap.size+1,0,none⟩) 1 newG.I:=
  ⟨rfl,fun _=>⟨w.heap.size+1,0,rfl,by simp,fun j hj i v hv=>by
   have hj0:j=0:=by have:j<1:=hj;omega
   subst hj0;rw[show(0:Nat)+0*6+i=i by omega,cell_of_row _ _ i _ _ (0,0) hx]
   exact hv⟩⟩
 exact bodyPost_ret (v:=.agg #[.slice (some ⟨w.heap.size+1,0,none⟩) 1 1,.slice none 0 0]) (by simp[results,Tryz.results35,go_sem]) rfl
  ⟨_,rfl,⟨some ⟨w.heap.size+1,0,none⟩,1,1,none,0,0,rfl,hI,⟨Nat.le_refl _,by decide,(fun h=>by cases h),(fun _ p hp=>by cases hp;exact Nat.le_succ _)⟩,TabIn.nil 5 _ _ _,⟨Nat.le_refl _,by decide,fun _=>rfl,(fun _ p hp=>by cases hp)⟩⟩,((Below.refl _ w).alloc (Nat.le_refl _) _).alloc (by simp) _⟩
end Go.Proofs.YtnnnkaobhkeocaaGreatDoor
