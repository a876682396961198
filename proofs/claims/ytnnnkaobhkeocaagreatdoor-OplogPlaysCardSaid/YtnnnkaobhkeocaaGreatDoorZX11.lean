/-
 The walk of the document's own On: operations are sorted, and done one behind the other, on a graph that lies in a box.
-/
import Derived.Test.YtnnnkaobhkeocaaGreatDoorZX10
import Derived.Test.YtnnnkaobhkeocaaGreatDoorZX00
namespace Go.Proofs.YtnnnkaobhkeocaaGreatDoor
open Go.RowKit StampMath GraphMath OpMath PackMath
structure BoxedO (N:Nat->Prop) (w W:World) (bx rs:Nat) (γ:Gr) (X:Option Addr) (n1 c1:Nat) (Y:Option Addr) (m1 d1:Nat) (A:Option Addr) (n:Nat) (l:List Opn):Prop where
 x:GrAt (fun i=>(MoreN N w i/\i≠bx/\i≠rs)/\i<W.heap.size) W (.agg #[.slice X n1 c1,.slice Y m1 d1]) γ
 ge:w.heap.size<=bx
 ge':w.heap.size<=rs
 ne:bx<rs
 box:W.heap[bx]?=some (.cells #[.slice X n1 c1,.slice Y m1 d1] 31 (0,0))
 res:W.heap[rs]?=some (.cells #[.slice none 0 0,.slice none 0 0] 31 (0,0))
 below:Below w.heap.size w W
 ops:OpsIn W W.heap.size A n l
theorem ops_unbox{W:World}{B:Nat}{A:Option Addr}{n:Nat}{l:List Opn}(h:OpsIn W B A n l){bx:Nat}{X:Option Addr}{n1 c1:Nat}{Y:Option Addr}{m1 d1:Nat}{T:TypeId}(hb:W.heap[bx]?=some (.cells #[.slice X n1 c1,.slice Y m1 d1] T (0,0)))(hn:0<n):∀p,A=some p->p.block≠bx:=by
 intro p hp e;obtain⟨g,o,e',hg,hrow⟩:=h.row hn;rw[hp] at e'
 injection e' with e'
 subst e';have hl:=h.len;obtain⟨c0,_⟩:=hrow 0 (by omega);have e1:bx=g:=e.symm;subst e1;obtain⟨k,hk⟩:∃k,k=o+0*13:=⟨_,rfl⟩;rw[<-hk] at c0;rcases k with _|_|k
 ·rw[cell_of_row _ _ 0 _ _ (0,0) hb] at c0
  cases c0
 ·rw[cell_of_row _ _ 1 _ _ (0,0) hb] at c0
  cases c0
 ·rw[cell_of_row _ _ (k+2) _ _ (0,0) hb] at c0
  cases c0
theorem boxedO_start{N:Nat->Prop}{w w4:World}{γ:Gr}{X:Option Addr}{n1 c1:Nat}{Y:Option Addr}{m1 d1:Nat}{A:Option Addr}{n:Nat}{l:List Opn}
  (hv:GrAt N w (.agg #[.slice X n1 c1,.slice Y m1 d1]) γ){u v:Nat}(hu:u=w.heap.size)(hv':v=u+1)
  (hb:Below ((w.alloc (.cells #[.slice X n1 c1,.slice Y m1 d1] 31)).alloc (.cells #[.slice none 0 0,.slice none 0 0] 31)).heap.size ((w.alloc (.cells #[.slice X n1 c1,.slice Y m1 d1] 31)).alloc (.cells #[.slice none 0 0,.slice none 0 0] 31)) w4)
  (hO:OpsIn w4 w4.heap.size A n l):BoxedO N w w4 u v γ X n1 c1 Y m1 d1 A n l:=by
 have hH:=(((Held.refl w).alloc (.cells #[.slice X n1 c1,.slice Y m1 d1] 31) (g:=u) hu.symm).alloc (.cells #[.slice none 0 0,.slice none 0 0] 31) (g:=v) (by simp[hu,hv'])).step hb;have hb4:=hH.below;have hs:=hb4.size;refine⟨hv.live.step hb4 fun i hi=>⟨⟨.inl hi.1,by have:=hi.2;omega,by have:=hi.2;omega⟩,by have:=hi.2;omega⟩,by omega,by omega,by omega,hH.at 1 rfl,hH.at 0 rfl,hb4,hO⟩
theorem boxedO_end{N:Nat->Prop}{w w6 w9:World}{bx rs:Nat}{γ φ:Gr}{X X0:Option Addr}{n1 c1 n0 c0:Nat}{Y Y0:Option Addr}{m1 d1 m0 d0:Nat}{A:Option Addr}{n:Nat}{l:List Opn}(h:BoxedO N w w6 bx rs γ X0 n0 c0 Y0 m0 d0 A n l)(hB:Below w6.heap.size w6 w9)
  (q8:GrAt (MoreN (fun i=>(MoreN N w i/\i≠bx/\i≠rs)/\i<w6.heap.size) w6) w9 (.agg #[.slice X n1 c1,.slice Y m1 d1]) φ):
  BoxedO N w ((w9.setCell ⟨bx,0,none⟩ (.slice X n1 c1)).setCell ⟨bx,1,none⟩ (.slice Y m1 d1)) bx rs φ X n1 c1 Y m1 d1 A n l:=by
 have hlt:=heap_lt h.box;have hlt':=heap_lt h.res;have hge:=h.ge;have hne:=h.ne;have hs:=hB.size;have hs6:=h.below.size;have h9:=(hB.block bx hlt).trans h.box;refine⟨q8.live.keep (fun i hi=>?_) (by simp) fun i hi=>?_,hge,h.ge',hne,?_,?_,?_,?_⟩
 ·have hne:i≠bx:=by
   rcases hi.1 with q|q
   ·exact q.1.2.1
   ·omega
  rw[heap_setCell_other _ _ _ _ hne,heap_setCell_other _ _ _ _ hne]
 ·have h2:=hi.2;refine⟨?_,by simpa using h2⟩;rcases hi.1 with q|q
  ·exact q.1
  ·exact⟨.inr (by omega),by omega,by omega⟩
 ·rw[heap_setCell_same _ _ _ _ _ _ (heap_setCell_same _ _ _ _ _ _ h9)]
  rfl
 ·rw[heap_setCell_other _ _ _ _ (show rs≠bx by omega),heap_setCell_other _ _ _ _ (show rs≠bx by omega)];exact(hB.block _ (by omega)).trans h.res
 ·exact((below_step h.below hB).setCell (p:=⟨bx,0,none⟩) (by dsimp only;omega) _).setCell (p:=⟨bx,1,none⟩) (by dsimp only;omega) _
 ·refine TabIn.keep ((h.ops.below hB).more hs) (fun hn p hp=>?_) (by simp);have hne:=ops_unbox h.ops h.box hn p hp;rw[heap_setCell_other _ _ _ _ hne,heap_setCell_other _ _ _ _ hne]
set_option maxRecDepth 100000 in
set_option maxHeartbeats 3200000 in
theorem refOn_of(refSort:∀(A:Option Addr)(n c:Nat)(l:List Opn)(_:n<=60)(_:∀o∈l,OpFit o)(w:World)(_:OpsIn w w.heap.size A n l),Calls Tryz.prog 74 #[.slice A n c] w (OpsPost (sortO l) w))
  (N:Nat->Prop)(v:Value)(γ:Gr)(hf:γ.fine)(A:Option Addr)(n c:Nat)(l:List Opn)(hn:n<=60)(hfit:∀o∈l,OpFit o)(w:World)(hv:GrAt N w v γ)(h:OpsIn w w.heap.size A n l):
  Calls Tryz.prog 44 #[v,.slice A n c] w fun e w'=>∃v',e=.returned v'/\GrAt (MoreN N w) w' v' (runG γ (sortO l))/\Below w.heap.size w w':=by
 obtain⟨X,n1,c1,Y,m1,d1,rfl⟩:=hv.form;have hl:=h.len;have hsl:=sort_len l;have HS:=Lib.hid (fun o(ho:o∈sortO l)=>hfit o (sort_sub o ho));obtain⟨s,hs⟩:∃s,s=sortO l:=⟨_,rfl⟩;obtain⟨u,hu⟩:∃u,u=w.heap.size:=⟨_,rfl⟩;have R0:Hid (∀W,Below w.heap.size w W->Calls Tryz.prog 74 #[.slice A n c] W (OpsPost (sortO l) W)):=Lib.hid fun W hW=>refSort A n c l hn hfit W ((h.below hW).more hW.size);have HB:Hid (∀w4 A n l,Below ((w.alloc (.cells #[.slice X n1 c1,.slice Y m1 d1] 31)).alloc (.cells #[.slice none 0 0,.slice none 0 0] 31)).heap.size ((w.alloc (.cells #[.slice X n1 c1,.slice Y m1 d1] 31)).alloc (.cells #[.slice none 0 0,.slice none 0 0] 31)) w4->OpsIn w4 w4.heap.size A n l->BoxedO N w w4 u (u+1) γ X n1 c1 Y m1 d1 A n l):=Lib.hid fun w4 A n l hb hO=>boxedO_start hv hu rfl hb hO;unfold OpsPost at R0;rw[<-hs] at R0 HS hsl ⊢;clear h hfit hv
 go_enter Tryz.func44,Tryz.ntmps44
 go_wp2_with fail
 refine(R0.out _ (((Below.refl _ w).alloc (Nat.le_refl _) _).alloc (by simp) _)).mono ?_;rintro e w4 ⟨B,k4,rfl,hO,_,_,_,hb4⟩;have P0:=Lib.hid (HB.out _ _ _ _ hb4 hO);clear HB hb4 hO hs
 go_wp2_with fail
 rw[<-hu];clear R0;clear hu
 go_loopg [6] 61 (fun gk i wr=>∃(k:Nat)(X:Option Addr)(n1 c1:Nat)(Y:Option Addr)(m1 d1:Nat),i=.int .i64 (k:Int)/\gk+k=61/\k<=s.length/\Hid (BoxedO N w wr u (u+1) (runG γ (s.take k)) X n1 c1 Y m1 d1 B s.length s))
 case atStart=>exact⟨0,X,n1,c1,Y,m1,d1,rfl,by omega,by omega,P0⟩
 case round=>
  clear P0;obtain⟨k,Xa,na,ca,Ya,ma,da,rfl,hgk,hk,hP⟩:=hrel;have HG:=Lib.hid hgk;clear hgk;by_cases hlt:k<s.length
  ·obtain⟨gi,o,rfl,hg,hcell⟩:=hP.out.ops.row (by omega);have hca:=hcell k hlt;have hnm:=HS.out _ (List.getElem_mem hlt);obtain⟨d,hd⟩:∃d,s[k]=d:=⟨_,rfl⟩;have hnx:=runG_next γ (l:=s) (k:=k) hlt;rw[hd] at hca hnm hnx;have HNX:=Lib.hid hnx;have HFi:=Lib.hid (runG_fine hf (s.take k));have HNM:=Lib.hid hnm;have hi0:(0:Int)<=(k:Int):=by omega
   have hi1:(k:Int)<(s.length:Int):=by omega
   obtain⟨w6,hw6⟩:∃W,W=wr:=⟨_,rfl⟩;rw[<-hw6] at hP hca hg ⊢;have HD:Hid (∀W,Below w6.heap.size w6 W->OpAt W gi (o+k*13) d):=fun W hW=>hca.below hW hg;clear hw6 hcell hd hnm hlt hnx;obtain⟨z0,z1,z2,z3,z4,z5,z6,z7,z8,z9,z10,z11,z12⟩:=hca;obtain⟨x0,x1⟩:=two_cells hP.out.box;have R:Hid (∀W,Below w6.heap.size w6 W->Calls Tryz.prog 75 #[.agg #[.slice Xa na ca,.slice Ya ma da],.agg #[.int .i64 d.st,.int .i64 d.sr,.int .i64 d.k,.int .i64 d.pt,.int .i64 d.pr,.int .i64 d.it,.int .i64 d.ir,.int .i64 d.tt,.int .i64 d.tr,.string d.name,.string d.new,.int .i64 d.off,.string d.data]] W fun e w'=>
     ∃(X:Option Addr)(n1 c1:Nat)(Y:Option Addr)(m1 d1:Nat),e=.returned (.tuple #[.agg #[.slice X n1 c1,.slice Y m1 d1],.int .i64 (doA (runG γ (s.take k)) d).2])/\GrAt (MoreN (fun i=>(MoreN N w i/\i≠u/\i≠u+1)/\i<w6.heap.size) W) w' (.agg #[.slice X n1 c1,.slice Y m1 d1]) (doA (runG γ (s.take k)) d).1/\Below W.heap.size W w'):=fun W hW=>by
    have h1:=HNM.out.name;have h2:=HNM.out.new;have h3:=HNM.out.data;unfold maxLen at h1 h2 h3;refine(refDo _ _ _ d HFi.out (by omega) (by omega) (by omega) HNM.out.ok W (hP.out.x.step hW)).mono ?_;rintro e w' ⟨v,rfl,q1,q2⟩;obtain⟨X,n1,c1,Y,m1,d1,rfl⟩:=q1.form;exact⟨X,n1,c1,Y,m1,d1,rfl,q1,q2⟩
   generalize (doA (runG γ (s.take k)) d).1=φ at R HNX;generalize (doA (runG γ (s.take k)) d).2=er at R;have hNl:Hid (∀i,(fun i=>(MoreN N w i/\i≠u/\i≠u+1)/\i<w6.heap.size) i->i<w6.heap.size):=fun i hi=>hi.2
   go_upto_region 5 with fail
   go_cut [7,8] from 11 to 26 (fun v1 v2 wx=>Told (fun i=>(MoreN N w i/\i≠u/\i≠u+1)/\i<w6.heap.size) w6 φ er v1 v2 wx)
   case first=>
    have zb:=heap_lt hP.out.box;have zg:gi<w6.heap.size:=hg
    go_region_with (first
     |(go_at_call 75;(with_reducible refine(R.out ((w6.alloc (.cells #[.slice none 0 0,.slice none 0 0] 31)).drew) (by repeat(first|exact Below.refl _ _|assumption|apply Below.drew|exact(Below.refl _ _).alloc (Nat.le_refl _) _))).mono ?_);rintro e w8 ⟨X8,n8,c8,Y8,m8,d8,rfl,q8,hb8⟩;have hx8:=box_behind hb8;obtain⟨y0,y1⟩:=two_cells hx8;obtain⟨y2,y3⟩:=two_free hx8)
     |(go_at_call 75;(with_reducible refine(R.out _ (by repeat(first|exact Below.refl _ _|assumption|apply Below.drew|exact(Below.refl _ _).alloc (Nat.le_refl _) _))).mono ?_);rintro e w8 ⟨X8,n8,c8,Y8,m8,d8,rfl,q8,hb8⟩))
    all_goals
     go_wp2_with fail
     go_meet
    all_goals(case rel=>first|exact told_after (by repeat(first|exact Below.refl _ _|assumption|apply Below.drew)) q8 hb8|exact told_before hNl.out hx8 q8 hb8)
   case rest=>
    obtain⟨bn,X8,n8,c8,Y8,m8,d8,rfl,rfl,hB8,hge8,hbox8,q8⟩:=hcut;generalize wc=w9 at hB8 hbox8 q8 ⊢;have hx9:=(hB8.block _ (heap_lt hP.out.box)).trans hP.out.box;have HE:Hid (BoxedO N w ((w9.setCell ⟨u,0,none⟩ (.slice X8 n8 c8)).setCell ⟨u,1,none⟩ (.slice Y8 m8 d8)) u (u+1) φ X8 n8 c8 Y8 m8 d8 (some ⟨gi,o,none⟩) s.length s):=boxedO_end hP.out hB8 q8;clear x0 x1 z0 z1 z2 z3 z4 z5 z6 z7 z8 z9 z10 z11 z12 q8;obtain⟨x0,x1⟩:=two_cells hx9;obtain⟨y0,y1⟩:=two_cells hbox8;obtain⟨f0,f1⟩:=two_free hx9;clear hx9 hB8 hge8 hbox8 R hNl HD
    go_wp2_with fail
    go_roundg (gk-1)
    case measure=>have:=HG.out;omega
    case rel=>exact⟨k+1,X8,n8,c8,Y8,m8,d8,by go_num,by have:=HG.out;omega,by omega,by rw[HNX.out];exact HE⟩
  ·have hc:¬(k:Int)<(s.length:Int):=by omega
   obtain⟨x0,x1⟩:=two_cells hP.out.box;obtain⟨r0,r1⟩:=two_cells hP.out.res;obtain⟨f0,f1⟩:=two_free hP.out.res;have hne:=hP.out.ne;have F:Hid (GrAt (MoreN N w) ((wr.setCell ⟨u+1,0,none⟩ (.slice Xa na ca)).setCell ⟨u+1,1,none⟩ (.slice Ya ma da)) (.agg #[.slice Xa na ca,.slice Ya ma da]) (runG γ s)/\Below w.heap.size w ((wr.setCell ⟨u+1,0,none⟩ (.slice Xa na ca)).setCell ⟨u+1,1,none⟩ (.slice Ya ma da))):=by
    have hx:=hP.out.x;have hge':=hP.out.ge';rw[List.take_of_length_le (by omega)] at hx;refine⟨hx.keep (fun i hi=>?_) (by simp) fun i hi=>hi.1.1,(hP.out.below.setCell (p:=⟨u+1,0,none⟩) hge' _).setCell (p:=⟨u+1,1,none⟩) hge' _⟩;have hne:i≠u+1:=hi.1.2.2;rw[heap_setCell_other _ _ _ _ hne,heap_setCell_other _ _ _ _ hne]
   have E:Hid (((wr.setCell ⟨u+1,0,none⟩ (.slice Xa na ca)).setCell ⟨u+1,1,none⟩ (.slice Ya ma da)).heap[u+1]?=some (.cells #[.slice Xa na ca,.slice Ya ma da] 31 (0,0))):=by
    have hr:=hP.out.res;unfold Hid;rw[heap_setCell_same _ _ _ _ _ _ (heap_setCell_same _ _ _ _ _ _ hr)]
    rfl
   clear hlt
   go_wp2_with fail
   obtain⟨p0,p1⟩:=two_cells E.out;exact bodyPost_ret (v:=.agg #[.slice Xa na ca,.slice Ya ma da]) (by simp[results,Tryz.results44,go_sem,p0,p1]) rfl ⟨_,rfl,F.out⟩
theorem refOn(N:Nat->Prop)(v:Value)(γ:Gr)(hf:γ.fine)(A:Option Addr)(n c:Nat)(l:List Opn)(hn:n<=60)(hfit:∀o∈l,OpFit o)(w:World)(hv:GrAt N w v γ)(h:OpsIn w w.heap.size A n l):
  Calls Tryz.prog 44 #[v,.slice A n c] w fun e w'=>∃v',e=.returned v'/\GrAt (MoreN N w) w' v' (runG γ (sortO l))/\Below w.heap.size w w':=
 refOn_of refSort N v γ hf A n c l hn hfit w hv h
theorem less_put(a b:St)(W:World):Calls Tryz.prog 42 #[.agg #[.int .i64 a.1,.int .i64 a.2],.agg #[.int .i64 b.1,.int .i64 b.2]] W fun e w'=>e=.returned (.bool (lessS a b))/\Below W.heap.size W w':=refLess a.1 a.2 b.1 b.2 W
def PutPost(R:List Opn×Nat×Bool)(w:World)(e:Ending)(w':World):Prop:=
 ∃(B:Option Addr)(k:Nat),e=.returned (.tuple #[.slice B R.1.length k,.int .i64 (R.2.1:Int),.bool R.2.2])/\OpsIn w' w'.heap.size B R.1.length R.1/\R.1.length<=k/\k<=maxLen/\(B=none->k=0)/\Below w.heap.size w w'
def Came(A:Option Addr)(f:Bool)(b:Nat)(B:Option Addr)(k:Nat):Prop:=(B=none->k=0)/\∀p,B=some p->(A=some p/\f=false)\/b<=p.block
theorem ops_came(A:Option Addr)(f:Bool){W:World}{base b:Nat}{v:Value}{n:Nat}{l:List Opn}(hn:l.length=n)(h:W.ownsRow base 37 13 v n (flat (l.map opA)))(hb:b<=base):
  ∃(B:Option Addr)(c:Nat),v=.slice B n c/\OpsIn W W.heap.size B n l/\n<=c/\c<=maxLen/\Came A f b B c:=by
 obtain⟨B,c,rfl,h1,h2,h3,h4⟩:=ops_own hn h;refine⟨B,c,rfl,h1,h2,h3,h4,fun p hp=>.inr (Nat.le_trans hb (h.lt p.block ?_).1)⟩;rw[hp]
 rfl
def PutCame(A:Option Addr)(R:List Opn×Nat×Bool)(w:World)(e:Ending)(w':World):Prop:=
 ∃(B:Option Addr)(k:Nat),e=.returned (.tuple #[.slice B R.1.length k,.int .i64 (R.2.1:Int),.bool R.2.2])/\OpsIn w' w'.heap.size B R.1.length R.1/\R.1.length<=k/\k<=maxLen/\Came A R.2.2 w.heap.size B k/\Below w.heap.size w w'
set_option maxRecDepth 100000 in
set_option maxHeartbeats 3200000 in
theorem refPut_came(A0 A:Option Addr)(hA0:Hid (A0=A))(n c:Nat)(x:List Opn)(o:Opn)(hn:n<=1000)(hnc:n<=c)(hcm:c<=maxLen)(hd1:A=none->c=0)(ho:OpFit o)(hR:Rises x)(w:World)(h:OpsIn w w.heap.size A n x):
  Calls Tryz.prog 49 #[.slice A n c,.agg (opA o)] w (PutCame A0 (putO x o) w):=by
 obtain⟨i0,hi0,hz0,hz1,hz2⟩:=info_parts op_infos;have hl:=h.len;have HR:Hid (putO x o=if mayO o=false then(x,0,false) else if hasO x (oSt o)=true then(x,placeO x (oSt o),false) else(putIn (beforeO (oSt o)) x o,placeO x (oSt o),true)):=rfl;have HP:Hid (hasO x (oSt o)=true↔ ∃hp:placeO x (oSt o)<x.length,oSt (x[placeO x (oSt o)])=oSt o):=place_has hR;have HI:Hid (putIn (beforeO (oSt o)) x o=x.take (placeO x (oSt o))++o::x.drop (placeO x (oSt o))):=putIn_place;have HPL:Hid (placeO x (oSt o)=(x.takeWhile (beforeO (oSt o))).length):=rfl;generalize putO x o=R at HR ⊢;have HX:=Lib.hid h;have hH0:Held w [(w.heap.size,.cells (opA o) 37)] (w.alloc (.cells (opA o) 37)):=(Held.refl w).alloc _ rfl;clear h hR
 go_enter Tryz.func49,Tryz.ntmps49
 go_upto_region 1 with fail
 generalize w.alloc (.cells (opA o) 37)=w1 at hH0 ⊢;obtain⟨c0,c1,c2,c3,c4,c5,c6,c7,c8,c9,c10,c11,c12⟩:=op_cells (o:=o) (g:=w.heap.size) (hH0.at 0 rfl);have h1:=ho.name;have h2:=ho.new;have h3:=ho.data;unfold maxLen at h1 h2 h3;have HM:=Lib.hid (refOpMay o (by omega) (by omega) (by omega) w1);unfold opA at HM;clear h1 h2 h3
 go_wp2_with fail
 refine HM.out.mono ?_;rintro e w2 ⟨rfl,hb2⟩;have hH2:=Lib.hid (hH0.step hb2);clear c0 c1 c2 c3 c4 c5 c6 c7 c8 c9 c10 c11 c12 hH0 hb2 HM
 cases hm:mayO o with
 |false=>
  have HR1:Hid (R=(x,0,false)):=HR.out.trans (if_pos hm);clear hm
  go_wp2_with fail
  have hb:=hH2.out.below;have e1:x.length=n:=hl;refine bodyPost_ret (v:=.tuple #[.slice A n c,.int .i64 0,.bool false]) (by simp[results,Tryz.results49,go_sem]) rfl ?_;rw[HR1.out];exact⟨A,c,by rw[e1];rfl,by show OpsIn _ _ A x.length x;rw[e1];exact(HX.out.below hb).more hb.size,by show x.length<=c;omega,hcm,⟨hd1,fun p hp=>.inl ⟨hA0.out.trans hp,rfl⟩⟩,hb⟩
 |true=>
  have HR1:Hid (R=if hasO x (oSt o)=true then(x,placeO x (oSt o),false) else(putIn (beforeO (oSt o)) x o,placeO x (oSt o),true)):=HR.out.trans (if_neg (by rw[hm];simp));clear hm HR
  go_wp2_with fail
  go_loopg [7] (n+1) (fun gk i wr=>∃k:Nat,i=.int .i64 (k:Int)/\gk+k=n+1/\k<=n/\Hid (∀j(h1:j<x.length),j<k->beforeO (oSt o) x[j]=true)/\Hid (Held w [(w.heap.size,.cells (opA o) 37)] wr))
  case atStart=>exact⟨0,rfl,by omega,by omega,fun _ _ hj=>absurd hj (by omega),hH2⟩
  case round=>
   obtain⟨k,rfl,hgk,hk,hall,hH⟩:=hrel;have HG:=Lib.hid hgk;clear hgk hH2;obtain⟨c0,c1,_⟩:=op_cells (o:=o) (g:=w.heap.size) (hH.out.at 0 rfl);have l0:=later_cell c0;have l1:=later_cell c1;clear c0 c1;by_cases hlt:k<n
   ·obtain⟨gi,of,rfl,hg,hrow⟩:=HX.out.row (by omega);have lk:k<x.length:=by omega
    obtain⟨e0,e1,_⟩:=(hrow k lk).below hH.out.below hg;have HROW:Hid (∀W,Below w.heap.size w W->OpAt W gi (of+k*13) x[k]):=Lib.hid fun W hW=>(hrow k lk).below hW hg;have k0:=later_cell e0;have k1:=later_cell e1;obtain⟨a,ha⟩:∃a,x[k]=a:=⟨_,rfl⟩;rw[ha] at k0 k1;obtain⟨b,hb⟩:∃b,b=lessS (oSt a) (oSt o):=⟨_,rfl⟩;have HL:Hid (∀y,Calls Tryz.prog 42 #[.agg #[.int .i64 a.st,.int .i64 a.sr],.agg #[.int .i64 o.st,.int .i64 o.sr]] (later wr y) fun e w'=>e=.returned (.bool b)/\∃z,w'=later wr z):=Lib.hid fun y=>later_call (by rw[hb];exact less_put (oSt a) (oSt o) _);have HB:=Lib.hid hb;have HA:=Lib.hid ha;have hi0':(0:Int)<=(k:Int):=by omega
    have hi1:(k:Int)<(n:Int):=by omega
    clear hrow e0 e1 hb ha
    cases b with
    |true=>
     go_upto_region 4 with fail
     refine wp_region_later (by kernel_rfl) (by kernel_rfl) ?_
     repeat(go_big_quiet_step (first|(with_reducible exact HL.out _)))
     refine wpQuiet_nil ?_;intro _ hw';obtain⟨y,rfl⟩:=hw';have H2:=Lib.hid (hH.out.step (later_below wr y));clear l0 l1 k0 k1 HL hH
     go_wp2_with fail
     go_roundg (gk-1)
     case measure=>have:=HG.out;omega
     case rel=>
      refine⟨k+1,by go_num,by have:=HG.out;omega,by omega,fun j h1 hj=>?_,H2⟩;by_cases q:j=k
      ·subst q;rw[HA.out];exact HB.out.symm
      ·exact hall.out j h1 (by omega)
    |false=>
     have hpl:placeO x (oSt o)=k:=by
      rw[HPL.out];exact while_is (by omega) hall.out fun h1=>by rw[HA.out];exact HB.out.symm
     rw[hpl] at HR1 HP HI;have hii:(hasO x (oSt o)=true)↔oSt a=oSt o:=HP.out.trans ⟨fun⟨hp,e⟩=>by rw[<-HA.out];exact e,fun e=>⟨lk,by rw[HA.out];exact e⟩⟩
     go_upto_region 4 with fail
     refine wp_region_later (by kernel_rfl) (by kernel_rfl) ?_
     repeat(go_big_quiet_step (first|(with_reducible exact HL.out _)))
     refine wpQuiet_nil ?_;intro _ hw';obtain⟨y,rfl⟩:=hw';have hH2:=hH.out.step (later_below wr y);generalize later wr y=w2 at hH2 ⊢;clear l0 l1 k0 k1 HL hH HG hall HPL HP HB;obtain⟨c0,c1,_⟩:=op_cells (o:=o) (g:=w.heap.size) (hH2.at 0 rfl);obtain⟨e0,e1,_⟩:=HROW.out _ hH2.below;rw[HA.out] at e0 e1;have l0:=later_cell c0;have l1:=later_cell c1;have k0:=later_cell e0;have k1:=later_cell e1;clear c0 c1 e0 e1 HROW;obtain⟨q,hq⟩:∃q,q=decide (oSt a=oSt o):=⟨_,rfl⟩;have hv:∀W:World,(Op.equalIn 10000 24 (.agg #[.int .i64 a.st,.int .i64 a.sr]) (.agg #[.int .i64 o.st,.int .i64 o.sr])).run Tryz.prog W=.ok q W:=fun W=>by rw[run_eqSt,hq];rfl
     go_upto_region 6 with fail
     refine wp_region_later (by kernel_rfl) (by kernel_rfl) ?_
     cases q with
     |true=>
      have HR2:Hid (R=(x,k,false)):=HR1.out.trans (if_pos (hii.2 (of_decide_eq_true hq.symm)));clear hq hii HR1 HI
      repeat(go_big_quiet_step (fail))
      refine wpQuiet_nil ?_;intro _ hw';obtain⟨y,rfl⟩:=hw';have hb:=below_step hH2.below (later_below w2 y);clear l0 l1 k0 k1 hv
      go_wp2_with fail
      have e1:x.length=n:=hl;refine bodyPost_ret (v:=.tuple #[.slice (some ⟨gi,of,none⟩) n c,.int .i64 (k:Int),.bool false]) (by simp[results,Tryz.results49,go_sem]) rfl ?_;rw[HR2.out];exact⟨some ⟨gi,of,none⟩,c,by rw[e1],by show OpsIn _ _ _ x.length x;rw[e1];exact(HX.out.below hb).more hb.size,by show x.length<=c;omega,hcm,⟨(by intro q;cases q),fun p hp=>.inl ⟨hA0.out.trans hp,rfl⟩⟩,hb⟩
     |false=>
      have HR2:Hid (R=(x.take k++o::x.drop k,k,true)):=HR1.out.trans ((if_neg fun q=>of_decide_eq_false hq.symm (hii.1 q)).trans (by rw[HI.out]));clear hq hii HR1 HI
      repeat(go_big_quiet_step (fail))
      refine wpQuiet_nil ?_;intro _ hw';obtain⟨y,rfl⟩:=hw';have hH3:=hH2.step (later_below w2 y);generalize later w2 y=w3 at hH3 ⊢;clear l0 l1 k0 k1 hv hH2;have hlow:w.heap.size<w3.heap.size:=heap_lt (hH3.at 0 rfl);have hT3:=(HX.out.below hH3.below).more hH3.below.size;have hk1:0+k<=maxLen:=by unfold maxLen;omega
      have hk2:k+1<=maxLen:=by unfold maxLen;omega
      have hk3:k+1+(n-k)<=maxLen:=by unfold maxLen;omega
      have hTk:=TabIn.take (hT3.below ((Below.refl w3.heap.size w3).alloc (Nat.le_refl _) (.cells #[] 37))) hk;rw[<-List.map_take] at hTk
      go_upto_region 9 with (at_builtin;refine wpList_append_tab rfl (.tmp 45) (.tmp 48) 32 rfl (w.heap.size+1) 37 i0 _ 13 128 Tryz.underlying32 hi0 hz0 hz1 hz2 rfl (by decide) _ 0 [] rfl (own_empty w3 _ _ _ (by omega)) _ k c w3.heap.size ((x.take k).map opA) rfl hTk hd1 (op_rows _).1 (op_rows _).2 hk1 (by omega) (by simp;omega) ?_;intro v4 w4 hown4 hg4)
      rw[List.nil_append,Nat.zero_add] at hown4;have hH4:=(hH3.step ((Below.refl w3.heap.size w3).alloc (Nat.le_refl _) (.cells #[] 37))).grown (B:=w.heap.size+1) hg4 (fun q hq=>((own_empty w3 (w.heap.size+1) 37 13 (by omega)).lt q hq).1) (by intro p hp;simp at hp;subst hp;dsimp only;omega) (by omega);clear hT3 hTk hg4 hH3 hlow hk1;have hlow:w.heap.size<w4.heap.size:=heap_lt (hH4.at 0 rfl);obtain⟨c0,c1,c2,c3,c4,c5,c6,c7,c8,c9,c10,c11,c12⟩:=op_cells (o:=o) (g:=w.heap.size) (hH4.at 0 rfl)
      go_upto_region 10 with (at_builtin;refine wpList_append_own _ rfl (.tmp 50) (.tmp 52) 32 rfl (w.heap.size+1) 37 i0 _ 13 128 Tryz.underlying32 hi0 hz0 hz1 hz2 rfl (by decide) _ _ _ rfl (hown4.alloc _) ⟨w4.heap.size,0,none⟩ 1 1 (opA o).toList rfl rfl (row_there w4 _ _) (op_cells1 o) hk2 (by omega) (by simp;omega) ?_;intro v5 w5 hown5 hg5 _)
      rw[flat_op] at hown5;have hH5:=(hH4.step ((Below.refl w4.heap.size w4).alloc (Nat.le_refl _) (.cells (opA o) 37))).grown (B:=w.heap.size+1) hg5 (fun q hq=>(hown4.lt q hq).1) (by intro p hp;simp at hp;subst hp;dsimp only;omega) (by omega);clear c0 c1 c2 c3 c4 c5 c6 c7 c8 c9 c10 c11 c12 hown4 hg5 hH4 hlow hk2;have hlow:w.heap.size<w5.heap.size:=heap_lt (hH5.at 0 rfl);have hT5:=TabIn.drop (HX.out.below hH5.below) hk;rw[<-List.map_drop] at hT5
      go_upto_region 11 with (at_builtin;refine wpList_append_tab rfl (.tmp 54) (.tmp 57) 32 rfl (w.heap.size+1) 37 i0 _ 13 128 Tryz.underlying32 hi0 hz0 hz1 hz2 rfl (by decide) _ _ _ rfl hown5 _ (n-k) _ w.heap.size ((x.drop k).map opA) rfl hT5 (fun h=>by cases h) (op_rows _).1 (op_rows _).2 hk3 (by omega) (by omega) ?_;intro v6 w6 hown6 hg6)
      have hH6:=hH5.grown (B:=w.heap.size+1) hg6 (fun q hq=>(hown5.lt q hq).1) (by intro p hp;simp at hp;subst hp;dsimp only;omega) (by omega);have hlist:x.take k++[o]++(x.drop k)=x.take k++o::x.drop k:=by rw[List.append_assoc];rfl
      have hlen:k+1+(n-k)=(x.take k++o::x.drop k).length:=by simp only[List.length_append,List.length_take,List.length_drop,List.length_cons];omega
      rw[<-List.map_append,hlist,hlen] at hown6;obtain⟨L,hL⟩:∃L,L=x.take k++o::x.drop k:=⟨_,rfl⟩;rw[<-hL] at hown6 HR2;obtain⟨B,cc,rfl,p1,p2,p3,p4⟩:=ops_came A0 true rfl hown6 (Nat.le_succ w.heap.size);have HF:=Lib.hid (And.intro p1 (And.intro p2 (And.intro p3 (And.intro p4 hH6.below))));clear hown5 hg6 hH5 hH6 hlow hk3 hown6 p1 p2 p3 p4 hlist hlen hL
      go_wp2_with fail
      refine bodyPost_ret (v:=.tuple #[.slice B L.length cc,.int .i64 ((k:Nat):Int),.bool true]) (by simp[results,Tryz.results49,go_sem]) rfl ?_;rw[HR2.out];exact⟨B,cc,rfl,HF.out⟩
   ·have hkn:k=n:=by omega
    have hki:¬(k:Int)<(n:Int):=by omega
    have hpl:placeO x (oSt o)=k:=by
     rw[HPL.out];exact while_is (by omega) hall.out fun h1=>by omega
    rw[hpl] at HR1 HP HI;have hno:¬hasO x (oSt o)=true:=fun q=>by
     obtain⟨hp,_⟩:=HP.out.1 q;omega
    have HR2:Hid (R=(x.take k++o::x.drop k,k,true)):=HR1.out.trans ((if_neg hno).trans (by rw[HI.out]));clear hno HP HI HR1 HPL hall HG hpl
    go_upto_region 4 with fail
    refine wp_region_later (by kernel_rfl) (by kernel_rfl) ?_
    repeat(go_big_quiet_step (fail))
    refine wpQuiet_nil ?_;intro _ hw';obtain⟨y,rfl⟩:=hw';have hH2:=hH.out.step (later_below wr y);generalize later wr y=w2 at hH2 ⊢;clear l0 l1 hH
    go_upto_region 6 with fail
    refine wp_region_later (by kernel_rfl) (by kernel_rfl) ?_
    repeat(go_big_quiet_step (fail))
    refine wpQuiet_nil ?_;intro _ hw';obtain⟨y,rfl⟩:=hw';have hH3:=hH2.step (later_below w2 y);generalize later w2 y=w3 at hH3 ⊢;clear hH2;subst hkn
    cases A with
    |none=>
     obtain rfl:c=0:=hd1 rfl;obtain rfl:k=0:=by omega
     have hlow:w.heap.size<w3.heap.size:=heap_lt (hH3.at 0 rfl);have hT3:=(HX.out.below hH3.below).more hH3.below.size;have hk1:0+0<=maxLen:=by unfold maxLen;omega
     have hk2:0+1<=maxLen:=by unfold maxLen;omega
     have hk3:0+1+0<=maxLen:=by unfold maxLen;omega
     have hTk:=TabIn.take (hT3.below ((Below.refl w3.heap.size w3).alloc (Nat.le_refl _) (.cells #[] 37))) hk;rw[<-List.map_take] at hTk
     go_upto_region 9 with (at_builtin;refine wpList_append_tab rfl (.tmp 45) (.tmp 48) 32 rfl (w.heap.size+1) 37 i0 _ 13 128 Tryz.underlying32 hi0 hz0 hz1 hz2 rfl (by decide) _ 0 [] rfl (own_empty w3 _ _ _ (by omega)) _ 0 0 w3.heap.size ((x.take 0).map opA) rfl hTk hd1 (op_rows _).1 (op_rows _).2 hk1 (by omega) (by simp;omega) ?_;intro v4 w4 hown4 hg4)
     rw[List.nil_append,Nat.zero_add] at hown4;have hH4:=(hH3.step ((Below.refl w3.heap.size w3).alloc (Nat.le_refl _) (.cells #[] 37))).grown (B:=w.heap.size+1) hg4 (fun q hq=>((own_empty w3 (w.heap.size+1) 37 13 (by omega)).lt q hq).1) (by intro p hp;simp at hp;subst hp;dsimp only;omega) (by omega);clear hT3 hTk hg4 hH3 hlow hk1;have hlow:w.heap.size<w4.heap.size:=heap_lt (hH4.at 0 rfl);obtain⟨c0,c1,c2,c3,c4,c5,c6,c7,c8,c9,c10,c11,c12⟩:=op_cells (o:=o) (g:=w.heap.size) (hH4.at 0 rfl)
     go_upto_region 10 with (at_builtin;refine wpList_append_own _ rfl (.tmp 50) (.tmp 52) 32 rfl (w.heap.size+1) 37 i0 _ 13 128 Tryz.underlying32 hi0 hz0 hz1 hz2 rfl (by decide) _ _ _ rfl (hown4.alloc _) ⟨w4.heap.size,0,none⟩ 1 1 (opA o).toList rfl rfl (row_there w4 _ _) (op_cells1 o) hk2 (by omega) (by simp;omega) ?_;intro v5 w5 hown5 hg5 _)
     rw[flat_op] at hown5;have hH5:=(hH4.step ((Below.refl w4.heap.size w4).alloc (Nat.le_refl _) (.cells (opA o) 37))).grown (B:=w.heap.size+1) hg5 (fun q hq=>(hown4.lt q hq).1) (by intro p hp;simp at hp;subst hp;dsimp only;omega) (by omega);clear c0 c1 c2 c3 c4 c5 c6 c7 c8 c9 c10 c11 c12 hown4 hg5 hH4 hlow hk2;have hlow:w.heap.size<w5.heap.size:=heap_lt (hH5.at 0 rfl)
     go_upto_region 11 with (at_builtin;refine wpList_append_tab rfl (.tmp 54) (.tmp 57) 32 rfl (w.heap.size+1) 37 i0 _ 13 128 Tryz.underlying32 hi0 hz0 hz1 hz2 rfl (by decide) _ _ _ rfl hown5 _ 0 _ w.heap.size (([]:List Opn).map opA) rfl (TabIn.nil 13 w5 w.heap.size _) (fun _=>rfl) (op_rows _).1 (op_rows _).2 hk3 (by omega) (by omega) ?_;intro v6 w6 hown6 hg6)
     have hH6:=hH5.grown (B:=w.heap.size+1) hg6 (fun q hq=>(hown5.lt q hq).1) (by intro p hp;simp at hp;subst hp;dsimp only;omega) (by omega);have hlist:x.take 0++[o]++([]:List Opn)=x.take 0++o::x.drop 0:=by rw[List.drop_of_length_le (by omega),List.append_assoc];rfl
     have hlen:0+1+0=(x.take 0++o::x.drop 0).length:=by simp only[List.length_append,List.length_take,List.length_drop,List.length_cons];omega
     rw[<-List.map_append,hlist,hlen] at hown6;obtain⟨L,hL⟩:∃L,L=x.take 0++o::x.drop 0:=⟨_,rfl⟩;rw[<-hL] at hown6 HR2;obtain⟨B,cc,rfl,p1,p2,p3,p4⟩:=ops_came A0 true rfl hown6 (Nat.le_succ w.heap.size);have HF:=Lib.hid (And.intro p1 (And.intro p2 (And.intro p3 (And.intro p4 hH6.below))));clear hown5 hg6 hH5 hH6 hlow hk3 hown6 p1 p2 p3 p4 hlist hlen hL
     go_wp2_with fail
     refine bodyPost_ret (v:=.tuple #[.slice B L.length cc,.int .i64 ((0:Nat):Int),.bool true]) (by simp[results,Tryz.results49,go_sem]) rfl ?_;rw[HR2.out];exact⟨B,cc,rfl,HF.out⟩
    |some ad=>
     by_cases hdk:c=k
     ·subst hdk;have hlow:w.heap.size<w3.heap.size:=heap_lt (hH3.at 0 rfl);have hT3:=(HX.out.below hH3.below).more hH3.below.size;have hk1:0+c<=maxLen:=by unfold maxLen;omega
      have hk2:c+1<=maxLen:=by unfold maxLen;omega
      have hk3:c+1+0<=maxLen:=by unfold maxLen;omega
      have hTk:=TabIn.take (hT3.below ((Below.refl w3.heap.size w3).alloc (Nat.le_refl _) (.cells #[] 37))) hk;rw[<-List.map_take] at hTk
      go_upto_region 9 with (at_builtin;refine wpList_append_tab rfl (.tmp 45) (.tmp 48) 32 rfl (w.heap.size+1) 37 i0 _ 13 128 Tryz.underlying32 hi0 hz0 hz1 hz2 rfl (by decide) _ 0 [] rfl (own_empty w3 _ _ _ (by omega)) _ c c w3.heap.size ((x.take c).map opA) rfl hTk hd1 (op_rows _).1 (op_rows _).2 hk1 (by omega) (by simp;omega) ?_;intro v4 w4 hown4 hg4)
      rw[List.nil_append,Nat.zero_add] at hown4;have hH4:=(hH3.step ((Below.refl w3.heap.size w3).alloc (Nat.le_refl _) (.cells #[] 37))).grown (B:=w.heap.size+1) hg4 (fun q hq=>((own_empty w3 (w.heap.size+1) 37 13 (by omega)).lt q hq).1) (by intro p hp;simp at hp;subst hp;dsimp only;omega) (by omega);clear hT3 hTk hg4 hH3 hlow hk1;have hlow:w.heap.size<w4.heap.size:=heap_lt (hH4.at 0 rfl);obtain⟨c0,c1,c2,c3,c4,c5,c6,c7,c8,c9,c10,c11,c12⟩:=op_cells (o:=o) (g:=w.heap.size) (hH4.at 0 rfl)
      go_upto_region 10 with (at_builtin;refine wpList_append_own _ rfl (.tmp 50) (.tmp 52) 32 rfl (w.heap.size+1) 37 i0 _ 13 128 Tryz.underlying32 hi0 hz0 hz1 hz2 rfl (by decide) _ _ _ rfl (hown4.alloc _) ⟨w4.heap.size,0,none⟩ 1 1 (opA o).toList rfl rfl (row_there w4 _ _) (op_cells1 o) hk2 (by omega) (by simp;omega) ?_;intro v5 w5 hown5 hg5 _)
      rw[flat_op] at hown5;have hH5:=(hH4.step ((Below.refl w4.heap.size w4).alloc (Nat.le_refl _) (.cells (opA o) 37))).grown (B:=w.heap.size+1) hg5 (fun q hq=>(hown4.lt q hq).1) (by intro p hp;simp at hp;subst hp;dsimp only;omega) (by omega);clear c0 c1 c2 c3 c4 c5 c6 c7 c8 c9 c10 c11 c12 hown4 hg5 hH4 hlow hk2;have hlow:w.heap.size<w5.heap.size:=heap_lt (hH5.at 0 rfl)
      go_upto_region 11 with (at_builtin;refine wpList_append_tab rfl (.tmp 54) (.tmp 57) 32 rfl (w.heap.size+1) 37 i0 _ 13 128 Tryz.underlying32 hi0 hz0 hz1 hz2 rfl (by decide) _ _ _ rfl hown5 _ 0 _ w.heap.size (([]:List Opn).map opA) rfl (TabIn.nil 13 w5 w.heap.size _) (fun h=>by cases h) (op_rows _).1 (op_rows _).2 hk3 (by omega) (by omega) ?_;intro v6 w6 hown6 hg6)
      have hH6:=hH5.grown (B:=w.heap.size+1) hg6 (fun q hq=>(hown5.lt q hq).1) (by intro p hp;simp at hp;subst hp;dsimp only;omega) (by omega);have hlist:x.take c++[o]++([]:List Opn)=x.take c++o::x.drop c:=by rw[List.drop_of_length_le (by omega),List.append_assoc];rfl
      have hlen:c+1+0=(x.take c++o::x.drop c).length:=by simp only[List.length_append,List.length_take,List.length_drop,List.length_cons];omega
      rw[<-List.map_append,hlist,hlen] at hown6;obtain⟨L,hL⟩:∃L,L=x.take c++o::x.drop c:=⟨_,rfl⟩;rw[<-hL] at hown6 HR2;obtain⟨B,cc,rfl,p1,p2,p3,p4⟩:=ops_came A0 true rfl hown6 (Nat.le_succ w.heap.size);have HF:=Lib.hid (And.intro p1 (And.intro p2 (And.intro p3 (And.intro p4 hH6.below))));clear hown5 hg6 hH5 hH6 hlow hk3 hown6 p1 p2 p3 p4 hlist hlen hL
      go_wp2_with fail
      refine bodyPost_ret (v:=.tuple #[.slice B L.length cc,.int .i64 ((c:Nat):Int),.bool true]) (by simp[results,Tryz.results49,go_sem]) rfl ?_;rw[HR2.out];exact⟨B,cc,rfl,HF.out⟩
     ·have hck:k<c:=by omega
      have hlow:w.heap.size<w3.heap.size:=heap_lt (hH3.at 0 rfl);have hT3:=(HX.out.below hH3.below).more hH3.below.size;have hk1:0+k<=maxLen:=by unfold maxLen;omega
      have hk2:k+1<=maxLen:=by unfold maxLen;omega
      have hk3:k+1+0<=maxLen:=by unfold maxLen;omega
      have hTk:=TabIn.take (hT3.below ((Below.refl w3.heap.size w3).alloc (Nat.le_refl _) (.cells #[] 37))) hk;rw[<-List.map_take] at hTk
      go_upto_region 9 with (at_builtin;refine wpList_append_tab rfl (.tmp 45) (.tmp 48) 32 rfl (w.heap.size+1) 37 i0 _ 13 128 Tryz.underlying32 hi0 hz0 hz1 hz2 rfl (by decide) _ 0 [] rfl (own_empty w3 _ _ _ (by omega)) _ k c w3.heap.size ((x.take k).map opA) rfl hTk hd1 (op_rows _).1 (op_rows _).2 hk1 (by omega) (by simp;omega) ?_;intro v4 w4 hown4 hg4)
      rw[List.nil_append,Nat.zero_add] at hown4;have hH4:=(hH3.step ((Below.refl w3.heap.size w3).alloc (Nat.le_refl _) (.cells #[] 37))).grown (B:=w.heap.size+1) hg4 (fun q hq=>((own_empty w3 (w.heap.size+1) 37 13 (by omega)).lt q hq).1) (by intro p hp;simp at hp;subst hp;dsimp only;omega) (by omega);clear hT3 hTk hg4 hH3 hlow hk1;have hlow:w.heap.size<w4.heap.size:=heap_lt (hH4.at 0 rfl);obtain⟨c0,c1,c2,c3,c4,c5,c6,c7,c8,c9,c10,c11,c12⟩:=op_cells (o:=o) (g:=w.heap.size) (hH4.at 0 rfl)
      go_upto_region 10 with (at_builtin;refine wpList_append_own _ rfl (.tmp 50) (.tmp 52) 32 rfl (w.heap.size+1) 37 i0 _ 13 128 Tryz.underlying32 hi0 hz0 hz1 hz2 rfl (by decide) _ _ _ rfl (hown4.alloc _) ⟨w4.heap.size,0,none⟩ 1 1 (opA o).toList rfl rfl (row_there w4 _ _) (op_cells1 o) hk2 (by omega) (by simp;omega) ?_;intro v5 w5 hown5 hg5 _)
      rw[flat_op] at hown5;have hH5:=(hH4.step ((Below.refl w4.heap.size w4).alloc (Nat.le_refl _) (.cells (opA o) 37))).grown (B:=w.heap.size+1) hg5 (fun q hq=>(hown4.lt q hq).1) (by intro p hp;simp at hp;subst hp;dsimp only;omega) (by omega);clear c0 c1 c2 c3 c4 c5 c6 c7 c8 c9 c10 c11 c12 hown4 hg5 hH4 hlow hk2;have hlow:w.heap.size<w5.heap.size:=heap_lt (hH5.at 0 rfl)
      go_upto_region 11 with (at_builtin;refine wpList_append_tab rfl (.tmp 54) (.tmp 57) 32 rfl (w.heap.size+1) 37 i0 _ 13 128 Tryz.underlying32 hi0 hz0 hz1 hz2 rfl (by decide) _ _ _ rfl hown5 _ 0 _ w.heap.size (([]:List Opn).map opA) rfl (TabIn.nil 13 w5 w.heap.size _) (fun h=>by cases h) (op_rows _).1 (op_rows _).2 hk3 (by omega) (by omega) ?_;intro v6 w6 hown6 hg6)
      have hH6:=hH5.grown (B:=w.heap.size+1) hg6 (fun q hq=>(hown5.lt q hq).1) (by intro p hp;simp at hp;subst hp;dsimp only;omega) (by omega);have hlist:x.take k++[o]++([]:List Opn)=x.take k++o::x.drop k:=by rw[List.drop_of_length_le (by omega),List.append_assoc];rfl
      have hlen:k+1+0=(x.take k++o::x.drop k).length:=by simp only[List.length_append,List.length_take,List.length_drop,List.length_cons];omega
      rw[<-List.map_append,hlist,hlen] at hown6;obtain⟨L,hL⟩:∃L,L=x.take k++o::x.drop k:=⟨_,rfl⟩;rw[<-hL] at hown6 HR2;obtain⟨B,cc,rfl,p1,p2,p3,p4⟩:=ops_came A0 true rfl hown6 (Nat.le_succ w.heap.size);have HF:=Lib.hid (And.intro p1 (And.intro p2 (And.intro p3 (And.intro p4 hH6.below))));clear hown5 hg6 hH5 hH6 hlow hk3 hown6 p1 p2 p3 p4 hlist hlen hL
      go_wp2_with fail
      refine bodyPost_ret (v:=.tuple #[.slice B L.length cc,.int .i64 ((k:Nat):Int),.bool true]) (by simp[results,Tryz.results49,go_sem]) rfl ?_;rw[HR2.out];exact⟨B,cc,rfl,HF.out⟩
end Go.Proofs.YtnnnkaobhkeocaaGreatDoor
