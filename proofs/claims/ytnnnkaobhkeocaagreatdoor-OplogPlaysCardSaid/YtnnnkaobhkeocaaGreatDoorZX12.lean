/-
 The walks of the document's own Ops and Below: are two lists the same; how many aren't above a stamp?
-/
import Derived.Test.YtnnnkaobhkeocaaGreatDoorZX11
namespace Go.Proofs.YtnnnkaobhkeocaaGreatDoor
open Go.RowKit StampMath GraphMath OpMath PackMath
set_option maxRecDepth 100000 in
set_option maxHeartbeats 1600000 in
theorem refOps(A A':Option Addr)(n c m d:Nat)(X Y:List Opn)(hn:n<=1000)(hm:m<=1000)(w:World)(h:OpsIn w w.heap.size A n X)(h':OpsIn w w.heap.size A' m Y):
  Calls Tryz.prog 20 #[.slice A n c,.slice A' m d] w fun e w'=>e=.returned (.bool (decide (X=Y)))/\Below w.heap.size w w':=by
 have hl:=h.len;have hl':=h'.len;have HX:Hid (OpsIn w w.heap.size A n X):=h;have HY:Hid (OpsIn w w.heap.size A' m Y):=h';clear h h';by_cases hnm:n=m
 ·subst hnm
  go_enter Tryz.func20,Tryz.ntmps20
  go_wp2_with fail
  go_loopg [5] (n+1) (fun gk i wr=>∃k:Nat,i=.int .i64 (k:Int)/\gk+k=n+1/\k<=n/\Hid (∀j(h1:j<X.length)(h2:j<Y.length),j<k->X[j]=Y[j])/\Below w.heap.size w wr)
  case atStart=>exact⟨0,rfl,by omega,by omega,fun _ _ _ hj=>absurd hj (by omega),Below.refl _ _⟩
  case round=>
   obtain⟨k,rfl,hgk,hk,hall,hB⟩:=hrel;by_cases hlt:k<n
   ·obtain⟨gi,o,rfl,hg,hrow⟩:=HX.out.row (by omega);obtain⟨gi',o',rfl,hg',hrow'⟩:=HY.out.row (by omega);obtain⟨e0,e1,e2,e3,e4,e5,e6,e7,e8,e9,e10,e11,e12⟩:=(hrow k (by omega)).below hB hg;obtain⟨d0,d1,d2,d3,d4,d5,d6,d7,d8,d9,d10,d11,d12⟩:=(hrow' k (by omega)).below hB hg';have hr:=run_eqO X[k] Y[k];unfold opA at hr;clear hrow hrow';by_cases hq:X[k]=Y[k]
    ·rw[decide_eq_true hq] at hr;have HA:Hid (∀j(h1:j<X.length)(h2:j<Y.length),j<k+1->X[j]=Y[j]):=fun j h1 h2 hj=>by
      by_cases e:j=k
      ·subst e;exact hq
      ·exact hall.out j h1 h2 (by omega)
     clear hq hall
     go_wp2_with fail
     go_quiet (fail)
     go_wp2_with fail
     go_roundg (gk-1)
     case measure=>omega
     case rel=>exact⟨k+1,by go_num,by omega,by omega,HA.out,below_drewN' hB _⟩
    ·rw[decide_eq_false hq] at hr;have HA:Hid (decide (X=Y)=false):=same_no (by omega) (by omega) hq;clear hq hall
     go_wp2_with fail
     go_quiet (fail)
     go_wp2_with fail
     go_ret
     exact⟨by rw[HA.out];rfl,below_drewN' hB _⟩
   ·have HA:Hid (decide (X=Y)=true):=same_yes (by omega) fun j h1 h2=>hall.out j h1 h2 (by omega)
    go_wp2_with fail
    go_ret
    exact⟨by rw[HA.out];rfl,hB⟩
 ·have HA:Hid (decide (X=Y)=false):=same_no_len (by omega);have hnm':¬(n:Int)=(m:Int):=by omega
  go_enter Tryz.func20,Tryz.ntmps20
  go_wp2_with fail
  go_ret
  exact⟨by rw[HA.out];rfl,Below.refl _ _⟩
theorem less_at(a b:St)(W:World):Calls Tryz.prog 42 #[.agg #[.int .i64 a.1,.int .i64 a.2],.agg #[.int .i64 b.1,.int .i64 b.2]] W fun e w'=>e=.returned (.bool (lessS a b))/\Below W.heap.size W w':=refLess a.1 a.2 b.1 b.2 W
set_option maxRecDepth 100000 in
set_option maxHeartbeats 1600000 in
theorem refBelow(A:Option Addr)(n c:Nat)(x:List Opn)(s:St)(hn:n<=1000)(w:World)(h:OpsIn w w.heap.size A n x):
  Calls Tryz.prog 43 #[.slice A n c,.agg (stA s)] w fun e w'=>e=.returned (.int .i64 (belowO x s:Int))/\Below w.heap.size w w':=by
 have hl:=h.len;have HX:=Lib.hid h;obtain⟨v,hv⟩:∃v,v=belowO x s:=⟨_,rfl⟩;have HV:=Lib.hid hv;rw[<-hv];have hH0:Held w [(w.heap.size,.cells (stA s) 24)] (w.alloc (.cells (stA s) 24)):=(Held.refl w).alloc _ rfl;clear h hv;unfold stA at hH0 ⊢
 go_enter Tryz.func43,Tryz.ntmps43
 go_wp2_with fail
 go_loopg [5] (n+1) (fun gk i wr=>∃k:Nat,i=.int .i64 (k:Int)/\gk+k=n+1/\k<=n/\Hid (∀j(h1:j<x.length),j<k->(!lessS s (oSt x[j]))=true)/\Hid (Held w [(w.heap.size,.cells #[.int .i64 s.1,.int .i64 s.2] 24)] wr))
 case atStart=>exact⟨0,rfl,by omega,by omega,fun _ _ hj=>absurd hj (by omega),hH0⟩
 case round=>
  obtain⟨k,rfl,hgk,hk,hall,hH⟩:=hrel;have HG:=Lib.hid hgk;clear hgk hH0;obtain⟨c0,c1⟩:=two_cells (g:=w.heap.size) (hH.out.at 0 rfl);have l0:=later_cell c0;have l1:=later_cell c1;by_cases hlt:k<n
  ·obtain⟨gi,o,rfl,hg,hrow⟩:=HX.out.row (by omega);have lk:k<x.length:=by omega
   obtain⟨e0,e1,_⟩:=(hrow k lk).below hH.out.below hg;have k0:=later_cell e0;have k1:=later_cell e1;obtain⟨a,ha⟩:∃a,x[k]=a:=⟨_,rfl⟩;rw[ha] at k0 k1;obtain⟨b,hb⟩:∃b,b=lessS s (oSt a):=⟨_,rfl⟩;have HL:Hid (∀y,Calls Tryz.prog 42 #[.agg #[.int .i64 s.1,.int .i64 s.2],.agg #[.int .i64 a.st,.int .i64 a.sr]] (later wr y) fun e w'=>e=.returned (.bool b)/\∃z,w'=later wr z):=Lib.hid fun y=>later_call (by rw[hb];exact less_at s (oSt a) _);have HB:=Lib.hid hb;have HA:=Lib.hid ha;have hi0:(0:Int)<=(k:Int):=by omega
   have hi1:(k:Int)<(n:Int):=by omega
   clear hrow e0 e1 c0 c1 hb ha hlt
   cases b with
   |false=>
    have HL2:=HL
    go_upto_region 2 with fail
    refine wp_region_later (by kernel_rfl) (by kernel_rfl) ?_
    repeat(go_big_quiet_step (first|(with_reducible exact HL.out _)))
    refine wpQuiet_nil ?_;intro _ hw';obtain⟨y,rfl⟩:=hw';have H2:=Lib.hid (hH.out.step (later_below wr y));clear l0 l1 k0 k1 HL HL2 hH
    go_wp2_with fail
    go_roundg (gk-1)
    case measure=>have:=HG.out;omega
    case rel=>
     refine⟨k+1,by go_num,by have:=HG.out;omega,by omega,fun j h1 hj=>?_,H2⟩;by_cases q:j=k
     ·subst q;rw[HA.out,<-HB.out];rfl
     ·exact hall.out j h1 (by omega)
   |true=>
    have HE:Hid (v=k):=Lib.hid (by
     rw[HV.out];refine while_is (by omega) hall.out fun h1=>?_
     rw[HA.out,<-HB.out];rfl)
    go_upto_region 2 with fail
    refine wp_region_later (by kernel_rfl) (by kernel_rfl) ?_
    repeat(go_big_quiet_step (first|(with_reducible exact HL.out _)))
    refine wpQuiet_nil ?_;intro _ hw';obtain⟨y,rfl⟩:=hw';have H2:=Lib.hid (hH.out.step (later_below wr y));clear l0 l1 k0 k1 HL hH
    go_wp2_with fail
    go_ret
    exact⟨by rw[HE.out];rfl,H2.out.below⟩
  ·have hkn:k=n:=by omega
   have HE:Hid (v=k):=Lib.hid (by
    rw[HV.out]
    exact while_is (by omega) hall.out fun h1=>by omega)
   have hi1:¬(k:Int)<(n:Int):=by omega
   clear c0 c1 hlt hkn
   go_upto_region 2 with fail
   refine wp_region_later (by kernel_rfl) (by kernel_rfl) ?_
   repeat(go_big_quiet_step (fail))
   refine wpQuiet_nil ?_;intro _ hw';obtain⟨y,rfl⟩:=hw';have H2:=Lib.hid (hH.out.step (later_below wr y));clear l0 l1 hH
   go_wp2_with fail
   go_ret
   exact⟨by rw[HE.out];rfl,H2.out.below⟩
theorem five_cells{w:World}{g:Nat}{a b c d e:Value}{T:TypeId}(h:w.heap[g]?=some (.cells #[a,b,c,d,e] T (0,0))):
  w.cell? ⟨g,0,none⟩=some a/\w.cell? ⟨g,1,none⟩=some b/\w.cell? ⟨g,2,none⟩=some c/\w.cell? ⟨g,3,none⟩=some d/\w.cell? ⟨g,4,none⟩=some e:=
 ⟨cell_of_row _ _ 0 _ _ (0,0) h,cell_of_row _ _ 1 _ _ (0,0) h,cell_of_row _ _ 2 _ _ (0,0) h,cell_of_row _ _ 3 _ _ (0,0) h,cell_of_row _ _ 4 _ _ (0,0) h⟩
theorem five_free{w:World}{g:Nat}{a b c d e:Value}{T:TypeId}(h:w.heap[g]?=some (.cells #[a,b,c,d,e] T (0,0))):
  w.frozen? ⟨g,0,none⟩=false/\w.frozen? ⟨g,1,none⟩=false/\w.frozen? ⟨g,2,none⟩=false/\w.frozen? ⟨g,3,none⟩=false/\w.frozen? ⟨g,4,none⟩=false:=
 ⟨frozen_of_row _ _ 0 _ _ h,frozen_of_row _ _ 1 _ _ h,frozen_of_row _ _ 2 _ _ h,frozen_of_row _ _ 3 _ _ h,frozen_of_row _ _ 4 _ _ h⟩
abbrev put5(w:World)(g:Nat)(a b c d e:Value):World:=((((w.setCell ⟨g,0,none⟩ a).setCell ⟨g,1,none⟩ b).setCell ⟨g,2,none⟩ c).setCell ⟨g,3,none⟩ d).setCell ⟨g,4,none⟩ e
theorem put5_box{w:World}{g:Nat}{a b c d e:Value}{T:TypeId}(h:w.heap[g]?=some (.cells #[a,b,c,d,e] T (0,0)))(a' b' c' d' e':Value):(put5 w g a' b' c' d' e').heap[g]?=some (.cells #[a',b',c',d',e'] T (0,0)):=by
 unfold put5;rw[heap_setCell_same _ _ _ _ _ _ (heap_setCell_same _ _ _ _ _ _ (heap_setCell_same _ _ _ _ _ _ (heap_setCell_same _ _ _ _ _ _ (heap_setCell_same _ _ _ _ _ _ h))))]
 rfl
theorem put5_other{w:World}{g i:Nat}(h:i≠g)(a b c d e:Value):(put5 w g a b c d e).heap[i]?=w.heap[i]?:=by
 unfold put5;rw[heap_setCell_other _ _ _ _ h,heap_setCell_other _ _ _ _ h,heap_setCell_other _ _ _ _ h,heap_setCell_other _ _ _ _ h,heap_setCell_other _ _ _ _ h]
theorem put5_size(w:World)(g:Nat)(a b c d e:Value):(put5 w g a b c d e).heap.size=w.heap.size:=by simp[put5]
theorem put5_below{B:Nat}{w W:World}(h:Below B w W){g:Nat}(hg:B<=g)(a b c d e:Value):Below B w (put5 W g a b c d e):=
 ((((h.setCell (p:=⟨g,0,none⟩) hg _).setCell (p:=⟨g,1,none⟩) hg _).setCell (p:=⟨g,2,none⟩) hg _).setCell (p:=⟨g,3,none⟩) hg _).setCell (p:=⟨g,4,none⟩) hg _
theorem LgAt.put5{N N':Nat->Prop}{W:World}{v:Value}{x:Lg}(h:LgAt N W v x){g:Nat}(hg:∀i,N i->i≠g)(a b c d e:Value)(hN:∀i,N i->N' i):LgAt N' (put5 W g a b c d e) v x:=
 h.keep (fun i hi=>put5_other (hg i hi) _ _ _ _ _) (by rw[put5_size];exact Nat.le_refl _) hN
set_option maxRecDepth 100000 in
theorem refLogNew(w:World):
  Calls Tryz.prog 10 #[] w fun e w'=>∃v,e=.returned v/\LgAt (fun i=>w.heap.size<=i) w' v newL/\Below w.heap.size w w':=by
 obtain⟨u,hu⟩:∃u,u=w.heap.size:=⟨_,rfl⟩;have HU:Hid (u=w.heap.size):=hu;have H0:Hid (Held w [(u,.cells #[.slice none 0 0,.slice none 0 0,.int .i64 0,.int .i64 0,.slice none 0 0] 34)] (w.alloc (.cells #[.slice none 0 0,.slice none 0 0,.int .i64 0,.int .i64 0,.slice none 0 0] 34))):=Lib.hid ((Held.refl w).alloc _ hu.symm)
 go_enter Tryz.func10,Tryz.ntmps10
 go_upto_region 1 with fail
 rw[<-hu];change Code.wp _ _ _ _ (w.alloc (.cells #[.slice none 0 0,.slice none 0 0,.int .i64 0,.int .i64 0,.slice none 0 0] 34));generalize w.alloc (.cells #[.slice none 0 0,.slice none 0 0,.int .i64 0,.int .i64 0,.slice none 0 0] 34)=w1 at H0 ⊢;clear hu
 go_wp2_with fail
 refine(refGraphNew _).mono ?_;rintro e w2 ⟨v,rfl,x2,hb2⟩;have x2:=x2.live;obtain⟨X,n1,c1,Y,m1,d1,rfl⟩:=x2.form;have hH2:=H0.out.step hb2;have hx:=hH2.at 0 rfl;have hlt:=heap_lt (H0.out.at 0 rfl);obtain⟨x0,x1,x2',x3,x4⟩:=five_cells hx;obtain⟨f0,f1,f2,f3,f4⟩:=five_free hx;have hu:=HU.out;have F:Hid (LgAt (fun i=>w.heap.size<=i) (put5 w2 u (.slice X n1 c1) (.slice Y m1 d1) (.int .i64 0) (.int .i64 0) (.slice none 0 0)) (.agg #[.slice X n1 c1,.slice Y m1 d1,.int .i64 0,.int .i64 0,.slice none 0 0]) newL/\Below w.heap.size w (put5 w2 u (.slice X n1 c1) (.slice Y m1 d1) (.int .i64 0) (.int .i64 0) (.slice none 0 0))):=by
  have hx2:LgAt (fun i=>w1.heap.size<=i/\i<w2.heap.size) w2 (.agg #[.slice X n1 c1,.slice Y m1 d1,.int .i64 0,.int .i64 0,.slice none 0 0]) newL:=
   ⟨X,n1,c1,Y,m1,d1,none,0,0,rfl,x2,ops_none _,Nat.le_refl _,Nat.zero_le _,fun _=>rfl,fun h=>absurd h (by omega)⟩
  exact⟨hx2.put5 (fun i hi=>by omega) _ _ _ _ _ fun i hi=>by omega,put5_below hH2.below (by omega) _ _ _ _ _⟩
 have E:Hid ((put5 w2 u (.slice X n1 c1) (.slice Y m1 d1) (.int .i64 0) (.int .i64 0) (.slice none 0 0)).heap[u]?=some (.cells #[.slice X n1 c1,.slice Y m1 d1,.int .i64 0,.int .i64 0,.slice none 0 0] 34 (0,0))):=put5_box hx _ _ _ _ _;clear hx hb2 hH2 x2 hlt H0 hu
 go_wp2_with fail
 obtain⟨p0,p1,p2,p3,p4⟩:=five_cells E.out;exact bodyPost_ret (v:=.agg #[.slice X n1 c1,.slice Y m1 d1,.int .i64 0,.int .i64 0,.slice none 0 0]) (by simp[results,Tryz.results10,go_sem,p0,p1,p2,p3,p4]) rfl ⟨_,rfl,F.out⟩
set_option maxRecDepth 100000 in
theorem refLogGraph(N:Nat->Prop)(v:Value)(x:Lg)(hx:x.ok)(hn:x.L.length<=60)(hfit:∀o∈x.L,OpFit o)(w:World)(hv:LgAt N w v x):
  Calls Tryz.prog 17 #[v] w fun e w'=>∃v',e=.returned v'/\GrAt (MoreN N w) w' v' (graphL x)/\Below w.heap.size w w':=by
 obtain⟨A,n,c,A',m,d,B,k,e,rfl,h2,h3,h4⟩:=hv;have hk:=h3.len;obtain⟨u,hu⟩:∃u,u=w.heap.size:=⟨_,rfl⟩;have HU:Hid (u=w.heap.size):=hu;have H0:Hid (Held w [(u+1,.cells #[.slice none 0 0,.slice none 0 0] 31),(u,.cells #[.slice A n c,.slice A' m d,.int .i64 x.fl.1,.int .i64 x.fl.2,.slice B k e] 34)] ((w.alloc (.cells #[.slice A n c,.slice A' m d,.int .i64 x.fl.1,.int .i64 x.fl.2,.slice B k e] 34)).alloc (.cells #[.slice none 0 0,.slice none 0 0] 31))):=
  Lib.hid (((Held.refl w).alloc _ hu.symm).alloc _ (by simp[hu]))
 have h2:=h2.live;have D:Hid (∀W,Below w.heap.size w W->Calls Tryz.prog 44 #[.agg #[.slice A n c,.slice A' m d],.slice B k e] W fun e w'=>∃v',e=.returned v'/\GrAt (MoreN (fun i=>N i/\i<w.heap.size) W) w' v' (graphL x)/\Below W.heap.size W w'):=Lib.hid fun W hW=>by
  have:=refOn (fun i=>N i/\i<w.heap.size) (.agg #[.slice A n c,.slice A' m d]) x.B hx.base B k e x.L (by omega) hfit W (h2.step hW fun i hi=>hi) ((h3.below hW).more hW.size)
  rwa[graph_on hx] at this
 clear h2 h3 h4 hk hx hn hfit;generalize graphL x=φ at D ⊢;obtain⟨f1,hf1⟩:∃a,a=x.fl.1:=⟨_,rfl⟩;obtain⟨f2,hf2⟩:∃a,a=x.fl.2:=⟨_,rfl⟩;rw[<-hf1,<-hf2] at H0 ⊢;clear hf1 hf2
 go_enter Tryz.func17,Tryz.ntmps17
 go_upto_region 1 with fail
 rw[<-hu];change Code.wp _ _ _ _ ((w.alloc (.cells #[.slice A n c,.slice A' m d,.int .i64 f1,.int .i64 f2,.slice B k e] 34)).alloc (.cells #[.slice none 0 0,.slice none 0 0] 31));generalize (w.alloc (.cells #[.slice A n c,.slice A' m d,.int .i64 f1,.int .i64 f2,.slice B k e] 34)).alloc (.cells #[.slice none 0 0,.slice none 0 0] 31)=w1 at H0 ⊢;clear hu;obtain⟨x0,x1,x2,x3,x4⟩:=five_cells (H0.out.at 1 rfl);have D1:=Lib.hid (D.out _ H0.out.below);clear D
 go_wp2_with fail
 refine D1.out.mono ?_;rintro e' w2 ⟨v',rfl,q2,hb2⟩;have q2:=q2.live;obtain⟨X,n1,c1,Y,m1,d1,rfl⟩:=q2.form;have hH2:=H0.out.step hb2;have hr:=hH2.at 0 rfl;have hlt:=heap_lt (H0.out.at 0 rfl);obtain⟨r0,r1⟩:=two_cells hr;obtain⟨g0,g1⟩:=two_free hr;have hu:=HU.out;have F:Hid (GrAt (MoreN N w) ((w2.setCell ⟨u+1,0,none⟩ (.slice X n1 c1)).setCell ⟨u+1,1,none⟩ (.slice Y m1 d1)) (.agg #[.slice X n1 c1,.slice Y m1 d1]) φ/\Below w.heap.size w ((w2.setCell ⟨u+1,0,none⟩ (.slice X n1 c1)).setCell ⟨u+1,1,none⟩ (.slice Y m1 d1))):=by
  have h1:=H0.out.below.size;refine⟨q2.keep (fun i hi=>?_) (by simp) fun i hi=>?_,(hH2.below.setCell (p:=⟨u+1,0,none⟩) (by dsimp only;omega) _).setCell (p:=⟨u+1,1,none⟩) (by dsimp only;omega) _⟩
  ·have hne:i≠u+1:=by
    rcases hi.1 with q|q
    ·have:=q.2;omega
    ·omega
   rw[heap_setCell_other _ _ _ _ hne,heap_setCell_other _ _ _ _ hne]
  ·rcases hi.1 with q|q
   ·exact .inl q.1
   ·exact .inr (by omega)
 have E:Hid (((w2.setCell ⟨u+1,0,none⟩ (.slice X n1 c1)).setCell ⟨u+1,1,none⟩ (.slice Y m1 d1)).heap[u+1]?=some (.cells #[.slice X n1 c1,.slice Y m1 d1] 31 (0,0))):=by
  unfold Hid;rw[heap_setCell_same _ _ _ _ _ _ (heap_setCell_same _ _ _ _ _ _ hr)]
  rfl
 clear hr hb2 hH2 q2 hlt H0 hu x0 x1 x2 x3 x4 D1
 go_wp2_with fail
 obtain⟨p0,p1⟩:=two_cells E.out;exact bodyPost_ret (v:=.agg #[.slice X n1 c1,.slice Y m1 d1]) (by simp[results,Tryz.results17,go_sem,p0,p1]) rfl ⟨_,rfl,F.out⟩
set_option maxRecDepth 100000 in
set_option maxHeartbeats 1600000 in
theorem refLogAdd(N:Nat->Prop)(v:Value)(x:Lg)(o:Opn)(hx:x.ok)(hn:x.L.length<=1000)(ho:OpFit o)(w:World)(hv:LgAt N w v x):
  Calls Tryz.prog 14 #[v,.agg (opA o)] w (LgPost N (addL x o).1 (.bool (addL x o).2) w):=by
 have hv0:=Lib.hid hv.live;obtain⟨A,n,c,A',m,d,B,k,e,rfl,h2,h3,h4⟩:=hv;have hk:=h3.len;obtain⟨f1,f2,hfl⟩:∃f1 f2,x.fl=(f1,f2):=⟨_,_,rfl⟩;have hfl1:x.fl.1=f1:=by rw[hfl]
 have hfl2:x.fl.2=f2:=by rw[hfl]
 rw[hfl1,hfl2] at hv0 ⊢;obtain⟨u,hu⟩:∃u,u=w.heap.size:=⟨_,rfl⟩;have HU:Hid (u=w.heap.size):=hu;have H0:Hid (Held w [(u+2,.cells #[.slice none 0 0,.slice none 0 0,.int .i64 0,.int .i64 0,.slice none 0 0] 34),(u+1,.cells (opA o) 37),(u,.cells #[.slice A n c,.slice A' m d,.int .i64 f1,.int .i64 f2,.slice B k e] 34)]
   (((w.alloc (.cells #[.slice A n c,.slice A' m d,.int .i64 f1,.int .i64 f2,.slice B k e] 34)).alloc (.cells (opA o) 37)).alloc (.cells #[.slice none 0 0,.slice none 0 0,.int .i64 0,.int .i64 0,.slice none 0 0] 34))):=
  Lib.hid ((((Held.refl w).alloc _ hu.symm).alloc _ (by simp[hu])).alloc _ (by simp[hu]))
 have DP:Hid (∀W,Below w.heap.size w W->Calls Tryz.prog 49 #[.slice B k e,.agg (opA o)] W (PutCame B (GraphMath.putO x.L o) W)):=Lib.hid fun W hW=>
  refPut_came B B rfl k e x.L o (by omega) h4.1 h4.2.1 h4.2.2.1 ho hx.rises W ((h3.below hW).more hW.size)
 have HA:Hid (addL x o=if lessS (f1,f2) (oSt o)=true then(⟨x.B,x.fl,(GraphMath.putO x.L o).1⟩,(GraphMath.putO x.L o).2.2) else(x,false)):=by rw[<-hfl];rfl
 have HC4:=Lib.hid h4;have HG2:=Lib.hid h2.live;have HNO:Hid ((GraphMath.putO x.L o).2.2=false->(GraphMath.putO x.L o).1=x.L):=put_no;have HK:Hid (x.L.length=k):=hk;clear h2 h3 h4 hk hx hn hfl1 hfl2;generalize addL x o=R at HA ⊢;generalize GraphMath.putO x.L o=P at DP HA HNO;obtain⟨P1,P2,P3⟩:=P;dsimp only at HA HNO;unfold PutCame at DP;dsimp only at DP;unfold opA at DP ⊢
 go_enter Tryz.func14,Tryz.ntmps14
 go_upto_region 1 with fail
 rw[<-hu];change Code.wp _ _ _ _ (((w.alloc (.cells #[.slice A n c,.slice A' m d,.int .i64 f1,.int .i64 f2,.slice B k e] 34)).alloc (.cells (opA o) 37)).alloc (.cells #[.slice none 0 0,.slice none 0 0,.int .i64 0,.int .i64 0,.slice none 0 0] 34));generalize ((w.alloc (.cells #[.slice A n c,.slice A' m d,.int .i64 f1,.int .i64 f2,.slice B k e] 34)).alloc (.cells (opA o) 37)).alloc (.cells #[.slice none 0 0,.slice none 0 0,.int .i64 0,.int .i64 0,.slice none 0 0] 34)=w1 at H0 ⊢;clear hu;obtain⟨x0,x1,x2,x3,x4⟩:=five_cells (H0.out.at 2 rfl);obtain⟨c0,c1,c2,c3,c4,c5,c6,c7,c8,c9,c10,c11,c12⟩:=op_cells (o:=o) (g:=u+1) (H0.out.at 1 rfl);have DL:=Lib.hid (less_at (f1,f2) (oSt o) w1);generalize lessS (f1,f2) (oSt o)=q at DL HA
 go_wp2_with fail
 refine DL.out.mono ?_;rintro e' w2 ⟨rfl,hb2⟩;have H2:=Lib.hid (H0.out.step hb2);clear x0 x1 x2 x3 x4 c0 c1 c2 c3 c4 c5 c6 c7 c8 c9 c10 c11 c12 hb2 DL H0;obtain⟨x0,x1,x2,x3,x4⟩:=five_cells (H2.out.at 2 rfl)
 cases q with
 |false=>
  have HR:Hid (R=(x,false)):=HA.out;have hx:=H2.out.at 0 rfl;obtain⟨r0,r1,r2,r3,r4⟩:=five_cells hx;obtain⟨g0,g1,g2,g3,g4⟩:=five_free hx;have hu:=HU.out;have F:Hid (LgAt (MoreN N w) (put5 w2 (u+2) (.slice A n c) (.slice A' m d) (.int .i64 f1) (.int .i64 f2) (.slice B k e)) (.agg #[.slice A n c,.slice A' m d,.int .i64 f1,.int .i64 f2,.slice B k e]) x/\Below w.heap.size w (put5 w2 (u+2) (.slice A n c) (.slice A' m d) (.int .i64 f1) (.int .i64 f2) (.slice B k e))):=
   ⟨(hv0.out.step H2.out.below fun i hi=>hi).put5 (fun i hi=>by have:=hi.2;omega) _ _ _ _ _ fun i hi=>.inl hi.1,put5_below H2.out.below (by omega) _ _ _ _ _⟩
  have E:Hid ((put5 w2 (u+2) (.slice A n c) (.slice A' m d) (.int .i64 f1) (.int .i64 f2) (.slice B k e)).heap[u+2]?=some (.cells #[.slice A n c,.slice A' m d,.int .i64 f1,.int .i64 f2,.slice B k e] 34 (0,0))):=put5_box hx _ _ _ _ _;clear hx hu H2 hv0 HA DP HC4 HG2 hfl
  go_wp2_with fail
  obtain⟨p0,p1,p2,p3,p4⟩:=five_cells E.out;refine bodyPost_ret (v:=.tuple #[.agg #[.slice A n c,.slice A' m d,.int .i64 f1,.int .i64 f2,.slice B k e],.bool false]) (by simp[results,Tryz.results14,go_sem,p0,p1,p2,p3,p4]) rfl ?_;rw[HR.out];exact⟨_,rfl,F.out⟩
 |true=>
  have HR:Hid (R=(⟨x.B,x.fl,P1⟩,P3)):=HA.out;obtain⟨c0,c1,c2,c3,c4,c5,c6,c7,c8,c9,c10,c11,c12⟩:=op_cells (o:=o) (g:=u+1) (H2.out.at 1 rfl);have D2:=Lib.hid (DP.out _ H2.out.below);clear HA DP
  go_wp2_with fail
  refine D2.out.mono ?_;rintro e' w3 ⟨B3,k3,rfl,q1,q2,q3,q4,hb3⟩;have H3:=Lib.hid (H2.out.step hb3);have HS3:Hid (w.heap.size+3<=w2.heap.size):=by
   have:=heap_lt (H2.out.at 0 rfl);have:=HU.out;show _<=_;omega
  clear x0 x1 x2 x3 x4 c0 c1 c2 c3 c4 c5 c6 c7 c8 c9 c10 c11 c12 D2;have hx:=H3.out.at 0 rfl;obtain⟨x0,x1,x2,x3,x4⟩:=five_cells (H3.out.at 2 rfl);obtain⟨r0,r1,r2,r3,r4⟩:=five_cells hx;obtain⟨g0,g1,g2,g3,g4⟩:=five_free hx;have hu:=HU.out;have F:Hid (LgAt (MoreN N w) (put5 w3 (u+2) (.slice A n c) (.slice A' m d) (.int .i64 f1) (.int .i64 f2) (.slice B3 P1.length k3)) (.agg #[.slice A n c,.slice A' m d,.int .i64 f1,.int .i64 f2,.slice B3 P1.length k3]) ⟨x.B,x.fl,P1⟩/\Below w.heap.size w (put5 w3 (u+2) (.slice A n c) (.slice A' m d) (.int .i64 f1) (.int .i64 f2) (.slice B3 P1.length k3))):=by
   have hs:=HS3.out;have hL:LgAt (fun i=>(N i/\i<w.heap.size)\/w.heap.size+3<=i) w3 (.agg #[.slice A n c,.slice A' m d,.int .i64 f1,.int .i64 f2,.slice B3 P1.length k3]) (⟨x.B,x.fl,P1⟩:Lg):=by
    refine⟨A,n,c,A',m,d,B3,P1.length,k3,by rw[hfl],HG2.out.step H3.out.below fun i hi=>.inl hi,q1,q2,q3,q4.1,fun hp p hpe=>?_⟩;rcases q4.2 p hpe with ⟨e1,e2⟩|e1
    ·have:=HNO.out e2;rw[this] at hp;have hk:=HK.out;refine .inl ⟨HC4.out.2.2.2 (by omega) p e1,?_⟩;obtain⟨A9,n9,c9,A9',m9,d9,B9,k9,e9,h9,_,_,h10⟩:=hv0.out;simp only[Value.agg.injEq,Array.mk.injEq,List.cons.injEq,Value.slice.injEq,and_true] at h9;obtain⟨_,_,_,_,rfl,rfl,rfl⟩:=h9;exact(h10.2.2.2 (by omega) p e1).2
    ·exact .inr (by omega)
   refine⟨hL.put5 (fun i hi=>by rcases hi with hi|hi<;>omega) _ _ _ _ _ (fun i hi=>?_),put5_below H3.out.below (by omega) _ _ _ _ _⟩;rcases hi with hi|hi
   ·exact .inl hi.1
   ·exact .inr (by omega)
  have E:Hid ((put5 w3 (u+2) (.slice A n c) (.slice A' m d) (.int .i64 f1) (.int .i64 f2) (.slice B3 P1.length k3)).heap[u+2]?=some (.cells #[.slice A n c,.slice A' m d,.int .i64 f1,.int .i64 f2,.slice B3 P1.length k3] 34 (0,0))):=put5_box hx _ _ _ _ _;clear hx hu H2 H3 hv0 HC4 HG2 hfl q1 q2 q3 q4 hb3 HNO HK HS3
  go_wp2_with fail
  obtain⟨p0,p1,p2,p3,p4⟩:=five_cells E.out;refine bodyPost_ret (v:=.tuple #[.agg #[.slice A n c,.slice A' m d,.int .i64 f1,.int .i64 f2,.slice B3 P1.length k3],.bool P3]) (by simp[results,Tryz.results14,go_sem,p0,p1,p2,p3,p4]) rfl ?_;rw[HR.out];exact⟨_,rfl,F.out⟩
structure PlayL {H:GraphHave} (O:OplogHave H) (w W:World) (k:Nat) (a:Addr) (bx:Nat) (x:Lg) (A:Option Addr) (n c:Nat) (A':Option Addr) (m d:Nat) (B:Option Addr) (j e:Nat) (N:Nat->Prop):Prop where
 lx:LX O w W N k a x
 v:LgAt (fun i=>N i/\i≠bx) W (.agg #[.slice A n c,.slice A' m d,.int .i64 x.fl.1,.int .i64 x.fl.2,.slice B j e]) x
 here:N bx
 ge:w.heap.size<=bx
 box:W.heap[bx]?=some (.cells #[.slice A n c,.slice A' m d,.int .i64 x.fl.1,.int .i64 x.fl.2,.slice B j e] 34 (0,0))
def ToldL(N:Nat->Prop)(w6:World)(x:Lg)(t v r:Value)(W:World):Prop:=
 ∃(bn:Nat)(A:Option Addr)(n c:Nat)(A':Option Addr)(m d:Nat)(B:Option Addr)(j e:Nat),v=.pointer (some ⟨bn,0,none⟩)/\r=t/\Below w6.heap.size w6 W/\w6.heap.size<=bn/\
  W.heap[bn]?=some (.cells #[.slice A n c,.slice A' m d,.int .i64 x.fl.1,.int .i64 x.fl.2,.slice B j e] 34 (0,0))/\LgAt (MoreN N w6) W (.agg #[.slice A n c,.slice A' m d,.int .i64 x.fl.1,.int .i64 x.fl.2,.slice B j e]) x
theorem box_behind5{W W':World}{o:Obj}(hb:Below (W.alloc o).drew.heap.size (W.alloc o).drew W'):W'.heap[W.heap.size]?=some o:=
 (hb.block _ (heap_lt (heap_alloc_new W o))).trans (heap_alloc_new W o)
section
variable {A:Option Addr}{n c:Nat}{A':Option Addr}{m d:Nat}{B:Option Addr}{j e:Nat}{N:Nat->Prop}{w6 W w8:World}{x:Lg}{t:Value}
theorem toldL_after(hW:Below w6.heap.size w6 W)(q8:LgAt (MoreN N W) w8 (.agg #[.slice A n c,.slice A' m d,.int .i64 x.fl.1,.int .i64 x.fl.2,.slice B j e]) x)(hb8:Below W.heap.size W w8):
  ToldL N w6 x t (.pointer (some ⟨w8.heap.size,0,none⟩)) t (w8.alloc (.cells #[.slice A n c,.slice A' m d,.int .i64 x.fl.1,.int .i64 x.fl.2,.slice B j e] 34)):=by
 have h1:=below_step hW hb8;exact⟨_,A,n,c,A',m,d,B,j,e,rfl,rfl,below_step h1 ((Below.refl _ _).alloc (Nat.le_refl _) _),h1.size,heap_alloc_new _ _,q8.step ((Below.refl _ _).alloc (Nat.le_refl _) _) fun i hi=>hi.imp_right fun q=>Nat.le_trans hW.size q⟩
theorem toldL_before{o:Obj}{a0 a1 a2 a3 a4:Value}(hN:∀i,N i->i<w6.heap.size)(ho:w8.heap[w6.heap.size]?=some (.cells #[a0,a1,a2,a3,a4] 34 (0,0)))
  (q8:LgAt (MoreN N (w6.alloc o).drew) w8 (.agg #[.slice A n c,.slice A' m d,.int .i64 x.fl.1,.int .i64 x.fl.2,.slice B j e]) x)(hb8:Below (w6.alloc o).drew.heap.size (w6.alloc o).drew w8):
  ToldL N w6 x t (.pointer (some ⟨w6.heap.size,0,none⟩)) t (put5 w8 w6.heap.size (.slice A n c) (.slice A' m d) (.int .i64 x.fl.1) (.int .i64 x.fl.2) (.slice B j e)):=by
 have h1:Below w6.heap.size w6 w8:=below_step (((Below.refl w6.heap.size w6).alloc (Nat.le_refl _) o).drew) hb8;have h3:(w6.alloc o).drew.heap.size=w6.heap.size+1:=by show(w6.alloc o).heap.size=_;simp
 refine⟨_,A,n,c,A',m,d,B,j,e,rfl,rfl,put5_below h1 (Nat.le_refl _) _ _ _ _ _,Nat.le_refl _,put5_box ho _ _ _ _ _,q8.put5 (fun i hi=>?_) _ _ _ _ _ fun i hi=>hi.imp_right fun q=>?_⟩
 ·rcases hi with hi|hi
  ·have:=hN i hi;omega
  ·omega
 ·omega
theorem playL_end{H:GraphHave}{O:OplogHave H}{w w9 w':World}{k:Nat}{a:Addr}{bx:Nat}{o0 o1 o2 o3 o4:Value}(h6:LX O w w6 N k a x)(hN:N bx)(hge:w.heap.size<=bx)(ho:w6.heap[bx]?=some (.cells #[o0,o1,o2,o3,o4] 34 (0,0)))
  (hB:Below w6.heap.size w6 w9)(q8:LgAt (MoreN (fun i=>N i/\i≠bx) w6) w9 (.agg #[.slice A n c,.slice A' m d,.int .i64 x.fl.1,.int .i64 x.fl.2,.slice B j e]) x)(hB2:Below w9.heap.size w9 w'):
  ∃N',PlayL O w (put5 w' bx (.slice A n c) (.slice A' m d) (.int .i64 x.fl.1) (.int .i64 x.fl.2) (.slice B j e)) k a bx x A n c A' m d B j e N':=by
 have g9:=(h6.grow hB).step hB2;have hbut:But (fun i=>i=bx) w' (put5 w' bx (.slice A n c) (.slice A' m d) (.int .i64 x.fl.1) (.int .i64 x.fl.2) (.slice B j e)):=
  (((((But.refl (fun i=>i=bx) w').setCell (p:=⟨bx,0,none⟩) (.inl rfl) _).setCell (p:=⟨bx,1,none⟩) (.inl rfl) _).setCell (p:=⟨bx,2,none⟩) (.inl rfl) _).setCell (p:=⟨bx,3,none⟩) (.inl rfl) _).setCell (p:=⟨bx,4,none⟩) (.inl rfl) _
 have g10:=g9.put hbut fun i hi=>by subst hi;exact⟨.inl hN,hge⟩
 have h9:w'.heap[bx]?=some (.cells #[o0,o1,o2,o3,o4] 34 (0,0)):=((hB2.block bx (Nat.lt_of_lt_of_le (heap_lt ho) hB.size)).trans (hB.block bx (heap_lt ho))).trans ho;refine⟨_,g10,((q8.live.step hB2 fun i hi=>hi).put5 (fun i hi=>?_) _ _ _ _ _ fun i hi=>?_),.inl hN,hge,put5_box h9 _ _ _ _ _⟩
 ·rcases hi.1 with q|q
  ·exact q.2
  ·have:=heap_lt ho;omega
 ·rcases hi.1 with q|q
  ·exact⟨.inl q.1,q.2⟩
  ·exact⟨.inr ⟨q,hi.2⟩,by have:=heap_lt ho;omega⟩
theorem LgAt.form{v:Value}(h:LgAt N W v x):∃(A:Option Addr)(n c:Nat)(A':Option Addr)(m d:Nat)(B:Option Addr)(j e:Nat),v=.agg #[.slice A n c,.slice A' m d,.int .i64 x.fl.1,.int .i64 x.fl.2,.slice B j e]:=by
 obtain⟨A,n,c,A',m,d,B,k,e,h1,_⟩:=h;exact⟨A,n,c,A',m,d,B,k,e,h1⟩
theorem LgAt.parts(h:LgAt N W (.agg #[.slice A n c,.slice A' m d,.int .i64 x.fl.1,.int .i64 x.fl.2,.slice B j e]) x):GrAt N W (.agg #[.slice A n c,.slice A' m d]) x.B/\OpsIn W W.heap.size B j x.L:=by
 obtain⟨_,_,_,_,_,_,_,_,_,h1,h2,h3,_⟩:=h;simp only[Value.agg.injEq,Array.mk.injEq,List.cons.injEq,Value.slice.injEq,true_and,and_true] at h1;obtain⟨⟨rfl,rfl,rfl⟩,⟨rfl,rfl,rfl⟩,rfl,rfl,rfl⟩:=h1;exact⟨h2,h3⟩
variable {H:GraphHave}{O:OplogHave H}{w W':World}{k k':Nat}{a:Addr}{bx:Nat}{x':Lg}
theorem PlayL.step(h:PlayL O w W k a bx x A n c A' m d B j e N)(hb:Below W.heap.size W W'):PlayL O w W' k a bx x A n c A' m d B j e N:=
 ⟨h.lx.step hb,h.v.step hb fun _ hi=>hi,h.here,h.ge,(hb.block _ (heap_lt h.box)).trans h.box⟩
end
theorem PlayL.more{H:GraphHave}{O:OplogHave H}{w W:World}{k k':Nat}{a:Addr}{bx:Nat}{x:Lg}{A:Option Addr}{n c:Nat}{A':Option Addr}{m d:Nat}{B:Option Addr}{j e:Nat}{N:Nat->Prop}(h:PlayL O w W k a bx x A n c A' m d B j e N)(hk:k<=k'):PlayL O w W k' a bx x A n c A' m d B j e N:=
 ⟨h.lx.more hk,h.v,h.here,h.ge,h.box⟩
structure DocL (w W:World) (bx:Nat) (x:Lg) (A:Option Addr) (n c:Nat) (A':Option Addr) (m d:Nat) (B:Option Addr) (j e:Nat) (N:Nat->Prop):Prop where
 v:LgAt (fun i=>N i/\i≠bx) W (.agg #[.slice A n c,.slice A' m d,.int .i64 x.fl.1,.int .i64 x.fl.2,.slice B j e]) x
 here:N bx
 ge:w.heap.size<=bx
 box:W.heap[bx]?=some (.cells #[.slice A n c,.slice A' m d,.int .i64 x.fl.1,.int .i64 x.fl.2,.slice B j e] 34 (0,0))
theorem PlayL.doc{H:GraphHave}{O:OplogHave H}{w W W':World}{k:Nat}{a:Addr}{bx:Nat}{x:Lg}{A:Option Addr}{n c:Nat}{A':Option Addr}{m d:Nat}{B:Option Addr}{j e:Nat}{N:Nat->Prop}(h:PlayL O w W k a bx x A n c A' m d B j e N)(s:Same N W W'):DocL w W' bx x A n c A' m d B j e N:=
 ⟨h.v.keep (fun i hi=>s.2 i hi.1) s.1 fun _ hi=>hi,h.here,h.ge,(s.2 _ h.here).trans h.box⟩
set_option maxRecDepth 100000 in
set_option maxHeartbeats 1600000 in
theorem refLogHas(N:Nat->Prop)(v:Value)(x:Lg)(s:St)(hn:x.L.length<=1000)(w:World)(hv:LgAt N w v x):
  Calls Tryz.prog 23 #[v,.agg (stA s)] w fun e w'=>e=.returned (.bool (hasL x s))/\Below w.heap.size w w':=by
 obtain⟨A,n,c,A',m,d,B,k,e,rfl,h2,h3,h4⟩:=hv;have hl:=h3.len;obtain⟨f1,f2,hfl⟩:∃f1 f2,x.fl=(f1,f2):=⟨_,_,rfl⟩;have hfl1:x.fl.1=f1:=by rw[hfl]
 have hfl2:x.fl.2=f2:=by rw[hfl]
 rw[hfl1,hfl2];obtain⟨u,hu⟩:∃u,u=w.heap.size:=⟨_,rfl⟩;have H0:Hid (Held w [(u+1,.cells #[.int .i64 s.1,.int .i64 s.2] 24),(u,.cells #[.slice A n c,.slice A' m d,.int .i64 f1,.int .i64 f2,.slice B k e] 34)]
   ((w.alloc (.cells #[.slice A n c,.slice A' m d,.int .i64 f1,.int .i64 f2,.slice B k e] 34)).alloc (.cells #[.int .i64 s.1,.int .i64 s.2] 24))):=
  Lib.hid (((Held.refl w).alloc _ hu.symm).alloc _ (by simp[hu]))
 have HX:=Lib.hid h3;have HV:Hid (hasL x s=(!lessS (f1,f2) s||hasO x.L s)):=by rw[<-hfl];rfl
 generalize hasL x s=r at HV ⊢;have HHI:Hid (∀(h:∀b∈x.L,oSt b≠s),hasO x.L s=false):=Lib.hid fun h=>by
  rw[Bool.eq_false_iff];intro q;obtain⟨b,hb,e⟩:=hasO_iff.1 q;exact h b hb e
 have HHY:Hid (∀b∈x.L,oSt b=s->hasO x.L s=true):=Lib.hid fun b hb e=>hasO_iff.2 ⟨b,hb,e⟩;generalize hasO x.L s=ho at HV HHI HHY;generalize x.L=L at HX HHI HHY hl hn;clear h2 h3 h4 hfl hfl1 hfl2;unfold stA
 go_enter Tryz.func23,Tryz.ntmps23
 go_upto_region 1 with fail
 rw[<-hu];change Code.wp _ _ _ _ ((w.alloc (.cells #[.slice A n c,.slice A' m d,.int .i64 f1,.int .i64 f2,.slice B k e] 34)).alloc (.cells #[.int .i64 s.1,.int .i64 s.2] 24));generalize (w.alloc (.cells #[.slice A n c,.slice A' m d,.int .i64 f1,.int .i64 f2,.slice B k e] 34)).alloc (.cells #[.int .i64 s.1,.int .i64 s.2] 24)=w1 at H0 ⊢;clear hu;obtain⟨x0,x1,x2,x3,x4⟩:=five_cells (H0.out.at 1 rfl);obtain⟨s0,s1⟩:=two_cells (H0.out.at 0 rfl);have DL:=Lib.hid (less_at (f1,f2) s w1);generalize lessS (f1,f2) s=q at DL HV
 go_wp2_with fail
 refine DL.out.mono ?_;rintro e' w2 ⟨rfl,hb2⟩;have H2:=Lib.hid (H0.out.step hb2);clear x0 x1 x2 x3 x4 s0 s1 hb2 DL H0
 cases q with
 |false=>
  have HR:Hid (r=true):=HV.out
  go_wp2_with fail
  go_ret
  exact⟨by rw[HR.out];rfl,H2.out.below⟩
 |true=>
  have HR:Hid (r=ho):=HV.out;clear HV
  go_wp2_with fail
  go_loopg [5] (k+1) (fun gk i wr=>∃t:Nat,i=.int .i64 (t:Int)/\gk+t=k+1/\t<=k/\Hid (∀j(h1:j<L.length),j<t->oSt L[j]≠s)/\Hid (Held w [(u+1,.cells #[.int .i64 s.1,.int .i64 s.2] 24),(u,.cells #[.slice A n c,.slice A' m d,.int .i64 f1,.int .i64 f2,.slice B k e] 34)] wr))
  case atStart=>exact⟨0,rfl,by omega,by omega,fun _ _ hj=>absurd hj (by omega),H2⟩
  case round=>
   clear H2;obtain⟨t,rfl,hgk,hk,hall,hH⟩:=hrel;have HG:=Lib.hid hgk;clear hgk;obtain⟨x0,x1,x2,x3,x4⟩:=five_cells (hH.out.at 1 rfl);obtain⟨s0,s1⟩:=two_cells (hH.out.at 0 rfl);by_cases hlt:t<k
   ·obtain⟨gi,o,rfl,hg,hrow⟩:=HX.out.row (by omega);have lk:t<L.length:=by omega
    obtain⟨e0,e1,-⟩:=(hrow t lk).below hH.out.below hg;have k0:=later_cell e0;have k1:=later_cell e1;have l0:=later_cell s0;have l1:=later_cell s1;have l4:=later_cell x4;obtain⟨a,ha⟩:∃a,L[t]=a:=⟨_,rfl⟩;rw[ha] at k0 k1;have hi0:(0:Int)<=(t:Int):=by omega
    have hi1:(t:Int)<(k:Int):=by omega
    have hq:∀W:World,(Op.equalIn 10000 24 (.agg #[.int .i64 a.st,.int .i64 a.sr]) (.agg #[.int .i64 s.1,.int .i64 s.2])).run Tryz.prog W=.ok (decide (oSt a=s)) W:=fun W=>run_eqSt _ _ _ _ W;have HA:=Lib.hid ha;have HM:=Lib.hid (List.getElem_mem lk);rw[ha] at HM;obtain⟨b,hb⟩:∃b,b=decide (oSt a=s):=⟨_,rfl⟩;rw[<-hb] at hq;have HB:=Lib.hid hb;clear hrow e0 e1 hb ha hlt x0 x1 x2 x3 s0 s1
    cases b with
    |false=>
     go_upto_region 6 with fail
     refine wp_region_later (by kernel_rfl) (by kernel_rfl) ?_
     repeat(go_big_quiet_step (fail))
     refine wpQuiet_nil ?_;intro _ hw';obtain⟨y,rfl⟩:=hw';have H3:=Lib.hid (hH.out.step (later_below wr y));clear l0 l1 l4 k0 k1 hq hH x4
     go_wp2_with fail
     go_roundg (gk-1)
     case measure=>have:=HG.out;omega
     case rel=>
      refine⟨t+1,by go_num,by have:=HG.out;omega,by omega,fun j h1 hj=>?_,H3⟩;by_cases q:j=t
      ·subst q;rw[HA.out];exact of_decide_eq_false HB.out.symm
      ·exact hall.out j h1 (by omega)
    |true=>
     have HE:Hid (ho=true):=Lib.hid (HHY.out a HM.out (of_decide_eq_true HB.out.symm))
     go_upto_region 6 with fail
     refine wp_region_later (by kernel_rfl) (by kernel_rfl) ?_
     repeat(go_big_quiet_step (fail))
     refine wpQuiet_nil ?_;intro _ hw';obtain⟨y,rfl⟩:=hw';have H3:=Lib.hid (hH.out.step (later_below wr y));clear l0 l1 l4 k0 k1 hq hH x4
     go_wp2_with fail
     go_ret
     exact⟨by rw[HR.out,HE.out];rfl,H3.out.below⟩
   ·have hkn:t=k:=by omega
    subst hkn;have HE:Hid (ho=false):=Lib.hid (HHI.out fun b hb=>by
     obtain⟨j,hj,rfl⟩:=List.getElem_of_mem hb
     exact hall.out j hj (by omega))
    clear hlt
    go_wp2_with fail
    go_ret
    exact⟨by rw[HR.out,HE.out];rfl,hH.out.below⟩
abbrev LogS(w:World)(u:Nat)(A:Option Addr)(n c:Nat)(A':Option Addr)(m d:Nat)(f1 f2:Int)(B:Option Addr)(k e:Nat)(s:St)(W:World):Prop:=
 Held w [(u+1,.cells #[.int .i64 s.1,.int .i64 s.2] 24),(u,.cells #[.slice A n c,.slice A' m d,.int .i64 f1,.int .i64 f2,.slice B k e] 34)] W/\
 W.cell? ⟨u,0,none⟩=some (.slice A n c)/\W.cell? ⟨u,1,none⟩=some (.slice A' m d)/\W.cell? ⟨u,4,none⟩=some (.slice B k e)/\W.cell? ⟨u+1,0,none⟩=some (.int .i64 s.1)/\W.cell? ⟨u+1,1,none⟩=some (.int .i64 s.2)
theorem log_s{w W:World}{u:Nat}{A:Option Addr}{n c:Nat}{A':Option Addr}{m d:Nat}{f1 f2:Int}{B:Option Addr}{k e:Nat}{s:St}(h:Held w [(u+1,.cells #[.int .i64 s.1,.int .i64 s.2] 24),(u,.cells #[.slice A n c,.slice A' m d,.int .i64 f1,.int .i64 f2,.slice B k e] 34)] W):LogS w u A n c A' m d f1 f2 B k e s W:=by
 obtain⟨x0,x1,x2,x3,x4⟩:=five_cells (h.at 1 rfl);obtain⟨s0,s1⟩:=two_cells (h.at 0 rfl);exact⟨h,x0,x1,x4,s0,s1⟩
theorem log_drew{w W:World}{u:Nat}{A:Option Addr}{n c:Nat}{A':Option Addr}{m d:Nat}{f1 f2:Int}{B:Option Addr}{k e:Nat}{s:St}(h:LogS w u A n c A' m d f1 f2 B k e s W):LogS w u A n c A' m d f1 f2 B k e s W.drew:=log_s h.1.drew
theorem log_step{w W W':World}{u:Nat}{A:Option Addr}{n c:Nat}{A':Option Addr}{m d:Nat}{f1 f2:Int}{B:Option Addr}{k e:Nat}{s:St}(h:LogS w u A n c A' m d f1 f2 B k e s W)(hb:Below W.heap.size W W'):LogS w u A n c A' m d f1 f2 B k e s W':=log_s (h.1.step hb)
theorem log_set5{w W:World}{u:Nat}{A:Option Addr}{n c:Nat}{A':Option Addr}{m d:Nat}{f1 f2:Int}{B:Option Addr}{k e:Nat}{s:St}(h:LogS w u A n c A' m d f1 f2 B k e s W)(hu:w.heap.size<=u)(v0 v1 v2 v3 v4:Value):LogS w u A n c A' m d f1 f2 B k e s (((((W.setCell ⟨u+2,0,none⟩ v0).setCell ⟨u+2,1,none⟩ v1).setCell ⟨u+2,2,none⟩ v2).setCell ⟨u+2,3,none⟩ v3).setCell ⟨u+2,4,none⟩ v4):=by
 refine log_s ⟨fun p hp=>?_,put5_below h.1.2 (by omega) v0 v1 v2 v3 v4⟩;have hne:p.1≠u+2:=by
  simp at hp;rcases hp with rfl|rfl<;>(dsimp only;omega)
 exact(put5_other hne v0 v1 v2 v3 v4).trans (h.1.1 p hp)
set_option maxRecDepth 100000 in
set_option maxHeartbeats 3200000 in
theorem refLogCompact(N:Nat->Prop)(v:Value)(x:Lg)(s:St)(hx:x.ok)(hn:x.L.length<=60)(hfit:∀o∈x.L,OpFit o)(w:World)(hv:LgAt N w v x):
    Calls Tryz.prog 12 #[v,.agg (stA s)] w (LgPost N (compactL x s).1 (.int .i64 ((compactL x s).2:Int)) w):=by
  have hv0:=Lib.hid hv.live;obtain⟨A,n,c,A',m,d,B,k,e,rfl,h2,h3,h4⟩:=hv;have hk:=h3.len;obtain⟨f1,f2,hfl⟩:∃f1 f2,x.fl=(f1,f2):=⟨_,_,rfl⟩;have hfl1:x.fl.1=f1:=by rw[hfl]
  have hfl2:x.fl.2=f2:=by rw[hfl]
  rw[hfl1,hfl2] at hv0 ⊢;obtain⟨u,hu⟩:∃u,u=w.heap.size:=⟨_,rfl⟩;have HU:Hid (u=w.heap.size):=hu;have H0:Hid (Held w [(u+2,.cells #[.slice none 0 0,.slice none 0 0,.int .i64 0,.int .i64 0,.slice none 0 0] 34),(u+1,.cells #[.int .i64 s.1,.int .i64 s.2] 24),(u,.cells #[.slice A n c,.slice A' m d,.int .i64 f1,.int .i64 f2,.slice B k e] 34)] (((w.alloc (.cells #[.slice A n c,.slice A' m d,.int .i64 f1,.int .i64 f2,.slice B k e] 34)).alloc (.cells #[.int .i64 s.1,.int .i64 s.2] 24)).alloc (.cells #[.slice none 0 0,.slice none 0 0,.int .i64 0,.int .i64 0,.slice none 0 0] 34))):=
    Lib.hid ((((Held.refl w).alloc _ hu.symm).alloc _ (by simp[hu])).alloc _ (by simp[hu]))
  have HA:Hid (compactL x s=if mayB s.1 s.2=true/\lessS (f1,f2) s=true then(⟨runG x.B (x.L.take (belowO x.L s)),s,x.L.drop (belowO x.L s)⟩,belowO x.L s) else(x,0)):=by rw[<-hfl];rfl
  have hbl:=below_le x.L s;have DB:Hid (∀W,Below w.heap.size w W->Calls Tryz.prog 43 #[.slice B k e,.agg #[.int .i64 s.1,.int .i64 s.2]] W fun e w'=>e=.returned (.int .i64 (belowO x.L s:Int))/\Below W.heap.size W w'):=Lib.hid fun W hW=>
    refBelow B k e x.L s (by omega) W ((h3.below hW).more hW.size)
  have DO:Hid (∀W,Below w.heap.size w W->Calls Tryz.prog 44 #[.agg #[.slice A n c,.slice A' m d],.slice B (belowO x.L s) e] W fun e w'=>∃v',e=.returned v'/\GrAt (MoreN (fun i=>N i/\i<w.heap.size) W) w' v' (runG x.B (x.L.take (belowO x.L s)))/\Below W.heap.size W w'):=Lib.hid fun W hW=>by
    have:=refOn (fun i=>N i/\i<w.heap.size) (.agg #[.slice A n c,.slice A' m d]) x.B hx.base B (belowO x.L s) e (x.L.take (belowO x.L s)) (by omega) (fun o ho=>hfit o (List.mem_of_mem_take ho)) W (h2.live.step hW fun i hi=>hi) (ops_take ((h3.below hW).more hW.size) (by omega))
    rwa[sort_self hx.rises.take fun a ha=>hx.may a (List.mem_of_mem_take ha)] at this
  have H34:=Lib.hid (And.intro h3 h4);have HBK:Hid (belowO x.L s<=k):=by show _<=_;omega
  have HKN:Hid (B=none->k=0/\e=0):=Lib.hid fun hB=>by
    refine⟨?_,h4.2.2.1 hB⟩;have:=h4.1;have:=h4.2.2.1 hB;omega
  clear h2 h3 h4 hk hx hn hfit hfl1 hfl2 hbl;generalize runG x.B (x.L.take (belowO x.L s))=φ at DO HA;generalize compactL x s=R at HA ⊢;obtain⟨b,hbq⟩:∃b,b=belowO x.L s:=⟨_,rfl⟩;rw[<-hbq] at HA DB DO HBK;clear hbq;unfold stA
  go_enter Tryz.func12,Tryz.ntmps12
  go_upto_region 1 with fail
  rw[<-hu];change Code.wp _ _ _ _ (((w.alloc (.cells #[.slice A n c,.slice A' m d,.int .i64 f1,.int .i64 f2,.slice B k e] 34)).alloc (.cells #[.int .i64 s.1,.int .i64 s.2] 24)).alloc (.cells #[.slice none 0 0,.slice none 0 0,.int .i64 0,.int .i64 0,.slice none 0 0] 34));generalize ((w.alloc (.cells #[.slice A n c,.slice A' m d,.int .i64 f1,.int .i64 f2,.slice B k e] 34)).alloc (.cells #[.int .i64 s.1,.int .i64 s.2] 24)).alloc (.cells #[.slice none 0 0,.slice none 0 0,.int .i64 0,.int .i64 0,.slice none 0 0] 34)=w1 at H0 ⊢;clear hu;obtain⟨x0,x1,x2,x3,x4⟩:=five_cells (H0.out.at 2 rfl);obtain⟨s0,s1⟩:=two_cells (H0.out.at 1 rfl);have DM:=Lib.hid (refMay s.1 s.2 w1);generalize mayB s.1 s.2=qm at DM HA
  go_wp2_with fail
  refine DM.out.mono ?_;rintro e' w2 ⟨rfl,hb2⟩;have H2:=Lib.hid (H0.out.step hb2);clear x0 x1 x2 x3 x4 s0 s1 hb2 DM H0
  cases qm with
  |false=>
    have HR:Hid (R=(x,0)):=HA.out.trans (if_neg fun q=>by cases q.1);have hx:=H2.out.at 0 rfl;obtain⟨x0,x1,x2,x3,x4⟩:=five_cells (H2.out.at 2 rfl);obtain⟨r0,r1,r2,r3,r4⟩:=five_cells hx;obtain⟨g0,g1,g2,g3,g4⟩:=five_free hx;have hu:=HU.out;have F:Hid (LgAt (MoreN N w) (put5 w2 (u+2) (.slice A n c) (.slice A' m d) (.int .i64 f1) (.int .i64 f2) (.slice B k e)) (.agg #[.slice A n c,.slice A' m d,.int .i64 f1,.int .i64 f2,.slice B k e]) x/\Below w.heap.size w (put5 w2 (u+2) (.slice A n c) (.slice A' m d) (.int .i64 f1) (.int .i64 f2) (.slice B k e))):=
      ⟨(hv0.out.step H2.out.below fun i hi=>hi).put5 (fun i hi=>by have:=hi.2;omega) _ _ _ _ _ fun i hi=>.inl hi.1,put5_below H2.out.below (by omega) _ _ _ _ _⟩
    have E:Hid ((put5 w2 (u+2) (.slice A n c) (.slice A' m d) (.int .i64 f1) (.int .i64 f2) (.slice B k e)).heap[u+2]?=some (.cells #[.slice A n c,.slice A' m d,.int .i64 f1,.int .i64 f2,.slice B k e] 34 (0,0))):=put5_box hx _ _ _ _ _;clear hx hu H2 hv0 HA DB DO H34 HBK HKN hfl
    go_wp2_with fail
    obtain⟨p0,p1,p2,p3,p4⟩:=five_cells E.out;refine bodyPost_ret (v:=.tuple #[.agg #[.slice A n c,.slice A' m d,.int .i64 f1,.int .i64 f2,.slice B k e],.int .i64 0]) (by simp[results,Tryz.results12,go_sem,p0,p1,p2,p3,p4]) rfl ?_;rw[HR.out];exact⟨_,rfl,F.out⟩
  |true=>
    obtain⟨x0,x1,x2,x3,x4⟩:=five_cells (H2.out.at 2 rfl);obtain⟨s0,s1⟩:=two_cells (H2.out.at 1 rfl);have DL:=Lib.hid (less_at (f1,f2) s w2);generalize lessS (f1,f2) s=ql at DL HA
    go_wp2_with fail
    refine DL.out.mono ?_;rintro e' w3 ⟨rfl,hb3⟩;have H3:=Lib.hid (H2.out.step hb3);clear x0 x1 x2 x3 x4 s0 s1 hb3 DL H2
    cases ql with
    |false=>
      have HR:Hid (R=(x,0)):=HA.out.trans (if_neg fun q=>by cases q.2);have hx:=H3.out.at 0 rfl;obtain⟨x0,x1,x2,x3,x4⟩:=five_cells (H3.out.at 2 rfl);obtain⟨r0,r1,r2,r3,r4⟩:=five_cells hx;obtain⟨g0,g1,g2,g3,g4⟩:=five_free hx;have hu:=HU.out;have F:Hid (LgAt (MoreN N w) (put5 w3 (u+2) (.slice A n c) (.slice A' m d) (.int .i64 f1) (.int .i64 f2) (.slice B k e)) (.agg #[.slice A n c,.slice A' m d,.int .i64 f1,.int .i64 f2,.slice B k e]) x/\Below w.heap.size w (put5 w3 (u+2) (.slice A n c) (.slice A' m d) (.int .i64 f1) (.int .i64 f2) (.slice B k e))):=
        ⟨(hv0.out.step H3.out.below fun i hi=>hi).put5 (fun i hi=>by have:=hi.2;omega) _ _ _ _ _ fun i hi=>.inl hi.1,put5_below H3.out.below (by omega) _ _ _ _ _⟩
      have E:Hid ((put5 w3 (u+2) (.slice A n c) (.slice A' m d) (.int .i64 f1) (.int .i64 f2) (.slice B k e)).heap[u+2]?=some (.cells #[.slice A n c,.slice A' m d,.int .i64 f1,.int .i64 f2,.slice B k e] 34 (0,0))):=put5_box hx _ _ _ _ _;clear hx hu H3 hv0 HA DB DO H34 HBK HKN hfl
      go_wp2_with fail
      obtain⟨p0,p1,p2,p3,p4⟩:=five_cells E.out;refine bodyPost_ret (v:=.tuple #[.agg #[.slice A n c,.slice A' m d,.int .i64 f1,.int .i64 f2,.slice B k e],.int .i64 0]) (by simp[results,Tryz.results12,go_sem,p0,p1,p2,p3,p4]) rfl ?_;rw[HR.out];exact⟨_,rfl,F.out⟩
    |true=>
      have HR:Hid (R=(⟨φ,s,x.L.drop b⟩,b)):=HA.out.trans (if_pos (by simp));obtain⟨x0,x1,x2,x3,x4⟩:=five_cells (H3.out.at 2 rfl);obtain⟨s0,s1⟩:=two_cells (H3.out.at 1 rfl);have D3:=Lib.hid (DB.out _ H3.out.below);clear HA DB
      go_wp2_with fail
      refine D3.out.mono ?_;rintro e' w4 ⟨rfl,hb4⟩;have H4:=Lib.hid (H3.out.step hb4);clear x0 x1 x2 x3 x4 s0 s1 hb4 D3 H3 hv0;have hS0:LogS w u A n c A' m d f1 f2 B k e s w4:=log_s ⟨fun p hp=>H4.out.1 p (List.mem_cons_of_mem _ hp),H4.out.2⟩;have hS1:=log_drew hS0;have hx0:=H4.out.at 0 rfl;have hul:w.heap.size<=u:=by have:=HU.out;omega
      have hbk:=HBK.out;have hke:=H34.out.2.1;have j1:(0:Int)<=((b:Nat):Int):=by omega
      have j2:((b:Nat):Int)<=((k:Nat):Int):=by omega
      have j3:((b:Nat):Int)<=((e:Nat):Int):=by omega
      have HLT:Hid (u+2<w4.heap.size):=heap_lt hx0;have hxl:=H34.out.1.len
      cases B with
      |none=>
        obtain⟨hk0,he0⟩:=HKN.out rfl;have hb0:0=b:=by omega
        subst hk0 he0 hb0;have HO4:Hid (OpsIn w4 w4.heap.size (none) (0-0) (x.L.drop 0)):=Lib.hid (by
          rw[List.drop_of_length_le (by omega)]
          exact ops_none _)
        clear HKN
        go_upto_region 4 with fail
        unfold LogS at hS0 hS1
        go_region_held3 (fun W=>Held w [(u+1,.cells #[.int .i64 s.1,.int .i64 s.2] 24),(u,.cells #[.slice A n c,.slice A' m d,.int .i64 f1,.int .i64 f2,.slice (none) 0 0] 34)] W/\W.cell? ⟨u,0,none⟩=some (.slice A n c)/\W.cell? ⟨u,1,none⟩=some (.slice A' m d)/\W.cell? ⟨u,4,none⟩=some (.slice (none) 0 0)/\W.cell? ⟨u+1,0,none⟩=some (.int .i64 s.1)/\W.cell? ⟨u+1,1,none⟩=some (.int .i64 s.2)) (first|(with_reducible assumption)|(with_reducible exact log_drew (by assumption))|(with_reducible exact log_set5 (by assumption) hul _ _ _ _ _))
          (first
            |(go_at_call 44;(with_reducible refine(DO.out _ ?_).mono ?_);(with_reducible (first|exact hS0.1.below|exact hS1.1.below));rintro e' w5 ⟨v5,rfl,q5,hb5⟩;obtain⟨X5,n5,c5,Y5,m5,d5,rfl⟩:=q5.form;have hS5:=log_step (by with_reducible first|exact hS1|exact hS0) hb5;unfold LogS at hS5;have hx5:=(hb5.block _ (heap_lt hx0)).trans hx0;obtain⟨r0,r1,r2,r3,r4⟩:=five_cells hx5;obtain⟨g0,g1,g2,g3,g4⟩:=five_free hx5))
        all_goals
          have hu:=HU.out;have hs5:=hb5.size;have sd:w4.drew.heap.size=w4.heap.size:=rfl;have B45:Below w4.heap.size w4 w5:=by first|exact hb5|exact below_step ((Below.refl _ _).drew) hb5
          have F:Hid (LgAt (MoreN N w) (put5 w5 (u+2) (.slice X5 n5 c5) (.slice Y5 m5 d5) (.int .i64 s.1) (.int .i64 s.2) (.slice (none) (0-0) (0-0))) (.agg #[.slice X5 n5 c5,.slice Y5 m5 d5,.int .i64 s.1,.int .i64 s.2,.slice (none) (0-0) (0-0)]) ⟨φ,s,x.L.drop 0⟩/\Below w.heap.size w (put5 w5 (u+2) (.slice X5 n5 c5) (.slice Y5 m5 d5) (.int .i64 s.1) (.int .i64 s.2) (.slice (none) (0-0) (0-0)))):=by
            have hlt:=HLT.out;have hmx:=H34.out.2.2.1;have hL:LgAt (fun i=>(N i/\i<w.heap.size)\/w4.heap.size<=i) w5 (.agg #[.slice X5 n5 c5,.slice Y5 m5 d5,.int .i64 s.1,.int .i64 s.2,.slice (none) (0-0) (0-0)]) (⟨φ,s,x.L.drop 0⟩:Lg):=by
              refine⟨X5,n5,c5,Y5,m5,d5,none,0-0,0-0,rfl,q5.step (Below.refl _ _) (fun i hi=>by rcases hi with hi|hi;exact .inl hi;exact .inr (by omega)),(HO4.out.below B45).more B45.size,by omega,by omega,(fun _=>rfl),fun hp p hpe=>?_⟩
              cases hpe
            refine⟨hL.put5 (fun i hi=>by rcases hi with hi|hi<;>omega) _ _ _ _ _ (fun i hi=>?_),put5_below hS5.1.below (by omega) _ _ _ _ _⟩;rcases hi with hi|hi
            · exact .inl hi.1
            · exact .inr (by have:=H4.out.below.size;omega)
          have E:Hid ((put5 w5 (u+2) (.slice X5 n5 c5) (.slice Y5 m5 d5) (.int .i64 s.1) (.int .i64 s.2) (.slice (none) (0-0) (0-0))).heap[u+2]?=some (.cells #[.slice X5 n5 c5,.slice Y5 m5 d5,.int .i64 s.1,.int .i64 s.2,.slice (none) (0-0) (0-0)] 34 (0,0))):=put5_box hx5 _ _ _ _ _;clear hS0 hS1 hS5 hx5 hx0 q5 hb5 hs5 B45 hu DO H34 HBK H4 HO4 r0 r1 r2 r3 r4
          go_wp2_with fail
          obtain⟨p0,p1,p2,p3,p4⟩:=five_cells E.out;refine bodyPost_ret (v:=.tuple #[.agg #[.slice X5 n5 c5,.slice Y5 m5 d5,.int .i64 s.1,.int .i64 s.2,.slice (none) (0-0) (0-0)],.int .i64 ((0:Nat):Int)]) (by simp[results,Tryz.results12,go_sem,p0,p1,p2,p3,p4]) rfl ?_;rw[HR.out];exact⟨_,rfl,F.out⟩
      |some ad=>
        by_cases hbe:e=b
        · have he:b=e:=hbe.symm
          have hk:b=k:=by omega
          clear hbe;subst he hk;have HO4:Hid (OpsIn w4 w4.heap.size (some ad) 0 (x.L.drop b)):=Lib.hid (by
            rw[List.drop_of_length_le (by omega)]
            exact ops_none _)
          clear HKN
          go_upto_region 4 with fail
          unfold LogS at hS0 hS1
          go_region_held3 (fun W=>Held w [(u+1,.cells #[.int .i64 s.1,.int .i64 s.2] 24),(u,.cells #[.slice A n c,.slice A' m d,.int .i64 f1,.int .i64 f2,.slice (some ad) b b] 34)] W/\W.cell? ⟨u,0,none⟩=some (.slice A n c)/\W.cell? ⟨u,1,none⟩=some (.slice A' m d)/\W.cell? ⟨u,4,none⟩=some (.slice (some ad) b b)/\W.cell? ⟨u+1,0,none⟩=some (.int .i64 s.1)/\W.cell? ⟨u+1,1,none⟩=some (.int .i64 s.2)) (first|(with_reducible assumption)|(with_reducible exact log_drew (by assumption))|(with_reducible exact log_set5 (by assumption) hul _ _ _ _ _))
            (first
              |(go_at_call 44;(with_reducible refine(DO.out _ ?_).mono ?_);(with_reducible (first|exact hS0.1.below|exact hS1.1.below));rintro e' w5 ⟨v5,rfl,q5,hb5⟩;obtain⟨X5,n5,c5,Y5,m5,d5,rfl⟩:=q5.form;have hS5:=log_step (by with_reducible first|exact hS1|exact hS0) hb5;unfold LogS at hS5;have hx5:=(hb5.block _ (heap_lt hx0)).trans hx0;obtain⟨r0,r1,r2,r3,r4⟩:=five_cells hx5;obtain⟨g0,g1,g2,g3,g4⟩:=five_free hx5))
          all_goals
            have hu:=HU.out;have hs5:=hb5.size;have sd:w4.drew.heap.size=w4.heap.size:=rfl;have B45:Below w4.heap.size w4 w5:=by first|exact hb5|exact below_step ((Below.refl _ _).drew) hb5
            have F:Hid (LgAt (MoreN N w) (put5 w5 (u+2) (.slice X5 n5 c5) (.slice Y5 m5 d5) (.int .i64 s.1) (.int .i64 s.2) (.slice (some ad) 0 0)) (.agg #[.slice X5 n5 c5,.slice Y5 m5 d5,.int .i64 s.1,.int .i64 s.2,.slice (some ad) 0 0]) ⟨φ,s,x.L.drop b⟩/\Below w.heap.size w (put5 w5 (u+2) (.slice X5 n5 c5) (.slice Y5 m5 d5) (.int .i64 s.1) (.int .i64 s.2) (.slice (some ad) 0 0))):=by
              have hlt:=HLT.out;have hmx:=H34.out.2.2.1;have hL:LgAt (fun i=>(N i/\i<w.heap.size)\/w4.heap.size<=i) w5 (.agg #[.slice X5 n5 c5,.slice Y5 m5 d5,.int .i64 s.1,.int .i64 s.2,.slice (some ad) 0 0]) (⟨φ,s,x.L.drop b⟩:Lg):=by
                refine⟨X5,n5,c5,Y5,m5,d5,some ad,0,0,rfl,q5.step (Below.refl _ _) (fun i hi=>by rcases hi with hi|hi;exact .inl hi;exact .inr (by omega)),(HO4.out.below B45).more B45.size,by omega,by omega,(fun h=>by cases h),fun hp p hpe=>?_⟩;exact absurd hp (by omega)
              refine⟨hL.put5 (fun i hi=>by rcases hi with hi|hi<;>omega) _ _ _ _ _ (fun i hi=>?_),put5_below hS5.1.below (by omega) _ _ _ _ _⟩;rcases hi with hi|hi
              · exact .inl hi.1
              · exact .inr (by have:=H4.out.below.size;omega)
            have E:Hid ((put5 w5 (u+2) (.slice X5 n5 c5) (.slice Y5 m5 d5) (.int .i64 s.1) (.int .i64 s.2) (.slice (some ad) 0 0)).heap[u+2]?=some (.cells #[.slice X5 n5 c5,.slice Y5 m5 d5,.int .i64 s.1,.int .i64 s.2,.slice (some ad) 0 0] 34 (0,0))):=put5_box hx5 _ _ _ _ _;clear hS0 hS1 hS5 hx5 hx0 q5 hb5 hs5 B45 hu DO H34 HBK H4 HO4 r0 r1 r2 r3 r4
            go_wp2_with fail
            obtain⟨p0,p1,p2,p3,p4⟩:=five_cells E.out;refine bodyPost_ret (v:=.tuple #[.agg #[.slice X5 n5 c5,.slice Y5 m5 d5,.int .i64 s.1,.int .i64 s.2,.slice (some ad) 0 0],.int .i64 (b:Int)]) (by simp[results,Tryz.results12,go_sem,p0,p1,p2,p3,p4]) rfl ?_;rw[HR.out];exact⟨_,rfl,F.out⟩
        · have hbe':b<e:=by omega
          have HO4:Hid (OpsIn w4 w4.heap.size (some (ad.add (b*13))) (k-b) (x.L.drop b)):=Lib.hid (by
            by_cases q:b<k
            · obtain⟨g9,o9,e9,hg9,_⟩:=H34.out.1.2 (by omega)
              injection e9 with e9
              subst e9;rw[Addr.add_lit];exact ops_drop ((H34.out.1.below H4.out.below).more H4.out.below.size) hbk
            · rw[List.drop_of_length_le (by omega),show k-b=0 by omega]
              exact ops_none _)
          clear HKN
          go_upto_region 4 with fail
          unfold LogS at hS0 hS1
          go_region_held3 (fun W=>Held w [(u+1,.cells #[.int .i64 s.1,.int .i64 s.2] 24),(u,.cells #[.slice A n c,.slice A' m d,.int .i64 f1,.int .i64 f2,.slice (some ad) k e] 34)] W/\W.cell? ⟨u,0,none⟩=some (.slice A n c)/\W.cell? ⟨u,1,none⟩=some (.slice A' m d)/\W.cell? ⟨u,4,none⟩=some (.slice (some ad) k e)/\W.cell? ⟨u+1,0,none⟩=some (.int .i64 s.1)/\W.cell? ⟨u+1,1,none⟩=some (.int .i64 s.2)) (first|(with_reducible assumption)|(with_reducible exact log_drew (by assumption))|(with_reducible exact log_set5 (by assumption) hul _ _ _ _ _))
            (first
              |(go_at_call 44;(with_reducible refine(DO.out _ ?_).mono ?_);(with_reducible (first|exact hS0.1.below|exact hS1.1.below));rintro e' w5 ⟨v5,rfl,q5,hb5⟩;obtain⟨X5,n5,c5,Y5,m5,d5,rfl⟩:=q5.form;have hS5:=log_step (by with_reducible first|exact hS1|exact hS0) hb5;unfold LogS at hS5;have hx5:=(hb5.block _ (heap_lt hx0)).trans hx0;obtain⟨r0,r1,r2,r3,r4⟩:=five_cells hx5;obtain⟨g0,g1,g2,g3,g4⟩:=five_free hx5))
          all_goals
            have hu:=HU.out;have hs5:=hb5.size;have sd:w4.drew.heap.size=w4.heap.size:=rfl;have B45:Below w4.heap.size w4 w5:=by first|exact hb5|exact below_step ((Below.refl _ _).drew) hb5
            have F:Hid (LgAt (MoreN N w) (put5 w5 (u+2) (.slice X5 n5 c5) (.slice Y5 m5 d5) (.int .i64 s.1) (.int .i64 s.2) (.slice (some (ad.add (b*13))) (k-b) (e-b))) (.agg #[.slice X5 n5 c5,.slice Y5 m5 d5,.int .i64 s.1,.int .i64 s.2,.slice (some (ad.add (b*13))) (k-b) (e-b)]) ⟨φ,s,x.L.drop b⟩/\Below w.heap.size w (put5 w5 (u+2) (.slice X5 n5 c5) (.slice Y5 m5 d5) (.int .i64 s.1) (.int .i64 s.2) (.slice (some (ad.add (b*13))) (k-b) (e-b)))):=by
              have hlt:=HLT.out;have hmx:=H34.out.2.2.1;have hL:LgAt (fun i=>(N i/\i<w.heap.size)\/w4.heap.size<=i) w5 (.agg #[.slice X5 n5 c5,.slice Y5 m5 d5,.int .i64 s.1,.int .i64 s.2,.slice (some (ad.add (b*13))) (k-b) (e-b)]) (⟨φ,s,x.L.drop b⟩:Lg):=by
                refine⟨X5,n5,c5,Y5,m5,d5,some (ad.add (b*13)),k-b,e-b,rfl,q5.step (Below.refl _ _) (fun i hi=>by rcases hi with hi|hi;exact .inl hi;exact .inr (by omega)),(HO4.out.below B45).more B45.size,by omega,by omega,(fun h=>by cases h),fun hp p hpe=>?_⟩;obtain⟨g9,o9,e9,hg9,_⟩:=H34.out.1.2 (by omega)
                injection e9 with e9
                subst e9;rw[Addr.add_lit] at hpe
                injection hpe with hpe
                subst hpe;exact .inl ⟨H34.out.2.2.2.2 (by omega) ⟨g9,o9,none⟩ rfl,hg9⟩
              refine⟨hL.put5 (fun i hi=>by rcases hi with hi|hi<;>omega) _ _ _ _ _ (fun i hi=>?_),put5_below hS5.1.below (by omega) _ _ _ _ _⟩;rcases hi with hi|hi
              · exact .inl hi.1
              · exact .inr (by have:=H4.out.below.size;omega)
            have E:Hid ((put5 w5 (u+2) (.slice X5 n5 c5) (.slice Y5 m5 d5) (.int .i64 s.1) (.int .i64 s.2) (.slice (some (ad.add (b*13))) (k-b) (e-b))).heap[u+2]?=some (.cells #[.slice X5 n5 c5,.slice Y5 m5 d5,.int .i64 s.1,.int .i64 s.2,.slice (some (ad.add (b*13))) (k-b) (e-b)] 34 (0,0))):=put5_box hx5 _ _ _ _ _;clear hS0 hS1 hS5 hx5 hx0 q5 hb5 hs5 B45 hu DO H34 HBK H4 HO4 r0 r1 r2 r3 r4
            go_wp2_with fail
            obtain⟨p0,p1,p2,p3,p4⟩:=five_cells E.out;refine bodyPost_ret (v:=.tuple #[.agg #[.slice X5 n5 c5,.slice Y5 m5 d5,.int .i64 s.1,.int .i64 s.2,.slice (some (ad.add (b*13))) (k-b) (e-b)],.int .i64 (b:Int)]) (by simp[results,Tryz.results12,go_sem,p0,p1,p2,p3,p4]) rfl ?_;rw[HR.out];exact⟨_,rfl,F.out⟩
end Go.Proofs.YtnnnkaobhkeocaaGreatDoor
