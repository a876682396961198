/-
 The walks of the document's own Ops and Below: are two lists the same; how many aren't above a stamp?
-/
import Derived.Test.YtnnnkaobhkeocaaGreatDoorZ01
import Derived.Test.YtnnnkaobhkeocaaGreatDoorZ01
import Derived.Test.YtnnnkaobhkeocaaGreatDoorZ06
import Derived.Test.YtnnnkaobhkeocaaGreatDoorStampRefLessZ
import Derived.Test.YtnnnkaobhkeocaaGreatDoorZ01
import Derived.Test.YtnnnkaobhkeocaaGreatDoorZ01
import Derived.Test.YtnnnkaobhkeocaaGreatDoorGraphRefSameZ
import Derived.Deep.LoopGhost
import Derived.Deep.QuietTactic
import Derived.BigQuiet
namespace Go.Proofs.YtnnnkaobhkeocaaGreatDoor
open Go.RowKit StampMath GraphMath OpMath PackMath
set_option maxRecDepth 100000 in
set_option maxHeartbeats 1600000 in
theorem refOps(A A':Option Addr)(n c m d:Nat)(X Y:List Opn)(hn:n<=1000)(hm:m<=1000)(w:World)(h:OpsIn w w.heap.size A n X)(h':OpsIn w w.heap.size A' m Y):
  Calls Tryz.prog 20 #[.slice A n c,.slice A' m d] w fun e w'=>e=.returned (.bool (decide (X=Y)))/\Below w.heap.size w w':=by
 have hl:=h.len;have hl':=h'.len;have HX:Hid (OpsIn w w.heap.size A n X):=h;have HY:Hid (OpsIn w w.heap.size A' m Y):=h';clear h h';by_cases hnm:n=m
 ·subst hnm
  go_enter Tryz.func20,Tryz.ntmps20
  go_wp2_with fail
  go_loopg [5] (n+1) (fun gk i wr=>∃k:Nat,i=.int .i64 (k:Int)/\gk+k=n+1/\k<=n/\Hid (∀j(h1:j<X.length)(h2:j<Y.length),j<k->X[j]=Y[j])/\Below w.heap.size w wr)
  case atStart=>exact⟨0,rfl,by omega,by omega,fun _ _ _ hj=>absurd hj (by omega),Below.refl _ _⟩
  case round=>
   obtain⟨k,rfl,hgk,hk,hall,hB⟩:=hrel;by_cases hlt:k<n
   ·obtain⟨gi,o,rfl,hg,hrow⟩:=HX.out.row (by omega);obtain⟨gi',o',rfl,hg',hrow'⟩:=HY.out.row (by omega);obtain⟨e0,e1,e2,e3,e4,e5,e6,e7,e8,e9,e10,e11,e12⟩:=(hrow k (by omega)).below hB hg;obtain⟨d0,d1,d2,d3,d4,d5,d6,d7,d8,d9,d10,d11,d12⟩:=(hrow' k (by omega)).below hB hg';have hr:=run_eqO X[k] Y[k];unfold opA at hr;clear hrow hrow';by_cases hq:X[k]=Y[k]
    ·rw[decide_eq_true hq] at hr;have HA:Hid (∀j(h1:j<X.length)(h2:j<Y.length),j<k+1->X[j]=Y[j]):=fun j h1 h2 hj=>by
      by_cases e:j=k
      ·subst e;exact hq
      ·exact hall.out j h1 h2 (by omega)
     clear hq hall
     go_wp2_with fail
     go_quiet (fail)
     go_wp2_with fail
     go_roundg (gk-1)
     case measure=>omega
     case rel=>exact⟨k+1,by go_num,by omega,by omega,HA.out,below_drewN' hB _⟩
    ·rw[decide_eq_false hq] at hr;have HA:Hid (decide (X=Y)=false):=same_no (by omega) (by omega) hq;clear hq hall
     go_wp2_with fail
     go_quiet (fail)
     go_wp2_with fail
     go_ret
     exact⟨by rw[HA.out];rfl,below_drewN' hB _⟩
   ·have HA:Hid (decide (X=Y)=true):=same_yes (by omega) fun j h1 h2=>hall.out j h1 h2 (by omega)
    go_wp2_with fail
    go_ret
    exact⟨by rw[HA.out];rfl,hB⟩
 ·have HA:Hid (decide (X=Y)=false):=same_no_len (by omega);have hnm':¬(n:Int)=(m:Int):=by omega
  go_enter Tryz.func20,Tryz.ntmps20
  go_wp2_with fail
  go_ret
  exact⟨by rw[HA.out];rfl,Below.refl _ _⟩
theorem less_at(a b:St)(W:World):Calls Tryz.prog 42 #[.agg #[.int .i64 a.1,.int .i64 a.2],.agg #[.int .i64 b.1,.int .i64 b.2]] W fun e w'=>e=.returned (.bool (lessS a b))/\Below W.heap.size W w':=refLess a.1 a.2 b.1 b.2 W
set_option maxRecDepth 100000 in
set_option maxHeartbeats 1600000 in
theorem refBelow(A:Option Addr)(n c:Nat)(x:List Opn)(s:St)(hn:n<=1000)(w:World)(h:OpsIn w w.heap.size A n x):
  Calls Tryz.prog 43 #[.slice A n c,.agg (stA s)] w fun e w'=>e=.returned (.int .i64 (belowO x s:Int))/\Below w.heap.size w w':=by
 have hl:=h.len;have HX:=Lib.hid h;obtain⟨v,hv⟩:∃v,v=belowO x s:=⟨_,rfl⟩;have HV:=Lib.hid hv;rw[<-hv];have hH0:Held w [(w.heap.size,.cells (stA s) 24)] (w.alloc (.cells (stA s) 24)):=(Held.refl w).alloc _ rfl;clear h hv;unfold stA at hH0 ⊢
 go_enter Tryz.func43,Tryz.ntmps43
 go_wp2_with fail
 go_loopg [5] (n+1) (fun gk i wr=>∃k:Nat,i=.int .i64 (k:Int)/\gk+k=n+1/\k<=n/\Hid (∀j(h1:j<x.length),j<k->(!lessS s (oSt x[j]))=true)/\Hid (Held w [(w.heap.size,.cells #[.int .i64 s.1,.int .i64 s.2] 24)] wr))
 case atStart=>exact⟨0,rfl,by omega,by omega,fun _ _ hj=>absurd hj (by omega),hH0⟩
 case round=>
  obtain⟨k,rfl,hgk,hk,hall,hH⟩:=hrel;have HG:=Lib.hid hgk;clear hgk hH0;obtain⟨c0,c1⟩:=two_cells (g:=w.heap.size) (hH.out.at 0 rfl);have l0:=later_cell c0;have l1:=later_cell c1;by_cases hlt:k<n
  ·obtain⟨gi,o,rfl,hg,hrow⟩:=HX.out.row (by omega);have lk:k<x.length:=by omega
   obtain⟨e0,e1,_⟩:=(hrow k lk).below hH.out.below hg;have k0:=later_cell e0;have k1:=later_cell e1;obtain⟨a,ha⟩:∃a,x[k]=a:=⟨_,rfl⟩;rw[ha] at k0 k1;obtain⟨b,hb⟩:∃b,b=lessS s (oSt a):=⟨_,rfl⟩;have HL:Hid (∀y,Calls Tryz.prog 42 #[.agg #[.int .i64 s.1,.int .i64 s.2],.agg #[.int .i64 a.st,.int .i64 a.sr]] (later wr y) fun e w'=>e=.returned (.bool b)/\∃z,w'=later wr z):=Lib.hid fun y=>later_call (by rw[hb];exact less_at s (oSt a) _);have HB:=Lib.hid hb;have HA:=Lib.hid ha;have hi0:(0:Int)<=(k:Int):=by omega
   have hi1:(k:Int)<(n:Int):=by omega
   clear hrow e0 e1 c0 c1 hb ha hlt
   cases b with
   |false=>
    have HL2:=HL
    go_upto_region 2 with fail
    refine wp_region_later (by kernel_rfl) (by kernel_rfl) ?_
    repeat(go_big_quiet_step (first|(with_reducible exact HL.out _)))
    refine wpQuiet_nil ?_;intro _ hw';obtain⟨y,rfl⟩:=hw';have H2:=Lib.hid (hH.out.step (later_below wr y));clear l0 l1 k0 k1 HL HL2 hH
    go_wp2_with fail
    go_roundg (gk-1)
    case measure=>have:=HG.out;omega
    case rel=>
     refine⟨k+1,by go_num,by have:=HG.out;omega,by omega,fun j h1 hj=>?_,H2⟩;by_cases q:j=k
     ·subst q;rw[HA.out,<-HB.out];rfl
     ·exact hall.out j h1 (by omega)
   |true=>
    have HE:Hid (v=k):=Lib.hid (by
     rw[HV.out];refine while_is (by omega) hall.out fun h1=>?_
     rw[HA.out,<-HB.out];rfl)
    go_upto_region 2 with fail
    refine wp_region_later (by kernel_rfl) (by kernel_rfl) ?_
    repeat(go_big_quiet_step (first|(with_reducible exact HL.out _)))
    refine wpQuiet_nil ?_;intro _ hw';obtain⟨y,rfl⟩:=hw';have H2:=Lib.hid (hH.out.step (later_below wr y));clear l0 l1 k0 k1 HL hH
    go_wp2_with fail
    go_ret
    exact⟨by rw[HE.out];rfl,H2.out.below⟩
  ·have hkn:k=n:=by omega
   have HE:Hid (v=k):=Lib.hid (by
    rw[HV.out]
    exact while_is (by omega) hall.out fun h1=>by omega)
   have hi1:¬(k:Int)<(n:Int):=by omega
   clear c0 c1 hlt hkn
   go_upto_region 2 with fail
   refine wp_region_later (by kernel_rfl) (by kernel_rfl) ?_
   repeat(go_big_quiet_step (fail))
   refine wpQuiet_nil ?_;intro _ hw';obtain⟨y,rfl⟩:=hw';have H2:=Lib.hid (hH.out.step (later_below wr y));clear l0 l1 hH
   go_wp2_with fail
   go_ret
   exact⟨by rw[HE.out];rfl,H2.out.below⟩
end Go.Proofs.YtnnnkaobhkeocaaGreatDoor
