/-
 The walks of the document's own Entries and Nodes: are two lists the same?
-/
import Derived.Test.YtnnnkaobhkeocaaGreatDoorZ02
import Derived.Test.YtnnnkaobhkeocaaGreatDoorZ02
namespace Go.Proofs.YtnnnkaobhkeocaaGreatDoor
open Go.RowKit StampMath GraphMath
theorem same_no_len{α:Type}[DecidableEq α]{xs ys:List α}(h:xs.length≠ys.length):decide (xs=ys)=false:=decide_eq_false fun e=>h (by rw[e])
theorem same_no{α:Type}[DecidableEq α]{xs ys:List α}{k:Nat}(h1:k<xs.length)(h2:k<ys.length)(h:¬xs[k]=ys[k]):decide (xs=ys)=false:=
 decide_eq_false fun e=>h (by subst e;rfl)
theorem same_yes{α:Type}[DecidableEq α]{xs ys:List α}(hl:xs.length=ys.length)(h:∀k(h1:k<xs.length)(h2:k<ys.length),xs[k]=ys[k]):decide (xs=ys)=true:=
 decide_eq_true (List.ext_getElem hl h)
set_option maxRecDepth 100000 in
set_option maxHeartbeats 1600000 in
theorem refEnts(A A':Option Addr)(n c m d:Nat)(X Y:List Ent)(hn:n<=1000)(hm:m<=1000)(w:World)(h:EntsIn w w.heap.size A n X)(h':EntsIn w w.heap.size A' m Y):
  Calls Tryz.prog 52 #[.slice A n c,.slice A' m d] w fun e w'=>e=.returned (.bool (decide (X=Y)))/\Below w.heap.size w w':=by
 have hl:=h.len;have hl':=h'.len;have HX:Hid (EntsIn w w.heap.size A n X):=h;have HY:Hid (EntsIn w w.heap.size A' m Y):=h';clear h h';by_cases hnm:n=m
 ·subst hnm
  go_enter Tryz.func52,Tryz.ntmps52
  go_wp2_with fail
  go_loopg [5] (n+1) (fun gk i wr=>∃k:Nat,i=.int .i64 (k:Int)/\gk+k=n+1/\k<=n/\Hid (∀j(h1:j<X.length)(h2:j<Y.length),j<k->X[j]=Y[j])/\Below w.heap.size w wr)
  case atStart=>exact⟨0,rfl,by omega,by omega,fun _ _ _ hj=>absurd hj (by omega),Below.refl _ _⟩
  case round=>
   obtain⟨k,rfl,hgk,hk,hall,hB⟩:=hrel;by_cases hlt:k<n
   ·obtain⟨gi,o,rfl,hg,hrow⟩:=HX.out.row (by omega);obtain⟨gi',o',rfl,hg',hrow'⟩:=HY.out.row (by omega);obtain⟨e0,e1,e2,e3,e4⟩:=(hrow k (by omega)).below hB hg;obtain⟨d0,d1,d2,d3,d4⟩:=(hrow' k (by omega)).below hB hg';have hr:=run_eqEnt X[k] Y[k];clear hrow hrow';by_cases hq:X[k]=Y[k]
    ·rw[decide_eq_true hq] at hr;have HA:Hid (∀j(h1:j<X.length)(h2:j<Y.length),j<k+1->X[j]=Y[j]):=fun j h1 h2 hj=>by
      by_cases e:j=k
      ·subst e;exact hq
      ·exact hall.out j h1 h2 (by omega)
     clear hq hall
     go_wp2_with fail
     go_quiet (fail)
     go_wp2_with fail
     go_roundg (gk-1)
     case measure=>omega
     case rel=>exact⟨k+1,by go_num,by omega,by omega,HA.out,below_drewN' hB _⟩
    ·rw[decide_eq_false hq] at hr;have HA:Hid (decide (X=Y)=false):=same_no (by omega) (by omega) hq;clear hq hall
     go_wp2_with fail
     go_quiet (fail)
     go_wp2_with fail
     go_ret
     exact⟨by rw[HA.out];rfl,below_drewN' hB _⟩
   ·have HA:Hid (decide (X=Y)=true):=same_yes (by omega) fun j h1 h2=>hall.out j h1 h2 (by omega)
    go_wp2_with fail
    go_ret
    exact⟨by rw[HA.out];rfl,hB⟩
 ·have HA:Hid (decide (X=Y)=false):=same_no_len (by omega);have hnm':¬(n:Int)=(m:Int):=by omega
  go_enter Tryz.func52,Tryz.ntmps52
  go_wp2_with fail
  go_ret
  exact⟨by rw[HA.out];rfl,Below.refl _ _⟩
set_option maxRecDepth 100000 in
set_option maxHeartbeats 1600000 in
theorem refNodes(A A':Option Addr)(n c m d:Nat)(X Y:List Ino)(hn:n<=1000)(hm:m<=1000)(w:World)(h:InosIn w w.heap.size A n X)(h':InosIn w w.heap.size A' m Y):
  Calls Tryz.prog 50 #[.slice A n c,.slice A' m d] w fun e w'=>e=.returned (.bool (decide (X=Y)))/\Below w.heap.size w w':=by
 have hl:=h.len;have hl':=h'.len;have HX:Hid (InosIn w w.heap.size A n X):=h;have HY:Hid (InosIn w w.heap.size A' m Y):=h';clear h h';by_cases hnm:n=m
 ·subst hnm
  go_enter Tryz.func50,Tryz.ntmps50
  go_wp2_with fail
  go_loopg [5] (n+1) (fun gk i wr=>∃k:Nat,i=.int .i64 (k:Int)/\gk+k=n+1/\k<=n/\Hid (∀j(h1:j<X.length)(h2:j<Y.length),j<k->X[j]=Y[j])/\Below w.heap.size w wr)
  case atStart=>exact⟨0,rfl,by omega,by omega,fun _ _ _ hj=>absurd hj (by omega),Below.refl _ _⟩
  case round=>
   obtain⟨k,rfl,hgk,hk,hall,hB⟩:=hrel;by_cases hlt:k<n
   ·obtain⟨gi,o,rfl,hg,hrow⟩:=HX.out.row (by omega);obtain⟨gi',o',rfl,hg',hrow'⟩:=HY.out.row (by omega);obtain⟨e0,e1,e2,e3,e4,e5⟩:=(hrow k (by omega)).below hB hg;obtain⟨d0,d1,d2,d3,d4,d5⟩:=(hrow' k (by omega)).below hB hg';have hr:=run_eqIno X[k] Y[k];clear hrow hrow';by_cases hq:X[k]=Y[k]
    ·rw[decide_eq_true hq] at hr;have HA:Hid (∀j(h1:j<X.length)(h2:j<Y.length),j<k+1->X[j]=Y[j]):=fun j h1 h2 hj=>by
      by_cases e:j=k
      ·subst e;exact hq
      ·exact hall.out j h1 h2 (by omega)
     clear hq hall
     go_wp2_with fail
     go_quiet (fail)
     go_wp2_with fail
     go_roundg (gk-1)
     case measure=>omega
     case rel=>exact⟨k+1,by go_num,by omega,by omega,HA.out,below_drewN' hB _⟩
    ·rw[decide_eq_false hq] at hr;have HA:Hid (decide (X=Y)=false):=same_no (by omega) (by omega) hq;clear hq hall
     go_wp2_with fail
     go_quiet (fail)
     go_wp2_with fail
     go_ret
     exact⟨by rw[HA.out];rfl,below_drewN' hB _⟩
   ·have HA:Hid (decide (X=Y)=true):=same_yes (by omega) fun j h1 h2=>hall.out j h1 h2 (by omega)
    go_wp2_with fail
    go_ret
    exact⟨by rw[HA.out];rfl,hB⟩
 ·have HA:Hid (decide (X=Y)=false):=same_no_len (by omega);have hnm':¬(n:Int)=(m:Int):=by omega
  go_enter Tryz.func50,Tryz.ntmps50
  go_wp2_with fail
  go_ret
  exact⟨by rw[HA.out];rfl,Below.refl _ _⟩
end Go.Proofs.YtnnnkaobhkeocaaGreatDoor
