/-
 A log as the document has it: a value of a graph, a stamp, and a slice of operations.
-/
import Derived.Test.YtnnnkaobhkeocaaGreatDoorZ02
import Derived.Test.YtnnnkaobhkeocaaGreatDoorZ01
import Derived.Test.YtnnnkaobhkeocaaGreatDoorZ01
import Derived.Test.YtnnnkaobhkeocaaGreatDoorZ00
import Derived.Test.YtnnnkaobhkeocaaGreatDoorRows
namespace Go.Proofs.YtnnnkaobhkeocaaGreatDoor
open Go.RowKit StampMath GraphMath OpMath PackMath
def LgAt(N:Nat->Prop)(W:World)(v:Value)(x:Lg):Prop:=
 ∃(A:Option Addr)(n c:Nat)(A':Option Addr)(m d:Nat)(B:Option Addr)(k e:Nat),v=.agg #[.slice A n c,.slice A' m d,.int .i64 x.fl.1,.int .i64 x.fl.2,.slice B k e]/\
  GrAt N W (.agg #[.slice A n c,.slice A' m d]) x.B/\OpsIn W W.heap.size B k x.L/\Cap N B k e
theorem LgAt.step{N N':Nat->Prop}{W W':World}{v:Value}{x:Lg}(h:LgAt N W v x)(hb:Below W.heap.size W W')(hN:∀i,N i->N' i):LgAt N' W' v x:=by
 obtain⟨A,n,c,A',m,d,B,k,e,h1,h2,h3,h4⟩:=h;exact⟨A,n,c,A',m,d,B,k,e,h1,h2.step hb hN,(h3.below hb).more hb.size,h4.to hN⟩
theorem LgAt.keep{N N':Nat->Prop}{W W':World}{v:Value}{x:Lg}(h:LgAt N W v x)(hk:∀i,N i->W'.heap[i]?=W.heap[i]?)(hs:W.heap.size<=W'.heap.size)(hN:∀i,N i->N' i):LgAt N' W' v x:=by
 obtain⟨A,n,c,A',m,d,B,k,e,h1,h2,h3,h4⟩:=h;exact⟨A,n,c,A',m,d,B,k,e,h1,h2.keep hk hs hN,TabIn.keep h3 (fun hn p hp=>hk _ (h4.2.2.2 hn p hp)) hs,h4.to hN⟩
theorem LgAt.live{N:Nat->Prop}{W:World}{v:Value}{x:Lg}(h:LgAt N W v x):LgAt (fun i=>N i/\i<W.heap.size) W v x:=by
 obtain⟨A,n,c,A',m,d,B,k,e,h1,h2,h3,h4⟩:=h;refine⟨A,n,c,A',m,d,B,k,e,h1,h2.live,h3,h4.1,h4.2.1,h4.2.2.1,fun hn p hp=>⟨h4.2.2.2 hn p hp,?_⟩⟩;obtain⟨g,o,e',hg,_⟩:=h3.2 hn;rw[e'] at hp
 injection hp with hp
 rw[<-hp];exact hg
def LgPost(N:Nat->Prop)(x:Lg)(t:Value)(w:World)(e:Ending)(w':World):Prop:=
 ∃v,e=.returned (.tuple #[v,t])/\LgAt (MoreN N w) w' v x/\Below w.heap.size w w'
end Go.Proofs.YtnnnkaobhkeocaaGreatDoor
namespace Go.Proofs.YtnnnkaobhkeocaaGreatDoor.GraphMath
open StampMath OpMath ExtentMath
def firstO(l:List Opn)(s:St):Option Opn:=l.find? fun b=>mayO b&&decide (oSt b=s)
theorem first_snoc(l:List Opn)(o:Opn)(s:St):firstO (l++[o]) s=if(firstO l s).isSome then firstO l s else if mayO o=true/\oSt o=s then some o else none:=by
 unfold firstO;rw[List.find?_append]
 cases h:l.find? (fun b=>mayO b&&decide (oSt b=s)) with
 |some x=>rfl
 |none=>
  rw[Option.none_or];by_cases q:mayO o=true/\oSt o=s
  ·rw[if_neg (by simp),if_pos q,List.find?_cons_of_pos (by simp[q])]
  ·rw[if_neg (by simp),if_neg q,List.find?_cons_of_neg (by simpa using q),List.find?_nil]
theorem mem_sort{l:List Opn}{a:Opn}:a∈sortO l↔firstO l (oSt a)=some a:=by
 have key:∀k,k<=l.length->∀a,a∈putsO [] (l.take k)↔firstO (l.take k) (oSt a)=some a:=by
  intro k
  induction k with
  |zero=>intro _ a;exact⟨fun h=>(nomatch h),fun h=>by cases h⟩
  |succ k ih=>
   intro hk a;have lk:k<l.length:=by omega
   have ih:=ih (by omega);have hh:∀s,hasO (putsO [] (l.take k)) s=(firstO (l.take k) s).isSome:=fun s=>by
    rw[Bool.eq_iff_iff,hasO_iff]
    constructor
    ·rintro⟨b,hb,rfl⟩;rw[(ih b).1 hb];rfl
    ·intro h
     cases hf:firstO (l.take k) s with
     |none=>rw[hf] at h;cases h
     |some b=>
      have hb:oSt b=s:=by
       have:=List.find?_some hf;simp only[Bool.and_eq_true,decide_eq_true_iff] at this;exact this.2
      exact⟨b,(ih b).2 (by rw[hb];exact hf),hb⟩
   rw[puts_snoc [] lk,put_mem,List.take_succ_eq_append_getElem lk,first_snoc,hh,ih a]
   cases hf:firstO (l.take k) (oSt a) with
   |some b=>
    rw[if_pos (by rfl)]
    constructor
    ·rintro(q|⟨rfl,_,q⟩)
     ·exact q
     ·rw[hf] at q;cases q
    ·exact Or.inl
   |none=>
    rw[if_neg (by simp)]
    constructor
    ·rintro(q|⟨rfl,q,_⟩)
     ·cases q
     ·rw[if_pos ⟨q,rfl⟩]
    ·intro q;by_cases c:mayO l[k]=true/\oSt l[k]=oSt a
     ·rw[if_pos c] at q
      injection q with q
      subst q;exact Or.inr ⟨rfl,c.1,by rw[hf];rfl⟩
     ·rw[if_neg c] at q;cases q
 have:=key l.length (Nat.le_refl _) a
 rwa[List.take_length] at this
theorem sort_stamp{l:List Opn}{b:Opn}(hb:b∈l)(hm:mayO b=true):∃a∈sortO l,oSt a=oSt b:=by
 cases hf:firstO l (oSt b) with
 |none=>
  have:=List.find?_eq_none.1 hf b hb;simp[hm] at this
 |some a=>
  have h:=List.find?_some hf;simp only[Bool.and_eq_true,decide_eq_true_iff] at h;exact⟨a,mem_sort.2 (by rw[h.2];exact hf),h.2⟩
def scanO(l:List Opn)(ok:Opn->Bool):Nat->Option Nat
 |0=>none
 |k+1=>match l[k]?,scanO l ok k with
  |none,p=>p
  |some b,none=>if ok b then some k else none
  |some b,some p=>if ok b&&lessS (oSt b) (((l[p]?).map oSt).getD (0,0)) then some k else some p
theorem scan_next(l:List Opn)(ok:Opn->Bool){k:Nat}(h:k<l.length):scanO l ok (k+1)=match scanO l ok k with
  |none=>if ok l[k] then some k else none
  |some p=>if ok l[k]&&lessS (oSt l[k]) (((l[p]?).map oSt).getD (0,0)) then some k else some p:=by
 show(match l[k]?,scanO l ok k with|none,p=>p|some b,none=>_|some b,some p=>_)=_;rw[List.getElem?_eq_getElem h]
 cases scanO l ok k<;>rfl
structure Scanned (l:List Opn) (ok:Opn->Bool) (k p:Nat) (hp:p<l.length):Prop where
 lt:p<k
 is:ok l[p]=true
 least:∀i(h:i<l.length),i<k->ok l[i]=true->lessS (oSt l[i]) (oSt l[p])=false
 first:∀i(h:i<l.length),i<p->ok l[i]=true->oSt l[i]≠oSt l[p]
theorem scan_is(l:List Opn)(ok:Opn->Bool):∀k,k<=l.length->(scanO l ok k=none->∀i(h:i<l.length),i<k->ok l[i]=false)/\∀p,scanO l ok k=some p->∃hp:p<l.length,Scanned l ok k p hp
 |0,_=>⟨fun _ i _ h=>by omega,fun p h=>by cases h⟩
 |k+1,hk=>by
  have lk:k<l.length:=by omega
  obtain⟨h1,h2⟩:=scan_is l ok k (by omega);rw[scan_next l ok lk]
  cases hs:scanO l ok k with
  |none=>
   have h1:=h1 hs;dsimp only;by_cases c:ok l[k]=true
   ·rw[if_pos c];refine⟨fun q=>by(cases q),fun p q=>?_⟩
    cases q
    refine⟨lk,Nat.lt_succ_self _,c,fun i hi hik hc=>?_,fun i hi hik hc=>?_⟩
    ·by_cases e:i=k
     ·subst e;exact lessS_irrefl _
     ·rw[h1 i hi (by omega)] at hc;cases hc
    ·rw[h1 i hi hik] at hc;cases hc
   ·rw[if_neg c];refine⟨fun _ i hi hik=>?_,fun p q=>by(cases q)⟩;by_cases e:i=k
    ·subst e;cases h:ok l[i]<;>simp_all
    ·exact h1 i hi (by omega)
  |some p=>
   obtain⟨hp,S⟩:=h2 p hs;dsimp only;rw[List.getElem?_eq_getElem hp];show(_->_)/\∀q,(if ok l[k]&&lessS (oSt l[k]) (oSt l[p]) then some k else some p)=some q->_;by_cases c:(ok l[k]&&lessS (oSt l[k]) (oSt l[p]))=true
   ·rw[if_pos (show(ok l[k]&&lessS (oSt l[k]) (((some l[p]).map oSt).getD (0,0)))=true from c),if_pos c];rw[Bool.and_eq_true] at c;refine⟨fun q=>by(cases q),fun q e=>?_⟩
    cases e
    refine⟨lk,Nat.lt_succ_self _,c.1,fun i hi hik hc=>?_,fun i hi hik hc e=>?_⟩
    ·by_cases e:i=k
     ·subst e;exact lessS_irrefl _
     ·rw[Bool.eq_false_iff];intro r;have:=S.least i hi (by omega) hc;rw[lessS_trans r c.2] at this
      cases this
    ·have:=S.least i hi hik hc;rw[e,c.2] at this
     cases this
   ·rw[if_neg (show¬(ok l[k]&&lessS (oSt l[k]) (((some l[p]).map oSt).getD (0,0)))=true from c),if_neg c];refine⟨fun q=>by(cases q),fun q e=>?_⟩
    cases e
    refine⟨hp,by have:=S.lt;omega,S.is,fun i hi hik hc=>?_,S.first⟩;by_cases e:i=k
    ·subst e;rw[hc,Bool.true_and] at c
     cases h:lessS (oSt l[i]) (oSt l[p])<;>simp_all
    ·exact S.least i hi (by omega) hc
def leftO(out:List Opn)(a:Opn):Bool:=mayO a&&(match out.getLast? with|none=>true|some z=>lessS (oSt z) (oSt a))
theorem scan_sort{l:List Opn}{j:Nat}(hj:j<=(sortO l).length):
  (scanO l (leftO ((sortO l).take j)) l.length=none->j=(sortO l).length)/\
  ∀p,scanO l (leftO ((sortO l).take j)) l.length=some p->∃hp:p<l.length,∃hs:j<(sortO l).length,l[p]=(sortO l)[j]:=by
 have hR:=sort_rises l;have hlast:∀i(hi:i<(sortO l).length),leftO ((sortO l).take j) (sortO l)[i]=decide (j<=i):=fun i hi=>by
  unfold leftO;rw[sort_may l _ (List.getElem_mem hi),Bool.true_and]
  cases j with
  |zero=>rw[List.take_zero];simp
  |succ j=>
   have hj':j<(sortO l).length:=by omega
   rw[List.take_succ_eq_append_getElem hj',List.getLast?_append,List.getLast?_singleton];show lessS (oSt (sortO l)[j]) (oSt (sortO l)[i])=_;rcases Nat.lt_trichotomy j i with q|q|q
   ·rw[List.pairwise_iff_getElem.1 hR j i hj' hi q,decide_eq_true (show j+1<=i by omega)]
   ·subst q;rw[lessS_irrefl];simp
   ·rw[lessS_le (List.pairwise_iff_getElem.1 hR i j hi hj' q)];simp;omega
 have hst:∀a b:Opn,oSt a=oSt b->mayO a=true->mayO b=true->leftO ((sortO l).take j) a=leftO ((sortO l).take j) b:=fun a b e h1 h2=>by
  unfold leftO;rw[e,h1,h2]
 obtain⟨h1,h2⟩:=scan_is l (leftO ((sortO l).take j)) l.length (Nat.le_refl _)
 constructor
 ·intro hn;refine Classical.byContradiction fun q=>?_;have hs:j<(sortO l).length:=by omega
  obtain⟨i,hi,e⟩:=List.getElem_of_mem (sort_sub _ (List.getElem_mem hs));have:=h1 hn i hi hi;rw[e,hlast j hs] at this;simp at this
 ·intro p hp;obtain⟨hpl,S⟩:=h2 p hp;have hmp:mayO l[p]=true:=by
   have:=S.is;unfold leftO at this;rw[Bool.and_eq_true] at this;exact this.1
  obtain⟨a,ha,e⟩:=sort_stamp (List.getElem_mem hpl) hmp;obtain⟨i,hi,rfl⟩:=List.getElem_of_mem ha;have hji:j<=i:=by
   have:=hst _ _ e (sort_may l _ ha) hmp;rw[S.is,hlast i hi,decide_eq_true_iff] at this;exact this
  have hs:j<(sortO l).length:=by omega
  refine⟨hpl,hs,?_⟩;have hij:i=j:=by
   refine Classical.byContradiction fun q=>?_;have hlt:=List.pairwise_iff_getElem.1 hR j i hs hi (by omega);obtain⟨r,hr,er⟩:=List.getElem_of_mem (sort_sub _ (List.getElem_mem hs));have:=S.least r hr hr (by rw[er,hlast j hs];simp);rw[er,<-e,hlt] at this
   cases this
  subst hij
  -- both are the first ones of their stamp
  have hf:=mem_sort.1 (List.getElem_mem hs);obtain⟨r,hr,er⟩:=List.getElem_of_mem (sort_sub _ (List.getElem_mem hs));have hfp:firstO l (oSt (sortO l)[i])=some l[p]:=by
   unfold firstO;rw[List.find?_eq_some_iff_getElem];refine⟨by simp[hmp,e],p,hpl,rfl,fun q hq=>?_⟩;have hq':q<l.length:=by omega
   by_cases hm:mayO l[q]=true
   ·have hne:oSt l[q]≠oSt (sortO l)[i]:=fun hx=>by
     have:leftO ((sortO l).take i) l[q]=true:=by rw[hst l[q] l[p] (hx.trans e) hm hmp];exact S.is
     exact S.first q hq' hq this (hx.trans e)
    simp[hne]
   ·simp[hm]
  rw[hf] at hfp
  injection hfp with hfp
  exact hfp.symm
end Go.Proofs.YtnnnkaobhkeocaaGreatDoor.GraphMath
namespace Go.Proofs.YtnnnkaobhkeocaaGreatDoor
open Go.RowKit OpMath
set_option maxRecDepth 100000 in
set_option maxHeartbeats 1600000 in
theorem refBare(o:Opn)(w:World):
  Calls Tryz.prog 112 #[.agg #[.int .i64 o.st,.int .i64 o.sr,.int .i64 o.k,.int .i64 o.pt,.int .i64 o.pr,.int .i64 o.it,.int .i64 o.ir,.int .i64 o.tt,.int .i64 o.tr,.string o.name,.string o.new,.int .i64 o.off,.string o.data]] w fun e w'=>e=.returned (.agg (opA (bareO o)))/\Below w.heap.size w w':=by
 have hcase:(o.k<=2/\(o.k==7)=false/\(o.k==3)=false/\(o.k==8)=false)\/((o.k==3)=true/\(o.k==7)=false/\o.k=3)\/(4<=o.k/\o.k<=6/\(o.k==7)=false/\(o.k==3)=false/\(o.k==8)=false)\/
   ((o.k==7)=true/\(o.k==3)=false/\(o.k==8)=false/\o.k=7)\/((o.k==7)=false/\(o.k==3)=false/\(o.k==8)=true/\o.k=8)\/(9<=o.k/\(o.k==7)=false/\(o.k==3)=false/\(o.k==8)=false):=by
  simp only[beq_iff_eq,beq_eq_false_iff_ne];omega
 rcases hcase with ⟨h1,h2,h3,h4⟩|⟨h1,h2,h3⟩|⟨h1,h2,h3,h4,h5⟩|⟨h1,h2,h3,h4⟩|⟨h1,h2,h3,h4⟩|⟨h1,h2,h3,h4⟩
 ·have HB:Hid (opA (bareO o)= #[.int .i64 o.st,.int .i64 o.sr,.int .i64 o.k,.int .i64 o.pt,.int .i64 o.pr,.int .i64 0,.int .i64 0,.int .i64 0,.int .i64 0,.string o.name,.string ⟨#[]⟩,.int .i64 0,.string ⟨#[]⟩]):=by
   show opA (bareO o)=_;simp[opA,bareO,show o.k<=7 by omega,show¬4<=o.k by omega,show¬o.k=7 by omega,show¬8<=o.k by omega,show¬o.k=3 by omega,show¬o.k=8 by omega]
  go_enter Tryz.func112,Tryz.ntmps112
  go_wp2_with fail
  refine bodyPost_ret ?_ rfl ⟨by rw[HB.out],(((Below.refl _ _).alloc (Nat.le_refl _) _).alloc (by simp) _).alloc (by simp;omega) _⟩;simp[results,Tryz.results112,go_sem]
 ·have HB:Hid (opA (bareO o)= #[.int .i64 o.st,.int .i64 o.sr,.int .i64 o.k,.int .i64 o.pt,.int .i64 o.pr,.int .i64 0,.int .i64 0,.int .i64 0,.int .i64 0,.string o.name,.string ⟨#[]⟩,.int .i64 0,.string o.data]):=by
   show opA (bareO o)=_;simp[opA,bareO,h3]
  have hu:o.k<=3:=by omega
  have hl:3<=o.k:=by omega
  clear h3
  go_enter Tryz.func112,Tryz.ntmps112
  go_wp2_with fail
  refine bodyPost_ret ?_ rfl ⟨by rw[HB.out],(((Below.refl _ _).alloc (Nat.le_refl _) _).alloc (by simp) _).alloc (by simp;omega) _⟩;simp[results,Tryz.results112,go_sem]
 ·have HB:Hid (opA (bareO o)= #[.int .i64 o.st,.int .i64 o.sr,.int .i64 o.k,.int .i64 o.pt,.int .i64 o.pr,.int .i64 o.it,.int .i64 o.ir,.int .i64 0,.int .i64 0,.string o.name,.string ⟨#[]⟩,.int .i64 0,.string ⟨#[]⟩]):=by
   show opA (bareO o)=_;simp[opA,bareO,show o.k<=7 by omega,show 4<=o.k by omega,show¬o.k=7 by omega,show¬8<=o.k by omega,show¬o.k=3 by omega,show¬o.k=8 by omega]
  go_enter Tryz.func112,Tryz.ntmps112
  go_wp2_with fail
  refine bodyPost_ret ?_ rfl ⟨by rw[HB.out],(((Below.refl _ _).alloc (Nat.le_refl _) _).alloc (by simp) _).alloc (by simp;omega) _⟩;simp[results,Tryz.results112,go_sem]
 ·have HB:Hid (opA (bareO o)= #[.int .i64 o.st,.int .i64 o.sr,.int .i64 o.k,.int .i64 o.pt,.int .i64 o.pr,.int .i64 o.it,.int .i64 o.ir,.int .i64 o.tt,.int .i64 o.tr,.string o.name,.string o.new,.int .i64 0,.string ⟨#[]⟩]):=by
   show opA (bareO o)=_;simp[opA,bareO,h4]
  have hu:o.k<=7:=by omega
  have hl:7<=o.k:=by omega
  clear h4
  go_enter Tryz.func112,Tryz.ntmps112
  go_wp2_with fail
  refine bodyPost_ret ?_ rfl ⟨by rw[HB.out],(((Below.refl _ _).alloc (Nat.le_refl _) _).alloc (by simp) _).alloc (by simp;omega) _⟩;simp[results,Tryz.results112,go_sem]
 ·have HB:Hid (opA (bareO o)= #[.int .i64 o.st,.int .i64 o.sr,.int .i64 o.k,.int .i64 0,.int .i64 0,.int .i64 o.it,.int .i64 o.ir,.int .i64 0,.int .i64 0,.string ⟨#[]⟩,.string ⟨#[]⟩,.int .i64 o.off,.string o.data]):=by
   show opA (bareO o)=_;simp[opA,bareO,h4]
  have hu:o.k<=8:=by omega
  have hl:8<=o.k:=by omega
  clear h4
  go_enter Tryz.func112,Tryz.ntmps112
  go_wp2_with fail
  refine bodyPost_ret ?_ rfl ⟨by rw[HB.out],(((Below.refl _ _).alloc (Nat.le_refl _) _).alloc (by simp) _).alloc (by simp;omega) _⟩;simp[results,Tryz.results112,go_sem]
 ·have HB:Hid (opA (bareO o)= #[.int .i64 o.st,.int .i64 o.sr,.int .i64 o.k,.int .i64 0,.int .i64 0,.int .i64 o.it,.int .i64 o.ir,.int .i64 0,.int .i64 0,.string ⟨#[]⟩,.string ⟨#[]⟩,.int .i64 o.off,.string ⟨#[]⟩]):=by
   show opA (bareO o)=_;simp[opA,bareO,show¬o.k<=7 by omega,show 4<=o.k by omega,show¬o.k=7 by omega,show 8<=o.k by omega,show¬o.k=3 by omega,show¬o.k=8 by omega]
  go_enter Tryz.func112,Tryz.ntmps112
  go_wp2_with fail
  refine bodyPost_ret ?_ rfl ⟨by rw[HB.out],(((Below.refl _ _).alloc (Nat.le_refl _) _).alloc (by simp) _).alloc (by simp;omega) _⟩;simp[results,Tryz.results112,go_sem]
set_option maxRecDepth 100000 in
set_option maxHeartbeats 800000 in
theorem refHas(s:ByteArray)(c:UInt8)(hs:s.size<=9223372036854775807)(w:World):
  Calls Tryz.prog 114 #[.string s,.int .u8 (c.toNat:Int)] w fun e w'=>e=.returned (.bool (hasB s c))/\w=w':=by
 go_enter Tryz.func114,Tryz.ntmps114
 go_wp2_with fail
 go_loop [5] (fun i=>∃k:Nat,i=.int .i64 (k:Int)/\k<=s.size/\Hid ((s.data.toList.take k).any (· ==c)=false)) (fun i=>s.size-(intOf i).toNat)
 case atStart=>exact⟨0,rfl,by omega,rfl⟩
 case round=>
  obtain⟨k,rfl,hk,hno⟩:=hrel;by_cases hlt:k<s.size
  ·have hN:=any_next s c k hlt;rw[hno.out,Bool.false_or] at hN;by_cases hc:s[k]=c
   ·have hd:((s[k].toNat:Int)==(c.toNat:Int))=true:=by rw[hc];exact beq_self_eq_true _
    have HY:=Lib.hid (any_some s c k hlt hc);clear hN hc
    go_wp2_with fail
    go_ret
    exact⟨by rw[HY.out];rfl,rfl⟩
   ·have hd:((s[k].toNat:Int)==(c.toNat:Int))=false:=by
     rw[beq_eq_false_iff_ne];intro e;exact hc (UInt8.toNat_inj.1 (by omega))
    rw[beq_eq_false_iff_ne.2 hc] at hN;have HN:=Lib.hid hN;clear hN hc
    go_wp2_with fail
    exact⟨⟨k+1,by go_num,by omega,HN⟩,by simp[intOf];omega⟩
  ·have hE:=any_all s c k (by omega);rw[hno.out] at hE;have HE:=Lib.hid hE;clear hE
   go_wp2_with fail
   go_ret
   exact⟨by rw[<-HE.out];rfl,rfl⟩
set_option maxRecDepth 100000 in
set_option maxHeartbeats 800000 in
theorem refName(s:ByteArray)(hs:s.size<=9223372036854775807)(w:World):
  Calls Tryz.prog 113 #[.string s] w fun e w'=>e=.returned (.bool (nameB s))/\w=w':=by
 obtain⟨b1,h1⟩:∃b,b=(s.toList== [46]):=⟨_,rfl⟩;obtain⟨b2,h2⟩:∃b,b=(s.toList== [46,46]):=⟨_,rfl⟩;obtain⟨b3,h3⟩:∃b,b=hasB s 47:=⟨_,rfl⟩;obtain⟨b4,h4⟩:∃b,b=hasB s 0:=⟨_,rfl⟩;have H3:s.size<=8->Hid (∀W:World,Calls Tryz.prog 114 #[.string s,.int .u8 47] W fun e w'=>e=.returned (.bool b3)/\W=w'):=fun h8 W=>by rw[h3];exact refHas s 47 (by omega) W
 have H4:s.size<=8->Hid (∀W:World,Calls Tryz.prog 114 #[.string s,.int .u8 0] W fun e w'=>e=.returned (.bool b4)/\W=w'):=fun h8 W=>by rw[h4];exact refHas s 0 (by omega) W
 have hN:nameB s=(decide (1<=s.size)&&decide (s.size<=8)&& !b1&& !b2&& !b3&& !b4):=by rw[h1,h2,h3,h4];rfl
 have HN:=Lib.hid hN;have q1:=h1.symm;have q2:=h2.symm;clear hN h1 h2 h3 h4;by_cases hA:1<=s.size
 ·by_cases hB:s.size<=8
  ·have H3:=H3 hB;have H4:=H4 hB
   cases b1
   ·cases b2
    ·cases b3
     ·go_enter Tryz.func113,Tryz.ntmps113
      go_wp2_with fail
      refine(H3.out _).mono ?_;rintro e w' ⟨rfl,rfl⟩
      go_wp2_with fail
      refine(H4.out _).mono ?_;rintro e w' ⟨rfl,rfl⟩
      go_wp2_with fail
      go_ret
      exact⟨by rw[HN.out];simp[hA,hB],rfl⟩
     ·go_enter Tryz.func113,Tryz.ntmps113
      go_wp2_with fail
      refine(H3.out _).mono ?_;rintro e w' ⟨rfl,rfl⟩
      go_wp2_with fail
      go_ret
      exact⟨by rw[HN.out];simp[hA,hB],rfl⟩
    ·go_enter Tryz.func113,Tryz.ntmps113
     go_wp2_with fail
     go_ret
     exact⟨by rw[HN.out];simp[hA,hB],rfl⟩
   ·go_enter Tryz.func113,Tryz.ntmps113
    go_wp2_with fail
    go_ret
    exact⟨by rw[HN.out];simp[hA,hB],rfl⟩
  ·have hd:decide ((s.size:Int)<=8)=false:=by simp;omega
   clear H3 H4
   go_enter Tryz.func113,Tryz.ntmps113
   go_wp2_with fail
   go_ret
   exact⟨by rw[HN.out];simp[hB],rfl⟩
 ·have hd:decide (1<=(s.size:Int))=false:=by simp;omega
  clear H3 H4
  go_enter Tryz.func113,Tryz.ntmps113
  go_wp2_with fail
  go_ret
  exact⟨by rw[HN.out];simp[hA],rfl⟩
end Go.Proofs.YtnnnkaobhkeocaaGreatDoor
namespace Go.Proofs.YtnnnkaobhkeocaaGreatDoor
open Go.RowKit StampMath
set_option maxHeartbeats 400000 in
theorem refMay(t r:Int)(w:World):
  Calls Tryz.prog 41 #[.agg #[.int .i64 t,.int .i64 r]] w fun e w'=>e=.returned (.bool (mayB t r))/\Below w.heap.size w w':=by
 have hcase:((t==0)=true/\mayB t r=(r==0))\/((t==0)=false/\decide (1<=t)=false/\mayB t r=false)\/((t==0)=false/\1<=t/\decide (t<=1073741824)=false/\mayB t r=false)\/
   ((t==0)=false/\1<=t/\t<=1073741824/\decide (0<=r)=false/\mayB t r=false)\/((t==0)=false/\1<=t/\t<=1073741824/\0<=r/\mayB t r=decide (r<=7)):=by
  unfold mayB;by_cases h0:t=0
  ·exact Or.inl ⟨by simp[h0],by rw[if_pos h0]⟩
  ·rw[if_neg h0];by_cases h1:1<=t
   ·by_cases h2:t<=1073741824
    ·by_cases h3:0<=r
     ·exact Or.inr (Or.inr (Or.inr (Or.inr ⟨by simp[h0],h1,h2,h3,by simp[h1,h2,h3]⟩)))
     ·exact Or.inr (Or.inr (Or.inr (Or.inl ⟨by simp[h0],h1,h2,by simp;omega,by simp[h3]⟩)))
    ·exact Or.inr (Or.inr (Or.inl ⟨by simp[h0],h1,by simp;omega,by simp[h2]⟩))
   ·exact Or.inr (Or.inl ⟨by simp[h0],by simp;omega,by simp[h1]⟩)
 rcases hcase with ⟨h0,h⟩|⟨h0,h1,h⟩|⟨h0,h1,h2,h⟩|⟨h0,h1,h2,h3,h⟩|⟨h0,h1,h2,h3,h⟩
 all_goals
  have H:=Lib.hid h;clear h
  go_enter Tryz.func41,Tryz.ntmps41
  go_wp2_with fail
  go_ret
  exact⟨by rw[H.out];rfl,(Below.refl _ _).alloc (Nat.le_refl _) _⟩
end Go.Proofs.YtnnnkaobhkeocaaGreatDoor
