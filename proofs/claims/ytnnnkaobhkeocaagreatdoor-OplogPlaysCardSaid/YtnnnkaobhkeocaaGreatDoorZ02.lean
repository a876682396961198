/-
 The walk of the document's own Look (graphs).
-/
import Derived.Test.YtnnnkaobhkeocaaGreatDoorZ01
import Derived.Test.YtnnnkaobhkeocaaGreatDoorZ00
import Derived.Sort.Statements
import Derived.Shelf.SlSortCmp.Insertion
import Derived.Test.YtnnnkaobhkeocaaGreatDoorRows
import Derived.ProofKit
import Derived.Deep.LoopGhost
import Derived.Deep.RegionLaw
import Derived.Deep.Cut
import Derived.Deep.DeepCutAuto
import Derived.Lib.Walk
import Derived.Shelf.RegionOpenPlain
import Derived.Lib.SliceRun
import Derived.Lib.SlicesDelete
import Derived.Shelf.SlSortCmp.KitK
import Derived.Sort.LotA
import Derived.Sort.WalkB2
import Derived.Sort.WalkB12
namespace Go.Proofs.YtnnnkaobhkeocaaGreatDoor
open Go.RowKit StampMath GraphMath
def isAt(d:St)(nm:ByteArray)(e:Ent):Bool:=decide (e.dir=d)&&decide (e.name=nm)
theorem names_same(a b:ByteArray):(a.toList==b.toList)=decide (a=b):=by
 by_cases h:a=b
 ·subst h;simp
 ·rw[decide_eq_false h,beq_eq_false_iff_ne];exact fun e=>h (bytes_same e)
set_option maxRecDepth 100000 in
set_option maxHeartbeats 1600000 in
theorem refLook(v:Value)(A:Option Addr)(n c:Nat)(E:List Ent)(at':St)(nm:ByteArray)(hn:n<=1000)(w:World)(h:EntsIn w w.heap.size A n E):
  Calls Tryz.prog 102 #[.agg #[v,.slice A n c],.agg (stA at'),.string nm] w fun e w'=>e=.returned (.tuple #[.agg (stA ((lookE E at' nm).getD (0,0))),.bool (lookE E at' nm).isSome])/\Below w.heap.size w w':=by
 have hl:=h.len;have HI:Hid (EntsIn w w.heap.size A n E):=h;clear h;have hb0:Held w [(w.heap.size+1+1,.cells #[.int .i64 0,.int .i64 0] 24),(w.heap.size+1,.cells (stA at') 24),(w.heap.size,.cells #[v,.slice A n c] 31)]
  (((w.alloc (.cells #[v,.slice A n c] 31)).alloc (.cells #[.int .i64 at'.1,.int .i64 at'.2] 24)).alloc (.cells #[.int .i64 0,.int .i64 0] 24)):=
  (((Held.refl w).alloc (.cells #[v,.slice A n c] 31) rfl).alloc (.cells (stA at') 24) (by simp)).alloc (.cells #[.int .i64 0,.int .i64 0] 24) (by simp)
 unfold stA
 go_enter Tryz.func102,Tryz.ntmps102
 go_wp2_with fail
 go_loopg [8] (n+1) (fun gk i wr=>∃k:Nat,i=.int .i64 (k:Int)/\gk+k=n+1/\k<=n/\Hid ((E.take k).find? (isAt at' nm)=none)/\Held w [(w.heap.size+1+1,.cells #[.int .i64 0,.int .i64 0] 24),(w.heap.size+1,.cells (stA at') 24),(w.heap.size,.cells #[v,.slice A n c] 31)] wr)
 case atStart=>exact⟨0,rfl,by omega,by omega,rfl,hb0⟩
 case round=>
  obtain⟨k,rfl,hgk,hk,hnone,hH⟩:=hrel;clear hb0;have hc1:=(two_cells (g:=w.heap.size) (hH.at 2 rfl)).2;obtain⟨c3,c4⟩:=two_cells (g:=w.heap.size+1) (hH.at 1 rfl);obtain⟨m0,m1⟩:=two_cells (g:=w.heap.size+1+1) (hH.at 0 rfl);obtain⟨f0,f1⟩:=two_free (g:=w.heap.size+1+1) (hH.at 0 rfl);by_cases hlt:k<n
  ·obtain⟨gi,o,rfl,hg,hrow⟩:=HI.out.row (by omega);have hp:=find_none_take (p:=isAt at' nm) (k:=k) (by omega) hnone.out;have hrk:=(hrow k (by omega)).below hH.below hg;obtain⟨⟨di,en,ei⟩,hx⟩:∃x,E[k]=x:=⟨_,rfl⟩;rw[hx] at hrk hp;clear hrow hx hnone;obtain⟨e0,e1,e2,e3,e4⟩:=hrk;have hs:=names_same en nm;by_cases hq:di=at'
   ·have hv:=eqSt_yes hq;subst hq;by_cases hq2:en=nm
    ·subst hq2;rw[decide_eq_true rfl] at hs;have HG:Hid (lookE E di en=some ei):=by
      rw[if_pos (by unfold isAt;simp)] at hp;show(E.find? (isAt di en)).map _=_;rw[find_take hp]
      rfl
     clear hp
     go_wp2_with fail
     go_quiet (fail)
     go_wp2_with fail
     exact bodyPost_ret (v:=.tuple #[.agg (stA ei),.bool true]) (by simp[results,Tryz.results102,go_sem,stA,m0,m1]) rfl ⟨by rw[HG.out];rfl,((below_drewN' hH.below _).setCell (by dsimp only;omega) _).setCell (by dsimp only;omega) _⟩
    ·rw[decide_eq_false hq2] at hs;have HP:Hid ((E.take (k+1)).find? (isAt di nm)=none):=by
      rw[if_neg (by unfold isAt;simp[hq2])] at hp;exact hp
     clear hp
     go_wp2_with fail
     go_quiet (fail)
     go_wp2_with fail
     go_roundg (gk-1)
     case measure=>omega
     case rel=>exact⟨k+1,by go_num,by omega,by omega,HP.out,hH.drewN _⟩
   ·have hv:=eqSt_no hq;have HP:Hid ((E.take (k+1)).find? (isAt at' nm)=none):=by
     rw[if_neg (by unfold isAt;simp[hq])] at hp;exact hp
    clear hp
    go_wp2_with fail
    go_quiet (fail)
    go_wp2_with fail
    go_roundg (gk-1)
    case measure=>omega
    case rel=>exact⟨k+1,by go_num,by omega,by omega,HP.out,hH.drewN _⟩
  ·have HG:Hid (lookE E at' nm=none):=by
    have h:=hnone.out;rw[List.take_of_length_le (by omega)] at h;show(E.find? (isAt at' nm)).map _=_;rw[h]
    rfl
   go_wp2_with fail
   exact bodyPost_ret (v:=.tuple #[.agg (stA (0,0)),.bool false]) (by simp[results,Tryz.results102,go_sem,stA,m0,m1]) rfl ⟨by rw[HG.out];rfl,((hH.below).setCell (by dsimp only;omega) _).setCell (by dsimp only;omega) _⟩
theorem listE_snoc(E:List Ent)(k:Nat)(h:k<E.length)(d:St):listE (E.take (k+1)) d=if E[k].dir=d then listE (E.take k) d++[E[k]] else listE (E.take k) d:=by
 unfold listE;rw[List.take_succ_eq_append_getElem h,List.filter_append];by_cases e:E[k].dir=d
 ·rw[if_pos e];simp[e]
 ·rw[if_neg e];simp[e]
theorem listE_le(E:List Ent)(d:St):(listE E d).length<=E.length:=List.length_filter_le _ _
set_option maxRecDepth 100000 in
set_option maxHeartbeats 1600000 in
theorem refList(v:Value)(A:Option Addr)(n c:Nat)(E:List Ent)(id:St)(hn:n<=1000)(w:World)(h:EntsIn w w.heap.size A n E):
  Calls Tryz.prog 139 #[.agg #[v,.slice A n c],.agg (stA id)] w (EntsPost (listE E id) w):=by
 obtain⟨i0,hi0,hz0,hz1,hz2⟩:=info_parts ent_infos;have hl:=h.len;have HI:Hid (EntsIn w w.heap.size A n E):=h;clear h;have hb0:Held w [(w.heap.size+1,.cells (stA id) 24),(w.heap.size,.cells #[v,.slice A n c] 31)]
  ((w.alloc (.cells #[v,.slice A n c] 31)).alloc (.cells #[.int .i64 id.1,.int .i64 id.2] 24)):=
  ((Held.refl w).alloc (.cells #[v,.slice A n c] 31) rfl).alloc (.cells (stA id) 24) (by simp)
 unfold stA
 go_enter Tryz.func139,Tryz.ntmps139
 go_wp2_with fail
 go_loopg [5,6] (n+1) (fun gk out i wr=>∃k:Nat,i=.int .i64 (k:Int)/\gk+k=n+1/\k<=n/\wr.ownsRow (w.heap.size+2) 126 5 out (listE (E.take k) id).length (flat ((listE (E.take k) id).map entA))/\Held w [(w.heap.size+1,.cells (stA id) 24),(w.heap.size,.cells #[v,.slice A n c] 31)] wr)
 case atStart=>exact⟨0,rfl,by omega,by omega,World.ownsRow_nil _ _ _ _,hb0⟩
 case round=>
  obtain⟨k,rfl,hgk,hk,hown,hH⟩:=hrel;clear hb0;have hc1:=(two_cells (g:=w.heap.size) (hH.at 1 rfl)).2;obtain⟨c3,c4⟩:=two_cells (g:=w.heap.size+1) (hH.at 0 rfl);by_cases hlt:k<n
  ·obtain⟨gi,o,rfl,hg,hrow⟩:=HI.out.row (by omega);have hsn:=listE_snoc E k (by omega) id;have hle:(listE (E.take k) id).length<=1000:=by have:=listE_le (E.take k) id;rw[List.length_take] at this;omega
   have hrk:=fun W hb=>(hrow k (by omega)).below (B:=w.heap.size) (W':=W) hb hg;obtain⟨x,hx⟩:∃x,E[k]=x:=⟨_,rfl⟩;rw[hx] at hrk hsn;clear hrow hx;obtain⟨e0,e1,e2,e3,e4⟩:=hrk wr hH.below;have HR:=Lib.hid hrk;clear hrk;by_cases hq:x.dir=id
   ·have hv:=eqSt_yes hq;rw[if_pos hq] at hsn;have HS:=Lib.hid hsn;clear hsn
    go_wp2_with fail
    go_quiet (fail)
    have hH2:=hH.drewN nq;have hown2:(wr.drewN nq).ownsRow (w.heap.size+2) 126 5 u5 (listE (E.take k) id).length (flat ((listE (E.take k) id).map entA)):=hown;generalize wr.drewN nq=w2 at hH2 hown2 ⊢;clear hc1 c3 c4 e0 e1 e2 e3 e4 hH hown hv hq;have hc1:=(two_cells (g:=w.heap.size) (hH2.at 1 rfl)).2;obtain⟨e0,e1,e2,e3,e4⟩:=HR.out w2 hH2.below;have hlow:w.heap.size+1<w2.heap.size:=heap_lt (hH2.at 0 rfl);have hm:(listE (E.take k) id).length+1<=maxLen:=by unfold maxLen;omega
    go_wp2_with (at_builtin;refine wpList_append_own _ rfl (.tmp 22) (.tmp 28) 29 rfl (w.heap.size+2) 126 i0 _ 5 48 Tryz.underlying29 hi0 hz0 hz1 hz2 rfl (by decide) _ _ _ rfl (hown2.alloc _) ⟨w2.heap.size,0,none⟩ 1 1 (entA x).toList rfl rfl (row_there w2 _ _) (ent_one x) hm (by omega) (by simp;omega) ?_;intro v2 w3 hown3 hg3 _)
    have hb3:Held w [(w.heap.size+1,.cells (stA id) 24),(w.heap.size,.cells #[v,.slice (some ⟨gi,o,none⟩) n c] 31)] w3:=
     (hH2.step ((Below.refl _ _).alloc (Nat.le_refl _) _)).grown hg3 (fun q hq=>(hown2.lt q hq).1) (by intro p hp;simp at hp;rcases hp with rfl|rfl<;>(dsimp only;omega))
    rw[flat_ent] at hown3
    go_roundg (gk-1)
    case measure=>omega
    case rel=>exact⟨k+1,by go_num,by omega,by omega,by rw[HS.out,List.length_append];exact hown3,hb3⟩
   ·have hv:=eqSt_no hq;rw[if_neg hq] at hsn;have HS:=Lib.hid hsn;clear hsn
    go_wp2_with fail
    go_quiet (fail)
    go_wp2_with fail
    go_roundg (gk-1)
    case measure=>omega
    case rel=>exact⟨k+1,by go_num,by omega,by omega,by rw[HS.out];exact hown,hH.drewN _⟩
  ·obtain⟨B,cc,rfl,q1,q2,q3⟩:=ents_own rfl hown;rw[List.take_of_length_le (by omega)] at q1 q2
   go_wp2_with fail
   go_ret
   rw[List.take_of_length_le (show E.length<=k by omega)];exact⟨B,cc,rfl,q1,q2,q3.1,q3.2,hH.below⟩
theorem ent_ext{a b:Ent}(h1:a.dir.1=b.dir.1)(h2:a.dir.2=b.dir.2)(h3:a.name.toList=b.name.toList)(h4:a.ino.1=b.ino.1)(h5:a.ino.2=b.ino.2):a=b:=by
 obtain⟨⟨_,_⟩,_,⟨_,_⟩⟩:=a;obtain⟨⟨_,_⟩,_,⟨_,_⟩⟩:=b;have e:=bytes_same h3
 simp_all
theorem ino_ext{a b:Ino}(h1:a.id.1=b.id.1)(h2:a.id.2=b.id.2)(h3:a.kind=b.kind)(h4:a.links=b.links)(h5:a.mode=b.mode)(h6:a.data.toList=b.data.toList):a=b:=by
 obtain⟨⟨_,_⟩,_,_,_,_⟩:=a;obtain⟨⟨_,_⟩,_,_,_,_⟩:=b;have e:=bytes_same h6
 simp_all
theorem run_eqEnt(a b:Ent)(W:World):(Op.equalIn 10000 126 (.agg #[.int .i64 a.dir.1,.int .i64 a.dir.2,.string a.name,.int .i64 a.ino.1,.int .i64 a.ino.2]) (.agg #[.int .i64 b.dir.1,.int .i64 b.dir.2,.string b.name,.int .i64 b.ino.1,.int .i64 b.ino.2])).run Tryz.prog W=.ok (decide (a=b)) W:=by
 go_simp
 by_cases e:a=b
 ·subst e;simp
 ·rw[decide_eq_false e];by_cases h1:a.dir.1=b.dir.1
  ·rw[if_pos h1];by_cases h2:a.dir.2=b.dir.2
   ·rw[if_pos h2];by_cases h3:a.name.toList=b.name.toList
    ·rw[if_pos h3];by_cases h4:a.ino.1=b.ino.1
     ·rw[if_pos h4];by_cases h5:a.ino.2=b.ino.2
      ·exact absurd (ent_ext h1 h2 h3 h4 h5) e
      ·simp[h5]
     ·rw[if_neg h4]
    ·rw[if_neg h3]
   ·rw[if_neg h2]
  ·rw[if_neg h1]
theorem run_eqIno(a b:Ino)(W:World):(Op.equalIn 10000 102 (.agg #[.int .i64 a.id.1,.int .i64 a.id.2,.int .i64 a.kind,.int .i64 a.links,.int .i64 a.mode,.string a.data]) (.agg #[.int .i64 b.id.1,.int .i64 b.id.2,.int .i64 b.kind,.int .i64 b.links,.int .i64 b.mode,.string b.data])).run Tryz.prog W=.ok (decide (a=b)) W:=by
 go_simp
 by_cases e:a=b
 ·subst e;simp
 ·rw[decide_eq_false e];by_cases h1:a.id.1=b.id.1
  ·rw[if_pos h1];by_cases h2:a.id.2=b.id.2
   ·rw[if_pos h2];by_cases h3:a.kind=b.kind
    ·rw[if_pos h3];by_cases h4:a.links=b.links
     ·rw[if_pos h4];by_cases h5:a.mode=b.mode
      ·rw[if_pos h5];by_cases h6:a.data.toList=b.data.toList
       ·exact absurd (ino_ext h1 h2 h3 h4 h5 h6) e
       ·simp[h6]
      ·rw[if_neg h5]
     ·rw[if_neg h4]
    ·rw[if_neg h3]
   ·rw[if_neg h2]
  ·rw[if_neg h1]
def Cap(N:Nat->Prop)(A:Option Addr)(n c:Nat):Prop:=n<=c/\c<=maxLen/\(A=none->c=0)/\(0<n->∀p,A=some p->N p.block)
theorem Cap.to{N N':Nat->Prop}{A:Option Addr}{n c:Nat}(h:Cap N A n c)(hN:∀i,N i->N' i:=by intro i hi;first|exact hi|exact Or.inl hi|exact Or.inr (by omega)|(dsimp only at hi;exact Or.inr (by omega))|exact Or.inr (Nat.le_trans (by omega) hi)):Cap N' A n c:=
 ⟨h.1,h.2.1,h.2.2.1,fun hn p hp=>hN _ (h.2.2.2 hn p hp)⟩
def GrAt(N:Nat->Prop)(W:World)(v:Value)(g:Gr):Prop:=
 ∃(A:Option Addr)(n c:Nat)(A':Option Addr)(m d:Nat),v=.agg #[.slice A n c,.slice A' m d]/\InosIn W W.heap.size A n g.I/\Cap N A n c/\EntsIn W W.heap.size A' m g.E/\Cap N A' m d
theorem GrAt.step{N N':Nat->Prop}{W W':World}{v:Value}{g:Gr}(h:GrAt N W v g)(hb:Below W.heap.size W W')(hN:∀i,N i->N' i:=by intro i hi;first|exact hi|exact Or.inl hi):GrAt N' W' v g:=by
 obtain⟨A,n,c,A',m,d,h1,h2,h3,h4,h5⟩:=h;exact⟨A,n,c,A',m,d,h1,(h2.below hb).more hb.size,h3.to hN,(h4.below hb).more hb.size,h5.to hN⟩
theorem TabIn.keep{k:Nat}{W W':World}{B B':Nat}{A:Option Addr}{n:Nat}{rows:List (Array Value)}(h:TabIn k W B A n rows)(hk:0<n->∀p,A=some p->W'.heap[p.block]?=W.heap[p.block]?)(hB:B<=B'):TabIn k W' B' A n rows:=
 ⟨h.1,fun hn=>by
  obtain⟨g,o,e,hg,hc⟩:=h.2 hn
  exact⟨g,o,e,by omega,fun j hj i v hv=>(World.cell?_of_block (a:=⟨g,o+j*k+i,none⟩) (hk hn ⟨g,o,none⟩ e)).trans (hc j hj i v hv)⟩⟩
theorem GrAt.keep{N N':Nat->Prop}{W W':World}{v:Value}{g:Gr}(h:GrAt N W v g)(hk:∀i,N i->W'.heap[i]?=W.heap[i]?)(hs:W.heap.size<=W'.heap.size)(hN:∀i,N i->N' i:=by intro i hi;first|exact hi|exact Or.inl hi):GrAt N' W' v g:=by
 obtain⟨A,n,c,A',m,d,h1,h2,h3,h4,h5⟩:=h;exact⟨A,n,c,A',m,d,h1,TabIn.keep h2 (fun hn p hp=>hk _ (h3.2.2.2 hn p hp)) hs,h3.to hN,TabIn.keep h4 (fun hn p hp=>hk _ (h5.2.2.2 hn p hp)) hs,h5.to hN⟩
theorem GrAt.form{N:Nat->Prop}{W:World}{v:Value}{g:Gr}(h:GrAt N W v g):∃(A:Option Addr)(n c:Nat)(A':Option Addr)(m d:Nat),v=.agg #[.slice A n c,.slice A' m d]:=by
 obtain⟨A,n,c,A',m,d,h1,_⟩:=h;exact⟨A,n,c,A',m,d,h1⟩
theorem GrAt.live{N:Nat->Prop}{W:World}{v:Value}{g:Gr}(h:GrAt N W v g):GrAt (fun i=>N i/\i<W.heap.size) W v g:=by
 obtain⟨A,n,c,A',m,d,h1,h2,h3,h4,h5⟩:=h;have lt:∀ {k n:Nat}{A:Option Addr}{rows:List (Array Value)},TabIn k W W.heap.size A n rows->0<n->∀p,A=some p->p.block<W.heap.size:=fun h hn p hp=>by
  obtain⟨g,o,e,hg,_⟩:=h.2 hn;rw[e] at hp
  injection hp with hp
  rw[<-hp];exact hg
 exact⟨A,n,c,A',m,d,h1,h2,⟨h3.1,h3.2.1,h3.2.2.1,fun hn p hp=>⟨h3.2.2.2 hn p hp,lt h2 hn p hp⟩⟩,h4,⟨h5.1,h5.2.1,h5.2.2.1,fun hn p hp=>⟨h5.2.2.2 hn p hp,lt h4 hn p hp⟩⟩⟩
def MoreN(N:Nat->Prop)(w:World):Nat->Prop:=fun i=>N i\/w.heap.size<=i
def GrPost(N:Nat->Prop)(r:Gr×Int)(w:World)(e:Ending)(w':World):Prop:=
 ∃v,e=.returned (.tuple #[v,.int .i64 r.2])/\GrAt (MoreN N w) w' v r.1/\Below w.heap.size w w'
end Go.Proofs.YtnnnkaobhkeocaaGreatDoor
namespace Go.Proofs.YtnnnkaobhkeocaaGreatDoor.GraphMath
open StampMath
instance entThere:Inhabited Ent:=⟨⟨(0,0),⟨#[]⟩,(0,0)⟩⟩
instance inoThere:Inhabited Ino:=⟨noIno⟩
theorem sorted_only{α:Type}{r:α->α->Bool}(irr:∀x,r x x=false)(tr:∀x y z,r x y=true->r y z=true->r x z=true){l E:List α}(hE:E.Pairwise fun a b=>r a b=true)(hp:l.Perm E)(hs:l.Pairwise fun x y=>r y x=false):l=E:=by
 have asym:∀x y,r x y=true->r y x=false:=fun x y h=>by
  cases hq:r y x with
  |false=>rfl
  |true=>have:=tr x y x h hq;rw[irr] at this;cases this
 refine List.Perm.eq_of_pairwise (le:=fun x y=>r y x=false) (fun a b ha hb h1 h2=>?_) hs (hE.imp fun h=>asym _ _ h) hp;have all:∀x∈E,∀y∈E,x=y\/r x y=true\/r y x=true:=by
  intro x hx y hy;obtain⟨i,hi,rfl⟩:=List.getElem_of_mem hx;obtain⟨j,hj,rfl⟩:=List.getElem_of_mem hy;have q:=List.pairwise_iff_getElem.1 hE;rcases Nat.lt_trichotomy i j with h|h|h
  ·exact Or.inr (Or.inl (q i j hi hj h))
  ·subst h;exact Or.inl rfl
  ·exact Or.inr (Or.inr (q j i hj hi h))
 rcases all a (hp.mem_iff.1 ha) b hb with h|h|h
 ·exact h
 ·rw[h] at h2;cases h2
 ·rw[h] at h1;cases h1
theorem bytesLess_eq:∀(x y:List UInt8),Op.bytesLess x y=decide (x<y)
 | [],[]=>by simp[Op.bytesLess]
 |_::_,[]=>by simp[Op.bytesLess]
 | [],_::_=>by simp[Op.bytesLess]
 |a::x,b::y=>by
  rw[Op.bytesLess,bytesLess_eq x y];simp only[List.cons_lt_cons_iff];by_cases h1:a<b<;>by_cases h2:a=b<;>by_cases h3:x<y<;>simp[h1,h2,h3]
theorem namesLess_eq(a b:ByteArray):Op.bytesLess a.toList b.toList=decide (a.data.toList<b.data.toList):=by
 rw[bytesLess_eq,ByteArray.toList_eq,ByteArray.toList_eq]
def cmpB(a b:List UInt8):Int:=if a<b then-1 else if a=b then 0 else 1
theorem cmpB_lt(a b:List UInt8):cmpB a b<0↔a<b:=by
 unfold cmpB;by_cases h:a<b
 ·simp[h]
 ·rw[if_neg h];by_cases h2:a=b<;>simp[h,h2]
def aheadI(x y:Ent):Int:=if cmp x.dir.1 x.dir.2 y.dir.1 y.dir.2=0 then cmpB x.name.data.toList y.name.data.toList else cmp x.dir.1 x.dir.2 y.dir.1 y.dir.2
theorem cmp_lt(a b:St):cmp a.1 a.2 b.1 b.2<0↔lessS a b=true:=by
 show(if lessS a b=true then(-1:Int) else if lessS b a=true then 1 else 0)<0↔_;by_cases h:lessS a b=true
 ·simp[h]
 ·rw[if_neg h];by_cases h2:lessS b a=true<;>simp[h,h2]
theorem cmp_zero(a b:St):cmp a.1 a.2 b.1 b.2=0↔a=b:=by
 show(if lessS a b=true then(-1:Int) else if lessS b a=true then 1 else 0)=0↔_
 constructor
 ·intro h;by_cases h1:lessS a b=true
  ·rw[if_pos h1] at h;omega
  ·rw[if_neg h1] at h;by_cases h2:lessS b a=true
   ·rw[if_pos h2] at h;omega
   ·by_cases he:a=b
    ·exact he
    ·exact absurd (lessS_total (Bool.eq_false_iff.2 h1) he) h2
 ·rintro rfl;rw[if_neg (by rw[lessS_irrefl];simp),if_neg (by rw[lessS_irrefl];simp)]
theorem aheadI_lt(x y:Ent):ltOf aheadI x y=aheadE x y:=by
 unfold ltOf aheadI;rw[Bool.eq_iff_iff,decide_eq_true_iff,aheadE_iff];by_cases h:x.dir=y.dir
 ·rw[if_pos ((cmp_zero _ _).2 h),cmpB_lt,h,lessS_irrefl];simp
 ·rw[if_neg (fun q=>h ((cmp_zero _ _).1 q)),cmp_lt];simp[h]
theorem aheadE_irrefl(x:Ent):aheadE x x=false:=by
 rw[Bool.eq_false_iff];intro h;rcases(aheadE_iff x x).1 h with q|⟨_,q⟩
 ·rw[lessS_irrefl] at q;cases q
 ·exact bytes_irrefl _ q
theorem aheadE_ntrans{x y z:Ent}(h1:aheadE x y=false)(h2:aheadE y z=false):aheadE x z=false:=by
 rw[Bool.eq_false_iff];intro h;by_cases he:x.dir=y.dir/\x.name=y.name
 ·rw[aheadE_iff,he.1,he.2,<-aheadE_iff,h2] at h
  cases h
 ·have:=aheadE_trans (aheadE_total h1 he) h;rw[h2] at this
  cases this
theorem swo_ents:Sort.SWO (ltOf aheadI) where
 irrefl x:=by rw[aheadI_lt];exact aheadE_irrefl x
 trans x y z h1 h2:=by rw[aheadI_lt] at*;exact aheadE_trans h1 h2
 ntrans x y z h1 h2:=by rw[aheadI_lt] at*;exact aheadE_ntrans h1 h2
def inoI(x y:Ino):Int:=cmp x.id.1 x.id.2 y.id.1 y.id.2
theorem inoI_lt(x y:Ino):ltOf inoI x y=lessS x.id y.id:=by
 unfold ltOf inoI;rw[Bool.eq_iff_iff,decide_eq_true_iff,cmp_lt]
theorem swo_inos:Sort.SWO (ltOf inoI) where
 irrefl x:=by rw[inoI_lt];exact lessS_irrefl _
 trans x y z h1 h2:=by rw[inoI_lt] at*;exact lessS_trans h1 h2
 ntrans x y z h1 h2:=by
  rw[inoI_lt] at*
  rw[Bool.eq_false_iff];intro h;by_cases he:x.id=y.id
  ·rw[he,h2] at h;cases h
  ·have:=lessS_trans (lessS_total h1 he) h;rw[h2] at this;cases this
theorem sorted_ents{l E:List Ent}(hE:E.Pairwise fun a b=>aheadE a b=true)(hp:l.Perm E)(hs:l.Pairwise fun x y=>ltOf aheadI y x=false):l=E:=
 sorted_only aheadE_irrefl (fun _ _ _=>aheadE_trans) hE hp (hs.imp fun h=>by rwa[aheadI_lt] at h)
theorem sorted_inos{l I:List Ino}(hI:I.Pairwise fun a b=>lessS a.id b.id=true)(hp:l.Perm I)(hs:l.Pairwise fun x y=>ltOf inoI y x=false):l=I:=
 sorted_only (r:=fun a b=>lessS a.id b.id) (fun _=>lessS_irrefl _) (fun _ _ _=>lessS_trans) hI hp (hs.imp fun h=>by rwa[inoI_lt] at h)
end Go.Proofs.YtnnnkaobhkeocaaGreatDoor.GraphMath
namespace Go.Proofs.YtnnnkaobhkeocaaGreatDoor.GraphMath
open StampMath OpMath ExtentMath
structure Rec where
 lost:List Ent
 made:List Ent
 was:List Ino
 new:List St
 err:Int
def lostG(a b:Gr):List Ent:=a.E.filter fun e=>!decide (e∈b.E)
def otherI(b:Gr)(x:Ino):Bool:=match getG b x.id with
 |none=>true
 |some y=>!(decide (y.kind=x.kind)&&decide (y.mode=x.mode)&&decide (y.data=x.data))
def wasG(a b:Gr):List Ino:=(inodesG a).filter (otherI b)
def newN(a b:Gr):List St:=(b.I.map (·.id)).filter fun s=>!(getG a s).isSome
def diffG(a b:Gr)(e:Int):Rec:=⟨lostG a b,lostG b a,wasG a b,newN a b,e⟩
def doR(g:Gr)(o:Opn):Rec:=diffG g (doA g o).1 (doA g o).2
theorem mem_lost{a b:Gr}{e:Ent}:e∈lostG a b↔e∈a.E/\e∉b.E:=by
 unfold lostG;rw[List.mem_filter,Bool.not_eq_true',decide_eq_false_iff_not]
theorem other_same{g':Gr}(h':g'.ok){x y:Ino}(hy:y∈g'.I)(hi:y.id=x.id)(hk:y.kind=x.kind)(hm:y.mode=x.mode)(hd:y.data=x.data):otherI g' x=false:=by
 unfold otherI;rw[<-hi,h'.get hy];simp[hk,hm,hd]
theorem nodup_sorted{α:Type}{r:α->α->Bool}(irr:∀x,r x x=false){l:List α}(h:l.Pairwise fun a b=>r a b=true):l.Nodup:=
 h.imp fun{a b} hab e=>by rw[e,irr] at hab;cases hab
theorem Gr.ok.nodupE{g:Gr}(h:g.ok):g.E.Nodup:=nodup_sorted aheadE_self h.sortE
theorem Gr.ok.nodupId{g:Gr}(h:g.ok):(g.I.map (·.id)).Nodup:=by
 refine List.pairwise_map.2 (h.sortI.imp fun{a b} hab e=>?_);have e1:a.id=b.id:=e;rw[e1,lessS_irrefl] at hab
 cases hab
theorem lost_nodup{a:Gr}(h:a.ok)(b:Gr):(lostG a b).Nodup:=h.nodupE.filter _
end Go.Proofs.YtnnnkaobhkeocaaGreatDoor.GraphMath
namespace Go.Proofs.YtnnnkaobhkeocaaGreatDoor.GraphMath
open StampMath OpMath ExtentMath
def recL:Gr->List Opn->List Rec
 |_,[]=>[]
 |g,o::l=>doR g o::recL (doA g o).1 l
theorem recL_len:∀(l:List Opn)(g:Gr),(recL g l).length=l.length
 | [],_=>rfl
 |o::l,g=>by rw[recL,List.length_cons,List.length_cons,recL_len l]
theorem recL_append:∀(l k:List Opn)(g:Gr),recL g (l++k)=recL g l++recL (runG g l) k
 | [],_,_=>rfl
 |o::l,k,g=>by
  show doR g o::recL (doA g o).1 (l++k)=_;rw[recL_append l k]
  rfl
theorem recL_snoc(l:List Opn)(o:Opn)(g:Gr):recL g (l++[o])=recL g l++[doR (runG g l) o]:=recL_append l [o] g
theorem recL_take(l:List Opn)(n:Nat)(g:Gr):(recL g l).take n=recL g (l.take n):=by
 have h:recL g l=recL g (l.take n)++recL (runG g (l.take n)) (l.drop n):=by rw[<-recL_append,List.take_append_drop]
 by_cases hn:n<=l.length
 ·rw[h];have e:(recL g (l.take n)).length=n:=by rw[recL_len,List.length_take];omega
  exact List.take_left' e
 ·rw[List.take_of_length_le (l:=l) (by omega),List.take_of_length_le (by rw[recL_len];omega)]
theorem recL_drop(l:List Opn)(n:Nat)(g:Gr):(recL g l).drop n=recL (runG g (l.take n)) (l.drop n):=by
 have h:recL g l=recL g (l.take n)++recL (runG g (l.take n)) (l.drop n):=by rw[<-recL_append,List.take_append_drop]
 by_cases hn:n<=l.length
 ·have e:(recL g (l.take n)).length=n:=by rw[recL_len,List.length_take];omega
  rw[h];exact List.drop_left' e
 ·rw[List.drop_of_length_le (l:=l) (by omega),List.drop_of_length_le (by rw[recL_len];omega)]
  rfl
theorem recL_at(l:List Opn)(k:Nat)(h:k<l.length)(g:Gr):(recL g l)[k]?=some (doR (runG g (l.take k)) l[k]):=by
 have e:l=l.take k++l[k]::l.drop (k+1):=by rw[<-List.drop_eq_getElem_cons h,List.take_append_drop]
 have e2:recL g l=recL g (l.take k)++doR (runG g (l.take k)) l[k]::recL (doA (runG g (l.take k)) l[k]).1 (l.drop (k+1)):=by
  conv=>lhs;rw[e]
  rw[recL_append]
  rfl
 have e3:(recL g (l.take k)).length=k:=by rw[recL_len,List.length_take];omega
 rw[e2,List.getElem?_append_right (by omega),e3,Nat.sub_self]
 rfl
theorem above_mem{x:List Opn}(h:Rises x){s:St}(a:Opn):a∈x.drop (belowO x s)↔a∈x/\lessS s (oSt a)=true:=by
 refine⟨fun ha=>⟨List.drop_subset _ _ ha,below_drop h a ha⟩,fun⟨ha,hs⟩=>?_⟩;rw[<-List.take_append_drop (belowO x s) x] at ha;rcases List.mem_append.1 ha with q|q
 ·rw[below_cut.1 a q] at hs;cases hs
 ·exact q
theorem adds_cut(B:Gr)(fl:St):∀(k l:List Opn),addsL ⟨B,fl,(sortO l).drop (belowO (sortO l) fl)⟩ k=⟨B,fl,(sortO (l++k)).drop (belowO (sortO (l++k)) fl)⟩
 | [],l=>by rw[List.append_nil];rfl
 |o::k,l=>by
  have h:(addL ⟨B,fl,(sortO l).drop (belowO (sortO l) fl)⟩ o).1=⟨B,fl,(sortO (l++[o])).drop (belowO (sortO (l++[o])) fl)⟩:=by
   have hr:=sort_rises l;have hr2:=sort_rises (l++[o]);have hm:∀a,a∈sortO (l++[o])↔a∈sortO l\/(a=o/\mayO o=true/\hasO (sortO l) (oSt o)=false):=fun a=>by rw[sort_snoc];exact put_mem
   unfold addL
   split
   ·rename_i hl
    have hl:lessS fl (oSt o)=true:=hl;have e:(putO ((sortO l).drop (belowO (sortO l) fl)) o).1=(sortO (l++[o])).drop (belowO (sortO (l++[o])) fl):=by
     refine rises_same (put_rises hr.drop o) hr2.drop fun a=>?_;rw[put_mem,above_mem hr,above_mem hr2,hm];have hh:hasO ((sortO l).drop (belowO (sortO l) fl)) (oSt o)=hasO (sortO l) (oSt o):=by
      rw[Bool.eq_iff_iff,hasO_iff,hasO_iff]
      constructor
      ·rintro⟨b,hb,e⟩;exact⟨b,List.drop_subset _ _ hb,e⟩
      ·rintro⟨b,hb,e⟩;exact⟨b,(above_mem hr b).2 ⟨hb,by rw[e];exact hl⟩,e⟩
     rw[hh]
     constructor
     ·rintro(⟨h1,h2⟩|⟨rfl,h2⟩)
      ·exact⟨.inl h1,h2⟩
      ·exact⟨.inr ⟨rfl,h2⟩,hl⟩
     ·rintro⟨h1|h1,h2⟩
      ·exact .inl ⟨h1,h2⟩
      ·exact .inr h1
    show(⟨B,fl,_⟩:Lg)=_;rw[e]
   ·rename_i hl
    have hl:¬lessS fl (oSt o)=true:=hl;have e:(sortO l).drop (belowO (sortO l) fl)=(sortO (l++[o])).drop (belowO (sortO (l++[o])) fl):=by
     refine rises_same hr.drop hr2.drop fun a=>?_;rw[above_mem hr,above_mem hr2,hm]
     constructor
     ·rintro⟨h1,h2⟩;exact⟨.inl h1,h2⟩
     ·rintro⟨h1|⟨rfl,_⟩,h2⟩
      ·exact⟨h1,h2⟩
      ·exact absurd h2 hl
    rw[<-e]
  show addsL (addL _ o).1 k=_;rw[h,adds_cut B fl k (l++[o]),List.append_assoc]
  rfl
theorem from_cut(B:Gr)(fl:St)(l:List Opn):fromL B fl l=⟨B,fl,(sortO l).drop (belowO (sortO l) fl)⟩:=adds_cut B fl l []
def Six(B:Nat)(K:Nat->Nat->Prop):Prop:=(∀j i,K j i->i<B)/\∀j k,j≠k->∀i,K j i->¬K k i
theorem Six.new{B:Nat}{K:Nat->Nat->Prop}(h:Six B K){i:Nat}(hi:B<=i):∀j,¬K j i:=fun j q=>by have:=h.1 j i q;omega
theorem Six.turn{B B':Nat}{K K':Nat->Nat->Prop}(h:Six B K)(t:Nat)(hB:B<=B')(hK:∀j,j≠t->K' j=K j)(ht:∀i,K' t i->(K t i\/∀j,j≠t->¬K j i)/\i<B'):Six B' K':=by
 refine⟨fun j i hi=>?_,fun j k hjk i hi hk=>?_⟩
 ·by_cases q:j=t
  ·subst q;exact(ht i hi).2
  ·rw[hK j q] at hi;exact Nat.lt_of_lt_of_le (h.1 j i hi) hB
 ·by_cases q:j=t
  ·subst q;have hkj:k≠j:=fun e=>hjk e.symm;rw[hK k hkj] at hk;rcases(ht i hi).1 with q|q
   ·exact h.2 j k hjk i q hk
   ·exact q k hkj hk
  ·rw[hK j q] at hi;by_cases r:k=t
   ·subst r;rcases(ht i hk).1 with u|u
    ·exact h.2 j k hjk i hi u
    ·exact u j q hi
   ·rw[hK k r] at hk;exact h.2 j k hjk i hi hk
theorem Six.more{B B':Nat}{K:Nat->Nat->Prop}(h:Six B K)(hB:B<=B'):Six B' K:=⟨fun j i hi=>Nat.lt_of_lt_of_le (h.1 j i hi) hB,h.2⟩
end Go.Proofs.YtnnnkaobhkeocaaGreatDoor.GraphMath
namespace Go.Proofs.YtnnnkaobhkeocaaGreatDoor
open Go.RowKit
theorem heap_setCells(b:Nat)(e:TypeId):∀(vs:List Value)(o:Nat)(w:World)(cur:Array Value),w.heap[b]?=some (.cells cur e (0,0))->(w.setCells b o vs).heap[b]?=some (.cells (Lib.lay cur o vs) e (0,0))
 | [],_,_,_,h=>h
 |v::r,o,w,cur,h=>by
  rw[World.setCells,Lib.lay];exact heap_setCells b e r (o+1) _ _ (heap_setCell_same w b o cur e v h)
theorem but_setCells(b:Nat):∀(vs:List Value)(o:Nat){a w:World},But (fun i=>i=b) a w->But (fun i=>i=b) a (w.setCells b o vs)
 | [],_,_,_,h=>h
 |v::r,o,a,w,h=>by
  rw[World.setCells];exact but_setCells b r (o+1) (h.setCell (p:=⟨b,o,none⟩) (.inl rfl) v)
theorem own_take{W:World}{base:Nat}{e:TypeId}{k:Nat}{A:Option Addr}{n c:Nat}{rows:List (Array Value)}(hk:∀r∈rows,r.size=k)(h:W.ownsRow base e k (.slice A n c) n (flat rows)){m:Nat}(hm:m<=n):W.ownsRow base e k (.slice A m c) m (flat (rows.take m)):=by
 have hl:rows.length*k=n*k:=by rw[<-flat_len hk];exact h.1
 have hfl:(flat rows).take (m*k)=flat (rows.take m):=by
  have hr:rows=rows.take m++rows.drop m:=(List.take_append_drop m rows).symm;have h2:(flat (rows.take m)).length=(rows.take m).length*k:=flat_len fun r hr=>hk r (List.mem_of_mem_take hr);rcases Nat.eq_zero_or_pos k with h0|h0
  ·subst h0;have h3:(flat rows).length=0:=by rw[flat_len hk];rfl
   have h4:(flat (rows.take m)).length=0:=by rw[h2];rfl
   rw[List.length_eq_zero_iff.1 h3,List.length_eq_zero_iff.1 h4]
   rfl
  ·have hln:rows.length=n:=Nat.eq_of_mul_eq_mul_right h0 hl
   conv=>lhs;rw[hr,flat_append]
   rw[show m*k=(flat (rows.take m)).length by rw[h2,List.length_take,hln,Nat.min_eq_left hm],List.take_left]
 refine⟨?_,?_⟩
 ·rw[<-hfl,List.length_take,h.1];exact Nat.min_eq_left (Nat.mul_le_mul_right k hm)
 ·rcases h.2 with ⟨he,h0⟩|⟨g,cap,cur,he,hb,hg,h1,h2,h3,h4⟩
  ·subst h0
   injection he with e1 e2 e3
   subst e1 e3;obtain rfl:m=0:=by omega
   exact .inl ⟨rfl,rfl⟩
  ·injection he with e1 e2 e3
   subst e1 e3;refine .inr ⟨g,c,cur,rfl,hb,hg,by omega,h2,h3,?_⟩;rw[<-hfl,<-h4,List.take_take,Nat.min_eq_left (Nat.mul_le_mul_right k hm)]
theorem own_deleted{W:World}{base b c n m k:Nat}{e:TypeId}{rows:List (Array Value)}(hk:∀r∈rows,r.size=k)(h:W.ownsRow base e k (.slice (some ⟨b,0,none⟩) n c) n (flat rows))(hn:rows.length=n)(hm:m<=n){zs:List Value}(hz:zs.length=m*k){W1:World}
  (hW:W1=(W.setCells b 0 (flat (rows.drop m))).setCells b ((n-m)*k) zs):W1.ownsRow base e k (.slice (some ⟨b,0,none⟩) (n-m) c) (n-m) (flat (rows.drop m)):=by
 subst hW;have h2:(flat (rows.drop m)).length=(n-m)*k:=by rw[flat_len fun r hr=>hk r (List.mem_of_mem_drop hr),List.length_drop,hn]
 refine⟨h2,?_⟩;rcases h.2 with ⟨he,_⟩|⟨g,cap,cur,he,hb,hg,h1,h3,h4,h5⟩
 ·cases he
 ·injection he with e1 e2 e3
  injection e1 with e1
  injection e1 with e1 _ _
  subst e1 e3;have hs:(n-m)*k+m*k=n*k:=by rw[<-Nat.add_mul,Nat.sub_add_cancel hm]
  have hle:n*k<=cur.size:=by rw[h4];exact Nat.mul_le_mul_right k h1
  have hg1:=heap_setCells b e (flat (rows.drop m)) 0 W cur hg;have hg2:=heap_setCells b e zs ((n-m)*k) _ _ hg1;refine .inr ⟨b,c,_,rfl,hb,hg2,by omega,h3,?_,?_⟩
  ·rw[Lib.lay_size,Lib.lay_size];exact h4
  ·apply List.ext_getElem?;intro t;rw[List.getElem?_take];by_cases ht:t<(n-m)*k
   ·rw[if_pos ht,Array.getElem?_toList,Lib.lay_get? _ _ _ _ (by rw[Lib.lay_size,hz];omega),if_neg (by omega),Lib.lay_get? _ _ _ _ (by rw[h2];omega),if_pos (by rw[h2];omega),Nat.sub_zero]
   ·rw[if_neg ht,List.getElem?_eq_none (by rw[h2];omega)]
theorem delOp_infos:(Tryz.prog.info? 37).map (fun i=>(i.zero,i.size,i.bytes))=some (some (.agg #[.int .i64 0,.int .i64 0,.int .i64 0,.int .i64 0,.int .i64 0,.int .i64 0,.int .i64 0,.int .i64 0,.int .i64 0,.string ⟨#[]⟩,.string ⟨#[]⟩,.int .i64 0,.string ⟨#[]⟩]),13,128):=op_infos
set_option maxRecDepth 1000000 in
set_option maxHeartbeats 4000000 in
theorem delOp_code(base:Nat)(v:Value)(n m:Nat)(rows:List (Array Value))(hk:∀r∈rows,r.size=13)(h1:∀u∈flat rows,u.oneCell'=true)(hn:rows.length=n)(hm:m<=n)(w:World)(h:w.ownsRow base 37 13 v n (flat rows)):
  Calls Tryz.prog 39 #[v,.int .i64 0,.int .i64 m] w fun e w'=>∃v',e=.returned v'/\w'.ownsRow base 37 13 v' (n-m) (flat (rows.drop m))/\v'.ownBlock=v.ownBlock/\But (fun i=>v.ownBlock=some i) w w':=by
 obtain⟨i0,hi0,hz0,hz1,hz2⟩:=info_parts delOp_infos;by_cases hm0:m=0
 ·subst hm0;have HF:Hid (∃v',Ending.returned v=.returned v'/\w.ownsRow base 37 13 v' (n-0) (flat (rows.drop 0))/\v'.ownBlock=v.ownBlock/\But (fun i=>v.ownBlock=some i) w w):=⟨v,rfl,h,rfl,But.refl _ _⟩;obtain⟨A,c,rfl,hA,hnc,hcm,hd⟩:=tab_own hk hn h;have i1:(n:Int)<=(c:Int):=by omega
  have i2:(0:Int)<=(n:Int):=by omega
  have i3:(0:Int)<=(c:Int):=by omega
  clear h hA h1 hk hn
  cases A with
  |none=>
   obtain rfl:c=0:=hd rfl;obtain rfl:n=0:=by omega
   go_enter Tryz.func39,Tryz.ntmps39
   go_wp2_with fail
   go_ret
   exact HF.out
  |some ad=>
   by_cases hn0:n=0
   ·subst hn0
    go_enter Tryz.func39,Tryz.ntmps39
    go_wp2_with fail
    go_ret
    exact HF.out
   ·have hn1:¬n=0:=hn0
    go_enter Tryz.func39,Tryz.ntmps39
    go_wp2_with fail
    go_ret
    exact HF.out
 ·have hm1:0<m:=by omega
  have HO:=Lib.hid h;obtain⟨hlen,⟨_,hn0⟩|⟨g,c,cur,rfl,hb,hg,hnc,hcm,hcs,htk⟩⟩:=h
  ·omega
  obtain⟨news,hnews⟩:∃news,news=flat (rows.drop m):=⟨_,rfl⟩;have hlen2:news.length=(n-m)*13:=by rw[hnews,flat_len fun r hr=>hk r (List.mem_of_mem_drop hr),List.length_drop,hn]
  have hsplit:∀t,news[t]?=(flat rows)[m*13+t]?:=fun t=>by
   have e1:flat rows=flat (rows.take m)++news:=by rw[hnews,<-flat_append,List.take_append_drop]
   have e2:(flat (rows.take m)).length=m*13:=by rw[flat_len fun r hr=>hk r (List.mem_of_mem_take hr),List.length_take,hn,Nat.min_eq_left hm]
   rw[e1,List.getElem?_append_right (by omega),e2,Nat.add_sub_cancel_left]
  have hcell:∀j,j<n*13->w.cell? ⟨g,j,none⟩=(flat rows)[j]?:=fun j hj=>by
   rw[cell_of_row w g j cur _ (0,0) hg,<-htk,List.getElem?_take,if_pos hj,Array.getElem?_toList]
  have hcs':n*13<=cur.size:=by rw[hcs];exact Nat.mul_le_mul_right _ hnc
  have hall:∀j,j<n*13->(w.cell? ⟨g,j,none⟩).isSome=true:=fun j hj=>by
   rw[cell_of_row w g j cur _ (0,0) hg,Array.getElem?_eq_getElem (by omega)];rfl
  have hfz:∀j,w.frozen? ⟨g,j,none⟩=false:=fun j=>frozen_of_row _ _ _ _ _ hg;obtain⟨A,hA,hsrc⟩:∃A:Addr,(if c=m then(some ⟨g,0,none⟩:Option Addr) else some ⟨g,m*13,none⟩)=some A/\Hid (∀t u,news[t]?=some u->w.drew.cell? (A.add t)=some u):=by
   by_cases q:c=m
   ·refine⟨⟨g,0,none⟩,by simp[q],fun t u hu=>?_⟩;have h0:news.length=0:=by rw[hlen2,show n-m=0 by omega,Nat.zero_mul]
    rw[List.length_eq_zero_iff.1 h0] at hu;simp at hu
   ·refine⟨⟨g,m*13,none⟩,by simp[q],fun t u hu=>?_⟩;have ht:=(List.getElem?_eq_some_iff.1 hu).1;have hmn:m*13+(n-m)*13=n*13:=by rw[<-Nat.add_mul,Nat.add_sub_cancel' hm]
    rw[hsplit] at hu;rw[Addr.add_lit];exact(hcell _ (by omega)).trans hu
  have s1:Hid (news.length=(n-m)*13):=hlen2;have s2:Hid (∀u∈news,u.oneCell'=true):=Lib.hid fun u hu=>h1 u (by
   have e1:flat rows=flat (rows.take m)++news:=by rw[hnews,<-flat_append,List.take_append_drop]
   rw[e1]
   exact List.mem_append_right _ hu)
  have hmn:(n-m)*13+m*13=n*13:=by rw[<-Nat.add_mul,Nat.sub_add_cancel hm]
  have s3:Hid (∀t,t<news.length->(w.drew.cell? ⟨g,0+0*13+t,none⟩).isSome=true/\w.drew.frozen? ⟨g,0+0*13+t,none⟩=false):=Lib.hid fun t ht=>by
   rw[show 0+0*13+t=t by omega];exact⟨hall t (by omega),hfz t⟩
  obtain⟨vs,hvs⟩:∃vs,vs=(Builtin.zeroCells (#[.int .i64 0,.int .i64 0,.int .i64 0,.int .i64 0,.int .i64 0,.int .i64 0,.int .i64 0,.int .i64 0,.int .i64 0,.string ⟨#[]⟩,.string ⟨#[]⟩,.int .i64 0,.string ⟨#[]⟩]) m).toList:=⟨_,rfl⟩;have hvl:vs.length=m*13:=by rw[hvs];simp[Builtin.zeroCells]
  have hz9:∀j,j<13->(#[.int .i64 0,.int .i64 0,.int .i64 0,.int .i64 0,.int .i64 0,.int .i64 0,.int .i64 0,.int .i64 0,.int .i64 0,.string ⟨#[]⟩,.string ⟨#[]⟩,.int .i64 0,.string ⟨#[]⟩]:Array Value)[j]!.oneCell'=true:=by decide
  have hv1:∀u∈vs,u.oneCell'=true:=fun u hu=>by
   rw[hvs] at hu;simp only[Builtin.zeroCells,Array.toList_map,List.mem_map] at hu;obtain⟨t,ht,rfl⟩:=hu;exact hz9 _ (Nat.mod_lt _ (by decide))
  obtain⟨W1,hW1⟩:∃W1,W1=w.drew.setCells g (0+0*13) news:=⟨_,rfl⟩;have hW1':W1=w.drew.setCells g 0 news:=by rw[hW1,show 0+0*13=0 by omega]
  have hg1:W1.heap[g]?=some (.cells (Lib.lay cur 0 news) 37 (0,0)):=by rw[hW1'];exact heap_setCells g _ news 0 w.drew cur hg
  have hst:=run_storeCells_cells (P:=Tryz.prog) g ((n-m)*13) vs 0 W1 (fun j hj=>by
    rw[cell_of_row W1 g _ _ _ (0,0) hg1,Array.getElem?_eq_getElem (by rw[Lib.lay_size];omega)];rfl) (fun j hj=>frozen_of_row _ _ _ _ _ hg1) hv1
  rw[Nat.add_zero] at hst;have hcl:∀ty,(Builtin.clear_ #[32] ty #[.slice (some ⟨g,(n-m)*13,none⟩) (n-(n-m)) (c-(n-m))]).run Tryz.prog W1=.ok (.tuple #[]) (W1.setCells g ((n-m)*13) vs):=fun ty=>by
   obtain⟨j,hj⟩:∃j,m=j+1:=⟨m-1,by omega⟩;have hv:∀W,(zeroValue 37).run Tryz.prog W=.ok (.agg #[.int .i64 0,.int .i64 0,.int .i64 0,.int .i64 0,.int .i64 0,.int .i64 0,.int .i64 0,.int .i64 0,.int .i64 0,.string ⟨#[]⟩,.string ⟨#[]⟩,.int .i64 0,.string ⟨#[]⟩]) W:=fun W=>by kernel_rfl
   rw[show n-(n-m)=m by omega];rw[hj] at hvs ⊢;rw[hj] at hst;simp[Builtin.clear_,run_underlying Tryz.underlying32,hv,Value.cells,<-hvs,hst]
  have HF:Hid (∃v',Ending.returned (.slice (some ⟨g,0,none⟩) (n-m) c)=.returned v'/\(W1.setCells g ((n-m)*13) vs).ownsRow base 37 13 v' (n-m) (flat (rows.drop m))/\v'.ownBlock=(Value.slice (some ⟨g,0,none⟩) n c).ownBlock/\But (fun i=>(Value.slice (some ⟨g,0,none⟩) n c).ownBlock=some i) w (W1.setCells g ((n-m)*13) vs)):=by
   refine⟨_,rfl,own_deleted hk HO.out.drew hn hm hvl (by rw[hW1',hnews]),rfl,?_⟩;refine(but_setCells g vs _ (hW1'▸but_setCells g news 0 ((But.refl _ w).drewN 1))).mono fun i hi=>?_;subst hi
   rfl
  have hW:Hid (W1=w.drew.setCells g (0+0*13) news):=hW1;have mixed:Tryz.prog.follows .mixedOrders=true:=by kernel_rfl
  have i1:(n:Int)<=(c:Int):=by omega
  have i2:(0:Int)<=(m:Int):=by omega
  have i3:(m:Int)<=(n:Int):=by omega
  have i4:(m:Int)<=(c:Int):=by omega
  have i5:¬(0:Int)=(m:Int):=by omega
  have i6:0+(n-m)<=c:=by omega
  have i7:(((n-m:Nat)):Int)<=(n:Int):=by omega
  have i8:¬c=n-m:=by omega
  have i9:(n:Int)-(m:Int)=((n-m:Nat):Int):=by omega
  clear hW1 hW1' hg1 hst hvl hv1 hvs hmn hall hfz hcs' hcell hsplit hlen2 hnews hlen hb hg hcs htk HO h1 hk hn
  go_enter Tryz.func39,Tryz.ntmps39
  go_wp2_with fail
  go_region_law_o (refine step_append_room rfl (.tmp 22) (.tmp 25) 32 rfl 37 i0 13 Tryz.underlying32 hi0 hz1 g 0 0 c (by simp[Act.eval,Act.put]) A (n-m) (c-m) news (by simp[Act.eval,Act.put]) s1.out hsrc.out s2.out (by omega) s3.out ?_;rw[<-hW.out])
  go_wp2_with fail
  go_ret
  exact HF.out
theorem delRec_infos:(Tryz.prog.info? 81).map (fun i=>(i.zero,i.size,i.bytes))=some (some (.agg #[.slice none 0 0,.slice none 0 0,.slice none 0 0,.slice none 0 0,.int .i64 0]),5,104):=by kernel_rfl
set_option maxRecDepth 1000000 in
set_option maxHeartbeats 4000000 in
theorem delRec_code(base:Nat)(v:Value)(n m:Nat)(rows:List (Array Value))(hk:∀r∈rows,r.size=5)(h1:∀u∈flat rows,u.oneCell'=true)(hn:rows.length=n)(hm:m<=n)(w:World)(h:w.ownsRow base 81 5 v n (flat rows)):
  Calls Tryz.prog 40 #[v,.int .i64 0,.int .i64 m] w fun e w'=>∃v',e=.returned v'/\w'.ownsRow base 81 5 v' (n-m) (flat (rows.drop m))/\v'.ownBlock=v.ownBlock/\But (fun i=>v.ownBlock=some i) w w':=by
 obtain⟨i0,hi0,hz0,hz1,hz2⟩:=info_parts delRec_infos;by_cases hm0:m=0
 ·subst hm0;have HF:Hid (∃v',Ending.returned v=.returned v'/\w.ownsRow base 81 5 v' (n-0) (flat (rows.drop 0))/\v'.ownBlock=v.ownBlock/\But (fun i=>v.ownBlock=some i) w w):=⟨v,rfl,h,rfl,But.refl _ _⟩;obtain⟨A,c,rfl,hA,hnc,hcm,hd⟩:=tab_own hk hn h;have i1:(n:Int)<=(c:Int):=by omega
  have i2:(0:Int)<=(n:Int):=by omega
  have i3:(0:Int)<=(c:Int):=by omega
  clear h hA h1 hk hn
  cases A with
  |none=>
   obtain rfl:c=0:=hd rfl;obtain rfl:n=0:=by omega
   go_enter Tryz.func40,Tryz.ntmps40
   go_wp2_with fail
   go_ret
   exact HF.out
  |some ad=>
   by_cases hn0:n=0
   ·subst hn0
    go_enter Tryz.func40,Tryz.ntmps40
    go_wp2_with fail
    go_ret
    exact HF.out
   ·have hn1:¬n=0:=hn0
    go_enter Tryz.func40,Tryz.ntmps40
    go_wp2_with fail
    go_ret
    exact HF.out
 ·have hm1:0<m:=by omega
  have HO:=Lib.hid h;obtain⟨hlen,⟨_,hn0⟩|⟨g,c,cur,rfl,hb,hg,hnc,hcm,hcs,htk⟩⟩:=h
  ·omega
  obtain⟨news,hnews⟩:∃news,news=flat (rows.drop m):=⟨_,rfl⟩;have hlen2:news.length=(n-m)*5:=by rw[hnews,flat_len fun r hr=>hk r (List.mem_of_mem_drop hr),List.length_drop,hn]
  have hsplit:∀t,news[t]?=(flat rows)[m*5+t]?:=fun t=>by
   have e1:flat rows=flat (rows.take m)++news:=by rw[hnews,<-flat_append,List.take_append_drop]
   have e2:(flat (rows.take m)).length=m*5:=by rw[flat_len fun r hr=>hk r (List.mem_of_mem_take hr),List.length_take,hn,Nat.min_eq_left hm]
   rw[e1,List.getElem?_append_right (by omega),e2,Nat.add_sub_cancel_left]
  have hcell:∀j,j<n*5->w.cell? ⟨g,j,none⟩=(flat rows)[j]?:=fun j hj=>by
   rw[cell_of_row w g j cur _ (0,0) hg,<-htk,List.getElem?_take,if_pos hj,Array.getElem?_toList]
  have hcs':n*5<=cur.size:=by rw[hcs];exact Nat.mul_le_mul_right _ hnc
  have hall:∀j,j<n*5->(w.cell? ⟨g,j,none⟩).isSome=true:=fun j hj=>by
   rw[cell_of_row w g j cur _ (0,0) hg,Array.getElem?_eq_getElem (by omega)];rfl
  have hfz:∀j,w.frozen? ⟨g,j,none⟩=false:=fun j=>frozen_of_row _ _ _ _ _ hg;obtain⟨A,hA,hsrc⟩:∃A:Addr,(if c=m then(some ⟨g,0,none⟩:Option Addr) else some ⟨g,m*5,none⟩)=some A/\Hid (∀t u,news[t]?=some u->w.drew.cell? (A.add t)=some u):=by
   by_cases q:c=m
   ·refine⟨⟨g,0,none⟩,by simp[q],fun t u hu=>?_⟩;have h0:news.length=0:=by rw[hlen2,show n-m=0 by omega,Nat.zero_mul]
    rw[List.length_eq_zero_iff.1 h0] at hu;simp at hu
   ·refine⟨⟨g,m*5,none⟩,by simp[q],fun t u hu=>?_⟩;have ht:=(List.getElem?_eq_some_iff.1 hu).1;have hmn:m*5+(n-m)*5=n*5:=by rw[<-Nat.add_mul,Nat.add_sub_cancel' hm]
    rw[hsplit] at hu;rw[Addr.add_lit];exact(hcell _ (by omega)).trans hu
  have s1:Hid (news.length=(n-m)*5):=hlen2;have s2:Hid (∀u∈news,u.oneCell'=true):=Lib.hid fun u hu=>h1 u (by
   have e1:flat rows=flat (rows.take m)++news:=by rw[hnews,<-flat_append,List.take_append_drop]
   rw[e1]
   exact List.mem_append_right _ hu)
  have hmn:(n-m)*5+m*5=n*5:=by rw[<-Nat.add_mul,Nat.sub_add_cancel hm]
  have s3:Hid (∀t,t<news.length->(w.drew.cell? ⟨g,0+0*5+t,none⟩).isSome=true/\w.drew.frozen? ⟨g,0+0*5+t,none⟩=false):=Lib.hid fun t ht=>by
   rw[show 0+0*5+t=t by omega];exact⟨hall t (by omega),hfz t⟩
  obtain⟨vs,hvs⟩:∃vs,vs=(Builtin.zeroCells (#[.slice none 0 0,.slice none 0 0,.slice none 0 0,.slice none 0 0,.int .i64 0]) m).toList:=⟨_,rfl⟩;have hvl:vs.length=m*5:=by rw[hvs];simp[Builtin.zeroCells]
  have hz9:∀j,j<5->(#[.slice none 0 0,.slice none 0 0,.slice none 0 0,.slice none 0 0,.int .i64 0]:Array Value)[j]!.oneCell'=true:=by decide
  have hv1:∀u∈vs,u.oneCell'=true:=fun u hu=>by
   rw[hvs] at hu;simp only[Builtin.zeroCells,Array.toList_map,List.mem_map] at hu;obtain⟨t,ht,rfl⟩:=hu;exact hz9 _ (Nat.mod_lt _ (by decide))
  obtain⟨W1,hW1⟩:∃W1,W1=w.drew.setCells g (0+0*5) news:=⟨_,rfl⟩;have hW1':W1=w.drew.setCells g 0 news:=by rw[hW1,show 0+0*5=0 by omega]
  have hg1:W1.heap[g]?=some (.cells (Lib.lay cur 0 news) 81 (0,0)):=by rw[hW1'];exact heap_setCells g _ news 0 w.drew cur hg
  have hst:=run_storeCells_cells (P:=Tryz.prog) g ((n-m)*5) vs 0 W1 (fun j hj=>by
    rw[cell_of_row W1 g _ _ _ (0,0) hg1,Array.getElem?_eq_getElem (by rw[Lib.lay_size];omega)];rfl) (fun j hj=>frozen_of_row _ _ _ _ _ hg1) hv1
  rw[Nat.add_zero] at hst;have hcl:∀ty,(Builtin.clear_ #[74] ty #[.slice (some ⟨g,(n-m)*5,none⟩) (n-(n-m)) (c-(n-m))]).run Tryz.prog W1=.ok (.tuple #[]) (W1.setCells g ((n-m)*5) vs):=fun ty=>by
   obtain⟨j,hj⟩:∃j,m=j+1:=⟨m-1,by omega⟩;have hv:∀W,(zeroValue 81).run Tryz.prog W=.ok (.agg #[.slice none 0 0,.slice none 0 0,.slice none 0 0,.slice none 0 0,.int .i64 0]) W:=fun W=>by kernel_rfl
   rw[show n-(n-m)=m by omega];rw[hj] at hvs ⊢;rw[hj] at hst;simp[Builtin.clear_,run_underlying Tryz.underlying74,hv,Value.cells,<-hvs,hst]
  have HF:Hid (∃v',Ending.returned (.slice (some ⟨g,0,none⟩) (n-m) c)=.returned v'/\(W1.setCells g ((n-m)*5) vs).ownsRow base 81 5 v' (n-m) (flat (rows.drop m))/\v'.ownBlock=(Value.slice (some ⟨g,0,none⟩) n c).ownBlock/\But (fun i=>(Value.slice (some ⟨g,0,none⟩) n c).ownBlock=some i) w (W1.setCells g ((n-m)*5) vs)):=by
   refine⟨_,rfl,own_deleted hk HO.out.drew hn hm hvl (by rw[hW1',hnews]),rfl,?_⟩;refine(but_setCells g vs _ (hW1'▸but_setCells g news 0 ((But.refl _ w).drewN 1))).mono fun i hi=>?_;subst hi
   rfl
  have hW:Hid (W1=w.drew.setCells g (0+0*5) news):=hW1;have mixed:Tryz.prog.follows .mixedOrders=true:=by kernel_rfl
  have i1:(n:Int)<=(c:Int):=by omega
  have i2:(0:Int)<=(m:Int):=by omega
  have i3:(m:Int)<=(n:Int):=by omega
  have i4:(m:Int)<=(c:Int):=by omega
  have i5:¬(0:Int)=(m:Int):=by omega
  have i6:0+(n-m)<=c:=by omega
  have i7:(((n-m:Nat)):Int)<=(n:Int):=by omega
  have i8:¬c=n-m:=by omega
  have i9:(n:Int)-(m:Int)=((n-m:Nat):Int):=by omega
  clear hW1 hW1' hg1 hst hvl hv1 hvs hmn hall hfz hcs' hcell hsplit hlen2 hnews hlen hb hg hcs htk HO h1 hk hn
  go_enter Tryz.func40,Tryz.ntmps40
  go_wp2_with fail
  go_region_law_o (refine step_append_room rfl (.tmp 22) (.tmp 25) 74 rfl 81 i0 5 Tryz.underlying74 hi0 hz1 g 0 0 c (by simp[Act.eval,Act.put]) A (n-m) (c-m) news (by simp[Act.eval,Act.put]) s1.out hsrc.out s2.out (by omega) s3.out ?_;rw[<-hW.out])
  go_wp2_with fail
  go_ret
  exact HF.out
end Go.Proofs.YtnnnkaobhkeocaaGreatDoor
namespace Go.Proofs.YtnnnkaobhkeocaaGreatDoor
open Go.RowKit Go.Shelf Go.Sort Go.Lib
structure SortIn (P:Program) (k:Nat):Prop where
 mixed:P.follows .mixedOrders=true
 fSwap:P.funcs[199]?=some Tryz.f199
 fRot:P.funcs[168]?=some Tryz.f168
 fMerge:P.funcs[131]?=some Tryz.f131
 fStable:P.funcs[93]?=some Tryz.f93
 agg:∀w,(isAgg 37).run P w=.ok true w
 siz:∀w,(Go.sizeOf 37).run P w=.ok k w
 t0:P.underlying 0=some (TypeDesc.tuple #[])
 a0:∀w,(isAgg 0).run P w=.ok false w
 z0:∀w,(Go.sizeOf 0).run P w=.ok 1 w
 v0:∀w,(zeroValue 0).run P w=.ok (Value.tuple #[]) w
 t3:P.underlying 3=some (TypeDesc.int IntKind.i64)
 a3:∀w,(isAgg 3).run P w=.ok false w
 z3:∀w,(Go.sizeOf 3).run P w=.ok 1 w
 v3:∀w,(zeroValue 3).run P w=.ok (Value.int IntKind.i64 0) w
 t4:P.underlying 4=some (TypeDesc.bool)
 a4:∀w,(isAgg 4).run P w=.ok false w
 z4:∀w,(Go.sizeOf 4).run P w=.ok 1 w
 v4:∀w,(zeroValue 4).run P w=.ok (Value.bool false) w
 t22:P.underlying 32=some (TypeDesc.slice 37)
 a22:∀w,(isAgg 32).run P w=.ok false w
 z22:∀w,(Go.sizeOf 32).run P w=.ok 1 w
 v22:∀w,(zeroValue 32).run P w=.ok (Value.slice none 0 0) w
 t124:P.underlying 139=some (TypeDesc.int IntKind.u64)
 a124:∀w,(isAgg 139).run P w=.ok false w
 z124:∀w,(Go.sizeOf 139).run P w=.ok 1 w
 v124:∀w,(zeroValue 139).run P w=.ok (Value.int IntKind.u64 0) w
 t68:P.underlying 98=some (TypeDesc.func #[37,37] #[3] false)
 a68:∀w,(isAgg 98).run P w=.ok false w
 z68:∀w,(Go.sizeOf 98).run P w=.ok 1 w
 v68:∀w,(zeroValue 98).run P w=.ok (Value.nilFunc) w
theorem sort_in:SortIn Tryz.prog 13 where
 mixed:=by kernel_rfl
 fSwap:=Tryz.func199
 fRot:=Tryz.func168
 fMerge:=Tryz.func131
 fStable:=Tryz.func93
 agg:=Tryz.isAgg37
 siz:=Tryz.sizeOf37
 t0:=Tryz.underlying0
 a0:=Tryz.isAgg0
 z0:=Tryz.sizeOf0
 v0:=Tryz.zeroValue0
 t3:=Tryz.underlying3
 a3:=Tryz.isAgg3
 z3:=Tryz.sizeOf3
 v3:=Tryz.zeroValue3
 t4:=Tryz.underlying4
 a4:=Tryz.isAgg4
 z4:=Tryz.sizeOf4
 v4:=Tryz.zeroValue4
 t22:=Tryz.underlying32
 a22:=Tryz.isAgg32
 z22:=Tryz.sizeOf32
 v22:=Tryz.zeroValue32
 t124:=Tryz.underlying139
 a124:=Tryz.isAgg139
 z124:=Tryz.sizeOf139
 v124:=Tryz.zeroValue139
 t68:=Tryz.underlying98
 a68:=Tryz.isAgg98
 z68:=Tryz.sizeOf98
 v68:=Tryz.zeroValue98
end Go.Proofs.YtnnnkaobhkeocaaGreatDoor
namespace Go.Proofs.YtnnnkaobhkeocaaGreatDoor.StableM
open Go.Sort
section
variable {α κ :Type}[DecidableEq κ](key:α->κ)
def ofK(s: κ)(x:List α):List α:=x.filter fun a=>decide (key a=s)
def SameK(x y:List α):Prop:=∀s,ofK key s x=ofK key s y
variable {key}
theorem SameK.refl(x:List α):SameK key x x:=fun _=>rfl
theorem SameK.trans{x y z:List α}(h:SameK key x y)(k:SameK key y z):SameK key x z:=fun s=>(h s).trans (k s)
theorem ofK_append(s: κ)(x y:List α):ofK key s (x++y)=ofK key s x++ofK key s y:=List.filter_append ..
theorem SameK.append{x x' y y':List α}(h:SameK key x x')(k:SameK key y y'):SameK key (x++y) (x'++y'):=fun s=>by
 rw[ofK_append,ofK_append,h s,k s]
theorem ofK_none{s: κ}{x:List α}(h:∀a∈x,key a≠s):ofK key s x= []:=by
 unfold ofK;rw[List.filter_eq_nil_iff];intro a ha q;exact h a ha (of_decide_eq_true q)
theorem SameK.comm{x y:List α}(h:∀a∈x,∀b∈y,key a≠key b):SameK key (x++y) (y++x):=fun s=>by
 rw[ofK_append,ofK_append];by_cases q:∃a∈x,key a=s
 ·obtain⟨a,ha,rfl⟩:=q;rw[ofK_none (x:=y) fun b hb e=>h a ha b hb e.symm,List.append_nil,List.nil_append]
 ·rw[ofK_none (x:=x) fun a ha e=>q ⟨a,ha,e⟩,List.append_nil,List.nil_append]
theorem mem_ofK{s: κ}{x:List α}{a:α}:a∈ofK key s x↔a∈x/\key a=s:=by
 unfold ofK;rw[List.mem_filter,decide_eq_true_iff]
theorem SameK.mem{x y:List α}(h:SameK key x y)(a:α):a∈x↔a∈y:=by
 have e:=h (key a)
 constructor
 ·intro q;have:a∈ofK key (key a) y:=by rw[<-e];exact mem_ofK.2 ⟨q,rfl⟩
  exact(mem_ofK.1 this).1
 ·intro q;have:a∈ofK key (key a) x:=by rw[e];exact mem_ofK.2 ⟨q,rfl⟩
  exact(mem_ofK.1 this).1
theorem SameK.inner{p x y z:List α}(h:SameK key (p++x++z) (p++y++z)):SameK key x y:=fun s=>by
 have:=h s;rw[ofK_append,ofK_append,ofK_append,ofK_append] at this;exact List.append_cancel_left (List.append_cancel_right this)
variable (lt: κ->κ->Bool)
structure Lin:Prop where
 irrefl:∀a,lt a a=false
 trans:∀ {a b c},lt a b=true->lt b c=true->lt a c=true
 total:∀ {a b},lt a b=false->a≠b->lt b a=true
variable {lt}
omit [DecidableEq κ] in
theorem Lin.asymm(L:Lin lt){a b: κ}(h:lt a b=true):lt b a=false:=by
 cases q:lt b a with
 |false=>rfl
 |true=>have:=L.trans h q;rw[L.irrefl] at this;cases this
omit [DecidableEq κ] in
theorem Lin.ne(L:Lin lt){a b: κ}(h:lt a b=true):a≠b:=fun e=>by rw[e,L.irrefl] at h;cases h
theorem Lin.ntrans(L:Lin lt){a b c: κ}(h:lt b a=false)(k:lt c b=false):lt c a=false:=by
 cases q:lt c a with
 |false=>rfl
 |true=>
  by_cases e:b=a
  ·subst e;rw[q] at k;cases k
  ·have h1:=L.total h e;have:=L.trans q h1;rw[this] at k;cases k
theorem Lin.le_lt(L:Lin lt){a b c: κ}(h:lt b a=false)(k:lt b c=true):lt a c=true:=by
 by_cases e:b=a
 ·subst e;exact k
 ·exact L.trans (L.total h e) k
theorem Lin.lt_le(L:Lin lt){a b c: κ}(h:lt a b=true)(k:lt c b=false):lt a c=true:=by
 by_cases e:c=b
 ·subst e;exact h
 ·exact L.trans h (L.total k e)
theorem Lin.swo(L:Lin lt)(key:α->κ):SWO fun x y:α=>lt (key x) (key y) where
 irrefl _:=L.irrefl _
 trans _ _ _ h k:=L.trans h k
 ntrans _ _ _ h k:=L.ntrans k h
variable (key lt)
def Up(x:List α):Prop:=x.Pairwise fun a b=>lt (key b) (key a)=false
variable {key lt}
omit [DecidableEq κ] in
theorem Up.append{x y:List α}:Up key lt (x++y)↔Up key lt x/\Up key lt y/\∀a∈x,∀b∈y,lt (key b) (key a)=false:=List.pairwise_append
theorem merge_two(L:Lin lt){l1 l2 r1 r2 m1 m2:List α}(hl:Up key lt (l1++l2))(hr:Up key lt (r1++r2))(h1:∀a∈r1,∀b∈l2,lt (key a) (key b)=true)(h2:∀a∈l1,∀b∈r2,lt (key b) (key a)=false)
  (s1:SameK key m1 (l1++r1))(s2:SameK key m2 (l2++r2))(u1:Up key lt m1)(u2:Up key lt m2):SameK key (m1++m2) (l1++l2++(r1++r2))/\Up key lt (m1++m2):=by
 constructor
 ·have e1:SameK key (r1++l2) (l2++r1):=SameK.comm fun a ha b hb=>L.ne (h1 a ha b hb);have e2:SameK key (l1++(r1++l2)++r2) (l1++(l2++r1)++r2):=((SameK.refl _).append e1).append (SameK.refl _);refine(s1.append s2).trans ?_
  simpa only[List.append_assoc] using e2
 ·refine Up.append.2 ⟨u1,u2,fun a ha b hb=>?_⟩;obtain⟨l1u,l2u,lx⟩:=Up.append.1 hl;obtain⟨r1u,r2u,rx⟩:=Up.append.1 hr;rcases List.mem_append.1 ((s1.mem a).1 ha) with p|p<;>rcases List.mem_append.1 ((s2.mem b).1 hb) with q|q
  ·exact lx a p b q
  ·exact h2 a p b q
  ·exact L.asymm (h1 a p b q)
  ·exact rx a p b q
theorem merge_left(L:Lin lt){x:α}{r1 r2:List α}(hr:Up key lt (r1++r2))(h1:∀a∈r1,lt (key a) (key x)=true)(h2:∀b∈r2,lt (key b) (key x)=false):
  SameK key (r1++x::r2) (x::(r1++r2))/\Up key lt (r1++x::r2):=by
 obtain⟨u1,u2,ux⟩:=Up.append.1 hr
 constructor
 ·have e:SameK key (r1++[x]) ([x]++r1):=SameK.comm fun a ha b hb=>by rw[List.mem_singleton.1 hb];exact L.ne (h1 a ha)
  have:=e.append (SameK.refl r2)
  simpa only[List.append_assoc,List.singleton_append,List.cons_append,List.nil_append] using this
 ·refine Up.append.2 ⟨u1,List.pairwise_cons.2 ⟨h2,u2⟩,fun a ha b hb=>?_⟩;rcases List.mem_cons.1 hb with rfl|q
  ·exact L.asymm (h1 a ha)
  ·exact ux a ha b q
theorem merge_right(L:Lin lt){y:α}{l1 l2:List α}(hl:Up key lt (l1++l2))(h1:∀a∈l1,lt (key y) (key a)=false)(h2:∀b∈l2,lt (key y) (key b)=true):
  SameK key (l1++y::l2) (l1++l2++[y])/\Up key lt (l1++y::l2):=by
 obtain⟨u1,u2,ux⟩:=Up.append.1 hl
 constructor
 ·have e:SameK key ([y]++l2) (l2++[y]):=SameK.comm fun a ha b hb=>by rw[List.mem_singleton.1 ha];exact L.ne (h2 b hb)
  have:=(SameK.refl l1).append e
  simpa only[List.append_assoc,List.singleton_append] using this
 ·refine Up.append.2 ⟨u1,List.pairwise_cons.2 ⟨fun b hb=>L.asymm (h2 b hb),u2⟩,fun a ha b hb=>?_⟩;rcases List.mem_cons.1 hb with rfl|q
  ·exact h1 a ha
  ·exact ux a ha b q
variable (key)
def adjK:Option κ->List α->List α
 |_,[]=>[]
 |p,a::l=>if p=some (key a) then adjK (some (key a)) l else a::adjK (some (key a)) l
variable {key}
theorem adj_mem(L:Lin lt):∀(y:List α)(p:Option κ),(∀q,p=some q->∀b∈y,lt (key b) q=false)->Up key lt y->∀a,a∈adjK key p y↔(p≠some (key a)/\(ofK key (key a) y).head?=some a)
 | [],_,_,_,a=>by simp[adjK,ofK]
 |b::l,p,hp,hu,a=>by
  obtain⟨h1,h2⟩:=List.pairwise_cons.1 hu;have hq:∀q,some (key b)=some q->∀c∈l,lt (key c) q=false:=fun q e c hc=>by cases e;exact h1 c hc
  have IH:=adj_mem L l (some (key b)) hq h2 a;have hf:ofK key (key a) (b::l)=if key b=key a then b::ofK key (key a) l else ofK key (key a) l:=by
   unfold ofK;rw[List.filter_cons];by_cases e:key b=key a<;>simp[e]
  unfold adjK;rw[hf];by_cases e:p=some (key b)
  ·rw[if_pos e,IH,e];by_cases q:key b=key a
   ·rw[q];simp
   ·rw[if_neg q]
  ·rw[if_neg e,List.mem_cons,IH];by_cases q:key b=key a
   ·rw[if_pos q,List.head?_cons]
    constructor
    ·rintro(r|⟨r,_⟩)
     ·subst r;exact⟨e,rfl⟩
     ·rw[q] at r;exact absurd rfl r
    ·rintro⟨_,r⟩;exact Or.inl (Option.some.inj r).symm
   ·rw[if_neg q];have hba:a≠b:=fun r=>q (by rw[r])
    constructor
    ·rintro(r|⟨_,r⟩)
     ·exact absurd r hba
     ·refine⟨fun e2=>?_,r⟩;have hm:a∈l:=(mem_ofK.1 (List.mem_of_mem_head? r)).1;have k1:=hp _ e2 b (List.mem_cons_self ..);have k2:=h1 a hm;exact q (by
       cases k3:lt (key b) (key a) with
       |true=>rw[k3] at k1;cases k1
       |false=>exact Classical.byContradiction fun k4=>by rw[L.total k3 k4] at k2;cases k2)
    ·rintro⟨_,r⟩;exact Or.inr ⟨fun e2=>q (Option.some.inj e2),r⟩
theorem adj_sub:∀(y:List α)(p:Option κ),∀a∈adjK key p y,a∈y
 | [],_,_,h=>nomatch h
 |b::l,p,a,h=>by
  unfold adjK at h
  split at h
  ·exact List.mem_cons_of_mem _ (adj_sub l _ a h)
  ·rcases List.mem_cons.1 h with rfl|h
   ·exact List.mem_cons_self ..
   ·exact List.mem_cons_of_mem _ (adj_sub l _ a h)
theorem adj_rises(L:Lin lt):∀(y:List α)(p:Option κ),(∀q,p=some q->∀b∈y,lt (key b) q=false)->Up key lt y->(adjK key p y).Pairwise fun a b=>lt (key a) (key b)=true
 | [],_,_,_=>List.Pairwise.nil
 |b::l,p,hp,hu=>by
  obtain⟨h1,h2⟩:=List.pairwise_cons.1 hu;have hq:∀q,some (key b)=some q->∀c∈l,lt (key c) q=false:=fun q e c hc=>by cases e;exact h1 c hc
  have IH:=adj_rises L l (some (key b)) hq h2;unfold adjK
  split
  ·exact IH
  ·refine List.pairwise_cons.2 ⟨fun c hc=>?_,IH⟩;have hm:=adj_sub l _ c hc;have:=((adj_mem L l (some (key b)) hq h2 c).1 hc).1;exact L.total (h1 c hm) fun e=>this (by rw[e])
theorem adj_snoc:∀(l:List α)(p:Option κ)(a:α),adjK key p (l++[a])=adjK key p l++(if(match l.getLast? with|none=>p|some b=>some (key b))=some (key a) then [] else [a])
 | [],p,a=>by
  show(if p=some (key a) then adjK key (some (key a)) [] else a::adjK key (some (key a)) [])= []++_
  rfl
 |b::l,p,a=>by
  rw[List.cons_append];unfold adjK;rw[adj_snoc l (some (key b)) a];have e:(match (b::l).getLast? with|none=>p|some b=>some (key b))=(match l.getLast? with|none=>some (key b)|some b=>some (key b)):=by
   rw[List.getLast?_cons]
   cases l.getLast?<;>rfl
  rw[e]
  split<;>rfl
theorem adj_len:∀(l:List α)(p:Option κ),(adjK key p l).length<=l.length
 | [],_=>Nat.le_refl _
 |b::l,p=>by
  unfold adjK;have:=adj_len l (some (key b))
  split<;>simp only[List.length_cons]<;>omega
variable [Inhabited α]
omit [DecidableEq κ] in
theorem get_list(d:Array α){x:List α}(h:d.toList=x)(i:Nat)(hi:i<x.length):d[i]! =x[i]:=by
 subst h;rw[getElem!_pos d i (by simpa using hi),Array.getElem_toList]
theorem swp_list(d:Array α){p q r:List α}{x y:α}(h:d.toList=p++x::(q++y::r))(i j:Nat)(hi:i=p.length)(hj:j=p.length+1+q.length):
  (swp d i j).toList=p++y::(q++x::r)/\(swp d j i).toList=p++y::(q++x::r):=by
 subst hi;subst hj;have ei:d[p.length]! =x:=by rw[get_list d h _ (by simp)];simp
 have ej:d[p.length+1+q.length]! =y:=by
  rw[get_list d h _ (by simp;omega)];rw[List.getElem_append_right (by omega)];simp only[show p.length+1+q.length-p.length=q.length+1 by omega,List.getElem_cons_succ];simp
 have s1:∀(z:α)(t:List α),(p++z::t).set p.length=fun v=>p++v::t:=fun z t=>by
  funext v
  rw[List.set_append_right _ _ (Nat.le_refl _),Nat.sub_self,List.set_cons_zero]
 have s2:∀(u z v:α)(t:List α),(p++u::(q++z::t)).set (p.length+1+q.length) v=p++u::(q++v::t):=fun u z v t=>by
  rw[List.set_append_right _ _ (by omega),show p.length+1+q.length-p.length=q.length+1 by omega,List.set_cons_succ,List.set_append_right _ _ (Nat.le_refl _),Nat.sub_self,List.set_cons_zero]
 unfold swp;rw[ei,ej]
 constructor
 ·rw[Array.toList_setIfInBounds,Array.toList_setIfInBounds,h,s1,s2]
 ·rw[Array.toList_setIfInBounds,Array.toList_setIfInBounds,h,s2,s1]
variable {f:α->α->Bool}
omit [Inhabited α] in
theorem split_two{x:List α}{j:Nat}(h:j+1<x.length):x=x.take j++x[j]::x[j+1]::x.drop (j+2):=by
 have e1:x.drop j=x[j]::x.drop (j+1):=List.drop_eq_getElem_cons (by omega);have e2:x.drop (j+1)=x[j+1]::x.drop (j+1+1):=List.drop_eq_getElem_cons h;rw[<-e2,<-e1,List.take_append_drop]
theorem swp_same(hf:∀x y,f x y=true->key x≠key y)(d:Array α)(j:Nat)(h:j+1<d.size)(hl:f d[j+1]! d[j]! =true):SameK key (swp d (j+1) j).toList d.toList:=by
 have hj:j+1<d.toList.length:=by simpa using h
 have e:=split_two hj;have e1:d[j]! =d.toList[j]:=get_list d rfl j (by omega);have e2:d[j+1]! =d.toList[j+1]:=get_list d rfl (j+1) hj;rw[e1,e2] at hl;have hsw:=(swp_list d (p:=d.toList.take j) (q:=[]) (r:=d.toList.drop (j+2)) e j (j+1) (by rw[List.length_take];omega) (by rw[List.length_take];simp;omega)).2;rw[hsw]
 conv=>rhs;rw[e]
 have k:SameK key ([d.toList[j+1]]++[d.toList[j]]) ([d.toList[j]]++[d.toList[j+1]]):=SameK.comm fun a ha b hb=>by
  rw[List.mem_singleton.1 ha,List.mem_singleton.1 hb];exact hf _ _ hl
 have:=((SameK.refl (d.toList.take j)).append k).append (SameK.refl (d.toList.drop (j+2)))
 simpa only[List.append_assoc,List.singleton_append,List.nil_append,List.cons_append] using this
theorem inner_same(hf:∀x y,f x y=true->key x≠key y)(a:Nat):∀(j:Nat)(d:Array α),j<d.size->SameK key (insInner f a j d).toList d.toList
 |0,d,_=>SameK.refl _
 |j+1,d,h=>by
  unfold insInner;by_cases q:(decide (j+1>a)&&f d[j+1]! d[j]!)=true
  ·rw[if_pos q];rw[Bool.and_eq_true] at q;exact(inner_same hf a j _ (by rw[swp_size];omega)).trans (swp_same hf d j h q.2)
  ·rw[if_neg q];exact SameK.refl _
theorem inner_size(a:Nat):∀(j:Nat)(d:Array α),(insInner f a j d).size=d.size
 |0,d=>rfl
 |j+1,d=>by
  unfold insInner
  split
  ·rw[inner_size a j,swp_size]
  ·rfl
theorem outer_same(hf:∀x y,f x y=true->key x≠key y)(a b:Nat):∀(n i:Nat)(d:Array α),b-i<=n->b<=d.size->SameK key (insOuter f a b i d).toList d.toList
 |0,i,d,hn,_=>by
  rw[insOuter,if_neg (by omega)];exact SameK.refl _
 |n+1,i,d,hn,hb=>by
  rw[insOuter]
  split
  ·exact(outer_same hf a b n (i+1) _ (by omega) (by rw[inner_size];exact hb)).trans (inner_same hf a i d (by omega))
  ·exact SameK.refl _
theorem insertion_list(L:Lin lt)(hf:∀x y,f x y=lt (key x) (key y))(d:Array α){p x z:List α}(h:d.toList=p++x++z)(a b:Nat)(ha:a=p.length)(hb:b=p.length+x.length):
  ∃y,(insertionSort f d a b).toList=p++y++z/\y.length=x.length/\SameK key y x/\Up key lt y:=by
 have hff:f=fun x y=>lt (key x) (key y):=by funext x y;exact hf x y
 have hO:SWO f:=by rw[hff];exact L.swo key
 have hsz:d.size=p.length+x.length+z.length:=by rw[<-Array.length_toList,h];simp;omega
 obtain⟨⟨hs,ho,_⟩,hsd⟩:=insertionSort_holds hO d a b (by omega) (by omega);have hsame:SameK key (insertionSort f d a b).toList d.toList:=outer_same (fun x y q=>by rw[hf] at q;exact L.ne q) a b (b-(a+1)) (a+1) d (Nat.le_refl _) (by omega);generalize insertionSort f d a b=d' at hs ho hsd hsame;have hl':d'.toList.length=p.length+x.length+z.length:=by rw[Array.length_toList,hs,hsz]
 have e1:d'.toList.take p.length=p:=by
  apply List.ext_getElem
  ·rw[List.length_take];omega
  ·intro i h1 h2;rw[List.getElem_take];have:=ho i (Or.inl (by omega));rw[get_list d' rfl i (by omega),get_list d h i (by simp;omega)] at this;rw[this,List.getElem_append_left (by simp;omega),List.getElem_append_left h2]
 have e2:d'.toList.drop (p.length+x.length)=z:=by
  apply List.ext_getElem
  ·rw[List.length_drop];omega
  ·intro i h1 h2;rw[List.getElem_drop];have:=ho (p.length+x.length+i) (Or.inr (by omega));rw[get_list d' rfl _ (by omega),get_list d h _ (by simp;omega)] at this;rw[this,List.getElem_append_right (by simp)]
   congr 1
   simp
 have e3:d'.toList=p++(d'.toList.drop p.length).take x.length++z:=by
  rw[<-e2]
  conv=>lhs;rw[<-List.take_append_drop p.length d'.toList,e1]
  rw[List.append_assoc]
  congr 1
  rw[<-List.drop_drop,List.take_append_drop]
 have hlen:((d'.toList.drop p.length).take x.length).length=x.length:=by rw[List.length_take,List.length_drop];omega
 refine⟨_,e3,hlen,?_,?_⟩
 ·rw[e3,h] at hsame;exact hsame.inner
 ·generalize (d'.toList.drop p.length).take x.length=y at e3 hlen;refine List.pairwise_iff_getElem.2 fun i j hi hj hij=>?_;have q:=hsd (p.length+i) (p.length+j) (by omega) (by omega) (by omega);rw[hf,get_list d' e3 _ (by simp;omega),get_list d' e3 _ (by simp;omega)] at q
  simpa[List.getElem_append_left,List.getElem_append_right,hi,hj] using q
end
end Go.Proofs.YtnnnkaobhkeocaaGreatDoor.StableM
namespace Go.Proofs.YtnnnkaobhkeocaaGreatDoor
open Go.RowKit Go.Shelf Go.Sort Go.Lib StableM
section
variable {P:Program}{k:Nat}{α:Type}[Inhabited α]
omit [Inhabited α] in
theorem range_split{A X B Y Z:List α}{n i:Nat}(hX:X.length=n)(hY:Y.length=n)(hi:i<n):
  A++(Y.take i++X.drop i)++B++(X.take i++Y.drop i)++Z=(A++Y.take i)++(X[i]'(by omega))::((X.drop (i+1)++B++X.take i)++(Y[i]'(by omega))::(Y.drop (i+1)++Z))/\
  A++(Y.take (i+1)++X.drop (i+1))++B++(X.take (i+1)++Y.drop (i+1))++Z=(A++Y.take i)++(Y[i]'(by omega))::((X.drop (i+1)++B++X.take i)++(X[i]'(by omega))::(Y.drop (i+1)++Z)):=by
 have h1:i<X.length:=by omega
 have h2:i<Y.length:=by omega
 constructor
 ·rw[List.drop_eq_getElem_cons h1,List.drop_eq_getElem_cons h2];simp only[List.append_assoc,List.cons_append]
 ·rw[List.take_succ_eq_append_getElem h1,List.take_succ_eq_append_getElem h2];simp only[List.append_assoc,List.cons_append,List.nil_append]
set_option maxHeartbeats 4000000 in
set_option maxRecDepth 1000000 in
theorem swapRange_in(L:SortIn P k)(enc:α->List Value)(fv:Value)(blk off cap:Nat)(d0 d:Array α)(w0 w:World)(R:RowK enc k w0 blk off d0)(hs:d.size=d0.size)(S:SWK enc k w0 blk off d w)
  (a b n:Nat)(A X B Y Z:List α)(hd:d.toList=A++X++B++Y++Z)(ha:a=A.length)(hb:b=A.length+n+B.length)(hX:X.length=n)(hY:Y.length=n)(hsz:d.size<4611686018427387904):
  Calls P 199 #[.slice (some ⟨blk,off,none⟩) d.size cap,.int .i64 a,.int .i64 b,.int .i64 n,fv] w fun e w'=>e=.returned (.tuple #[])/\∃d':Array α,d'.size=d.size/\d'.toList=A++Y++B++X++Z/\SWK enc k w0 blk off d' w':=by
 obtain⟨mixed,fSwap,fRot,fMerge,fStable,aE,zE,t0,a0,z0,v0,t3,a3,z3,v3,t4,a4,z4,v4,t22,a22,z22,v22,t124,a124,z124,v124,t68,a68,z68,v68⟩:=L;have S0:Aside (SWK enc k w0 blk off d w):=S;have hds:A.length+n+B.length+n+Z.length=d.size:=by
  have:=congrArg List.length hd;simp only[List.length_append,Array.length_toList] at this;omega
 have HD:Aside (d.toList=A++X++B++Y++Z):=hd;have HE:Aside (a=A.length/\b=A.length+n+B.length/\X.length=n/\Y.length=n/\d.size=d0.size/\A.length+n+B.length+n+Z.length=d.size):=⟨ha,hb,hX,hY,hs,hds⟩;have hn62:n<4611686018427387904:=by omega
 clear S hd ha hb hX hY hs hds
 go_enter fSwap,Tryz.ntmps199
 go_wp2
 go_loopg [10] n (fun kx s wr=>∃(i:Nat)(dk:Array α),s=.int .i64 i/\i<=n/\n-i<=kx/\dk.size=d.size/\Aside (dk.toList=A++(Y.take i++X.drop i)++B++(X.take i++Y.drop i)++Z)/\Aside (SWK enc k w0 blk off dk wr))
 case atStart=>exact⟨0,d,by go_num,by omega,by omega,rfl,by show _=_;rw[HD.out];simp,S0⟩
 case round=>
  clear S0 HD;obtain⟨i,dk,rfl,hi,hkx,hdk,hl,S1⟩:=hrel;have HK:Aside (dk.size=d.size):=hdk;clear hdk;by_cases hlt:i<n
  ·have hltz:(i:Int)<(n:Int):=by omega
   obtain⟨ha,hb,hX,hY,hs,hds⟩:=HE.out;have hdk:=HK.out;have hl2:Aside ((swp dk (a+i) (b+i)).toList=A++(Y.take (i+1)++X.drop (i+1))++B++(X.take (i+1)++Y.drop (i+1))++Z):=by
    obtain⟨e1,e2⟩:=range_split (A:=A) (B:=B) (Z:=Z) hX hY hlt;have e3:=(swp_list dk (hl.out.trans e1) (a+i) (b+i) (by simp;omega) (by simp;omega)).1;exact e3.trans e2.symm
   clear hl;have ea1:((a:Int)+(i:Int)).toNat=a+i:=by omega
   have pa1:(0:Int)<=(a:Int)+(i:Int):=by omega
   have ba1:(a:Int)+(i:Int)<(d.size:Int):=by omega
   have ra1:IntKind.i64.wrap ((a:Int)+(i:Int))=(a:Int)+(i:Int):=by rw[IntKind.wrap_i64];omega
   have ec1:((b:Int)+(i:Int)).toNat=b+i:=by omega
   have pc1:(0:Int)<=(b:Int)+(i:Int):=by omega
   have bc1:(b:Int)+(i:Int)<(d.size:Int):=by omega
   have rc1:IntKind.i64.wrap ((b:Int)+(i:Int))=(b:Int)+(i:Int):=by rw[IntKind.wrap_i64];omega
   have S2:Aside (SWK enc k w0 blk off (swp dk (a+i) (b+i)) ((wr.drew.setCells blk (off+(a+i)*k) (enc dk[b+i]!)).setCells blk (off+(b+i)*k) (enc dk[a+i]!))):=S1.out.swapped R (a+i) (b+i) (by omega) (by omega);have la1:=S1.out.ld1 R (by omega) P (a+i) (by omega);have lb1:=S1.out.ld1 R (by omega) P (b+i) (by omega);have sa1:=S1.out.st1 R (by omega) P (a+i) (by omega) dk[b+i]!;have sb1:=S1.out.st2 R (by omega) P (a+i) (b+i) (by omega) (by omega) dk[b+i]! dk[a+i]!;have na1:(enc dk[a+i]!).length=k:=R.hk _;have nb1:(enc dk[b+i]!).length=k:=R.hk _;generalize enc dk[a+i]! =cI1 at S2 la1 sb1 na1;generalize enc dk[b+i]! =cJ1 at S2 lb1 sa1 sb1 nb1;clear S1 ha hb hX hY hs hds hdk
   go_wp2_with fail
   go_big_region_o
   clear la1 lb1 sa1 sb1 ea1 pa1 ba1 ra1 ec1 pc1 bc1 rc1 na1 nb1;generalize (wr.drew.setCells blk (off+(a+i)*k) cJ1).setCells blk (off+(b+i)*k) cI1=w2 at S2 ⊢
   go_wp2
   go_roundg (n-(i+1))
   case measure=>omega
   case rel=>
    obtain⟨ha,hb,hX,hY,hs,hds⟩:=HE.out;exact⟨i+1,swp dk (a+i) (b+i),by go_num,by omega,Nat.le_refl _,by rw[size_swp];exact HK.out,hl2,S2⟩
  ·have hltz:¬(i:Int)<(n:Int):=by omega
   go_wp2
   go_end0
   refine⟨rfl,dk,HK.out,?_,S1.out⟩;have e:i=n:=by omega
   obtain⟨ha,hb,hX,hY,hs,hds⟩:=HE.out;rw[hl.out,e,List.take_of_length_le (by omega),List.take_of_length_le (by omega),List.drop_of_length_le (by omega),List.drop_of_length_le (by omega)];simp
set_option maxHeartbeats 4000000 in
set_option maxRecDepth 1000000 in
theorem rotate_in(L:SortIn P k)(enc:α->List Value)(fv:Value)(blk off cap:Nat)(d0 d:Array α)(w0 w:World)(R:RowK enc k w0 blk off d0)(hs:d.size=d0.size)(S:SWK enc k w0 blk off d w)
  (a m b:Nat)(A X Y Z:List α)(hd:d.toList=A++X++Y++Z)(ha:a=A.length)(hm:m=A.length+X.length)(hb:b=A.length+X.length+Y.length)(hX:0<X.length)(hY:0<Y.length)(hsz:d.size<4611686018427387904):
  Calls P 168 #[.slice (some ⟨blk,off,none⟩) d.size cap,.int .i64 a,.int .i64 m,.int .i64 b,fv] w fun e w'=>e=.returned (.tuple #[])/\∃d':Array α,d'.size=d.size/\d'.toList=A++Y++X++Z/\SWK enc k w0 blk off d' w':=by
 have LL:=L;obtain⟨mixed,fSwap,fRot,fMerge,fStable,aE,zE,t0,a0,z0,v0,t3,a3,z3,v3,t4,a4,z4,v4,t22,a22,z22,v22,t124,a124,z124,v124,t68,a68,z68,v68⟩:=L;have eS:∀args w,(callFunc 199 args).run P w=.ok (.enter 199 args) w:=enters_of fSwap (by kernel_rfl) rfl;have S0:Aside (SWK enc k w0 blk off d w):=S;have hds:A.length+X.length+Y.length+Z.length=d.size:=by
  have:=congrArg List.length hd;simp only[List.length_append,Array.length_toList] at this;omega
 have HD:Aside (d.toList=A++X++Y++Z):=hd;have HE:Aside (a=A.length/\m=A.length+X.length/\b=A.length+X.length+Y.length/\d.size=d0.size/\A.length+X.length+Y.length+Z.length=d.size):=⟨ha,hm,hb,hs,hds⟩;have hm1:X.length<=m:=by omega
 have hm2:m+Y.length<=d.size:=by omega
 have e1:(m:Int)-(a:Int)=(X.length:Int):=by omega
 have e2:(b:Int)-(m:Int)=(Y.length:Int):=by omega
 have hml:m<4611686018427387904:=by omega
 have hxl:X.length<4611686018427387904:=by omega
 have hyl:Y.length<4611686018427387904:=by omega
 clear S hd ha hm hb hs hds;obtain⟨x0,hx0⟩:∃x,x=X.length:=⟨_,rfl⟩;obtain⟨y0,hy0⟩:∃y,y=Y.length:=⟨_,rfl⟩;rw[<-hx0] at e1 hX hm1 hxl;rw[<-hy0] at e2 hY hm2 hyl;have HXY:Aside (x0=X.length/\y0=Y.length):=⟨hx0,hy0⟩;clear hx0 hy0
 go_enter fRot,Tryz.ntmps168
 go_wp2
 go_loopg [10,11] (x0+y0) (fun kx s t wr=>∃(i j:Nat)(dk:Array α)(A1 X1 Y1 Z1:List α),s=.int .i64 i/\t=.int .i64 j/\0<i/\0<j/\i+j<=kx/\i<=x0/\j<=y0/\Aside (dk.size=d.size)/\Aside (dk.toList=A1++X1++Y1++Z1/\A1++Y1++X1++Z1=A++Y++X++Z/\X1.length=i/\Y1.length=j/\A1.length+i=m)/\Aside (SWK enc k w0 blk off dk wr))
 case atStart=>
  obtain⟨h1,h2⟩:=HXY.out;obtain⟨ha,hm,hb,hs,hds⟩:=HE.out;exact⟨x0,y0,d,A,X,Y,Z,by go_num,by go_num,by omega,by omega,by omega,by omega,by omega,rfl,⟨HD.out,rfl,by omega,by omega,by omega⟩,S0⟩
 case round=>
  clear S0 HD;obtain⟨i,j,dk,A1,X1,Y1,Z1,rfl,rfl,hi0,hj0,hkx,hix,hjy,HK,HL,S1⟩:=hrel;have w1:(m:Int)-(i:Int)=((m-i:Nat):Int):=by omega
  rcases Nat.lt_trichotomy i j with hij|hij|hij
  ·have n1:¬(i:Int)=(j:Int):=by omega
   have n2:¬(j:Int)<(i:Int):=by omega
   have w2:(m:Int)+(j:Int)-(i:Int)=((m+j-i:Nat):Int):=by omega
   have HC:Hid (Calls P 199 #[.slice (some ⟨blk,off,none⟩) d.size cap,.int .i64 ((m-i:Nat):Int),.int .i64 ((m+j-i:Nat):Int),.int .i64 (i:Int),fv] wr fun e w'=>e=.returned (.tuple #[])/\∃d':Array α,d'.size=d.size/\d'.toList=A1++Y1.drop (j-i)++Y1.take (j-i)++X1++Z1/\SWK enc k w0 blk off d' w'):=by
    obtain⟨l1,l2,l3,l4,l5⟩:=HL.out;have hk:=HK.out;have hs:=HE.out.2.2.2.1;have e9:∀u v:List α,Y1=u++v->A1++X1++Y1++Z1=A1++X1++u++v++Z1:=fun u v h=>by rw[h];simp only[List.append_assoc]
    have hY1:Y1=Y1.take (j-i)++Y1.drop (j-i):=(List.take_append_drop _ _).symm;have:=swapRange_in LL enc fv blk off cap d0 dk w0 wr R (hk.trans hs) S1.out (m-i) (m+j-i) i A1 X1 (Y1.take (j-i)) (Y1.drop (j-i)) Z1 (l1.trans (e9 _ _ hY1)) (by omega) (by rw[List.length_take];omega) l3 (by rw[List.length_drop];omega) (by omega);rw[hk] at this;exact this
   go_wp2_with (go_at_fn 199;refine HC.out.mono ?_;rintro e w5 ⟨rfl,d5,hd5,hl5,hS5⟩)
   have S5:Aside (SWK enc k w0 blk off d5 w5):=hS5;have HK5:Aside (d5.size=d.size):=hd5;have HL5:Aside (d5.toList=A1++Y1.drop (j-i)++Y1.take (j-i)++X1++Z1):=hl5;clear hS5 hd5 hl5 HC S1
   go_wp2
   go_roundg (i+(j-i))
   case measure=>omega
   case rel=>
    obtain⟨l1,l2,l3,l4,l5⟩:=HL.out;refine⟨i,j-i,d5,A1,Y1.drop (j-i),Y1.take (j-i),X1++Z1,rfl,by go_num,by omega,by omega,by omega,by omega,by omega,HK5,⟨?_,?_,by rw[List.length_drop];omega,by rw[List.length_take];omega,l5⟩,S5⟩
    ·rw[HL5.out];simp only[List.append_assoc]
    ·rw[<-l2]
     conv=>rhs;rw[<-List.take_append_drop (j-i) Y1]
     simp only[List.append_assoc]
  ·subst hij;have HC:Hid (Calls P 199 #[.slice (some ⟨blk,off,none⟩) d.size cap,.int .i64 ((m-i:Nat):Int),.int .i64 (m:Int),.int .i64 (i:Int),fv] wr fun e w'=>e=.returned (.tuple #[])/\∃d':Array α,d'.size=d.size/\d'.toList=A++Y++X++Z/\SWK enc k w0 blk off d' w'):=by
    obtain⟨l1,l2,l3,l4,l5⟩:=HL.out;have hk:=HK.out;have hs:=HE.out.2.2.2.1;have:=swapRange_in LL enc fv blk off cap d0 dk w0 wr R (hk.trans hs) S1.out (m-i) m i A1 X1 [] Y1 Z1 (by rw[l1];simp) (by omega) (by simp;omega) l3 l4 (by omega);rw[hk,List.append_nil,l2] at this;exact this
   go_wp2_with (go_at_fn 199;refine HC.out.mono ?_;rintro e w5 ⟨rfl,d5,hd5,hl5,hS5⟩)
   go_end0
   exact⟨rfl,d5,hd5,hl5,hS5⟩
  ·have n1:¬(i:Int)=(j:Int):=by omega
   have n2:(j:Int)<(i:Int):=by omega
   have HC:Hid (Calls P 199 #[.slice (some ⟨blk,off,none⟩) d.size cap,.int .i64 ((m-i:Nat):Int),.int .i64 (m:Int),.int .i64 (j:Int),fv] wr fun e w'=>e=.returned (.tuple #[])/\∃d':Array α,d'.size=d.size/\d'.toList=A1++Y1++X1.drop j++X1.take j++Z1/\SWK enc k w0 blk off d' w'):=by
    obtain⟨l1,l2,l3,l4,l5⟩:=HL.out;have hk:=HK.out;have hs:=HE.out.2.2.2.1;have e9:∀u v:List α,X1=u++v->A1++X1++Y1++Z1=A1++u++v++Y1++Z1:=fun u v h=>by rw[h];simp only[List.append_assoc]
    have hX1:X1=X1.take j++X1.drop j:=(List.take_append_drop _ _).symm;have:=swapRange_in LL enc fv blk off cap d0 dk w0 wr R (hk.trans hs) S1.out (m-i) m j A1 (X1.take j) (X1.drop j) Y1 Z1 (l1.trans (e9 _ _ hX1)) (by omega) (by rw[List.length_drop];omega) (by rw[List.length_take];omega) l4 (by omega);rw[hk] at this;exact this
   go_wp2_with (go_at_fn 199;refine HC.out.mono ?_;rintro e w5 ⟨rfl,d5,hd5,hl5,hS5⟩)
   have S5:Aside (SWK enc k w0 blk off d5 w5):=hS5;have HK5:Aside (d5.size=d.size):=hd5;have HL5:Aside (d5.toList=A1++Y1++X1.drop j++X1.take j++Z1):=hl5;clear hS5 hd5 hl5 HC S1
   go_wp2
   go_roundg (i-j+j)
   case measure=>omega
   case rel=>
    obtain⟨l1,l2,l3,l4,l5⟩:=HL.out;refine⟨i-j,j,d5,A1++Y1,X1.drop j,X1.take j,Z1,by go_num,rfl,by omega,by omega,by omega,by omega,by omega,HK5,⟨?_,?_,by rw[List.length_drop];omega,by rw[List.length_take];omega,by rw[List.length_append];omega⟩,S5⟩
    ·rw[HL5.out]
    ·rw[<-l2]
     conv=>rhs;rw[<-List.take_append_drop j X1]
     simp only[List.append_assoc]
end
section
variable {P:Program}{k:Nat}{α κ :Type}[Inhabited α][DecidableEq κ]{key:α->κ}{lt: κ->κ->Bool}
def Merged(enc:α->List Value)(k:Nat)(w0:World)(blk off size:Nat)(key:α->κ)(lt: κ->κ->Bool)(p l r z:List α)(e:Ending)(w':World):Prop:=
 e=.returned (.tuple #[])/\∃(d':Array α)(q:List α),d'.size=size/\d'.toList=p++q++z/\q.length=l.length+r.length/\SameK key q (l++r)/\Up key lt q/\SWK enc k w0 blk off d' w'
omit [DecidableEq κ] in
theorem at_l{d:Array α}{p l r z:List α}(h:d.toList=p++l++r++z){i:Nat}(hi:i<l.length):d[p.length+i]! =l[i]:=by
 rw[get_list d h _ (by simp;omega)];simp[List.getElem_append_left,List.getElem_append_right,hi]
omit [DecidableEq κ] in
theorem at_r{d:Array α}{p l r z:List α}(h:d.toList=p++l++r++z){i:Nat}(hi:i<r.length):d[p.length+l.length+i]! =r[i]:=by
 rw[get_list d h _ (by simp;omega)];rw[List.getElem_append_left (by simp;omega),List.getElem_append_right (by simp)]
 congr 1
 simp
omit [Inhabited α] in
theorem take_lt(Ln:Lin lt){x:List α}(h:Up key lt x){c:Nat}{s: κ}(hc:c=0\/∃q:c-1<x.length,lt (key x[c-1]) s=true):∀a∈x.take c,lt (key a) s=true:=by
 intro a ha;obtain⟨i,hi,rfl⟩:=List.getElem_of_mem ha;rw[List.length_take] at hi;rw[List.getElem_take];obtain rfl|⟨q,hq⟩:=hc
 ·omega
 ·by_cases e:i=c-1
  ·subst e;exact hq
  ·exact Ln.le_lt (List.pairwise_iff_getElem.1 h i (c-1) (by omega) q (by omega)) hq
omit [Inhabited α] in
theorem take_le(Ln:Lin lt){x:List α}(h:Up key lt x){c:Nat}{s: κ}(hc:c=0\/∃q:c-1<x.length,lt s (key x[c-1])=false):∀a∈x.take c,lt s (key a)=false:=by
 intro a ha;obtain⟨i,hi,rfl⟩:=List.getElem_of_mem ha;rw[List.length_take] at hi;rw[List.getElem_take];obtain rfl|⟨q,hq⟩:=hc
 ·omega
 ·by_cases e:i=c-1
  ·subst e;exact hq
  ·exact Ln.ntrans (List.pairwise_iff_getElem.1 h i (c-1) (by omega) q (by omega)) hq
omit [Inhabited α] in
theorem drop_ge(Ln:Lin lt){x:List α}(h:Up key lt x){c:Nat}{s: κ}(hc:x.length<=c\/∃q:c<x.length,lt (key x[c]) s=false):∀a∈x.drop c,lt (key a) s=false:=by
 intro a ha;obtain⟨i,hi,rfl⟩:=List.getElem_of_mem ha;rw[List.length_drop] at hi;rw[List.getElem_drop];obtain q|⟨q,hq⟩:=hc
 ·omega
 ·by_cases e:i=0
  ·subst e;exact hq
  ·exact Ln.ntrans hq (List.pairwise_iff_getElem.1 h c (c+i) q (by omega) (by omega))
omit [Inhabited α] in
theorem drop_gt(Ln:Lin lt){x:List α}(h:Up key lt x){c:Nat}{s: κ}(hc:x.length<=c\/∃q:c<x.length,lt s (key x[c])=true):∀a∈x.drop c,lt s (key a)=true:=by
 intro a ha;obtain⟨i,hi,rfl⟩:=List.getElem_of_mem ha;rw[List.length_drop] at hi;rw[List.getElem_drop];obtain q|⟨q,hq⟩:=hc
 ·omega
 ·by_cases e:i=0
  ·subst e;exact hq
  ·exact Ln.lt_le hq (List.pairwise_iff_getElem.1 h c (c+i) q (by omega) (by omega))
set_option maxHeartbeats 8000000 in
set_option maxRecDepth 1000000 in
theorem merge_left_in(L:SortIn P k)(Ln:Lin lt)(enc:α->List Value)(cf:α->α->Int)(hcf:∀x y,ltOf cf x y=lt (key x) (key y))(g:Nat)(cb:Array Value)(eg:∀args w,(callFunc g args).run P w=.ok (.enter g args) w)(blk off cap:Nat)(d0:Array α)(w0:World)(hC:CmpLays P g cb enc k cf blk off d0.size w0)(R:RowK enc k w0 blk off d0)(hsz:d0.size<4611686018427387904)
  (d:Array α)(w:World)(a m b:Nat)(p l r z:List α)(hs:d.size=d0.size)(S:SWK enc k w0 blk off d w)(hd:d.toList=p++l++r++z)(ha:a=p.length)(hm:m=p.length+l.length)(hb:b=p.length+l.length+r.length)(hl1:l.length=1)(hr0:0<r.length)(hur:Up key lt r):
  Calls P 131 #[.slice (some ⟨blk,off,none⟩) d0.size cap,.int .i64 a,.int .i64 m,.int .i64 b,.func (.func g) #[] cb] w (Merged enc k w0 blk off d0.size key lt p l r z):=by
 obtain⟨mixed,fSwap,fRot,fMerge,fStable,aE,zE,t0,a0,z0,v0,t3,a3,z3,v3,t4,a4,z4,v4,t22,a22,z22,v22,t124,a124,z124,v124,t68,a68,z68,v68⟩:=L;have S0:Aside (SWK enc k w0 blk off d w):=S;have HC:Aside (CmpLays P g cb enc k cf blk off d0.size w0):=hC;have hds:p.length+l.length+r.length+z.length=d0.size:=by
  have:=congrArg List.length hd;simp only[List.length_append,Array.length_toList] at this;omega
 have HE:Aside (a=p.length/\m=p.length+l.length/\b=p.length+l.length+r.length/\d.size=d0.size/\l.length=1/\d.toList=p++l++r++z):=⟨ha,hm,hb,hs,hl1,hd⟩;have hma:(m:Int)-(a:Int)=1:=by omega
 have hmb:m<=b:=by omega
 have hbd:b<=d0.size:=by omega
 have hbl:b<4611686018427387904:=by omega
 have HK:Aside (d.size=d0.size):=hs;have HU:Aside (Up key lt r):=hur;have HF:Aside (∀x y,ltOf cf x y=lt (key x) (key y)):=hcf;clear S hC hd ha hm hb hs hl1 hds hur hcf
 go_enter fMerge,Tryz.ntmps131
 go_wp2
 go_loopg [10,11] (b-m) (fun kx s t wr=>∃(i j:Nat),s=.int .i64 i/\t=.int .i64 j/\m<=i/\i<=j/\j<=b/\j-i<=kx/\Aside (i=m\/ltOf cf d[i-1]! d[a]! =true)/\Aside (j=b\/ltOf cf d[j]! d[a]! =false)/\Aside (SWK enc k w0 blk off d wr))
 case atStart=>exact⟨m,b,by go_num,by go_num,by omega,by omega,by omega,by omega,Or.inl rfl,Or.inl rfl,S0⟩
 case round=>
  clear S0;obtain⟨i,j,rfl,rfl,hmi,hij,hjb,hkx,HI,HJ,S1⟩:=hrel;by_cases hlt:i<j
  ·have hltz:(i:Int)<(j:Int):=by omega
   go_wp2_with fail
   obtain⟨c,hc⟩:∃c:Nat,c=(i+j)/2:=⟨_,rfl⟩;have hcz:((i:Int)+(j:Int))/2=(c:Int):=by omega
   have hic:i<=c:=by omega
   have hcj:c<j:=by omega
   have hd:=HK.out;have ham:a<m:=by omega
   simp only[hcz];clear hcz hc hma
   cases hL:ltOf cf d[c]! d[a]! with
   |true=>
    have HL:Aside (ltOf cf d[c]! d[a]! =true):=hL;have ea1:((c:Int)).toNat=c:=by omega
    have pa1:(0:Int)<=(c:Int):=by omega
    have ba1:(c:Int)<(d0.size:Int):=by omega
    have ra1:IntKind.i64.wrap ((c:Int))=(c:Int):=by rw[IntKind.wrap_i64];omega
    have ec1:((a:Int)).toNat=a:=by omega
    have pc1:(0:Int)<=(a:Int):=by omega
    have bc1:(a:Int)<(d0.size:Int):=by omega
    have rc1:IntKind.i64.wrap ((a:Int))=(a:Int):=by rw[IntKind.wrap_i64];omega
    obtain⟨x1,hx1⟩:∃x,x=d[c]!:=⟨_,rfl⟩;obtain⟨y1,hy1⟩:∃x,x=d[a]!:=⟨_,rfl⟩;have la1:=S1.out.ld R (by omega) P (c) (by omega);have lb1:=S1.out.ld R (by omega) P (a) (by omega);rw[<-hx1] at la1;rw[<-hy1] at lb1;have hc1:=S1.out.cmp HC.out (by omega) x1 y1;have hv1:cf x1 y1<0:=by rw[hx1,hy1];exact of_decide_eq_true hL
    have hd1:decide (cf x1 y1<0)=true:=decide_eq_true hv1;clear hx1 hy1 hL hd
    go_quiet_grown (first|(go_at_fn g;refine Calls.grown_of (hc1 _ _)))
    have S2:Aside (SWK enc k w0 blk off d (grow (wr.drewN nq) osq)):=S1.out.grown nq osq;clear la1 lb1 hc1 S1 hv1 hd1 ea1 pa1 ba1 ra1 ec1 pc1 bc1 rc1;generalize grow (wr.drewN nq) osq=w2 at S2 ⊢;clear nq osq
    go_wp2
    go_roundg (j-(c+1))
    case measure=>omega
    case rel=>exact⟨c+1,j,by go_num,rfl,by omega,by omega,hjb,Nat.le_refl _,Or.inr (by rw[Nat.add_sub_cancel];exact HL.out),HJ,S2⟩
   |false=>
    have HL:Aside (ltOf cf d[c]! d[a]! =false):=hL;have ea1:((c:Int)).toNat=c:=by omega
    have pa1:(0:Int)<=(c:Int):=by omega
    have ba1:(c:Int)<(d0.size:Int):=by omega
    have ra1:IntKind.i64.wrap ((c:Int))=(c:Int):=by rw[IntKind.wrap_i64];omega
    have ec1:((a:Int)).toNat=a:=by omega
    have pc1:(0:Int)<=(a:Int):=by omega
    have bc1:(a:Int)<(d0.size:Int):=by omega
    have rc1:IntKind.i64.wrap ((a:Int))=(a:Int):=by rw[IntKind.wrap_i64];omega
    obtain⟨x1,hx1⟩:∃x,x=d[c]!:=⟨_,rfl⟩;obtain⟨y1,hy1⟩:∃x,x=d[a]!:=⟨_,rfl⟩;have la1:=S1.out.ld R (by omega) P (c) (by omega);have lb1:=S1.out.ld R (by omega) P (a) (by omega);rw[<-hx1] at la1;rw[<-hy1] at lb1;have hc1:=S1.out.cmp HC.out (by omega) x1 y1;have hv1:¬cf x1 y1<0:=by rw[hx1,hy1];exact of_decide_eq_false hL
    have hd1:decide (cf x1 y1<0)=false:=decide_eq_false hv1;clear hx1 hy1 hL hd
    go_quiet_grown (first|(go_at_fn g;refine Calls.grown_of (hc1 _ _)))
    have S2:Aside (SWK enc k w0 blk off d (grow (wr.drewN nq) osq)):=S1.out.grown nq osq;clear la1 lb1 hc1 S1 hv1 hd1 ea1 pa1 ba1 ra1 ec1 pc1 bc1 rc1;generalize grow (wr.drewN nq) osq=w2 at S2 ⊢;clear nq osq
    go_wp2
    go_roundg (c-i)
    case measure=>omega
    case rel=>exact⟨i,c,rfl,by go_num,hmi,by omega,by omega,Nat.le_refl _,HI,Or.inr HL.out,S2⟩
  ·have hltz:¬(i:Int)<(j:Int):=by omega
   have hij':i=j:=by omega
   have HJ2:Aside (i=b\/ltOf cf d[i]! d[a]! =false):=by rw[hij'];have:=HJ.out;rw[<-hij'] at this ⊢;exact this
   have hi1:1<=i:=by omega
   clear hij' HJ;obtain⟨w1,hw1⟩:∃W,W=wr:=⟨_,rfl⟩;rw[<-hw1] at S1 ⊢;clear hw1
   go_wp2
   go_loopg [13] (i-1-a) (fun kx s wr=>∃(c:Nat)(dk:Array α),s=.int .i64 c/\a<=c/\c<=i-1/\i-1-c<=kx/\Aside (dk.size=d0.size)/\Aside (dk.toList=p++r.take (c-a)++l++r.drop (c-a)++z)/\Aside (SWK enc k w0 blk off dk wr))
   case atStart=>exact⟨a,d,by go_num,by omega,by omega,by omega,HK,by show _=_;rw[HE.out.2.2.2.2.2];simp,S1⟩
   case round=>
    clear S1;obtain⟨c,dk,rfl,hac,hci,hkx2,HK2,HL2,S1⟩:=hrel;by_cases hlt2:c<i-1
    ·have hlt2z:(c:Int)<(i:Int)-1:=by omega
     have hdk:=HK2.out;have HL3:Aside ((swp dk c (c+1)).toList=p++r.take (c+1-a)++l++r.drop (c+1-a)++z):=by
      obtain⟨ha,hm,hb,hs,hl1,hd⟩:=HE.out;obtain⟨x,rfl⟩:=List.length_eq_one_iff.1 hl1;have hcr:c-a<r.length:=by omega
      have e:=HL2.out;rw[List.drop_eq_getElem_cons hcr] at e;have e2:dk.toList=(p++r.take (c-a))++x::([]++r[c-a]::(r.drop (c-a+1)++z)):=by rw[e];simp only[List.append_assoc,List.cons_append,List.nil_append]
      have e3:=(swp_list dk e2 c (c+1) (by simp;omega) (by simp;omega)).1;show _=_;rw[e3,show c+1-a=c-a+1 by omega,List.take_succ_eq_append_getElem hcr];simp only[List.append_assoc,List.cons_append,List.nil_append]
     clear hlt HL2
     go_wp2_with fail
     have ea2:((c:Int)).toNat=c:=by omega
     have pa2:(0:Int)<=(c:Int):=by omega
     have ba2:(c:Int)<(d0.size:Int):=by omega
     have ra2:IntKind.i64.wrap ((c:Int))=(c:Int):=by rw[IntKind.wrap_i64];omega
     have ec2:((c:Int)+1).toNat=c+1:=by omega
     have pc2:(0:Int)<=(c:Int)+1:=by omega
     have bc2:(c:Int)+1<(d0.size:Int):=by omega
     have rc2:IntKind.i64.wrap ((c:Int)+1)=(c:Int)+1:=by rw[IntKind.wrap_i64];omega
     have S2:Aside (SWK enc k w0 blk off (swp dk (c) (c+1)) ((wr.drew.setCells blk (off+(c)*k) (enc dk[c+1]!)).setCells blk (off+(c+1)*k) (enc dk[c]!))):=S1.out.swapped R (c) (c+1) (by omega) (by omega);have la2:=S1.out.ld1 R (by omega) P (c) (by omega);have lb2:=S1.out.ld1 R (by omega) P (c+1) (by omega);have sa2:=S1.out.st1 R (by omega) P (c) (by omega) dk[c+1]!;have sb2:=S1.out.st2 R (by omega) P (c) (c+1) (by omega) (by omega) dk[c+1]! dk[c]!;have na2:(enc dk[c]!).length=k:=R.hk _;have nb2:(enc dk[c+1]!).length=k:=R.hk _;generalize enc dk[c]! =cI2 at S2 la2 sb2 na2;generalize enc dk[c+1]! =cJ2 at S2 lb2 sa2 sb2 nb2;clear S1 hdk
     go_big_region_o
     clear la2 lb2 sa2 sb2 ea2 pa2 ba2 ra2 ec2 pc2 bc2 rc2 na2 nb2;generalize (wr.drew.setCells blk (off+(c)*k) cJ2).setCells blk (off+(c+1)*k) cI2=w2 at S2 ⊢
     go_wp2
     go_roundg (i-1-(c+1))
     case measure=>omega
     case rel=>exact⟨c+1,swp dk c (c+1),by go_num,by omega,by omega,Nat.le_refl _,by show _=_;rw[size_swp];exact HK2.out,HL3,S2⟩
    ·have hlt2z:¬(c:Int)<(i:Int)-1:=by omega
     go_wp2
     have hFIN:∃q:List α,dk.toList=p++q++z/\q.length=l.length+r.length/\SameK key q (l++r)/\Up key lt q:=by
      obtain⟨ha,hm,hb,hs,hl1,hd⟩:=HE.out;obtain⟨x,rfl⟩:=List.length_eq_one_iff.1 hl1;have hx:d[a]! =x:=by
       have:=at_l hd (i:=0) (by simp);rw[ha];simpa using this
      have hI:=HI.out;have hJ:=HJ2.out;rw[hx,HF.out] at hI hJ;have hur:Up key lt (r.take (c-a)++r.drop (c-a)):=by rw[List.take_append_drop];exact HU.out
      have h1:∀y∈r.take (c-a),lt (key y) (key x)=true:=take_lt Ln HU.out (by
       rcases hI with q|q
       ·exact Or.inl (by omega)
       ·by_cases q0:c-a=0
        ·exact Or.inl q0
        ·refine Or.inr ⟨by omega,?_⟩;have:=at_r hd (i:=c-a-1) (by omega);rw[show i-1=p.length+[x].length+(c-a-1) by simp at hm ⊢;omega,this] at q
         exact q)
      have h2:∀y∈r.drop (c-a),lt (key y) (key x)=false:=drop_ge Ln HU.out (by
       rcases hJ with q|q
       ·exact Or.inl (by simp at hm hb ⊢;omega)
       ·by_cases q0:r.length<=c-a
        ·exact Or.inl q0
        ·refine Or.inr ⟨by omega,?_⟩;have:=at_r hd (i:=c-a) (by omega);rw[show i=p.length+[x].length+(c-a) by simp at hm ⊢;omega,this] at q
         exact q)
      obtain⟨g1,g2⟩:=merge_left Ln hur h1 h2;rw[List.take_append_drop] at g1;refine⟨r.take (c-a)++x::r.drop (c-a),?_,?_,g1,g2⟩
      ·rw[HL2.out];simp only[List.append_assoc,List.cons_append,List.nil_append]
      ·have hcr:c-a<=r.length:=by simp at hm hb;omega
       simp only[List.length_append,List.length_cons,List.length_take,List.length_drop,List.length_nil];omega
     obtain⟨q,f1,f2,f3,f4⟩:=hFIN
     (try simp only[Exit.inBlock,Exit.then]);refine bodyPost_ret (results_none rfl _ _ _) rfl ?_
     exact⟨rfl,dk,q,HK2.out,f1,f2,f3,f4,S1.out⟩
set_option maxHeartbeats 8000000 in
set_option maxRecDepth 1000000 in
theorem merge_right_in(L:SortIn P k)(Ln:Lin lt)(enc:α->List Value)(cf:α->α->Int)(hcf:∀x y,ltOf cf x y=lt (key x) (key y))(g:Nat)(cb:Array Value)(eg:∀args w,(callFunc g args).run P w=.ok (.enter g args) w)(blk off cap:Nat)(d0:Array α)(w0:World)(hC:CmpLays P g cb enc k cf blk off d0.size w0)(R:RowK enc k w0 blk off d0)(hsz:d0.size<4611686018427387904)
  (d:Array α)(w:World)(a m b:Nat)(p l r z:List α)(hs:d.size=d0.size)(S:SWK enc k w0 blk off d w)(hd:d.toList=p++l++r++z)(ha:a=p.length)(hm:m=p.length+l.length)(hb:b=p.length+l.length+r.length)(hl1:1<l.length)(hr0:r.length=1)(hul:Up key lt l):
  Calls P 131 #[.slice (some ⟨blk,off,none⟩) d0.size cap,.int .i64 a,.int .i64 m,.int .i64 b,.func (.func g) #[] cb] w (Merged enc k w0 blk off d0.size key lt p l r z):=by
 obtain⟨mixed,fSwap,fRot,fMerge,fStable,aE,zE,t0,a0,z0,v0,t3,a3,z3,v3,t4,a4,z4,v4,t22,a22,z22,v22,t124,a124,z124,v124,t68,a68,z68,v68⟩:=L;have S0:Aside (SWK enc k w0 blk off d w):=S;have HC:Aside (CmpLays P g cb enc k cf blk off d0.size w0):=hC;have hds:p.length+l.length+r.length+z.length=d0.size:=by
  have:=congrArg List.length hd;simp only[List.length_append,Array.length_toList] at this;omega
 have HE:Aside (a=p.length/\m=p.length+l.length/\b=p.length+l.length+r.length/\d.size=d0.size/\r.length=1/\d.toList=p++l++r++z):=⟨ha,hm,hb,hs,hr0,hd⟩;have hma:((m:Int)-(a:Int)==1)=false:=by rw[beq_eq_false_iff_ne];omega
 have hbm:(b:Int)-(m:Int)=1:=by omega
 have ham:a<m:=by omega
 have hmd:m<d0.size:=by omega
 have hbl:m<4611686018427387904:=by omega
 have HK:Aside (d.size=d0.size):=hs;have HU:Aside (Up key lt l):=hul;have HF:Aside (∀x y,ltOf cf x y=lt (key x) (key y)):=hcf;clear S hC hd ha hm hb hs hl1 hr0 hds hul hcf
 go_enter fMerge,Tryz.ntmps131
 go_wp2
 go_loopg [14,15] (m-a) (fun kx s t wr=>∃(i j:Nat),s=.int .i64 i/\t=.int .i64 j/\a<=i/\i<=j/\j<=m/\j-i<=kx/\Aside (i=a\/ltOf cf d[m]! d[i-1]! =false)/\Aside (j=m\/ltOf cf d[m]! d[j]! =true)/\Aside (SWK enc k w0 blk off d wr))
 case atStart=>exact⟨a,m,by go_num,by go_num,by omega,by omega,by omega,by omega,Or.inl rfl,Or.inl rfl,S0⟩
 case round=>
  clear S0;obtain⟨i,j,rfl,rfl,hmi,hij,hjb,hkx,HI,HJ,S1⟩:=hrel;by_cases hlt:i<j
  ·have hltz:(i:Int)<(j:Int):=by omega
   go_wp2_with fail
   obtain⟨c,hc⟩:∃c:Nat,c=(i+j)/2:=⟨_,rfl⟩;have hcz:((i:Int)+(j:Int))/2=(c:Int):=by omega
   have hic:i<=c:=by omega
   have hcj:c<j:=by omega
   have hd:=HK.out;simp only[hcz];clear hcz hc hma hbm
   cases hL:ltOf cf d[m]! d[c]! with
   |true=>
    have HL:Aside (ltOf cf d[m]! d[c]! =true):=hL;have ea1:((m:Int)).toNat=m:=by omega
    have pa1:(0:Int)<=(m:Int):=by omega
    have ba1:(m:Int)<(d0.size:Int):=by omega
    have ra1:IntKind.i64.wrap ((m:Int))=(m:Int):=by rw[IntKind.wrap_i64];omega
    have ec1:((c:Int)).toNat=c:=by omega
    have pc1:(0:Int)<=(c:Int):=by omega
    have bc1:(c:Int)<(d0.size:Int):=by omega
    have rc1:IntKind.i64.wrap ((c:Int))=(c:Int):=by rw[IntKind.wrap_i64];omega
    obtain⟨x1,hx1⟩:∃x,x=d[m]!:=⟨_,rfl⟩;obtain⟨y1,hy1⟩:∃x,x=d[c]!:=⟨_,rfl⟩;have la1:=S1.out.ld R (by omega) P (m) (by omega);have lb1:=S1.out.ld R (by omega) P (c) (by omega);rw[<-hx1] at la1;rw[<-hy1] at lb1;have hc1:=S1.out.cmp HC.out (by omega) x1 y1;have hv1:cf x1 y1<0:=by rw[hx1,hy1];exact of_decide_eq_true hL
    have hd1:decide (cf x1 y1<0)=true:=decide_eq_true hv1;clear hx1 hy1 hL hd
    go_quiet_grown (first|(go_at_fn g;refine Calls.grown_of (hc1 _ _)))
    have S2:Aside (SWK enc k w0 blk off d (grow (wr.drewN nq) osq)):=S1.out.grown nq osq;clear la1 lb1 hc1 S1 hv1 hd1 ea1 pa1 ba1 ra1 ec1 pc1 bc1 rc1;generalize grow (wr.drewN nq) osq=w2 at S2 ⊢;clear nq osq
    go_wp2
    go_roundg (c-i)
    case measure=>omega
    case rel=>exact⟨i,c,rfl,by go_num,hmi,by omega,by omega,Nat.le_refl _,HI,Or.inr HL.out,S2⟩
   |false=>
    have HL:Aside (ltOf cf d[m]! d[c]! =false):=hL;have ea1:((m:Int)).toNat=m:=by omega
    have pa1:(0:Int)<=(m:Int):=by omega
    have ba1:(m:Int)<(d0.size:Int):=by omega
    have ra1:IntKind.i64.wrap ((m:Int))=(m:Int):=by rw[IntKind.wrap_i64];omega
    have ec1:((c:Int)).toNat=c:=by omega
    have pc1:(0:Int)<=(c:Int):=by omega
    have bc1:(c:Int)<(d0.size:Int):=by omega
    have rc1:IntKind.i64.wrap ((c:Int))=(c:Int):=by rw[IntKind.wrap_i64];omega
    obtain⟨x1,hx1⟩:∃x,x=d[m]!:=⟨_,rfl⟩;obtain⟨y1,hy1⟩:∃x,x=d[c]!:=⟨_,rfl⟩;have la1:=S1.out.ld R (by omega) P (m) (by omega);have lb1:=S1.out.ld R (by omega) P (c) (by omega);rw[<-hx1] at la1;rw[<-hy1] at lb1;have hc1:=S1.out.cmp HC.out (by omega) x1 y1;have hv1:¬cf x1 y1<0:=by rw[hx1,hy1];exact of_decide_eq_false hL
    have hd1:decide (cf x1 y1<0)=false:=decide_eq_false hv1;clear hx1 hy1 hL hd
    go_quiet_grown (first|(go_at_fn g;refine Calls.grown_of (hc1 _ _)))
    have S2:Aside (SWK enc k w0 blk off d (grow (wr.drewN nq) osq)):=S1.out.grown nq osq;clear la1 lb1 hc1 S1 hv1 hd1 ea1 pa1 ba1 ra1 ec1 pc1 bc1 rc1;generalize grow (wr.drewN nq) osq=w2 at S2 ⊢;clear nq osq
    go_wp2
    go_roundg (j-(c+1))
    case measure=>omega
    case rel=>exact⟨c+1,j,by go_num,rfl,by omega,by omega,hjb,Nat.le_refl _,Or.inr (by rw[Nat.add_sub_cancel];exact HL.out),HJ,S2⟩
  ·have hltz:¬(i:Int)<(j:Int):=by omega
   have hij':i=j:=by omega
   have HJ2:Aside (i=m\/ltOf cf d[m]! d[i]! =true):=by rw[hij'];have:=HJ.out;rw[<-hij'] at this ⊢;exact this
   clear hij' HJ;obtain⟨w1,hw1⟩:∃W,W=wr:=⟨_,rfl⟩;rw[<-hw1] at S1 ⊢;clear hw1
   go_wp2
   go_loopg [17] (m-i) (fun kx s wr=>∃(c:Nat)(dk:Array α),s=.int .i64 c/\i<=c/\c<=m/\c-i<=kx/\Aside (dk.size=d0.size)/\Aside (dk.toList=p++l.take (c-a)++r++l.drop (c-a)++z)/\Aside (SWK enc k w0 blk off dk wr))
   case atStart=>exact⟨m,d,by go_num,by omega,by omega,by omega,HK,by obtain⟨ha,hm,hb,hs,hl1,hd⟩:=HE.out;show _=_;rw[hd,List.take_of_length_le (by omega),List.drop_of_length_le (by omega)];simp,S1⟩
   case round=>
    clear S1;obtain⟨c,dk,rfl,hac,hci,hkx2,HK2,HL2,S1⟩:=hrel;by_cases hlt2:i<c
    ·obtain⟨c,rfl⟩:∃e,c=e+1:=⟨c-1,by omega⟩;have hlt2z:(i:Int)<((c+1:Nat):Int):=by omega
     have hdk:=HK2.out;have hcc:((c+1:Nat):Int)=(c:Int)+1:=by omega
     rw[hcc] at hlt2z ⊢;have HL3:Aside ((swp dk (c+1) c).toList=p++l.take (c-a)++r++l.drop (c-a)++z):=by
      obtain⟨ha,hm,hb,hs,hl1,hd⟩:=HE.out;obtain⟨y,rfl⟩:=List.length_eq_one_iff.1 hl1;have hcr:c-a<l.length:=by omega
      have e:=HL2.out;rw[show c+1-a=c-a+1 by omega,List.take_succ_eq_append_getElem hcr] at e;have e2:dk.toList=(p++l.take (c-a))++l[c-a]::([]++y::(l.drop (c-a+1)++z)):=by rw[e];simp only[List.append_assoc,List.cons_append,List.nil_append]
      have e3:=(swp_list dk e2 c (c+1) (by simp;omega) (by simp;omega)).2;show _=_;rw[e3,List.drop_eq_getElem_cons hcr];simp only[List.append_assoc,List.cons_append,List.nil_append]
     clear hlt HL2 hcc
     go_wp2_with fail
     have ea2:((c:Int)+1).toNat=c+1:=by omega
     have pa2:(0:Int)<=(c:Int)+1:=by omega
     have ba2:(c:Int)+1<(d0.size:Int):=by omega
     have ra2:IntKind.i64.wrap ((c:Int)+1)=(c:Int)+1:=by rw[IntKind.wrap_i64];omega
     have ec2:((c:Int)).toNat=c:=by omega
     have pc2:(0:Int)<=(c:Int):=by omega
     have bc2:(c:Int)<(d0.size:Int):=by omega
     have rc2:IntKind.i64.wrap ((c:Int))=(c:Int):=by rw[IntKind.wrap_i64];omega
     have S2:Aside (SWK enc k w0 blk off (swp dk (c+1) (c)) ((wr.drew.setCells blk (off+(c+1)*k) (enc dk[c]!)).setCells blk (off+(c)*k) (enc dk[c+1]!))):=S1.out.swapped R (c+1) (c) (by omega) (by omega);have la2:=S1.out.ld1 R (by omega) P (c+1) (by omega);have lb2:=S1.out.ld1 R (by omega) P (c) (by omega);have sa2:=S1.out.st1 R (by omega) P (c+1) (by omega) dk[c]!;have sb2:=S1.out.st2 R (by omega) P (c+1) (c) (by omega) (by omega) dk[c]! dk[c+1]!;have na2:(enc dk[c+1]!).length=k:=R.hk _;have nb2:(enc dk[c]!).length=k:=R.hk _;generalize enc dk[c+1]! =cI2 at S2 la2 sb2 na2;generalize enc dk[c]! =cJ2 at S2 lb2 sa2 sb2 nb2;clear S1 hdk
     go_big_region_o
     clear la2 lb2 sa2 sb2 ea2 pa2 ba2 ra2 ec2 pc2 bc2 rc2 na2 nb2;generalize (wr.drew.setCells blk (off+(c+1)*k) cJ2).setCells blk (off+(c)*k) cI2=w2 at S2 ⊢
     go_wp2
     go_roundg (c-i)
     case measure=>omega
     case rel=>exact⟨c,swp dk (c+1) c,by go_num,by omega,by omega,Nat.le_refl _,by show _=_;rw[size_swp];exact HK2.out,HL3,S2⟩
    ·have hlt2z:¬(i:Int)<(c:Int):=by omega
     go_wp2
     have hFIN:∃q:List α,dk.toList=p++q++z/\q.length=l.length+r.length/\SameK key q (l++r)/\Up key lt q:=by
      obtain⟨ha,hm,hb,hs,hl1,hd⟩:=HE.out;obtain⟨y,rfl⟩:=List.length_eq_one_iff.1 hl1;have hy:d[m]! =y:=by
       have:=at_r hd (i:=0) (by simp);rw[hm];simpa using this
      have hI:=HI.out;have hJ:=HJ2.out;rw[hy,HF.out] at hI hJ;have hul:Up key lt (l.take (c-a)++l.drop (c-a)):=by rw[List.take_append_drop];exact HU.out
      have h1:∀x∈l.take (c-a),lt (key y) (key x)=false:=take_le Ln HU.out (by
       rcases hI with q|q
       ·exact Or.inl (by omega)
       ·by_cases q0:c-a=0
        ·exact Or.inl q0
        ·refine Or.inr ⟨by omega,?_⟩;have:=at_l hd (i:=c-a-1) (by omega);rw[show i-1=p.length+(c-a-1) by omega,this] at q
         exact q)
      have h2:∀x∈l.drop (c-a),lt (key y) (key x)=true:=drop_gt Ln HU.out (by
       rcases hJ with q|q
       ·exact Or.inl (by omega)
       ·by_cases q0:l.length<=c-a
        ·exact Or.inl q0
        ·refine Or.inr ⟨by omega,?_⟩;have:=at_l hd (i:=c-a) (by omega);rw[show i=p.length+(c-a) by omega,this] at q
         exact q)
      obtain⟨g1,g2⟩:=merge_right Ln hul h1 h2;rw[List.take_append_drop] at g1;refine⟨l.take (c-a)++y::l.drop (c-a),?_,?_,g1,g2⟩
      ·rw[HL2.out];simp only[List.append_assoc,List.cons_append,List.nil_append]
      ·have hcr:c-a<=l.length:=by omega
       simp only[List.length_append,List.length_cons,List.length_take,List.length_drop,List.length_nil];omega
     obtain⟨q,f1,f2,f3,f4⟩:=hFIN
     (try simp only[Exit.inBlock,Exit.then]);refine bodyPost_ret (results_none rfl _ _ _) rfl ?_
     exact⟨rfl,dk,q,HK2.out,f1,f2,f3,f4,S1.out⟩
end
end Go.Proofs.YtnnnkaobhkeocaaGreatDoor
