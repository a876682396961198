/-
 Plain mathematics of layer 1: numbers as bytes in sevens of bits. It imports no program.
-/
import Derived.WalkKit
import Derived.WalkSpells
import Derived.WalkLawsBesides
import Derived.Lib.Hide
import Derived.Lib.Strings
import Derived.Deep.Draws
import Derived.Deep.AppendLies
import Derived.Laws.AppendOwnNone
import Derived.Test.YtnnnkaobhkeocaaGreatDoorRows
import Derived.ProofKit
import Derived.Laws.StructEq
import Derived.Maps.RangeWalk
import Derived.WideKeyRuns
namespace Go.Proofs.YtnnnkaobhkeocaaGreatDoor.PackMath
def IsU64(n:Nat):Prop:=n<18446744073709551616
def IsI64(n:Int):Prop:=-9223372036854775808<=n/\n<=9223372036854775807
def zig(n:Int):Nat:=if n<0 then(-2*n-1).toNat else(2*n).toNat
def numF:Nat->Nat->List UInt8
 |0,n=>[UInt8.ofNat n]
 |f+1,n=>if n<128 then [UInt8.ofNat n] else UInt8.ofNat (128+n%128)::numF f (n/128)
def numL(n:Nat):List UInt8:=numF 9 n
def NumLeft(n:Nat)(xs:List UInt8)(m f:Nat):Prop:=xs.length+f=9/\m<2*128 ^ f/\xs++numF f m=numL n
end Go.Proofs.YtnnnkaobhkeocaaGreatDoor.PackMath
namespace Go.Proofs.YtnnnkaobhkeocaaGreatDoor.PackMath
def takeF:Nat->List UInt8->Option (Nat×List UInt8)
 |_,[]=>none
 |i,b::r=>
  if i=9/\1<b.toNat then none
  else if 128<=b.toNat then(takeF (i+1) r).map fun x=>(b.toNat-128+128*x.1,x.2)
  else if b.toNat=0/\0<i then none else some (b.toNat,r)
def takeL(s:List UInt8):Option (Nat×List UInt8):=takeF 0 s
def takeRes:Option (Nat×List UInt8)->Value
 |some (m,t)=>.tuple #[.int .u64 (m:Int),.string ⟨t.toArray⟩,.int .i64 0]
 |none=>.tuple #[.int .u64 0,.string ⟨#[]⟩,.int .i64 2]
def TakeInv(s:List UInt8)(k acc:Nat):Prop:=
 k<=9/\k<=s.length/\acc<128 ^ k/\takeL s=(takeF k (s.drop k)).map fun x=>(acc+x.1*128 ^ k,x.2)
def unzig(m:Nat):Int:=if m%2=1 then-((m/2:Nat):Int)-1 else((m/2:Nat):Int)
def textL(l:List UInt8)(most:Int):Option (List UInt8×List UInt8):=
 match takeL l with
 |none=>none
 |some (n,t)=>if most<0\/most<(n:Int)\/t.length<n then none else some (t.take n,t.drop n)
end Go.Proofs.YtnnnkaobhkeocaaGreatDoor.PackMath
namespace Go.Proofs.YtnnnkaobhkeocaaGreatDoor
open Go.RowKit
theorem below_step{a b c:World}(h:Below a.heap.size a b)(k:Below b.heap.size b c):Below a.heap.size a c:=h.trans (k.mono h.size)
theorem below_drewN'{B:Nat}{a w:World}(h:Below B a w)(n:Nat):Below B a (w.drewN n):=⟨h.os,h.tape,h.output,h.size,h.block⟩
def KeptFrom(w W:World):Prop:=Below w.heap.size w W
theorem kept_below{w W:World}(h:KeptFrom w W):Below w.heap.size w W:=h
theorem heap_lt{w:World}{g:Nat}{o:Obj}(h:w.heap[g]?=some o):g<w.heap.size:=(Array.getElem?_eq_some_iff.1 h).1
def bcell(b:UInt8):Value:=.int .u8 (b.toNat:Int)
theorem one_cell(k:IntKind)(n:Int):∀u∈[Value.int k n],u.oneCell'=true:=by
 intro u hu;simp at hu;subst hu
 rfl
theorem data_get{s:ByteArray}{k:Nat}(h:k<s.size):s.data.toList[k]'(by simpa using h)=s[k]:=by simp;rfl
theorem take_next(s:ByteArray)(k:Nat)(h:k<s.size):s.data.toList.take (k+1)=s.data.toList.take k++[s[k]]:=by
 rw[List.take_succ_eq_append_getElem (by simpa using h)];rfl
end Go.Proofs.YtnnnkaobhkeocaaGreatDoor
namespace Go.Proofs.YtnnnkaobhkeocaaGreatDoor.StampMath
open PackMath
def sv(t r:Int):Value:=.agg #[.int .i64 t,.int .i64 r]
def lessB(t r t' r':Int):Bool:=decide (t<t')||(t==t'&&decide (r<r'))
def cmp(t r t' r':Int):Int:=if lessB t r t' r' then-1 else if lessB t' r' t r then 1 else 0
def mayB(t r:Int):Bool:=if t=0 then r==0 else decide (1<=t)&&decide (t<=1073741824)&&decide (0<=r)&&decide (r<=7)
theorem lessB_iff(t r t' r':Int):lessB t r t' r'=true↔t<t'\/t=t'/\r<r':=by
 simp[lessB]
theorem cmp_cases(t r t' r':Int):(cmp t r t' r'= -1/\(t<t'\/t=t'/\r<r'))\/(cmp t r t' r'=1/\(t'<t\/t'=t/\r'<r))\/(cmp t r t' r'=0/\t=t'/\r=r'):=by
 unfold cmp;have h1:=lessB_iff t r t' r';have h2:=lessB_iff t' r' t r;by_cases a:lessB t r t' r'=true
 ·rw[if_pos a];exact Or.inl ⟨rfl,h1.1 a⟩
 ·rw[if_neg a];by_cases b:lessB t' r' t r=true
  ·rw[if_pos b];exact Or.inr (Or.inl ⟨rfl,h2.1 b⟩)
  ·rw[if_neg b];refine Or.inr (Or.inr ⟨rfl,?_⟩);have h1':¬(t<t'\/t=t'/\r<r'):=fun h=>a (h1.2 h);have h2':¬(t'<t\/t'=t/\r'<r):=fun h=>b (h2.2 h);omega
theorem cmp_turn(t r t' r':Int):cmp t' r' t r= -cmp t r t' r':=by
 have h1:=cmp_cases t r t' r';have h2:=cmp_cases t' r' t r;omega
def maxL:List (Int×Int)->Int×Int
 | []=>(0,0)
 |x::r=>r.foldl (fun m y=>if lessB m.1 m.2 y.1 y.2 then y else m) x
end Go.Proofs.YtnnnkaobhkeocaaGreatDoor.StampMath
namespace Go.Proofs.YtnnnkaobhkeocaaGreatDoor.GraphMath
open StampMath
abbrev St:=Int×Int
structure Ino where
 id:St
 kind:Int
 links:Int
 mode:Int
 data:ByteArray
deriving DecidableEq
structure Ent where
 dir:St
 name:ByteArray
 ino:St
deriving DecidableEq
structure Gr where
 I:List Ino
 E:List Ent
def stA(s:St):Array Value:=#[.int .i64 s.1,.int .i64 s.2]
def inoA(x:Ino):Array Value:=#[.int .i64 x.id.1,.int .i64 x.id.2,.int .i64 x.kind,.int .i64 x.links,.int .i64 x.mode,.string x.data]
def entA(e:Ent):Array Value:=#[.int .i64 e.dir.1,.int .i64 e.dir.2,.string e.name,.int .i64 e.ino.1,.int .i64 e.ino.2]
def noIno:Ino:=⟨(0,0),0,0,0,⟨#[]⟩⟩
def newG:Gr:=⟨[⟨(0,0),1,0,0,⟨#[]⟩⟩],[]⟩
def linksE(E:List Ent)(id:St):Nat:=(E.filter fun e=>decide (e.ino=id)).length
def getG(g:Gr)(id:St):Option Ino:=(g.I.find? fun x=>decide (x.id=id)).map fun x=>{x with links:=(linksE g.E id:Int)}
def inodesG(g:Gr):List Ino:=g.I.map fun x=>(getG g x.id).getD noIno
def lookE(E:List Ent)(d:St)(nm:ByteArray):Option St:=(E.find? fun e=>decide (e.dir=d)&&decide (e.name=nm)).map fun e=>e.ino
def listE(E:List Ent)(d:St):List Ent:=E.filter fun e=>decide (e.dir=d)
def parentG(g:Gr)(d:St):Option St:=
 match getG g d with
 |none=>none
 |some x=>if x.kind=1 then(g.E.find? fun e=>decide (e.ino=d)).map fun e=>e.dir else none
def underN(g:Gr):Nat->St->St->Bool
 |0,_,_=>false
 |n+1,id,d=>if id=d then true else match parentG g id with
  |none=>false
  |some up=>underN g n up d
def underG(g:Gr)(id d:St):Bool:=underN g (g.I.length+1) id d
def lessS(a b:St):Bool:=lessB a.1 a.2 b.1 b.2
def aheadE(a b:Ent):Bool:=lessS a.dir b.dir||(decide (a.dir=b.dir)&&decide (a.name.data.toList<b.name.data.toList))
def putIn{α:Type}(f:α->Bool)(l:List α)(x:α):List α:=l.takeWhile f++x::l.dropWhile f
def makeG(g:Gr)(id:St)(kind:Int):Gr×Int:=
 if mayB id.1 id.2=false\/kind<1\/3<kind then(g,1)
 else if(getG g id).isSome then(g,4)
 else if 40<=g.I.length then(g,13)
 else(⟨putIn (fun x=>lessS x.id id) g.I ⟨id,kind,0,0,⟨#[]⟩⟩,g.E⟩,0)
def whyG(nameOk:Bool)(g:Gr)(e:Ent):Int:=
 if nameOk=false then 1
 else match getG g e.dir,getG g e.ino with
  |some a,some x=>
   if a.kind≠1 then 6
   else if(lookE g.E e.dir e.name).isSome then 4
   else if x.kind=1/\(e.ino=(0,0)\/underG g e.dir e.ino=true) then 8
   else if x.kind=1/\0<x.links\/6<=x.links then 12
   else 0
  |_,_=>3
def tieG(nameOk:Bool)(g:Gr)(e:Ent):Gr×Int:=
 if whyG nameOk g e=0 then(⟨g.I,putIn (fun a=>aheadE a e) g.E e⟩,0) else(g,whyG nameOk g e)
def untieG(g:Gr)(d:St)(nm:ByteArray):Gr×St×Int:=
 match lookE g.E d nm with
 |none=>(g,(0,0),3)
 |some id=>(⟨g.I,g.E.filter fun e=>!(decide (e.dir=d)&&decide (e.name=nm))⟩,id,0)
def dropG(g:Gr)(id:St):Gr×Int:=
 match getG g id with
 |none=>(g,3)
 |some x=>if id=(0,0) then(g,8) else if 0<x.links\/0<(listE g.E id).length then(g,7) else(⟨g.I.filter fun x=>!decide (x.id=id),g.E⟩,0)
def setG(g:Gr)(id:St)(mode:Int)(data:ByteArray):Gr×Int:=
 match getG g id with
 |none=>(g,3)
 |some _=>(⟨g.I.map fun x=>if x.id=id then {x with mode:=mode,data:=data} else x,g.E⟩,0)
theorem linksE_snoc(E:List Ent)(k:Nat)(h:k<E.length)(id:St):linksE (E.take (k+1)) id=if E[k].ino=id then linksE (E.take k) id+1 else linksE (E.take k) id:=by
 unfold linksE;rw[List.take_succ_eq_append_getElem h,List.filter_append];by_cases e:E[k].ino=id
 ·rw[if_pos e];simp[e]
 ·rw[if_neg e];simp[e]
theorem linksE_le(E:List Ent)(id:St):linksE E id<=E.length:=List.length_filter_le _ _
theorem find_none_take{α:Type}{p:α->Bool}{l:List α}{k:Nat}(h:k<l.length)(hn:(l.take k).find? p=none):(l.take (k+1)).find? p=if p l[k] then some l[k] else none:=by
 rw[List.take_succ_eq_append_getElem h,List.find?_append,hn]
 cases hp:p l[k]<;>simp[hp]
theorem find_take{α:Type}{p:α->Bool}{l:List α}{k:Nat}{x:α}(h:(l.take k).find? p=some x):l.find? p=some x:=by
 rw[<-List.take_append_drop k l,List.find?_append,h]
 rfl
end Go.Proofs.YtnnnkaobhkeocaaGreatDoor.GraphMath
namespace Go.Proofs.YtnnnkaobhkeocaaGreatDoor
open Go.RowKit
def TabIn(k:Nat)(W:World)(B:Nat)(A:Option Addr)(n:Nat)(rows:List (Array Value)):Prop:=
 rows.length=n/\(0<n->∃g o,A=some ⟨g,o,none⟩/\g<B/\∀j(h:j<rows.length) i v,rows[j][i]?=some v->W.cell? ⟨g,o+j*k+i,none⟩=some v)
theorem TabIn.below{k:Nat}{W W':World}{B:Nat}{A:Option Addr}{n:Nat}{rows:List (Array Value)}(h:TabIn k W B A n rows)(hb:Below B W W'):TabIn k W' B A n rows:=
 ⟨h.1,fun hn=>by
  obtain⟨g,o,e,hg,hc⟩:=h.2 hn
  exact⟨g,o,e,hg,fun j hj i v hv=>(hb.cell (p:=⟨g,o+j*k+i,none⟩) hg).trans (hc j hj i v hv)⟩⟩
theorem TabIn.more{k:Nat}{W:World}{B B':Nat}{A:Option Addr}{n:Nat}{rows:List (Array Value)}(h:TabIn k W B A n rows)(hB:B<=B'):TabIn k W B' A n rows:=
 ⟨h.1,fun hn=>by
  obtain⟨g,o,e,hg,hc⟩:=h.2 hn
  exact⟨g,o,e,by omega,hc⟩⟩
theorem TabIn.take{k:Nat}{W:World}{B:Nat}{A:Option Addr}{n:Nat}{rows:List (Array Value)}(h:TabIn k W B A n rows){m:Nat}(hm:m<=n):TabIn k W B A m (rows.take m):=
 ⟨by rw[List.length_take,h.1];omega,fun hn=>by
  obtain⟨g,o,e,hg,hc⟩:=h.2 (by omega);refine⟨g,o,e,hg,fun j hj i v hv=>?_⟩;rw[List.length_take] at hj;rw[List.getElem_take] at hv
  exact hc j (by omega) i v hv⟩
theorem TabIn.nil(k:Nat)(W:World)(B:Nat)(A:Option Addr):TabIn k W B A 0 []:=⟨rfl,fun h=>absurd h (by omega)⟩
def flat(rows:List (Array Value)):List Value:=rows.flatMap Array.toList
theorem flat_nil:flat []= []:=rfl
theorem flat_append(a b:List (Array Value)):flat (a++b)=flat a++flat b:=by simp[flat]
theorem flat_one(r:Array Value):flat [r]=r.toList:=by simp[flat]
theorem flat_len{k:Nat}:∀ {rows:List (Array Value)},(∀r∈rows,r.size=k)->(flat rows).length=rows.length*k
 | [],_=>by simp[flat]
 |r::l,h=>by
  have h1:=h r (List.mem_cons_self ..);have h2:=flat_len (rows:=l) fun x hx=>h x (List.mem_cons_of_mem _ hx);unfold flat at h2 ⊢;rw[List.flatMap_cons,List.length_append,h2,Array.length_toList,h1,List.length_cons,Nat.add_mul];omega
theorem flat_at{k:Nat}:∀ {rows:List (Array Value)},(∀r∈rows,r.size=k)->∀(j:Nat)(hj:j<rows.length)(i:Nat),i<k->(flat rows)[j*k+i]?=rows[j][i]?
 |r::l,h,0,_,i,hi=>by
  have h1:=h r (List.mem_cons_self ..);unfold flat;rw[List.flatMap_cons,List.getElem?_append_left (by rw[Array.length_toList];omega)];simp
 |r::l,h,j+1,hj,i,hi=>by
  have h1:=h r (List.mem_cons_self ..);have h2:=flat_at (rows:=l) (fun x hx=>h x (List.mem_cons_of_mem _ hx)) j (by simpa using hj) i hi;unfold flat at h2 ⊢;rw[List.flatMap_cons,List.getElem?_append_right (by rw[Array.length_toList,h1,Nat.add_mul];omega),Array.length_toList,h1];rw[show(j+1)*k+i-k=j*k+i by rw[Nat.add_mul];omega,h2]
  rfl
 | [],_,_,hj,_,_=>absurd hj (by simp)
theorem flat_out{k:Nat}{rows:List (Array Value)}(h:∀r∈rows,r.size=k){p:Nat}{v:Value}(hp:(flat rows)[p]?=some v):∃j i,∃hj:j<rows.length,p=j*k+i/\rows[j][i]?=some v:=by
 have hl:=flat_len h;have hlt:=(List.getElem?_eq_some_iff.1 hp).1;rw[hl] at hlt;have hk:0<k:=by
  rcases Nat.eq_zero_or_pos k with h0|h0
  ·subst h0;omega
  ·exact h0
 have hj:p/k<rows.length:=(Nat.div_lt_iff_lt_mul hk).2 hlt;have hi:=Nat.mod_lt p hk;have hpe:p=p/k*k+p%k:=by rw[Nat.mul_comm];exact(Nat.div_add_mod p k).symm
 refine⟨p/k,p%k,hj,hpe,?_⟩;rw[<-flat_at h _ hj _ hi,<-hpe];exact hp
theorem tab_add(g o i:Nat):Addr.add ⟨g,o,none⟩ i=⟨g,o+i,none⟩:=by
 unfold Addr.add
 split<;>simp_all
theorem tab_own{k:Nat}{W:World}{base:Nat}{e:TypeId}{v:Value}{n:Nat}{rows:List (Array Value)}(hk:∀r∈rows,r.size=k)(hn:rows.length=n)(h:W.ownsRow base e k v n (flat rows)):
  ∃(A:Option Addr)(c:Nat),v=.slice A n c/\TabIn k W W.heap.size A n rows/\n<=c/\c<=maxLen/\(A=Option.none->c=0):=by
 rcases h.2 with ⟨rfl,h0⟩|⟨g,cap,cur,rfl,hb,hg,hnc,hcm,_,_⟩
 ·exact⟨Option.none,0,by rw[h0],⟨hn,fun hn'=>by omega⟩,by omega,by decide,fun _=>rfl⟩
 ·refine⟨some ⟨g,0,Option.none⟩,cap,rfl,⟨hn,fun _=>⟨g,0,rfl,(Array.getElem?_eq_some_iff.1 hg).1,fun j hj i u hu=>?_⟩⟩,hnc,hcm,fun h=>by cases h⟩;have hi:i<k:=by
   have:=(Array.getElem?_eq_some_iff.1 hu).1;rw[hk _ (List.getElem_mem hj)] at this;exact this
  have q:=h.cells (g:=g) rfl (j*k+i) u (by rw[flat_at hk j hj i hi];exact hu);rw[tab_add] at q;rw[show(0:Nat)+j*k+i=0+(j*k+i) by omega];exact q
theorem flat_cells{rows:List (Array Value)}(hk:∀r∈rows,∀u∈r.toList,u.oneCell'=true):∀u∈flat rows,u.oneCell'=true:=by
 intro u hu;obtain⟨r,hr,hu⟩:=List.mem_flatMap.1 hu;exact hk r hr u hu
end Go.Proofs.YtnnnkaobhkeocaaGreatDoor
namespace Go.Proofs.YtnnnkaobhkeocaaGreatDoor
open Go.RowKit StampMath GraphMath
def EntsIn(W:World)(B:Nat)(A:Option Addr)(n:Nat)(E:List Ent):Prop:=TabIn 5 W B A n (E.map entA)
def InosIn(W:World)(B:Nat)(A:Option Addr)(n:Nat)(I:List Ino):Prop:=TabIn 6 W B A n (I.map inoA)
theorem EntsIn.len{W:World}{B:Nat}{A:Option Addr}{n:Nat}{E:List Ent}(h:EntsIn W B A n E):E.length=n:=by have:=h.1;rwa[List.length_map] at this
theorem InosIn.len{W:World}{B:Nat}{A:Option Addr}{n:Nat}{I:List Ino}(h:InosIn W B A n I):I.length=n:=by have:=h.1;rwa[List.length_map] at this
def EntAt(W:World)(g p:Nat)(e:Ent):Prop:=
 W.cell? ⟨g,p,none⟩=some (.int .i64 e.dir.1)/\W.cell? ⟨g,p+1,none⟩=some (.int .i64 e.dir.2)/\W.cell? ⟨g,p+2,none⟩=some (.string e.name)/\W.cell? ⟨g,p+3,none⟩=some (.int .i64 e.ino.1)/\W.cell? ⟨g,p+4,none⟩=some (.int .i64 e.ino.2)
def InoAt(W:World)(g p:Nat)(x:Ino):Prop:=
 W.cell? ⟨g,p,none⟩=some (.int .i64 x.id.1)/\W.cell? ⟨g,p+1,none⟩=some (.int .i64 x.id.2)/\W.cell? ⟨g,p+2,none⟩=some (.int .i64 x.kind)/\W.cell? ⟨g,p+3,none⟩=some (.int .i64 x.links)/\W.cell? ⟨g,p+4,none⟩=some (.int .i64 x.mode)/\W.cell? ⟨g,p+5,none⟩=some (.string x.data)
theorem EntsIn.row{W:World}{B:Nat}{A:Option Addr}{n:Nat}{E:List Ent}(h:EntsIn W B A n E)(hn:0<n):∃g o,A=some ⟨g,o,none⟩/\g<B/\∀k(hk:k<E.length),EntAt W g (o+k*5) E[k]:=by
 obtain⟨g,o,e,hg,hc⟩:=h.2 hn;refine⟨g,o,e,hg,fun k hk=>?_⟩;have hk':k<(E.map entA).length:=by simpa using hk
 have he:(E.map entA)[k]=entA E[k]:=by simp
 exact⟨hc k hk' 0 _ (by rw[he];rfl),hc k hk' 1 _ (by rw[he];rfl),hc k hk' 2 _ (by rw[he];rfl),hc k hk' 3 _ (by rw[he];rfl),hc k hk' 4 _ (by rw[he];rfl)⟩
theorem InosIn.row{W:World}{B:Nat}{A:Option Addr}{n:Nat}{I:List Ino}(h:InosIn W B A n I)(hn:0<n):∃g o,A=some ⟨g,o,none⟩/\g<B/\∀k(hk:k<I.length),InoAt W g (o+k*6) I[k]:=by
 obtain⟨g,o,e,hg,hc⟩:=h.2 hn;refine⟨g,o,e,hg,fun k hk=>?_⟩;have hk':k<(I.map inoA).length:=by simpa using hk
 have he:(I.map inoA)[k]=inoA I[k]:=by simp
 exact⟨hc k hk' 0 _ (by rw[he];rfl),hc k hk' 1 _ (by rw[he];rfl),hc k hk' 2 _ (by rw[he];rfl),hc k hk' 3 _ (by rw[he];rfl),hc k hk' 4 _ (by rw[he];rfl),hc k hk' 5 _ (by rw[he];rfl)⟩
theorem EntAt.below{W W':World}{B g p:Nat}{e:Ent}(h:EntAt W g p e)(hb:Below B W W')(hg:g<B):EntAt W' g p e:=
 ⟨(hb.cell (p:=⟨g,p,none⟩) hg).trans h.1,(hb.cell (p:=⟨g,p+1,none⟩) hg).trans h.2.1,(hb.cell (p:=⟨g,p+2,none⟩) hg).trans h.2.2.1,(hb.cell (p:=⟨g,p+3,none⟩) hg).trans h.2.2.2.1,(hb.cell (p:=⟨g,p+4,none⟩) hg).trans h.2.2.2.2⟩
theorem InoAt.below{W W':World}{B g p:Nat}{x:Ino}(h:InoAt W g p x)(hb:Below B W W')(hg:g<B):InoAt W' g p x:=
 ⟨(hb.cell (p:=⟨g,p,none⟩) hg).trans h.1,(hb.cell (p:=⟨g,p+1,none⟩) hg).trans h.2.1,(hb.cell (p:=⟨g,p+2,none⟩) hg).trans h.2.2.1,(hb.cell (p:=⟨g,p+3,none⟩) hg).trans h.2.2.2.1,(hb.cell (p:=⟨g,p+4,none⟩) hg).trans h.2.2.2.2.1,(hb.cell (p:=⟨g,p+5,none⟩) hg).trans h.2.2.2.2.2⟩
theorem bytes_same{a b:ByteArray}(h:a.toList=b.toList):a=b:=by
 rw[ByteArray.toList_eq,ByteArray.toList_eq] at h;apply ByteArray.ext;exact Array.toList_inj.1 h
theorem run_eqSt(a b c d:Int)(W:World):(Op.equalIn 10000 24 (.agg #[.int .i64 a,.int .i64 b]) (.agg #[.int .i64 c,.int .i64 d])).run Tryz.prog W=.ok (decide ((a,b)=(c,d))) W:=by
 go_simp
 by_cases h1:a=c
 ·by_cases h2:b=d
  ·simp[h1,h2]
  ·simp[h1,h2]
 ·simp[h1]
theorem eqSt_yes{a c:St}(h:a=c)(W:World):(Op.equalIn 10000 24 (.agg #[.int .i64 a.1,.int .i64 a.2]) (.agg #[.int .i64 c.1,.int .i64 c.2])).run Tryz.prog W=.ok true W:=by
 rw[run_eqSt,decide_eq_true (by rw[h])]
theorem eqSt_no{a c:St}(h:¬a=c)(W:World):(Op.equalIn 10000 24 (.agg #[.int .i64 a.1,.int .i64 a.2]) (.agg #[.int .i64 c.1,.int .i64 c.2])).run Tryz.prog W=.ok false W:=by
 rw[run_eqSt,decide_eq_false (fun e=>h (Prod.ext (congrArg Prod.fst e) (congrArg Prod.snd e)))]
theorem ino_cells{w:World}{g:Nat}{x:Ino}{T:TypeId}(h:w.heap[g]?=some (.cells (inoA x) T (0,0))):InoAt w g 0 x:=
 ⟨cell_of_row _ _ 0 _ _ (0,0) h,cell_of_row _ _ 1 _ _ (0,0) h,cell_of_row _ _ 2 _ _ (0,0) h,cell_of_row _ _ 3 _ _ (0,0) h,cell_of_row _ _ 4 _ _ (0,0) h,cell_of_row _ _ 5 _ _ (0,0) h⟩
theorem ino_free{w:World}{g:Nat}{x:Ino}{T:TypeId}(h:w.heap[g]?=some (.cells (inoA x) T (0,0))):
  w.frozen? ⟨g,0,none⟩=false/\w.frozen? ⟨g,1,none⟩=false/\w.frozen? ⟨g,2,none⟩=false/\w.frozen? ⟨g,3,none⟩=false/\w.frozen? ⟨g,4,none⟩=false/\w.frozen? ⟨g,5,none⟩=false:=
 ⟨frozen_of_row _ _ 0 _ _ h,frozen_of_row _ _ 1 _ _ h,frozen_of_row _ _ 2 _ _ h,frozen_of_row _ _ 3 _ _ h,frozen_of_row _ _ 4 _ _ h,frozen_of_row _ _ 5 _ _ h⟩
theorem two_cells{w:World}{g:Nat}{a b:Value}{T:TypeId}(h:w.heap[g]?=some (.cells #[a,b] T (0,0))):w.cell? ⟨g,0,none⟩=some a/\w.cell? ⟨g,1,none⟩=some b:=
 ⟨cell_of_row _ _ 0 _ _ (0,0) h,cell_of_row _ _ 1 _ _ (0,0) h⟩
theorem two_free{w:World}{g:Nat}{a b:Value}{T:TypeId}(h:w.heap[g]?=some (.cells #[a,b] T (0,0))):w.frozen? ⟨g,0,none⟩=false/\w.frozen? ⟨g,1,none⟩=false:=
 ⟨frozen_of_row _ _ 0 _ _ h,frozen_of_row _ _ 1 _ _ h⟩
theorem below_six{B:Nat}{w W:World}(h:Below B w W){g:Nat}(hg:B<=g)(a b c d e f:Value):
  Below B w ((((((W.setCell ⟨g,0,none⟩ a).setCell ⟨g,1,none⟩ b).setCell ⟨g,2,none⟩ c).setCell ⟨g,3,none⟩ d).setCell ⟨g,4,none⟩ e).setCell ⟨g,5,none⟩ f):=
 (((((h.setCell hg _).setCell hg _).setCell hg _).setCell hg _).setCell hg _).setCell hg _
theorem ino_put{W:World}{g:Nat}{z:Ino}{T:TypeId}(h:W.heap[g]?=some (.cells (inoA z) T (0,0)))(y:Ino):
  ((((((W.setCell ⟨g,0,none⟩ (.int .i64 y.id.1)).setCell ⟨g,1,none⟩ (.int .i64 y.id.2)).setCell ⟨g,2,none⟩ (.int .i64 y.kind)).setCell ⟨g,3,none⟩ (.int .i64 y.links)).setCell ⟨g,4,none⟩ (.int .i64 y.mode)).setCell ⟨g,5,none⟩ (.string y.data)).heap[g]?=some (.cells (inoA y) T (0,0)):=by
 rw[heap_setCell_same _ _ _ _ _ _ (heap_setCell_same _ _ _ _ _ _ (heap_setCell_same _ _ _ _ _ _ (heap_setCell_same _ _ _ _ _ _ (heap_setCell_same _ _ _ _ _ _ (heap_setCell_same _ _ _ _ _ _ h)))))]
 rfl
theorem new_behind{W W':World}{o:Obj}(hb:Below (W.alloc o).drew.heap.size (W.alloc o).drew W'):W'.heap[W.heap.size]?=some o/\Below W.heap.size W W':=
 ⟨(hb.block _ (heap_lt (heap_alloc_new W o))).trans (heap_alloc_new W o),below_step (((Below.refl _ W).alloc (Nat.le_refl _) o).drew) hb⟩
theorem ent_cells{w:World}{g:Nat}{x:Ent}{T:TypeId}(h:w.heap[g]?=some (.cells (entA x) T (0,0))):EntAt w g 0 x:=
 ⟨cell_of_row _ _ 0 _ _ (0,0) h,cell_of_row _ _ 1 _ _ (0,0) h,cell_of_row _ _ 2 _ _ (0,0) h,cell_of_row _ _ 3 _ _ (0,0) h,cell_of_row _ _ 4 _ _ (0,0) h⟩
end Go.Proofs.YtnnnkaobhkeocaaGreatDoor
namespace Go.Proofs.YtnnnkaobhkeocaaGreatDoor
open Go.RowKit
theorem wpList_append_tab{P:Program}{w:World}{ops:Array Oper}{rest:List Oper}{o:Oper}{a:Act}{Q:Exit->Act->World->Prop}(hgd:o.guard=none)(s x:Operand)(t:TypeId)
  (ho:o.op=.call {callee:=.builtin .append,args:=#[s,x],argTypes:=#[t,t]})
  (base:Nat)(e:TypeId)(i:TypeInfo)(z:Value)(k bytes:Nat)(ht:P.underlying t=some (.slice e))(hi:P.info? e=some i)(hz:i.zero=some z)
  (hsize:i.size=k)(hby:i.bytes=bytes)(hzs:z.cells.size=k)(hk:0<k)
  (v:Value)(n:Nat)(rows:List (Array Value))(hs:a.eval s=v)(hown:w.ownsRow base e k v n (flat rows))
  (A:Option Addr)(m c B:Nat)(ys:List (Array Value))(hx:a.eval x=.slice A m c)(hr:TabIn k w B A m ys)(hA:A=none->c=0)
  (hyk:∀r∈ys,r.size=k)(hy1:∀r∈ys,∀u∈r.toList,u.oneCell'=true)
  (h63:n+m<=maxLen)(hbytes:(n+m)*bytes<=140737488355328)(hbase:base<=w.heap.size)
  (h:∀v' w',w'.ownsRow base e k v' (n+m) (flat (rows++ys))->w.grownBy w' v.ownBlock->wpList P ops Q rest (a.put o.dst v') w'):wpList P ops Q (o::rest) a w:=by
 cases A with
 |none=>
  have hm:m=0:=by
   rcases Nat.eq_zero_or_pos m with h0|h0
   ·exact h0
   ·obtain⟨g,o',e',_⟩:=hr.2 h0
    cases e'
  subst hm;have hy:ys= []:=List.eq_nil_of_length_eq_zero hr.1;subst hy;rw[hA rfl] at hx;refine wpList_append_own_none hgd s x t ho base e i k ht hi v n (flat rows) hs hown hx (h v w ?_ (World.grownBy.refl w _));rw[List.append_nil];exact hown
 |some ad=>
  refine wpList_append_own w hgd s x t ho base e i z k bytes ht hi hz hsize hby hzs hk v n (flat rows) hs hown ad m c (flat ys) hx (by rw[flat_len hyk,hr.1]) ?_ (flat_cells hy1) h63 hbytes hbase fun v' w' h2 h3 _=>h v' w' (by rw[flat_append];exact h2) h3;intro j u hu;obtain⟨jj,i',hj,rfl,hv⟩:=flat_out hyk hu;obtain⟨g,o',e',_,hc⟩:=hr.2 (by have:=hr.1;omega)
  injection e' with e'
  subst e';rw[tab_add,<-Nat.add_assoc];exact hc jj hj i' u hv
theorem TabIn.drop{k:Nat}{W:World}{B:Nat}{g o n:Nat}{rows:List (Array Value)}(h:TabIn k W B (some ⟨g,o,none⟩) n rows){m:Nat}(hm:m<=n):TabIn k W B (some ⟨g,o+m*k,none⟩) (n-m) (rows.drop m):=
 ⟨by rw[List.length_drop,h.1],fun hn=>by
  obtain⟨g',o',e,hg,hc⟩:=h.2 (by omega)
  injection e with e
  injection e with e1 e2
  subst e1 e2;refine⟨g,o+m*k,rfl,hg,fun j hj i v hv=>?_⟩;rw[List.length_drop] at hj;rw[List.getElem_drop] at hv;have q:=hc (m+j) (by omega) i v hv;rw[show o+m*k+j*k+i=o+(m+j)*k+i by rw[Nat.add_mul];omega]
  exact q⟩
theorem grownBy_set(W:World)(b i:Nat)(v:Value):W.grownBy (W.setCell ⟨b,i,none⟩ v) (some b):=
 ⟨rfl,rfl,rfl,by simp,fun k _ hk=>heap_setCell_other _ _ _ _ (fun e=>hk (by dsimp only at e;rw[e]))⟩
theorem own_set2{W:World}{base:Nat}{e:TypeId}{k:Nat}{v:Value}{n:Nat}{xs:List Value}(h:W.ownsRow base e k v n xs){b:Nat}(hb:b<base)(x y:Value):((W.setCell ⟨b,0,none⟩ x).setCell ⟨b,1,none⟩ y).ownsRow base e k v n xs:=by
 have hne:v.ownBlock=none\/v.ownBlock≠some b:=Or.inr fun e=>by have:=(h.lt b e).1;omega
 exact(h.kept (grownBy_set W b 0 x) hne).kept (grownBy_set _ b 1 y) hne
theorem own_empty(w:World)(base:Nat)(e:TypeId)(k:Nat)(hb:base<=w.heap.size):(w.alloc (.cells #[] e)).ownsRow base e k (.slice (some ⟨w.heap.size,0,none⟩) 0 0) 0 (flat []):=
 ⟨by simp[flat],Or.inr ⟨w.heap.size,0,#[],rfl,hb,heap_alloc_new w _,Nat.le_refl _,by decide,by simp,by simp[flat]⟩⟩
theorem take_while_at{α:Type}{f:α->Bool}:∀ {l:List α}{k:Nat},k<=l.length->(∀j(h:j<l.length),j<k->f l[j]=true)->(∀h:k<l.length,f l[k]=false)->l.take k=l.takeWhile f/\l.drop k=l.dropWhile f
 | [],k,hk,_,_=>by simp at hk;subst hk;simp
 |a::l,0,_,_,h2=>by
  have:=h2 (by simp);simp at this;simp[this]
 |a::l,k+1,hk,h1,h2=>by
  have ha:=h1 0 (by simp) (by omega);simp at ha;obtain⟨i1,i2⟩:=take_while_at (l:=l) (k:=k) (by simpa using hk) (fun j hj hjk=>by have:=h1 (j+1) (by simpa using hj) (by omega);simpa using this) (fun hkl=>by have:=h2 (by simpa using hkl);simpa using this);simp[ha,i1,i2]
end Go.Proofs.YtnnnkaobhkeocaaGreatDoor
namespace Go.Proofs.YtnnnkaobhkeocaaGreatDoor
open Go.RowKit StampMath GraphMath
theorem ent_infos:(Tryz.prog.info? 126).map (fun i=>(i.zero,i.size,i.bytes))=some (some (.agg #[.int .i64 0,.int .i64 0,.string ⟨#[]⟩,.int .i64 0,.int .i64 0]),5,48):=by kernel_rfl
theorem ino_infos:(Tryz.prog.info? 102).map (fun i=>(i.zero,i.size,i.bytes))=some (some (.agg #[.int .i64 0,.int .i64 0,.int .i64 0,.int .i64 0,.int .i64 0,.string ⟨#[]⟩]),6,56):=by kernel_rfl
theorem row_there(w:World)(T:TypeId)(r:Array Value):∀j u,r.toList[j]?=some u->(w.alloc (.cells r T)).cell? (Addr.add ⟨w.heap.size,0,none⟩ j)=some u:=by
 intro j u hj;rw[tab_add];rw[Nat.zero_add,cell_of_row _ _ j _ _ (0,0) (heap_alloc_new w _)]
 simpa using hj
theorem ent_one(e:Ent):∀u∈(entA e).toList,u.oneCell'=true:=by
 intro u hu;simp[entA] at hu;rcases hu with rfl|rfl|rfl|rfl|rfl<;>rfl
theorem ino_one(x:Ino):∀u∈(inoA x).toList,u.oneCell'=true:=by
 intro u hu;simp[inoA] at hu;rcases hu with rfl|rfl|rfl|rfl|rfl|rfl<;>rfl
theorem ents_own{W:World}{base:Nat}{v:Value}{n:Nat}{E:List Ent}(hn:E.length=n)(h:W.ownsRow base 126 5 v n (flat (E.map entA))):
  ∃(A:Option Addr)(c:Nat),v=.slice A n c/\EntsIn W W.heap.size A n E/\n<=c/\c<=maxLen/\(A=Option.none->c=0):=
 tab_own (k:=5) (fun r hr=>by obtain⟨e,_,rfl⟩:=List.mem_map.1 hr;rfl) (by simpa using hn) h
theorem inos_own{W:World}{base:Nat}{v:Value}{n:Nat}{I:List Ino}(hn:I.length=n)(h:W.ownsRow base 102 6 v n (flat (I.map inoA))):
  ∃(A:Option Addr)(c:Nat),v=.slice A n c/\InosIn W W.heap.size A n I/\n<=c/\c<=maxLen/\(A=Option.none->c=0):=
 tab_own (k:=6) (fun r hr=>by obtain⟨e,_,rfl⟩:=List.mem_map.1 hr;rfl) (by simpa using hn) h
theorem flat_ent(E:List Ent)(e:Ent):flat (E.map entA)++(entA e).toList=flat ((E++[e]).map entA):=by simp[flat]
theorem flat_ino(I:List Ino)(x:Ino):flat (I.map inoA)++(inoA x).toList=flat ((I++[x]).map inoA):=by simp[flat]
def EntsPost(E:List Ent)(w:World)(e:Ending)(w':World):Prop:=
 ∃(A:Option Addr)(c:Nat),e=.returned (.slice A E.length c)/\EntsIn w' w'.heap.size A E.length E/\E.length<=c/\c<=maxLen/\(A=none->c=0)/\Below w.heap.size w w'
def InosPost(I:List Ino)(w:World)(e:Ending)(w':World):Prop:=
 ∃(A:Option Addr)(c:Nat),e=.returned (.slice A I.length c)/\InosIn w' w'.heap.size A I.length I/\I.length<=c/\c<=maxLen/\(A=none->c=0)/\Below w.heap.size w w'
def EntsNew(E:List Ent)(w:World)(e:Ending)(w':World):Prop:=
 ∃v,e=.returned v/\w'.ownsRow w.heap.size 126 5 v E.length (flat (E.map entA))/\Below w.heap.size w w'
def InosNew(I:List Ino)(w:World)(e:Ending)(w':World):Prop:=
 ∃v,e=.returned v/\w'.ownsRow w.heap.size 102 6 v I.length (flat (I.map inoA))/\Below w.heap.size w w'
end Go.Proofs.YtnnnkaobhkeocaaGreatDoor
namespace Go.Proofs.YtnnnkaobhkeocaaGreatDoor.GraphMath
open StampMath
def Gr.isDir(g:Gr)(id:St):Prop:=∃x∈g.I,x.id=id/\x.kind=1
structure Gr.ok (g:Gr):Prop where
 sortI:g.I.Pairwise fun a b=>lessS a.id b.id=true
 sortE:g.E.Pairwise fun a b=>aheadE a b=true
 few:g.I.length<=40
 links0:∀x∈g.I,x.links=0
 kinds:∀x∈g.I,1<=x.kind/\x.kind<=3
 may:∀x∈g.I,mayB x.id.1 x.id.2=true
 root:∃x∈g.I,x.id=(0,0)/\x.kind=1
 dirs:∀e∈g.E,g.isDir e.dir
 inos:∀e∈g.E,∃x∈g.I,x.id=e.ino
 noRoot:∀e∈g.E,e.ino≠(0,0)
 six:∀id,linksE g.E id<=6
 one:∀id,g.isDir id->linksE g.E id<=1
 rank:∃f:St->Nat,∀e∈g.E,g.isDir e.ino->f e.dir<f e.ino
theorem lessS_irrefl(a:St):lessS a a=false:=by
 rw[Bool.eq_false_iff];intro h;have:=(lessB_iff _ _ _ _).1 h;omega
theorem lessS_trans{a b c:St}(h1:lessS a b=true)(h2:lessS b c=true):lessS a c=true:=by
 have h1:=(lessB_iff _ _ _ _).1 h1;have h2:=(lessB_iff _ _ _ _).1 h2;exact(lessB_iff _ _ _ _).2 (by omega)
theorem lessS_total{a b:St}(h:lessS a b=false)(hne:a≠b):lessS b a=true:=by
 have h1:¬(a.1<b.1\/a.1=b.1/\a.2<b.2):=fun q=>by rw[show lessS a b=true from(lessB_iff _ _ _ _).2 q] at h;cases h
 refine(lessB_iff _ _ _ _).2 ?_;have h2:¬(a.1=b.1/\a.2=b.2):=fun q=>hne (Prod.ext q.1 q.2);omega
theorem Gr.ok.ids{g:Gr}(h:g.ok){x y:Ino}(hx:x∈g.I)(hy:y∈g.I)(he:x.id=y.id):x=y:=by
 have hp:=h.sortI;obtain⟨i,hi,rfl⟩:=List.getElem_of_mem hx;obtain⟨j,hj,rfl⟩:=List.getElem_of_mem hy;rcases Nat.lt_trichotomy i j with h1|h1|h1
 ·have:=List.pairwise_iff_getElem.1 hp i j hi hj h1;rw[he,lessS_irrefl] at this
  cases this
 ·subst h1;rfl
 ·have:=List.pairwise_iff_getElem.1 hp j i hj hi h1;rw[he,lessS_irrefl] at this
  cases this
theorem find_id{I:List Ino}(hid:∀x∈I,∀y∈I,x.id=y.id->x=y){x:Ino}(hx:x∈I):I.find? (fun y=>decide (y.id=x.id))=some x:=by
 cases h:I.find? (fun y=>decide (y.id=x.id)) with
 |none=>
  have:=List.find?_eq_none.1 h x hx;simp at this
 |some y=>
  have h1:=List.find?_some h;have h2:=List.mem_of_find?_eq_some h;simp at h1;exact congrArg some (hid y h2 x hx h1)
theorem Gr.ok.get{g:Gr}(h:g.ok){x:Ino}(hx:x∈g.I):getG g x.id=some {x with links:=(linksE g.E x.id:Int)}:=by
 unfold getG;rw[find_id (fun a ha b hb=>h.ids ha hb) hx]
 rfl
theorem get_none{g:Gr}{id:St}(h:getG g id=none):∀x∈g.I,x.id≠id:=by
 intro x hx e;unfold getG at h;rw[Option.map_eq_none_iff] at h;have:=List.find?_eq_none.1 h x hx;simp[e] at this
theorem get_some{g:Gr}{id:St}{y:Ino}(h:getG g id=some y):∃x∈g.I,x.id=id/\y= {x with links:=(linksE g.E id:Int)}:=by
 unfold getG at h;rw[Option.map_eq_some_iff] at h;obtain⟨x,hx,rfl⟩:=h;have h1:=List.find?_some hx;simp at h1;exact⟨x,List.mem_of_find?_eq_some hx,h1,rfl⟩
theorem Gr.ok.inodes{g:Gr}(h:g.ok):inodesG g=g.I.map fun x=>{x with links:=(linksE g.E x.id:Int)}:=by
 unfold inodesG;apply List.map_congr_left;intro x hx;rw[h.get hx]
 rfl
theorem new_okG:newG.ok where
 sortI:=by unfold newG;exact List.pairwise_singleton ..
 sortE:=List.Pairwise.nil
 few:=by unfold newG;decide
 links0:=by intro x hx;simp[newG] at hx;subst hx;rfl
 kinds:=by intro x hx;simp[newG] at hx;subst hx;exact⟨by decide,by decide⟩
 may:=by intro x hx;simp[newG] at hx;subst hx;decide
 root:=⟨⟨(0,0),1,0,0,⟨#[]⟩⟩,by simp[newG],rfl,rfl⟩
 dirs:=by intro e he;simp[newG] at he
 inos:=by intro e he;simp[newG] at he
 noRoot:=by intro e he;simp[newG] at he
 six:=fun id=>by simp[newG,linksE]
 one:=fun id _=>by simp[newG,linksE]
 rank:=⟨fun _=>0,by intro e he;simp[newG] at he⟩
end Go.Proofs.YtnnnkaobhkeocaaGreatDoor.GraphMath
namespace Go.Proofs.YtnnnkaobhkeocaaGreatDoor.GraphMath
open StampMath
theorem putIn_mem{α:Type}{f:α->Bool}{l:List α}{x y:α}:y∈putIn f l x↔y=x\/y∈l:=by
 unfold putIn;rw[List.mem_append,List.mem_cons]
 constructor
 ·rintro(h|h|h)
  ·exact Or.inr ((List.takeWhile_prefix f).subset h)
  ·exact Or.inl h
  ·exact Or.inr ((List.dropWhile_suffix f).subset h)
 ·rintro(h|h)
  ·exact Or.inr (Or.inl h)
  ·rw[<-List.takeWhile_append_dropWhile (p:=f) (l:=l),List.mem_append] at h;rcases h with h|h
   ·exact Or.inl h
   ·exact Or.inr (Or.inr h)
theorem putIn_len{α:Type}(f:α->Bool)(l:List α)(x:α):(putIn f l x).length=l.length+1:=by
 unfold putIn;have h:=congrArg List.length (List.takeWhile_append_dropWhile (p:=f) (l:=l));rw[List.length_append] at h;rw[List.length_append,List.length_cons];omega
theorem all_take{α:Type}{f:α->Bool}:∀ {l:List α}{a:α},a∈l.takeWhile f->f a=true
 |b::l,a,h=>by
  rw[List.takeWhile_cons] at h;by_cases hb:f b=true
  ·rw[if_pos hb,List.mem_cons] at h;rcases h with rfl|h
   ·exact hb
   ·exact all_take h
  ·rw[if_neg hb] at h
   cases h
theorem putIn_sorted{α:Type}{r:α->α->Bool}{l:List α}{x:α}(trans:∀ {a b c},r a b=true->r b c=true->r a c=true)(tot:∀a∈l,r a x=false->r x a=true)(h:l.Pairwise fun a b=>r a b=true):
  (putIn (fun a=>r a x) l x).Pairwise fun a b=>r a b=true:=by
 unfold putIn;have hs:=h;rw[<-List.takeWhile_append_dropWhile (p:=fun a=>r a x) (l:=l),List.pairwise_append] at hs;obtain⟨h1,h2,h3⟩:=hs;have hx:∀c∈l.dropWhile (fun a=>r a x),r x c=true:=by
  cases hd:l.dropWhile (fun a=>r a x) with
  |nil=>intro c hc;cases hc
  |cons b t=>
   have hb:r b x=false:=by
    have:=List.head?_dropWhile_not (fun a=>r a x) l;rw[hd] at this
    simpa using this
   have hbl:b∈l:=(List.dropWhile_suffix _).subset (by rw[hd];exact List.mem_cons_self ..);have hxb:=tot b hbl hb;rw[hd,List.pairwise_cons] at h2;intro c hc;rcases List.mem_cons.1 hc with rfl|hc
   ·exact hxb
   ·exact trans hxb (h2.1 c hc)
 rw[List.pairwise_append,List.pairwise_cons];refine⟨h1,⟨hx,h2⟩,fun a ha b hb=>?_⟩;have hax:r a x=true:=all_take (f:=fun a=>r a x) ha;rcases List.mem_cons.1 hb with rfl|hb
 ·exact hax
 ·exact trans hax (hx b hb)
theorem Gr.ok.make{g:Gr}(h:g.ok)(id:St)(kind:Int):(makeG g id kind).1.ok:=by
 unfold makeG;by_cases h1:mayB id.1 id.2=false\/kind<1\/3<kind
 ·rw[if_pos h1];exact h
 rw[if_neg h1];by_cases h2:(getG g id).isSome=true
 ·rw[if_pos h2];exact h
 rw[if_neg h2];by_cases h3:40<=g.I.length
 ·rw[if_pos h3];exact h
 rw[if_neg h3];have hn:getG g id=none:=by cases hg:getG g id with
  |none=>rfl
  |some y=>rw[hg] at h2;exact absurd rfl h2
 have hnew:=get_none hn;have hmy:mayB id.1 id.2=true:=by cases hm:mayB id.1 id.2 with
  |false=>exact absurd (Or.inl hm) h1
  |true=>rfl
 have hk:1<=kind/\kind<=3:=by omega
 have noE:∀e∈g.E,e.ino≠id/\e.dir≠id:=fun e he=>⟨fun q=>by
   obtain⟨x,hx,hxe⟩:=h.inos e he;exact hnew x hx (hxe.trans q),fun q=>by
   obtain⟨x,hx,hxe,_⟩:=h.dirs e he
   exact hnew x hx (hxe.trans q)⟩
 have no0:linksE g.E id=0:=by
  unfold linksE;rw[List.length_eq_zero_iff,List.filter_eq_nil_iff];intro e he;simp[(noE e he).1]
 exact {
  sortI:=putIn_sorted (r:=fun a b:Ino=>lessS a.id b.id) (x:=⟨id,kind,0,0,⟨#[]⟩⟩) (fun p q=>lessS_trans p q) (fun a ha q=>lessS_total q (hnew a ha)) h.sortI
  sortE:=h.sortE
  few:=by dsimp only;rw[putIn_len];omega
  links0:=fun x hx=>by rcases putIn_mem.1 hx with rfl|hx;rfl;exact h.links0 x hx
  kinds:=fun x hx=>by rcases putIn_mem.1 hx with rfl|hx;exact hk;exact h.kinds x hx
  may:=fun x hx=>by rcases putIn_mem.1 hx with rfl|hx;exact hmy;exact h.may x hx
  root:=by obtain⟨x,hx,p,q⟩:=h.root;exact⟨x,putIn_mem.2 (Or.inr hx),p,q⟩
  dirs:=fun e he=>by obtain⟨x,hx,p,q⟩:=h.dirs e he;exact⟨x,putIn_mem.2 (Or.inr hx),p,q⟩
  inos:=fun e he=>by obtain⟨x,hx,p⟩:=h.inos e he;exact⟨x,putIn_mem.2 (Or.inr hx),p⟩
  noRoot:=h.noRoot
  six:=h.six
  one:=fun i hi=>by
   obtain⟨x,hx,p,q⟩:=hi;rcases putIn_mem.1 hx with rfl|hx
   ·dsimp only at p ⊢;rw[<-p,no0];omega
   ·exact h.one i ⟨x,hx,p,q⟩
  rank:=by
   obtain⟨f,hf⟩:=h.rank;refine⟨f,fun e he hd=>hf e he ?_⟩;obtain⟨x,hx,p,q⟩:=hd;rcases putIn_mem.1 hx with rfl|hx
   ·exact absurd p.symm (noE e he).1
   ·exact⟨x,hx,p,q⟩}
theorem Gr.ok.set{g:Gr}(h:g.ok)(id:St)(mode:Int)(data:ByteArray):(setG g id mode data).1.ok:=by
 unfold setG
 cases hg:getG g id with
 |none=>exact h
 |some y=>
  let s:Ino->Ino:=fun x=>if x.id=id then {x with mode:=mode,data:=data} else x
  have sid:∀x:Ino,(s x).id=x.id:=fun x=>by show(if x.id=id then _ else x:Ino).id=x.id;split<;>rfl
  have sk:∀x:Ino,(s x).kind=x.kind:=fun x=>by show(if x.id=id then _ else x:Ino).kind=x.kind;split<;>rfl
  have sl:∀x:Ino,(s x).links=x.links:=fun x=>by show(if x.id=id then _ else x:Ino).links=x.links;split<;>rfl
  have hm:∀x,x∈g.I.map s↔ ∃y∈g.I,s y=x:=fun x=>List.mem_map;have hdir:∀i,(⟨g.I.map s,g.E⟩:Gr).isDir i↔g.isDir i:=fun i=>by
   constructor
   ·rintro⟨x,hx,p,q⟩;obtain⟨y,hy,rfl⟩:=(hm x).1 hx;exact⟨y,hy,by rw[<-sid y];exact p,by rw[<-sk y];exact q⟩
   ·rintro⟨x,hx,p,q⟩;exact⟨s x,(hm _).2 ⟨x,hx,rfl⟩,by rw[sid];exact p,by rw[sk];exact q⟩
  show(⟨g.I.map s,g.E⟩:Gr).ok;exact {
   sortI:=by rw[List.pairwise_map];exact h.sortI.imp fun q=>by rw[sid,sid];exact q
   sortE:=h.sortE
   few:=by dsimp only;rw[List.length_map];exact h.few
   links0:=fun x hx=>by obtain⟨y,hy,rfl⟩:=(hm x).1 hx;rw[sl];exact h.links0 y hy
   kinds:=fun x hx=>by obtain⟨y,hy,rfl⟩:=(hm x).1 hx;rw[sk];exact h.kinds y hy
   may:=fun x hx=>by obtain⟨y,hy,rfl⟩:=(hm x).1 hx;rw[sid];exact h.may y hy
   root:=(hdir (0,0)).2 h.root
   dirs:=fun e he=>(hdir _).2 (h.dirs e he)
   inos:=fun e he=>by obtain⟨x,hx,p⟩:=h.inos e he;exact⟨s x,(hm _).2 ⟨x,hx,rfl⟩,by rw[sid];exact p⟩
   noRoot:=h.noRoot
   six:=h.six
   one:=fun i hi=>h.one i ((hdir i).1 hi)
   rank:=by obtain⟨f,hf⟩:=h.rank;exact⟨f,fun e he hd=>hf e he ((hdir _).1 hd)⟩}
theorem linksE_filter(E:List Ent)(p:Ent->Bool)(id:St):linksE (E.filter p) id<=linksE E id:=by
 unfold linksE;rw[List.filter_filter];exact(List.Sublist.length_le (by
  induction E with
  |nil=>exact List.Sublist.refl _
  |cons e l ih=>
   rw[List.filter_cons,List.filter_cons];by_cases h1:decide (e.ino=id)=true
   ·by_cases h2:p e=true
    ·simp only[h1,h2,Bool.and_self,if_true];exact ih.cons_cons _
    ·simp only[h1,h2,Bool.true_and,if_true];exact ih.cons _
   ·simp only[h1,Bool.false_and];exact ih))
theorem Gr.ok.untie{g:Gr}(h:g.ok)(d:St)(nm:ByteArray):(untieG g d nm).1.ok:=by
 unfold untieG
 cases hl:lookE g.E d nm with
 |none=>exact h
 |some id=>
  exact {
   sortI:=h.sortI
   sortE:=h.sortE.filter _
   few:=h.few
   links0:=h.links0
   kinds:=h.kinds
   may:=h.may
   root:=h.root
   dirs:=fun e he=>h.dirs e ((List.mem_filter.1 he).1)
   inos:=fun e he=>h.inos e ((List.mem_filter.1 he).1)
   noRoot:=fun e he=>h.noRoot e ((List.mem_filter.1 he).1)
   six:=fun i=>Nat.le_trans (linksE_filter _ _ _) (h.six i)
   one:=fun i hi=>Nat.le_trans (linksE_filter _ _ _) (h.one i hi)
   rank:=by obtain⟨f,hf⟩:=h.rank;exact⟨f,fun e he hd=>hf e ((List.mem_filter.1 he).1) hd⟩}
theorem Gr.ok.drop{g:Gr}(h:g.ok)(id:St):(dropG g id).1.ok:=by
 unfold dropG
 cases hg:getG g id with
 |none=>exact h
 |some y=>
  dsimp only;by_cases h1:id=(0,0)
  ·rw[if_pos h1];exact h
  rw[if_neg h1];by_cases h2:0<y.links\/0<(listE g.E id).length
  ·rw[if_pos h2];exact h
  rw[if_neg h2];obtain⟨x,hx,hxi,rfl⟩:=get_some hg;have hno:∀e∈g.E,e.ino≠id/\e.dir≠id:=fun e he=>⟨fun q=>h2 (Or.inl (by
    have:0<linksE g.E id:=List.length_pos_of_mem (a:=e) (List.mem_filter.2 ⟨he,by simp[q]⟩)
    dsimp only;omega)),fun q=>h2 (Or.inr (List.length_pos_of_mem (a:=e) (List.mem_filter.2 ⟨he,by simp[q]⟩)))⟩
  have hm:∀z,z∈g.I.filter (fun x=>!decide (x.id=id))↔z∈g.I/\z.id≠id:=fun z=>by simp
  have hdir:∀i,i≠id->((⟨g.I.filter (fun x=>!decide (x.id=id)),g.E⟩:Gr).isDir i↔g.isDir i):=fun i hi=>by
   constructor
   ·rintro⟨z,hz,p,q⟩;exact⟨z,((hm z).1 hz).1,p,q⟩
   ·rintro⟨z,hz,p,q⟩;exact⟨z,(hm z).2 ⟨hz,by rw[p];exact hi⟩,p,q⟩
  exact {
   sortI:=h.sortI.filter _
   sortE:=h.sortE
   few:=Nat.le_trans (List.length_filter_le _ _) h.few
   links0:=fun z hz=>h.links0 z ((hm z).1 hz).1
   kinds:=fun z hz=>h.kinds z ((hm z).1 hz).1
   may:=fun z hz=>h.may z ((hm z).1 hz).1
   root:=(hdir (0,0) (Ne.symm h1)).2 h.root
   dirs:=fun e he=>(hdir _ (hno e he).2).2 (h.dirs e he)
   inos:=fun e he=>by obtain⟨z,hz,p⟩:=h.inos e he;exact⟨z,(hm z).2 ⟨hz,by rw[p];exact(hno e he).1⟩,p⟩
   noRoot:=h.noRoot
   six:=h.six
   one:=fun i hi=>by obtain⟨z,hz,p,q⟩:=hi;exact h.one i ⟨z,((hm z).1 hz).1,p,q⟩
   rank:=by obtain⟨f,hf⟩:=h.rank;exact⟨f,fun e he hd=>hf e he (by obtain⟨z,hz,p,q⟩:=hd;exact⟨z,((hm z).1 hz).1,p,q⟩)⟩}
end Go.Proofs.YtnnnkaobhkeocaaGreatDoor.GraphMath
namespace Go.Proofs.YtnnnkaobhkeocaaGreatDoor.GraphMath
open StampMath
theorem bytes_irrefl:∀(a:List UInt8),¬a<a
 | []=>by simp
 |x::l=>by
  rw[List.cons_lt_cons_iff];rintro(h|⟨_,h⟩)
  ·exact absurd h (UInt8.lt_irrefl x)
  ·exact bytes_irrefl l h
theorem bytes_trans:∀ {a b c:List UInt8},a<b->b<c->a<c
 |_,[],_,h,_=>by simp at h
 | [],_::_,[],_,h=>by simp at h
 | [],_::_,_::_,_,_=>by simp
 |_::_,_::_,[],_,h=>by simp at h
 |x::a,y::b,z::c,h1,h2=>by
  rw[List.cons_lt_cons_iff] at h1 h2 ⊢;rcases h1 with h1|⟨rfl,h1⟩
  ·rcases h2 with h2|⟨rfl,_⟩
   ·exact Or.inl (UInt8.lt_trans h1 h2)
   ·exact Or.inl h1
  ·rcases h2 with h2|⟨rfl,h2⟩
   ·exact Or.inl h2
   ·exact Or.inr ⟨rfl,bytes_trans h1 h2⟩
theorem bytes_total:∀ {a b:List UInt8},¬a<b->a≠b->b<a
 | [],[],_,h=>absurd rfl h
 | [],_::_,h,_=>absurd (by simp) h
 |_::_,[],_,_=>by simp
 |x::a,y::b,h,hne=>by
  rw[List.cons_lt_cons_iff] at h ⊢;by_cases hxy:x=y
  ·subst hxy;exact Or.inr ⟨rfl,bytes_total (fun q=>h (Or.inr ⟨rfl,q⟩)) (fun q=>hne (by rw[q]))⟩
  ·refine Or.inl ?_;have h1:¬x<y:=fun q=>h (Or.inl q);rw[UInt8.lt_iff_toNat_lt] at h1 ⊢;have h2:x.toNat≠y.toNat:=fun q=>hxy (UInt8.toNat_inj.1 q);omega
theorem aheadE_iff(a b:Ent):aheadE a b=true↔lessS a.dir b.dir=true\/(a.dir=b.dir/\a.name.data.toList<b.name.data.toList):=by
 unfold aheadE;rw[Bool.or_eq_true,Bool.and_eq_true,decide_eq_true_iff,decide_eq_true_iff]
theorem aheadE_trans{a b c:Ent}(h1:aheadE a b=true)(h2:aheadE b c=true):aheadE a c=true:=by
 rw[aheadE_iff] at h1 h2 ⊢;rcases h1 with h1|⟨e1,h1⟩
 ·rcases h2 with h2|⟨e2,_⟩
  ·exact Or.inl (lessS_trans h1 h2)
  ·exact Or.inl (e2▸h1)
 ·rcases h2 with h2|⟨e2,h2⟩
  ·exact Or.inl (e1▸h2)
  ·exact Or.inr ⟨e1.trans e2,bytes_trans h1 h2⟩
theorem aheadE_total{a b:Ent}(h:aheadE a b=false)(hne:¬(a.dir=b.dir/\a.name=b.name)):aheadE b a=true:=by
 have h1:¬(lessS a.dir b.dir=true\/(a.dir=b.dir/\a.name.data.toList<b.name.data.toList)):=fun q=>by
  rw[(aheadE_iff a b).2 q] at h
  cases h
 rw[aheadE_iff];by_cases hd:a.dir=b.dir
 ·refine Or.inr ⟨hd.symm,bytes_total (fun q=>h1 (Or.inr ⟨hd,q⟩)) fun q=>hne ⟨hd,?_⟩⟩;exact ByteArray.ext (Array.toList_inj.1 q)
 ·refine Or.inl (lessS_total ?_ hd)
  cases hl:lessS a.dir b.dir with
  |false=>rfl
  |true=>exact absurd (Or.inl hl) h1
theorem look_none{E:List Ent}{d:St}{nm:ByteArray}(h:lookE E d nm=none):∀e∈E,¬(e.dir=d/\e.name=nm):=by
 intro e he q;unfold lookE at h;rw[Option.map_eq_none_iff] at h;have:=List.find?_eq_none.1 h e he;simp[q.1,q.2] at this
theorem putIn_perm{α:Type}(f:α->Bool)(l:List α)(x:α):(putIn f l x).Perm (x::l):=by
 unfold putIn;refine List.perm_middle.trans ?_;rw[List.takeWhile_append_dropWhile]
theorem linksE_put(f:Ent->Bool)(E:List Ent)(e:Ent)(id:St):linksE (putIn f E e) id=linksE E id+if e.ino=id then 1 else 0:=by
 unfold linksE;rw[((putIn_perm f E e).filter _).length_eq,List.filter_cons];by_cases h:e.ino=id
 ·rw[if_pos h];simp[h]
 ·rw[if_neg h];simp[h]
inductive Leads (g:Gr):St->St->Prop
 |here (id:St):Leads g id id
 |up (e:Ent) (d:St):e∈g.E->g.isDir e.ino->Leads g e.dir d->Leads g e.ino d
theorem Gr.ok.tie_of{g:Gr}(h:g.ok)(e:Ent)(hd:g.isDir e.dir)(hi:∃x∈g.I,x.id=e.ino)(hr:e.ino≠(0,0))(hnew:lookE g.E e.dir e.name=none)(h6:linksE g.E e.ino<6)(h1:g.isDir e.ino->linksE g.E e.ino=0)(hl:g.isDir e.ino->¬Leads g e.dir e.ino):
  (⟨g.I,putIn (fun a=>aheadE a e) g.E e⟩:Gr).ok:=by
 have hm:∀a,a∈putIn (fun a=>aheadE a e) g.E e↔a=e\/a∈g.E:=fun a=>putIn_mem;exact {
  sortI:=h.sortI
  sortE:=putIn_sorted (r:=aheadE) (fun p q=>aheadE_trans p q) (fun a ha q=>aheadE_total q (look_none hnew a ha)) h.sortE
  few:=h.few
  links0:=h.links0
  kinds:=h.kinds
  may:=h.may
  root:=h.root
  dirs:=fun a ha=>by rcases(hm a).1 ha with rfl|ha;exact hd;exact h.dirs a ha
  inos:=fun a ha=>by rcases(hm a).1 ha with rfl|ha;exact hi;exact h.inos a ha
  noRoot:=fun a ha=>by rcases(hm a).1 ha with rfl|ha;exact hr;exact h.noRoot a ha
  six:=fun id=>by
   show linksE (putIn (fun a=>aheadE a e) g.E e) id<=6;rw[linksE_put];have:=h.six id;by_cases q:e.ino=id
   ·rw[if_pos q];rw[q] at h6;omega
   ·rw[if_neg q];omega
  one:=fun id hid=>by
   show linksE (putIn (fun a=>aheadE a e) g.E e) id<=1;rw[linksE_put];have:=h.one id hid;by_cases q:e.ino=id
   ·rw[if_pos q];subst q;have:=h1 hid;omega
   ·rw[if_neg q];omega
  rank:=by
   obtain⟨f,hf⟩:=h.rank;by_cases hx:g.isDir e.ino
   ·classical
    refine⟨fun y=>f y+if Leads g y e.ino then f e.dir+1 else 0,fun a ha hda=>?_⟩;dsimp only;rcases(hm a).1 ha with rfl|ha
    ·rw[if_neg (hl hx),if_pos (Leads.here _)];omega
    ·have q:=hf a ha hda;by_cases hu:Leads g a.dir e.ino
     ·rw[if_pos hu,if_pos (Leads.up a _ ha hda hu)];omega
     ·rw[if_neg hu];omega
   ·refine⟨f,fun a ha hda=>?_⟩;rcases(hm a).1 ha with rfl|ha
    ·exact absurd hda hx
    ·exact hf a ha hda}
end Go.Proofs.YtnnnkaobhkeocaaGreatDoor.GraphMath
namespace Go.Proofs.YtnnnkaobhkeocaaGreatDoor.GraphMath
open StampMath
theorem nodup_le{α:Type}[DecidableEq α]:∀ {L M:List α},L.Nodup->(∀x∈L,x∈M)->L.length<=M.length
 | [],_,_,_=>Nat.zero_le _
 |a::L,M,hn,hs=>by
  rw[List.nodup_cons] at hn;have ha:=hs a (List.mem_cons_self ..);have:=nodup_le (L:=L) (M:=M.erase a) hn.2 fun x hx=>(List.mem_erase_of_ne (fun e:x=a=>hn.1 (by rw[<-e];exact hx))).2 (hs x (List.mem_cons_of_mem _ hx));rw[List.length_erase_of_mem ha] at this;have hp:=List.length_pos_of_mem ha;rw[List.length_cons];omega
theorem Gr.ok.getDir{g:Gr}(h:g.ok){id:St}(hd:g.isDir id):∃x,getG g id=some x/\x.kind=1:=by
 obtain⟨x,hx,rfl,hk⟩:=hd;exact⟨_,h.get hx,hk⟩
theorem getDir_of{g:Gr}{id:St}{x:Ino}(h:getG g id=some x)(hk:x.kind=1):g.isDir id:=by
 obtain⟨y,hy,hi,rfl⟩:=get_some h;exact⟨y,hy,hi,hk⟩
theorem Gr.ok.parent{g:Gr}(h:g.ok){e:Ent}(he:e∈g.E)(hd:g.isDir e.ino):parentG g e.ino=some e.dir:=by
 obtain⟨x,hx,hk⟩:=h.getDir hd;unfold parentG;rw[hx];dsimp only;rw[if_pos hk];have hone:=h.one e.ino hd;unfold linksE at hone;have hmem:e∈g.E.filter fun a=>decide (a.ino=e.ino):=List.mem_filter.2 ⟨he,by simp⟩
 cases hf:g.E.find? (fun a=>decide (a.ino=e.ino)) with
 |none=>
  have:=List.find?_eq_none.1 hf e he;simp at this
 |some a=>
  have hmem2:a∈g.E.filter fun b=>decide (b.ino=e.ino):=List.mem_filter.2 ⟨List.mem_of_find?_eq_some hf,List.find?_some (p:=fun b:Ent=>decide (b.ino=e.ino)) hf⟩
  cases hl:g.E.filter fun b=>decide (b.ino=e.ino) with
  |nil=>rw[hl] at hmem;cases hmem
  |cons b t=>
   rw[hl] at hone hmem hmem2;have ht:t= []:=List.eq_nil_of_length_eq_zero (by rw[List.length_cons] at hone;omega);subst ht;rw[List.mem_singleton] at hmem hmem2;rw[hmem2,hmem]
   rfl
theorem parent_of{g:Gr}{id up:St}(h:parentG g id=some up):∃e∈g.E,e.ino=id/\e.dir=up/\g.isDir id:=by
 unfold parentG at h
 cases hg:getG g id with
 |none=>rw[hg] at h;cases h
 |some x=>
  rw[hg] at h;dsimp only at h;by_cases hk:x.kind=1
  ·rw[if_pos hk,Option.map_eq_some_iff] at h;obtain⟨e,he,rfl⟩:=h;have h1:=List.find?_some he;simp at h1;exact⟨e,List.mem_of_find?_eq_some he,h1,rfl,getDir_of hg hk⟩
  ·rw[if_neg hk] at h
   cases h
theorem underN_step(g:Gr)(n:Nat)(a b:St):underN g (n+1) a b=if a=b then true else match parentG g a with
  |none=>false
  |some up=>underN g n up b:=rfl
theorem under_leads(g:Gr):∀(n:Nat){a b:St},underN g n a b=true->Leads g a b
 |0,_,_,h=>by cases h
 |n+1,a,b,h=>by
  rw[underN_step] at h;by_cases hab:a=b
  ·subst hab;exact Leads.here _
  ·rw[if_neg hab] at h
   cases hp:parentG g a with
   |none=>rw[hp] at h;cases h
   |some up=>
    rw[hp] at h;obtain⟨e,he,rfl,rfl,hd⟩:=parent_of hp;exact Leads.up e b he hd (under_leads g n h)
theorem under_more(g:Gr):∀(n:Nat){a b:St},underN g n a b=true->underN g (n+1) a b=true
 |0,_,_,h=>by cases h
 |n+1,a,b,h=>by
  rw[underN_step] at h ⊢;by_cases hab:a=b
  ·rw[if_pos hab]
  ·rw[if_neg hab] at h ⊢
   cases hp:parentG g a with
   |none=>rw[hp] at h;cases h
   |some up=>
    rw[hp] at h;exact under_more g n h
theorem under_mono(g:Gr){n m:Nat}(hnm:n<=m){a b:St}(h:underN g n a b=true):underN g m a b=true:=by
 induction hnm with
 |refl=>exact h
 |step _ ih=>exact under_more g _ ih
theorem Gr.ok.leads{g:Gr}(h:g.ok){a b:St}:underG g a b=true↔Leads g a b:=by
 constructor
 ·exact under_leads g _
 ·intro hl;obtain⟨f,hf⟩:=h.rank;have key:∃L:List St,L.Nodup/\(∀x∈L,g.isDir x/\f x<=f a)/\underN g (L.length+1) a b=true:=by
   induction hl with
   |here id=>exact⟨[],List.nodup_nil,fun x hx=>(by cases hx),by rw[underN_step,if_pos rfl]⟩
   |up e d he hd _ ih=>
    obtain⟨L,h1,h2,h3⟩:=ih;have hlt:=hf e he hd;refine⟨e.ino::L,List.nodup_cons.2 ⟨fun q=>by have:=(h2 _ q).2;omega,h1⟩,fun x hx=>?_,?_⟩
    ·rcases List.mem_cons.1 hx with rfl|hx
     ·exact⟨hd,Nat.le_refl _⟩
     ·exact⟨(h2 x hx).1,by have:=(h2 x hx).2;omega⟩
    ·rw[underN_step];by_cases hq:e.ino=d
     ·rw[if_pos hq]
     ·rw[if_neg hq,h.parent he hd];exact h3
  obtain⟨L,h1,h2,h3⟩:=key;have hlen:L.length<=g.I.length:=by
   have:=nodup_le (L:=L) (M:=g.I.map fun x=>x.id) h1 fun x hx=>by
    obtain⟨y,hy,hi,_⟩:=(h2 x hx).1;exact List.mem_map.2 ⟨y,hy,hi⟩
   rwa[List.length_map] at this
  exact under_mono g (by omega) h3
theorem Gr.ok.tie{g:Gr}(h:g.ok)(nameOk:Bool)(e:Ent):(tieG nameOk g e).1.ok:=by
 unfold tieG;by_cases hw:whyG nameOk g e=0
 ·rw[if_pos hw];unfold whyG at hw;by_cases hn:nameOk=false
  ·rw[if_pos hn] at hw;cases hw
  rw[if_neg hn] at hw
  cases ha:getG g e.dir with
  |none=>rw[ha] at hw;cases hw
  |some a=>
   cases hx:getG g e.ino with
   |none=>rw[ha,hx] at hw;cases hw
   |some x=>
    rw[ha,hx] at hw;dsimp only at hw;by_cases hk:a.kind≠1
    ·rw[if_pos hk] at hw;cases hw
    rw[if_neg hk] at hw;by_cases hlk:(lookE g.E e.dir e.name).isSome=true
    ·rw[if_pos hlk] at hw;cases hw
    rw[if_neg hlk] at hw;by_cases hu:x.kind=1/\(e.ino=(0,0)\/underG g e.dir e.ino=true)
    ·rw[if_pos hu] at hw;cases hw
    rw[if_neg hu] at hw;by_cases hls:x.kind=1/\0<x.links\/6<=x.links
    ·rw[if_pos hls] at hw;cases hw
    obtain⟨y,hy,hyi,hxe⟩:=get_some hx;have hxl:x.links=(linksE g.E e.ino:Int):=by rw[hxe]
    have hkind:g.isDir e.ino->x.kind=1:=fun hd=>by
     obtain⟨z,hz,hzk⟩:=h.getDir hd;rw[hx] at hz;rw[Option.some.inj hz];exact hzk
    have hlook:lookE g.E e.dir e.name=none:=by
     cases hq:lookE g.E e.dir e.name with
     |none=>rfl
     |some z=>rw[hq] at hlk;exact absurd rfl hlk
    refine h.tie_of e (getDir_of ha (by omega)) ⟨y,hy,hyi⟩ (fun q=>hu ⟨hkind (by rw[q];exact h.root),Or.inl q⟩) hlook (by omega) (fun hd=>by have:=hkind hd;omega) fun hd hle=>hu ⟨hkind hd,Or.inr (h.leads.2 hle)⟩
 ·rw[if_neg hw];exact h
end Go.Proofs.YtnnnkaobhkeocaaGreatDoor.GraphMath
namespace Go.Proofs.YtnnnkaobhkeocaaGreatDoor
open Go.RowKit StampMath PackMath
def nextV(t r:Int):Value:=
 if r<0\/7<r\/t<0 then .tuple #[.agg #[.int .i64 0,.int .i64 0],.int .i64 1]
 else if 1073741824<=t then .tuple #[.agg #[.int .i64 0,.int .i64 0],.int .i64 14]
 else .tuple #[.agg #[.int .i64 (t+1),.int .i64 r],.int .i64 0]
def putL(t r:Int):List UInt8:=numL (zig t)++numL (zig r)
def stampL(l:List UInt8):Option (Int×Int×List UInt8):=
 match takeL l with
 |none=>none
 |some (m,t)=>match takeL t with
  |none=>none
  |some (k,u)=>if mayB (unzig m) (unzig k) then some (unzig m,unzig k,u) else none
def stampRes:Option (Int×Int×List UInt8)->Value
 |some (t,r,u)=>.tuple #[.agg #[.int .i64 t,.int .i64 r],.string ⟨u.toArray⟩,.int .i64 0]
 |none=>.tuple #[.agg #[.int .i64 0,.int .i64 0],.string ⟨#[]⟩,.int .i64 2]
end Go.Proofs.YtnnnkaobhkeocaaGreatDoor
namespace Go.Proofs.YtnnnkaobhkeocaaGreatDoor.OpMath
open Go.RowKit StampMath PackMath
structure Opn where
 st:Int
 sr:Int
 k:Int
 pt:Int
 pr:Int
 it:Int
 ir:Int
 tt:Int
 tr:Int
 name:ByteArray
 new:ByteArray
 off:Int
 data:ByteArray
deriving DecidableEq
def opA(o:Opn):Array Value:=#[.int .i64 o.st,.int .i64 o.sr,.int .i64 o.k,.int .i64 o.pt,.int .i64 o.pr,.int .i64 o.it,.int .i64 o.ir,.int .i64 o.tt,.int .i64 o.tr,.string o.name,.string o.new,.int .i64 o.off,.string o.data]
theorem op_cells{w:World}{g:Nat}{o:Opn}{T:TypeId}(h:w.heap[g]?=some (.cells (opA o) T (0,0))):
  w.cell? ⟨g,0,none⟩=some (.int .i64 o.st)/\w.cell? ⟨g,1,none⟩=some (.int .i64 o.sr)/\w.cell? ⟨g,2,none⟩=some (.int .i64 o.k)/\w.cell? ⟨g,3,none⟩=some (.int .i64 o.pt)/\w.cell? ⟨g,4,none⟩=some (.int .i64 o.pr)/\
  w.cell? ⟨g,5,none⟩=some (.int .i64 o.it)/\w.cell? ⟨g,6,none⟩=some (.int .i64 o.ir)/\w.cell? ⟨g,7,none⟩=some (.int .i64 o.tt)/\w.cell? ⟨g,8,none⟩=some (.int .i64 o.tr)/\
  w.cell? ⟨g,9,none⟩=some (.string o.name)/\w.cell? ⟨g,10,none⟩=some (.string o.new)/\w.cell? ⟨g,11,none⟩=some (.int .i64 o.off)/\w.cell? ⟨g,12,none⟩=some (.string o.data):=
 ⟨cell_of_row _ _ 0 _ _ (0,0) h,cell_of_row _ _ 1 _ _ (0,0) h,cell_of_row _ _ 2 _ _ (0,0) h,cell_of_row _ _ 3 _ _ (0,0) h,cell_of_row _ _ 4 _ _ (0,0) h,cell_of_row _ _ 5 _ _ (0,0) h,cell_of_row _ _ 6 _ _ (0,0) h,
  cell_of_row _ _ 7 _ _ (0,0) h,cell_of_row _ _ 8 _ _ (0,0) h,cell_of_row _ _ 9 _ _ (0,0) h,cell_of_row _ _ 10 _ _ (0,0) h,cell_of_row _ _ 11 _ _ (0,0) h,cell_of_row _ _ 12 _ _ (0,0) h⟩
def bareO(o:Opn):Opn where
 st:=o.st
 sr:=o.sr
 k:=o.k
 pt:=if o.k<=7 then o.pt else 0
 pr:=if o.k<=7 then o.pr else 0
 it:=if 4<=o.k then o.it else 0
 ir:=if 4<=o.k then o.ir else 0
 tt:=if o.k=7 then o.tt else 0
 tr:=if o.k=7 then o.tr else 0
 name:=if o.k<=7 then o.name else⟨#[]⟩
 new:=if o.k=7 then o.new else⟨#[]⟩
 off:=if 8<=o.k then o.off else 0
 data:=if o.k=3\/o.k=8 then o.data else⟨#[]⟩
def makesO(o:Opn):Int:=if 1<=o.k/\o.k<=3 then o.k else 0
def usesO(o:Opn):List (Int×Int):=(if 1<=o.k/\o.k<=7 then [(o.pt,o.pr)] else [])++(if 4<=o.k/\o.k<=10 then [(o.it,o.ir)] else [])++(if o.k=7 then [(o.tt,o.tr)] else [])
def hasB(s:ByteArray)(c:UInt8):Bool:=s.data.toList.any (· ==c)
def nameB(s:ByteArray):Bool:=decide (1<=s.size)&&decide (s.size<=8)&& !(s.toList== [46])&& !(s.toList== [46,46])&& !hasB s 47&& !hasB s 0
theorem any_next(s:ByteArray)(c:UInt8)(k:Nat)(h:k<s.size):(s.data.toList.take (k+1)).any (· ==c)=((s.data.toList.take k).any (· ==c)||s[k]==c):=by
 rw[take_next s k h,List.any_append];simp
theorem any_all(s:ByteArray)(c:UInt8)(k:Nat)(h:s.size<=k):(s.data.toList.take k).any (· ==c)=hasB s c:=by
 rw[List.take_of_length_le (by simpa using h)];rfl
theorem any_some(s:ByteArray)(c:UInt8)(k:Nat)(h:k<s.size)(hc:s[k]=c):hasB s c=true:=by
 unfold hasB;rw[List.any_eq_true];exact⟨s[k],by rw[<-data_get h];exact List.getElem_mem _,by rw[hc];exact beq_self_eq_true c⟩
def textB(s:ByteArray):List UInt8:=numL s.size++s.data.toList
def putO(o:Opn):List UInt8:=
 numL (zig o.k)++putL o.st o.sr++putL o.pt o.pr++putL o.it o.ir++putL o.tt o.tr++textB o.name++textB o.new++numL (zig o.off)++textB o.data
structure Ok64 (o:Opn):Prop where
 st:IsI64 o.st
 sr:IsI64 o.sr
 k:IsI64 o.k
 pt:IsI64 o.pt
 pr:IsI64 o.pr
 it:IsI64 o.it
 ir:IsI64 o.ir
 tt:IsI64 o.tt
 tr:IsI64 o.tr
 off:IsI64 o.off
def dataB(o:Opn):Bool:=
 if o.k=3 then decide (1<=o.data.size)&&decide (o.data.size<=32)&& !hasB o.data 0
 else if o.k=8 then decide (0<=o.off)&&decide (1<=o.data.size)&&decide (o.data.size<=64)&&decide (o.off<=64-(o.data.size:Int))
 else if o.k=9 then decide (0<=o.off)&&decide (o.off<=64)
 else if o.k=10 then decide (0<=o.off)&&decide (o.off<=4095)
 else true
def mayO(o:Opn):Bool:=
 decide (1<=o.k)&&decide (o.k<=10)&&decide (bareO o=o)&& !(o.st==0)&&mayB o.st o.sr&&(mayB o.pt o.pr&&mayB o.it o.ir&&mayB o.tt o.tr&&(decide (7<o.k)||nameB o.name)&&(!(o.k==7)||nameB o.new))&&dataB o
end Go.Proofs.YtnnnkaobhkeocaaGreatDoor.OpMath
namespace Go.Proofs.YtnnnkaobhkeocaaGreatDoor
open Go.RowKit
structure But (S:Nat->Prop) (w w':World):Prop where
 os:w'.os=w.os
 tape:w'.tape=w.tape
 output:w'.output=w.output
 size:w.heap.size<=w'.heap.size
 block:∀k,k<w.heap.size->¬S k->w'.heap[k]?=w.heap[k]?
theorem But.refl(S:Nat->Prop)(w:World):But S w w:=⟨rfl,rfl,rfl,Nat.le_refl _,fun _ _ _=>rfl⟩
theorem But.of_below{S:Nat->Prop}{w w':World}(h:Below w.heap.size w w'):But S w w':=⟨h.os,h.tape,h.output,h.size,fun k hk _=>h.block k hk⟩
theorem But.trans{S T:Nat->Prop}{a b c:World}(h:But S a b)(k:But T b c)(hT:∀i,T i->i<a.heap.size->S i):But S a c:=
 ⟨k.os.trans h.os,k.tape.trans h.tape,k.output.trans h.output,Nat.le_trans h.size k.size,fun i hi hn=>
  (k.block i (Nat.lt_of_lt_of_le hi h.size) fun ht=>hn (hT i ht hi)).trans (h.block i hi hn)⟩
theorem But.mono{S T:Nat->Prop}{a b:World}(h:But S a b)(hT:∀i,S i->T i):But T a b:=
 ⟨h.os,h.tape,h.output,h.size,fun i hi hn=>h.block i hi fun hs=>hn (hT i hs)⟩
theorem But.below{S:Nat->Prop}{a b:World}{B:Nat}(h:But S a b)(hS:∀i,S i->B<=i)(hB:B<=a.heap.size):Below B a b:=
 ⟨h.os,h.tape,h.output,h.size,fun i hi=>h.block i (by omega) fun hs=>by have:=hS i hs;omega⟩
theorem But.then_below{S:Nat->Prop}{a b c:World}(h:But S a b)(k:Below b.heap.size b c):But S a c:=h.trans (T:=fun _=>False) (.of_below k) fun _ h=>h.elim
theorem But.alloc{S:Nat->Prop}{a b:World}(h:But S a b)(o:Obj):But S a (b.alloc o):=h.then_below ((Below.refl _ _).alloc (Nat.le_refl _) o)
theorem But.drewN{S:Nat->Prop}{a b:World}(h:But S a b)(n:Nat):But S a (b.drewN n):=⟨h.os,h.tape,h.output,h.size,h.block⟩
theorem But.setCell{S:Nat->Prop}{a b:World}(h:But S a b){p:Addr}(hp:S p.block\/a.heap.size<=p.block)(v:Value):But S a (b.setCell p v):=by
 refine⟨?_,?_,?_,?_,fun k hk hn=>?_⟩
 ·rw[<-h.os];rfl
 ·rw[<-h.tape];rfl
 ·rw[<-h.output];rfl
 ·rw[World.size_setCell];exact h.size
 ·rw[<-h.block k hk hn];refine heap_setCell_other _ _ _ _ fun e=>?_;subst e;rcases hp with hp|hp
  ·exact hn hp
  ·omega
theorem But.heap{S:Nat->Prop}{a b:World}(h:But S a b){g:Nat}{o:Obj}(hg:a.heap[g]?=some o)(hn:¬S g):b.heap[g]?=some o:=(h.block g (heap_lt hg) hn).trans hg
theorem But.cell{S:Nat->Prop}{a b:World}(h:But S a b){p:Addr}{v:Value}(hp:a.cell? p=some v)(hn:¬S p.block):b.cell? p=some v:=
 (World.cell?_of_block (h.block p.block (World.block_lt_of_cell? _ _ hp) hn)).trans hp
end Go.Proofs.YtnnnkaobhkeocaaGreatDoor
namespace Go.Proofs.YtnnnkaobhkeocaaGreatDoor
open Go.RowKit StampMath GraphMath OpMath
structure GraphHave where
 rep:World->(Nat->Prop)->Addr->Gr->Prop
 lt:∀ {W:World}{S:Nat->Prop}{a:Addr}{g:Gr},rep W S a g->∀i,S i->i<W.heap.size
 keep:∀ {W W':World}{S:Nat->Prop}{a:Addr}{g:Gr},rep W S a g->(∀i,S i->W'.heap[i]?=W.heap[i]?)->rep W' S a g
 new:∀(w:World),Calls Tryz.prog 30 #[] w fun e w'=>∃a S,e=.returned (.pointer (some a))/\rep w' S a newG/\(∀i,S i->w.heap.size<=i)/\Below w.heap.size w w'
 get:∀(a:Addr)(S:Nat->Prop)(g:Gr)(id:St)(w:World),rep w S a g->g.ok->Calls Tryz.prog 67 #[.pointer (some a),.agg (stA id)] w fun e w'=>e=.returned (.tuple #[.agg (inoA ((getG g id).getD noIno)),.bool (getG g id).isSome])/\Below w.heap.size w w'
 look:∀(a:Addr)(S:Nat->Prop)(g:Gr)(d:St)(nm:ByteArray)(w:World),rep w S a g->g.ok->nm.size<=maxLen->Calls Tryz.prog 34 #[.pointer (some a),.agg (stA d),.string nm] w fun e w'=>e=.returned (.tuple #[.agg (stA ((lookE g.E d nm).getD (0,0))),.bool (lookE g.E d nm).isSome])/\Below w.heap.size w w'
 list:∀(a:Addr)(S:Nat->Prop)(g:Gr)(d:St)(w:World),rep w S a g->g.ok->Calls Tryz.prog 145 #[.pointer (some a),.agg (stA d)] w (EntsNew (listE g.E d) w)
 inodes:∀(a:Addr)(S:Nat->Prop)(g:Gr)(w:World),rep w S a g->g.ok->Calls Tryz.prog 33 #[.pointer (some a)] w (InosNew (inodesG g) w)
 entries:∀(a:Addr)(S:Nat->Prop)(g:Gr)(w:World),rep w S a g->g.ok->Calls Tryz.prog 53 #[.pointer (some a)] w (EntsNew g.E w)
 parent:∀(a:Addr)(S:Nat->Prop)(g:Gr)(d:St)(w:World),rep w S a g->g.ok->Calls Tryz.prog 206 #[.pointer (some a),.agg (stA d)] w fun e w'=>e=.returned (.tuple #[.agg (stA ((parentG g d).getD (0,0))),.bool (parentG g d).isSome])/\Below w.heap.size w w'
 under:∀(a:Addr)(S:Nat->Prop)(g:Gr)(id d:St)(w:World),rep w S a g->g.ok->Calls Tryz.prog 183 #[.pointer (some a),.agg (stA id),.agg (stA d)] w fun e w'=>e=.returned (.bool (underG g id d))/\Below w.heap.size w w'
 make:∀(a:Addr)(S:Nat->Prop)(g:Gr)(id:St)(kind:Int)(w:World),rep w S a g->g.ok->Calls Tryz.prog 32 #[.pointer (some a),.agg (stA id),.int .i64 kind] w fun e w'=>∃S',e=.returned (.int .i64 (makeG g id kind).2)/\rep w' S' a (makeG g id kind).1/\(∀i,S' i->S i\/w.heap.size<=i)/\But S w w'
 tie:∀(a:Addr)(S:Nat->Prop)(g:Gr)(x:Ent)(w:World),rep w S a g->g.ok->x.name.size<=maxLen->Calls Tryz.prog 110 #[.pointer (some a),.agg (entA x)] w fun e w'=>∃S',e=.returned (.int .i64 (tieG (nameB x.name) g x).2)/\rep w' S' a (tieG (nameB x.name) g x).1/\(∀i,S' i->S i\/w.heap.size<=i)/\But S w w'
 untie:∀(a:Addr)(S:Nat->Prop)(g:Gr)(d:St)(nm:ByteArray)(w:World),rep w S a g->g.ok->nm.size<=maxLen->Calls Tryz.prog 107 #[.pointer (some a),.agg (stA d),.string nm] w fun e w'=>∃S',e=.returned (.tuple #[.agg (stA (untieG g d nm).2.1),.int .i64 (untieG g d nm).2.2])/\rep w' S' a (untieG g d nm).1/\(∀i,S' i->S i\/w.heap.size<=i)/\But S w w'
 drop:∀(a:Addr)(S:Nat->Prop)(g:Gr)(id:St)(w:World),rep w S a g->g.ok->Calls Tryz.prog 108 #[.pointer (some a),.agg (stA id)] w fun e w'=>∃S',e=.returned (.int .i64 (dropG g id).2)/\rep w' S' a (dropG g id).1/\(∀i,S' i->S i\/w.heap.size<=i)/\But S w w'
 set:∀(a:Addr)(S:Nat->Prop)(g:Gr)(id:St)(mode:Int)(data:ByteArray)(w:World),rep w S a g->g.ok->Calls Tryz.prog 109 #[.pointer (some a),.agg (stA id),.int .i64 mode,.string data] w fun e w'=>∃S',e=.returned (.int .i64 (setG g id mode data).2)/\rep w' S' a (setG g id mode data).1/\(∀i,S' i->S i\/w.heap.size<=i)/\But S w w'
 copy:∀(a:Addr)(S:Nat->Prop)(g:Gr)(w:World),rep w S a g->g.ok->Calls Tryz.prog 54 #[.pointer (some a)] w fun e w'=>∃b T,e=.returned (.pointer (some b))/\rep w' T b g/\(∀i,T i->w.heap.size<=i)/\Below w.heap.size w w'
 nilGet:∀(id:St)(w:World),Calls Tryz.prog 67 #[.pointer none,.agg (stA id)] w fun e w'=>e=.returned (.tuple #[.agg (inoA noIno),.bool false])/\Below w.heap.size w w'
 nilLook:∀(d:St)(nm:ByteArray)(w:World),Calls Tryz.prog 34 #[.pointer none,.agg (stA d),.string nm] w fun e w'=>e=.returned (.tuple #[.agg (stA (0,0)),.bool false])/\Below w.heap.size w w'
 nilInodes:∀(w:World),Calls Tryz.prog 33 #[.pointer none] w (InosNew [] w)
 nilEntries:∀(w:World),Calls Tryz.prog 53 #[.pointer none] w (EntsNew [] w)
 nilMake:∀(w:World),Calls Tryz.prog 32 #[.pointer none,.agg (stA (1,0)),.int .i64 1] w fun e w'=>e=.returned (.int .i64 3)/\Below w.heap.size w w'
 nilTie:∀(w:World),Calls Tryz.prog 110 #[.pointer none,.agg (entA ⟨(0,0),⟨#[97]⟩,(0,0)⟩)] w fun e w'=>e=.returned (.int .i64 3)/\Below w.heap.size w w'
 nilDrop:∀(id:St)(w:World),Calls Tryz.prog 108 #[.pointer none,.agg (stA id)] w fun e w'=>e=.returned (.int .i64 3)/\Below w.heap.size w w'
 nilSet:∀(id:St)(w:World),Calls Tryz.prog 109 #[.pointer none,.agg (stA id),.int .i64 1,.string ⟨#[]⟩] w fun e w'=>e=.returned (.int .i64 3)/\Below w.heap.size w w'
 nilCopy:∀(w:World),Calls Tryz.prog 54 #[.pointer none] w fun e w'=>e=.returned (.pointer none)/\Below w.heap.size w w'
def GraphAt(H:GraphHave)(P:Nat->Prop)(W:World)(a:Addr)(g:Gr):Prop:=(∃S,H.rep W S a g/\∀i,S i->P i)/\g.ok
def Graph1(H:GraphHave)(w W:World)(a:Addr)(g:Gr):Prop:=GraphAt H (fun i=>w.heap.size<=i) W a g/\Below w.heap.size w W
structure GX (H:GraphHave) (w W:World) (N:Nat->Prop) (a:Addr) (g:Gr):Prop where
 at':∃S,H.rep W S a g/\(∀i,S i->w.heap.size<=i)/\∀i,N i->¬S i
 ok:g.ok
 lt:∀i,N i->i<W.heap.size
 below:Below w.heap.size w W
def Same(N:Nat->Prop)(W W':World):Prop:=W.heap.size<=W'.heap.size/\∀i,N i->W'.heap[i]?=W.heap[i]?
theorem GX.step{H:GraphHave}{w W W':World}{N:Nat->Prop}{a:Addr}{g:Gr}(h:GX H w W N a g)(hb:Below W.heap.size W W'):GX H w W' N a g:=by
 obtain⟨⟨S,h1,h2,h3⟩,h4,h5,h6⟩:=h;exact⟨⟨S,H.keep h1 fun i hi=>hb.block i (H.lt h1 i hi),h2,h3⟩,h4,fun i hi=>Nat.lt_of_lt_of_le (h5 i hi) hb.size,below_step h6 hb⟩
theorem GX.less{H:GraphHave}{w W:World}{N N':Nat->Prop}{a:Addr}{g:Gr}(h:GX H w W N a g)(hN:∀i,N' i->N i):GX H w W N' a g:=by
 obtain⟨⟨S,h1,h2,h3⟩,h4,h5,h6⟩:=h;exact⟨⟨S,h1,h2,fun i hi=>h3 i (hN i hi)⟩,h4,fun i hi=>h5 i (hN i hi),h6⟩
theorem GX.grow{H:GraphHave}{w W W':World}{N:Nat->Prop}{a:Addr}{g:Gr}(h:GX H w W N a g)(hb:Below W.heap.size W W'):GX H w W' (fun i=>N i\/(W.heap.size<=i/\i<W'.heap.size)) a g:=by
 obtain⟨⟨S,h1,h2,h3⟩,h4,h5,h6⟩:=h;refine⟨⟨S,H.keep h1 fun i hi=>hb.block i (H.lt h1 i hi),h2,fun i hi hs=>?_⟩,h4,fun i hi=>?_,below_step h6 hb⟩
 ·rcases hi with hi|hi
  ·exact h3 i hi hs
  ·have:=H.lt h1 i hs;omega
 ·rcases hi with hi|hi
  ·exact Nat.lt_of_lt_of_le (h5 i hi) hb.size
  ·exact hi.2
theorem GX.put{H:GraphHave}{w W W':World}{N T:Nat->Prop}{a:Addr}{g:Gr}(h:GX H w W N a g)(hb:But T W W')(hT:∀i,T i->N i/\w.heap.size<=i):GX H w W' N a g:=by
 obtain⟨⟨S,h1,h2,h3⟩,h4,h5,h6⟩:=h;exact⟨⟨S,H.keep h1 fun i hi=>hb.block i (H.lt h1 i hi) fun ht=>h3 i (hT i ht).1 hi,h2,h3⟩,h4,fun i hi=>Nat.lt_of_lt_of_le (h5 i hi) hb.size,h6.trans (hb.below (fun i hi=>(hT i hi).2) h6.size)⟩
theorem GX.new{H:GraphHave}{w W:World}(hB:Below w.heap.size w W)(N:Nat->Prop)(hN:∀i,N i->i<W.heap.size):
  Calls Tryz.prog 30 #[] W fun e w'=>∃a,e=.returned (.pointer (some a))/\GX H w w' N a newG/\Below W.heap.size W w':=by
 refine(H.new W).mono ?_;rintro e w' ⟨a,S,he,h1,h2,h3⟩;exact⟨a,he,⟨⟨S,h1,fun i hi=>Nat.le_trans hB.size (h2 i hi),fun i hi hs=>by have:=hN i hi;have:=h2 i hs;omega⟩,new_okG,fun i hi=>Nat.lt_of_lt_of_le (hN i hi) h3.size,below_step hB h3⟩,h3⟩
theorem GX.mut{H:GraphHave}{w W W':World}{N S S':Nat->Prop}{a:Addr}{g':Gr}(h2:∀i,S i->w.heap.size<=i)(h3:∀i,N i->¬S i)(h5:∀i,N i->i<W.heap.size)(h6:Below w.heap.size w W)
  (k1:H.rep W' S' a g')(k2:∀i,S' i->S i\/W.heap.size<=i)(k3:But S W W')(hg:g'.ok):GX H w W' N a g'/\Same N W W':=
 ⟨⟨⟨S',k1,fun i hi=>(k2 i hi).elim (h2 i) (Nat.le_trans h6.size),fun i hi hs=>(k2 i hs).elim (h3 i hi) fun q=>by have:=h5 i hi;omega⟩,hg,fun i hi=>Nat.lt_of_lt_of_le (h5 i hi) k3.size,h6.trans (k3.below h2 h6.size)⟩,
  k3.size,fun i hi=>k3.block i (h5 i hi) (h3 i hi)⟩
theorem GX.make{H:GraphHave}{w W:World}{N:Nat->Prop}{a:Addr}{g:Gr}(h:GX H w W N a g)(id:St)(kind:Int):
  Calls Tryz.prog 32 #[.pointer (some a),.agg (stA id),.int .i64 kind] W fun e w'=>e=.returned (.int .i64 (makeG g id kind).2)/\GX H w w' N a (makeG g id kind).1/\Same N W w':=by
 obtain⟨⟨S,h1,h2,h3⟩,h4,h5,h6⟩:=h;refine(H.make a S g id kind W h1 h4).mono ?_;rintro e w' ⟨S',he,k1,k2,k3⟩;exact⟨he,GX.mut h2 h3 h5 h6 k1 k2 k3 (h4.make id kind)⟩
theorem GX.tie{H:GraphHave}{w W:World}{N:Nat->Prop}{a:Addr}{g:Gr}(h:GX H w W N a g)(x:Ent)(hx:x.name.size<=maxLen):
  Calls Tryz.prog 110 #[.pointer (some a),.agg (entA x)] W fun e w'=>e=.returned (.int .i64 (tieG (nameB x.name) g x).2)/\GX H w w' N a (tieG (nameB x.name) g x).1/\Same N W w':=by
 obtain⟨⟨S,h1,h2,h3⟩,h4,h5,h6⟩:=h;refine(H.tie a S g x W h1 h4 hx).mono ?_;rintro e w' ⟨S',he,k1,k2,k3⟩;exact⟨he,GX.mut h2 h3 h5 h6 k1 k2 k3 (h4.tie _ x)⟩
theorem GX.untie{H:GraphHave}{w W:World}{N:Nat->Prop}{a:Addr}{g:Gr}(h:GX H w W N a g)(d:St)(nm:ByteArray)(hn:nm.size<=maxLen):
  Calls Tryz.prog 107 #[.pointer (some a),.agg (stA d),.string nm] W fun e w'=>e=.returned (.tuple #[.agg (stA (untieG g d nm).2.1),.int .i64 (untieG g d nm).2.2])/\GX H w w' N a (untieG g d nm).1/\Same N W w':=by
 obtain⟨⟨S,h1,h2,h3⟩,h4,h5,h6⟩:=h;refine(H.untie a S g d nm W h1 h4 hn).mono ?_;rintro e w' ⟨S',he,k1,k2,k3⟩;exact⟨he,GX.mut h2 h3 h5 h6 k1 k2 k3 (h4.untie d nm)⟩
theorem GX.drop{H:GraphHave}{w W:World}{N:Nat->Prop}{a:Addr}{g:Gr}(h:GX H w W N a g)(id:St):
  Calls Tryz.prog 108 #[.pointer (some a),.agg (stA id)] W fun e w'=>e=.returned (.int .i64 (dropG g id).2)/\GX H w w' N a (dropG g id).1/\Same N W w':=by
 obtain⟨⟨S,h1,h2,h3⟩,h4,h5,h6⟩:=h;refine(H.drop a S g id W h1 h4).mono ?_;rintro e w' ⟨S',he,k1,k2,k3⟩;exact⟨he,GX.mut h2 h3 h5 h6 k1 k2 k3 (h4.drop id)⟩
theorem GX.get{H:GraphHave}{w W:World}{N:Nat->Prop}{a:Addr}{g:Gr}(h:GX H w W N a g)(id:St):
  Calls Tryz.prog 67 #[.pointer (some a),.agg (stA id)] W fun e w'=>e=.returned (.tuple #[.agg (inoA ((getG g id).getD noIno)),.bool (getG g id).isSome])/\GX H w w' N a g/\Below W.heap.size W w':=by
 have h0:=h;obtain⟨⟨S,h1,h2,h3⟩,h4,h5,h6⟩:=h;refine(H.get a S g id W h1 h4).mono ?_;rintro e w' ⟨he,hb⟩;exact⟨he,h0.step hb,hb⟩
theorem GX.look{H:GraphHave}{w W:World}{N:Nat->Prop}{a:Addr}{g:Gr}(h:GX H w W N a g)(d:St)(nm:ByteArray)(hn:nm.size<=maxLen):
  Calls Tryz.prog 34 #[.pointer (some a),.agg (stA d),.string nm] W fun e w'=>e=.returned (.tuple #[.agg (stA ((lookE g.E d nm).getD (0,0))),.bool (lookE g.E d nm).isSome])/\GX H w w' N a g/\Below W.heap.size W w':=by
 have h0:=h;obtain⟨⟨S,h1,h2,h3⟩,h4,h5,h6⟩:=h;refine(H.look a S g d nm W h1 h4 hn).mono ?_;rintro e w' ⟨he,hb⟩;exact⟨he,h0.step hb,hb⟩
end Go.Proofs.YtnnnkaobhkeocaaGreatDoor
namespace Go.Proofs.YtnnnkaobhkeocaaGreatDoor.GraphMath
open StampMath OpMath
def kindI(N:List Ino)(id:St):Option Int:=(N.find? fun x=>decide (x.id=id)).map (·.kind)
inductive ReachedN (N:List Ino) (E:List Ent):Nat->St->Prop
 |root:(kindI N (0,0)).isSome->ReachedN N E 0 (0,0)
 |step {n:Nat} {e:Ent}:e∈E->ReachedN N E n e.dir->kindI N e.dir=some 1->(kindI N e.ino).isSome->ReachedN N E (n+1) e.ino
def Reached(N:List Ino)(E:List Ent)(s:St):Prop:=∃n,ReachedN N E n s
def Rising(l:List St):Prop:=l.Pairwise fun a b=>lessS a b=true
def IsReach(N:List Ino)(E:List Ent)(l:List St):Prop:=Rising l/\∀s,s∈l↔Reached N E s
def orderOk(N:List Ino)(E:List Ent):Prop:=(N.Pairwise fun a b=>lessS a.id b.id=true)/\E.Pairwise fun a b=>aheadE a b=true
def shapeOk(N:List Ino)(E:List Ent):Prop:=(∀x∈N,mayB x.id.1 x.id.2=true/\1<=x.kind/\x.kind<=3)/\(∀e∈E,nameB e.name=true)/\kindI N (0,0)=some 1
def lostOk(N:List Ino)(E:List Ent):Prop:=∀e∈E,kindI N e.dir=some 1/\(kindI N e.ino).isSome
def countOk(N:List Ino)(E:List Ent):Prop:=∀x∈N,x.links=(linksE E x.id:Int)
def manyOk1(E:List Ent)(x:Ino):Prop:=if x.id=(0,0) then linksE E x.id=0 else 1<=linksE E x.id/\linksE E x.id<=(if x.kind=1 then 1 else 6)
def manyOk(N:List Ino)(E:List Ent):Prop:=∀x∈N,manyOk1 E x
def apartOk(N:List Ino)(E:List Ent):Prop:=∀x∈N,Reached N E x.id
def boundOk1(x:Ino):Prop:=0<=x.mode/\x.mode<=4095/\(x.kind=1->x.data.size=0)/\(x.kind=2->x.data.size<=64)/\(x.kind=3->1<=x.data.size/\x.data.size<=32)
def boundsOk(N:List Ino):Prop:=(∀x∈N,boundOk1 x)/\N.length<=40
def faultOf(N:List Ino)(E:List Ent)(k:Int):Prop:=
 (k=1/\¬orderOk N E)\/(k=2/\¬shapeOk N E)\/(k=3/\¬lostOk N E)\/(k=4/\¬countOk N E)\/(k=5/\¬manyOk N E)\/(k=6/\¬apartOk N E)\/(k=7/\¬boundsOk N)
def IsCheck(N:List Ino)(E:List Ent)(l:List Int):Prop:=(l.Pairwise fun a b=>a<b)/\∀k,k∈l↔faultOf N E k
structure fineP (N:List Ino) (E:List Ent):Prop where
 order:orderOk N E
 shape:shapeOk N E
 lost:lostOk N E
 count:countOk N E
 many:manyOk N E
 apart:apartOk N E
 bounds:boundsOk N
def upL(E:List Ent)(id:St):St:=E.foldl (fun s e=>if e.ino=id then e.dir else s) id
def climb(E:List Ent):Nat->St->St
 |0,s=>s
 |n+1,s=>if s=(0,0) then s else climb E n (upL E s)
theorem names_tie{g:Gr}(hn:∀e∈g.E,nameB e.name=true)(x:Ent):∀e∈(tieG (nameB x.name) g x).1.E,nameB e.name=true:=by
 intro e he;unfold tieG at he;by_cases hw:whyG (nameB x.name) g x=0
 ·rw[if_pos hw] at he;have hnx:nameB x.name=true:=by
   cases hq:nameB x.name with
   |true=>rfl
   |false=>unfold whyG at hw;rw[if_pos hq] at hw;cases hw
  rcases List.mem_cons.1 ((putIn_perm _ _ _).mem_iff.1 he) with rfl|he
  ·exact hnx
  ·exact hn e he
 ·rw[if_neg hw] at he;exact hn e he
end Go.Proofs.YtnnnkaobhkeocaaGreatDoor.GraphMath
namespace Go.Proofs.YtnnnkaobhkeocaaGreatDoor.GraphMath
open StampMath
def atB(d:St)(nm:ByteArray)(e:Ent):Bool:=decide (e.dir=d)&&decide (e.name=nm)
theorem filter_all{E:List Ent}{d:St}{nm:ByteArray}(h:∀e∈E,¬(e.dir=d/\e.name=nm)):(E.filter fun e=>!(decide (e.dir=d)&&decide (e.name=nm)))=E:=by
 rw[List.filter_eq_self];intro e he;have:=h e he
 cases hq:(decide (e.dir=d)&&decide (e.name=nm)) with
 |false=>rfl
 |true=>
  rw[Bool.and_eq_true,decide_eq_true_iff,decide_eq_true_iff] at hq;exact absurd hq this
theorem make_err(g:Gr)(id:St)(kind:Int)(h:(makeG g id kind).2≠0):(makeG g id kind).1=g:=by
 unfold makeG at h ⊢
 split
 ·rfl
 ·split
  ·rfl
  ·split
   ·rfl
   ·rename_i h1 h2 h3
    rw[if_neg h1,if_neg h2,if_neg h3] at h;exact absurd rfl h
end Go.Proofs.YtnnnkaobhkeocaaGreatDoor.GraphMath
namespace Go.Proofs.YtnnnkaobhkeocaaGreatDoor
open Go.RowKit Go.MapKept
open Go.ChangeMaps (setBlock)
structure KShape (P:Program) (k:TypeId) {K:Type} (ek:K->Value):Prop where
 inj:∀x y,ek x=ek y->x=y
 check:∀(w:World)(em:Bool)(x:K),(Instr.checkKey em 10000 k (ek x)).run P w=.ok () w
 find:∀(w:World)(x:K)(es:List MapEntry),(∀e∈es,∃y,e.key=ek y)->
  ((Instr.findKey k (ek x) es).run P w=.ok none w/\∀e∈es,e.key≠ek x)\/∃j e,(Instr.findKey k (ek x) es).run P w=.ok (some (j,e.val)) w/\es[j]?=some e/\e.key=ek x
 stays:∀(w:World)(x:K),(Instr.keyThatStays (ek x) (ek x)).run P w=.ok (ek x) w
theorem findAsking_by{P:Program}{k:TypeId}{K:Type}[DecidableEq K]{ek:K->Value}(w:World)(heq:∀x y,(Op.equal k (ek x) (ek y)).run P w=.ok (decide (x=y)) w)(x:K):
  ∀(es:List MapEntry)(i:Nat),(∀e∈es,∃y,e.key=ek y)->
   ((Instr.findAsking k (ek x) es i).run P w=.ok none w/\∀e∈es,∀y,e.key=ek y->x≠y)\/
   ∃j e,(Instr.findAsking k (ek x) es i).run P w=.ok (some (i+j,e.val)) w/\es[j]?=some e/\e.key=ek x
 | [],i,_=>Or.inl ⟨by simp[Instr.findAsking],by simp⟩
 |e::es,i,hall=>by
  obtain⟨y,hy⟩:=hall e (by simp);have hr:=heq x y;rw[<-hy] at hr;by_cases hxy:x=y
  ·right
   rw[decide_eq_true hxy] at hr;exact⟨0,e,by simp[Instr.findAsking,hr],rfl,by rw[hy,hxy]⟩
  ·rw[decide_eq_false hxy] at hr;rcases findAsking_by w heq x es (i+1) (fun z hz=>hall z (by simp[hz])) with ⟨h1,h2⟩|⟨j,e',h1,h2,h3⟩
   ·left
    refine⟨by simp[Instr.findAsking,hr,h1],fun z hz v hv=>?_⟩;rcases List.mem_cons.1 hz with rfl|hz
    ·intro e2;subst e2;have h5:=heq x x;rw[hv,h5,decide_eq_true rfl] at hr
     cases hr
    ·exact h2 z hz v hv
   ·right
    exact⟨j+1,e',by simp[Instr.findAsking,hr,h1,Nat.add_assoc,Nat.add_comm 1 j],by simpa using h2,h3⟩
theorem KShape.of_equal{P:Program}{k:TypeId}{K:Type}[DecidableEq K]{ek:K->Value}(hwide:(match P.underlying k with|some (.array _ _)|some (.struct _)=>true|_=>false)=true)
  (inj:∀x y,ek x=ek y->x=y)(heq:∀w x y,(Op.equal k (ek x) (ek y)).run P w=.ok (decide (x=y)) w)
  (check:∀(w:World)(em:Bool)(x:K),(Instr.checkKey em 10000 k (ek x)).run P w=.ok () w)(bits:∀x,Instr.sameBits 10000 (ek x) (ek x)=true):KShape P k ek where
 inj:=inj
 check:=check
 find:=fun w x es hall=>by
  rw[run_findKey_eq w hwide];rcases findAsking_by w (heq w) x es 0 hall with ⟨h1,h2⟩|⟨j,e,h1,h2,h3⟩
  ·exact Or.inl ⟨h1,fun e he e1=>h2 e he x e1 rfl⟩
  ·exact Or.inr ⟨j,e,by simpa using h1,h2,h3⟩
 stays:=fun w x=>by simp[Instr.keyThatStays,bits x]
theorem checkKey_struct{P:Program}{t:TypeId}{fs:Array Field}(hu:P.underlying t=some (.struct fs))(w:World)(em:Bool)(n:Nat)(cs:Array Value)
  (each:∀f∈fs.toList,f.name≠ "_"/\∃v,(part f.type cs f.offset).run P w=.ok v w/\(Instr.checkKey em n f.type v).run P w=.ok () w):(Instr.checkKey em (n+1) t (.agg cs)).run P w=.ok () w:=by
 rw[Instr.checkKey];simp only[Sem.run_bind,run_underlying hu,Result.andThen_ok];rw[<-Array.forIn_toList];generalize fs.toList=L at each
 induction L with
 |nil=>simp
 |cons f L ih=>
  obtain⟨hn,a,p1,p2⟩:=each f (by simp);simp only[List.forIn_cons,Sem.run_bind,hn,ne_eq,not_false_eq_true,if_true,Result.andThen_ok,p1,p2,Sem.run_pure];exact ih (fun y hy=>each y (by simp[hy]))
theorem checkKey_int{P:Program}{t:TypeId}{q q':IntKind}(hu:P.underlying t=some (.int q))(w:World)(em:Bool)(n:Nat)(x:Int):(Instr.checkKey em (n+1) t (.int q' x)).run P w=.ok () w:=by
 rw[Instr.checkKey];simp[run_underlying hu]
theorem checkKey_string{P:Program}{t:TypeId}(hu:P.underlying t=some .string)(w:World)(em:Bool)(n:Nat)(x:ByteArray):(Instr.checkKey em (n+1) t (.string x)).run P w=.ok () w:=by
 rw[Instr.checkKey];simp[run_underlying hu]
section
variable {K V:Type}
def lookL[DecidableEq K](L:List (K×V))(x:K):Option V:=(L.find? fun p=>decide (p.1=x)).map Prod.snd
def offL[DecidableEq K](L:List (K×V))(x:K):List (K×V):=L.filter fun p=>!decide (p.1=x)
theorem mem_lookL[DecidableEq K]{L:List (K×V)}(hn:(L.map Prod.fst).Nodup){x:K}{v:V}:lookL L x=some v↔(x,v)∈L:=by
 induction L with
 |nil=>simp[lookL]
 |cons p l ih=>
  simp only[List.map_cons,List.nodup_cons] at hn;unfold lookL;rw[List.find?_cons];by_cases h:p.1=x
  ·subst h;simp only[decide_true,Option.map_some,Option.some.injEq,List.mem_cons]
   constructor
   ·intro h;exact Or.inl (Prod.ext rfl h.symm)
   ·rintro(h|h)
    ·rw[<-h]
    ·exact absurd (List.mem_map_of_mem (f:=Prod.fst) h) hn.1
  ·simp only[h,decide_false,List.mem_cons];rw[show(Option.map Prod.snd (l.find? fun p=>decide (p.1=x)))=lookL l x from rfl,ih hn.2]
   constructor
   ·exact Or.inr
   ·rintro(h1|h1)
    ·exact absurd (by rw[<-h1]) h
    ·exact h1
theorem nodup_perm_keys{L L':List (K×V)}(hp:L.Perm L')(hn:(L.map Prod.fst).Nodup):(L'.map Prod.fst).Nodup:=(hp.map _).nodup_iff.1 hn
theorem lookL_perm[DecidableEq K]{L L':List (K×V)}(hp:L.Perm L')(hn:(L.map Prod.fst).Nodup)(x:K):lookL L x=lookL L' x:=by
 have h1:∀v,lookL L x=some v↔lookL L' x=some v:=fun v=>by
  rw[mem_lookL hn,mem_lookL (nodup_perm_keys hp hn)];exact hp.mem_iff
 cases h:lookL L x with
 |some v=>exact((h1 v).1 h).symm
 |none=>
  cases h':lookL L' x with
  |none=>rfl
  |some v=>rw[(h1 v).2 h'] at h;cases h
theorem lookL_none[DecidableEq K]{L:List (K×V)}{x:K}(h:∀p∈L,p.1≠x):lookL L x=none:=by
 unfold lookL;rw[List.find?_eq_none.2 (fun p hp=>by simpa using h p hp)]
 rfl
theorem offL_none[DecidableEq K]{L:List (K×V)}{x:K}(h:∀p∈L,p.1≠x):offL L x=L:=List.filter_eq_self.2 fun p hp=>by simpa using h p hp
theorem offL_at[DecidableEq K]{L:List (K×V)}(hn:(L.map Prod.fst).Nodup){j:Nat}(hj:j<L.length):offL L L[j].1=L.take j++L.drop (j+1):=by
 have hs:L=L.take j++L[j]::L.drop (j+1):=by simp
 obtain⟨x,hx⟩:∃x,x=L[j].1:=⟨_,rfl⟩;obtain⟨A,hA⟩:∃A,A=L.take j:=⟨_,rfl⟩;obtain⟨C,hC⟩:∃C,C=L.drop (j+1):=⟨_,rfl⟩;obtain⟨p,hp⟩:∃p,p=L[j]:=⟨_,rfl⟩;rw[<-hA,<-hC,<-hp] at hs;rw[<-hp] at hx;rw[<-hp,<-hA,<-hC,<-hx,hs];rw[hs] at hn;simp only[List.map_append,List.map_cons] at hn;have hn':=List.nodup_append.1 hn;have h1:∀q∈A,q.1≠x:=fun q hq e=>by
  rw[hx] at e;exact hn'.2.2 q.1 (List.mem_map_of_mem hq) p.1 (by simp) e
 have h2:∀q∈C,q.1≠x:=fun q hq e=>by
  rw[hx] at e;have:=(List.nodup_cons.1 hn'.2.1).1;exact this (by rw[<-e];exact List.mem_map_of_mem hq)
 have e1:offL A x=A:=offL_none h1;have e2:offL C x=C:=offL_none h2;unfold offL at e1 e2 ⊢;rw[List.filter_append,List.filter_cons,e1,e2];simp[hx]
variable (ek:K->Value)(ev:V->Value)
def KMap(w:World)(b:Nat)(L:List (K×V)):Prop:=
 ∃(es:Array MapEntry)(clock:Nat)(M:List (K×V)),w.heap[b]?=some (.map es clock)/\Stamped es clock/\es.toList.map (fun e=>(e.key,e.val))=M.map (fun p=>(ek p.1,ev p.2))/\M.Perm L
def KRange(w:World)(b r:Nat)(L todo:List (K×V)):Prop:=
 ∃(es:Array MapEntry)(clock since:Nat)(seen:Array Nat)(c0:Nat)(M T:List (K×V)),w.heap[b]?=some (.map es clock)/\Stamped es clock/\es.toList.map (fun e=>(e.key,e.val))=M.map (fun p=>(ek p.1,ev p.2))/\M.Perm L/\
  w.heap[r]?=some (.mapIter (some b) since seen c0)/\(∀x∈es.toList,x.born<since)/\since<=c0/\since<=clock/\
  (leftOf es seen).toList.map (fun e=>(e.key,e.val))=T.map (fun p=>(ek p.1,ev p.2))/\T.Perm todo
variable {ek ev}
theorem KMap.perm{w:World}{b:Nat}{L L':List (K×V)}(h:KMap ek ev w b L)(hp:L.Perm L'):KMap ek ev w b L':=by
 obtain⟨es,clock,M,h1,h2,h3,h4⟩:=h;exact⟨es,clock,M,h1,h2,h3,h4.trans hp⟩
theorem KMap.kept{w w':World}{b:Nat}{L:List (K×V)}(h:KMap ek ev w b L)(hb:w'.heap[b]?=w.heap[b]?):KMap ek ev w' b L:=by
 obtain⟨es,clock,M,h1,h2⟩:=h;exact⟨es,clock,M,hb.trans h1,h2⟩
theorem KMap.lt{w:World}{b:Nat}{L:List (K×V)}(h:KMap ek ev w b L):b<w.heap.size:=by
 obtain⟨es,clock,M,h1,_⟩:=h;exact(Array.getElem?_eq_some_iff.1 h1).1
theorem KRange.kept{w w':World}{b r:Nat}{L todo:List (K×V)}(h:KRange ek ev w b r L todo)(hb:w'.heap[b]?=w.heap[b]?)(hr:w'.heap[r]?=w.heap[r]?):KRange ek ev w' b r L todo:=by
 obtain⟨es,clock,since,seen,c0,M,T,h1,h2,h3,h4,h5,rest⟩:=h;exact⟨es,clock,since,seen,c0,M,T,hb.trans h1,h2,h3,h4,hr.trans h5,rest⟩
variable {P:Program}{k e:TypeId}
theorem keys_of{es:Array MapEntry}{clock:Nat}{M:List (K×V)}(hs:Stamped es clock)(hM:es.toList.map (fun e=>(e.key,e.val))=M.map (fun p=>(ek p.1,ev p.2))):(M.map Prod.fst).Nodup:=by
 have h1:=((stamped_iff es clock).1 hs).2.2;have e1:es.toList.map (·.key)=(M.map Prod.fst).map ek:=by
  have:=congrArg (List.map Prod.fst) hM
  simpa[List.map_map,Function.comp_def] using this
 have h2:((M.map Prod.fst).map ek).Nodup:=by rw[<-e1];exact hs.2.2
 rw[List.Nodup,List.pairwise_map] at h2;exact h2.imp fun h e2=>h (by rw[e2])
theorem KMap.keys{w:World}{b:Nat}{L:List (K×V)}(h:KMap ek ev w b L):(L.map Prod.fst).Nodup:=by
 obtain⟨es,clock,M,h1,h2,h3,h4⟩:=h;exact nodup_perm_keys h4 (keys_of h2 h3)
theorem entry_shape{es:Array MapEntry}{M:List (K×V)}(hM:es.toList.map (fun e=>(e.key,e.val))=M.map (fun p=>(ek p.1,ev p.2))){j:Nat}{x:MapEntry}(hx:es.toList[j]?=some x):∃p,M[j]?=some p/\x.key=ek p.1/\x.val=ev p.2:=by
 have h1:(M.map (fun p=>(ek p.1,ev p.2)))[j]?=some (x.key,x.val):=by rw[<-hM,List.getElem?_map,hx];rfl
 rw[List.getElem?_map] at h1
 cases hp:M[j]? with
 |none=>rw[hp] at h1;cases h1
 |some p=>
  rw[hp] at h1;have:=Option.some.inj h1;exact⟨p,rfl,(congrArg Prod.fst this).symm,(congrArg Prod.snd this).symm⟩
theorem all_shape{es:Array MapEntry}{M:List (K×V)}(hM:es.toList.map (fun e=>(e.key,e.val))=M.map (fun p=>(ek p.1,ev p.2))):∀x∈es.toList,∃y,x.key=ek y:=fun x hx=>by
 obtain⟨j,hj,rfl⟩:=List.getElem_of_mem hx;obtain⟨p,_,h2,_⟩:=entry_shape hM (List.getElem?_eq_getElem hj);exact⟨p.1,h2⟩
theorem KMap.look[DecidableEq K](S:KShape P k ek){t:TypeId}{w:World}{b:Nat}{L:List (K×V)}(h:KMap ek ev w b L)(ht:P.underlying t=some (.map k e)){z:Value}(hz:(zeroValue e).run P w=.ok z w)(x:K)(c:Bool):
  (Instr.lookup t (.map (some b)) (ek x) c).run P w=.ok (if c then .tuple #[((lookL L x).map ev).getD z,.bool (lookL L x).isSome] else((lookL L x).map ev).getD z) w:=by
 have hk:=h.keys;obtain⟨es,clock,M,h1,h2,h3,h4⟩:=h;have hkM:=keys_of h2 h3;rw[<-lookL_perm h4 hkM];rcases S.find w x es.toList (all_shape h3) with ⟨f1,f2⟩|⟨j,e0,f1,f2,f3⟩
 ·have hn:lookL M x=none:=lookL_none fun p hp e1=>by
   obtain⟨j,hj,rfl⟩:=List.getElem_of_mem hp;have hl:j<es.toList.length:=by have:=congrArg List.length h3;simp only[List.length_map] at this;omega
   obtain⟨p',q1,q2,_⟩:=entry_shape h3 (List.getElem?_eq_getElem hl);rw[List.getElem?_eq_getElem hj] at q1;have:=Option.some.inj q1;subst this;exact f2 _ (List.getElem_mem hl) (by rw[q2,e1])
  rw[hn];simp[Instr.lookup,run_underlying ht,MapKept.run_getObj_map h1,S.check w,f1,hz,Result.andThen]
 ·obtain⟨p,q1,q2,q3⟩:=entry_shape h3 f2;have hpx:p.1=x:=S.inj _ _ (q2.symm.trans f3);have hm:lookL M x=some p.2:=(mem_lookL hkM).2 (by rw[<-hpx];exact List.mem_of_getElem? q1);rw[hm];simp[Instr.lookup,run_underlying ht,MapKept.run_getObj_map h1,S.check w,f1,Result.andThen,q3]
theorem setBlock_but{w:World}{b:Nat}{o o':Obj}(hb:w.heap[b]?=some o):But (fun i=>i=b) w (setBlock w b o'):=
 ⟨rfl,rfl,rfl,by simp[setBlock],fun i _ hi=>(heap_set hb).2 i hi⟩
theorem KMap.store[DecidableEq K](S:KShape P k ek){t:TypeId}{w:World}{b:Nat}{L:List (K×V)}(h:KMap ek ev w b L)(ht:P.underlying t=some (.map k e))(x:K)(v:V):
  ∃w',(Instr.mapUpdate t (.map (some b)) (ek x) (ev v)).run P w=.ok () w'/\KMap ek ev w' b ((x,v)::offL L x)/\But (fun i=>i=b) w w'/\w'.heap.size=w.heap.size:=by
 obtain⟨es,clock,M,h1,h2,h3,h4⟩:=h;have hkM:=keys_of h2 h3;have hlen:M.length=es.toList.length:=by have:=congrArg List.length h3;simp only[List.length_map] at this;omega
 rcases S.find w x es.toList (all_shape h3) with ⟨f1,f2⟩|⟨j,e0,f1,f2,f3⟩
 ·refine⟨setBlock w b (.map (es.push ⟨ek x,ev v,clock⟩) (clock+1)),?_,⟨_,_,M++[(x,v)],(heap_set h1).1,stamped_push h2 f2,by simp[h3],?_⟩,setBlock_but h1,by simp[setBlock]⟩
  ·simp[Instr.mapUpdate,run_underlying ht,MapKept.run_getObj_map h1,S.check w,f1,MapKept.run_setObj_map _ h1,Result.andThen,setBlock]
  ·have hn:∀p∈M,p.1≠x:=fun p hp e1=>by
    obtain⟨j,hj,rfl⟩:=List.getElem_of_mem hp;obtain⟨p',q1,q2,_⟩:=entry_shape h3 (List.getElem?_eq_getElem (show j<es.toList.length by omega));rw[List.getElem?_eq_getElem hj] at q1;have:=Option.some.inj q1;subst this;exact f2 _ (List.getElem_mem _) (by rw[q2,e1])
   refine(List.perm_append_singleton _ _).trans (List.Perm.cons _ ?_);have e2:(offL M x).Perm (offL L x):=h4.filter _;rw[offL_none hn] at e2;exact e2
 ·obtain⟨p,q1,q2,q3⟩:=entry_shape h3 f2;have hpx:p.1=x:=S.inj _ _ (q2.symm.trans f3);have hj:es[j]?=some e0:=by simpa using f2
  have hjl:j<es.toList.length:=(List.getElem?_eq_some_iff.1 f2).1;have hkeyf:∀e',es[j]?=some e'->({e' with key:=ek x,val:=ev v}:MapEntry).key=e'.key:=fun e' he'=>by rw[hj] at he';cases he';exact f3.symm
  have hlist:(es.modify j (fun e'=>{e' with key:=ek x,val:=ev v})).toList=es.toList.set j {e0 with key:=ek x,val:=ev v}:=by rw[Array.toList_modify,ChangeMaps.modify_eq_set _ _ _ _ f2]
  have hjM:j<M.length:=by omega
  refine⟨setBlock w b (.map (es.modify j (fun e'=>{e' with key:=ek x,val:=ev v})) clock),?_,⟨_,_,M.set j (x,v),(heap_set h1).1,stamped_modify h2 _ _ (fun _ _=>rfl) (fun e' _ he'=>hkeyf e' he'),?_,?_⟩,setBlock_but h1,by simp[setBlock]⟩
  ·simp[Instr.mapUpdate,run_underlying ht,MapKept.run_getObj_map h1,S.check w,f1,hj,f3,S.stays w,MapKept.run_setObj_map _ h1,Result.andThen,setBlock]
  ·rw[hlist,List.map_set,List.map_set,h3]
  ·have e1:M[j]=p:=by rw[List.getElem?_eq_getElem hjM] at q1;exact Option.some.inj q1
   have e2:=offL_at hkM hjM;rw[e1,hpx] at e2;have e3:(offL M x).Perm (offL L x):=h4.filter _;rw[e2] at e3;rw[List.set_eq_take_append_cons_drop,if_pos hjM];exact List.perm_middle.trans (List.Perm.cons _ e3)
theorem KMap.drop[DecidableEq K](S:KShape P k ek){t:TypeId}{w:World}{b:Nat}{L:List (K×V)}(h:KMap ek ev w b L)(ht:P.underlying t=some (.map k e))(x:K)(ty:TypeId):
  ∃w',(Builtin.delete_ #[t,k] ty #[.map (some b),ek x]).run P w=.ok (.tuple #[]) w'/\KMap ek ev w' b (offL L x)/\But (fun i=>i=b) w w'/\w'.heap.size=w.heap.size:=by
 obtain⟨es,clock,M,h1,h2,h3,h4⟩:=h;have hkM:=keys_of h2 h3;have hlen:M.length=es.toList.length:=by have:=congrArg List.length h3;simp only[List.length_map] at this;omega
 have e3:(offL M x).Perm (offL L x):=h4.filter _;rcases S.find w x es.toList (all_shape h3) with ⟨f1,f2⟩|⟨j,e0,f1,f2,f3⟩
 ·refine⟨setBlock w b (.map es clock),?_,⟨es,clock,M,(heap_set h1).1,h2,h3,?_⟩,setBlock_but h1,by simp[setBlock]⟩
  ·simp[Builtin.delete_,run_underlying ht,MapKept.run_getObj_map h1,S.check w,f1,MapKept.run_setObj_map _ h1,Result.andThen,setBlock]
  ·have hn:∀p∈M,p.1≠x:=fun p hp e1=>by
    obtain⟨j,hj,rfl⟩:=List.getElem_of_mem hp;obtain⟨p',q1,q2,_⟩:=entry_shape h3 (List.getElem?_eq_getElem (show j<es.toList.length by omega));rw[List.getElem?_eq_getElem hj] at q1;have:=Option.some.inj q1;subst this;exact f2 _ (List.getElem_mem _) (by rw[q2,e1])
   rwa[offL_none hn] at e3
 ·obtain⟨p,q1,q2,q3⟩:=entry_shape h3 f2;have hpx:p.1=x:=S.inj _ _ (q2.symm.trans f3);have hjl:j<es.toList.length:=(List.getElem?_eq_some_iff.1 f2).1;have hjs:j<es.size:=by simpa using hjl
  have hjM:j<M.length:=by omega
  have hsub:(es.eraseIdxIfInBounds j).toList=es.toList.eraseIdx j:=by
   unfold Array.eraseIdxIfInBounds;rw[dif_pos hjs];simp
  refine⟨setBlock w b (.map (es.eraseIdxIfInBounds j) clock),?_,⟨_,clock,M.eraseIdx j,(heap_set h1).1,stamped_erase h2 j,?_,?_⟩,setBlock_but h1,by simp[setBlock]⟩
  ·simp[Builtin.delete_,run_underlying ht,MapKept.run_getObj_map h1,S.check w,f1,MapKept.run_setObj_map _ h1,Result.andThen,setBlock]
  ·rw[hsub,ChangeMaps.map_eraseIdx,ChangeMaps.map_eraseIdx,h3]
  ·have e1:M[j]=p:=by rw[List.getElem?_eq_getElem hjM] at q1;exact Option.some.inj q1
   have e2:=offL_at hkM hjM;rw[e1,hpx] at e2;rw[List.eraseIdx_eq_take_drop_succ,<-e2];exact e3
theorem KMap.len{t:TypeId}{w:World}{b:Nat}{L:List (K×V)}(h:KMap ek ev w b L)(ht:P.underlying t=some (.map k e))(ty:TypeId):(Builtin.len_ #[t] ty #[.map (some b)]).run P w=.ok (.int .i64 (L.length:Int)) w:=by
 obtain⟨es,clock,M,h1,h2,h3,h4⟩:=h;have e1:es.size=L.length:=by
  have:=congrArg List.length h3;simp only[List.length_map,Array.length_toList] at this;rw[this,h4.length_eq]
 rw[<-e1];simp[Builtin.len_,run_underlying ht,MapKept.run_getObj_map h1,goInt,Result.andThen]
theorem KMap.made(w:World):KMap ek ev (w.alloc (.map #[] 0)) w.heap.size []:=
 ⟨#[],0,[],(MapKept.heap_alloc w _).1,stamped_empty 0,rfl,List.Perm.nil⟩
theorem KMap.range{t:TypeId}{w:World}{b:Nat}{L:List (K×V)}(h:KMap ek ev w b L)(ht:P.underlying t=some (.map k e)):
  ∃w',(Instr.range t (.map (some b))).run P w=.ok (.pointer (some ⟨w.heap.size,0,none⟩)) w'/\KRange ek ev w' b w.heap.size L L/\Below w.heap.size w w'/\w'.heap.size=w.heap.size+1:=by
 have hlt:=h.lt;obtain⟨es,clock,M,h1,h2,h3,h4⟩:=h;refine⟨_,run_range_map w t k e b es clock ht h1,⟨es,clock,clock,#[],clock,M,M,((MapKept.heap_alloc w _).2 b hlt).trans h1,h2,h3,h4,(MapKept.heap_alloc w _).1,h2.1,Nat.le_refl _,Nat.le_refl _,?_,h4⟩,(Below.refl _ _).alloc (Nat.le_refl _) _,by simp⟩;rw[<-h3];unfold leftOf;rw[show(es.filter fun e=>!(#[]:Array Nat).contains e.born)=es from Array.filter_eq_self.2 fun x _=>by simp]
theorem KRange.next{w:World}{b r:Nat}{L todo:List (K×V)}(h:KRange ek ev w b r L todo)(ty:TypeId):
  (todo= []/\(Instr.next (.pointer (some ⟨r,0,none⟩)) false ty).run P w=.ok (.tuple #[.bool false]) w)\/
  ∃p todo' w',todo.Perm (p::todo')/\(Instr.next (.pointer (some ⟨r,0,none⟩)) false ty).run P w=.ok (.tuple #[.bool true,ek p.1,ev p.2]) w'/\
   KRange ek ev w' b r L todo'/\But (fun i=>i=r) w w'/\w'.heap.size=w.heap.size/\(Instr.entry (.pointer (some ⟨r,0,none⟩))).run P w'=.ok (.tuple #[ek p.1,ev p.2]) w':=by
 obtain⟨es,clock,since,seen,c0,M,T,h1,h2,h3,h4,h5,h6,h7,h8,h9,h10⟩:=h;have hne:r≠b:=fun e1=>by rw[e1,h1] at h5;cases h5
 rcases run_next_at (P:=P) w ty r b since c0 seen es clock h5 h1 h6 h7 with ⟨h0,hrun⟩|⟨x,hx,w1,hal,hrun⟩
 ·refine Or.inl ⟨?_,hrun⟩;have:T.length=0:=by
   have:=congrArg List.length h9;simp only[List.length_map,Array.length_toList] at this;omega
  rw[List.length_eq_zero_iff.1 this] at h10;exact h10.nil_eq.symm
 ·obtain⟨hem,hes⟩:=mem_left hx;obtain⟨j,hj,hjx⟩:=List.getElem_of_mem hx;have hTl:T.length=(leftOf es seen).toList.length:=by have:=congrArg List.length h9;simp only[List.length_map] at this;omega
  obtain⟨p,q1,q2,q3⟩:=entry_shape h9 (show(leftOf es seen).toList[j]?=some x by rw[List.getElem?_eq_getElem hj,hjx]);have hr1:w1.heap[r]?=some (.mapIter (some b) since seen c0):=by rcases hal with rfl|rfl<;>exact h5
  have hb1:w1.heap[b]?=some (.map es clock):=by rcases hal with rfl|rfl<;>exact h1
  have hset:=heap_set (o':=.mapIter (some b) since (seen.push x.born) clock) hr1;have hb':(setBlock w1 r (.mapIter (some b) since (seen.push x.born) clock)).heap[b]?=some (.map es clock):=(hset.2 b (fun e1=>hne e1.symm)).trans hb1;have hborn:((leftOf es seen).toList.map (·.born)).Nodup:=by
   have hsl:(leftOf es seen).toList.Sublist es.toList:=by
    unfold leftOf;rw[Array.toList_filter];exact List.filter_sublist
   exact(hsl.map _).nodup h2.2.1
  have hleft:(leftOf es (seen.push x.born)).toList=(leftOf es seen).toList.take j++(leftOf es seen).toList.drop (j+1):=by
   have e1:(leftOf es (seen.push x.born)).toList=(leftOf es seen).toList.filter (fun y=>!(y.born==x.born)):=by
    unfold leftOf;rw[Array.toList_filter,Array.toList_filter,List.filter_filter];refine List.filter_congr fun y _=>?_;rw[contains_push]
    cases seen.contains y.born<;>cases(y.born==x.born)<;>rfl
   have e2:=offL_at (L:=(leftOf es seen).toList.map fun y=>(y.born,y)) (by rw[List.map_map];exact hborn) (j:=j) (by simpa using hj);unfold offL at e2;rw[List.filter_map,<-List.map_take,<-List.map_drop,<-List.map_append] at e2;have e3:=congrArg (List.map Prod.snd) e2;simp only[List.map_map,Function.comp_def,List.map_id'] at e3;rw[e1,<-e3];refine List.filter_congr fun y _=>?_;simp only[List.getElem_map,hjx];by_cases hq:y.born=x.born<;>simp[hq]
  have hjT:j<T.length:=by omega
  have hTj:T[j]=p:=by rw[List.getElem?_eq_getElem hjT] at q1;exact Option.some.inj q1
  have hTs:T.Perm (p::(T.take j++T.drop (j+1))):=by
   have:T=T.take j++p::T.drop (j+1):=by rw[<-hTj];simp
   exact(List.Perm.of_eq this).trans List.perm_middle
  refine Or.inr ⟨p,T.take j++T.drop (j+1),_,h10.symm.trans hTs,by rw[<-q2,<-q3];exact hrun,
   ⟨es,clock,since,seen.push x.born,clock,M,_,hb',h2,h3,h4,hset.1,h6,h8,h8,?_,List.Perm.refl _⟩,?_,?_,by
    rw[<-q2,<-q3]
    exact run_entry_at _ r b since seen es clock x hset.1 hb' hem ((stamped_iff es clock).1 h2).2.1⟩
  ·rw[hleft,List.map_append,List.map_append,List.map_take,List.map_drop,List.map_take,List.map_drop,h9]
  ·rcases hal with rfl|rfl<;>exact⟨rfl,rfl,rfl,by simp[setBlock],fun i _ hi=>hset.2 i hi⟩
  ·rcases hal with rfl|rfl<;>simp[setBlock]
theorem wpList_k_store[DecidableEq K](S:KShape P k ek){w:World}{ops:Array Oper}{rest:List Oper}{o:Oper}{a:Act}{Q:Exit->Act->World->Prop}(hg:o.guard=none)(m x v:Operand)(t:TypeId)
  (hop:o.op=Op.mapUpdate t m x v)(ht:P.underlying t=some (.map k e))(b:Nat)(L:List (K×V))(hm:a.eval m=.map (some b))(h:KMap ek ev w b L)(key:K)(hx:a.eval x=ek key)(val:V)(hv:a.eval v=ev val)
  (hK:∀w',Hid (KMap ek ev w' b ((key,val)::offL L key))->Hid (But (fun i=>i=b) w w')->Hid (w'.heap.size=w.heap.size)->wpList P ops Q rest (a.put o.dst undef) w'):wpList P ops Q (o::rest) a w:=by
 refine wpList_plain hg fun K' hK'=>?_;obtain⟨w',hrun,r1,r2,r3⟩:=h.store S ht key val;unfold Oper.wp;simp[execOp,hop,hm,hx,hv,hrun,Result.andThen];exact hK' _ _ (hK w' r1 r2 r3)
theorem wpList_k_range{w:World}{ops:Array Oper}{rest:List Oper}{o:Oper}{a:Act}{Q:Exit->Act->World->Prop}(hg:o.guard=none)(m:Operand)(t:TypeId)
  (hop:o.op=Op.range t m)(ht:P.underlying t=some (.map k e))(b:Nat)(L:List (K×V))(hm:a.eval m=.map (some b))(h:KMap ek ev w b L)
  (hK:∀w',Hid (KRange ek ev w' b w.heap.size L L)->Hid (Below w.heap.size w w')->Hid (w'.heap.size=w.heap.size+1)->wpList P ops Q rest (a.put o.dst (.pointer (some ⟨w.heap.size,0,none⟩))) w'):wpList P ops Q (o::rest) a w:=by
 refine wpList_plain hg fun K' hK'=>?_;obtain⟨w',hrun,r1,r2,r3⟩:=h.range (P:=P) ht;unfold Oper.wp;simp[execOp,hop,hm,hrun,Result.andThen];exact hK' _ _ (hK w' r1 r2 r3)
theorem wpList_k_next{w:World}{ops:Array Oper}{rest:List Oper}{o:Oper}{a:Act}{Q:Exit->Act->World->Prop}(hg:o.guard=none)(it:Operand)(hop:o.op=Op.next it false)
    (b r:Nat)(L todo:List (K×V))(hit:a.eval it=.pointer (some ⟨r,0,none⟩))(h:KRange ek ev w b r L todo)
    (hDone:todo= []->wpList P ops Q rest (a.put o.dst (.tuple #[.bool false])) w)
    (hMore:∀(p:K×V)(todo':List (K×V))(w':World),Hid (todo.Perm (p::todo'))->Hid (KRange ek ev w' b r L todo')->Hid (But (fun i=>i=r) w w')->Hid (w'.heap.size=w.heap.size)->
      (Instr.entry (.pointer (some ⟨r,0,none⟩))).run P w'=.ok (.tuple #[ek p.1,ev p.2]) w'->wpList P ops Q rest (a.put o.dst (.tuple #[.bool true,ek p.1,ev p.2])) w'):
    wpList P ops Q (o::rest) a w:=by
  refine wpList_plain hg fun K' hK'=>?_;unfold Oper.wp;rcases h.next (P:=P) o.type with ⟨h0,hrun⟩|⟨p,todo',w',hp,hrun,hr,hb,hs,hen⟩
  · simp[execOp,hop,hit,hrun,Result.andThen]
    exact hK' _ _ (hDone h0)
  · simp[execOp,hop,hit,hrun,Result.andThen]
    exact hK' _ _ (hMore p todo' w' hp hr hb hs hen)
end
end Go.Proofs.YtnnnkaobhkeocaaGreatDoor
namespace Go.Proofs.YtnnnkaobhkeocaaGreatDoor
open StampMath GraphMath
def pairsI(g:Gr):List (St×Ino):=(inodesG g).map fun x=>(x.id,x)
def pairsE(g:Gr):List ((St×ByteArray)×St):=g.E.map fun e=>((e.dir,e.name),e.ino)
section
variable {K V:Type}[DecidableEq K]
omit [DecidableEq K] in
theorem nodup_of_keys{L:List (K×V)}(h:(L.map Prod.fst).Nodup):L.Nodup:=by
 unfold List.Nodup at h ⊢;rw[List.pairwise_map] at h;exact h.imp fun q e=>q (by rw[e])
omit [DecidableEq K] in
theorem perm_by{L M:List (K×V)}(hL:(L.map Prod.fst).Nodup)(hM:(M.map Prod.fst).Nodup)(h:∀k v,(k,v)∈L↔(k,v)∈M):L.Perm M:=
 (List.perm_ext_iff_of_nodup (nodup_of_keys hL) (nodup_of_keys hM)).2 fun p=>h p.1 p.2
theorem mem_offL{L:List (K×V)}{x k:K}{v:V}:(k,v)∈offL L x↔(k,v)∈L/\k≠x:=by
 unfold offL;simp
theorem keys_offL{L:List (K×V)}(h:(L.map Prod.fst).Nodup)(x:K):((offL L x).map Prod.fst).Nodup:=
 List.Pairwise.sublist (List.Sublist.map _ List.filter_sublist) h
theorem keys_put{L:List (K×V)}(h:(L.map Prod.fst).Nodup)(x:K)(v:V):(((x,v)::offL L x).map Prod.fst).Nodup:=by
 rw[List.map_cons,List.nodup_cons];refine⟨fun hm=>?_,keys_offL h x⟩;obtain⟨⟨k,u⟩,hp,rfl⟩:=List.mem_map.1 hm;exact(mem_offL.1 hp).2 rfl
theorem put_perm{L M:List (K×V)}(hL:(L.map Prod.fst).Nodup)(hM:(M.map Prod.fst).Nodup){x:K}{v:V}(h:∀k,lookL M k=if k=x then some v else lookL L k):((x,v)::offL L x).Perm M:=by
 refine perm_by (keys_put hL x v) hM fun k u=>?_;rw[List.mem_cons,mem_offL,<-mem_lookL hM,h k,<-mem_lookL hL];by_cases hk:k=x
 ·subst hk;simp[eq_comm]
 ·simp[hk]
theorem off_perm{L M:List (K×V)}(hL:(L.map Prod.fst).Nodup)(hM:(M.map Prod.fst).Nodup){x:K}(h:∀k,lookL M k=if k=x then none else lookL L k):(offL L x).Perm M:=by
 refine perm_by (keys_offL hL x) hM fun k u=>?_;rw[mem_offL,<-mem_lookL hM,h k,<-mem_lookL hL];by_cases hk:k=x
 ·simp[hk]
 ·simp[hk]
end
theorem look_pairsI{g:Gr}(h:g.ok)(id:St):lookL (pairsI g) id=getG g id:=by
 unfold lookL pairsI;rw[h.inodes,List.map_map,List.find?_map,Option.map_map];unfold getG
 cases hq:g.I.find? (fun x=>decide (x.id=id)) with
 |none=>
  rw[show(g.I.find? ((fun p=>decide (p.1=id))∘(fun x:Ino=>(x.id,x))∘fun x=>{x with links:=(linksE g.E x.id:Int)}))=g.I.find? (fun x=>decide (x.id=id)) from rfl,hq]
  rfl
 |some x=>
  rw[show(g.I.find? ((fun p=>decide (p.1=id))∘(fun x:Ino=>(x.id,x))∘fun x=>{x with links:=(linksE g.E x.id:Int)}))=g.I.find? (fun x=>decide (x.id=id)) from rfl,hq];have:=List.find?_some hq;simp at this;simp[this]
theorem look_pairsE(g:Gr)(d:St)(nm:ByteArray):lookL (pairsE g) (d,nm)=lookE g.E d nm:=by
 unfold lookL pairsE lookE;rw[List.find?_map,Option.map_map]
 congr 1
 refine congrArg (fun f=>List.find? f g.E) (funext fun e=>?_);by_cases h1:e.dir=d
 ·by_cases h2:e.name=nm
  ·simp[h1,h2]
  ·simp[h1,h2]
 ·simp[h1]
theorem keys_pairsI{g:Gr}(h:g.ok):((pairsI g).map Prod.fst).Nodup:=by
 unfold pairsI;rw[List.map_map,h.inodes,List.map_map];unfold List.Nodup;rw[List.pairwise_map];exact h.sortI.imp fun{x y} q(e:x.id=y.id)=>by
  rw[e,lessS_irrefl] at q
  cases q
theorem keys_pairsE{g:Gr}(h:g.ok):((pairsE g).map Prod.fst).Nodup:=by
 unfold pairsE;rw[List.map_map];unfold List.Nodup;rw[List.pairwise_map];refine h.sortE.imp fun{x y} q e=>?_;have e1:x.dir=y.dir:=congrArg (fun p=>p.1) e;have e2:x.name=y.name:=congrArg (fun p=>p.2) e;rcases(aheadE_iff x y).1 q with q|⟨_,q⟩
 ·rw[e1,lessS_irrefl] at q
  cases q
 ·rw[e2] at q;exact bytes_irrefl _ q
theorem get_iff{g:Gr}(h:g.ok){k:St}{v:Ino}:getG g k=some v↔ ∃x∈g.I,x.id=k/\v= {x with links:=(linksE g.E k:Int)}:=by
 constructor
 ·exact get_some
 ·rintro⟨x,hx,rfl,rfl⟩;exact h.get hx
theorem look_iff{g:Gr}(h:g.ok){d:St}{nm:ByteArray}{id:St}:lookE g.E d nm=some id↔(⟨d,nm,id⟩:Ent)∈g.E:=by
 rw[<-look_pairsE,mem_lookL (keys_pairsE h)];unfold pairsE;rw[List.mem_map]
 constructor
 ·rintro⟨e,he,q⟩;have:e=⟨d,nm,id⟩:=by
   obtain⟨a,b,c⟩:=e;simp only[Prod.mk.injEq] at q;obtain⟨⟨rfl,rfl⟩,rfl⟩:=q
   rfl
  rw[<-this];exact he
 ·intro he;exact⟨_,he,rfl⟩
theorem links_none{g:Gr}(h:g.ok){id:St}(hn:getG g id=none):linksE g.E id=0:=by
 unfold linksE;rw[List.filter_eq_nil_iff.2 (fun e he q=>?_)]
 ·rfl
 ·obtain⟨x,hx,e1⟩:=h.inos e he;exact get_none hn x hx (e1.trans (by simpa using q))
theorem make_get{g:Gr}(h:g.ok){id:St}{kind:Int}(h1:(makeG g id kind).2=0)(k:St):
  getG (makeG g id kind).1 k=if k=id then some ⟨id,kind,0,0,⟨#[]⟩⟩ else getG g k:=by
 have hok:=h.make id kind;unfold makeG at h1 hok ⊢;by_cases c1:mayB id.1 id.2=false\/kind<1\/3<kind
 ·rw[if_pos c1] at h1;cases h1
 rw[if_neg c1] at h1 hok ⊢;by_cases c2:(getG g id).isSome=true
 ·rw[if_pos c2] at h1;cases h1
 rw[if_neg c2] at h1 hok ⊢;by_cases c3:40<=g.I.length
 ·rw[if_pos c3] at h1;cases h1
 rw[if_neg c3] at hok ⊢;have hn:getG g id=none:=by cases hq:getG g id with|none=>rfl|some _=>rw[hq] at c2;simp at c2
 refine Option.ext fun v=>?_;rw[get_iff hok];simp only[putIn_mem];by_cases hk:k=id
 ·subst hk;rw[if_pos rfl]
  constructor
  ·rintro⟨x,rfl|hx,e1,rfl⟩
   ·simp[links_none h hn]
   ·exact absurd e1 (get_none hn x hx)
  ·intro e
   injection e with e
   exact⟨_,Or.inl rfl,rfl,by rw[<-e];simp[links_none h hn]⟩
 ·rw[if_neg hk,get_iff h]
  constructor
  ·rintro⟨x,rfl|hx,e1,rfl⟩
   ·exact absurd e1.symm hk
   ·exact⟨x,hx,e1,rfl⟩
  ·rintro⟨x,hx,e1,rfl⟩;exact⟨x,Or.inr hx,e1,rfl⟩
theorem make_ents(g:Gr)(id:St)(kind:Int):(makeG g id kind).1.E=g.E:=by
 unfold makeG
 split<;>try rfl
 split<;>try rfl
 split<;>rfl
theorem tie_get{g:Gr}{b:Bool}{e:Ent}(h1:(tieG b g e).2=0)(k:St):
  getG (tieG b g e).1 k=(getG g k).map fun x=>if k=e.ino then {x with links:=x.links+1} else x:=by
 unfold tieG at h1 ⊢;by_cases c:whyG b g e=0
 ·rw[if_pos c];unfold getG;simp only[linksE_put,Option.map_map]
  congr 1
  funext x
  by_cases hk:k=e.ino
  ·subst hk;simp
  ·have hk':¬e.ino=k:=fun q=>hk q.symm;simp[hk,hk']
 ·rw[if_neg c] at h1;exact absurd h1 c
theorem tie_look{g:Gr}(h:g.ok){b:Bool}{e:Ent}(h1:(tieG b g e).2=0)(p:St×ByteArray):
  lookL (pairsE (tieG b g e).1) p=if p=(e.dir,e.name) then some e.ino else lookL (pairsE g) p:=by
 have hok:=h.tie b e;unfold tieG at h1 hok ⊢;by_cases c:whyG b g e=0
 ·rw[if_pos c] at hok ⊢;have hn:lookE g.E e.dir e.name=none:=by
   cases hq:lookE g.E e.dir e.name with
   |none=>rfl
   |some y=>
    unfold whyG at c
    split at c
    ·cases c
    ·split at c
     ·split at c
      ·cases c
      ·rw[hq] at c;simp at c
     ·cases c
  obtain⟨d,nm⟩:=p;rw[look_pairsE,look_pairsE];refine Option.ext fun id=>?_;rw[look_iff hok,putIn_mem];by_cases hp:(d,nm)=(e.dir,e.name)
  ·rw[if_pos hp];simp only[Prod.mk.injEq] at hp;obtain⟨rfl,rfl⟩:=hp
   constructor
   ·rintro(q|q)
    ·rw[<-q]
    ·exact absurd ⟨rfl,rfl⟩ (look_none hn _ q)
   ·intro q
    injection q with q
    exact Or.inl (by rw[<-q])
  ·rw[if_neg hp,look_iff h]
   constructor
   ·rintro(q|q)
    ·exact absurd (by rw[<-q]) hp
    ·exact q
   ·exact Or.inr
 ·rw[if_neg c] at h1;exact absurd h1 c
theorem untie_look{g:Gr}(h:g.ok){d:St}{nm:ByteArray}{id:St}(h1:lookE g.E d nm=some id)(p:St×ByteArray):
  lookL (pairsE (untieG g d nm).1) p=if p=(d,nm) then none else lookL (pairsE g) p:=by
 have hok:=h.untie d nm;unfold untieG at hok ⊢;rw[h1] at hok ⊢;simp only at hok ⊢;obtain⟨d',nm'⟩:=p;rw[look_pairsE,look_pairsE];refine Option.ext fun u=>?_;rw[look_iff hok,List.mem_filter];by_cases hp:(d',nm')=(d,nm)
 ·rw[if_pos hp];simp only[Prod.mk.injEq] at hp;obtain⟨rfl,rfl⟩:=hp;simp
 ·rw[if_neg hp,look_iff h];have:(!(decide (d'=d)&&decide (nm'=nm)))=true:=by
   by_cases a:d'=d
   ·by_cases c:nm'=nm
    ·exact absurd (by rw[a,c]) hp
    ·simp[c]
   ·simp[a]
  constructor
  ·exact fun q=>q.1
  ·exact fun q=>⟨q,this⟩
theorem untie_links{g:Gr}(h:g.ok){d:St}{nm:ByteArray}{id:St}(h1:lookE g.E d nm=some id)(k:St):
  (linksE (g.E.filter fun e=>!(decide (e.dir=d)&&decide (e.name=nm))) k:Int)=(linksE g.E k:Int)-if k=id then 1 else 0:=by
 have hm:=(look_iff h).1 h1;have hnd:g.E.Nodup:=by
  have q:=keys_pairsE h;unfold pairsE at q;rw[List.map_map] at q;unfold List.Nodup at q ⊢;rw[List.pairwise_map] at q;exact q.imp fun r e=>r (by rw[e])
 have hu:∀e∈g.E,(!(decide (e.dir=d)&&decide (e.name=nm)))= !decide (e=⟨d,nm,id⟩):=by
  intro e he;by_cases q:e=⟨d,nm,id⟩
  ·subst q;simp
  ·have:¬(e.dir=d/\e.name=nm):=by
    rintro⟨rfl,rfl⟩;refine q ?_;have r:=(look_iff h (d:=e.dir) (nm:=e.name) (id:=e.ino)).2 he;rw[h1] at r
    injection r with r
    rw[r]
   simp only[q,decide_false,Bool.not_false,Bool.not_eq_true',Bool.and_eq_false_iff,decide_eq_false_iff_not];by_cases a:e.dir=d
   ·exact Or.inr fun c=>this ⟨a,c⟩
   ·exact Or.inl a
 rw[List.filter_congr hu];obtain⟨A,B,hE⟩:=List.append_of_mem hm;rw[hE] at hnd ⊢;have hA:∀e∈A,(!decide (e=(⟨d,nm,id⟩:Ent)))=true:=fun e he=>by
  have:=(List.nodup_append.1 hnd).2.2 e he ⟨d,nm,id⟩ (List.mem_cons_self ..);simp[this]
 have hB:∀e∈B,(!decide (e=(⟨d,nm,id⟩:Ent)))=true:=fun e he=>by
  have q:=(List.nodup_cons.1 (List.nodup_append.1 hnd).2.1).1;have:e≠⟨d,nm,id⟩:=fun r=>q (r▸he);simp[this]
 rw[List.filter_append,List.filter_eq_self.2 hA,List.filter_cons_of_neg (by simp),List.filter_eq_self.2 hB];unfold linksE;simp only[List.filter_append,List.filter_cons,List.length_append];by_cases hk:k=id
 ·subst hk;simp;omega
 ·have hk':¬id=k:=fun q=>hk q.symm;simp[hk,hk']
theorem untie_get{g:Gr}(h:g.ok){d:St}{nm:ByteArray}{id:St}(h1:lookE g.E d nm=some id)(k:St):
  getG (untieG g d nm).1 k=(getG g k).map fun x=>if k=id then {x with links:=x.links-1} else x:=by
 unfold untieG;rw[h1];unfold getG;simp only[untie_links h h1,Option.map_map]
 congr 1
 funext x
 by_cases hk:k=id
 ·simp[hk]
 ·simp[hk]
theorem drop_get{g:Gr}(h:g.ok){id:St}(h1:(dropG g id).2=0)(k:St):getG (dropG g id).1 k=if k=id then none else getG g k:=by
 have hok:=h.drop id
 cases hq:getG g id with
 |none=>
  unfold dropG at h1;rw[hq] at h1
  cases h1
 |some x=>
  unfold dropG at h1 hok ⊢;rw[hq] at h1 hok ⊢;simp only at h1 hok ⊢;by_cases c1:id=(0,0)
  ·rw[if_pos c1] at h1;cases h1
  rw[if_neg c1] at h1 hok ⊢;by_cases c2:0<x.links\/0<(listE g.E id).length
  ·rw[if_pos c2] at h1;cases h1
  rw[if_neg c2] at hok ⊢;refine Option.ext fun v=>?_;rw[get_iff hok];simp only[List.mem_filter];by_cases hk:k=id
  ·subst hk;rw[if_pos rfl]
   constructor
   ·rintro⟨y,⟨_,hy⟩,e1,_⟩;simp[e1] at hy
   ·intro q;cases q
  ·rw[if_neg hk,get_iff h]
   constructor
   ·rintro⟨y,⟨hy,_⟩,e1,rfl⟩;exact⟨y,hy,e1,rfl⟩
   ·rintro⟨y,hy,e1,rfl⟩;refine⟨y,⟨hy,?_⟩,e1,rfl⟩;have:¬y.id=id:=fun q=>hk (e1.symm.trans q);simp[this]
theorem drop_ents(g:Gr)(id:St):(dropG g id).1.E=g.E:=by
 unfold dropG
 split
 ·rfl
 ·split
  ·rfl
  ·split<;>rfl
theorem set_get{g:Gr}{id:St}{mode:Int}{data:ByteArray}(k:St):
  getG (setG g id mode data).1 k=(getG g k).map fun x=>if k=id then {x with mode:=mode,data:=data} else x:=by
 have hx:∀ {x:Ino}{s:St},g.I.find? (fun x=>decide (x.id=s))=some x->x.id=s:=fun h=>by
  have:=List.find?_some h
  simpa using this
 cases hq:getG g id with
 |none=>
  unfold setG;rw[hq]
  cases hk:getG g k with
  |none=>rfl
  |some x=>
   have:¬k=id:=fun q=>by rw[q,hq] at hk;cases hk
   simp[this]
 |some y=>
  unfold setG;rw[hq];unfold getG;simp only[List.find?_map,Option.map_map];have e:((fun x:Ino=>decide (x.id=k))∘fun x=>if x.id=id then {x with mode:=mode,data:=data} else x)=fun x=>decide (x.id=k):=by
   funext x
   simp only[Function.comp]
   split<;>rfl
  rw[e]
  cases hf:g.I.find? (fun x=>decide (x.id=k)) with
  |none=>rfl
  |some x=>
   have hxk:=hx hf;simp only[Option.map_some,Function.comp,Option.some.injEq];by_cases hk:k=id
   ·have:x.id=id:=hxk.trans hk;simp[hk,this]
   ·have:¬x.id=id:=fun r=>hk (hxk.symm.trans r);simp[hk,this]
theorem set_ents(g:Gr)(id:St)(mode:Int)(data:ByteArray):(setG g id mode data).1.E=g.E:=by
 unfold setG
 split<;>rfl
end Go.Proofs.YtnnnkaobhkeocaaGreatDoor
