/-
 Plain mathematics of layer 9: directories are trees; links are counted right. It needs no program.
-/
import Derived.Test.YtnnnkaobhkeocaaGreatDoorZ00
import Derived.Deep.QuietTactic
import Derived.BigQuiet
import Derived.Test.YtnnnkaobhkeocaaGreatDoorRows
import Derived.Deep.Cut
import Derived.Deep.DeepCutAuto
import Derived.Maps.AppendAt
import Derived.Deep.LoopGhost
namespace Go.Proofs.YtnnnkaobhkeocaaGreatDoor.GraphMath
open StampMath
theorem leads_rank{g:Gr}{f:St->Nat}(hf:∀e∈g.E,g.isDir e.ino->f e.dir<f e.ino){a b:St}(h:Leads g a b):a=b\/f b<f a:=by
 induction h with
 |here _=>exact Or.inl rfl
 |up e d he hd _ ih=>
  have:=hf e he hd;rcases ih with rfl|h
  ·exact Or.inr this
  ·exact Or.inr (by omega)
theorem Gr.ok.under_step{g:Gr}(h:g.ok){a b p:St}(hp:parentG g a=some p)(hab:a≠b):underG g a b=underG g p b:=by
 rw[Bool.eq_iff_iff,h.leads,h.leads]
 constructor
 ·intro hl
  cases hl with
  |here _=>exact absurd rfl hab
  |up e d he hd hl=>
   have:=h.parent he hd;rw[hp] at this;rw[Option.some.inj this];exact hl
 ·intro hl;obtain⟨e,he,rfl,rfl,hd⟩:=parent_of hp;exact Leads.up e b he hd hl
end Go.Proofs.YtnnnkaobhkeocaaGreatDoor.GraphMath
namespace Go.Proofs.YtnnnkaobhkeocaaGreatDoor.ExtentMath
open Go.RowKit
def bld(f:Nat->UInt8)(k:Nat):List UInt8:=(List.range k).map f
theorem bld_succ(f:Nat->UInt8)(k:Nat):bld f (k+1)=bld f k++[f k]:=by
 unfold bld;rw[List.range_succ,List.map_append]
 rfl
theorem bld_len(f:Nat->UInt8)(k:Nat):(bld f k).length=k:=by simp[bld]
theorem bld_get(f:Nat->UInt8){k i:Nat}(h:i<k):(bld f k)[i]?=some (f i):=by
 unfold bld;rw[List.getElem?_map,List.getElem?_range h]
 rfl
def bAt(d:List UInt8)(i:Nat):UInt8:=d.getD i 0
theorem bAt_lt{d:List UInt8}{i:Nat}(h:i<d.length):bAt d i=d[i]:=by
 unfold bAt;rw[List.getD_eq_getElem?_getD,List.getElem?_eq_getElem h]
 rfl
theorem bAt_ge{d:List UInt8}{i:Nat}(h:d.length<=i):bAt d i=0:=by
 unfold bAt;rw[List.getD_eq_getElem?_getD,List.getElem?_eq_none h]
 rfl
theorem bAt_bld(f:Nat->UInt8){k i:Nat}(h:i<k):bAt (bld f k) i=f i:=by
 unfold bAt;rw[List.getD_eq_getElem?_getD,bld_get f h]
 rfl
theorem same_bytes{a b:List UInt8}(hl:a.length=b.length)(h:∀i,i<a.length->bAt a i=bAt b i):a=b:=by
 apply List.ext_getElem hl;intro i h1 h2;have:=h i h1;rw[bAt_lt h1,bAt_lt h2] at this;exact this
def wF(d s:List UInt8)(o i:Nat):UInt8:=if o<=i/\i<o+s.length then bAt s (i-o) else bAt d i
def wL(d s:List UInt8)(o:Nat):List UInt8:=bld (wF d s o) (max d.length (o+s.length))
def tL(d:List UInt8)(n:Nat):List UInt8:=bld (bAt d) n
def rL(d:List UInt8)(o m:Nat):List UInt8:=(d.drop o).take m
theorem wL_len(d s:List UInt8)(o:Nat):(wL d s o).length=max d.length (o+s.length):=bld_len _ _
theorem tL_len(d:List UInt8)(n:Nat):(tL d n).length=n:=bld_len _ _
theorem bAt_wL(d s:List UInt8)(o i:Nat):bAt (wL d s o) i=wF d s o i:=by
 unfold wL;by_cases h:i<max d.length (o+s.length)
 ·exact bAt_bld _ h
 ·rw[bAt_ge (by rw[bld_len];omega)];unfold wF;rw[if_neg (by omega),bAt_ge (by omega)]
theorem bAt_tL(d:List UInt8)(n i:Nat):bAt (tL d n) i=if i<n then bAt d i else 0:=by
 unfold tL;by_cases h:i<n
 ·rw[if_pos h];exact bAt_bld _ h
 ·rw[if_neg h];exact bAt_ge (by rw[bld_len];omega)
def wR(d:ByteArray)(off:Int)(s:ByteArray):ByteArray×Int:=
 if off<0\/s.size=0 then(d,1)
 else if 64<off\/64<s.size\/64<d.size\/64<off+(s.size:Int) then(d,11)
 else(⟨(wL d.data.toList s.data.toList off.toNat).toArray⟩,0)
def tR(d:ByteArray)(n:Int):ByteArray×Int:=
 if n<0 then(d,1) else if 64<n\/64<d.size then(d,11) else(⟨(tL d.data.toList n.toNat).toArray⟩,0)
def rR(d:ByteArray)(off many:Int):ByteArray:=if off<0 then⟨#[]⟩ else⟨(rL d.data.toList off.toNat many.toNat).toArray⟩
end Go.Proofs.YtnnnkaobhkeocaaGreatDoor.ExtentMath
namespace Go.Proofs.YtnnnkaobhkeocaaGreatDoor.GraphMath
open StampMath OpMath ExtentMath
def oAt(o:Opn):St:=(o.pt,o.pr)
def oIno(o:Opn):St:=(o.it,o.ir)
def oTo(o:Opn):St:=(o.tt,o.tr)
def oSt(o:Opn):St:=(o.st,o.sr)
def kindG(g:Gr)(id:St):Int:=((getG g id).getD noIno).kind
def linksG(g:Gr)(id:St):Int:=((getG g id).getD noIno).links
def makesW(g:Gr)(o:Opn):Int:=
 if kindG g (oAt o)=0\/(o.k=4/\kindG g (oIno o)=0) then 3
 else if kindG g (oAt o)≠1 then 6
 else if o.k=4/\kindG g (oIno o)=1 then 5
 else if(lookE g.E (oAt o) o.name).isSome\/(o.k≠4/\kindG g (oSt o)≠0) then 4
 else if o.k≠4/\40<=g.I.length then 13
 else if o.k=4/\6<=linksG g (oIno o) then 12
 else 0
def targetG(g:Gr)(o:Opn):Option St:=lookE g.E (oTo o) o.new
def renamesW(g:Gr)(o:Opn):Int:=
 if lookE g.E (oAt o) o.name≠some (oIno o)\/kindG g (oTo o)=0 then 3
 else if kindG g (oTo o)≠1 then 6
 else if targetG g o=some (oIno o) then 0
 else if kindG g (oIno o)=1/\underG g (oTo o) (oIno o)=true then 8
 else if((targetG g o).isSome/\kindG g ((targetG g o).getD (0,0))=1)/\kindG g (oIno o)≠1 then 5
 else if(targetG g o).isSome/\kindG g (oIno o)=1/\¬((targetG g o).isSome/\kindG g ((targetG g o).getD (0,0))=1) then 6
 else if((targetG g o).isSome/\kindG g ((targetG g o).getD (0,0))=1)/\0<(listE g.E ((targetG g o).getD (0,0))).length then 7
 else 0
def whyA(g:Gr)(o:Opn):Int:=
 if mayO o=false then 1
 else if o.k<=4 then makesW g o
 else if o.k=7 then renamesW g o
 else if(o.k<=6/\lookE g.E (oAt o) o.name≠some (oIno o))\/kindG g (oIno o)=0 then 3
 else if(o.k=5\/o.k=8\/o.k=9)/\kindG g (oIno o)=1 then 5
 else if o.k=6/\kindG g (oIno o)≠1 then 6
 else if o.k=6/\0<(listE g.E (oIno o)).length then 7
 else if(o.k=8\/o.k=9)/\kindG g (oIno o)=3 then 8
 else 0
def goneG(g:Gr)(d:St)(nm:ByteArray):Gr:=
 if linksE (untieG g d nm).1.E (untieG g d nm).2.1=0 then(dropG (untieG g d nm).1 (untieG g d nm).2.1).1 else(untieG g d nm).1
def tie1(g:Gr)(d:St)(nm:ByteArray)(ino:St):Gr:=(tieG (nameB nm) g ⟨d,nm,ino⟩).1
def inoG(g:Gr)(id:St):Ino:=(getG g id).getD noIno
def bytes(l:List UInt8):ByteArray:=⟨l.toArray⟩
def madeA(g:Gr)(o:Opn):Gr:=
 if o.k<=3 then tie1 (setG (makeG g (oSt o) o.k).1 (oSt o) 0 o.data).1 (oAt o) o.name (oSt o)
 else if o.k=4 then tie1 g (oAt o) o.name (oIno o)
 else if o.k<=6 then goneG g (oAt o) o.name
 else if o.k=7 then
  if targetG g o=some (oIno o) then g
  else tie1 (untieG (if(targetG g o).isSome then goneG g (oTo o) o.new else g) (oAt o) o.name).1 (oTo o) o.new (oIno o)
 else if o.k=8 then(setG g (oIno o) (inoG g (oIno o)).mode (bytes (wL (inoG g (oIno o)).data.data.toList o.data.data.toList o.off.toNat))).1
 else if o.k=9 then(setG g (oIno o) (inoG g (oIno o)).mode (bytes (tL (inoG g (oIno o)).data.data.toList o.off.toNat))).1
 else(setG g (oIno o) o.off (inoG g (oIno o)).data).1
def doA(g:Gr)(o:Opn):Gr×Int:=if whyA g o=0 then(madeA g o,0) else(g,whyA g o)
structure Gr.fine (g:Gr):Prop where
 ok:g.ok
 names:∀e∈g.E,nameB e.name=true
 held:∀x∈g.I,x.id≠(0,0)->1<=linksE g.E x.id
 bound:∀x∈g.I,boundOk1 x
theorem kindG_I(g:Gr)(id:St):kindG g id=((g.I.find? fun x=>decide (x.id=id)).map (·.kind)).getD 0:=by
 unfold kindG getG
 cases g.I.find? (fun x=>decide (x.id=id))<;>rfl
theorem kindG_same{g g':Gr}(h:g.I=g'.I)(id:St):kindG g id=kindG g' id:=by rw[kindG_I,kindG_I,h]
theorem Gr.ok.kindG{g:Gr}(h:g.ok){x:Ino}(hx:x∈g.I):GraphMath.kindG g x.id=x.kind:=by
 unfold GraphMath.kindG;rw[h.get hx]
 rfl
theorem kindG_some{g:Gr}{id:St}(h:kindG g id≠0):∃x∈g.I,x.id=id/\x.kind=kindG g id:=by
 rw[kindG_I] at h ⊢
 cases hq:g.I.find? (fun x=>decide (x.id=id)) with
 |none=>rw[hq] at h;exact absurd rfl h
 |some x=>exact⟨x,List.mem_of_find?_eq_some hq,by simpa using List.find?_some hq,rfl⟩
theorem kindG_dir{g:Gr}{id:St}(h:kindG g id=1):g.isDir id:=by
 obtain⟨x,hx,h1,h2⟩:=kindG_some (g:=g) (id:=id) (by rw[h];decide);exact⟨x,hx,h1,h2.trans h⟩
theorem Gr.ok.kindDir{g:Gr}(h:g.ok){id:St}(hd:g.isDir id):GraphMath.kindG g id=1:=by
 obtain⟨x,hx,h1,h2⟩:=hd;rw[<-h1,h.kindG hx,h2]
theorem Gr.ok.there{g:Gr}(h:g.ok){id:St}(hk:GraphMath.kindG g id≠0):∃x,getG g id=some x:=by
 obtain⟨x,hx,h1,_⟩:=kindG_some hk;exact⟨_,by rw[<-h1];exact h.get hx⟩
theorem kindG_zero{g:Gr}(h:g.ok){id:St}(hk:kindG g id=0):∀x∈g.I,x.id≠id:=fun x hx e=>by
 have:=h.kindG hx;rw[e,hk] at this;have:=(h.kinds x hx).1;omega
theorem getG_zero{g:Gr}(h:g.ok){id:St}(hk:kindG g id=0):getG g id=none:=by
 unfold getG;rw[List.find?_eq_none.2 fun x hx=>by simpa using kindG_zero h hk x hx]
 rfl
theorem new_fine:newG.fine where
 ok:=new_okG
 names:=fun e he=>by cases he
 held:=fun x hx h0=>by rw[List.mem_singleton.1 hx] at h0;exact absurd rfl h0
 bound:=fun x hx=>by rw[List.mem_singleton.1 hx];unfold boundOk1;decide
end Go.Proofs.YtnnnkaobhkeocaaGreatDoor.GraphMath
namespace Go.Proofs.YtnnnkaobhkeocaaGreatDoor.GraphMath
open StampMath OpMath ExtentMath
theorem mayO_parts{o:Opn}(h:mayO o=true):1<=o.k/\o.k<=10/\bareO o=o/\o.st≠0/\mayB o.st o.sr=true/\(o.k<=7->nameB o.name=true)/\(o.k=7->nameB o.new=true)/\dataB o=true:=by
 unfold mayO at h;simp only[Bool.and_eq_true,decide_eq_true_iff,Bool.not_eq_true',beq_eq_false_iff_ne,Bool.or_eq_true] at h;obtain⟨⟨⟨⟨⟨⟨h1,h2⟩,h3⟩,h4⟩,h5⟩,⟨⟨_,h6⟩,h7⟩⟩,h8⟩:=h;refine⟨h1,h2,h3,h4,h5,fun q=>?_,fun q=>?_,h8⟩
 ·rcases h6 with h6|h6
  ·omega
  ·exact h6
 ·rcases h7 with h7|h7
  ·exact absurd q h7
  ·exact h7
theorem bare_data{o:Opn}(h:bareO o=o)(hk:o.k≠3)(hk8:o.k≠8):o.data.size=0:=by
 have e:(bareO o).data=⟨#[]⟩:=if_neg (by omega);rw[h] at e;rw[e]
 rfl
theorem made_bound{o:Opn}(h:mayO o=true)(hk:o.k<=3):boundOk1 ⟨oSt o,o.k,0,0,o.data⟩:=by
 obtain⟨h1,_,h3,_,_,_,_,h8⟩:=mayO_parts h;unfold boundOk1;dsimp only;by_cases q:o.k=3
 ·unfold dataB at h8;rw[if_pos q] at h8;simp only[Bool.and_eq_true,decide_eq_true_iff] at h8;exact⟨by omega,by omega,fun r=>by omega,fun r=>by omega,fun _=>⟨by omega,by omega⟩⟩
 ·have:=bare_data h3 q (by omega);exact⟨by omega,by omega,fun _=>this,fun _=>by omega,fun r=>absurd r q⟩
theorem why_zero_of{g:Gr}{e:Ent}{X:Ino}(hn:nameB e.name=true)(hd:kindG g e.dir=1)(hx:getG g e.ino=some X)(hl:lookE g.E e.dir e.name=none)
  (hu:X.kind=1->e.ino≠(0,0)/\underG g e.dir e.ino=false)(hf:¬(X.kind=1/\0<X.links\/6<=X.links)):whyG (nameB e.name) g e=0:=by
 obtain⟨A,hA,hk⟩:∃A,getG g e.dir=some A/\A.kind=1:=by
  unfold kindG at hd
  cases hq:getG g e.dir with
  |none=>rw[hq] at hd;exact absurd hd (by decide)
  |some A=>exact⟨A,rfl,by rw[hq] at hd;exact hd⟩
 have hk':¬A.kind≠1:=fun q=>q hk;have hl':¬(lookE g.E e.dir e.name).isSome=true:=by rw[hl];simp
 have h8:¬(X.kind=1/\(e.ino=(0,0)\/underG g e.dir e.ino=true)):=by
  rintro⟨q,r⟩;obtain⟨u1,u2⟩:=hu q;rcases r with r|r
  ·exact u1 r
  ·rw[u2] at r;cases r
 unfold whyG;rw[if_neg (by simp[hn])];simp only[hA,hx];rw[if_neg hk',if_neg hl',if_neg h8,if_neg hf]
theorem tie_I{g:Gr}{b:Bool}{e:Ent}:(tieG b g e).1.I=g.I:=by
 unfold tieG
 split<;>rfl
theorem Gr.ok.tieFine{g:Gr}(h:g.ok)(hn:∀e∈g.E,nameB e.name=true)(hb:∀x∈g.I,boundOk1 x)(e:Ent)(hh:∀x∈g.I,x.id≠(0,0)->x.id≠e.ino->1<=linksE g.E x.id)(hw:whyG (nameB e.name) g e=0):(tieG (nameB e.name) g e).1.fine:=by
 have hE:(tieG (nameB e.name) g e).1.E=putIn (fun a=>aheadE a e) g.E e:=by unfold tieG;rw[if_pos hw]
 refine⟨h.tie _ e,names_tie hn e,?_,by rw[tie_I];exact hb⟩;intro x hx h0;rw[tie_I] at hx;rw[hE,linksE_put];by_cases q:x.id=e.ino
 ·rw[if_pos q.symm];omega
 ·have:=hh x hx h0 q;omega
theorem set_mem{g:Gr}{id:St}{mode:Int}{data:ByteArray}{x:Ino}(h:x∈(setG g id mode data).1.I):∃y∈g.I,x=if y.id=id then {y with mode:=mode,data:=data} else y:=by
 unfold setG at h
 cases hq:getG g id with
 |none=>
  rw[hq] at h;exact⟨x,h,by rw[if_neg (get_none hq x h)]⟩
 |some X=>
  rw[hq] at h;obtain⟨y,hy,rfl⟩:=List.mem_map.1 h;exact⟨y,hy,rfl⟩
theorem Gr.fine.set{g:Gr}(h:g.fine)(id:St)(mode:Int)(data:ByteArray)(hb:∀x∈g.I,x.id=id->boundOk1 {x with mode:=mode,data:=data}):(setG g id mode data).1.fine:=by
 refine⟨h.ok.set id mode data,by rw[set_ents];exact h.names,?_,?_⟩
 ·rw[set_ents];intro x hx h0;obtain⟨y,hy,rfl⟩:=set_mem hx;by_cases q:y.id=id
  ·rw[if_pos q] at h0 ⊢;exact h.held y hy h0
  ·rw[if_neg q] at h0 ⊢;exact h.held y hy h0
 ·intro x hx;obtain⟨y,hy,rfl⟩:=set_mem hx;by_cases q:y.id=id
  ·rw[if_pos q];exact hb y hy q
  ·rw[if_neg q];exact h.bound y hy
theorem leads_end{g:Gr}{a d:St}(h:Leads g a d):a=d\/∃e∈g.E,e.dir=d:=by
 induction h with
 |here=>exact Or.inl rfl
 |up e d he _ _ ih=>
  rcases ih with ih|ih
  ·exact Or.inr ⟨e,he,ih⟩
  ·exact Or.inr ih
theorem makesW_zero{g:Gr}{o:Opn}(h:makesW g o=0):kindG g (oAt o)=1/\lookE g.E (oAt o) o.name=none/\(o.k≠4->kindG g (oSt o)=0/\g.I.length<40)/\(o.k=4->kindG g (oIno o)≠0/\kindG g (oIno o)≠1/\linksG g (oIno o)<6):=by
 unfold makesW at h;by_cases c1:kindG g (oAt o)=0\/(o.k=4/\kindG g (oIno o)=0)
 ·rw[if_pos c1] at h;cases h
 rw[if_neg c1] at h;by_cases c2:kindG g (oAt o)≠1
 ·rw[if_pos c2] at h;cases h
 rw[if_neg c2] at h;by_cases c3:o.k=4/\kindG g (oIno o)=1
 ·rw[if_pos c3] at h;cases h
 rw[if_neg c3] at h;by_cases c4:(lookE g.E (oAt o) o.name).isSome=true\/(o.k≠4/\kindG g (oSt o)≠0)
 ·rw[if_pos c4] at h;cases h
 rw[if_neg c4] at h;by_cases c5:o.k≠4/\40<=g.I.length
 ·rw[if_pos c5] at h;cases h
 rw[if_neg c5] at h;by_cases c6:o.k=4/\6<=linksG g (oIno o)
 ·rw[if_pos c6] at h;cases h
 refine⟨by omega,?_,fun q=>⟨?_,?_⟩,fun q=>⟨?_,?_,?_⟩⟩
 ·cases hq:lookE g.E (oAt o) o.name with
  |none=>rfl
  |some _=>exact absurd (Or.inl (by rw[hq];rfl)) c4
 ·exact Classical.byContradiction fun r=>c4 (Or.inr ⟨q,r⟩)
 ·exact Classical.byContradiction fun r=>c5 ⟨q,by omega⟩
 ·exact fun r=>c1 (Or.inr ⟨q,r⟩)
 ·exact fun r=>c3 ⟨q,r⟩
 ·exact Classical.byContradiction fun r=>c6 ⟨q,by omega⟩
theorem make_zero{g:Gr}(h:g.ok){o:Opn}(hm:mayO o=true)(hk:o.k<=3)(hs:kindG g (oSt o)=0)(hl:g.I.length<40):
  makeG g (oSt o) o.k=(⟨putIn (fun x=>lessS x.id (oSt o)) g.I ⟨oSt o,o.k,0,0,⟨#[]⟩⟩,g.E⟩,0):=by
 obtain⟨h1,_,_,_,h5,_⟩:=mayO_parts hm;have c1:¬(mayB (oSt o).1 (oSt o).2=false\/o.k<1\/3<o.k):=by
  rintro(q|q|q)
  ·rw[show mayB (oSt o).1 (oSt o).2=true from h5] at q;cases q
  ·omega
  ·omega
 have c2:¬(getG g (oSt o)).isSome=true:=by rw[getG_zero h hs];simp
 unfold makeG;rw[if_neg c1,if_neg c2,if_neg (by omega)]
def between(g:Gr)(o:Opn):Gr:=(setG (makeG g (oSt o) o.k).1 (oSt o) 0 o.data).1
theorem between_get{g:Gr}(h:g.ok){o:Opn}(hm:mayO o=true)(hk:o.k<=3)(hs:kindG g (oSt o)=0)(hl:g.I.length<40)(k:St):
  getG (between g o) k=if k=oSt o then some ⟨oSt o,o.k,0,0,o.data⟩ else getG g k:=by
 have h0:(makeG g (oSt o) o.k).2=0:=by rw[make_zero h hm hk hs hl]
 unfold between;rw[set_get,make_get h h0];by_cases q:k=oSt o
 ·rw[if_pos q,if_pos q];simp[q]
 ·rw[if_neg q,if_neg q]
  cases getG g k<;>simp[q]
theorem between_mem{g:Gr}(h:g.ok){o:Opn}(hm:mayO o=true)(hk:o.k<=3)(hs:kindG g (oSt o)=0)(hl:g.I.length<40){x:Ino}(hx:x∈(between g o).I):
  x=⟨oSt o,o.k,0,0,o.data⟩\/(x∈g.I/\x.id≠oSt o):=by
 unfold between at hx;obtain⟨y,hy,hxy⟩:=set_mem hx;rw[make_zero h hm hk hs hl] at hy;rcases putIn_mem.1 hy with q|q
 ·subst q;rw[if_pos rfl] at hxy;exact Or.inl hxy
 ·have:=kindG_zero h hs y q;rw[if_neg this] at hxy;exact Or.inr ⟨by rw[hxy];exact q,by rw[hxy];exact this⟩
theorem between_E(g:Gr)(o:Opn):(between g o).E=g.E:=by
 unfold between;rw[set_ents,make_ents]
theorem between_ok{g:Gr}(h:g.ok)(o:Opn):(between g o).ok:=(h.make _ _).set _ _ _
theorem between_why{g:Gr}(h:g.ok){o:Opn}(hm:mayO o=true)(hk:o.k<=3)(hw:makesW g o=0):whyG (nameB o.name) (between g o) ⟨oAt o,o.name,oSt o⟩=0:=by
 obtain⟨w1,w2,w3,_⟩:=makesW_zero hw;obtain⟨hs,hl⟩:=w3 (by omega);obtain⟨_,_,_,h4,_,h6,_⟩:=mayO_parts hm;have hget:=between_get h hm hk hs hl;have hne:oAt o≠oSt o:=fun q=>by rw[q,hs] at w1;cases w1
 refine why_zero_of (e:=⟨oAt o,o.name,oSt o⟩) (h6 (by omega)) ?_ (by rw[hget,if_pos rfl]) (by rw[between_E];exact w2) (fun _=>⟨fun q=>h4 (congrArg Prod.fst q),?_⟩) (by dsimp only;omega)
 ·show kindG (between g o) (oAt o)=1;unfold kindG at w1 ⊢;rw[hget,if_neg hne];exact w1
 ·rw[Bool.eq_false_iff];intro q;rcases leads_end ((between_ok h o).leads.1 q) with r|⟨e,he,r⟩
  ·exact hne r
  ·rw[between_E] at he;obtain⟨y,hy,hyi,_⟩:=h.dirs e he;exact kindG_zero h hs y hy (hyi.trans r)
theorem makes_fine{g:Gr}(h:g.fine){o:Opn}(hm:mayO o=true)(hk:o.k<=3)(hw:makesW g o=0):(tie1 (between g o) (oAt o) o.name (oSt o)).fine:=by
 obtain⟨w1,w2,w3,_⟩:=makesW_zero hw;obtain⟨hs,hl⟩:=w3 (by omega);unfold tie1;refine(between_ok h.ok o).tieFine (by rw[between_E];exact h.names) (fun x hx=>?_) ⟨oAt o,o.name,oSt o⟩ (fun x hx h0 hne=>?_) (between_why h.ok hm hk hw)
 ·rcases between_mem h.ok hm hk hs hl hx with q|q
  ·rw[q];exact made_bound hm hk
  ·exact h.bound x q.1
 ·rcases between_mem h.ok hm hk hs hl hx with q|q
  ·exact absurd (by rw[q]) hne
  ·rw[between_E];exact h.held x q.1 h0
theorem link_why{g:Gr}(h:g.ok){o:Opn}(hm:mayO o=true)(hk:o.k=4)(hw:makesW g o=0):whyG (nameB o.name) g ⟨oAt o,o.name,oIno o⟩=0:=by
 obtain⟨w1,w2,_,w4⟩:=makesW_zero hw;obtain⟨k0,k1,k6⟩:=w4 hk;obtain⟨_,_,_,_,_,h6,_⟩:=mayO_parts hm;obtain⟨X,hX⟩:=h.there k0;have e1:X.kind≠1:=by unfold kindG at k1;rw[hX] at k1;exact k1
 have e2:X.links<6:=by unfold linksG at k6;rw[hX] at k6;exact k6
 exact why_zero_of (e:=⟨oAt o,o.name,oIno o⟩) (h6 (by omega)) w1 hX w2 (fun q=>absurd q e1) (by omega)
theorem link_fine{g:Gr}(h:g.fine){o:Opn}(hm:mayO o=true)(hk:o.k=4)(hw:makesW g o=0):(tie1 g (oAt o) o.name (oIno o)).fine:=
 h.ok.tieFine h.names h.bound ⟨oAt o,o.name,oIno o⟩ (fun x hx h0 _=>h.held x hx h0) (link_why h.ok hm hk hw)
def without(E:List Ent)(d:St)(nm:ByteArray):List Ent:=E.filter fun e=>!(decide (e.dir=d)&&decide (e.name=nm))
theorem untie_eq{g:Gr}{d:St}{nm:ByteArray}{id:St}(hl:lookE g.E d nm=some id):untieG g d nm=(⟨g.I,without g.E d nm⟩,id,0):=by unfold untieG;rw[hl];rfl
theorem links_without{g:Gr}(h:g.ok){d:St}{nm:ByteArray}{id:St}(hl:lookE g.E d nm=some id)(k:St):linksE (without g.E d nm) k=linksE g.E k-if k=id then 1 else 0:=by
 have:=untie_links h hl k;change((linksE (without g.E d nm) k:Nat):Int)=_ at this;by_cases q:k=id
 ·rw[if_pos q] at this ⊢;omega
 ·rw[if_neg q] at this ⊢;omega
theorem list_without{E:List Ent}{d:St}{nm:ByteArray}{id:St}(h:listE E id= []):listE (without E d nm) id= []:=by
 unfold listE without at*
 rw[List.filter_eq_nil_iff] at h ⊢;exact fun e he=>h e (List.mem_filter.1 he).1
theorem look_pos{g:Gr}(h:g.ok){d:St}{nm:ByteArray}{id:St}(hl:lookE g.E d nm=some id):1<=linksE g.E id:=by
 unfold linksE;exact List.length_pos_of_mem (List.mem_filter.2 ⟨(look_iff h).1 hl,by simp⟩)
theorem gone_eq{g:Gr}(h:g.ok){d:St}{nm:ByteArray}{id:St}(hl:lookE g.E d nm=some id)(he:listE g.E id= []):
  goneG g d nm=⟨if linksE g.E id=1 then g.I.filter (fun x=>!decide (x.id=id)) else g.I,without g.E d nm⟩:=by
 have hp:=look_pos h hl;have hw:=links_without h hl id;rw[if_pos rfl] at hw;unfold goneG;rw[untie_eq hl];dsimp only;by_cases q:linksE g.E id=1
 ·have h0:linksE (without g.E d nm) id=0:=by omega
  rw[if_pos h0,if_pos q];have hok:(⟨g.I,without g.E d nm⟩:Gr).ok:=by have:=h.untie d nm;rwa[untie_eq hl] at this
  obtain⟨x,hx,hxi⟩:=h.inos _ ((look_iff h).1 hl);have hg:getG ⟨g.I,without g.E d nm⟩ id=some {x with links:=(linksE (without g.E d nm) id:Int)}:=(get_iff hok).2 ⟨x,hx,hxi,rfl⟩;have hr:¬id=(0,0):=h.noRoot _ ((look_iff h).1 hl);have hc:¬(0<((linksE (without g.E d nm) id:Nat):Int)\/0<(listE (without g.E d nm) id).length):=by
   rw[list_without he,h0];simp
  unfold dropG;rw[hg];dsimp only;rw[if_neg hr,if_neg hc]
 ·rw[if_neg q,if_neg (by omega)]
theorem Gr.fine.gone{g:Gr}(h:g.fine){d:St}{nm:ByteArray}{id:St}(hl:lookE g.E d nm=some id)(he:listE g.E id= []):(goneG g d nm).fine:=by
 have hok:(goneG g d nm).ok:=by
  unfold goneG
  split
  ·exact(h.ok.untie d nm).drop _
  ·exact h.ok.untie d nm
 have hp:=look_pos h.ok hl;rw[gone_eq h.ok hl he] at hok ⊢;have hsub:∀x,x∈(if linksE g.E id=1 then g.I.filter (fun x=>!decide (x.id=id)) else g.I)->x∈g.I/\(linksE g.E id=1->x.id≠id):=by
  intro x hx;by_cases q:linksE g.E id=1
  ·rw[if_pos q] at hx;obtain⟨h1,h2⟩:=List.mem_filter.1 hx;exact⟨h1,fun _=>by simpa using h2⟩
  ·rw[if_neg q] at hx;exact⟨hx,fun r=>absurd r q⟩
 refine⟨hok,fun e he'=>h.names e (List.mem_filter.1 he').1,fun x hx h0=>?_,fun x hx=>h.bound x (hsub x hx).1⟩;obtain⟨hx1,hx2⟩:=hsub x hx;show 1<=linksE (without g.E d nm) x.id;rw[links_without h.ok hl];by_cases q:x.id=id
 ·rw[if_pos q,q];have:linksE g.E id≠1:=fun r=>hx2 r q;omega
 ·rw[if_neg q];exact h.held x hx1 h0
end Go.Proofs.YtnnnkaobhkeocaaGreatDoor.GraphMath
namespace Go.Proofs.YtnnnkaobhkeocaaGreatDoor.GraphMath
open StampMath OpMath ExtentMath
theorem renamesW_zero{g:Gr}{o:Opn}(h:renamesW g o=0):lookE g.E (oAt o) o.name=some (oIno o)/\kindG g (oTo o)=1/\
  (targetG g o≠some (oIno o)->(kindG g (oIno o)=1->underG g (oTo o) (oIno o)=false)/\∀t,targetG g o=some t->(kindG g t=1->kindG g (oIno o)=1/\listE g.E t= [])/\(kindG g (oIno o)=1->kindG g t=1)):=by
 unfold renamesW at h;by_cases c1:lookE g.E (oAt o) o.name≠some (oIno o)\/kindG g (oTo o)=0
 ·rw[if_pos c1] at h;cases h
 rw[if_neg c1] at h;by_cases c2:kindG g (oTo o)≠1
 ·rw[if_pos c2] at h;cases h
 rw[if_neg c2] at h;refine⟨Classical.byContradiction fun q=>c1 (Or.inl q),by omega,fun hne=>?_⟩;rw[if_neg hne] at h;by_cases c4:kindG g (oIno o)=1/\underG g (oTo o) (oIno o)=true
 ·rw[if_pos c4] at h;cases h
 rw[if_neg c4] at h;by_cases c5:((targetG g o).isSome=true/\kindG g ((targetG g o).getD (0,0))=1)/\kindG g (oIno o)≠1
 ·rw[if_pos c5] at h;cases h
 rw[if_neg c5] at h;by_cases c6:(targetG g o).isSome=true/\kindG g (oIno o)=1/\¬((targetG g o).isSome=true/\kindG g ((targetG g o).getD (0,0))=1)
 ·rw[if_pos c6] at h;cases h
 rw[if_neg c6] at h;by_cases c7:((targetG g o).isSome=true/\kindG g ((targetG g o).getD (0,0))=1)/\0<(listE g.E ((targetG g o).getD (0,0))).length
 ·rw[if_pos c7] at h;cases h
 refine⟨fun q=>?_,fun t ht=>?_⟩
 ·rw[Bool.eq_false_iff];exact fun r=>c4 ⟨q,r⟩
 ·rw[ht] at c5 c6 c7;refine⟨fun q=>⟨?_,?_⟩,fun q=>?_⟩
  ·exact Classical.byContradiction fun r=>c5 ⟨⟨rfl,q⟩,r⟩
  ·have:¬0<(listE g.E t).length:=fun r=>c7 ⟨⟨rfl,q⟩,r⟩;exact List.length_eq_zero_iff.1 (by omega)
  ·exact Classical.byContradiction fun r=>c6 ⟨rfl,q,fun s=>r s.2⟩
theorem leads_mono{g g':Gr}(hE:∀e∈g'.E,e∈g.E)(hD:∀d,g'.isDir d->g.isDir d){a b:St}(h:Leads g' a b):Leads g a b:=by
 induction h with
 |here=>exact Leads.here _
 |up e d he hd _ ih=>exact Leads.up e d (hE e he) (hD _ hd) ih
def cleared(g:Gr)(o:Opn):Gr:=if(targetG g o).isSome then goneG g (oTo o) o.new else g
theorem mem_without{E:List Ent}{d:St}{nm:ByteArray}{e:Ent}:e∈without E d nm↔e∈E/\¬(e.dir=d/\e.name=nm):=by
 unfold without;rw[List.mem_filter];refine and_congr_right fun _=>?_;rw[Bool.not_eq_true',Bool.and_eq_false_iff,decide_eq_false_iff_not,decide_eq_false_iff_not];by_cases a:e.dir=d
 ·simp[a]
 ·simp[a]
theorem Gr.ok.not_self{g:Gr}(h:g.ok){e:Ent}(he:e∈g.E):e.dir≠e.ino:=fun q=>by
 obtain⟨f,hf⟩:=h.rank;have hd:=h.dirs e he;have:=hf e he (by rw[<-q];exact hd);rw[q] at this;omega
structure Cleared (g:Gr) (o:Opn) (c:Gr):Prop where
 fine:c.fine
 ents:c.E=without g.E (oTo o) o.new
 sub:∀x∈c.I,x∈g.I
 stays:∀x∈g.I,targetG g o≠some x.id->x∈c.I
theorem cleared_is{g:Gr}(h:g.fine){o:Opn}(ht:∀t,targetG g o=some t->listE g.E t= []):Cleared g o (cleared g o):=by
 unfold cleared
 cases hq:targetG g o with
 |none=>
  rw[if_neg (by simp)];refine⟨h,?_,fun x hx=>hx,fun x hx _=>hx⟩;unfold without;rw[filter_all (look_none hq)]
 |some t=>
  rw[if_pos (show(some t).isSome=true from rfl)];have hl:=ht t hq;refine⟨h.gone hq hl,by rw[gone_eq h.ok hq hl],fun x hx=>?_,fun x hx hne=>?_⟩
  ·rw[gone_eq h.ok hq hl] at hx;dsimp only at hx
   split at hx
   ·exact(List.mem_filter.1 hx).1
   ·exact hx
  ·rw[gone_eq h.ok hq hl];dsimp only;have hxt:x.id≠t:=fun q=>hne (by rw[q];exact hq)
   split
   ·exact List.mem_filter.2 ⟨hx,by simpa using hxt⟩
   ·exact hx
def loosed(g:Gr)(o:Opn):Gr:=(untieG (cleared g o) (oAt o) o.name).1
structure Loosed (g:Gr) (o:Opn) (c:Gr):Prop where
 ok:c.ok
 names:∀e∈c.E,nameB e.name=true
 bound:∀x∈c.I,boundOk1 x
 held:∀x∈c.I,x.id≠(0,0)->x.id≠oIno o->1<=linksE c.E x.id
 why:whyG (nameB o.new) c ⟨oTo o,o.new,oIno o⟩=0
 ents:c.E=without (without g.E (oTo o) o.new) (oAt o) o.name
 inos:c.I=(cleared g o).I
 other:targetG g o≠some (oTo o)
 apart:¬(oAt o=oTo o/\o.name=o.new)
theorem rename_lists{g:Gr}(h:g.ok){o:Opn}(hw:renamesW g o=0)(hne:targetG g o≠some (oIno o)):∀t,targetG g o=some t->listE g.E t= []:=by
 intro t ht;obtain⟨_,_,w3⟩:=renamesW_zero hw;by_cases q:kindG g t=1
 ·exact(((w3 hne).2 t ht).1 q).2
 ·unfold listE;rw[List.filter_eq_nil_iff];intro e he;have hd:=h.kindDir (h.dirs e he);simp only[decide_eq_true_eq];exact fun r=>q (by rw[<-r];exact hd)
theorem loosed_is{g:Gr}(h:g.fine){o:Opn}(hm:mayO o=true)(hk:o.k=7)(hw:renamesW g o=0)(hne:targetG g o≠some (oIno o)):Loosed g o (loosed g o):=by
 obtain⟨w1,w2,w3⟩:=renamesW_zero hw;obtain⟨w4,w5⟩:=w3 hne;have hc:=cleared_is h (rename_lists h.ok hw hne);have hmem:(⟨oAt o,o.name,oIno o⟩:Ent)∈g.E:=(look_iff h.ok).1 w1;have hpl:¬(oAt o=oTo o/\o.name=o.new):=fun q=>hne (by unfold targetG;rw[<-q.1,<-q.2];exact w1);have hlook:lookE (cleared g o).E (oAt o) o.name=some (oIno o):=by
  rw[look_iff hc.fine.ok,hc.ents,mem_without];exact⟨hmem,hpl⟩
 have hto:targetG g o≠some (oTo o):=fun q=>by
  have:=h.ok.not_self ((look_iff h.ok).1 q);exact this rfl
 obtain⟨T,hT,hTi,hTk⟩:=kindG_dir w2;obtain⟨X,hX,hXi'⟩:=h.ok.inos _ hmem;have hXi:X.id=oIno o:=hXi';have hTc:=hc.stays T hT (by rw[hTi];exact hto);have hXc:=hc.stays X hX (by rw[hXi];exact hne);have e2:loosed g o=⟨(cleared g o).I,without (cleared g o).E (oAt o) o.name⟩:=by unfold loosed;rw[untie_eq hlook]
 have hok:(loosed g o).ok:=hc.fine.ok.untie _ _;have hlk:=links_without hc.fine.ok hlook (oIno o);rw[if_pos rfl] at hlk;have hxk:kindG g (oIno o)=X.kind:=by rw[<-hXi,h.ok.kindG hX]
 refine⟨hok,?_,?_,?_,?_,?_,by rw[e2],hto,hpl⟩
 ·rw[e2];exact fun e he=>hc.fine.names e (mem_without.1 he).1
 ·rw[e2];exact hc.fine.bound
 ·rw[e2];intro x hx h0 hx1;show 1<=linksE (without (cleared g o).E (oAt o) o.name) x.id;rw[links_without hc.fine.ok hlook,if_neg hx1];exact hc.fine.held x hx h0
 ·refine why_zero_of (X:={X with links:=(linksE (loosed g o).E (oIno o):Int)}) (e:=⟨oTo o,o.new,oIno o⟩) ((mayO_parts hm).2.2.2.2.2.2.1 hk) ?_ ((get_iff hok).2 ⟨X,by rw[e2];exact hXc,hXi,rfl⟩) ?_ (fun q=>⟨h.ok.noRoot ⟨oAt o,o.name,oIno o⟩ hmem,?_⟩) ?_
  ·show kindG (loosed g o) (oTo o)=1;rw[<-hTi,hok.kindG (by rw[e2];exact hTc),hTk]
  ·show lookE (loosed g o).E (oTo o) o.new=none;rw[e2];dsimp only;rw[hc.ents];unfold lookE;rw[List.find?_eq_none.2]
   ·rfl
   ·intro e he;have:=(mem_without.1 (mem_without.1 he).1).2
    simpa using this
  ·show underG (loosed g o) (oTo o) (oIno o)=false;rw[Bool.eq_false_iff];intro r;have hlg:=hok.leads.1 r;have hlg2:Leads g (oTo o) (oIno o):=leads_mono (fun e he=>by
    rw[e2] at he;have:=(mem_without.1 he).1;rw[hc.ents] at this
    exact(mem_without.1 this).1) (fun d hd=>by
    obtain⟨y,hy,hy1,hy2⟩:=hd;rw[e2] at hy
    exact⟨y,hc.sub y hy,hy1,hy2⟩) hlg
   have:=w4 (by rw[hxk];exact q);rw[h.ok.leads.2 hlg2] at this
   cases this
  ·dsimp only;have h6:=hc.fine.ok.six (oIno o);have e3:linksE (loosed g o).E (oIno o)=linksE (cleared g o).E (oIno o)-1:=by rw[e2];exact hlk
   have h1:X.kind=1->linksE (cleared g o).E (oIno o)<=1:=fun q=>hc.fine.ok.one _ ⟨X,hXc,hXi,q⟩;rintro(⟨q,r⟩|q)
   ·have:=h1 q;omega
   ·have:=look_pos hc.fine.ok hlook;omega
 ·rw[e2];dsimp only;rw[hc.ents]
theorem rename_fine{g:Gr}(h:g.fine){o:Opn}(hm:mayO o=true)(hk:o.k=7)(hw:renamesW g o=0)(hne:targetG g o≠some (oIno o)):(tie1 (loosed g o) (oTo o) o.new (oIno o)).fine:=by
 have hl:=loosed_is h hm hk hw hne;exact hl.ok.tieFine hl.names hl.bound ⟨oTo o,o.new,oIno o⟩ hl.held hl.why
theorem bytes_size(l:List UInt8):(bytes l).size=l.length:=rfl
theorem data_len(d:ByteArray):d.data.toList.length=d.size:=by simp
theorem whyA_rest{g:Gr}{o:Opn}(h:whyA g o=0)(h4:4<o.k)(h7:o.k≠7):(o.k<=6->lookE g.E (oAt o) o.name=some (oIno o))/\kindG g (oIno o)≠0/\(o.k=5\/o.k=8\/o.k=9->kindG g (oIno o)≠1)/\(o.k=6->kindG g (oIno o)=1/\listE g.E (oIno o)= [])/\(o.k=8\/o.k=9->kindG g (oIno o)≠3):=by
 unfold whyA at h;by_cases c0:mayO o=false
 ·rw[if_pos c0] at h;cases h
 rw[if_neg c0,if_neg (by omega),if_neg h7] at h;by_cases c1:(o.k<=6/\lookE g.E (oAt o) o.name≠some (oIno o))\/kindG g (oIno o)=0
 ·rw[if_pos c1] at h;cases h
 rw[if_neg c1] at h;by_cases c2:(o.k=5\/o.k=8\/o.k=9)/\kindG g (oIno o)=1
 ·rw[if_pos c2] at h;cases h
 rw[if_neg c2] at h;by_cases c3:o.k=6/\kindG g (oIno o)≠1
 ·rw[if_pos c3] at h;cases h
 rw[if_neg c3] at h;by_cases c4:o.k=6/\0<(listE g.E (oIno o)).length
 ·rw[if_pos c4] at h;cases h
 rw[if_neg c4] at h;by_cases c5:(o.k=8\/o.k=9)/\kindG g (oIno o)=3
 ·rw[if_pos c5] at h;cases h
 refine⟨fun q=>Classical.byContradiction fun r=>c1 (Or.inl ⟨q,r⟩),fun q=>c1 (Or.inr q),fun q r=>c2 ⟨q,r⟩,fun q=>⟨Classical.byContradiction fun r=>c3 ⟨q,r⟩,List.length_eq_zero_iff.1 (Nat.eq_zero_of_not_pos fun r=>c4 ⟨q,r⟩)⟩,fun q r=>c5 ⟨q,r⟩⟩
theorem whyA_may{g:Gr}{o:Opn}(h:whyA g o=0):mayO o=true:=by
 unfold whyA at h
 cases hq:mayO o with
 |true=>rfl
 |false=>rw[if_pos hq] at h;cases h
theorem whyA_makes{g:Gr}{o:Opn}(h:whyA g o=0)(h4:o.k<=4):makesW g o=0:=by
 have hm:=whyA_may h;unfold whyA at h
 rwa[if_neg (by rw[hm];simp),if_pos h4] at h
theorem whyA_renames{g:Gr}{o:Opn}(h:whyA g o=0)(h7:o.k=7):renamesW g o=0:=by
 have hm:=whyA_may h;unfold whyA at h
 rwa[if_neg (by rw[hm];simp),if_neg (by omega),if_pos h7] at h
theorem Gr.ok.list_none{g:Gr}(h:g.ok){id:St}(hk:GraphMath.kindG g id≠1):listE g.E id= []:=by
 unfold listE;rw[List.filter_eq_nil_iff];intro e he;have hd:=h.kindDir (h.dirs e he);simp only[decide_eq_true_eq];exact fun r=>hk (by rw[<-r];exact hd)
theorem Gr.fine.made{g:Gr}(h:g.fine){o:Opn}(hw:whyA g o=0):(madeA g o).fine:=by
 have hm:=whyA_may hw;obtain⟨p1,p2,p3,_,_,_,_,p8⟩:=mayO_parts hm;unfold madeA;by_cases k3:o.k<=3
 ·rw[if_pos k3];exact makes_fine h hm k3 (whyA_makes hw (by omega))
 rw[if_neg k3];by_cases k4:o.k=4
 ·rw[if_pos k4];exact link_fine h hm k4 (whyA_makes hw (by omega))
 rw[if_neg k4];by_cases k6:o.k<=6
 ·rw[if_pos k6];obtain⟨r1,r2,r3,r4,_⟩:=whyA_rest hw (by omega) (by omega);refine h.gone (r1 k6) ?_;by_cases q:o.k=6
  ·exact(r4 q).2
  ·exact h.ok.list_none (r3 (Or.inl (by omega)))
 rw[if_neg k6];by_cases k7:o.k=7
 ·rw[if_pos k7];by_cases ht:targetG g o=some (oIno o)
  ·rw[if_pos ht];exact h
  ·rw[if_neg ht];exact rename_fine h hm k7 (whyA_renames hw k7) ht
 rw[if_neg k7];obtain⟨_,r2,r3,_,r5⟩:=whyA_rest hw (by omega) k7;have hino:∀x∈g.I,x.id=oIno o->inoG g (oIno o)= {x with links:=(linksE g.E x.id:Int)}/\kindG g (oIno o)=x.kind:=fun x hx e=>by
  unfold inoG;rw[<-e,h.ok.get hx,h.ok.kindG hx];exact⟨rfl,rfl⟩
 unfold dataB at p8;by_cases k8:o.k=8
 ·rw[if_pos k8];rw[if_neg (by omega),if_pos k8] at p8;simp only[Bool.and_eq_true,decide_eq_true_iff] at p8;refine h.set _ _ _ fun x hx e=>?_;obtain⟨e1,e2⟩:=hino x hx e;have hb:=h.bound x hx;have hk:=h.ok.kinds x hx;have:=r3 (Or.inr (Or.inl k8));have:=r5 (Or.inl k8);have hk2:x.kind=2:=by omega
  unfold boundOk1 at hb ⊢;rw[e1];dsimp only;refine⟨hb.1,hb.2.1,fun q=>by omega,fun _=>?_,fun q=>by omega⟩;rw[bytes_size,wL_len,data_len,data_len];have:=hb.2.2.2.1 hk2;omega
 rw[if_neg k8];by_cases k9:o.k=9
 ·rw[if_pos k9];rw[if_neg (by omega),if_neg k8,if_pos k9] at p8;simp only[Bool.and_eq_true,decide_eq_true_iff] at p8;refine h.set _ _ _ fun x hx e=>?_;obtain⟨e1,e2⟩:=hino x hx e;have hb:=h.bound x hx;have hk:=h.ok.kinds x hx;have:=r3 (Or.inr (Or.inr k9));have:=r5 (Or.inr k9);have hk2:x.kind=2:=by omega
  unfold boundOk1 at hb ⊢;rw[e1];dsimp only;refine⟨hb.1,hb.2.1,fun q=>by omega,fun _=>?_,fun q=>by omega⟩;rw[bytes_size];unfold tL;rw[bld_len];omega
 ·rw[if_neg k9];rw[if_neg (by omega),if_neg k8,if_neg k9,if_pos (by omega)] at p8;simp only[Bool.and_eq_true,decide_eq_true_iff] at p8;refine h.set _ _ _ fun x hx e=>?_;obtain⟨e1,e2⟩:=hino x hx e;have hb:=h.bound x hx;unfold boundOk1 at hb ⊢;rw[e1];dsimp only;exact⟨p8.1,p8.2,hb.2.2⟩
theorem Gr.fine.does{g:Gr}(h:g.fine)(o:Opn):(doA g o).1.fine:=by
 unfold doA;by_cases q:whyA g o=0
 ·rw[if_pos q];exact h.made q
 ·rw[if_neg q];exact h
end Go.Proofs.YtnnnkaobhkeocaaGreatDoor.GraphMath
namespace Go.Proofs.YtnnnkaobhkeocaaGreatDoor.GraphMath
open StampMath OpMath ExtentMath
theorem sorted_same{α:Type}{r:α->α->Bool}(irr:∀x,r x x=false)(tr:∀x y z,r x y=true->r y z=true->r x z=true):
  ∀ {l m:List α},l.Pairwise (fun a b=>r a b=true)->m.Pairwise (fun a b=>r a b=true)->(∀x,x∈l↔x∈m)->l=m
 | [],[],_,_,_=>rfl
 | [],b::m,_,_,h=>absurd ((h b).2 (List.mem_cons_self ..)) (by simp)
 |a::l,[],_,_,h=>absurd ((h a).1 (List.mem_cons_self ..)) (by simp)
 |a::l,b::m,hl,hm,h=>by
  obtain⟨hl1,hl2⟩:=List.pairwise_cons.1 hl;obtain⟨hm1,hm2⟩:=List.pairwise_cons.1 hm;have hab:a=b:=by
   rcases List.mem_cons.1 ((h a).1 (List.mem_cons_self ..)) with q|q
   ·exact q
   rcases List.mem_cons.1 ((h b).2 (List.mem_cons_self ..)) with q2|q2
   ·exact q2.symm
   have:=tr _ _ _ (hm1 a q) (hl1 b q2);rw[irr] at this
   cases this
  subst hab;have ha:a∉l:=fun q=>by have:=hl1 a q;rw[irr] at this;cases this
  have hb:a∉m:=fun q=>by have:=hm1 a q;rw[irr] at this;cases this
  rw[sorted_same irr tr hl2 hm2 fun x=>⟨fun q=>?_,fun q=>?_⟩]
  ·rcases List.mem_cons.1 ((h x).1 (List.mem_cons_of_mem _ q)) with e|e
   ·subst e;exact absurd q ha
   ·exact e
  ·rcases List.mem_cons.1 ((h x).2 (List.mem_cons_of_mem _ q)) with e|e
   ·subst e;exact absurd q hb
   ·exact e
theorem aheadE_self(e:Ent):aheadE e e=false:=by
 rw[Bool.eq_false_iff];intro h;rcases(aheadE_iff _ _).1 h with q|⟨_,q⟩
 ·rw[lessS_irrefl] at q;cases q
 ·exact bytes_irrefl _ q
def setM(x:Ino)(o:Opn):Int:=if o.k=10 then o.off else x.mode
def setD(x:Ino)(o:Opn):ByteArray:=if o.k=8 then bytes (wL x.data.data.toList o.data.data.toList o.off.toNat) else if o.k=9 then bytes (tL x.data.data.toList o.off.toNat) else x.data
end Go.Proofs.YtnnnkaobhkeocaaGreatDoor.GraphMath
namespace Go.Proofs.YtnnnkaobhkeocaaGreatDoor
open Go.RowKit StampMath GraphMath OpMath PackMath
structure OpFit (o:Opn):Prop where
 ok:Ok64 o
 name:o.name.size<=maxLen
 new:o.new.size<=maxLen
 data:o.data.size<=maxLen
def OpsIn(W:World)(B:Nat)(A:Option Addr)(n:Nat)(l:List Opn):Prop:=TabIn 13 W B A n (l.map opA)
theorem OpsIn.len{W:World}{B:Nat}{A:Option Addr}{n:Nat}{l:List Opn}(h:OpsIn W B A n l):l.length=n:=by have:=h.1;rwa[List.length_map] at this
def OpAt(W:World)(g p:Nat)(o:Opn):Prop:=
 W.cell? ⟨g,p,none⟩=some (.int .i64 o.st)/\W.cell? ⟨g,p+1,none⟩=some (.int .i64 o.sr)/\W.cell? ⟨g,p+2,none⟩=some (.int .i64 o.k)/\W.cell? ⟨g,p+3,none⟩=some (.int .i64 o.pt)/\W.cell? ⟨g,p+4,none⟩=some (.int .i64 o.pr)/\
 W.cell? ⟨g,p+5,none⟩=some (.int .i64 o.it)/\W.cell? ⟨g,p+6,none⟩=some (.int .i64 o.ir)/\W.cell? ⟨g,p+7,none⟩=some (.int .i64 o.tt)/\W.cell? ⟨g,p+8,none⟩=some (.int .i64 o.tr)/\
 W.cell? ⟨g,p+9,none⟩=some (.string o.name)/\W.cell? ⟨g,p+10,none⟩=some (.string o.new)/\W.cell? ⟨g,p+11,none⟩=some (.int .i64 o.off)/\W.cell? ⟨g,p+12,none⟩=some (.string o.data)
theorem OpsIn.row{W:World}{B:Nat}{A:Option Addr}{n:Nat}{l:List Opn}(h:OpsIn W B A n l)(hn:0<n):∃g o,A=some ⟨g,o,none⟩/\g<B/\∀k(hk:k<l.length),OpAt W g (o+k*13) l[k]:=by
 obtain⟨g,o,e,hg,hc⟩:=h.2 hn;refine⟨g,o,e,hg,fun k hk=>?_⟩;have hk':k<(l.map opA).length:=by simpa using hk
 have he:(l.map opA)[k]=opA l[k]:=by simp
 exact⟨hc k hk' 0 _ (by rw[he];rfl),hc k hk' 1 _ (by rw[he];rfl),hc k hk' 2 _ (by rw[he];rfl),hc k hk' 3 _ (by rw[he];rfl),hc k hk' 4 _ (by rw[he];rfl),hc k hk' 5 _ (by rw[he];rfl),hc k hk' 6 _ (by rw[he];rfl),hc k hk' 7 _ (by rw[he];rfl),hc k hk' 8 _ (by rw[he];rfl),hc k hk' 9 _ (by rw[he];rfl),hc k hk' 10 _ (by rw[he];rfl),hc k hk' 11 _ (by rw[he];rfl),hc k hk' 12 _ (by rw[he];rfl)⟩
theorem OpAt.below{W W':World}{B g p:Nat}{o:Opn}(h:OpAt W g p o)(hb:Below B W W')(hg:g<B):OpAt W' g p o:=by
 obtain⟨h0,h1,h2,h3,h4,h5,h6,h7,h8,h9,h10,h11,h12⟩:=h;have c:∀(i:Nat)(v:Value),W.cell? ⟨g,i,none⟩=some v->W'.cell? ⟨g,i,none⟩=some v:=fun i v q=>(hb.cell (p:=⟨g,i,none⟩) hg).trans q;exact⟨c _ _ h0,c _ _ h1,c _ _ h2,c _ _ h3,c _ _ h4,c _ _ h5,c _ _ h6,c _ _ h7,c _ _ h8,c _ _ h9,c _ _ h10,c _ _ h11,c _ _ h12⟩
end Go.Proofs.YtnnnkaobhkeocaaGreatDoor
namespace Go.Proofs.YtnnnkaobhkeocaaGreatDoor
open Go.RowKit StampMath GraphMath OpMath
structure Given (w:World) (A:Option Addr) (n:Nat) (N:List Ino) (A':Option Addr) (m:Nat) (E:List Ent):Prop where
 inos:InosIn w w.heap.size A n N
 ents:EntsIn w w.heap.size A' m E
 fewI:n<=1000
 fewE:m<=1000
 datas:∀x∈N,x.data.size<=maxLen
 names:∀e∈E,e.name.size<=maxLen
end Go.Proofs.YtnnnkaobhkeocaaGreatDoor
namespace Go.Proofs.YtnnnkaobhkeocaaGreatDoor
open Go.RowKit
open Classical in
noncomputable def later(w x:World):World:=if Below w.heap.size w x then x else w
theorem later_below(w x:World):Below w.heap.size w (later w x):=by
 unfold later
 split
 ·assumption
 ·exact Below.refl _ _
theorem later_of{w x:World}(h:Below w.heap.size w x):later w x=x:=by
 unfold later;rw[if_pos h]
theorem later_cell{w:World}{a:Addr}{v:Value}(h:w.cell? a=some v)(x:World):(later w x).cell? a=some v:=cell_later (later_below w x) h
theorem wp_region_later{P:Program}{id:Nat}{Q:Exit->Act->World->Prop}{a:Act}{w:World}{l:List Oper}(hm:P.follows .mixedOrders=true)(hB:Region.lexB .any l.toArray=true)
  (h:wpQuiet P l.toArray (fun w'=>∃x,w'=later w x) (fun a'=>∀w',(∃x,w'=later w x)->Q .normal a' w') l a):(Code.region id l.toArray true).wp P Q a w:=
 wp_region_quiet (C:=fun w'=>∃x,w'=later w x) hm hB ⟨w.drew,(later_of (Below.refl _ _).drew).symm⟩ (by simpa using h)
theorem later_call{P:Program}{f:FuncId}{args:Array Value}{w x:World}{v:Value}(h:Calls P f args (later w x) fun e w'=>e=.returned v/\Below (later w x).heap.size (later w x) w'):
  Calls P f args (later w x) fun e w''=>e=.returned v/\∃y,w''=later w y:=
 h.mono fun _ w' ⟨he,hb⟩=>⟨he,w',(later_of (below_step (later_below w x) hb)).symm⟩
end Go.Proofs.YtnnnkaobhkeocaaGreatDoor
namespace Go.Proofs.YtnnnkaobhkeocaaGreatDoor
open Go.RowKit
def Held(w:World)(L:List (Nat×Obj))(W:World):Prop:=(∀p∈L,W.heap[p.1]?=some p.2)/\Below w.heap.size w W
theorem Held.refl(w:World):Held w [] w:=⟨fun _ h=>(by cases h),Below.refl _ _⟩
theorem Held.below{w W:World}{L:List (Nat×Obj)}(h:Held w L W):Below w.heap.size w W:=h.2
theorem Held.step{w W W':World}{L:List (Nat×Obj)}(h:Held w L W)(hb:Below W.heap.size W W'):Held w L W':=
 ⟨fun p hp=>(hb.block _ (heap_lt (h.1 p hp))).trans (h.1 p hp),below_step h.2 hb⟩
theorem Held.alloc{w W:World}{L:List (Nat×Obj)}(h:Held w L W)(o:Obj){g:Nat}(hg:W.heap.size=g):Held w ((g,o)::L) (W.alloc o):=by
 refine⟨fun p hp=>?_,h.2.alloc h.2.size o⟩;rcases List.mem_cons.1 hp with rfl|hp
 ·subst hg;exact heap_alloc_new W o
 ·rw[heap_alloc_old _ _ (heap_lt (h.1 p hp))];exact h.1 p hp
theorem Held.drewN{w W:World}{L:List (Nat×Obj)}(h:Held w L W)(n:Nat):Held w L (W.drewN n):=⟨h.1,below_drewN' h.2 n⟩
theorem Held.drew{w W:World}{L:List (Nat×Obj)}(h:Held w L W):Held w L W.drew:=⟨h.1,h.2.drew⟩
theorem Held.head{w W:World}{L:List (Nat×Obj)}{p:Nat×Obj}(h:Held w (p::L) W):W.heap[p.1]?=some p.2:=h.1 p (List.mem_cons_self ..)
theorem Held.tail{w W:World}{L:List (Nat×Obj)}{p:Nat×Obj}(h:Held w (p::L) W):Held w L W:=⟨fun q hq=>h.1 q (List.mem_cons_of_mem _ hq),h.2⟩
theorem Held.at{w W:World}{L:List (Nat×Obj)}(h:Held w L W)(i:Nat){p:Nat×Obj}(hp:L[i]?=some p):W.heap[p.1]?=some p.2:=h.1 p (List.mem_of_getElem? hp)
theorem Held.set{w W:World}{L:List (Nat×Obj)}(h:Held w L W){b:Nat}(hL:∀p∈L,p.1<b)(hw:w.heap.size<=b)(i:Nat)(v:Value):Held w L (W.setCell ⟨b,i,none⟩ v):=
 ⟨fun p hp=>(heap_setCell_other _ _ _ _ (by have:=hL p hp;dsimp only;omega)).trans (h.1 p hp),h.2.setCell hw v⟩
theorem Held.grown{w W W':World}{L:List (Nat×Obj)}{row:Option Nat}{B:Nat}(h:Held w L W)(hg:W.grownBy W' row)(hB:∀q,row=some q->B<=q)(hL:∀p∈L,p.1<B)(hw:w.heap.size<=B:=by simp):Held w L W':=
 ⟨fun p hp=>(hg.block p.1 (heap_lt (h.1 p hp)) fun e=>by have h1:=hB _ e.symm;have h2:=hL p hp;omega).trans (h.1 p hp),h.2.grown hg h.2.size fun q hq=>Nat.le_trans hw (hB q hq)⟩
def tabL:List Int:=[0,9,9,73,11,11,11,31,98,34,34]
class Tab (W:World):Prop where
 cells:Hid (∀(i:Nat)(x:Int),tabL[i]?=some x->W.cell? ⟨0,i,none⟩=some (.int .i64 x))
theorem Tab.at{W:World}(T:Tab W)(i:Nat){x:Int}(h:tabL[i]?=some x):W.cell? ⟨0,i,none⟩=some (.int .i64 x):=T.cells.out i x h
theorem tab_below{B:Nat}{W W':World}(T:Tab W)(hB:W.heap.size<=B)(h:Below B W W'):Tab W':=
 ⟨Lib.hid fun i _ hx=>(h.cell (p:=⟨0,i,none⟩) (Nat.lt_of_lt_of_le (World.block_lt_of_cell? _ _ (T.at i hx)) hB)).trans (T.at i hx)⟩
theorem tab_step{W W':World}[T:Tab W](h:Below W.heap.size W W'):Tab W':=tab_below T (Nat.le_refl _) h
instance tabAlloc{W:World}[T:Tab W](o:Obj):Tab (W.alloc o):=tab_step ((Below.refl _ W).alloc (Nat.le_refl _) o)
instance tabDrew{W:World}[T:Tab W]:Tab W.drew:=tab_step ((Below.refl _ W).drew)
instance tabDrewN{W:World}[T:Tab W](n:Nat):Tab (W.drewN n):=tab_step (below_drewN' (Below.refl _ W) n)
instance tabLater{w:World}[T:Tab w](x:World):Tab (later w x):=tab_step (later_below w x)
end Go.Proofs.YtnnnkaobhkeocaaGreatDoor
namespace Go.Proofs.YtnnnkaobhkeocaaGreatDoor
open Go.RowKit StampMath GraphMath OpMath PackMath ExtentMath
structure ApplyHave (H:GraphHave):Prop where
 why:∀(a:Addr)(S:Nat->Prop)(g:Gr)(o:Opn)(w:World)[Tab w],H.rep w S a g->g.fine->OpFit o->Calls Tryz.prog 87 #[.pointer (some a),.agg (opA o)] w fun e w'=>e=.returned (.int .i64 (whyA g o))/\Below w.heap.size w w'
 does:∀(a:Addr)(S:Nat->Prop)(g:Gr)(o:Opn)(w:World)[Tab w],H.rep w S a g->¬S 0->g.fine->OpFit o->Calls Tryz.prog 59 #[.pointer (some a),.agg (opA o)] w fun e w'=>∃S',e=.returned (.int .i64 (doA g o).2)/\H.rep w' S' a (doA g o).1/\(∀i,S' i->S i\/w.heap.size<=i)/\But S w w'
 nilDo:∀(o:Opn)(w:World)[Tab w],OpFit o->Calls Tryz.prog 59 #[.pointer none,.agg (opA o)] w fun e w'=>e=.returned (.int .i64 1)/\Below w.heap.size w w'
 may:∀(o:Opn)(w:World)[Tab w],OpFit o->Calls Tryz.prog 60 #[.agg (opA o)] w fun e w'=>e=.returned (.bool (mayO o))/\Below w.heap.size w w'
 makes:∀(o:Opn)(w:World)[Tab w],OpFit o->Calls Tryz.prog 163 #[.agg (opA o)] w fun e w'=>e=.returned (.int .i64 (makesO o))/\Below w.heap.size w w'
theorem Tab.lt{w:World}(T:Tab w):0<w.heap.size:=World.block_lt_of_cell? _ _ (T.at 0 (x:=0) rfl)
theorem GX.tab{H:GraphHave}{w W:World}{N:Nat->Prop}{a:Addr}{g:Gr}(h:GX H w W N a g)(T:Tab w):Tab W:=tab_below T (Nat.le_refl _) h.below
structure FX (H:GraphHave) (w W:World) (N:Nat->Prop) (a:Addr) (g:Gr):Prop where
 gx:GX H w W N a g
 fine:g.fine
theorem FX.step{H:GraphHave}{w W W':World}{N:Nat->Prop}{a:Addr}{g:Gr}(h:FX H w W N a g)(hb:Below W.heap.size W W'):FX H w W' N a g:=⟨h.gx.step hb,h.fine⟩
theorem FX.below{H:GraphHave}{w W:World}{N:Nat->Prop}{a:Addr}{g:Gr}(h:FX H w W N a g):Below w.heap.size w W:=h.gx.below
theorem FX.does{H:GraphHave}(P:ApplyHave H){w W:World}{N:Nat->Prop}{a:Addr}{g:Gr}(h:FX H w W N a g)(T:Tab w)(o:Opn)(ho:OpFit o):
  Calls Tryz.prog 59 #[.pointer (some a),.agg (opA o)] W fun e w'=>e=.returned (.int .i64 (doA g o).2)/\FX H w w' N a (doA g o).1/\Same N W w':=by
 have:=h.gx.tab T;have hf:=h.fine;obtain⟨⟨⟨S,h1,h2,h3⟩,h4,h5,h6⟩,_⟩:=h;refine(P.does a S g o W h1 (fun q=>by have:=h2 _ q;have:=T.lt;omega) hf ho).mono ?_;rintro e w' ⟨S',he,k1,k2,k3⟩;have r:=GX.mut h2 h3 h5 h6 k1 k2 k3 (hf.does o).ok;exact⟨he,⟨r.1,hf.does o⟩,r.2⟩
end Go.Proofs.YtnnnkaobhkeocaaGreatDoor
namespace Go.Proofs.YtnnnkaobhkeocaaGreatDoor
open StampMath GraphMath OpMath
def runG(g:Gr)(l:List Opn):Gr:=l.foldl (fun g o=>(doA g o).1) g
def runA(l:List Opn):Gr:=runG newG l
theorem runG_next(g:Gr){l:List Opn}{k:Nat}(h:k<l.length):runG g (l.take (k+1))=(doA (runG g (l.take k)) l[k]).1:=by
 unfold runG;rw[List.take_succ_eq_append_getElem h,List.foldl_append]
 rfl
theorem runG_fine{g:Gr}(h:g.fine):∀l:List Opn,(runG g l).fine
 | []=>h
 |o::l=>runG_fine (h.does o) l
theorem runA_fine(l:List Opn):(runA l).fine:=runG_fine new_fine l
end Go.Proofs.YtnnnkaobhkeocaaGreatDoor
namespace Go.Proofs.YtnnnkaobhkeocaaGreatDoor.GraphMath
open StampMath OpMath ExtentMath
def beforeO(s:St)(a:Opn):Bool:=lessS (oSt a) s
def Rises(x:List Opn):Prop:=x.Pairwise fun a b=>lessS (oSt a) (oSt b)=true
def hasO(x:List Opn)(s:St):Bool:=x.any fun b=>decide (oSt b=s)
def placeO(x:List Opn)(s:St):Nat:=(x.takeWhile (beforeO s)).length
def putO(x:List Opn)(o:Opn):List Opn×Nat×Bool:=
 if mayO o=false then(x,0,false)
 else if hasO x (oSt o)=true then(x,placeO x (oSt o),false)
 else(putIn (beforeO (oSt o)) x o,placeO x (oSt o),true)
def putsO(x l:List Opn):List Opn:=l.foldl (fun x o=>(putO x o).1) x
def sortO(l:List Opn):List Opn:=putsO [] l
def belowO(x:List Opn)(s:St):Nat:=(x.takeWhile fun a=>!lessS s (oSt a)).length
theorem hasO_iff{x:List Opn}{s:St}:hasO x s=true↔ ∃b∈x,oSt b=s:=by
 unfold hasO;rw[List.any_eq_true];simp only[decide_eq_true_iff]
theorem Rises.one{x:List Opn}(h:Rises x){a b:Opn}(ha:a∈x)(hb:b∈x)(e:oSt a=oSt b):a=b:=by
 obtain⟨i,hi,rfl⟩:=List.getElem_of_mem ha;obtain⟨j,hj,rfl⟩:=List.getElem_of_mem hb;rcases Nat.lt_trichotomy i j with q|q|q
 ·have:=List.pairwise_iff_getElem.1 h i j hi hj q;rw[e,lessS_irrefl] at this
  cases this
 ·subst q;rfl
 ·have:=List.pairwise_iff_getElem.1 h j i hj hi q;rw[e,lessS_irrefl] at this
  cases this
theorem put_mem{x:List Opn}{o a:Opn}:a∈(putO x o).1↔a∈x\/(a=o/\mayO o=true/\hasO x (oSt o)=false):=by
 unfold putO;by_cases hm:mayO o=false
 ·rw[if_pos hm,hm];simp
 rw[if_neg hm];have hm':mayO o=true:=by cases h:mayO o<;>simp_all
 by_cases hh:hasO x (oSt o)=true
 ·rw[if_pos hh,hh];simp
 rw[if_neg hh];have hh':hasO x (oSt o)=false:=by cases h:hasO x (oSt o)<;>simp_all
 rw[hm',hh'];show a∈putIn _ x o↔_;rw[putIn_mem]
 constructor
 ·rintro(q|q)
  ·exact Or.inr ⟨q,rfl,rfl⟩
  ·exact Or.inl q
 ·rintro(q|⟨q,_⟩)
  ·exact Or.inr q
  ·exact Or.inl q
theorem put_rises{x:List Opn}(h:Rises x)(o:Opn):Rises (putO x o).1:=by
 unfold putO;by_cases hm:mayO o=false
 ·rw[if_pos hm];exact h
 rw[if_neg hm];by_cases hh:hasO x (oSt o)=true
 ·rw[if_pos hh];exact h
 rw[if_neg hh];refine putIn_sorted (r:=fun a b:Opn=>lessS (oSt a) (oSt b)) (fun p q=>lessS_trans p q) (fun a ha q=>lessS_total q fun e=>hh (hasO_iff.2 ⟨a,ha,e⟩)) h
theorem put_may{x:List Opn}(h:∀a∈x,mayO a=true)(o:Opn):∀a∈(putO x o).1,mayO a=true:=by
 intro a ha;rcases put_mem.1 ha with q|⟨rfl,q,_⟩
 ·exact h a q
 ·exact q
theorem puts_snoc(x:List Opn){l:List Opn}{k:Nat}(h:k<l.length):putsO x (l.take (k+1))=(putO (putsO x (l.take k)) l[k]).1:=by
 unfold putsO;rw[List.take_succ_eq_append_getElem h,List.foldl_append]
 rfl
theorem puts_rises:∀(l:List Opn){x:List Opn},Rises x->Rises (putsO x l)
 | [],_,h=>h
 |o::l,_,h=>puts_rises l (put_rises h o)
theorem puts_may:∀(l:List Opn){x:List Opn},(∀a∈x,mayO a=true)->∀a∈putsO x l,mayO a=true
 | [],_,h=>h
 |o::l,_,h=>puts_may l (put_may h o)
theorem puts_sub:∀(l:List Opn){x:List Opn},∀a∈putsO x l,a∈x\/a∈l
 | [],_,_,h=>Or.inl h
 |o::l,x,a,h=>by
  rcases puts_sub l a h with q|q
  ·rcases put_mem.1 q with r|⟨rfl,_⟩
   ·exact Or.inl r
   ·exact Or.inr (List.mem_cons_self ..)
  ·exact Or.inr (List.mem_cons_of_mem _ q)
theorem put_len(x:List Opn)(o:Opn):(putO x o).1.length<=x.length+1:=by
 unfold putO
 split
 ·exact Nat.le_succ _
 ·split
  ·exact Nat.le_succ _
  ·exact Nat.le_of_eq (putIn_len _ _ _)
theorem puts_len:∀(l x:List Opn),(putsO x l).length<=x.length+l.length
 | [],_=>Nat.le_refl _
 |o::l,x=>by
  have h1:=puts_len l (putO x o).1;have h2:=put_len x o;show(putsO (putO x o).1 l).length<=_;rw[List.length_cons];omega
theorem sort_rises(l:List Opn):Rises (sortO l):=puts_rises l List.Pairwise.nil
theorem sort_may(l:List Opn):∀a∈sortO l,mayO a=true:=puts_may l fun _ h=>nomatch h
theorem sort_sub{l:List Opn}:∀a∈sortO l,a∈l:=fun a h=>(puts_sub l a h).resolve_left fun q=>nomatch q
theorem sort_len(l:List Opn):(sortO l).length<=l.length:=by have:=puts_len l [];simpa[sortO] using this
theorem puts_all:∀(l:List Opn){x:List Opn},(∀a,a∈x\/a∈l->∀b,b∈x\/b∈l->oSt a=oSt b->a=b)->∀a,a∈putsO x l↔a∈x\/(a∈l/\mayO a=true)
 | [],x,_,a=>⟨Or.inl,fun q=>q.elim id fun q=>nomatch q.1⟩
 |o::l,x,h,a=>by
  have hx:∀a,a∈(putO x o).1->a∈x\/a∈o::l:=fun a ha=>(put_mem.1 ha).elim Or.inl fun q=>Or.inr (by rw[q.1];exact List.mem_cons_self ..);show a∈putsO (putO x o).1 l↔_;rw[puts_all l (fun a ha b hb=>h a (ha.elim (hx a) fun q=>Or.inr (List.mem_cons_of_mem _ q)) b (hb.elim (hx b) fun q=>Or.inr (List.mem_cons_of_mem _ q))) a,put_mem]
  constructor
  ·rintro((q|⟨rfl,q,_⟩)|⟨q1,q2⟩)
   ·exact Or.inl q
   ·exact Or.inr ⟨List.mem_cons_self ..,q⟩
   ·exact Or.inr ⟨List.mem_cons_of_mem _ q1,q2⟩
  ·rintro(q|⟨q1,q2⟩)
   ·exact Or.inl (Or.inl q)
   ·rcases List.mem_cons.1 q1 with rfl|q1
    ·cases hh:hasO x (oSt a) with
     |false=>exact Or.inl (Or.inr ⟨rfl,q2,rfl⟩)
     |true=>
      obtain⟨b,hb,e⟩:=hasO_iff.1 hh;have:=h b (Or.inl hb) a (Or.inr (List.mem_cons_self ..)) e;subst this;exact Or.inl (Or.inl hb)
    ·exact Or.inr ⟨q1,q2⟩
theorem rises_same{x y:List Opn}(hx:Rises x)(hy:Rises y)(h:∀a,a∈x↔a∈y):x=y:=
 sorted_same (r:=fun a b:Opn=>lessS (oSt a) (oSt b)) (fun _=>lessS_irrefl _) (fun _ _ _=>lessS_trans) hx hy h
theorem nil_or{p:Opn}{l:List Opn}(h:p∈[]\/p∈l):p∈l:=h.resolve_left List.not_mem_nil
theorem sort_converges{a b:List Opn}(h1:∀x∈a,∀y∈a,oSt x=oSt y->x=y)(h:∀x,x∈b↔x∈a):sortO b=sortO a:=by
 refine rises_same (sort_rises b) (sort_rises a) fun x=>?_;unfold sortO;rw[puts_all b (fun p hp q hq=>h1 p ((h p).1 (nil_or hp)) q ((h q).1 (nil_or hq))),
  puts_all a (fun p hp q hq=>h1 p (nil_or hp) q (nil_or hq))]
 exact or_congr_right (and_congr_left fun _=>h x)
theorem sort_self{x:List Opn}(h:Rises x)(hm:∀a∈x,mayO a=true):sortO x=x:=by
 refine rises_same (sort_rises x) h fun a=>?_;unfold sortO;rw[puts_all x fun p hp q hq=>h.one (nil_or hp) (nil_or hq)]
 constructor
 ·rintro(q|q)
  ·exact nomatch q
  ·exact q.1
 ·exact fun q=>Or.inr ⟨q,hm a q⟩
theorem sort_twice(l:List Opn):sortO (sortO l)=sortO l:=sort_self (sort_rises l) (sort_may l)
theorem run_append(g:Gr)(x y:List Opn):runG g (x++y)=runG (runG g x) y:=by
 unfold runG;rw[List.foldl_append]
theorem take_len{α:Type}(f:α->Bool)(x:List α):x.take (x.takeWhile f).length=x.takeWhile f:=by
 have h:=List.takeWhile_prefix f (l:=x);exact(List.prefix_iff_eq_take.1 h).symm
theorem drop_len{α:Type}(f:α->Bool)(x:List α):x.drop (x.takeWhile f).length=x.dropWhile f:=by
 have h:=List.takeWhile_append_dropWhile (p:=f) (l:=x);have h2:=congrArg (List.drop (x.takeWhile f).length) h;rw[List.drop_left] at h2;exact h2.symm
theorem place_le(x:List Opn)(s:St):placeO x s<=x.length:=(List.takeWhile_prefix _).length_le
theorem below_le(x:List Opn)(s:St):belowO x s<=x.length:=(List.takeWhile_prefix _).length_le
theorem while_at{α:Type}(f:α->Bool)(x:List α):(∀i(h:i<x.length),i<(x.takeWhile f).length->f x[i]=true)/\(∀h:(x.takeWhile f).length<x.length,f x[(x.takeWhile f).length]=false):=by
 constructor
 ·intro i h hi;have hp:=List.takeWhile_prefix f (l:=x);have e:(x.takeWhile f)[i]=x[i]:=hp.getElem hi;rw[<-e];exact all_take (List.getElem_mem hi)
 ·intro h;have e:=drop_len f x;have h0:=List.head?_dropWhile_not f x;rw[<-e] at h0;rw[List.head?_drop,List.getElem?_eq_getElem h] at h0
  simpa using h0
theorem while_is{α:Type}{f:α->Bool}{x:List α}{k:Nat}(hk:k<=x.length)(h1:∀i(h:i<x.length),i<k->f x[i]=true)(h2:∀h:k<x.length,f x[k]=false):(x.takeWhile f).length=k:=by
 obtain⟨w1,w2⟩:=while_at f x;have hl:=(List.takeWhile_prefix f (l:=x)).length_le;rcases Nat.lt_trichotomy (x.takeWhile f).length k with q|q|q
 ·have hx:(x.takeWhile f).length<x.length:=by omega
  have:=w2 hx;rw[h1 _ hx q] at this
  cases this
 ·exact q
 ·have hx:k<x.length:=by omega
  have:=w1 k hx q;rw[h2 hx] at this
  cases this
theorem place_has{x:List Opn}(h:Rises x){s:St}:hasO x s=true↔ ∃hp:placeO x s<x.length,oSt (x[placeO x s])=s:=by
 rw[hasO_iff]
 constructor
 ·rintro⟨b,hb,rfl⟩;obtain⟨i,hi,rfl⟩:=List.getElem_of_mem hb;have:placeO x (oSt x[i])=i:=while_is (Nat.le_of_lt hi) (fun j hj hji=>List.pairwise_iff_getElem.1 h j i hj hi hji) (fun _=>lessS_irrefl _);exact⟨by rw[this];exact hi,by congr 2⟩
 ·rintro⟨hp,e⟩;exact⟨_,List.getElem_mem hp,e⟩
theorem putIn_place{x:List Opn}{o:Opn}:putIn (beforeO (oSt o)) x o=x.take (placeO x (oSt o))++o::x.drop (placeO x (oSt o)):=by
 unfold putIn placeO;rw[take_len,drop_len]
theorem lessS_le{a b:St}(h:lessS a b=true):lessS b a=false:=by
 rw[Bool.eq_false_iff];intro q;have:=lessS_trans h q;rw[lessS_irrefl] at this
 cases this
theorem below_own{x:List Opn}(h:Rises x){i:Nat}(hi:i<x.length):belowO x (oSt x[i])=i+1:=by
 refine while_is (by omega) (fun j hj hji=>?_) fun hj=>?_
 ·rw[Bool.not_eq_true'];by_cases q:j=i
  ·subst q;exact lessS_irrefl _
  ·exact lessS_le (List.pairwise_iff_getElem.1 h j i hj hi (by omega))
 ·rw[Bool.not_eq_false'];exact List.pairwise_iff_getElem.1 h i (i+1) hi hj (by omega)
def doneO:Gr->List Opn->List Opn
 |_,[]=>[]
 |g,o::l=>if(doA g o).2=0 then o::doneO (doA g o).1 l else doneO (doA g o).1 l
def distO:List Opn->List Opn->List Opn
 |_,[]=>[]
 |p,o::l=>if hasO p (oSt o)=true then distO (p++[o]) l else o::distO (p++[o]) l
end Go.Proofs.YtnnnkaobhkeocaaGreatDoor.GraphMath
namespace Go.Proofs.YtnnnkaobhkeocaaGreatDoor
open Go.RowKit StampMath GraphMath OpMath PackMath
def OpsPost(x:List Opn)(w:World)(e:Ending)(w':World):Prop:=
 ∃(A:Option Addr)(c:Nat),e=.returned (.slice A x.length c)/\OpsIn w' w'.heap.size A x.length x/\x.length<=c/\c<=maxLen/\(A=none->c=0)/\Below w.heap.size w w'
structure FoldHave (H:GraphHave):Prop where
 sort:∀(A:Option Addr)(n c:Nat)(l:List Opn)(w:World)[Tab w],n<=1000->(∀o∈l,OpFit o)->OpsIn w w.heap.size A n l->Calls Tryz.prog 28 #[.slice A n c] w (OpsPost (sortO l) w)
 put:∀(A:Option Addr)(n c:Nat)(x:List Opn)(o:Opn)(w:World)[Tab w],n<=1000->n<=c->c<=maxLen->(A=none->c=0)->(∀o∈x,OpFit o)->OpFit o->Rises x->OpsIn w w.heap.size A n x->
  Calls Tryz.prog 45 #[.slice A n c,.agg (opA o)] w fun e w'=>∃(B:Option Addr)(k:Nat),e=.returned (.tuple #[.slice B (putO x o).1.length k,.int .i64 ((putO x o).2.1:Int),.bool (putO x o).2.2])/\OpsIn w' w'.heap.size B (putO x o).1.length (putO x o).1/\(putO x o).1.length<=k/\k<=maxLen/\(B=none->k=0)/\Below w.heap.size w w'
 below:∀(A:Option Addr)(n c:Nat)(x:List Opn)(s:St)(w:World),n<=1000->Rises x->OpsIn w w.heap.size A n x->Calls Tryz.prog 38 #[.slice A n c,.agg (stA s)] w fun e w'=>e=.returned (.int .i64 (belowO x s:Int))/\Below w.heap.size w w'
 of:∀(A:Option Addr)(n c:Nat)(l:List Opn)(w:World)[Tab w],n<=1000->(∀o∈l,OpFit o)->OpsIn w w.heap.size A n l->Calls Tryz.prog 27 #[.slice A n c] w fun e w'=>∃b T,e=.returned (.pointer (some b))/\H.rep w' T b (runA (sortO l))/\(∀i,T i->w.heap.size<=i)/\Below w.heap.size w w'
 on:∀(a:Addr)(S:Nat->Prop)(g:Gr)(A:Option Addr)(n c:Nat)(l:List Opn)(w:World)[Tab w],H.rep w S a g->¬S 0->g.fine->n<=1000->(∀o∈l,OpFit o)->OpsIn w w.heap.size A n l->Calls Tryz.prog 26 #[.pointer (some a),.slice A n c] w fun e w'=>∃b T,e=.returned (.pointer (some b))/\H.rep w' T b (runG g (sortO l))/\(∀i,T i->w.heap.size<=i)/\Below w.heap.size w w'
 nilOn:∀(A:Option Addr)(n c:Nat)(l:List Opn)(w:World)[Tab w],n<=1000->(∀o∈l,OpFit o)->OpsIn w w.heap.size A n l->Calls Tryz.prog 26 #[.pointer none,.slice A n c] w fun e w'=>e=.returned (.pointer none)/\Below w.heap.size w w'
theorem FX.of{H:GraphHave}(P:FoldHave H)(A:Option Addr)(n c:Nat)(l:List Opn)(w:World)(T:Tab w)(hn:n<=1000)(hl:∀o∈l,OpFit o)(h:OpsIn w w.heap.size A n l):
  Calls Tryz.prog 27 #[.slice A n c] w fun e w'=>∃a,e=.returned (.pointer (some a))/\FX H w w' (fun _=>False) a (runA (sortO l))/\Below w.heap.size w w':=by
 refine(P.of A n c l w hn hl h).mono ?_;rintro e w' ⟨b,S,he,h1,h2,hb⟩;exact⟨b,he,⟨⟨⟨S,h1,h2,fun _ h=>h.elim⟩,(runA_fine _).ok,fun _ h=>h.elim,hb⟩,runA_fine _⟩,hb⟩
theorem FX.on{H:GraphHave}(P:FoldHave H){w W:World}{N:Nat->Prop}{a:Addr}{g:Gr}(h:FX H w W N a g)(T:Tab w)(A:Option Addr)(n c:Nat)(l:List Opn)(hn:n<=1000)(hl:∀o∈l,OpFit o)(hi:OpsIn W W.heap.size A n l):
  Calls Tryz.prog 26 #[.pointer (some a),.slice A n c] W fun e w'=>∃b,e=.returned (.pointer (some b))/\FX H W w' (fun _=>False) b (runG g (sortO l))/\Below W.heap.size W w':=by
 have:=h.gx.tab T;obtain⟨S,h1,h2,_⟩:=h.gx.at';refine(P.on a S g A n c l W h1 (fun q=>by have:=h2 _ q;have:=T.lt;omega) h.fine hn hl hi).mono ?_;rintro e w' ⟨b,S',he,k1,k2,hb⟩;exact⟨b,he,⟨⟨⟨S',k1,k2,fun _ h=>h.elim⟩,(runG_fine h.fine _).ok,fun _ h=>h.elim,hb⟩,runG_fine h.fine _⟩,hb⟩
theorem op_infos:(Tryz.prog.info? 37).map (fun i=>(i.zero,i.size,i.bytes))=some (some (.agg #[.int .i64 0,.int .i64 0,.int .i64 0,.int .i64 0,.int .i64 0,.int .i64 0,.int .i64 0,.int .i64 0,.int .i64 0,.string ⟨#[]⟩,.string ⟨#[]⟩,.int .i64 0,.string ⟨#[]⟩]),13,128):=by kernel_rfl
theorem op_cells1(o:Opn):∀u∈(opA o).toList,u.oneCell'=true:=by
 intro u hu;simp[opA] at hu;rcases hu with rfl|rfl|rfl|rfl|rfl|rfl|rfl|rfl|rfl|rfl|rfl|rfl|rfl<;>rfl
theorem op_rows(Y:List Opn):(∀r∈Y.map opA,r.size=13)/\∀r∈Y.map opA,∀u∈r.toList,u.oneCell'=true:=
 ⟨fun r hr=>by obtain⟨e,_,rfl⟩:=List.mem_map.1 hr;rfl,fun r hr=>by obtain⟨e,_,rfl⟩:=List.mem_map.1 hr;exact op_cells1 e⟩
theorem ops_own{W:World}{base:Nat}{v:Value}{n:Nat}{l:List Opn}(hn:l.length=n)(h:W.ownsRow base 37 13 v n (flat (l.map opA))):
  ∃(A:Option Addr)(c:Nat),v=.slice A n c/\OpsIn W W.heap.size A n l/\n<=c/\c<=maxLen/\(A=Option.none->c=0):=
 tab_own (k:=13) (fun r hr=>by obtain⟨e,_,rfl⟩:=List.mem_map.1 hr;rfl) (by simpa using hn) h
theorem flat_op(l:List Opn)(o:Opn):flat (l.map opA)++(opA o).toList=flat ((l++[o]).map opA):=by simp[flat]
theorem ops_take{W:World}{B:Nat}{A:Option Addr}{n:Nat}{l:List Opn}(h:OpsIn W B A n l){k:Nat}(hk:k<=n):OpsIn W B A k (l.take k):=by
 refine⟨by rw[List.length_map,List.length_take];have:=h.len;omega,fun hp=>?_⟩;obtain⟨g,o,e,hg,hc⟩:=h.2 (by omega);refine⟨g,o,e,hg,fun j hj i v hv=>?_⟩;have hj':j<(l.map opA).length:=by
  rw[List.length_map,List.length_take] at hj;rw[List.length_map];omega
 refine hc j hj' i v ?_;rw[<-hv]
 congr 1
 simp
theorem ops_drop{W:World}{B g o n:Nat}{l:List Opn}(h:OpsIn W B (some ⟨g,o,none⟩) n l){k:Nat}(hk:k<=n):OpsIn W B (some ⟨g,o+k*13,none⟩) (n-k) (l.drop k):=by
 have:=TabIn.drop (k:=13) h hk
 rwa[<-List.map_drop] at this
theorem ops_none{W:World}{B:Nat}(A:Option Addr):OpsIn W B A 0 []:=⟨rfl,fun h=>absurd h (Nat.lt_irrefl 0)⟩
theorem tab_of_cells{k:Nat}{W:World}{g:Nat}{cs:Array Value}{T:TypeId}{rows:List (Array Value)}(hk:∀r∈rows,r.size=k)(hg:W.heap[g]?=some (.cells cs T (0,0)))(hc:cs.toList=flat rows):TabIn k W W.heap.size (some ⟨g,0,none⟩) rows.length rows:=by
 refine⟨rfl,fun _=>⟨g,0,rfl,heap_lt hg,fun j hj i v hv=>?_⟩⟩;have hi:i<k:=by
  have:=(Array.getElem?_eq_some_iff.1 hv).1;rw[hk _ (List.getElem_mem hj)] at this;exact this
 have e:cs[j*k+i]?=some v:=by
  rw[<-Array.getElem?_toList,hc,flat_at hk j hj i hi];exact hv
 rw[Nat.zero_add,cell_of_row _ _ (j*k+i) _ _ (0,0) hg];exact e
theorem ops_of_cells{W:World}{g:Nat}{cs:Array Value}{T:TypeId}{l:List Opn}(hg:W.heap[g]?=some (.cells cs T (0,0)))(hc:cs.toList=flat (l.map opA)):OpsIn W W.heap.size (some ⟨g,0,none⟩) l.length l:=by
 have:=tab_of_cells (rows:=l.map opA) (k:=13) (op_rows l).1 hg hc
 rwa[List.length_map] at this
end Go.Proofs.YtnnnkaobhkeocaaGreatDoor
namespace Go.Proofs.YtnnnkaobhkeocaaGreatDoor.GraphMath
open StampMath OpMath ExtentMath
structure Lg where
 B:Gr
 fl:St
 L:List Opn
def newL:Lg:=⟨newG,(0,0),[]⟩
def addL(x:Lg)(o:Opn):Lg×Bool:=
 if lessS x.fl (oSt o)=true then(⟨x.B,x.fl,(putO x.L o).1⟩,(putO x.L o).2.2) else(x,false)
def compactL(x:Lg)(s:St):Lg×Nat:=
 if mayB s.1 s.2=true/\lessS x.fl s=true then(⟨runG x.B (x.L.take (belowO x.L s)),s,x.L.drop (belowO x.L s)⟩,belowO x.L s) else(x,0)
def graphL(x:Lg):Gr:=runG x.B x.L
def hasL(x:Lg)(s:St):Bool:=!lessS x.fl s||hasO x.L s
def addsL(x:Lg)(l:List Opn):Lg:=l.foldl (fun x o=>(addL x o).1) x
def fromL(B:Gr)(fl:St)(l:List Opn):Lg:=addsL ⟨B,fl,[]⟩ l
structure Lg.ok (x:Lg):Prop where
 base:x.B.fine
 rises:Rises x.L
 may:∀a∈x.L,mayO a=true
 above:∀a∈x.L,lessS x.fl (oSt a)=true
theorem newL_ok:newL.ok:=⟨new_fine,List.Pairwise.nil,(fun _ h=>nomatch h),(fun _ h=>nomatch h)⟩
theorem may_above{o:Opn}(h:mayO o=true):lessS (0,0) (oSt o)=true:=by
 obtain⟨_,_,_,h0,hb,_⟩:=mayO_parts h;refine(lessB_iff _ _ _ _).2 (Or.inl ?_);show(0:Int)<o.st;unfold mayB at hb;rw[if_neg h0] at hb;simp only[Bool.and_eq_true,decide_eq_true_iff] at hb;omega
theorem put_no{x:List Opn}{o:Opn}(h:(putO x o).2.2=false):(putO x o).1=x:=by
 unfold putO at h ⊢
 split
 ·rfl
 ·rename_i hm
  rw[if_neg hm] at h
  split
  ·rfl
  ·rename_i hh
   rw[if_neg hh] at h
   cases h
theorem put_yes{x:List Opn}{o:Opn}(h:(putO x o).2.2=true):(putO x o).1.length=x.length+1/\mayO o=true/\hasO x (oSt o)=false:=by
 unfold putO at h ⊢;by_cases hm:mayO o=false
 ·rw[if_pos hm] at h;cases h
 rw[if_neg hm] at h ⊢;by_cases hh:hasO x (oSt o)=true
 ·rw[if_pos hh] at h;cases h
 rw[if_neg hh];refine⟨?_,by cases q:mayO o<;>simp_all,by cases q:hasO x (oSt o)<;>simp_all⟩;show(putIn (beforeO (oSt o)) x o).length=_;rw[putIn_place,List.length_append,List.length_cons,List.length_take,List.length_drop];have:=place_le x (oSt o);omega
theorem put_iff(x:List Opn)(o:Opn):(putO x o).2.2=(mayO o&& !hasO x (oSt o)):=by
 unfold putO
 cases hm:mayO o<;>cases hh:hasO x (oSt o)<;>simp
theorem add_ok{x:Lg}(h:x.ok)(o:Opn):(addL x o).1.ok:=by
 unfold addL
 split
 ·rename_i hl
  refine⟨h.base,put_rises h.rises o,put_may h.may o,fun a ha=>?_⟩;rcases put_mem.1 ha with q|⟨rfl,_⟩
  ·exact h.above a q
  ·exact hl
 ·exact h
theorem adds_ok:∀(l:List Opn){x:Lg},x.ok->(addsL x l).ok
 | [],_,h=>h
 |o::l,_,h=>adds_ok l (add_ok h o)
theorem from_ok{B:Gr}(hB:B.fine)(fl:St)(l:List Opn):(fromL B fl l).ok:=
 adds_ok l ⟨hB,List.Pairwise.nil,(fun _ h=>nomatch h),(fun _ h=>nomatch h)⟩
theorem below_cut{x:List Opn}{s:St}:(∀a∈x.take (belowO x s),lessS s (oSt a)=false)/\(∀h:belowO x s<x.length,lessS s (oSt (x[belowO x s]))=true):=by
 obtain⟨h1,h2⟩:=while_at (fun a=>!lessS s (oSt a)) x;refine⟨fun a ha=>?_,fun h=>?_⟩
 ·obtain⟨i,hi,rfl⟩:=List.getElem_of_mem ha;rw[List.length_take] at hi;rw[List.getElem_take];have:=h1 i (by omega) (by unfold belowO at hi;omega)
  simpa using this
 ·have:=h2 h;rw[Bool.not_eq_false'] at this;exact this
theorem below_drop{x:List Opn}(hr:Rises x){s:St}:∀a∈x.drop (belowO x s),lessS s (oSt a)=true:=by
 intro a ha;obtain⟨i,hi,rfl⟩:=List.getElem_of_mem ha;rw[List.length_drop] at hi;rw[List.getElem_drop];have h0:belowO x s<x.length:=by omega
 have:=below_cut.2 h0;by_cases q:i=0
 ·subst q;exact this
 ·exact lessS_trans this (List.pairwise_iff_getElem.1 hr (belowO x s) (belowO x s+i) h0 (by omega) (by omega))
theorem compact_ok{x:Lg}(h:x.ok)(s:St):(compactL x s).1.ok:=by
 unfold compactL
 split
 ·exact⟨runG_fine h.base _,h.rises.drop,fun a ha=>h.may a (List.drop_subset _ _ ha),below_drop h.rises⟩
 ·exact h
theorem compact_graph(x:Lg)(s:St):graphL (compactL x s).1=graphL x:=by
 unfold compactL graphL
 split
 ·rw[<-run_append,List.take_append_drop]
 ·rfl
theorem graph_on{x:Lg}(h:x.ok):runG x.B (sortO x.L)=graphL x:=by rw[sort_self h.rises h.may];rfl
theorem le_less{a b c:St}(h1:lessS a c=false)(h2:lessS a b=true):lessS c b=true:=by
 by_cases q:c=a
 ·rw[q];exact h2
 ·exact lessS_trans (lessS_total h1 (fun e=>q e.symm)) h2
theorem put_behind_all{d l:List Opn}{o:Opn}(hd:∀a∈d,lessS (oSt a) (oSt o)=true):(putO (d++l) o).1=d++(putO l o).1:=by
 have hno:hasO d (oSt o)=false:=by
  rw[Bool.eq_false_iff];intro q;obtain⟨b,hb,e⟩:=hasO_iff.1 q;have:=hd b hb;rw[e,lessS_irrefl] at this
  cases this
 have hh:hasO (d++l) (oSt o)=hasO l (oSt o):=by
  unfold hasO at hno ⊢;rw[List.any_append,hno,Bool.false_or]
 have hw:∀(r:List Opn),(d++r).takeWhile (beforeO (oSt o))=d++r.takeWhile (beforeO (oSt o))/\(d++r).dropWhile (beforeO (oSt o))=r.dropWhile (beforeO (oSt o)):=by
  clear hno hh
  induction d with
  |nil=>intro r;exact⟨rfl,rfl⟩
  |cons a d ih=>
   intro r;have h1:beforeO (oSt o) a=true:=hd a (List.mem_cons_self ..);have:=ih (fun b hb=>hd b (List.mem_cons_of_mem _ hb)) r;refine⟨?_,?_⟩
   ·rw[List.cons_append,List.takeWhile_cons,if_pos h1,this.1,List.cons_append]
   ·rw[List.cons_append,List.dropWhile_cons,if_pos h1,this.2]
 unfold putO;rw[hh]
 split
 ·rfl
 ·split
  ·rfl
  ·show putIn _ (d++l) o=d++putIn _ l o;unfold putIn;rw[(hw l).1,(hw l).2,List.append_assoc]
def Whole(x:Lg)(all:List Opn):Prop:=∃d,sortO all=d++x.L/\x.B=runA d/\∀a∈d,lessS x.fl (oSt a)=false
theorem whole_new:Whole newL []:=⟨[],rfl,rfl,fun _ h=>nomatch h⟩
theorem sort_snoc(l:List Opn)(o:Opn):sortO (l++[o])=(putO (sortO l) o).1:=by
 unfold sortO putsO;rw[List.foldl_append]
 rfl
theorem put_may_not{x:List Opn}{o:Opn}(h:mayO o=false):(putO x o).1=x:=by unfold putO;rw[if_pos h]
theorem whole_add{x:Lg}{all:List Opn}{o:Opn}(h:Whole x all)(hl:x.fl=(0,0)\/lessS x.fl (oSt o)=true):Whole (addL x o).1 (all++[o]):=by
 obtain⟨d,h1,h2,h3⟩:=h;unfold addL
 split
 ·rename_i hq
  refine⟨d,?_,h2,h3⟩;rw[sort_snoc,h1];exact put_behind_all fun a ha=>le_less (h3 a ha) hq
 ·rename_i hq
  refine⟨d,?_,h2,h3⟩;have hf:x.fl=(0,0):=hl.resolve_right hq;have hm:mayO o=false:=by
   rw[Bool.eq_false_iff];intro q;rw[hf] at hq;exact hq (may_above q)
  rw[sort_snoc,put_may_not hm,h1]
theorem whole_compact{x:Lg}{all:List Opn}(h:Whole x all)(s:St):Whole (compactL x s).1 all:=by
 obtain⟨d,h1,h2,h3⟩:=h;unfold compactL
 split
 ·rename_i hq
  refine⟨d++x.L.take (belowO x.L s),?_,?_,fun a ha=>?_⟩
  ·show _=_++x.L.drop _;rw[h1,List.append_assoc,List.take_append_drop]
  ·show runG x.B _=_;rw[h2];unfold runA;rw[run_append]
  ·rcases List.mem_append.1 ha with q|q
   ·exact lessS_le (le_less (h3 a q) hq.2)
   ·exact below_cut.1 a q
 ·exact⟨d,h1,h2,h3⟩
theorem whole_graph{x:Lg}{all:List Opn}(h:Whole x all):graphL x=runA (sortO all):=by
 obtain⟨d,h1,h2,_⟩:=h;unfold graphL;rw[h1,h2];unfold runA;rw[run_append]
theorem adds_zero(B:Gr):∀(l x:List Opn),addsL ⟨B,(0,0),x⟩ l=⟨B,(0,0),putsO x l⟩
 | [],_=>rfl
 |o::l,x=>by
  have h:(addL ⟨B,(0,0),x⟩ o).1=⟨B,(0,0),(putO x o).1⟩:=by
   unfold addL
   split
   ·rfl
   ·rename_i hq
    have hm:mayO o=false:=by
     rw[Bool.eq_false_iff];intro q;exact hq (may_above q)
    rw[put_may_not hm]
  show addsL (addL ⟨B,(0,0),x⟩ o).1 l=_;rw[h,adds_zero B l]
  rfl
theorem from_zero(B:Gr)(l:List Opn):fromL B (0,0) l=⟨B,(0,0),sortO l⟩:=adds_zero B l []
theorem from_graph(l:List Opn):graphL (fromL newG (0,0) l)=runA (sortO l):=by rw[from_zero];rfl
theorem sort_same{l k:List Opn}(h:∀x,x∈k↔x∈sortO l):sortO k=sortO l:=
 (sort_converges (fun _ hx _ hy e=>(sort_rises l).one hx hy e) h).trans (sort_twice l)
theorem from_same{l k:List Opn}(h:∀x,x∈k↔x∈sortO l):fromL newG (0,0) k=fromL newG (0,0) (sortO l):=by
 rw[from_zero,from_zero,sort_same h,sort_twice]
theorem from_sort(l:List Opn):graphL (fromL newG (0,0) (sortO l))=runA (sortO l):=by rw[from_graph,sort_twice]
theorem fromL_len(B:Gr)(fl:St)(l:List Opn):(fromL B fl l).L.length<=l.length:=by
 have h:∀(l:List Opn)(x:Lg),(addsL x l).L.length<=x.L.length+l.length:=by
  intro l
  induction l with
  |nil=>intro x;exact Nat.le_refl _
  |cons o l ih=>
   intro x;have h1:=ih (addL x o).1;have h2:(addL x o).1.L.length<=x.L.length+1:=by
    unfold addL
    split
    ·exact put_len _ _
    ·exact Nat.le_succ _
   show(addsL (addL x o).1 l).L.length<=_;rw[List.length_cons];omega
 have:=h l ⟨B,fl,[]⟩
 simpa[fromL] using this
def Shut(x:Lg)(o:Opn):Prop:=mayO o=false\/lessS x.fl (oSt o)=false\/hasO x.L (oSt o)=true
theorem add_no{x:Lg}{o:Opn}(h:Shut x o):addL x o=(x,false):=by
 unfold addL
 split
 ·rename_i hl
  have hs:(putO x.L o).2.2=false:=by
   rw[put_iff];rcases h with h|h|h
   ·rw[h];rfl
   ·rw[h] at hl;cases hl
   ·rw[h];simp
  rw[put_no hs,hs]
 ·rfl
theorem add_shut(x:Lg)(o:Opn):Shut (addL x o).1 o:=by
 unfold addL
 split
 ·cases hm:mayO o with
  |false=>exact Or.inl hm
  |true=>
   refine Or.inr (Or.inr ?_)
   cases hh:hasO x.L (oSt o) with
   |true=>
    obtain⟨b,hb,e⟩:=hasO_iff.1 hh;exact hasO_iff.2 ⟨b,put_mem.2 (Or.inl hb),e⟩
   |false=>exact hasO_iff.2 ⟨o,put_mem.2 (Or.inr ⟨rfl,hm,hh⟩),rfl⟩
 ·rename_i hl
  exact Or.inr (Or.inl (by rw[Bool.eq_false_iff];exact hl))
theorem shut_add{x:Lg}{o:Opn}(h:Shut x o)(b:Opn):Shut (addL x b).1 o:=by
 unfold addL
 split
 ·rcases h with h|h|h
  ·exact Or.inl h
  ·exact Or.inr (Or.inl h)
  ·obtain⟨c,hc,e⟩:=hasO_iff.1 h;exact Or.inr (Or.inr (hasO_iff.2 ⟨c,put_mem.2 (Or.inl hc),e⟩))
 ·exact h
theorem shut_adds:∀(l:List Opn){x:Lg}{o:Opn},Shut x o->Shut (addsL x l) o
 | [],_,_,h=>h
 |b::l,_,_,h=>shut_adds l (shut_add h b)
theorem adds_shut:∀(l:List Opn)(x:Lg),∀o∈l,Shut (addsL x l) o
 |b::l,x,o,h=>by
  rcases List.mem_cons.1 h with rfl|h
  ·exact shut_adds l (add_shut x o)
  ·exact adds_shut l _ o h
theorem shut_compact{x:Lg}{o:Opn}(h:Shut x o)(s:St):Shut (compactL x s).1 o:=by
 unfold compactL
 split
 ·rename_i hq
  rcases h with h|h|h
  ·exact Or.inl h
  ·exact Or.inr (Or.inl (lessS_le (le_less h hq.2)))
  ·obtain⟨c,hc,e⟩:=hasO_iff.1 h;rw[<-List.take_append_drop (belowO x.L s) x.L] at hc;rcases List.mem_append.1 hc with q|q
   ·refine Or.inr (Or.inl ?_);have:=below_cut.1 c q;rw[e] at this;exact this
   ·exact Or.inr (Or.inr (hasO_iff.2 ⟨c,q,e⟩))
 ·exact h
theorem add_has(x:Lg)(o:Opn):hasL (addL x o).1 (oSt o)=((addL x o).2||hasL x (oSt o)):=by
 unfold addL
 split
 ·rename_i hl
  unfold hasL;simp only[hl,Bool.not_true,Bool.false_or]
  cases hp:(putO x.L o).2.2 with
  |true=>
   obtain⟨_,hm,hh⟩:=put_yes hp;rw[Bool.true_or];exact hasO_iff.2 ⟨o,put_mem.2 (Or.inr ⟨rfl,hm,hh⟩),rfl⟩
  |false=>rw[put_no hp,Bool.false_or]
 ·rfl
theorem add_len(x:Lg)(o:Opn):(addL x o).1.L.length=x.L.length+if(addL x o).2 then 1 else 0:=by
 unfold addL
 split
 ·cases hp:(putO x.L o).2.2 with
  |true=>simpa[hp] using(put_yes hp).1
  |false=>simp[put_no hp]
 ·rfl
end Go.Proofs.YtnnnkaobhkeocaaGreatDoor.GraphMath
namespace Go.Proofs.YtnnnkaobhkeocaaGreatDoor
open Go.RowKit StampMath GraphMath OpMath PackMath
def OpsNew(x:List Opn)(w:World)(e:Ending)(w':World):Prop:=
 ∃v,e=.returned v/\w'.ownsRow w.heap.size 37 13 v x.length (flat (x.map opA))/\Below w.heap.size w w'
structure OplogHave (H:GraphHave) where
 rep:World->(Nat->Prop)->(Nat->Prop)->Addr->Lg->Prop
 lt:∀ {W:World}{S R:Nat->Prop}{a:Addr}{x:Lg},rep W S R a x->∀i,S i\/R i->i<W.heap.size
 apart:∀ {W:World}{S R:Nat->Prop}{a:Addr}{x:Lg},rep W S R a x->∀i,S i->¬R i
 keep:∀ {W W':World}{S R:Nat->Prop}{a:Addr}{x:Lg},rep W S R a x->(∀i,S i\/R i->W'.heap[i]?=W.heap[i]?)->W.heap.size<=W'.heap.size->rep W' S R a x
 new:∀(w:World)[Tab w],Calls Tryz.prog 9 #[] w fun e w'=>∃a S R,e=.returned (.pointer (some a))/\rep w' S R a newL/\(∀i,S i\/R i->w.heap.size<=i)/\Below w.heap.size w w'
 made:∀(b:Addr)(S:Nat->Prop)(g:Gr)(fl:St)(A:Option Addr)(n c:Nat)(l:List Opn)(w:World)[Tab w],H.rep w S b g->¬S 0->g.fine->mayB fl.1 fl.2=true->n<=1000->(∀o∈l,OpFit o)->OpsIn w w.heap.size A n l->
  Calls Tryz.prog 29 #[.pointer (some b),.agg (stA fl),.slice A n c] w fun e w'=>∃a T R,e=.returned (.pointer (some a))/\rep w' T R a (fromL g fl l)/\(∀i,T i\/R i->w.heap.size<=i)/\Below w.heap.size w w'
 nilMade:∀(fl:St)(A:Option Addr)(n c:Nat)(w:World),Calls Tryz.prog 29 #[.pointer none,.agg (stA fl),.slice A n c] w fun e w'=>e=.returned (.pointer none)/\Below w.heap.size w w'
 add:∀(a:Addr)(S R:Nat->Prop)(x:Lg)(o:Opn)(w:World)[Tab w],rep w S R a x->¬S 0->x.ok->x.L.length<=900->(∀b∈x.L,OpFit b)->OpFit o->
  Calls Tryz.prog 13 #[.pointer (some a),.agg (opA o)] w fun e w'=>∃S' R',e=.returned (.bool (addL x o).2)/\rep w' S' R' a (addL x o).1/\(∀i,S' i->S i\/w.heap.size<=i)/\(∀i,R' i->R i\/w.heap.size<=i)/\But S w w'
 nilAdd:∀(o:Opn)(w:World),Calls Tryz.prog 13 #[.pointer none,.agg (opA o)] w fun e w'=>e=.returned (.bool false)/\Below w.heap.size w w'
 compact:∀(a:Addr)(S R:Nat->Prop)(x:Lg)(s:St)(w:World)[Tab w],rep w S R a x->¬S 0->x.ok->x.L.length<=900->(∀b∈x.L,OpFit b)->
  Calls Tryz.prog 11 #[.pointer (some a),.agg (stA s)] w fun e w'=>∃S' R',e=.returned (.int .i64 ((compactL x s).2:Int))/\rep w' S' R' a (compactL x s).1/\(∀i,S' i->S i\/w.heap.size<=i)/\(∀i,R' i->R i\/w.heap.size<=i)/\But S w w'
 nilCompact:∀(s:St)(w:World),Calls Tryz.prog 11 #[.pointer none,.agg (stA s)] w fun e w'=>e=.returned (.int .i64 0)/\Below w.heap.size w w'
 graph:∀(a:Addr)(S R:Nat->Prop)(x:Lg)(w:World),rep w S R a x->x.ok->Calls Tryz.prog 16 #[.pointer (some a)] w fun e w'=>∃b T,e=.returned (.pointer (some b))/\H.rep w' T b (graphL x)/\(∀i,T i->w.heap.size<=i)/\Below w.heap.size w w'
 nilGraph:∀(w:World),Calls Tryz.prog 16 #[.pointer none] w fun e w'=>e=.returned (.pointer none)/\Below w.heap.size w w'
 base:∀(a:Addr)(S R:Nat->Prop)(x:Lg)(w:World),rep w S R a x->x.ok->Calls Tryz.prog 19 #[.pointer (some a)] w fun e w'=>∃b T,e=.returned (.pointer (some b))/\H.rep w' T b x.B/\(∀i,T i->w.heap.size<=i)/\Below w.heap.size w w'
 floor:∀(a:Addr)(S R:Nat->Prop)(x:Lg)(w:World),rep w S R a x->Calls Tryz.prog 18 #[.pointer (some a)] w fun e w'=>e=.returned (.agg (stA x.fl))/\Below w.heap.size w w'
 ops:∀(a:Addr)(S R:Nat->Prop)(x:Lg)(w:World),rep w S R a x->x.L.length<=900->Calls Tryz.prog 21 #[.pointer (some a)] w (OpsNew x.L w)
 has:∀(a:Addr)(S R:Nat->Prop)(x:Lg)(s:St)(w:World),rep w S R a x->x.ok->x.L.length<=900->Calls Tryz.prog 22 #[.pointer (some a),.agg (stA s)] w fun e w'=>e=.returned (.bool (hasL x s))/\Below w.heap.size w w'
 nilHas:∀(s:St)(w:World),Calls Tryz.prog 22 #[.pointer none,.agg (stA s)] w fun e w'=>e=.returned (.bool false)/\Below w.heap.size w w'
 copy:∀(a:Addr)(S R:Nat->Prop)(x:Lg)(w:World),rep w S R a x->x.ok->x.L.length<=900->Calls Tryz.prog 31 #[.pointer (some a)] w fun e w'=>∃b T,e=.returned (.pointer (some b))/\rep w' T R b x/\(∀i,T i->w.heap.size<=i)/\Below w.heap.size w w'
structure LX {H:GraphHave} (O:OplogHave H) (w W:World) (N:Nat->Prop) (k:Nat) (a:Addr) (x:Lg):Prop where
 at':∃S R,O.rep W S R a x/\(∀i,S i->w.heap.size<=i)/\∀i,N i->¬S i/\¬R i
 ok:x.ok
 few:x.L.length<=k
 fit:∀o∈x.L,OpFit o
 lt:∀i,N i->i<W.heap.size
 below:Below w.heap.size w W
theorem LX.step{H:GraphHave}{O:OplogHave H}{w W W':World}{N:Nat->Prop}{k:Nat}{a:Addr}{x:Lg}(h:LX O w W N k a x)(hb:Below W.heap.size W W'):LX O w W' N k a x:=by
 obtain⟨⟨S,R,h1,h2,h3⟩,h4,h5,h6,h7,h8⟩:=h;exact⟨⟨S,R,O.keep h1 (fun i hi=>hb.block i (O.lt h1 i hi)) hb.size,h2,h3⟩,h4,h5,h6,fun i hi=>Nat.lt_of_lt_of_le (h7 i hi) hb.size,below_step h8 hb⟩
theorem LX.more{H:GraphHave}{O:OplogHave H}{w W:World}{N:Nat->Prop}{k k':Nat}{a:Addr}{x:Lg}(h:LX O w W N k a x)(hk:k<=k'):LX O w W N k' a x:=
 ⟨h.at',h.ok,Nat.le_trans h.few hk,h.fit,h.lt,h.below⟩
theorem LX.grow{H:GraphHave}{O:OplogHave H}{w W W':World}{N:Nat->Prop}{k:Nat}{a:Addr}{x:Lg}(h:LX O w W N k a x)(hb:Below W.heap.size W W'):LX O w W' (fun i=>N i\/(W.heap.size<=i/\i<W'.heap.size)) k a x:=by
 obtain⟨⟨S,R,h1,h2,h3⟩,h4,h5,h6,h7,h8⟩:=h;refine⟨⟨S,R,O.keep h1 (fun i hi=>hb.block i (O.lt h1 i hi)) hb.size,h2,fun i hi=>?_⟩,h4,h5,h6,fun i hi=>?_,below_step h8 hb⟩
 ·rcases hi with hi|hi
  ·exact h3 i hi
  ·exact⟨fun q=>by have:=O.lt h1 i (Or.inl q);omega,fun q=>by have:=O.lt h1 i (Or.inr q);omega⟩
 ·rcases hi with hi|hi
  ·exact Nat.lt_of_lt_of_le (h7 i hi) hb.size
  ·exact hi.2
theorem LX.put{H:GraphHave}{O:OplogHave H}{w W W':World}{N T:Nat->Prop}{k:Nat}{a:Addr}{x:Lg}(h:LX O w W N k a x)(hb:But T W W')(hT:∀i,T i->N i/\w.heap.size<=i):LX O w W' N k a x:=by
 obtain⟨⟨S,R,h1,h2,h3⟩,h4,h5,h6,h7,h8⟩:=h;exact⟨⟨S,R,O.keep h1 (fun i hi=>hb.block i (O.lt h1 i hi) fun ht=>hi.elim (h3 i (hT i ht).1).1 (h3 i (hT i ht).1).2) hb.size,h2,h3⟩,h4,h5,h6,fun i hi=>Nat.lt_of_lt_of_le (h7 i hi) hb.size,h8.trans (hb.below (fun i hi=>(hT i hi).2) h8.size)⟩
theorem LX.mut{H:GraphHave}{O:OplogHave H}{w W w':World}{N S S' R R':Nat->Prop}{k:Nat}{a:Addr}{x':Lg}(h2:∀i,S i->w.heap.size<=i)(h3:∀i,N i->¬S i/\¬R i)(h5:∀i,N i->i<W.heap.size)(h6:Below w.heap.size w W)
  (k1:O.rep w' S' R' a x')(k2:∀i,S' i->S i\/W.heap.size<=i)(k2':∀i,R' i->R i\/W.heap.size<=i)(k3:But S W w')(hx:x'.ok)(hf:x'.L.length<=k)(ht:∀o∈x'.L,OpFit o):LX O w w' N k a x'/\Same N W w':=
 ⟨⟨⟨S',R',k1,fun i hi=>(k2 i hi).elim (h2 i) (Nat.le_trans h6.size),fun i hi=>⟨fun hs=>(k2 i hs).elim (h3 i hi).1 fun q=>by have:=h5 i hi;omega,fun hs=>(k2' i hs).elim (h3 i hi).2 fun q=>by have:=h5 i hi;omega⟩⟩,hx,hf,ht,fun i hi=>Nat.lt_of_lt_of_le (h5 i hi) k3.size,h6.trans (k3.below h2 h6.size)⟩,
  k3.size,fun i hi=>k3.block i (h5 i hi) (h3 i hi).1⟩
theorem add_fit{x:Lg}{o:Opn}(h:∀b∈x.L,OpFit b)(ho:OpFit o):∀b∈(addL x o).1.L,OpFit b:=by
 unfold addL
 split
 ·intro b hb;rcases put_mem.1 hb with q|⟨rfl,_⟩
  ·exact h b q
  ·exact ho
 ·exact h
theorem compact_fit{x:Lg}{s:St}(h:∀b∈x.L,OpFit b):∀b∈(compactL x s).1.L,OpFit b:=by
 unfold compactL
 split
 ·exact fun b hb=>h b (List.drop_subset _ _ hb)
 ·exact h
theorem adds_fit:∀(l:List Opn){x:Lg},(∀b∈x.L,OpFit b)->(∀b∈l,OpFit b)->∀b∈(addsL x l).L,OpFit b
 | [],_,h,_=>h
 |o::l,_,h,hl=>adds_fit l (add_fit h (hl o (List.mem_cons_self ..))) fun b hb=>hl b (List.mem_cons_of_mem _ hb)
theorem from_fit{B:Gr}{fl:St}{l:List Opn}(hl:∀b∈l,OpFit b):∀b∈(fromL B fl l).L,OpFit b:=adds_fit l (fun _ h=>nomatch h) hl
theorem compact_len(x:Lg)(s:St):(compactL x s).1.L.length<=x.L.length:=by
 unfold compactL
 split
 ·show(x.L.drop _).length<=_;rw[List.length_drop];omega
 ·exact Nat.le_refl _
theorem add_len'(x:Lg)(o:Opn):(addL x o).1.L.length<=x.L.length+1:=by
 have:=add_len x o
 split at this<;>omega
structure PX {H:GraphHave} (O:OplogHave H) (w W:World) (N:Nat->Prop) (k:Nat) (a:Addr) (x:Lg) (c:Addr) (y:Lg):Prop where
 at':∃S R T Q,O.rep W S R a x/\O.rep W T Q c y/\(∀i,S i->w.heap.size<=i)/\(∀i,T i->w.heap.size<=i)/\(∀i,N i->¬S i/\¬R i)/\(∀i,N i->¬T i/\¬Q i)/\∀i,S i->¬T i/\¬Q i
 okx:x.ok/\x.L.length<=k/\∀o∈x.L,OpFit o
 oky:y.ok/\y.L.length<=k/\∀o∈y.L,OpFit o
 lt:∀i,N i->i<W.heap.size
 below:Below w.heap.size w W
section
variable {H:GraphHave}{O:OplogHave H}{w W W':World}{N:Nat->Prop}{k:Nat}{a c:Addr}{x y:Lg}
theorem PX.one(h:PX O w W N k a x c y):LX O w W N k a x:=by
 obtain⟨⟨S,R,T,Q,h1,h2,h3,h4,h5,h6,h7⟩,⟨h8,h9,h10⟩,_,h12,h13⟩:=h;exact⟨⟨S,R,h1,h3,h5⟩,h8,h9,h10,h12,h13⟩
theorem PX.two(h:PX O w W N k a x c y):LX O w W N k c y:=by
 obtain⟨⟨S,R,T,Q,h1,h2,h3,h4,h5,h6,h7⟩,_,⟨h8,h9,h10⟩,h12,h13⟩:=h;exact⟨⟨T,Q,h2,h4,h6⟩,h8,h9,h10,h12,h13⟩
theorem PX.step(h:PX O w W N k a x c y)(hb:Below W.heap.size W W'):PX O w W' N k a x c y:=by
 obtain⟨⟨S,R,T,Q,h1,h2,h3,h4,h5,h6,h7⟩,h8,h9,h12,h13⟩:=h;exact⟨⟨S,R,T,Q,O.keep h1 (fun i hi=>hb.block i (O.lt h1 i hi)) hb.size,O.keep h2 (fun i hi=>hb.block i (O.lt h2 i hi)) hb.size,h3,h4,h5,h6,h7⟩,h8,h9,fun i hi=>Nat.lt_of_lt_of_le (h12 i hi) hb.size,below_step h13 hb⟩
end
theorem LX.new{H:GraphHave}(O:OplogHave H){w W:World}(T:Tab w)(hB:Below w.heap.size w W)(N:Nat->Prop)(hN:∀i,N i->i<W.heap.size):
  Calls Tryz.prog 9 #[] W fun e w'=>∃a,e=.returned (.pointer (some a))/\LX O w w' N 0 a newL/\Below W.heap.size W w':=by
 have TW:=tab_below T (Nat.le_refl _) hB;refine(O.new W).mono ?_;rintro e w' ⟨a,S,R,he,h1,h2,h3⟩;exact⟨a,he,⟨⟨S,R,h1,fun i hi=>Nat.le_trans hB.size (h2 i (Or.inl hi)),fun i hi=>⟨fun hs=>by have:=hN i hi;have:=h2 i (Or.inl hs);omega,fun hs=>by have:=hN i hi;have:=h2 i (Or.inr hs);omega⟩⟩,newL_ok,Nat.le_refl _,(fun _ h=>nomatch h),fun i hi=>Nat.lt_of_lt_of_le (hN i hi) h3.size,below_step hB h3⟩,h3⟩
theorem LX.made{H:GraphHave}(O:OplogHave H){w W:World}{N:Nat->Prop}{b:Addr}{g:Gr}(h:FX H w W N b g)(T:Tab w)(fl:St)(hfl:mayB fl.1 fl.2=true)(A:Option Addr)(n c:Nat)(l:List Opn)(hn:n<=1000)(hl:∀o∈l,OpFit o)(hi:OpsIn W W.heap.size A n l):
  Calls Tryz.prog 29 #[.pointer (some b),.agg (stA fl),.slice A n c] W fun e w'=>∃a,e=.returned (.pointer (some a))/\LX O w w' N n a (fromL g fl l)/\Below W.heap.size W w':=by
 have:=h.gx.tab T;have hN:=h.gx.lt;have hB:=h.gx.below;obtain⟨S,h1,h2,_⟩:=h.gx.at';refine(O.made b S g fl A n c l W h1 (fun q=>by have:=h2 _ q;have:=T.lt;omega) h.fine hfl hn hl hi).mono ?_;rintro e w' ⟨a,S',R',he,k1,k2,hb⟩;exact⟨a,he,⟨⟨S',R',k1,fun i hi=>Nat.le_trans hB.size (k2 i (Or.inl hi)),fun i hi=>⟨fun hs=>by have:=hN i hi;have:=k2 i (Or.inl hs);omega,fun hs=>by have:=hN i hi;have:=k2 i (Or.inr hs);omega⟩⟩,from_ok h.fine fl l,Nat.le_trans (fromL_len g fl l) (by rw[hi.len];exact Nat.le_refl _),from_fit hl,fun i hi=>Nat.lt_of_lt_of_le (hN i hi) hb.size,below_step hB hb⟩,hb⟩
theorem LX.add{H:GraphHave}{O:OplogHave H}{w W:World}{N:Nat->Prop}{k:Nat}{a:Addr}{x:Lg}(h:LX O w W N k a x)(T:Tab w)(hk:k<=900)(o:Opn)(ho:OpFit o):
  Calls Tryz.prog 13 #[.pointer (some a),.agg (opA o)] W fun e w'=>e=.returned (.bool (addL x o).2)/\LX O w w' N (k+1) a (addL x o).1/\Same N W w':=by
 have TW:=tab_below T (Nat.le_refl _) h.below;obtain⟨⟨S,R,h1,h2,h3⟩,h4,h5,h6,h7,h8⟩:=h;refine(O.add a S R x o W h1 (fun q=>by have:=h2 _ q;have:=T.lt;omega) h4 (by omega) h6 ho).mono ?_;rintro e w' ⟨S',R',he,k1,k2,k2',k3⟩;exact⟨he,LX.mut h2 h3 h7 h8 k1 k2 k2' k3 (add_ok h4 o) (by have:=add_len' x o;omega) (add_fit h6 ho)⟩
theorem PX.add{H:GraphHave}{O:OplogHave H}{w W:World}{N:Nat->Prop}{k:Nat}{a c:Addr}{x y:Lg}(h:PX O w W N k a x c y)(T:Tab w)(hk:k<=900)(o:Opn)(ho:OpFit o):
  Calls Tryz.prog 13 #[.pointer (some a),.agg (opA o)] W fun e w'=>e=.returned (.bool (addL x o).2)/\PX O w w' N (k+1) a (addL x o).1 c y/\Same N W w':=by
 have TW:=tab_below T (Nat.le_refl _) h.below;obtain⟨⟨S,R,T',Q,h1,h2,h3,h4,h5,h6,h7⟩,⟨h8,h9,h10⟩,⟨j8,j9,j10⟩,h12,h13⟩:=h;refine(O.add a S R x o W h1 (fun q=>by have:=h3 _ q;have:=T.lt;omega) h8 (by omega) h10 ho).mono ?_;rintro e w' ⟨S',R',he,k1,k2,k2',k3⟩;have r:=LX.mut h3 h5 h12 h13 k1 k2 k2' k3 (add_ok h8 o) (k:=k+1) (by have:=add_len' x o;omega) (add_fit h10 ho);have hlt:=O.lt h2;have q2:O.rep w' T' Q c y:=O.keep h2 (fun i hi=>k3.block i (hlt i hi) fun q=>hi.elim (h7 i q).1 (h7 i q).2) k3.size;exact⟨he,⟨⟨S',R',T',Q,k1,q2,fun i hi=>(k2 i hi).elim (h3 i) (Nat.le_trans h13.size),h4,fun i hi=>⟨fun hs=>(k2 i hs).elim (h5 i hi).1 fun q=>by have:=h12 i hi;omega,fun hs=>(k2' i hs).elim (h5 i hi).2 fun q=>by have:=h12 i hi;omega⟩,h6,fun i hi=>(k2 i hi).elim (h7 i) fun q=>⟨fun u=>by have:=hlt i (Or.inl u);omega,fun u=>by have:=hlt i (Or.inr u);omega⟩⟩,⟨add_ok h8 o,by have:=add_len' x o;omega,add_fit h10 ho⟩,⟨j8,by omega,j10⟩,r.1.lt,r.1.below⟩,r.2⟩
theorem LX.compact{H:GraphHave}{O:OplogHave H}{w W:World}{N:Nat->Prop}{k:Nat}{a:Addr}{x:Lg}(h:LX O w W N k a x)(T:Tab w)(hk:k<=900)(s:St):
  Calls Tryz.prog 11 #[.pointer (some a),.agg (stA s)] W fun e w'=>e=.returned (.int .i64 ((compactL x s).2:Int))/\LX O w w' N k a (compactL x s).1/\Same N W w':=by
 have TW:=tab_below T (Nat.le_refl _) h.below;obtain⟨⟨S,R,h1,h2,h3⟩,h4,h5,h6,h7,h8⟩:=h;refine(O.compact a S R x s W h1 (fun q=>by have:=h2 _ q;have:=T.lt;omega) h4 (by omega) h6).mono ?_;rintro e w' ⟨S',R',he,k1,k2,k2',k3⟩;exact⟨he,LX.mut h2 h3 h7 h8 k1 k2 k2' k3 (compact_ok h4 s) (by have:=compact_len x s;omega) (compact_fit h6)⟩
theorem LX.graph{H:GraphHave}{O:OplogHave H}{w W:World}{N:Nat->Prop}{k:Nat}{a:Addr}{x:Lg}(h:LX O w W N k a x):
  Calls Tryz.prog 16 #[.pointer (some a)] W fun e w'=>∃b,e=.returned (.pointer (some b))/\FX H W w' (fun _=>False) b (graphL x)/\Below W.heap.size W w':=by
 obtain⟨⟨S,R,h1,_,_⟩,h4,_,_,_,_⟩:=h;refine(O.graph a S R x W h1 h4).mono ?_;rintro e w' ⟨b,T,he,k1,k2,hb⟩;exact⟨b,he,⟨⟨⟨T,k1,k2,fun _ h=>h.elim⟩,(runG_fine h4.base _).ok,fun _ h=>h.elim,hb⟩,runG_fine h4.base _⟩,hb⟩
theorem LX.base{H:GraphHave}{O:OplogHave H}{w W:World}{N:Nat->Prop}{k:Nat}{a:Addr}{x:Lg}(h:LX O w W N k a x):
  Calls Tryz.prog 19 #[.pointer (some a)] W fun e w'=>∃b,e=.returned (.pointer (some b))/\FX H W w' (fun _=>False) b x.B/\Below W.heap.size W w':=by
 obtain⟨⟨S,R,h1,_,_⟩,h4,_,_,_,_⟩:=h;refine(O.base a S R x W h1 h4).mono ?_;rintro e w' ⟨b,T,he,k1,k2,hb⟩;exact⟨b,he,⟨⟨⟨T,k1,k2,fun _ h=>h.elim⟩,h4.base.ok,fun _ h=>h.elim,hb⟩,h4.base⟩,hb⟩
theorem LX.floor{H:GraphHave}{O:OplogHave H}{w W:World}{N:Nat->Prop}{k:Nat}{a:Addr}{x:Lg}(h:LX O w W N k a x):
  Calls Tryz.prog 18 #[.pointer (some a)] W fun e w'=>e=.returned (.agg (stA x.fl))/\Below W.heap.size W w':=by
 obtain⟨⟨S,R,h1,_,_⟩,_⟩:=h;exact O.floor a S R x W h1
theorem LX.ops{H:GraphHave}{O:OplogHave H}{w W:World}{N:Nat->Prop}{k:Nat}{a:Addr}{x:Lg}(h:LX O w W N k a x)(hk:k<=900):
  Calls Tryz.prog 21 #[.pointer (some a)] W (OpsNew x.L W):=by
 have hf:=h.few;obtain⟨⟨S,R,h1,_,_⟩,_⟩:=h;exact O.ops a S R x W h1 (by omega)
theorem LX.has{H:GraphHave}{O:OplogHave H}{w W:World}{N:Nat->Prop}{k:Nat}{a:Addr}{x:Lg}(h:LX O w W N k a x)(hk:k<=900)(s:St):
  Calls Tryz.prog 22 #[.pointer (some a),.agg (stA s)] W fun e w'=>e=.returned (.bool (hasL x s))/\Below W.heap.size W w':=by
 have hf:=h.few;obtain⟨⟨S,R,h1,_,_⟩,h4,_⟩:=h;exact O.has a S R x s W h1 h4 (by omega)
theorem LX.two{H:GraphHave}{O:OplogHave H}{w W:World}{N:Nat->Prop}{k:Nat}{a:Addr}{x:Lg}(h:LX O w W N k a x)(hk:k<=900):
  Calls Tryz.prog 31 #[.pointer (some a)] W fun e w'=>∃c,e=.returned (.pointer (some c))/\PX O w w' N k a x c x/\Below W.heap.size W w':=by
 obtain⟨⟨S,R,h1,h2,h3⟩,h4,h5,h6,h7,h8⟩:=h;refine(O.copy a S R x W h1 h4 (by omega)).mono ?_;rintro e w' ⟨c,T,he,k1,k2,hb⟩;have hlt:=O.lt h1;exact⟨c,he,⟨⟨S,R,T,R,O.keep h1 (fun i hi=>hb.block i (hlt i hi)) hb.size,k1,h2,fun i hi=>Nat.le_trans h8.size (k2 i hi),h3,fun i hi=>⟨fun q=>by have:=k2 i q;have:=h7 i hi;omega,(h3 i hi).2⟩,fun i hi=>⟨fun q=>by have:=k2 i q;have:=hlt i (Or.inl hi);omega,O.apart h1 i hi⟩⟩,⟨h4,h5,h6⟩,⟨h4,h5,h6⟩,fun i hi=>Nat.lt_of_lt_of_le (h7 i hi) hb.size,below_step h8 hb⟩,hb⟩
theorem LX.copy{H:GraphHave}{O:OplogHave H}{w W:World}{N:Nat->Prop}{k:Nat}{a:Addr}{x:Lg}(h:LX O w W N k a x)(hk:k<=900):
  Calls Tryz.prog 31 #[.pointer (some a)] W fun e w'=>∃c,e=.returned (.pointer (some c))/\LX O W w' (fun _=>False) k c x/\Below W.heap.size W w':=by
 obtain⟨⟨S,R,h1,h2,h3⟩,h4,h5,h6,h7,h8⟩:=h;refine(O.copy a S R x W h1 h4 (by omega)).mono ?_;rintro e w' ⟨c,T,he,k1,k2,hb⟩;exact⟨c,he,⟨⟨T,R,k1,k2,fun _ h=>h.elim⟩,h4,h5,h6,fun _ h=>h.elim,hb⟩,hb⟩
end Go.Proofs.YtnnnkaobhkeocaaGreatDoor
namespace Go.Proofs.YtnnnkaobhkeocaaGreatDoor
open StampMath GraphMath
theorem ents_few:∀(ids:List St)(E:List Ent),(∀e∈E,e.ino∈ids)->(∀id,linksE E id<=6)->E.length<=6*ids.length
 | [],E,h,_=>by
  cases E with
  |nil=>simp
  |cons e l=>exact absurd (h e (List.mem_cons_self ..)) (by simp)
 |d::ids,E,h,h6=>by
  have h1:(E.filter fun e=>decide (e.ino=d)).length<=6:=h6 d;have h2:=ents_few ids (E.filter fun e=>!decide (e.ino=d)) (fun e he=>by
   have hm:=List.mem_filter.1 he;have hne:¬e.ino=d:=by simpa using hm.2
   rcases List.mem_cons.1 (h e hm.1) with q|q
   ·exact absurd q hne
   ·exact q) (fun id=>by
   refine Nat.le_trans ?_ (h6 id);unfold linksE
   exact(List.filter_sublist.filter _).length_le)
  have h3:∀l:List Ent,l.length=(l.filter fun e=>decide (e.ino=d)).length+(l.filter fun e=>!decide (e.ino=d)).length:=by
   intro l
   induction l with
   |nil=>rfl
   |cons e l ih=>
    by_cases q:e.ino=d
    ·simp[q];omega
    ·simp[q];omega
  rw[h3 E,List.length_cons];omega
theorem GraphMath.Gr.ok.entsFew{g:Gr}(h:g.ok):g.E.length<=240:=by
 have h1:=ents_few (g.I.map fun x=>x.id) g.E (fun e he=>by
  obtain⟨x,hx,e1⟩:=h.inos e he
  exact List.mem_map.2 ⟨x,hx,e1⟩) h.six
 rw[List.length_map] at h1;have:=h.few;omega
end Go.Proofs.YtnnnkaobhkeocaaGreatDoor
namespace Go.Proofs.YtnnnkaobhkeocaaGreatDoor
open Go.RowKit StampMath GraphMath OpMath
theorem inos_later{W W':World}{A:Option Addr}{n:Nat}{I:List Ino}(h:InosIn W W.heap.size A n I)(hb:Below W.heap.size W W'):InosIn W' W'.heap.size A n I:=(h.below hb).more hb.size
theorem ents_later{W W':World}{A:Option Addr}{n:Nat}{E:List Ent}(h:EntsIn W W.heap.size A n E)(hb:Below W.heap.size W W'):EntsIn W' W'.heap.size A n E:=(h.below hb).more hb.size
theorem told_inos(H:GraphHave){w:World}{S:Nat->Prop}{a:Addr}{g:Gr}(h:H.rep w S a g)(hg:g.ok){W:World}(hW:Below w.heap.size w W):Calls Tryz.prog 33 #[.pointer (some a)] W (InosPost (inodesG g) W):=by
 refine(H.inodes a S g W (H.keep h fun i hi=>hW.block i (H.lt h i hi)) hg).mono ?_;rintro e w' ⟨v,rfl,hown,hb⟩;obtain⟨B,c,rfl,q1,q2,q3⟩:=inos_own rfl hown;exact⟨B,c,rfl,q1,q2,q3.1,q3.2,hb⟩
theorem told_ents(H:GraphHave){w:World}{S:Nat->Prop}{a:Addr}{g:Gr}(h:H.rep w S a g)(hg:g.ok){W:World}(hW:Below w.heap.size w W):Calls Tryz.prog 53 #[.pointer (some a)] W (EntsPost g.E W):=by
 refine(H.entries a S g W (H.keep h fun i hi=>hW.block i (H.lt h i hi)) hg).mono ?_;rintro e w' ⟨v,rfl,hown,hb⟩;obtain⟨B,c,rfl,q1,q2,q3⟩:=ents_own rfl hown;exact⟨B,c,rfl,q1,q2,q3.1,q3.2,hb⟩
end Go.Proofs.YtnnnkaobhkeocaaGreatDoor
namespace Go.Proofs.YtnnnkaobhkeocaaGreatDoor
open Go.RowKit StampMath GraphMath OpMath PackMath
def ohA:Opn:=⟨2,0,2,0,0,0,0,0,0,⟨#[102]⟩,⟨#[]⟩,0,⟨#[]⟩⟩
def ohB:Opn:=⟨1,0,1,0,0,0,0,0,0,⟨#[102]⟩,⟨#[]⟩,0,⟨#[]⟩⟩
set_option maxRecDepth 100000 in
theorem oh_ops:(addL newL ohA).2=true/\(addL (addL newL ohA).1 ohB).2=true/\lookE (graphL (addL (addL newL ohA).1 ohB).1).E (0,0) ⟨#[102]⟩=some (1,0)/\(addL (addL newL ohA).1 ohB).1.L.length=2:=by decide+kernel
theorem ohA_fit:OpFit ohA:=⟨by constructor<;>simp[ohA,IsI64],by decide,by decide,by decide⟩
theorem ohB_fit:OpFit ohB:=⟨by constructor<;>simp[ohB,IsI64],by decide,by decide,by decide⟩
set_option maxRecDepth 100000 in
set_option maxHeartbeats 1600000 in
theorem OplogHave.shown{H:GraphHave}(O:OplogHave H)(w:World)(T:Tab w):
  Calls Tryz.prog 8 #[] w fun e w'=>e=.returned (.bool true)/\Below w.heap.size w w':=by
 obtain⟨q1,q2,q3,q4⟩:=oh_ops;have HT:=Lib.hid T;have HQ:=Lib.hid (And.intro q3 q4);have HQ1:=Lib.hid q1;have HQ2:=Lib.hid q2;clear q1 q2 q3 q4 T
 go_enter Tryz.func8,Tryz.ntmps8
 go_wp2_with fail
 refine(LX.new O HT.out (Below.refl w.heap.size w) (fun _=>False) (fun _ h=>h.elim)).mono ?_;rintro e w1 ⟨a,rfl,h1,_⟩;have D1:=Lib.hid (h1.add HT.out (by omega) ohA ohA_fit);rw[HQ1.out] at D1;generalize (addL newL ohA).1=x1 at D1 HQ HQ2;unfold opA ohA at D1;clear h1
 go_wp2_with fail
 refine D1.out.mono ?_;rintro e w2 ⟨rfl,h2,_⟩;have D2:=Lib.hid (h2.add HT.out (by omega) ohB ohB_fit);rw[HQ2.out] at D2;generalize (addL x1 ohB).1=x2 at D2 HQ;unfold opA ohB at D2;clear h2 D1
 go_wp2_with fail
 refine D2.out.mono ?_;rintro e w3 ⟨rfl,h3,_⟩;have H3:=Lib.hid h3;have D3:=Lib.hid h3.graph;clear h3 D2
 go_wp2_with fail
 refine D3.out.mono ?_;rintro e w4 ⟨b,rfl,f4,hb4⟩;have H4:=Lib.hid (H3.out.step hb4);have L4:=Lib.hid (f4.gx.look (0,0) ⟨#[102]⟩ (by decide));rw[HQ.out.1] at L4;change Hid (Calls _ _ _ _ fun e w'=>e=.returned (.tuple #[.agg #[.int .i64 1,.int .i64 0],.bool true])/\GX H w3 w' (fun _=>False) b (graphL x2)/\Below w4.heap.size w4 w') at L4;clear f4 hb4 D3 H3
 go_wp2_with fail
 refine L4.out.mono ?_;rintro e w5 ⟨rfl,_,hb5⟩;have hA:Below w5.heap.size w5 (w5.alloc (.cells (#[.int .i64 1,.int .i64 0]) 24)):=(Below.refl _ _).alloc (Nat.le_refl _) _;have H6:=Lib.hid (H4.out.step (below_step hb5 hA));have B5:=heap_alloc_new w5 (.cells (#[.int .i64 1,.int .i64 0]) 24);obtain⟨x0,x1'⟩:=two_cells B5;clear hb5 hA B5 H4
 go_upto_region 5 with fail
 change Code.wp _ _ _ _ (w5.alloc (.cells (#[.int .i64 1,.int .i64 0]) 24));generalize w5.alloc (.cells (#[.int .i64 1,.int .i64 0]) 24)=w6 at*
 have D6:=Lib.hid (H6.out.ops (by omega));unfold OpsNew at D6;rw[HQ.out.2] at D6
 go_wp2_with fail
 refine D6.out.mono ?_;rintro e w7 ⟨v,rfl,ho,hb7⟩;obtain⟨B,cB,rfl,-⟩:=ops_own (l:=x2.L) HQ.out.2 ho;have HF:=Lib.hid (below_step H6.out.below hb7);clear ho hb7 D6
 go_wp2_with fail
 go_ret
 exact⟨rfl,HF.out⟩
theorem LX.tight{H:GraphHave}{O:OplogHave H}{w W:World}{N:Nat->Prop}{k k':Nat}{a:Addr}{x:Lg}(h:LX O w W N k' a x)(hk:x.L.length<=k):LX O w W N k a x:=⟨h.at',h.ok,hk,h.fit,h.lt,h.below⟩
structure SortOwn:Prop where
 sort:∀(A:Option Addr)(n c:Nat)(l:List Opn)(w:World)[Tab w],n<=1000->(∀o∈l,OpFit o)->OpsIn w w.heap.size A n l->Calls Tryz.prog 28 #[.slice A n c] w (OpsNew (sortO l) w)
end Go.Proofs.YtnnnkaobhkeocaaGreatDoor
namespace Go.Proofs.YtnnnkaobhkeocaaGreatDoor
open Go.RowKit
theorem own_iter{w w':World}{base r:Nat}{e:TypeId}{k:Nat}{v:Value}{n:Nat}{xs:List Value}(h:w.ownsRow base e k v n xs)(hb:But (fun i=>i=r) w w')(hr:r<base):w'.ownsRow base e k v n xs:=
 h.kept (row:=some r) ⟨hb.os,hb.tape,hb.output,hb.size,fun i hi hn=>hb.block i hi fun q=>hn (by rw[q])⟩ (by
  cases hv:v.ownBlock with
  |none=>exact .inl rfl
  |some j=>exact .inr (fun q=>by have:=(h.lt j hv).1;injection q with q;omega))
theorem own_call{w w':World}{base:Nat}{e:TypeId}{k:Nat}{v:Value}{n:Nat}{xs:List Value}(h:w.ownsRow base e k v n xs)(hb:Below w.heap.size w w'):w'.ownsRow base e k v n xs:=
 h.kept (row:=none) ⟨hb.os,hb.tape,hb.output,hb.size,fun i hi _=>hb.block i hi⟩ (by
  cases hv:v.ownBlock with
  |none=>exact .inl rfl
  |some j=>exact .inr (fun q=>by cases q))
theorem own_lower{w:World}{b b':Nat}{e:TypeId}{k:Nat}{v:Value}{n:Nat}{xs:List Value}(h:w.ownsRow b e k v n xs)(hb:b'<=b):w.ownsRow b' e k v n xs:=by
 obtain⟨h0,h1|⟨g,cap,cur,h1,h2,h3⟩⟩:=h
 ·exact⟨h0,Or.inl h1⟩
 ·exact⟨h0,Or.inr ⟨g,cap,cur,h1,Nat.le_trans hb h2,h3⟩⟩
theorem own_same{w w':World}{base:Nat}{e:TypeId}{k:Nat}{v:Value}{n:Nat}{xs:List Value}(h:w.ownsRow base e k v n xs)(hb:∀g,v.ownBlock=some g->w'.heap[g]?=w.heap[g]?):w'.ownsRow base e k v n xs:=by
 obtain⟨h0,h1|⟨g,cap,cur,h1,h2,h3,h4⟩⟩:=h
 ·exact⟨h0,Or.inl h1⟩
 ·exact⟨h0,Or.inr ⟨g,cap,cur,h1,h2,(hb g (by rw[h1];rfl)).trans h3,h4⟩⟩
end Go.Proofs.YtnnnkaobhkeocaaGreatDoor
namespace Go.Proofs.YtnnnkaobhkeocaaGreatDoor
open Go.RowKit StampMath GraphMath OpMath PackMath
structure CmpHave:Prop where
 cmp:∀(s t:St)(w:World),Calls Tryz.prog 25 #[.agg (stA s),.agg (stA t)] w fun e w'=>e=.returned (.int .i64 (cmp s.1 s.2 t.1 t.2))/\Below w.heap.size w w'
def ddoA(d:Opn×Bool):Array Value:=#[.int .i64 d.1.st,.int .i64 d.1.sr,.int .i64 d.1.k,.int .i64 d.1.pt,.int .i64 d.1.pr,.int .i64 d.1.it,.int .i64 d.1.ir,.int .i64 d.1.tt,.int .i64 d.1.tr,.string d.1.name,.string d.1.new,.int .i64 d.1.off,.string d.1.data,.bool d.2]
def DdoIn(W:World)(B:Nat)(A:Option Addr)(n:Nat)(l:List (Opn×Bool)):Prop:=TabIn 14 W B A n (l.map ddoA)
theorem DdoIn.len{W:World}{B:Nat}{A:Option Addr}{n:Nat}{l:List (Opn×Bool)}(h:DdoIn W B A n l):l.length=n:=by have:=h.1;rwa[List.length_map] at this
theorem DdoIn.row{W:World}{B:Nat}{A:Option Addr}{n:Nat}{l:List (Opn×Bool)}(h:DdoIn W B A n l)(hn:0<n):
  ∃g o,A=some ⟨g,o,none⟩/\g<B/\∀k(hk:k<l.length),OpAt W g (o+k*14) l[k].1/\W.cell? ⟨g,o+k*14+13,none⟩=some (.bool l[k].2):=by
 obtain⟨g,o,e,hg,hc⟩:=h.2 hn;refine⟨g,o,e,hg,fun k hk=>?_⟩;have c:∀i v,(ddoA l[k])[i]?=some v->W.cell? ⟨g,o+k*14+i,none⟩=some v:=fun i v hv=>hc k (by rw[List.length_map];exact hk) i v (by rw[List.getElem_map];exact hv);exact⟨⟨c 0 _ rfl,c 1 _ rfl,c 2 _ rfl,c 3 _ rfl,c 4 _ rfl,c 5 _ rfl,c 6 _ rfl,c 7 _ rfl,c 8 _ rfl,c 9 _ rfl,c 10 _ rfl,c 11 _ rfl,c 12 _ rfl⟩,c 13 _ rfl⟩
theorem DdoIn.below{W W':World}{B:Nat}{A:Option Addr}{n:Nat}{l:List (Opn×Bool)}(h:DdoIn W B A n l)(hb:Below B W W'):DdoIn W' B A n l:=TabIn.below h hb
structure StackL {H:GraphHave} (O:OplogHave H) (w W:World) (N:Nat->Prop) (k:Nat) (a:Addr) (x:Lg) (rv:Value) (l:List Opn):Prop where
 lx:LX O w W N k a x
 own:W.ownsRow w.heap.size 37 13 rv l.length (flat (l.map opA))
 row:∀b,rv.ownBlock=some b->N b
section
variable {H:GraphHave}{O:OplogHave H}{w W W':World}{N N':Nat->Prop}{k k':Nat}{a:Addr}{x x':Lg}{rv:Value}{l:List Opn}
theorem StackL.start(h:LX O w W N k a x):StackL O w W N k a x (.slice none 0 0) []:=
 ⟨h,World.ownsRow_nil _ _ _ _,fun b hb=>by simp[Value.ownBlock] at hb⟩
theorem StackL.same(h:StackL O w W N k a x rv l)(q:LX O w W' N k' a x')(s:Same N W W'):StackL O w W' N k' a x' rv l:=
 ⟨q,own_same h.own fun b hb=>s.2 b (h.row b hb),h.row⟩
theorem StackL.step(h:StackL O w W N k a x rv l)(hb:Below W.heap.size W W'):StackL O w W' N k a x rv l:=
 h.same (h.lx.step hb) ⟨hb.size,fun i hi=>hb.block i (h.lx.lt i hi)⟩
theorem StackL.grow(h:StackL O w W N k a x rv l)(hb:Below W.heap.size W W'):StackL O w W' (fun i=>N i\/(W.heap.size<=i/\i<W'.heap.size)) k a x rv l:=
 ⟨h.lx.grow hb,own_same h.own fun b hq=>hb.block b (h.lx.lt b (h.row b hq)),fun b hq=>.inl (h.row b hq)⟩
theorem StackL.more(h:StackL O w W N k a x rv l)(hk:k<=k'):StackL O w W N k' a x rv l:=⟨h.lx.more hk,h.own,h.row⟩
theorem StackL.push(h:StackL O w W N k a x rv l){o:Opn}{rv':Value}(hown:W'.ownsRow w.heap.size 37 13 rv' (l.length+1) (flat ((l++[o]).map opA)))(hg:W.grownBy W' rv.ownBlock)(hat:rv'.ownBlock=rv.ownBlock\/rv'.ownBlock=some W.heap.size):
  StackL O w W' (fun i=>N i\/(W.heap.size<=i/\i<W'.heap.size)) k a x rv' (l++[o]):=by
 have hlow:∀b,rv.ownBlock=some b->w.heap.size<=b:=fun b hb=>(h.own.lt b hb).1;obtain⟨⟨⟨S,R,q1,q2,q3⟩,q4,q4',q4'',q5,q6⟩,_,row⟩:=h;have hS:∀i,S i\/R i->W'.heap[i]?=W.heap[i]?:=fun i hi=>hg.block i (O.lt q1 i hi) fun e=>hi.elim (q3 i (row i e.symm)).1 (q3 i (row i e.symm)).2;refine⟨⟨⟨S,R,O.keep q1 hS hg.size,q2,fun i hi=>?_⟩,q4,q4',q4'',fun i hi=>?_,⟨hg.os.trans q6.os,hg.tape.trans q6.tape,hg.output.trans q6.output,Nat.le_trans q6.size hg.size,fun k hk=>(hg.block k (Nat.lt_of_lt_of_le hk q6.size) fun e=>?_).trans (q6.block k hk)⟩⟩,by rw[List.length_append];exact hown,fun b hb=>?_⟩
 ·rcases hi with hi|hi
  ·exact q3 i hi
  ·exact⟨fun hs=>by have:=O.lt q1 i (.inl hs);omega,fun hs=>by have:=O.lt q1 i (.inr hs);omega⟩
 ·rcases hi with hi|hi
  ·exact Nat.lt_of_lt_of_le (q5 i hi) hg.size
  ·exact hi.2
 ·have:=hlow k e.symm;omega
 ·rcases hat with q|q
  ·rw[q] at hb;exact Or.inl (row b hb)
  ·rw[q] at hb
   injection hb with hb
   subst hb;have hlt:W.heap.size<W'.heap.size:=by
    rcases hown with ⟨_,⟨e,_⟩|⟨g0,cap,cur,e,_,k1,_⟩⟩
    ·rw[e] at q;cases q
    ·rw[e] at q;have:g0=W.heap.size:=by simpa[Value.ownBlock] using q
     rw[<-this];exact heap_lt k1
   exact Or.inr ⟨Nat.le_refl _,hlt⟩
theorem FX.same{V V':World}{c:Addr}{g:Gr}(h:FX H W V (fun _=>False) c g)(hN:∀i,W.heap.size<=i->i<V.heap.size->N i)(s:Same N V V'):∃S,H.rep V' S c g:=by
 obtain⟨S,r,h2,_⟩:=h.gx.at';exact⟨S,H.keep r fun i hi=>s.2 i (hN i (h2 i hi) (H.lt r i hi))⟩
end
end Go.Proofs.YtnnnkaobhkeocaaGreatDoor
namespace Go.Proofs.YtnnnkaobhkeocaaGreatDoor
open Go.RowKit StampMath GraphMath
set_option maxRecDepth 100000 in
set_option maxHeartbeats 800000 in
theorem refLinks(v:Value)(A:Option Addr)(n c:Nat)(E:List Ent)(id:St)(hn:n<=1000)(w:World)(h:EntsIn w w.heap.size A n E):
  Calls Tryz.prog 115 #[.agg #[v,.slice A n c],.agg (stA id)] w fun e w'=>e=.returned (.int .i64 (linksE E id:Nat))/\Below w.heap.size w w':=by
 have hl:=h.len;have HB:Hid (EntsIn w w.heap.size A n E):=h;clear h;unfold stA;obtain⟨t,r⟩:=id;dsimp only
 go_enter Tryz.func115,Tryz.ntmps115
 go_wp2_with fail
 go_loopg [5,6] (n+1) (fun gk x i wr=>∃k:Nat,i=.int .i64 (k:Int)/\x=.int .i64 (linksE (E.take k) (t,r):Nat)/\gk+k=n+1/\k<=n/\wr.heap[w.heap.size]?=some (.cells #[v,.slice A n c] 31 (0,0))/\wr.heap[w.heap.size+1]?=some (.cells #[.int .i64 t,.int .i64 r] 24 (0,0))/\Below w.heap.size w wr)
 case atStart=>
  refine⟨0,rfl,rfl,by omega,by omega,?_,?_,((Below.refl _ w).alloc (Nat.le_refl _) _).alloc (by simp) _⟩
  ·exact heap_alloc2_old w _ _
  ·exact heap_alloc2_new w _ _
 case round=>
  obtain⟨k,rfl,rfl,hgk,hk,h1,h2,hB⟩:=hrel;have c1:=cell_of_row _ _ 1 _ _ (0,0) h1;have c2:=cell_of_row _ _ 0 _ _ (0,0) h2;have c3:=cell_of_row _ _ 1 _ _ (0,0) h2;by_cases hlt:k<n
  ·obtain⟨g,o,rfl,hg,hrow⟩:=HB.out.row (by omega);obtain⟨e0,e1,e2,e3,e4⟩:=(hrow k (by omega)).below hB hg;clear hrow;have hsn:=linksE_snoc E k (by omega) (t,r);have hnum:(linksE (E.take k) (t,r):Int)<=1000:=by have:=linksE_le (E.take k) (t,r);rw[List.length_take] at this;omega
   by_cases hq:E[k].ino=(t,r)
   ·rw[if_pos hq] at hsn;have hv:=eqSt_yes hq;dsimp only at hv
    go_wp2_with fail
    go_quiet (fail)
    go_wp2_with fail
    go_roundg (gk-1)
    case measure=>omega
    case rel=>exact⟨k+1,by go_num,by rw[hsn];go_num,by omega,by omega,h1,h2,below_drewN' hB _⟩
   ·rw[if_neg hq] at hsn;have hv:=eqSt_no hq;dsimp only at hv
    go_wp2_with fail
    go_quiet (fail)
    go_wp2_with fail
    go_roundg (gk-1)
    case measure=>omega
    case rel=>exact⟨k+1,by go_num,by rw[hsn],by omega,by omega,h1,h2,below_drewN' hB _⟩
  ·go_wp2_with fail
   go_ret
   exact⟨by rw[List.take_of_length_le (by omega)];rfl,hB⟩
set_option maxRecDepth 100000 in
set_option maxHeartbeats 1600000 in
theorem refGet(A A':Option Addr)(n c m d:Nat)(g:Gr)(id:St)(hn:n<=1000)(hm:m<=1000)(w:World)(h:InosIn w w.heap.size A n g.I)(h':EntsIn w w.heap.size A' m g.E):
  Calls Tryz.prog 80 #[.agg #[.slice A n c,.slice A' m d],.agg (stA id)] w fun e w'=>e=.returned (.tuple #[.agg (inoA ((getG g id).getD noIno)),.bool (getG g id).isSome])/\Below w.heap.size w w':=by
 have hl:=h.len;have HI:Hid (InosIn w w.heap.size A n g.I):=h;have HL:Hid (∀W:World,Below w.heap.size w W->Calls Tryz.prog 115 #[.agg #[.slice A n c,.slice A' m d],.agg #[.int .i64 id.1,.int .i64 id.2]] W fun e w'=>e=.returned (.int .i64 (linksE g.E id:Nat))/\Below W.heap.size W w'):=fun W hW=>refLinks (.slice A n c) A' m d g.E id hm W ((h'.below hW).more hW.size);clear h h';have hb0:Held w [(w.heap.size+1+1,.cells (inoA noIno) 102),(w.heap.size+1,.cells (stA id) 24),(w.heap.size,.cells #[.slice A n c,.slice A' m d] 31)]
  (((w.alloc (.cells #[.slice A n c,.slice A' m d] 31)).alloc (.cells #[.int .i64 id.1,.int .i64 id.2] 24)).alloc (.cells #[.int .i64 0,.int .i64 0,.int .i64 0,.int .i64 0,.int .i64 0,.string ⟨#[]⟩] 102)):=
  (((Held.refl w).alloc (.cells #[.slice A n c,.slice A' m d] 31) rfl).alloc (.cells (stA id) 24) (by simp)).alloc (.cells (inoA noIno) 102) (by simp)
 unfold stA
 go_enter Tryz.func80,Tryz.ntmps80
 go_wp2_with fail
 go_loopg [6] (n+1) (fun gk i wr=>∃k:Nat,i=.int .i64 (k:Int)/\gk+k=n+1/\k<=n/\Hid ((g.I.take k).find? (fun x=>decide (x.id=id))=none)/\Held w [(w.heap.size+1+1,.cells (inoA noIno) 102),(w.heap.size+1,.cells (stA id) 24),(w.heap.size,.cells #[.slice A n c,.slice A' m d] 31)] wr)
 case atStart=>exact⟨0,rfl,by omega,by omega,rfl,hb0⟩
 case round=>
  obtain⟨k,rfl,hgk,hk,hnone,hH⟩:=hrel;clear hb0;obtain⟨c1,c2⟩:=two_cells (g:=w.heap.size) (hH.at 2 rfl);obtain⟨c3,c4⟩:=two_cells (g:=w.heap.size+1) (hH.at 1 rfl);by_cases hlt:k<n
  ·obtain⟨gi,o,rfl,hg,hrow⟩:=HI.out.row (by omega);have hp:=find_none_take (p:=fun x:Ino=>decide (x.id=id)) (k:=k) (by omega) hnone.out;have hrk:=fun W hb=>(hrow k (by omega)).below (B:=w.heap.size) (W':=W) hb hg;obtain⟨⟨xi,kd,lk,md,da⟩,hx⟩:∃x,g.I[k]=x:=⟨_,rfl⟩;rw[hx] at hrk hp;clear hrow hx hnone;obtain⟨e0,e1,e2,e3,e4,e5⟩:=hrk wr hH.below;have HR:=Lib.hid hrk;clear hrk;by_cases hq:xi=id
   ·have hv:=eqSt_yes hq;subst hq;rw[if_pos (decide_eq_true rfl)] at hp;have HG:Hid (getG g xi=some ⟨xi,kd,(linksE g.E xi:Int),md,da⟩):=by
     show getG g xi=_;unfold getG;rw[find_take hp]
     rfl
    clear hp
    go_wp2_with fail
    go_quiet (fail)
    have hH2:=hH.drewN nq;generalize wr.drewN nq=w2 at hH2 ⊢;clear c1 c2 c3 c4 e0 e1 e2 e3 e4 e5 hH;obtain⟨c1,c2⟩:=two_cells (g:=w.heap.size) (hH2.at 2 rfl);obtain⟨c3,c4⟩:=two_cells (g:=w.heap.size+1) (hH2.at 1 rfl);obtain⟨e0,e1,e2,e3,e4,e5⟩:=HR.out w2 hH2.below
    go_upto_region 6 with fail
    change Code.wp _ _ _ _ (w2.alloc (.cells (inoA ⟨xi,kd,lk,md,da⟩) 102));have hH3:=hH2.alloc (.cells (inoA ⟨xi,kd,lk,md,da⟩) 102) rfl;obtain⟨u,hu⟩:∃u,u=w2.heap.size:=⟨_,rfl⟩;have hlow:w.heap.size+1+1<u:=by rw[hu];exact heap_lt (hH2.at 0 rfl)
    rw[<-hu] at hH3 ⊢;generalize w2.alloc (.cells (inoA ⟨xi,kd,lk,md,da⟩) 102)=w3 at hH3 ⊢;clear c1 c2 c3 c4 e0 e1 e2 e3 e4 e5 hH2 hu;obtain⟨c1,c2⟩:=two_cells (g:=w.heap.size) (hH3.at 3 rfl);obtain⟨c3,c4⟩:=two_cells (g:=w.heap.size+1) (hH3.at 2 rfl)
    go_wp2_with fail
    refine(HL.out _ hH3.below).mono ?_;rintro e w4 ⟨rfl,hb4⟩;have hH4:=hH3.step hb4;clear c1 c2 c3 c4 hH3 hb4;obtain⟨e0,e1,e2,e3,e4,e5⟩:=ino_cells (g:=u) (hH4.at 0 rfl);obtain⟨f0,f1,f2,f3,f4,f5⟩:=ino_free (g:=u) (hH4.at 0 rfl);obtain⟨m0,m1,m2,m3,m4,m5⟩:=ino_cells (g:=w.heap.size+1+1) (hH4.at 1 rfl);obtain⟨n0,n1,n2,n3,n4,n5⟩:=ino_free (g:=w.heap.size+1+1) (hH4.at 1 rfl)
    go_wp2_with fail
    exact bodyPost_ret (v:=.tuple #[.agg (inoA ⟨xi,kd,(linksE g.E xi:Int),md,da⟩),.bool true]) (by simp[results,Tryz.results80,go_sem,inoA,noIno,m0,m1,m2,m3,m4,m5]) rfl ⟨by rw[HG.out];rfl,below_six (hH4.below.setCell (by dsimp only;omega) _) (by omega) _ _ _ _ _ _⟩
   ·have hv:=eqSt_no hq;rw[if_neg (by rw[decide_eq_false hq];decide)] at hp;have HP:=Lib.hid hp;clear hp
    go_wp2_with fail
    go_quiet (fail)
    go_wp2_with fail
    go_roundg (gk-1)
    case measure=>omega
    case rel=>exact⟨k+1,by go_num,by omega,by omega,HP.out,hH.drewN _⟩
  ·have hget:getG g id=none:=by
    unfold getG;have:=hnone.out;rw[List.take_of_length_le (by omega)] at this;rw[this]
    rfl
   have HG:=Lib.hid hget;clear hget;have f:=ino_free (g:=w.heap.size+1+1) (hH.at 0 rfl);obtain⟨f0,f1,f2,f3,f4,f5⟩:=f;have m':=ino_cells (g:=w.heap.size+1+1) (hH.at 0 rfl);obtain⟨m0,m1,m2,m3,m4,m5⟩:=m'
   go_wp2_with fail
   exact bodyPost_ret (v:=.tuple #[.agg (inoA noIno),.bool false]) (by simp[results,Tryz.results80,go_sem,inoA,noIno,m0,m1,m2,m3,m4,m5]) rfl ⟨by rw[HG.out];rfl,below_six hH.below (by omega) _ _ _ _ _ _⟩
end Go.Proofs.YtnnnkaobhkeocaaGreatDoor
