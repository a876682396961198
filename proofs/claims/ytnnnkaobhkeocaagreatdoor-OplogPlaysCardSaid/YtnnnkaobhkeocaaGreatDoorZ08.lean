/-
 What the statements of layer 8 need of the package's own calls; and the statements' head.
-/
import Derived.Test.YtnnnkaobhkeocaaGreatDoorZ01
import Derived.Test.YtnnnkaobhkeocaaGreatDoorRows
import Derived.Test.YtnnnkaobhkeocaaGreatDoorZ00
import Derived.Test.YtnnnkaobhkeocaaGreatDoorZ05
import Derived.Test.YtnnnkaobhkeocaaGreatDoorZ07
import Derived.Test.YtnnnkaobhkeocaaGreatDoorZ04
import Derived.Test.YtnnnkaobhkeocaaGreatDoorZ02
import Derived.Shelf.SlGeneric
import Derived.Shelf.SlLaysF0
import Derived.Shelf.SlLaysW
import Derived.Test.YtnnnkaobhkeocaaGreatDoorProg
namespace Go.Proofs.YtnnnkaobhkeocaaGreatDoor
open Go.RowKit ExtentMath PackMath
structure ExtentHave:Prop where
 write:∀(d:ByteArray)(off:Int)(s:ByteArray)(w:World),d.size<=2000->s.size<=2000->IsI64 off->
  Calls Tryz.prog 165 #[.string d,.int .i64 off,.string s] w fun e w'=>e=.returned (.tuple #[.string (wR d off s).1,.int .i64 (wR d off s).2])/\Below w.heap.size w w'
 trunc:∀(d:ByteArray)(n:Int)(w:World),d.size<=2000->IsI64 n->
  Calls Tryz.prog 166 #[.string d,.int .i64 n] w fun e w'=>e=.returned (.tuple #[.string (tR d n).1,.int .i64 (tR d n).2])/\Below w.heap.size w w'
theorem len_bytes(d:ByteArray):d.data.toList.length=d.size:=by simp
end Go.Proofs.YtnnnkaobhkeocaaGreatDoor
namespace Go.Proofs.YtnnnkaobhkeocaaGreatDoor
open Go.RowKit StampMath GraphMath OpMath PackMath ExtentMath
section
variable {H:GraphHave}{w W0 W:World}{N:Nat->Prop}{a:Addr}{g:Gr}{L:List (Nat×Obj)}
theorem DX.target(h:DX H w W0 W N a g L)(o:Opn)(hn:o.new.size<=maxLen):
  Calls Tryz.prog 164 #[.agg (deedA a o)] W fun e w'=>e=.returned (.tuple #[.agg (inoA ((aimG g o).getD noIno)),.bool (aimG g o).isSome])/\DX H w W0 w' N a g L:=by
 obtain⟨S,h1,_⟩:=h.gx.at';exact(target_code H a S g o W h1 h.ok hn).mono fun _ _ ⟨he,hb⟩=>⟨he,h.step hb⟩
theorem DX.remove(h:DX H w W0 W N a g L)(o:Opn)(d:St)(nm:ByteArray)(hn:nm.size<=maxLen):
  Calls Tryz.prog 121 #[.agg (deedA a o),.agg #[.int .i64 d.1,.int .i64 d.2],.string nm] W fun e w'=>e=.returned (.tuple #[])/\DX H w W0 w' N a (goneG g d nm) L:=
 (remove_code H w W _ a g o d nm h.gx hn).mono fun _ _ ⟨he,k⟩=>⟨he,h.call k⟩
end
set_option maxRecDepth 100000 in
set_option maxHeartbeats 1600000 in
theorem rename_code(H:GraphHave)(w W0:World)(N:Nat->Prop)(a:Addr)(g:Gr)(o:Opn)(h:GX H w W0 N a g)(hn:o.name.size<=maxLen)(hn2:o.new.size<=maxLen)(hk:o.k=7):
  Calls Tryz.prog 122 #[.agg (deedA a o)] W0 (Did H w W0 N a (madeA g o)):=by
 have hE:=rename_made h.ok hk;have hD0:=(DX.start h).alloc (.cells (deedA a o) 133) rfl;obtain⟨gr,hgr⟩:∃gr,gr=madeA g o:=⟨_,rfl⟩;rw[<-hgr] at hE ⊢;obtain⟨x,hx⟩:∃x,x=(aimG g o).getD noIno:=⟨_,rfl⟩;obtain⟨b,hb⟩:∃b,b=(aimG g o).isSome:=⟨_,rfl⟩;have hcase:(b=false/\gr=tie1 (untieG g (oAt o) o.name).1 (oTo o) o.new (oIno o))\/(b=true/\((x.id.1==o.it)=true/\(x.id.2==o.ir)=true)/\gr=g)\/
   (b=true/\((x.id.1==o.it)=false\/(x.id.2==o.ir)=false)/\gr=tie1 (untieG (goneG g (oTo o) o.new) (oAt o) o.name).1 (oTo o) o.new (oIno o)):=by
  cases hq:aimG g o with
  |none=>
   rw[hq] at hE hb;exact Or.inl ⟨hb,hE⟩
  |some y=>
   rw[hq] at hE hb hx;have hxy:x=y:=hx;subst hxy;dsimp only at hE;by_cases c:x.id=oIno o
   ·rw[if_pos c] at hE;exact Or.inr (Or.inl ⟨hb,⟨by rw[c];exact beq_self_eq_true _,by rw[c];exact beq_self_eq_true _⟩,hE⟩)
   ·rw[if_neg c] at hE;refine Or.inr (Or.inr ⟨hb,?_,hE⟩);rw[beq_eq_false_iff_ne,beq_eq_false_iff_ne];by_cases h1:x.id.1=o.it
    ·exact Or.inr fun h2=>c (Prod.ext h1 h2)
    ·exact Or.inl h1
 have HC:=Lib.hid hcase;have HX:=Lib.hid hx;have HBq:=Lib.hid hb;clear hE hgr hcase hx hb h hk;unfold Did
 go_enter Tryz.func122,Tryz.ntmps122
 go_upto_region 1 with fail
 change Code.wp _ _ _ _ (W0.alloc (.cells (deedA a o) 133));generalize W0.alloc (.cells (deedA a o) 133)=w0 at hD0 ⊢;obtain⟨d0,d1,d2,d3,d4,d5,d6,d7,d8,d9,d10,d11,d12,d13⟩:=deed_cells (g:=W0.heap.size) (hD0.at 0 rfl)
 go_wp2_with fail
 refine(hD0.target o hn2).mono ?_;rintro e w1 ⟨rfl,hD1⟩;rw[<-HX.out,<-HBq.out];unfold inoA;clear d0 d1 d2 d3 d4 d5 d6 d7 d8 d9 d10 d11 d12 d13 hD0 HX HBq
 go_upto_region 2 with fail
 obtain⟨u,hu⟩:∃u,u=w1.heap.size:=⟨_,rfl⟩;have hlu:W0.heap.size<u:=by rw[hu];exact heap_lt (hD1.at 0 rfl)
 have hD2:=hD1.alloc (.cells (inoA x) 102) hu.symm;change Code.wp _ _ _ _ (w1.alloc (.cells (inoA x) 102));rw[<-hu];generalize w1.alloc (.cells (inoA x) 102)=w2 at hD2 ⊢;clear hD1 hu;obtain⟨d0,d1,d2,d3,d4,d5,d6,d7,d8,d9,d10,d11,d12,d13⟩:=deed_cells (g:=W0.heap.size) (hD2.at 1 rfl);obtain⟨i0,i1,i2,i3,i4,i5⟩:=ino_cells (g:=u) (hD2.at 0 rfl);have HD2:=Lib.hid hD2;clear hD2;rcases HC.out with ⟨rfl,hgr⟩|⟨rfl,⟨q1,q2⟩,hgr⟩|⟨rfl,hq,hgr⟩
 ·have HR:=Lib.hid hgr;clear hgr HC i0 i1 i2 i3 i4 i5
  go_wp2_with fail
  refine(HD2.out.untie (o.pt,o.pr) o.name hn).mono ?_;rintro e w3 ⟨rfl,hD3⟩;clear d0 d1 d2 d3 d4 d5 d6 d7 d8 d9 d10 d11 d12 d13 HD2;obtain⟨d0,d1,d2,d3,d4,d5,d6,d7,d8,d9,d10,d11,d12,d13⟩:=deed_cells (g:=W0.heap.size) (hD3.at 1 rfl)
  go_wp2_with fail
  refine(hD3.tie (o.tt,o.tr) o.new (o.it,o.ir) hn2).mono ?_;rintro e w4 ⟨rfl,hD4⟩
  go_wp2_with fail
  exact bodyPost_end (results_none rfl _ _ _) rfl ⟨rfl,by rw[HR.out];exact hD4.fin⟩
 ·have HR:=Lib.hid hgr;clear hgr HC
  go_wp2_with fail
  exact bodyPost_ret (results_none rfl _ _ _) rfl ⟨rfl,by rw[HR.out];exact HD2.out.fin⟩
 ·have HR:=Lib.hid hgr;obtain⟨r1,hr1⟩:∃r1,(x.id.1==o.it)=r1:=⟨_,rfl⟩;obtain⟨r2,hr2⟩:∃r2,(x.id.2==o.ir)=r2:=⟨_,rfl⟩;rw[hr1,hr2] at hq;have hr':(r1&&r2)=false:=by rcases hq with q|q<;>rw[q]<;>simp
  clear hgr HC hq
  cases r1<;>cases r2
  case true.true=>cases hr'
  all_goals
   clear hr'
   go_wp2_with fail
   refine(HD2.out.remove o (o.tt,o.tr) o.new hn2).mono ?_;rintro e w3 ⟨rfl,hD3⟩;clear d0 d1 d2 d3 d4 d5 d6 d7 d8 d9 d10 d11 d12 d13 i0 i1 i2 i3 i4 i5 HD2 hr1 hr2;obtain⟨d0,d1,d2,d3,d4,d5,d6,d7,d8,d9,d10,d11,d12,d13⟩:=deed_cells (g:=W0.heap.size) (hD3.at 1 rfl)
   go_wp2_with fail
   refine(hD3.untie (o.pt,o.pr) o.name hn).mono ?_;rintro e w4 ⟨rfl,hD4⟩;clear d0 d1 d2 d3 d4 d5 d6 d7 d8 d9 d10 d11 d12 d13 hD3;obtain⟨d0,d1,d2,d3,d4,d5,d6,d7,d8,d9,d10,d11,d12,d13⟩:=deed_cells (g:=W0.heap.size) (hD4.at 1 rfl)
   go_wp2_with fail
   refine(hD4.tie (o.tt,o.tr) o.new (o.it,o.ir) hn2).mono ?_;rintro e w5 ⟨rfl,hD5⟩
   go_wp2_with fail
   exact bodyPost_end (results_none rfl _ _ _) rfl ⟨rfl,by rw[HR.out];exact hD5.fin⟩
theorem ino_store5{W:World}{u:Nat}{x:Ino}{T:TypeId}(h:W.heap[u]?=some (.cells (inoA x) T (0,0)))(d:ByteArray):(W.setCell ⟨u,5,none⟩ (.string d)).heap[u]?=some (.cells (inoA {x with data:=d}) T (0,0)):=by
 rw[heap_setCell_same _ _ _ _ _ _ h]
 rfl
theorem ino_store4{W:World}{u:Nat}{x:Ino}{T:TypeId}(h:W.heap[u]?=some (.cells (inoA x) T (0,0)))(m:Int):(W.setCell ⟨u,4,none⟩ (.int .i64 m)).heap[u]?=some (.cells (inoA {x with mode:=m}) T (0,0)):=by
 rw[heap_setCell_same _ _ _ _ _ _ h]
 rfl
theorem but_cell(W:World)(u i:Nat)(v:Value):But (fun k=>k=u) W (W.setCell ⟨u,i,none⟩ v):=(But.refl (fun k=>k=u) W).setCell (p:=⟨u,i,none⟩) (Or.inl rfl) v
set_option maxRecDepth 100000 in
set_option maxHeartbeats 1600000 in
theorem set_code'(H:GraphHave)(XH:ExtentHave)(w W0:World)(N:Nat->Prop)(a:Addr)(g:Gr)(o:Opn)(h:GX H w W0 N a g)(hf:g.fine)(hw:whyA g o=0)(ho:OpFit o)(hk:8<=o.k)(hk10:o.k<=10):
  Calls Tryz.prog 123 #[.agg (deedA a o)] W0 (Did H w W0 N a (madeA g o)):=by
 have hm:=whyA_may hw;have hid:=kept_id h.ok hw hk hk10;have hD0:=(DX.start h).alloc (.cells (deedA a o) 133) rfl;have hsz:=inoG_small hf (oIno o);obtain⟨x,hx⟩:∃x,x=inoG g (oIno o):=⟨_,rfl⟩;have hcase:((o.k==8)=true/\o.data.size<=2000/\madeA g o=(setG g (oIno o) x.mode (wR x.data o.off o.data).1).1)\/((o.k==8)=false/\(o.k==9)=true/\madeA g o=(setG g (oIno o) x.mode (tR x.data o.off).1).1)\/
   ((o.k==8)=false/\(o.k==9)=false/\(o.k==10)=true/\madeA g o=(setG g (oIno o) o.off x.data).1):=by
  rw[hx];rcases show o.k=8\/o.k=9\/o.k=10 by omega with q|q|q
  ·exact Or.inl ⟨by rw[q];rfl,by have:=data_small hm q;omega,write_made hf hm q⟩
  ·exact Or.inr (Or.inl ⟨by rw[q];rfl,by rw[q];rfl,trunc_made hf hm q⟩)
  ·exact Or.inr (Or.inr ⟨by rw[q];rfl,by rw[q];rfl,by rw[q];rfl,mode_made q⟩)
 rw[<-hx] at hid hsz;have hxd:x.data.size<=2000:=by omega
 have HC:=Lib.hid hcase;have HX:=Lib.hid hx;have HF:=Lib.hid ho;have HI:=Lib.hid hid;generalize madeA g o=gr at HC ⊢;clear hcase hx h hf hw hk hk10 hm hsz ho hid;unfold Did
 go_enter Tryz.func123,Tryz.ntmps123
 go_upto_region 1 with fail
 change Code.wp _ _ _ _ (W0.alloc (.cells (deedA a o) 133));generalize W0.alloc (.cells (deedA a o) 133)=w0 at hD0 ⊢;obtain⟨d0,d1,d2,d3,d4,d5,d6,d7,d8,d9,d10,d11,d12,d13⟩:=deed_cells (g:=W0.heap.size) (hD0.at 0 rfl)
 go_wp2_with fail
 refine(hD0.get (o.it,o.ir)).mono ?_;rintro e w1 ⟨rfl,hD1⟩;rw[show(getG g (o.it,o.ir)).getD noIno=x from HX.out.symm];unfold inoA;generalize (getG g (o.it,o.ir)).isSome=is;clear d0 d1 d2 d3 d4 d5 d6 d7 d8 d9 d10 d11 d12 d13 hD0 HX
 go_upto_region 2 with fail
 obtain⟨u,hu⟩:∃u,u=w1.heap.size:=⟨_,rfl⟩;have hlu:W0.heap.size<u:=by rw[hu];exact heap_lt (hD1.at 0 rfl)
 have hD2:=hD1.alloc (.cells (inoA x) 102) hu.symm;change Code.wp _ _ _ _ (w1.alloc (.cells (inoA x) 102));rw[<-hu];generalize w1.alloc (.cells (inoA x) 102)=w2 at hD2 ⊢;clear hD1 hu;obtain⟨d0,d1,d2,d3,d4,d5,d6,d7,d8,d9,d10,d11,d12,d13⟩:=deed_cells (g:=W0.heap.size) (hD2.at 1 rfl);obtain⟨i0,i1,i2,i3,i4,i5⟩:=ino_cells (g:=u) (hD2.at 0 rfl);obtain⟨f0,f1,f2,f3,f4,f5⟩:=ino_free (g:=u) (hD2.at 0 rfl);have HD2:=Lib.hid hD2;clear hD2;rcases HC.out with ⟨k8,hds,hgr⟩|⟨k8,k9,hgr⟩|⟨k8,k9,k10,hgr⟩
 ·have HR:=Lib.hid hgr;clear hgr HC
  go_wp2_with fail
  refine(XH.write x.data o.off o.data _ hxd hds HF.out.ok.off).mono ?_;rintro e w3 ⟨rfl,hb3⟩;have hD3:=HD2.out.step hb3;obtain⟨dd,hdd⟩:∃dd,dd=(wR x.data o.off o.data).1:=⟨_,rfl⟩;generalize (wR x.data o.off o.data).2=er;rw[<-hdd] at HR ⊢;clear d0 d1 d2 d3 d4 d5 d6 d7 d8 d9 d10 d11 d12 d13 i0 i1 i2 i3 i4 i5 f0 f1 f2 f3 f4 f5 HD2 hb3 hdd;obtain⟨i0,i1,i2,i3,i4,i5⟩:=ino_cells (g:=u) (hD3.at 0 rfl);obtain⟨f0,f1,f2,f3,f4,f5⟩:=ino_free (g:=u) (hD3.at 0 rfl);have hD4:=hD3.put (fun p hp=>by simp at hp;rw[hp];dsimp only;omega) (but_cell w3 u 5 (.string dd)) (ino_store5 (hD3.at 0 rfl) dd);have HD4:=Lib.hid hD4;clear hD3 hD4
  go_upto_region 9 with fail
  change Code.wp _ _ _ _ (w3.setCell ⟨u,5,none⟩ (.string dd));generalize w3.setCell ⟨u,5,none⟩ (.string dd)=w4 at HD4 ⊢;clear i0 i1 i2 i3 i4 i5 f0 f1 f2 f3 f4 f5;obtain⟨d0,d1,d2,d3,d4,d5,d6,d7,d8,d9,d10,d11,d12,d13⟩:=deed_cells (g:=W0.heap.size) (HD4.out.at 1 rfl);obtain⟨i0,i1,i2,i3,i4,i5⟩:=ino_cells (g:=u) (HD4.out.at 0 rfl);dsimp only at i0 i1 i2 i3 i4 i5
  go_wp2_with fail
  refine(HD4.out.set x.id x.mode dd).mono ?_;rintro e w5 ⟨rfl,hD5⟩;rw[HI.out] at hD5
  go_wp2_with fail
  exact bodyPost_end (results_none rfl _ _ _) rfl ⟨rfl,by rw[HR.out];exact hD5.fin⟩
 ·have HR:=Lib.hid hgr;clear hgr HC
  go_wp2_with fail
  refine(XH.trunc x.data o.off _ hxd HF.out.ok.off).mono ?_;rintro e w3 ⟨rfl,hb3⟩;have hD3:=HD2.out.step hb3;obtain⟨dd,hdd⟩:∃dd,dd=(tR x.data o.off).1:=⟨_,rfl⟩;generalize (tR x.data o.off).2=er;rw[<-hdd] at HR ⊢;clear d0 d1 d2 d3 d4 d5 d6 d7 d8 d9 d10 d11 d12 d13 i0 i1 i2 i3 i4 i5 f0 f1 f2 f3 f4 f5 HD2 hb3 hdd;obtain⟨i0,i1,i2,i3,i4,i5⟩:=ino_cells (g:=u) (hD3.at 0 rfl);obtain⟨f0,f1,f2,f3,f4,f5⟩:=ino_free (g:=u) (hD3.at 0 rfl);have hD4:=hD3.put (fun p hp=>by simp at hp;rw[hp];dsimp only;omega) (but_cell w3 u 5 (.string dd)) (ino_store5 (hD3.at 0 rfl) dd);have HD4:=Lib.hid hD4;clear hD3 hD4
  go_upto_region 9 with fail
  change Code.wp _ _ _ _ (w3.setCell ⟨u,5,none⟩ (.string dd));generalize w3.setCell ⟨u,5,none⟩ (.string dd)=w4 at HD4 ⊢;clear i0 i1 i2 i3 i4 i5 f0 f1 f2 f3 f4 f5;obtain⟨d0,d1,d2,d3,d4,d5,d6,d7,d8,d9,d10,d11,d12,d13⟩:=deed_cells (g:=W0.heap.size) (HD4.out.at 1 rfl);obtain⟨i0,i1,i2,i3,i4,i5⟩:=ino_cells (g:=u) (HD4.out.at 0 rfl);dsimp only at i0 i1 i2 i3 i4 i5
  go_wp2_with fail
  refine(HD4.out.set x.id x.mode dd).mono ?_;rintro e w5 ⟨rfl,hD5⟩;rw[HI.out] at hD5
  go_wp2_with fail
  exact bodyPost_end (results_none rfl _ _ _) rfl ⟨rfl,by rw[HR.out];exact hD5.fin⟩
 ·have HR:=Lib.hid hgr;have hD4:=HD2.out.put (fun p hp=>by simp at hp;rw[hp];dsimp only;omega) (but_cell w2 u 4 (.int .i64 o.off)) (ino_store4 (HD2.out.at 0 rfl) o.off);have HD4:=Lib.hid hD4;clear hgr HC HD2 hD4
  go_upto_region 9 with fail
  change Code.wp _ _ _ _ (w2.setCell ⟨u,4,none⟩ (.int .i64 o.off));generalize w2.setCell ⟨u,4,none⟩ (.int .i64 o.off)=w4 at HD4 ⊢;clear d0 d1 d2 d3 d4 d5 d6 d7 d8 d9 d10 d11 d12 d13 i0 i1 i2 i3 i4 i5 f0 f1 f2 f3 f4 f5;obtain⟨d0,d1,d2,d3,d4,d5,d6,d7,d8,d9,d10,d11,d12,d13⟩:=deed_cells (g:=W0.heap.size) (HD4.out.at 1 rfl);obtain⟨i0,i1,i2,i3,i4,i5⟩:=ino_cells (g:=u) (HD4.out.at 0 rfl);dsimp only at i0 i1 i2 i3 i4 i5
  go_wp2_with fail
  refine(HD4.out.set x.id o.off x.data).mono ?_;rintro e w5 ⟨rfl,hD5⟩;rw[HI.out] at hD5
  go_wp2_with fail
  exact bodyPost_end (results_none rfl _ _ _) rfl ⟨rfl,by rw[HR.out];exact hD5.fin⟩
set_option maxRecDepth 100000 in
theorem whyBad(a:Addr)(g:Gr)(o:Opn)(w:World)[Tab w](hm:mayO o=false)(hf:OpFit o):
  Calls Tryz.prog 87 #[.pointer (some a),.agg (opA o)] w fun e w'=>e=.returned (.int .i64 (whyA g o))/\Below w.heap.size w w':=by
 have hw:whyA g o=1:=by unfold whyA;rw[if_pos hm]
 rw[hw];have HM:Hid (∀(W:World)[Tab W],Calls Tryz.prog 60 #[.agg #[.int .i64 o.st,.int .i64 o.sr,.int .i64 o.k,.int .i64 o.pt,.int .i64 o.pr,.int .i64 o.it,.int .i64 o.ir,.int .i64 o.tt,.int .i64 o.tr,.string o.name,.string o.new,.int .i64 o.off,.string o.data]] W fun e w'=>e=.returned (.bool false)/\Below W.heap.size W w'):=Lib.hid fun W _=>by rw[<-hm];exact opMay_any o W hf.ok hf.name hf.new hf.data
 have hS0:Held w [(w.heap.size,.cells (opA o) 37 (0,0))] (w.alloc (.cells (opA o) 37)):=(Held.refl w).alloc (.cells (opA o) 37) rfl;have i0:Tab (w.alloc (.cells (opA o) 37)):=inferInstance;clear hm hf hw;unfold opA
 go_enter Tryz.func87,Tryz.ntmps87
 go_upto_region 1 with fail
 change Code.wp _ _ _ _ (w.alloc (.cells (opA o) 37));generalize w.alloc (.cells (opA o) 37)=w0 at hS0 i0 ⊢;obtain⟨e0,e1,e2,e3,e4,e5,e6,e7,e8,e9,e10,e11,e12⟩:=op_cells (o:=o) (g:=w.heap.size) (hS0.at 0 rfl)
 go_wp2_with fail
 refine(HM.out _).mono ?_;rintro e w1 ⟨rfl,hb1⟩;have hS1:=hS0.step hb1;clear hS0 hb1 HM
 go_wp2_with fail
 go_ret
 exact⟨rfl,hS1.below⟩
set_option maxRecDepth 100000 in
theorem whyNil(o:Opn)(w:World):
  Calls Tryz.prog 87 #[.pointer none,.agg (opA o)] w fun e w'=>e=.returned (.int .i64 1)/\Below w.heap.size w w':=by
 unfold opA
 go_enter Tryz.func87,Tryz.ntmps87
 go_wp2_with fail
 go_ret
 exact⟨rfl,(Below.refl _ _).alloc (Nat.le_refl _) _⟩
theorem why_code(H:GraphHave)(a:Addr)(S:Nat->Prop)(g:Gr)(o:Opn)(w:World)[Tab w](h:H.rep w S a g)(hg:g.ok)(hf:OpFit o):
  Calls Tryz.prog 87 #[.pointer (some a),.agg (opA o)] w fun e w'=>e=.returned (.int .i64 (whyA g o))/\Below w.heap.size w w':=by
 cases hm:mayO o with
 |true=>exact whyGood H a S g o w h hg hm hf
 |false=>exact whyBad a g o w hm hf
section
variable {H:GraphHave}{w W0 W:World}{N:Nat->Prop}{a:Addr}{g:Gr}{L:List (Nat×Obj)}
theorem DX.did(h:DX H w W0 W N a g L){f:FuncId}{args:Array Value}{g':Gr}(k:Calls Tryz.prog f args W (Did H w W (fun i=>N i\/∃p∈L,p.1=i) a g')):
  Calls Tryz.prog f args W fun e w'=>e=.returned (.tuple #[])/\DX H w W0 w' N a g' L:=k.mono fun _ _ ⟨he,q⟩=>⟨he,h.call q⟩
end
set_option maxRecDepth 100000 in
set_option maxHeartbeats 3200000 in
theorem change_code(H:GraphHave)(XH:ExtentHave)(w W0:World)(N:Nat->Prop)(a:Addr)(g:Gr)(o:Opn)(h:GX H w W0 N a g)(hf:g.fine)(hw:whyA g o=0)(ho:OpFit o):
  Calls Tryz.prog 88 #[.agg (deedA a o)] W0 (Did H w W0 N a (madeA g o)):=by
 have hm:=whyA_may hw;obtain⟨p1,p2,_⟩:=mayO_parts hm;have hD0:=(DX.start h).alloc (.cells (deedA a o) 133) rfl;have HP:=Lib.hid (And.intro hf (And.intro hw ho));clear hf hw ho hm h;unfold Did;rcases show o.k=1\/o.k=2\/o.k=3\/o.k=4\/o.k=5\/o.k=6\/o.k=7\/o.k=8\/o.k=9\/o.k=10 by omega with q|q|q|q|q|q|q|q|q|q
 ·-- kind 1
  have HK:Hid (∀W,DX H w W0 W N a g [(W0.heap.size,.cells (deedA a o) 133)]->Calls Tryz.prog 120 #[.agg (deedA a o)] W fun e w'=>e=.returned (.tuple #[])/\DX H w W0 w' N a (madeA g o) [(W0.heap.size,.cells (deedA a o) 133)]):=Lib.hid fun W hW=>hW.did (add_code H w W _ a g o hW.gx HP.out.2.2.name (by omega) (by omega));have k1:(o.k==1)=true:=by rw[q];rfl
  have k2:(o.k==2)=false:=by rw[q];rfl
  have k3:(o.k==3)=false:=by rw[q];rfl
  have k4:(o.k==4)=false:=by rw[q];rfl
  have k5:(o.k==5)=false:=by rw[q];rfl
  have k6:(o.k==6)=false:=by rw[q];rfl
  have k7:(o.k==7)=false:=by rw[q];rfl
  have k8:(o.k==8)=false:=by rw[q];rfl
  have k9:(o.k==9)=false:=by rw[q];rfl
  have k10:(o.k==10)=false:=by rw[q];rfl
  clear q p1 p2 HP
  go_enter Tryz.func88,Tryz.ntmps88
  go_upto_region 1 with fail
  change Code.wp _ _ _ _ (W0.alloc (.cells (deedA a o) 133));generalize W0.alloc (.cells (deedA a o) 133)=w0 at hD0 ⊢;obtain⟨d0,d1,d2,d3,d4,d5,d6,d7,d8,d9,d10,d11,d12,d13⟩:=deed_cells (g:=W0.heap.size) (hD0.at 0 rfl)
  go_wp2_with fail
  refine(HK.out _ hD0).mono ?_;rintro e w1 ⟨rfl,hD1⟩
  go_wp2_with fail
  exact bodyPost_end (results_none rfl _ _ _) rfl ⟨rfl,hD1.fin⟩
 ·-- kind 2
  have HK:Hid (∀W,DX H w W0 W N a g [(W0.heap.size,.cells (deedA a o) 133)]->Calls Tryz.prog 120 #[.agg (deedA a o)] W fun e w'=>e=.returned (.tuple #[])/\DX H w W0 w' N a (madeA g o) [(W0.heap.size,.cells (deedA a o) 133)]):=Lib.hid fun W hW=>hW.did (add_code H w W _ a g o hW.gx HP.out.2.2.name (by omega) (by omega));have k1:(o.k==1)=false:=by rw[q];rfl
  have k2:(o.k==2)=true:=by rw[q];rfl
  have k3:(o.k==3)=false:=by rw[q];rfl
  have k4:(o.k==4)=false:=by rw[q];rfl
  have k5:(o.k==5)=false:=by rw[q];rfl
  have k6:(o.k==6)=false:=by rw[q];rfl
  have k7:(o.k==7)=false:=by rw[q];rfl
  have k8:(o.k==8)=false:=by rw[q];rfl
  have k9:(o.k==9)=false:=by rw[q];rfl
  have k10:(o.k==10)=false:=by rw[q];rfl
  clear q p1 p2 HP
  go_enter Tryz.func88,Tryz.ntmps88
  go_upto_region 1 with fail
  change Code.wp _ _ _ _ (W0.alloc (.cells (deedA a o) 133));generalize W0.alloc (.cells (deedA a o) 133)=w0 at hD0 ⊢;obtain⟨d0,d1,d2,d3,d4,d5,d6,d7,d8,d9,d10,d11,d12,d13⟩:=deed_cells (g:=W0.heap.size) (hD0.at 0 rfl)
  go_wp2_with fail
  refine(HK.out _ hD0).mono ?_;rintro e w1 ⟨rfl,hD1⟩
  go_wp2_with fail
  exact bodyPost_end (results_none rfl _ _ _) rfl ⟨rfl,hD1.fin⟩
 ·-- kind 3
  have HK:Hid (∀W,DX H w W0 W N a g [(W0.heap.size,.cells (deedA a o) 133)]->Calls Tryz.prog 120 #[.agg (deedA a o)] W fun e w'=>e=.returned (.tuple #[])/\DX H w W0 w' N a (madeA g o) [(W0.heap.size,.cells (deedA a o) 133)]):=Lib.hid fun W hW=>hW.did (add_code H w W _ a g o hW.gx HP.out.2.2.name (by omega) (by omega));have k1:(o.k==1)=false:=by rw[q];rfl
  have k2:(o.k==2)=false:=by rw[q];rfl
  have k3:(o.k==3)=true:=by rw[q];rfl
  have k4:(o.k==4)=false:=by rw[q];rfl
  have k5:(o.k==5)=false:=by rw[q];rfl
  have k6:(o.k==6)=false:=by rw[q];rfl
  have k7:(o.k==7)=false:=by rw[q];rfl
  have k8:(o.k==8)=false:=by rw[q];rfl
  have k9:(o.k==9)=false:=by rw[q];rfl
  have k10:(o.k==10)=false:=by rw[q];rfl
  clear q p1 p2 HP
  go_enter Tryz.func88,Tryz.ntmps88
  go_upto_region 1 with fail
  change Code.wp _ _ _ _ (W0.alloc (.cells (deedA a o) 133));generalize W0.alloc (.cells (deedA a o) 133)=w0 at hD0 ⊢;obtain⟨d0,d1,d2,d3,d4,d5,d6,d7,d8,d9,d10,d11,d12,d13⟩:=deed_cells (g:=W0.heap.size) (hD0.at 0 rfl)
  go_wp2_with fail
  refine(HK.out _ hD0).mono ?_;rintro e w1 ⟨rfl,hD1⟩
  go_wp2_with fail
  exact bodyPost_end (results_none rfl _ _ _) rfl ⟨rfl,hD1.fin⟩
 ·-- kind 4
  have HE:=Lib.hid (link_made (g:=g) q);have HK:Hid (∀W,DX H w W0 W N a g [(W0.heap.size,.cells (deedA a o) 133)]->Calls Tryz.prog 110 #[.pointer (some a),.agg #[.int .i64 o.pt,.int .i64 o.pr,.string o.name,.int .i64 o.it,.int .i64 o.ir]] W fun e w'=>e=.returned (.int .i64 (tieG (nameB o.name) g ⟨oAt o,o.name,oIno o⟩).2)/\DX H w W0 w' N a (tieG (nameB o.name) g ⟨oAt o,o.name,oIno o⟩).1 [(W0.heap.size,.cells (deedA a o) 133)]):=Lib.hid fun W hW=>hW.tie (o.pt,o.pr) o.name (o.it,o.ir) HP.out.2.2.name;generalize (tieG (nameB o.name) g ⟨oAt o,o.name,oIno o⟩).2=er at HK;have k1:(o.k==1)=false:=by rw[q];rfl
  have k2:(o.k==2)=false:=by rw[q];rfl
  have k3:(o.k==3)=false:=by rw[q];rfl
  have k4:(o.k==4)=true:=by rw[q];rfl
  have k5:(o.k==5)=false:=by rw[q];rfl
  have k6:(o.k==6)=false:=by rw[q];rfl
  have k7:(o.k==7)=false:=by rw[q];rfl
  have k8:(o.k==8)=false:=by rw[q];rfl
  have k9:(o.k==9)=false:=by rw[q];rfl
  have k10:(o.k==10)=false:=by rw[q];rfl
  clear q p1 p2 HP
  go_enter Tryz.func88,Tryz.ntmps88
  go_upto_region 1 with fail
  change Code.wp _ _ _ _ (W0.alloc (.cells (deedA a o) 133));generalize W0.alloc (.cells (deedA a o) 133)=w0 at hD0 ⊢;obtain⟨d0,d1,d2,d3,d4,d5,d6,d7,d8,d9,d10,d11,d12,d13⟩:=deed_cells (g:=W0.heap.size) (hD0.at 0 rfl)
  go_wp2_with fail
  refine(HK.out _ hD0).mono ?_;rintro e w1 ⟨rfl,hD1⟩
  go_wp2_with fail
  exact bodyPost_end (results_none rfl _ _ _) rfl ⟨rfl,by rw[HE.out];exact hD1.fin⟩
 ·-- kind 5
  have HE:=Lib.hid (take_made (g:=g) (show o.k=5\/o.k=6 by omega));have HK:Hid (∀W,DX H w W0 W N a g [(W0.heap.size,.cells (deedA a o) 133)]->Calls Tryz.prog 121 #[.agg (deedA a o),.agg #[.int .i64 o.pt,.int .i64 o.pr],.string o.name] W fun e w'=>e=.returned (.tuple #[])/\DX H w W0 w' N a (goneG g (oAt o) o.name) [(W0.heap.size,.cells (deedA a o) 133)]):=Lib.hid fun W hW=>hW.did (remove_code H w W _ a g o (o.pt,o.pr) o.name hW.gx HP.out.2.2.name);have k1:(o.k==1)=false:=by rw[q];rfl
  have k2:(o.k==2)=false:=by rw[q];rfl
  have k3:(o.k==3)=false:=by rw[q];rfl
  have k4:(o.k==4)=false:=by rw[q];rfl
  have k5:(o.k==5)=true:=by rw[q];rfl
  have k6:(o.k==6)=false:=by rw[q];rfl
  have k7:(o.k==7)=false:=by rw[q];rfl
  have k8:(o.k==8)=false:=by rw[q];rfl
  have k9:(o.k==9)=false:=by rw[q];rfl
  have k10:(o.k==10)=false:=by rw[q];rfl
  clear q p1 p2 HP
  go_enter Tryz.func88,Tryz.ntmps88
  go_upto_region 1 with fail
  change Code.wp _ _ _ _ (W0.alloc (.cells (deedA a o) 133));generalize W0.alloc (.cells (deedA a o) 133)=w0 at hD0 ⊢;obtain⟨d0,d1,d2,d3,d4,d5,d6,d7,d8,d9,d10,d11,d12,d13⟩:=deed_cells (g:=W0.heap.size) (hD0.at 0 rfl)
  go_wp2_with fail
  refine(HK.out _ hD0).mono ?_;rintro e w1 ⟨rfl,hD1⟩
  go_wp2_with fail
  exact bodyPost_end (results_none rfl _ _ _) rfl ⟨rfl,by rw[HE.out];exact hD1.fin⟩
 ·-- kind 6
  have HE:=Lib.hid (take_made (g:=g) (show o.k=5\/o.k=6 by omega));have HK:Hid (∀W,DX H w W0 W N a g [(W0.heap.size,.cells (deedA a o) 133)]->Calls Tryz.prog 121 #[.agg (deedA a o),.agg #[.int .i64 o.pt,.int .i64 o.pr],.string o.name] W fun e w'=>e=.returned (.tuple #[])/\DX H w W0 w' N a (goneG g (oAt o) o.name) [(W0.heap.size,.cells (deedA a o) 133)]):=Lib.hid fun W hW=>hW.did (remove_code H w W _ a g o (o.pt,o.pr) o.name hW.gx HP.out.2.2.name);have k1:(o.k==1)=false:=by rw[q];rfl
  have k2:(o.k==2)=false:=by rw[q];rfl
  have k3:(o.k==3)=false:=by rw[q];rfl
  have k4:(o.k==4)=false:=by rw[q];rfl
  have k5:(o.k==5)=false:=by rw[q];rfl
  have k6:(o.k==6)=true:=by rw[q];rfl
  have k7:(o.k==7)=false:=by rw[q];rfl
  have k8:(o.k==8)=false:=by rw[q];rfl
  have k9:(o.k==9)=false:=by rw[q];rfl
  have k10:(o.k==10)=false:=by rw[q];rfl
  clear q p1 p2 HP
  go_enter Tryz.func88,Tryz.ntmps88
  go_upto_region 1 with fail
  change Code.wp _ _ _ _ (W0.alloc (.cells (deedA a o) 133));generalize W0.alloc (.cells (deedA a o) 133)=w0 at hD0 ⊢;obtain⟨d0,d1,d2,d3,d4,d5,d6,d7,d8,d9,d10,d11,d12,d13⟩:=deed_cells (g:=W0.heap.size) (hD0.at 0 rfl)
  go_wp2_with fail
  refine(HK.out _ hD0).mono ?_;rintro e w1 ⟨rfl,hD1⟩
  go_wp2_with fail
  exact bodyPost_end (results_none rfl _ _ _) rfl ⟨rfl,by rw[HE.out];exact hD1.fin⟩
 ·-- kind 7
  have HK:Hid (∀W,DX H w W0 W N a g [(W0.heap.size,.cells (deedA a o) 133)]->Calls Tryz.prog 122 #[.agg (deedA a o)] W fun e w'=>e=.returned (.tuple #[])/\DX H w W0 w' N a (madeA g o) [(W0.heap.size,.cells (deedA a o) 133)]):=Lib.hid fun W hW=>hW.did (rename_code H w W _ a g o hW.gx HP.out.2.2.name HP.out.2.2.new q);have k1:(o.k==1)=false:=by rw[q];rfl
  have k2:(o.k==2)=false:=by rw[q];rfl
  have k3:(o.k==3)=false:=by rw[q];rfl
  have k4:(o.k==4)=false:=by rw[q];rfl
  have k5:(o.k==5)=false:=by rw[q];rfl
  have k6:(o.k==6)=false:=by rw[q];rfl
  have k7:(o.k==7)=true:=by rw[q];rfl
  have k8:(o.k==8)=false:=by rw[q];rfl
  have k9:(o.k==9)=false:=by rw[q];rfl
  have k10:(o.k==10)=false:=by rw[q];rfl
  clear q p1 p2 HP
  go_enter Tryz.func88,Tryz.ntmps88
  go_upto_region 1 with fail
  change Code.wp _ _ _ _ (W0.alloc (.cells (deedA a o) 133));generalize W0.alloc (.cells (deedA a o) 133)=w0 at hD0 ⊢;obtain⟨d0,d1,d2,d3,d4,d5,d6,d7,d8,d9,d10,d11,d12,d13⟩:=deed_cells (g:=W0.heap.size) (hD0.at 0 rfl)
  go_wp2_with fail
  refine(HK.out _ hD0).mono ?_;rintro e w1 ⟨rfl,hD1⟩
  go_wp2_with fail
  exact bodyPost_end (results_none rfl _ _ _) rfl ⟨rfl,hD1.fin⟩
 ·-- kind 8
  have HK:Hid (∀W,DX H w W0 W N a g [(W0.heap.size,.cells (deedA a o) 133)]->Calls Tryz.prog 123 #[.agg (deedA a o)] W fun e w'=>e=.returned (.tuple #[])/\DX H w W0 w' N a (madeA g o) [(W0.heap.size,.cells (deedA a o) 133)]):=Lib.hid fun W hW=>hW.did (set_code' H XH w W _ a g o hW.gx HP.out.1 HP.out.2.1 HP.out.2.2 (by omega) (by omega));have k1:(o.k==1)=false:=by rw[q];rfl
  have k2:(o.k==2)=false:=by rw[q];rfl
  have k3:(o.k==3)=false:=by rw[q];rfl
  have k4:(o.k==4)=false:=by rw[q];rfl
  have k5:(o.k==5)=false:=by rw[q];rfl
  have k6:(o.k==6)=false:=by rw[q];rfl
  have k7:(o.k==7)=false:=by rw[q];rfl
  have k8:(o.k==8)=true:=by rw[q];rfl
  have k9:(o.k==9)=false:=by rw[q];rfl
  have k10:(o.k==10)=false:=by rw[q];rfl
  clear q p1 p2 HP
  go_enter Tryz.func88,Tryz.ntmps88
  go_upto_region 1 with fail
  change Code.wp _ _ _ _ (W0.alloc (.cells (deedA a o) 133));generalize W0.alloc (.cells (deedA a o) 133)=w0 at hD0 ⊢;obtain⟨d0,d1,d2,d3,d4,d5,d6,d7,d8,d9,d10,d11,d12,d13⟩:=deed_cells (g:=W0.heap.size) (hD0.at 0 rfl)
  go_wp2_with fail
  refine(HK.out _ hD0).mono ?_;rintro e w1 ⟨rfl,hD1⟩
  go_wp2_with fail
  exact bodyPost_end (results_none rfl _ _ _) rfl ⟨rfl,hD1.fin⟩
 ·-- kind 9
  have HK:Hid (∀W,DX H w W0 W N a g [(W0.heap.size,.cells (deedA a o) 133)]->Calls Tryz.prog 123 #[.agg (deedA a o)] W fun e w'=>e=.returned (.tuple #[])/\DX H w W0 w' N a (madeA g o) [(W0.heap.size,.cells (deedA a o) 133)]):=Lib.hid fun W hW=>hW.did (set_code' H XH w W _ a g o hW.gx HP.out.1 HP.out.2.1 HP.out.2.2 (by omega) (by omega));have k1:(o.k==1)=false:=by rw[q];rfl
  have k2:(o.k==2)=false:=by rw[q];rfl
  have k3:(o.k==3)=false:=by rw[q];rfl
  have k4:(o.k==4)=false:=by rw[q];rfl
  have k5:(o.k==5)=false:=by rw[q];rfl
  have k6:(o.k==6)=false:=by rw[q];rfl
  have k7:(o.k==7)=false:=by rw[q];rfl
  have k8:(o.k==8)=false:=by rw[q];rfl
  have k9:(o.k==9)=true:=by rw[q];rfl
  have k10:(o.k==10)=false:=by rw[q];rfl
  clear q p1 p2 HP
  go_enter Tryz.func88,Tryz.ntmps88
  go_upto_region 1 with fail
  change Code.wp _ _ _ _ (W0.alloc (.cells (deedA a o) 133));generalize W0.alloc (.cells (deedA a o) 133)=w0 at hD0 ⊢;obtain⟨d0,d1,d2,d3,d4,d5,d6,d7,d8,d9,d10,d11,d12,d13⟩:=deed_cells (g:=W0.heap.size) (hD0.at 0 rfl)
  go_wp2_with fail
  refine(HK.out _ hD0).mono ?_;rintro e w1 ⟨rfl,hD1⟩
  go_wp2_with fail
  exact bodyPost_end (results_none rfl _ _ _) rfl ⟨rfl,hD1.fin⟩
 ·-- kind 10
  have HK:Hid (∀W,DX H w W0 W N a g [(W0.heap.size,.cells (deedA a o) 133)]->Calls Tryz.prog 123 #[.agg (deedA a o)] W fun e w'=>e=.returned (.tuple #[])/\DX H w W0 w' N a (madeA g o) [(W0.heap.size,.cells (deedA a o) 133)]):=Lib.hid fun W hW=>hW.did (set_code' H XH w W _ a g o hW.gx HP.out.1 HP.out.2.1 HP.out.2.2 (by omega) (by omega));have k1:(o.k==1)=false:=by rw[q];rfl
  have k2:(o.k==2)=false:=by rw[q];rfl
  have k3:(o.k==3)=false:=by rw[q];rfl
  have k4:(o.k==4)=false:=by rw[q];rfl
  have k5:(o.k==5)=false:=by rw[q];rfl
  have k6:(o.k==6)=false:=by rw[q];rfl
  have k7:(o.k==7)=false:=by rw[q];rfl
  have k8:(o.k==8)=false:=by rw[q];rfl
  have k9:(o.k==9)=false:=by rw[q];rfl
  have k10:(o.k==10)=true:=by rw[q];rfl
  clear q p1 p2 HP
  go_enter Tryz.func88,Tryz.ntmps88
  go_upto_region 1 with fail
  change Code.wp _ _ _ _ (W0.alloc (.cells (deedA a o) 133));generalize W0.alloc (.cells (deedA a o) 133)=w0 at hD0 ⊢;obtain⟨d0,d1,d2,d3,d4,d5,d6,d7,d8,d9,d10,d11,d12,d13⟩:=deed_cells (g:=W0.heap.size) (hD0.at 0 rfl)
  go_wp2_with fail
  refine(HK.out _ hD0).mono ?_;rintro e w1 ⟨rfl,hD1⟩
  go_wp2_with fail
  exact bodyPost_end (results_none rfl _ _ _) rfl ⟨rfl,hD1.fin⟩
def bare(w:World):World:={w with heap:=#[]}
theorem bare_gx{H:GraphHave}{a:Addr}{S:Nat->Prop}{g:Gr}{w:World}(h:H.rep w S a g)(hg:g.ok):GX H (bare w) w (fun i=>i<w.heap.size/\¬S i) a g:=
 ⟨⟨S,h,fun _ _=>Nat.zero_le _,fun _ hi=>hi.2⟩,hg,fun _ hi=>hi.1,⟨rfl,rfl,rfl,Nat.zero_le _,fun k hk=>absurd hk (Nat.not_lt_zero k)⟩⟩
theorem gx_bare{H:GraphHave}{a:Addr}{S:Nat->Prop}{g:Gr}{w w':World}(h:GX H (bare w) w' (fun i=>i<w.heap.size/\¬S i) a g/\Same (fun i=>i<w.heap.size/\¬S i) w w'):
  ∃S',H.rep w' S' a g/\(∀i,S' i->S i\/w.heap.size<=i)/\But S w w':=by
 obtain⟨⟨⟨S',h1,_,h3⟩,_,_,h6⟩,h7,h8⟩:=h;refine⟨S',h1,fun i hi=>?_,⟨h6.os,h6.tape,h6.output,h7,fun k hk hn=>h8 k ⟨hk,hn⟩⟩⟩;by_cases q:i<w.heap.size
 ·by_cases z:S i
  ·exact Or.inl z
  ·exact absurd hi (h3 i ⟨q,z⟩)
 ·exact Or.inr (by omega)
set_option maxRecDepth 100000 in
set_option maxHeartbeats 1600000 in
theorem do_core(H:GraphHave)(XH:ExtentHave)(w W0:World)(N:Nat->Prop)(a:Addr)(g:Gr)(o:Opn)[Tab W0](h:GX H w W0 N a g)(hf:g.fine)(ho:OpFit o):
  Calls Tryz.prog 59 #[.pointer (some a),.agg (opA o)] W0 fun e w'=>e=.returned (.int .i64 (doA g o).2)/\GX H w w' N a (doA g o).1/\Same N W0 w':=by
 have hD0:=(DX.start h).alloc (.cells (opA o) 37) rfl;have i0:Tab (W0.alloc (.cells (opA o) 37)):=inferInstance;have HW:Hid (∀(W:World)[Tab W],DX H w W0 W N a g [(W0.heap.size,.cells (opA o) 37)]->Calls Tryz.prog 87 #[.pointer (some a),.agg #[.int .i64 o.st,.int .i64 o.sr,.int .i64 o.k,.int .i64 o.pt,.int .i64 o.pr,.int .i64 o.it,.int .i64 o.ir,.int .i64 o.tt,.int .i64 o.tr,.string o.name,.string o.new,.int .i64 o.off,.string o.data]] W fun e w'=>e=.returned (.int .i64 (whyA g o))/\DX H w W0 w' N a g [(W0.heap.size,.cells (opA o) 37)]):=Lib.hid fun W _ hW=>by
  obtain⟨S,h1,_⟩:=hW.gx.at';exact(why_code H a S g o W h1 hW.ok ho).mono fun _ _ ⟨he,hb⟩=>⟨he,hW.step hb⟩
 by_cases hw:whyA g o=0
 ·have HC:Hid (∀(W:World),DX H w W0 W N a g [(W0.heap.size,.cells (opA o) 37)]->Calls Tryz.prog 88 #[.agg #[.pointer (some a),.int .i64 o.st,.int .i64 o.sr,.int .i64 o.k,.int .i64 o.pt,.int .i64 o.pr,.int .i64 o.it,.int .i64 o.ir,.int .i64 o.tt,.int .i64 o.tr,.string o.name,.string o.new,.int .i64 o.off,.string o.data]] W fun e w'=>e=.returned (.tuple #[])/\DX H w W0 w' N a (madeA g o) [(W0.heap.size,.cells (opA o) 37)]):=Lib.hid fun W hW=>hW.did (change_code H XH w W _ a g o hW.gx hf hw ho);have hdo:doA g o=(madeA g o,0):=by unfold doA;rw[if_pos hw]
  rw[hdo];rw[hw] at HW;clear hdo hw hf ho h;unfold opA
  go_enter Tryz.func59,Tryz.ntmps59
  go_upto_region 1 with fail
  change Code.wp _ _ _ _ (W0.alloc (.cells (opA o) 37));generalize W0.alloc (.cells (opA o) 37)=w0 at hD0 i0 ⊢;obtain⟨e0,e1,e2,e3,e4,e5,e6,e7,e8,e9,e10,e11,e12⟩:=op_cells (o:=o) (g:=W0.heap.size) (hD0.at 0 rfl)
  go_wp2_with fail
  refine(HW.out _ hD0).mono ?_;rintro e w1 ⟨rfl,hD1⟩;clear hD0 i0 HW e0 e1 e2 e3 e4 e5 e6 e7 e8 e9 e10 e11 e12;obtain⟨e0,e1,e2,e3,e4,e5,e6,e7,e8,e9,e10,e11,e12⟩:=op_cells (o:=o) (g:=W0.heap.size) (hD1.at 0 rfl)
  go_wp2_with fail
  refine(HC.out _ hD1).mono ?_;rintro e w2 ⟨rfl,hD2⟩
  go_wp2_with fail
  go_ret
  exact⟨rfl,hD2.fin⟩
 ·have hdo:doA g o=(g,whyA g o):=by unfold doA;rw[if_neg hw]
  rw[hdo];have hz:(whyA g o==0)=false:=beq_eq_false_iff_ne.2 hw;generalize whyA g o=bad at HW hz ⊢;clear hdo hf ho h hw;unfold opA
  go_enter Tryz.func59,Tryz.ntmps59
  go_upto_region 1 with fail
  change Code.wp _ _ _ _ (W0.alloc (.cells (opA o) 37));generalize W0.alloc (.cells (opA o) 37)=w0 at hD0 i0 ⊢;obtain⟨e0,e1,e2,e3,e4,e5,e6,e7,e8,e9,e10,e11,e12⟩:=op_cells (o:=o) (g:=W0.heap.size) (hD0.at 0 rfl)
  go_wp2_with fail
  refine(HW.out _ hD0).mono ?_;rintro e w1 ⟨rfl,hD1⟩
  go_wp2_with fail
  go_ret
  exact⟨rfl,hD1.fin⟩
set_option maxRecDepth 100000 in
theorem do_nil(o:Opn)(w:World):
  Calls Tryz.prog 59 #[.pointer none,.agg (opA o)] w fun e w'=>e=.returned (.int .i64 1)/\Below w.heap.size w w':=by
 have HW:Hid (∀W:World,Calls Tryz.prog 87 #[.pointer none,.agg #[.int .i64 o.st,.int .i64 o.sr,.int .i64 o.k,.int .i64 o.pt,.int .i64 o.pr,.int .i64 o.it,.int .i64 o.ir,.int .i64 o.tt,.int .i64 o.tr,.string o.name,.string o.new,.int .i64 o.off,.string o.data]] W fun e w'=>e=.returned (.int .i64 1)/\Below W.heap.size W w'):=Lib.hid (whyNil o);have hb0:Below w.heap.size w (w.alloc (.cells (opA o) 37)):=(Below.refl _ _).alloc (Nat.le_refl _) _;unfold opA at hb0 ⊢
 go_enter Tryz.func59,Tryz.ntmps59
 go_wp2_with fail
 refine(HW.out _).mono ?_;rintro e w1 ⟨rfl,hb1⟩;have hb2:=below_step hb0 hb1
 go_wp2_with fail
 go_ret
 exact⟨rfl,hb2⟩
end Go.Proofs.YtnnnkaobhkeocaaGreatDoor
namespace Go.Proofs.YtnnnkaobhkeocaaGreatDoor
open Go.RowKit StampMath GraphMath
def stV(x:St):Value:=.agg (stA x)
theorem stV_inj(x y:St)(h:stV x=stV y):x=y:=by
 unfold stV stA at h;simp at h;exact Prod.ext h.1 h.2
theorem checkKey_st(w:World)(em:Bool)(n:Nat)(x:St):(Instr.checkKey em (n+2) 24 (.agg (stA x))).run Tryz.prog w=.ok () w:=by
 refine checkKey_struct (n:=n+1) Tryz.underlying24 w em (stA x) fun f hf=>?_;simp at hf;rcases hf with rfl|rfl
 ·exact⟨by decide,.int .i64 x.1,by unfold stA;go_simp,checkKey_int Tryz.underlying2 w em n x.1⟩
 ·exact⟨by decide,.int .i64 x.2,by unfold stA;go_simp,checkKey_int Tryz.underlying3 w em n x.2⟩
theorem stShape:KShape Tryz.prog 24 stV:=
 KShape.of_equal (by kernel_rfl) stV_inj (fun w x y=>run_eqSt x.1 x.2 y.1 y.2 w) (fun w em x=>checkKey_st w em 9998 x) (fun x=>by
  unfold stV stA;show Instr.sameBits (9999+1) _ _=true
  simp[Instr.sameBits])
def inoV(x:Ino):Value:=.agg (inoA x)
def plV(p:St×ByteArray):Value:=.agg #[.int .i64 p.1.1,.int .i64 p.1.2,.string p.2]
theorem plV_inj(x y:St×ByteArray)(h:plV x=plV y):x=y:=by
 unfold plV at h;simp at h;exact Prod.ext (Prod.ext h.1 h.2.1) h.2.2
theorem run_eqPl(a b:Int)(s:ByteArray)(c d:Int)(u:ByteArray)(W:World):(Op.equalIn 10000 116 (.agg #[.int .i64 a,.int .i64 b,.string s]) (.agg #[.int .i64 c,.int .i64 d,.string u])).run Tryz.prog W=.ok (decide (((a,b),s)=((c,d),u))) W:=by
 go_simp
 by_cases h1:a=c
 ·by_cases h2:b=d
  ·by_cases h3:s=u
   ·simp[h1,h2,h3]
   ·simp[h1,h2,h3];intro h4;exact h3 (bytes_same h4)
  ·simp[h1,h2]
 ·simp[h1]
theorem checkKey_pl(w:World)(em:Bool)(n:Nat)(p:St×ByteArray):(Instr.checkKey em (n+3) 116 (plV p)).run Tryz.prog w=.ok () w:=by
 refine checkKey_struct (n:=n+2) Tryz.underlying116 w em _ fun f hf=>?_;simp at hf;rcases hf with rfl|rfl
 ·exact⟨by decide,.agg (stA p.1),by unfold stA;go_simp,checkKey_st w em n p.1⟩
 ·exact⟨by decide,.string p.2,by go_simp,checkKey_string Tryz.underlying9 w em (n+1) p.2⟩
theorem plShape:KShape Tryz.prog 116 plV:=
 KShape.of_equal (by kernel_rfl) plV_inj (fun w x y=>run_eqPl x.1.1 x.1.2 x.2 y.1.1 y.1.2 y.2 w) (fun w em x=>checkKey_pl w em 9997 x) (fun x=>by
  unfold plV;show Instr.sameBits (9999+1) _ _=true
  simp[Instr.sameBits,MapKept.bytes_beq])
def GIn(W:World)(S:Nat->Prop)(a:Addr)(g:Gr):Prop:=
 ∃b bi be,a=⟨b,0,none⟩/\b≠bi/\b≠be/\bi≠be/\W.heap[b]?=some (.cells #[.map (some bi),.map (some be)] 106 (0,0))/\
  KMap stV inoV W bi (pairsI g)/\KMap plV stV W be (pairsE g)/\∀i,S i↔i=b\/i=bi\/i=be
theorem GIn.lt{W:World}{S:Nat->Prop}{a:Addr}{g:Gr}(h:GIn W S a g):∀i,S i->i<W.heap.size:=by
 obtain⟨b,bi,be,rfl,_,_,_,hb,hi,he,hS⟩:=h;intro i hs;rcases(hS i).1 hs with rfl|rfl|rfl
 ·exact heap_lt hb
 ·exact hi.lt
 ·exact he.lt
theorem GIn.keep{W W':World}{S:Nat->Prop}{a:Addr}{g:Gr}(h:GIn W S a g)(hk:∀i,S i->W'.heap[i]?=W.heap[i]?):GIn W' S a g:=by
 obtain⟨b,bi,be,rfl,h1,h2,h3,hb,hi,he,hS⟩:=h;exact⟨b,bi,be,rfl,h1,h2,h3,(hk b ((hS b).2 (.inl rfl))).trans hb,hi.kept (hk bi ((hS bi).2 (.inr (.inl rfl)))),he.kept (hk be ((hS be).2 (.inr (.inr rfl)))),hS⟩
theorem zeroIno(w:World):(zeroValue 102).run Tryz.prog w=.ok (inoV noIno) w:=by kernel_rfl
theorem zeroSt(w:World):(zeroValue 24).run Tryz.prog w=.ok (stV (0,0)) w:=by kernel_rfl
theorem root_any(w:World):Calls Tryz.prog 65 #[] w fun e w'=>e=.returned (.agg #[.int .i64 0,.int .i64 0])/\Below w.heap.size w w':=by
 go_enter Tryz.func65,Tryz.ntmps65
 go_wp2_with fail
 obtain⟨z0,z1⟩:=two_cells (heap_alloc_new w (.cells #[.int .i64 0,.int .i64 0] 24));exact bodyPost_ret (v:=.agg #[.int .i64 0,.int .i64 0]) (by simp[results,Tryz.results65,go_sem,z0,z1]) rfl ⟨rfl,(Below.refl _ _).alloc (Nat.le_refl _) _⟩
set_option maxRecDepth 100000 in
theorem get_code(a:Addr)(S:Nat->Prop)(g:Gr)(id:St)(w:World)(h:GIn w S a g)(hg:g.ok):
  Calls Tryz.prog 67 #[.pointer (some a),.agg (stA id)] w fun e w'=>e=.returned (.tuple #[.agg (inoA ((getG g id).getD noIno)),.bool (getG g id).isSome])/\Below w.heap.size w w':=by
 obtain⟨b,bi,be,rfl,h1,h2,h3,hb,hi,he,hS⟩:=h;obtain⟨c0,c1⟩:=two_cells hb;obtain⟨ok,hok⟩:∃ok,ok=(getG g id).isSome:=⟨_,rfl⟩;obtain⟨v,hv⟩:∃v,v=(getG g id).getD noIno:=⟨_,rfl⟩;rw[<-hok,<-hv];have hlook:∀W:World,Hid (Below w.heap.size w W)->(Instr.lookup 103 (.map (some bi)) (.agg #[.int .i64 id.1,.int .i64 id.2]) true).run Tryz.prog W=.ok (.tuple #[.agg #[.int .i64 v.id.1,.int .i64 v.id.2,.int .i64 v.kind,.int .i64 v.links,.int .i64 v.mode,.string v.data],.bool ok]) W:=fun W hW=>by
  have hl:=(hi.kept (hW.out.block bi hi.lt)).look stShape Tryz.underlying103 (zeroIno W) id true;rw[look_pairsI hg,if_pos rfl,show((getG g id).map inoV).getD (inoV noIno)=inoV v by rw[hv];cases getG g id<;>rfl,<-hok] at hl;exact hl
 have hlt:=heap_lt hb;have HL:=Lib.hid hlook;clear hi he hb hS hlook hok hv;unfold stA
 go_enter Tryz.func67,Tryz.ntmps67
 go_wp2_with fail
 have hbW:Below w.heap.size w ((w.alloc (.cells #[.int .i64 id.1,.int .i64 id.2] 24)).alloc (.cells #[.int .i64 0,.int .i64 0,.int .i64 0,.int .i64 0,.int .i64 0,.string ⟨#[]⟩] 102)):=((Below.refl _ _).alloc (Nat.le_refl _) _).alloc (by simp) _;have hb1:=(hbW.alloc hbW.size (.cells #[.int .i64 0,.int .i64 0,.int .i64 0,.int .i64 0,.int .i64 0,.string ⟨#[]⟩] 102)).drew;have d0:=(hb1.cell (p:=⟨b,0,none⟩) hlt).trans c0;have hl:=HL.out _ hb1;have c0w:=(hbW.cell (p:=⟨b,0,none⟩) hlt).trans c0;have hl0:=HL.out _ hbW.drew;have HB:=Lib.hid hbW;clear hbW hb1
 go_region
 all_goals clear d0 hl c0w hl0
 all_goals go_wp2_with fail
 all_goals exact bodyPost_ret (v:=.tuple #[.agg (inoA v),.bool ok]) (by simp[results,Tryz.results67,go_sem,inoA]) rfl ⟨rfl,by
  repeat(first|exact Below.refl _ _|apply Below.drew|refine Below.alloc ?_ (by simp<;>omega) _)⟩
theorem nanStr(s:ByteArray)(w:World):Calls Tryz.prog 193 #[.string s] w fun e w'=>e=.returned (.bool false)/\w=w':=by
 go_enter Tryz.func193,Tryz.ntmps193
 go_wp2_with fail
 go_ret
 exact⟨by simp,rfl⟩
set_option maxHeartbeats 400000 in
theorem compareStr(x y:ByteArray)(w:World):Calls Tryz.prog 155 #[.string x,.string y] w fun e w'=>e=.returned (.int .i64 (cmpB x.data.toList y.data.toList))/\w=w':=by
 have hcase:(Op.bytesLess x.toList y.toList=true/\cmpB x.data.toList y.data.toList= -1)\/(Op.bytesLess x.toList y.toList=false/\(x.toList==y.toList)=true/\cmpB x.data.toList y.data.toList=0)\/(Op.bytesLess x.toList y.toList=false/\(x.toList==y.toList)=false/\cmpB x.data.toList y.data.toList=1):=by
  rw[namesLess_eq,ByteArray.toList_eq,ByteArray.toList_eq];unfold cmpB;by_cases h1:x.data.toList<y.data.toList
  ·exact Or.inl ⟨decide_eq_true h1,by rw[if_pos h1]⟩
  ·by_cases h2:x.data.toList=y.data.toList
   ·exact Or.inr (Or.inl ⟨decide_eq_false h1,beq_iff_eq.2 h2,by rw[if_neg h1,if_pos h2]⟩)
   ·exact Or.inr (Or.inr ⟨decide_eq_false h1,beq_eq_false_iff_ne.2 h2,by rw[if_neg h1,if_neg h2]⟩)
 rcases hcase with ⟨h1,h⟩|⟨h1,h2,h⟩|⟨h1,h2,h⟩
 all_goals
  rw[h];clear h
  go_enter Tryz.func155,Tryz.ntmps155
  go_wp2_with fail
  refine(nanStr _ _).mono ?_;rintro e w' ⟨rfl,rfl⟩
  go_wp2_with fail
  refine(nanStr _ _).mono ?_;rintro e w' ⟨rfl,rfl⟩
  go_wp2_with fail
  go_ret
  exact⟨rfl,rfl⟩
theorem cells6_alloc{w W:World}{a b c d a' b':Addr}{u v x y z t:Value}(o:Obj)(h:(W.cell? a=some u/\W.cell? b=some v/\W.cell? c=some x/\W.cell? d=some y/\W.cell? a'=some z/\W.cell? b'=some t)/\Grown w W):
  ((W.alloc o).cell? a=some u/\(W.alloc o).cell? b=some v/\(W.alloc o).cell? c=some x/\(W.alloc o).cell? d=some y/\(W.alloc o).cell? a'=some z/\(W.alloc o).cell? b'=some t)/\Grown w (W.alloc o):=
 ⟨⟨cell_alloc h.1.1,cell_alloc h.1.2.1,cell_alloc h.1.2.2.1,cell_alloc h.1.2.2.2.1,cell_alloc h.1.2.2.2.2.1,cell_alloc h.1.2.2.2.2.2⟩,h.2.alloc o⟩
theorem cells6_later{w W W':World}{a b c d a' b':Addr}{u v x y z t:Value}(hg:Grown W W')(h:(W.cell? a=some u/\W.cell? b=some v/\W.cell? c=some x/\W.cell? d=some y/\W.cell? a'=some z/\W.cell? b'=some t)/\Grown w W):
  (W'.cell? a=some u/\W'.cell? b=some v/\W'.cell? c=some x/\W'.cell? d=some y/\W'.cell? a'=some z/\W'.cell? b'=some t)/\Grown w W':=
 ⟨⟨cell_later hg.1 h.1.1,cell_later hg.1 h.1.2.1,cell_later hg.1 h.1.2.2.1,cell_later hg.1 h.1.2.2.2.1,cell_later hg.1 h.1.2.2.2.2.1,cell_later hg.1 h.1.2.2.2.2.2⟩,h.2.trans hg⟩
theorem cell_two(w:World)(a b:Value)(T:TypeId):
  (w.alloc (.cells #[a,b] T)).cell? ⟨w.heap.size,0,none⟩=some a/\(w.alloc (.cells #[a,b] T)).cell? ⟨w.heap.size,1,none⟩=some b:=
 ⟨cell_of_row _ _ 0 _ _ (0,0) (heap_alloc_new w _),cell_of_row _ _ 1 _ _ (0,0) (heap_alloc_new w _)⟩
set_option maxRecDepth 100000 in
set_option maxHeartbeats 1600000 in
theorem ahead_grown(x y:Ent)(w:World):
    Calls Tryz.prog 117 #[.agg (entA x),.agg (entA y)] w fun e w'=>e=.returned (.int .i64 (aheadI x y))/\Grown w w':=by
  have hv:or2 (cmp x.dir.1 x.dir.2 y.dir.1 y.dir.2) (cmpB x.name.data.toList y.name.data.toList)=aheadI x y:=rfl;obtain⟨⟨xd1,xd2⟩,xn,⟨xi1,xi2⟩⟩:=x;obtain⟨⟨yd1,yd2⟩,yn,⟨yi1,yi2⟩⟩:=y;unfold entA;obtain⟨c,hc⟩:∃c,c=cmp xd1 xd2 yd1 yd2:=⟨_,rfl⟩;obtain⟨k,hk⟩:∃k,k=cmpB xn.data.toList yn.data.toList:=⟨_,rfl⟩;simp only[<-hc,<-hk] at hv;have HC:Hid (∀W:World,Calls Tryz.prog 25 #[.agg #[.int .i64 xd1,.int .i64 xd2],.agg #[.int .i64 yd1,.int .i64 yd2]] W fun e w'=>e=.returned (.int .i64 c)/\Grown W w'):=fun W=>by rw[hc];exact compare_grown _ _ _ _ W
  have HK:Hid (∀W:World,Calls Tryz.prog 155 #[.string xn,.string yn] W fun e w'=>e=.returned (.int .i64 k)/\W=w'):=fun W=>by rw[hk];exact compareStr _ _ W
  have HV:=Lib.hid hv;clear hv hc hk
  go_enter Tryz.func117,Tryz.ntmps117
  go_wp2_with fail
  have hS0:(((w.alloc (.cells #[.int .i64 xd1,.int .i64 xd2,.string xn,.int .i64 xi1,.int .i64 xi2] 126)).alloc (.cells #[.int .i64 yd1,.int .i64 yd2,.string yn,.int .i64 yi1,.int .i64 yi2] 126)).drew.cell? ⟨w.heap.size,0,none⟩=some (.int .i64 xd1)/\((w.alloc (.cells #[.int .i64 xd1,.int .i64 xd2,.string xn,.int .i64 xi1,.int .i64 xi2] 126)).alloc (.cells #[.int .i64 yd1,.int .i64 yd2,.string yn,.int .i64 yi1,.int .i64 yi2] 126)).drew.cell? ⟨w.heap.size,1,none⟩=some (.int .i64 xd2)/\((w.alloc (.cells #[.int .i64 xd1,.int .i64 xd2,.string xn,.int .i64 xi1,.int .i64 xi2] 126)).alloc (.cells #[.int .i64 yd1,.int .i64 yd2,.string yn,.int .i64 yi1,.int .i64 yi2] 126)).drew.cell? ⟨w.heap.size,2,none⟩=some (.string xn)/\((w.alloc (.cells #[.int .i64 xd1,.int .i64 xd2,.string xn,.int .i64 xi1,.int .i64 xi2] 126)).alloc (.cells #[.int .i64 yd1,.int .i64 yd2,.string yn,.int .i64 yi1,.int .i64 yi2] 126)).drew.cell? ⟨w.heap.size+1,0,none⟩=some (.int .i64 yd1)/\((w.alloc (.cells #[.int .i64 xd1,.int .i64 xd2,.string xn,.int .i64 xi1,.int .i64 xi2] 126)).alloc (.cells #[.int .i64 yd1,.int .i64 yd2,.string yn,.int .i64 yi1,.int .i64 yi2] 126)).drew.cell? ⟨w.heap.size+1,1,none⟩=some (.int .i64 yd2)/\((w.alloc (.cells #[.int .i64 xd1,.int .i64 xd2,.string xn,.int .i64 xi1,.int .i64 xi2] 126)).alloc (.cells #[.int .i64 yd1,.int .i64 yd2,.string yn,.int .i64 yi1,.int .i64 yi2] 126)).drew.cell? ⟨w.heap.size+1,2,none⟩=some (.string yn))/\Grown w ((w.alloc (.cells #[.int .i64 xd1,.int .i64 xd2,.string xn,.int .i64 xi1,.int .i64 xi2] 126)).alloc (.cells #[.int .i64 yd1,.int .i64 yd2,.string yn,.int .i64 yi1,.int .i64 yi2] 126)).drew:=by
    refine⟨⟨?_,?_,?_,?_,?_,?_⟩,(((Grown.refl _).alloc _).alloc _).drew⟩
    · exact cell_of_row _ _ 0 _ _ (0,0) (heap_alloc2_old w _ _)
    · exact cell_of_row _ _ 1 _ _ (0,0) (heap_alloc2_old w _ _)
    · exact cell_of_row _ _ 2 _ _ (0,0) (heap_alloc2_old w _ _)
    · exact cell_of_row _ _ 0 _ _ (0,0) (heap_alloc2_new w _ _)
    · exact cell_of_row _ _ 1 _ _ (0,0) (heap_alloc2_new w _ _)
    · exact cell_of_row _ _ 2 _ _ (0,0) (heap_alloc2_new w _ _)
  go_region_held3 (fun W=>(W.cell? ⟨w.heap.size,0,none⟩=some (.int .i64 xd1)/\W.cell? ⟨w.heap.size,1,none⟩=some (.int .i64 xd2)/\W.cell? ⟨w.heap.size,2,none⟩=some (.string xn)/\W.cell? ⟨w.heap.size+1,0,none⟩=some (.int .i64 yd1)/\W.cell? ⟨w.heap.size+1,1,none⟩=some (.int .i64 yd2)/\W.cell? ⟨w.heap.size+1,2,none⟩=some (.string yn))/\Grown w W) (first|assumption|exact cells6_alloc _ (by assumption)|(refine⟨⟨?_,?_,?_,?_,?_,?_⟩,?_⟩<;>assumption))
    (first
      |(go_at_call 25;(with_reducible refine(HC.out _).mono ?_);rintro e w' ⟨rfl,hg⟩;have hS:=cells6_later hg ‹(_/\_/\_/\_/\_/\_)/\Grown w _›)
      |(go_at_call 155;(with_reducible refine(HK.out _).mono ?_);rintro e w' ⟨rfl,rfl⟩;have hS:= ‹(_/\_/\_/\_/\_/\_)/\Grown w _›)
      |(go_at_call 56;refine(or_any _ c k _ ?_ ?_).mono ?_;exact(cell_two _ _ _ _).1;exact(cell_two _ _ _ _).2;rintro e w' ⟨rfl,rfl⟩;have hS:= ‹(_/\_/\_/\_/\_/\_)/\Grown w _›))
  have hB:=(show Grown w _ from And.right ‹(_/\_/\_/\_/\_/\_)/\Grown w _›);clear hS0
  go_wp2_with fail
  go_ret
  exact⟨by rw[<-HV.out];rfl,hB⟩
end Go.Proofs.YtnnnkaobhkeocaaGreatDoor
namespace Go.Proofs
open Go.Shelf
def Tryz.sortIno_ren:Go.Shelf.Ren:=⟨fun|6=>95|15=>134|14=>133|28=>177|29=>178|20=>169|21=>170|22=>171|23=>172|24=>173|25=>174|26=>175|27=>176|46=>200|47=>201|48=>202|49=>203|50=>204|57=>211|n=>n,fun|22=>28|24=>102|25=>114|3=>3|39=>139|0=>0|53=>212|55=>214|4=>4|46=>205|45=>204|50=>209|5=>5|9=>9|66=>229|70=>233|76=>239|77=>240|n=>n,fun|n=>n⟩
theorem Tryz.sortIno:Go.Proofs.SlLaysF0.n6 Tryz.prog Tryz.sortIno_ren:={
 mixed:=by kernel_rfl
 f6:=⟨Tryz.f95.name,by decide,Tryz.func95.trans (congrArg some (by kernel_rfl))⟩
 f14:=⟨Tryz.f133.name,by decide,Tryz.func133.trans (congrArg some (by kernel_rfl))⟩
 f15:=Tryz.func134.trans (congrArg some (by kernel_rfl))
 f20:=⟨Tryz.f169.name,by decide,Tryz.func169.trans (congrArg some (by kernel_rfl))⟩
 f21:=⟨Tryz.f170.name,by decide,Tryz.func170.trans (congrArg some (by kernel_rfl))⟩
 f22:=⟨Tryz.f171.name,by decide,Tryz.func171.trans (congrArg some (by kernel_rfl))⟩
 f23:=⟨Tryz.f172.name,by decide,Tryz.func172.trans (congrArg some (by kernel_rfl))⟩
 f24:=⟨Tryz.f173.name,by decide,Tryz.func173.trans (congrArg some (by kernel_rfl))⟩
 f25:=⟨Tryz.f174.name,by decide,Tryz.func174.trans (congrArg some (by kernel_rfl))⟩
 f26:=⟨Tryz.f175.name,by decide,Tryz.func175.trans (congrArg some (by kernel_rfl))⟩
 f27:=⟨Tryz.f176.name,by decide,Tryz.func176.trans (congrArg some (by kernel_rfl))⟩
 f28:=Tryz.func177.trans (congrArg some (by kernel_rfl))
 f29:=Tryz.func178.trans (congrArg some (by kernel_rfl))
 f46:=⟨Tryz.f200.name,by decide,Tryz.func200.trans (congrArg some (by kernel_rfl))⟩
 f47:=Tryz.func201.trans (congrArg some (by kernel_rfl))
 f48:=Tryz.func202.trans (congrArg some (by kernel_rfl))
 f49:=⟨Tryz.f203.name,by decide,Tryz.func203.trans (congrArg some (by kernel_rfl))⟩
 f50:=⟨Tryz.f204.name,by decide,Tryz.func204.trans (congrArg some (by kernel_rfl))⟩
 f57:=⟨Tryz.f211.name,by decide,Tryz.func211.trans (congrArg some (by kernel_rfl))⟩
 t0:=Tryz.underlying0
 a0:=Tryz.isAgg0
 z0:=Tryz.sizeOf0
 v0:=Tryz.zeroValue0
 t3:=Tryz.underlying3
 a3:=Tryz.isAgg3
 z3:=Tryz.sizeOf3
 v3:=Tryz.zeroValue3
 t4:=Tryz.underlying4
 a4:=Tryz.isAgg4
 z4:=Tryz.sizeOf4
 v4:=Tryz.zeroValue4
 t5:=Tryz.underlying5
 a5:=Tryz.isAgg5
 z5:=Tryz.sizeOf5
 v5:=Tryz.zeroValue5
 t9:=Tryz.underlying9
 a9:=Tryz.isAgg9
 z9:=Tryz.sizeOf9
 v9:=Tryz.zeroValue9
 t22:=Tryz.underlying28
 a22:=Tryz.isAgg28
 z22:=Tryz.sizeOf28
 v22:=Tryz.zeroValue28
 t25:=Tryz.underlying114
 a25:=Tryz.isAgg114
 z25:=Tryz.sizeOf114
 v25:=Tryz.zeroValue114
 t39:=Tryz.underlying139
 a39:=Tryz.isAgg139
 z39:=Tryz.sizeOf139
 v39:=Tryz.zeroValue139
 t45:=Tryz.underlying204
 a45:=Tryz.isAgg204
 z45:=Tryz.sizeOf204
 v45:=Tryz.zeroValue204
 t46:=Tryz.underlying205
 a46:=Tryz.isAgg205
 z46:=Tryz.sizeOf205
 v46:=Tryz.zeroValue205
 t50:=Tryz.underlying209
 a50:=Tryz.isAgg209
 z50:=Tryz.sizeOf209
 v50:=Tryz.zeroValue209
 t53:=Tryz.underlying212
 a53:=Tryz.isAgg212
 z53:=Tryz.sizeOf212
 v53:=Tryz.zeroValue212
 t55:=Tryz.underlying214
 a55:=Tryz.isAgg214
 z55:=Tryz.sizeOf214
 v55:=Tryz.zeroValue214
 t66:=Tryz.underlying229
 a66:=Tryz.isAgg229
 z66:=Tryz.sizeOf229
 v66:=Tryz.zeroValue229
 t70:=Tryz.underlying233
 a70:=Tryz.isAgg233
 z70:=Tryz.sizeOf233
 v70:=Tryz.zeroValue233
 t76:=Tryz.underlying239
 a76:=Tryz.isAgg239
 z76:=Tryz.sizeOf239
 v76:=Tryz.zeroValue239
 t77:=Tryz.underlying240
 a77:=Tryz.isAgg240
 z77:=Tryz.sizeOf240
 v77:=Tryz.zeroValue240}
def Tryz.sortEnt_ren:Go.Shelf.Ren:=⟨fun|6=>116|15=>134|14=>154|28=>177|29=>178|20=>185|21=>186|22=>187|23=>188|24=>189|25=>190|26=>191|27=>192|46=>207|47=>201|48=>202|49=>208|50=>209|57=>212|n=>n,fun|22=>29|24=>126|25=>163|3=>3|39=>139|0=>0|53=>212|55=>214|4=>4|46=>205|45=>204|50=>209|5=>5|9=>9|66=>229|70=>233|76=>239|77=>240|n=>n,fun|n=>n⟩
theorem Tryz.sortEnt:Go.Proofs.SlLaysF0.n6 Tryz.prog Tryz.sortEnt_ren:={
 mixed:=by kernel_rfl
 f6:=⟨Tryz.f116.name,by decide,Tryz.func116.trans (congrArg some (by kernel_rfl))⟩
 f14:=⟨Tryz.f154.name,by decide,Tryz.func154.trans (congrArg some (by kernel_rfl))⟩
 f15:=Tryz.func134.trans (congrArg some (by kernel_rfl))
 f20:=⟨Tryz.f185.name,by decide,Tryz.func185.trans (congrArg some (by kernel_rfl))⟩
 f21:=⟨Tryz.f186.name,by decide,Tryz.func186.trans (congrArg some (by kernel_rfl))⟩
 f22:=⟨Tryz.f187.name,by decide,Tryz.func187.trans (congrArg some (by kernel_rfl))⟩
 f23:=⟨Tryz.f188.name,by decide,Tryz.func188.trans (congrArg some (by kernel_rfl))⟩
 f24:=⟨Tryz.f189.name,by decide,Tryz.func189.trans (congrArg some (by kernel_rfl))⟩
 f25:=⟨Tryz.f190.name,by decide,Tryz.func190.trans (congrArg some (by kernel_rfl))⟩
 f26:=⟨Tryz.f191.name,by decide,Tryz.func191.trans (congrArg some (by kernel_rfl))⟩
 f27:=⟨Tryz.f192.name,by decide,Tryz.func192.trans (congrArg some (by kernel_rfl))⟩
 f28:=Tryz.func177.trans (congrArg some (by kernel_rfl))
 f29:=Tryz.func178.trans (congrArg some (by kernel_rfl))
 f46:=⟨Tryz.f207.name,by decide,Tryz.func207.trans (congrArg some (by kernel_rfl))⟩
 f47:=Tryz.func201.trans (congrArg some (by kernel_rfl))
 f48:=Tryz.func202.trans (congrArg some (by kernel_rfl))
 f49:=⟨Tryz.f208.name,by decide,Tryz.func208.trans (congrArg some (by kernel_rfl))⟩
 f50:=⟨Tryz.f209.name,by decide,Tryz.func209.trans (congrArg some (by kernel_rfl))⟩
 f57:=⟨Tryz.f212.name,by decide,Tryz.func212.trans (congrArg some (by kernel_rfl))⟩
 t0:=Tryz.underlying0
 a0:=Tryz.isAgg0
 z0:=Tryz.sizeOf0
 v0:=Tryz.zeroValue0
 t3:=Tryz.underlying3
 a3:=Tryz.isAgg3
 z3:=Tryz.sizeOf3
 v3:=Tryz.zeroValue3
 t4:=Tryz.underlying4
 a4:=Tryz.isAgg4
 z4:=Tryz.sizeOf4
 v4:=Tryz.zeroValue4
 t5:=Tryz.underlying5
 a5:=Tryz.isAgg5
 z5:=Tryz.sizeOf5
 v5:=Tryz.zeroValue5
 t9:=Tryz.underlying9
 a9:=Tryz.isAgg9
 z9:=Tryz.sizeOf9
 v9:=Tryz.zeroValue9
 t22:=Tryz.underlying29
 a22:=Tryz.isAgg29
 z22:=Tryz.sizeOf29
 v22:=Tryz.zeroValue29
 t25:=Tryz.underlying163
 a25:=Tryz.isAgg163
 z25:=Tryz.sizeOf163
 v25:=Tryz.zeroValue163
 t39:=Tryz.underlying139
 a39:=Tryz.isAgg139
 z39:=Tryz.sizeOf139
 v39:=Tryz.zeroValue139
 t45:=Tryz.underlying204
 a45:=Tryz.isAgg204
 z45:=Tryz.sizeOf204
 v45:=Tryz.zeroValue204
 t46:=Tryz.underlying205
 a46:=Tryz.isAgg205
 z46:=Tryz.sizeOf205
 v46:=Tryz.zeroValue205
 t50:=Tryz.underlying209
 a50:=Tryz.isAgg209
 z50:=Tryz.sizeOf209
 v50:=Tryz.zeroValue209
 t53:=Tryz.underlying212
 a53:=Tryz.isAgg212
 z53:=Tryz.sizeOf212
 v53:=Tryz.zeroValue212
 t55:=Tryz.underlying214
 a55:=Tryz.isAgg214
 z55:=Tryz.sizeOf214
 v55:=Tryz.zeroValue214
 t66:=Tryz.underlying229
 a66:=Tryz.isAgg229
 z66:=Tryz.sizeOf229
 v66:=Tryz.zeroValue229
 t70:=Tryz.underlying233
 a70:=Tryz.isAgg233
 z70:=Tryz.sizeOf233
 v70:=Tryz.zeroValue233
 t76:=Tryz.underlying239
 a76:=Tryz.isAgg239
 z76:=Tryz.sizeOf239
 v76:=Tryz.zeroValue239
 t77:=Tryz.underlying240
 a77:=Tryz.isAgg240
 z77:=Tryz.sizeOf240
 v77:=Tryz.zeroValue240}
def Tryz.cloneIno_ren:Go.Shelf.Ren:=⟨fun|5=>83|7=>118|n=>n,fun|23=>103|25=>24|3=>102|4=>4|20=>20|n=>n,fun|n=>n⟩
theorem Tryz.cloneIno:Go.Proofs.SlLaysW.n5 Tryz.prog Tryz.cloneIno_ren:={
 mixed:=by kernel_rfl
 f5:=⟨Tryz.f83.name,by decide,Tryz.func83.trans (congrArg some (by kernel_rfl))⟩
 f7:=Tryz.func118.trans (congrArg some (by kernel_rfl))
 t4:=Tryz.underlying4
 a4:=Tryz.isAgg4
 z4:=Tryz.sizeOf4
 v4:=Tryz.zeroValue4
 t20:=Tryz.underlying20
 a20:=Tryz.isAgg20
 z20:=Tryz.sizeOf20
 v20:=Tryz.zeroValue20
 t23:=Tryz.underlying103
 a23:=Tryz.isAgg103
 z23:=Tryz.sizeOf103
 v23:=Tryz.zeroValue103}
def Tryz.cloneEnt_ren:Go.Shelf.Ren:=⟨fun|5=>84|7=>118|n=>n,fun|23=>104|25=>116|3=>24|4=>4|20=>20|n=>n,fun|n=>n⟩
theorem Tryz.cloneEnt:Go.Proofs.SlLaysW.n5 Tryz.prog Tryz.cloneEnt_ren:={
 mixed:=by kernel_rfl
 f5:=⟨Tryz.f84.name,by decide,Tryz.func84.trans (congrArg some (by kernel_rfl))⟩
 f7:=Tryz.func118.trans (congrArg some (by kernel_rfl))
 t4:=Tryz.underlying4
 a4:=Tryz.isAgg4
 z4:=Tryz.sizeOf4
 v4:=Tryz.zeroValue4
 t20:=Tryz.underlying20
 a20:=Tryz.isAgg20
 z20:=Tryz.sizeOf20
 v20:=Tryz.zeroValue20
 t23:=Tryz.underlying104
 a23:=Tryz.isAgg104
 z23:=Tryz.sizeOf104
 v23:=Tryz.zeroValue104}
end Go.Proofs
