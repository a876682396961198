/-
 The walks of op's small functions: a byte in a text, a name, a kind's fields.
-/
import Derived.Test.YtnnnkaobhkeocaaGreatDoorZ00
import Derived.Test.YtnnnkaobhkeocaaGreatDoorZ05
import Derived.Test.YtnnnkaobhkeocaaGreatDoorZ01
import Derived.Test.YtnnnkaobhkeocaaGreatDoorRows
import Derived.Lib.Bytealg
import Derived.Test.YtnnnkaobhkeocaaGreatDoorZ05
import Derived.Deep.DeepCutAuto
import Derived.Deep.MidRow
import Derived.BigRegion
import Derived.Deep.RegionHeld3
import Derived.ProofKit
import Derived.Laws.StructEq
namespace Go.Proofs.YtnnnkaobhkeocaaGreatDoor
open Go.RowKit OpMath
theorem has_bits(i:Nat)(x f:Int)(hf:f=1\/f=2\/f=4\/f=8\/f=16\/f=32\/f=64)(hx:tabL[i]?=some x):(bits BinOp.and IntKind.i64 x f !=0)=hasF (i:Int) f:=by
 have hi:i<11:=by
  by_cases h:i<11
  ·exact h
  ·rw[List.getElem?_eq_none (by show 11<=i;omega)] at hx
   cases hx
 have hi2:i=0\/i=1\/i=2\/i=3\/i=4\/i=5\/i=6\/i=7\/i=8\/i=9\/i=10:=by omega
 rcases hi2 with rfl|rfl|rfl|rfl|rfl|rfl|rfl|rfl|rfl|rfl|rfl<;>obtain rfl:=Option.some.inj hx<;>rcases hf with rfl|rfl|rfl|rfl|rfl|rfl|rfl<;>decide
theorem has_any(k f:Int)(hf:f=1\/f=2\/f=4\/f=8\/f=16\/f=32\/f=64)(w:World)[T:Tab w]:
  Calls Tryz.prog 128 #[.int .i64 k,.int .i64 f] w fun e w'=>e=.returned (.bool (hasF k f))/\w=w':=by
 by_cases h0:0<=k
 ·by_cases h1:k<11
  ·obtain⟨i,rfl⟩:∃i:Nat,k=(i:Int):=⟨k.toNat,by omega⟩;obtain⟨x,hx⟩:∃x,tabL[i]?=some x:=⟨tabL[i]'(by show i<11;omega),List.getElem?_eq_getElem _⟩;have hc:=T.at i hx;have HX:=Lib.hid hx;clear hx
   go_enter Tryz.func128,Tryz.ntmps128
   go_wp2_with fail
   go_ret
   exact⟨congrArg (fun b=>Ending.returned (.bool b)) (has_bits i x f hf HX.out),rfl⟩
  ·have d1:decide (k<11)=false:=by simp;omega
   have H1:=Lib.hid h1;clear h1
   go_enter Tryz.func128,Tryz.ntmps128
   go_wp2_with fail
   go_ret
   exact⟨by
    have:hasF k f=false:=by
     have:=H1.out;unfold hasF;rcases hf with rfl|rfl|rfl|rfl|rfl|rfl|rfl<;>simp<;>omega
    rw[this];rfl,rfl⟩
 ·have d0:decide (0<=k)=false:=by simp;omega
  have H0:=Lib.hid h0;clear h0
  go_enter Tryz.func128,Tryz.ntmps128
  go_wp2_with fail
  go_ret
  exact⟨by
   have:hasF k f=false:=by
    have:=H0.out;unfold hasF;rcases hf with rfl|rfl|rfl|rfl|rfl|rfl|rfl<;>simp<;>omega
   rw[this];rfl,rfl⟩
theorem keptText(k f:Int)(s:ByteArray)(b:Bool)(H:Hid (∀(W:World)[Tab W],Calls Tryz.prog 128 #[.int .i64 k,.int .i64 f] W fun e w'=>e=.returned (.bool b)/\W=w'))(w:World)[Tab w]:
  Calls Tryz.prog 125 #[.int .i64 k,.int .i64 f,.string s] w fun e w'=>e=.returned (.string (if b then s else⟨#[]⟩))/\Below w.heap.size w w':=by
 cases b
 all_goals
  go_enter Tryz.func125,Tryz.ntmps125
  go_wp2_with fail
  refine(H.out _).mono ?_;rintro e w' ⟨rfl,rfl⟩
  go_wp2_with fail
  go_ret
  exact⟨rfl,Below.refl _ _⟩
theorem keptInt(k f:Int)(n:Int)(b:Bool)(H:Hid (∀(W:World)[Tab W],Calls Tryz.prog 128 #[.int .i64 k,.int .i64 f] W fun e w'=>e=.returned (.bool b)/\W=w'))(w:World)[Tab w]:
  Calls Tryz.prog 126 #[.int .i64 k,.int .i64 f,.int .i64 n] w fun e w'=>e=.returned (.int .i64 (if b then n else 0))/\Below w.heap.size w w':=by
 cases b
 all_goals
  go_enter Tryz.func126,Tryz.ntmps126
  go_wp2_with fail
  refine(H.out _).mono ?_;rintro e w' ⟨rfl,rfl⟩
  go_wp2_with fail
  go_ret
  exact⟨rfl,Below.refl _ _⟩
theorem keptStamp(k f t r:Int)(b:Bool)(H:Hid (∀(W:World)[Tab W],Calls Tryz.prog 128 #[.int .i64 k,.int .i64 f] W fun e w'=>e=.returned (.bool b)/\W=w'))(w:World)[Tab w]:
  Calls Tryz.prog 124 #[.int .i64 k,.int .i64 f,.agg #[.int .i64 t,.int .i64 r]] w fun e w'=>e=.returned (.agg #[.int .i64 (if b then t else 0),.int .i64 (if b then r else 0)])/\Below w.heap.size w w':=by
 cases b
 all_goals
  go_enter Tryz.func124,Tryz.ntmps124
  go_wp2_with fail
  refine(H.out _).mono ?_;rintro e w' ⟨rfl,rfl⟩
  go_wp2_with fail
 ·exact bodyPost_ret (v:=.agg #[.int .i64 0,.int .i64 0]) (by simp[results,Tryz.results124,go_sem]) rfl ⟨rfl,(((Below.refl _ w).alloc (Nat.le_refl _) _).alloc (by simp) _).alloc (by rw[World.size_alloc,World.size_alloc];omega) _⟩
 ·exact bodyPost_ret (v:=.agg #[.int .i64 t,.int .i64 r]) (by simp[results,Tryz.results124,go_sem]) rfl ⟨rfl,((Below.refl _ w).alloc (Nat.le_refl _) _).alloc (by simp) _⟩
end Go.Proofs.YtnnnkaobhkeocaaGreatDoor
namespace Go.Proofs.YtnnnkaobhkeocaaGreatDoor
open Go.RowKit OpMath StampMath PackMath
set_option maxRecDepth 100000 in
set_option maxHeartbeats 1600000 in
theorem mayStamps_core(o:Opn)(m0 m1 m2 m3:Bool)(hz:(o.st=0->m0=(o.sr==0)))
  (M0:Hid (∀W:World,Calls Tryz.prog 36 #[.agg #[.int .i64 o.st,.int .i64 o.sr]] W fun e w'=>e=.returned (.bool m0)/\Below W.heap.size W w'))
  (M1:Hid (∀W:World,Calls Tryz.prog 36 #[.agg #[.int .i64 o.pt,.int .i64 o.pr]] W fun e w'=>e=.returned (.bool m1)/\Below W.heap.size W w'))
  (M2:Hid (∀W:World,Calls Tryz.prog 36 #[.agg #[.int .i64 o.it,.int .i64 o.ir]] W fun e w'=>e=.returned (.bool m2)/\Below W.heap.size W w'))
  (M3:Hid (∀W:World,Calls Tryz.prog 36 #[.agg #[.int .i64 o.tt,.int .i64 o.tr]] W fun e w'=>e=.returned (.bool m3)/\Below W.heap.size W w'))(w:World):
  Calls Tryz.prog 90 #[.agg #[.int .i64 o.st,.int .i64 o.sr,.int .i64 o.k,.int .i64 o.pt,.int .i64 o.pr,.int .i64 o.it,.int .i64 o.ir,.int .i64 o.tt,.int .i64 o.tr,.string o.name,.string o.new,.int .i64 o.off,.string o.data]] w fun e w'=>e=.returned (.bool (!(o.st==0)&&m0&&m1&&m2&&m3))/\Below w.heap.size w w':=by
 have HZ:=Lib.hid hz;clear hz;have hcase:(o.st=0/\o.sr=0)\/(o.st=0/\o.sr≠0)\/o.st≠0:=by omega
 rcases hcase with ⟨a,b⟩|⟨a,b⟩|a
 ·have d1:(o.st==0)=true:=by simp[a]
  have d2:(o.sr==0)=true:=by simp[b]
  have D1:=Lib.hid d1;clear a b
  go_enter Tryz.func90,Tryz.ntmps90
  go_wp2_with fail
  go_ret
  exact⟨by rw[D1.out];rfl,(Below.refl _ _).alloc (Nat.le_refl _) _⟩
 ·have d1:(o.st==0)=true:=by simp[a]
  have d2:(o.sr==0)=false:=by simp[b]
  have D1:=Lib.hid d1;have e0:m0=false:=by rw[HZ.out a,d2]
  clear a b;subst e0
  go_enter Tryz.func90,Tryz.ntmps90
  go_wp2_with fail
  refine(M0.out _).mono ?_;rintro e w1 ⟨rfl,hb1⟩
  go_wp2_with fail
  go_ret
  exact⟨by rw[D1.out];rfl,below_step ((Below.refl _ _).alloc (Nat.le_refl _) _) hb1⟩
 ·have d1:(o.st==0)=false:=by simp[a]
  have D1:=Lib.hid d1;clear a
  cases m0
  ·go_enter Tryz.func90,Tryz.ntmps90
   go_wp2_with fail
   refine(M0.out _).mono ?_;rintro e w1 ⟨rfl,hb1⟩
   go_wp2_with fail
   go_ret
   exact⟨by rw[D1.out];rfl,below_step ((Below.refl _ _).alloc (Nat.le_refl _) _) hb1⟩
  ·go_enter Tryz.func90,Tryz.ntmps90
   have hh0:Held w [(w.heap.size,(.cells (opA o) 37))] (w.alloc (.cells (opA o) 37)):=(Held.refl w).alloc (.cells (opA o) 37) rfl
   go_wp2_with fail
   refine(M0.out _).mono ?_;rintro e w1 ⟨rfl,hb1⟩;have B1:Below (w.alloc (.cells (opA o) 37)).heap.size (w.alloc (.cells (opA o) 37)) w1:=hb1;have HH1:=hh0.step B1;clear hh0 hb1 B1;have hc1:=op_cells (HH1.at 0 rfl)
   cases m1
   ·go_wp2_with fail
    refine(M1.out _).mono ?_;rintro e w2 ⟨rfl,hb⟩;have HH2:=HH1.step hb
    go_wp2_with fail
    go_ret
    exact⟨by rw[D1.out];rfl,HH2.below⟩
   ·go_wp2_with fail
    refine(M1.out _).mono ?_;rintro e w2 ⟨rfl,hb⟩;have HH2:=HH1.step hb;clear hb HH1 hc1;have hc2:=op_cells (HH2.at 0 rfl)
    cases m2
    ·go_wp2_with fail
     refine(M2.out _).mono ?_;rintro e w3 ⟨rfl,hb⟩;have HH3:=HH2.step hb
     go_wp2_with fail
     go_ret
     exact⟨by rw[D1.out];rfl,HH3.below⟩
    ·go_wp2_with fail
     refine(M2.out _).mono ?_;rintro e w3 ⟨rfl,hb⟩;have HH3:=HH2.step hb;clear hb HH2 hc2;have hc3:=op_cells (HH3.at 0 rfl)
     go_wp2_with fail
     refine(M3.out _).mono ?_;rintro e w4 ⟨rfl,hb⟩;have HH4:=HH3.step hb
     go_wp2_with fail
     go_ret
     exact⟨by rw[D1.out];cases m3<;>rfl,HH4.below⟩
def restB(o:Opn):Bool:=
 if o.k=3 then decide (1<=o.data.size)&&decide (o.data.size<=32)&& !hasB o.data 0
 else if o.k=8 then !(o.data.toList== [])&&decide (0<=o.off)&&decide (o.off<=64-(o.data.size:Int))
 else if o.k=9 then decide (0<=o.off)&&decide (o.off<=64)
 else if o.k=10 then decide (0<=o.off)&&decide (o.off<=4095)
 else true
def namesB(o:Opn):Bool:=(nameB o.name==hasF o.k 8)&&(nameB o.new==hasF o.k 16)
set_option maxRecDepth 100000 in
set_option maxHeartbeats 1600000 in
theorem mayRest_any(o:Opn)(hd:o.data.size<=maxLen)(ho:IsI64 o.off)(w:World):
  Calls Tryz.prog 92 #[.agg #[.int .i64 o.st,.int .i64 o.sr,.int .i64 o.k,.int .i64 o.pt,.int .i64 o.pr,.int .i64 o.it,.int .i64 o.ir,.int .i64 o.tt,.int .i64 o.tr,.string o.name,.string o.new,.int .i64 o.off,.string o.data]] w fun e w'=>e=.returned (.bool (restB o))/\Below w.heap.size w w':=by
 have hd':o.data.size<=9223372036854775807:=by unfold maxLen at hd;omega
 have ho1:=ho.1;have ho2:=ho.2;clear hd ho;have HB:Hid (∀W:World,Calls Tryz.prog 129 #[.string o.data,.int .u8 0] W fun e w'=>e=.returned (.bool (hasB o.data 0))/\W=w'):=fun W=>hasByte_any o.data 0 W;have R:Hid (restB o=if o.k=3 then decide (1<=o.data.size)&&decide (o.data.size<=32)&& !hasB o.data 0
  else if o.k=8 then !(o.data.toList== [])&&decide (0<=o.off)&&decide (o.off<=64-(o.data.size:Int))
  else if o.k=9 then decide (0<=o.off)&&decide (o.off<=64)
  else if o.k=10 then decide (0<=o.off)&&decide (o.off<=4095)
  else true):=rfl
 generalize hasB o.data 0=hz at HB R;by_cases h3:o.k=3
 ·have d3:(o.k==3)=true:=by simp[h3]
  have RB:=Lib.hid (R.out.trans (if_pos h3));clear R h3;by_cases h1:1<=o.data.size
  ·have T1:=Lib.hid (show decide (1<=o.data.size)=true by simpa using h1);by_cases h2:o.data.size<=32
   ·have T2:=Lib.hid (show decide (o.data.size<=32)=true by simpa using h2)
    go_enter Tryz.func92,Tryz.ntmps92
    go_wp2_with fail
    refine(HB.out _).mono ?_;rintro e w' ⟨rfl,rfl⟩
    go_wp2_with fail
    go_ret
    exact⟨by rw[RB.out,T1.out,T2.out];cases hz<;>rfl,(Below.refl _ _).alloc (Nat.le_refl _) _⟩
   ·have T2:=Lib.hid (show decide (o.data.size<=32)=false by simpa using h2);have f2:decide ((o.data.size:Int)<=32)=false:=by simp;omega
    clear h2
    go_enter Tryz.func92,Tryz.ntmps92
    go_wp2_with fail
    go_ret
    exact⟨by rw[RB.out,T1.out,T2.out];rfl,(Below.refl _ _).alloc (Nat.le_refl _) _⟩
  ·have T1:=Lib.hid (show decide (1<=o.data.size)=false by simpa using h1);have f1:decide (1<=(o.data.size:Int))=false:=by simp;omega
   clear h1
   go_enter Tryz.func92,Tryz.ntmps92
   go_wp2_with fail
   go_ret
   exact⟨by rw[RB.out,T1.out];rfl,(Below.refl _ _).alloc (Nat.le_refl _) _⟩
 ·have d3:(o.k==3)=false:=by simp[h3]
  have R3:=Lib.hid (R.out.trans (if_neg h3));clear R h3 HB;by_cases h8:o.k=8
  ·have d8:(o.k==8)=true:=by simp[h8]
   have RB:=Lib.hid (R3.out.trans (if_pos h8));clear R3 h8;by_cases h1:(o.data.toList== [])=true
   ·have T1:=Lib.hid h1
    go_enter Tryz.func92,Tryz.ntmps92
    go_wp2_with fail
    go_ret
    exact⟨by rw[RB.out,T1.out];rfl,(Below.refl _ _).alloc (Nat.le_refl _) _⟩
   ·have h1:(o.data.toList== [])=false:=by simpa using h1
    have T1:=Lib.hid h1;by_cases h2:0<=o.off
    ·have T2:=Lib.hid (show decide (0<=o.off)=true by simpa using h2);by_cases h4:o.off<=64-(o.data.size:Int)
     ·have T4:=Lib.hid (show decide (o.off<=64-(o.data.size:Int))=true by simpa using h4)
      go_enter Tryz.func92,Tryz.ntmps92
      go_wp2_with fail
      go_ret
      exact⟨by rw[RB.out,T1.out,T2.out,T4.out];rfl,(Below.refl _ _).alloc (Nat.le_refl _) _⟩
     ·have T4:=Lib.hid (show decide (o.off<=64-(o.data.size:Int))=false by simpa using h4);have f4:decide (o.off<=64-(o.data.size:Int))=false:=by simp;omega
      clear h4
      go_enter Tryz.func92,Tryz.ntmps92
      go_wp2_with fail
      go_ret
      exact⟨by rw[RB.out,T1.out,T2.out,T4.out];rfl,(Below.refl _ _).alloc (Nat.le_refl _) _⟩
    ·have T2:=Lib.hid (show decide (0<=o.off)=false by simpa using h2);have f2:decide (0<=o.off)=false:=by simp;omega
     clear h2
     go_enter Tryz.func92,Tryz.ntmps92
     go_wp2_with fail
     go_ret
     exact⟨by rw[RB.out,T1.out,T2.out];rfl,(Below.refl _ _).alloc (Nat.le_refl _) _⟩
  ·have d8:(o.k==8)=false:=by simp[h8]
   have R8:=Lib.hid (R3.out.trans (if_neg h8));clear R3 h8;by_cases h9:o.k=9
   ·have d9:(o.k==9)=true:=by simp[h9]
    have RB:=Lib.hid (R8.out.trans (if_pos h9));clear R8 h9;by_cases h2:0<=o.off
    ·have T2:=Lib.hid (show decide (0<=o.off)=true by simpa using h2);by_cases h4:o.off<=64
     ·have T4:=Lib.hid (show decide (o.off<=64)=true by simpa using h4)
      go_enter Tryz.func92,Tryz.ntmps92
      go_wp2_with fail
      go_ret
      exact⟨by rw[RB.out,T2.out,T4.out];rfl,(Below.refl _ _).alloc (Nat.le_refl _) _⟩
     ·have T4:=Lib.hid (show decide (o.off<=64)=false by simpa using h4);have f4:decide (o.off<=64)=false:=by simp;omega
      clear h4
      go_enter Tryz.func92,Tryz.ntmps92
      go_wp2_with fail
      go_ret
      exact⟨by rw[RB.out,T2.out,T4.out];rfl,(Below.refl _ _).alloc (Nat.le_refl _) _⟩
    ·have T2:=Lib.hid (show decide (0<=o.off)=false by simpa using h2);have f2:decide (0<=o.off)=false:=by simp;omega
     clear h2
     go_enter Tryz.func92,Tryz.ntmps92
     go_wp2_with fail
     go_ret
     exact⟨by rw[RB.out,T2.out];rfl,(Below.refl _ _).alloc (Nat.le_refl _) _⟩
   ·have d9:(o.k==9)=false:=by simp[h9]
    have R9:=Lib.hid (R8.out.trans (if_neg h9));clear R8 h9;by_cases h10:o.k=10
    ·have d10:(o.k==10)=true:=by simp[h10]
     have RB:=Lib.hid (R9.out.trans (if_pos h10));clear R9 h10;by_cases h2:0<=o.off
     ·have T2:=Lib.hid (show decide (0<=o.off)=true by simpa using h2);by_cases h4:o.off<=4095
      ·have T4:=Lib.hid (show decide (o.off<=4095)=true by simpa using h4)
       go_enter Tryz.func92,Tryz.ntmps92
       go_wp2_with fail
       go_ret
       exact⟨by rw[RB.out,T2.out,T4.out];rfl,(Below.refl _ _).alloc (Nat.le_refl _) _⟩
      ·have T4:=Lib.hid (show decide (o.off<=4095)=false by simpa using h4);have f4:decide (o.off<=4095)=false:=by simp;omega
       clear h4
       go_enter Tryz.func92,Tryz.ntmps92
       go_wp2_with fail
       go_ret
       exact⟨by rw[RB.out,T2.out,T4.out];rfl,(Below.refl _ _).alloc (Nat.le_refl _) _⟩
     ·have T2:=Lib.hid (show decide (0<=o.off)=false by simpa using h2);have f2:decide (0<=o.off)=false:=by simp;omega
      clear h2
      go_enter Tryz.func92,Tryz.ntmps92
      go_wp2_with fail
      go_ret
      exact⟨by rw[RB.out,T2.out];rfl,(Below.refl _ _).alloc (Nat.le_refl _) _⟩
    ·have d10:(o.k==10)=false:=by simp[h10]
     have RB:=Lib.hid (R9.out.trans (if_neg h10));clear R9 h10
     go_enter Tryz.func92,Tryz.ntmps92
     go_wp2_with fail
     go_ret
     exact⟨by rw[RB.out];rfl,(Below.refl _ _).alloc (Nat.le_refl _) _⟩
set_option maxRecDepth 100000 in
set_option maxHeartbeats 1600000 in
theorem mayNames_core(o:Opn)(b1 b2 f1 f2:Bool)
  (N1:Hid (∀(W:World)[Tab W],Calls Tryz.prog 127 #[.string o.name] W fun e w'=>e=.returned (.bool b1)/\Below W.heap.size W w'))
  (N2:Hid (∀(W:World)[Tab W],Calls Tryz.prog 127 #[.string o.new] W fun e w'=>e=.returned (.bool b2)/\Below W.heap.size W w'))
  (F1:Hid (∀(W:World)[Tab W],Calls Tryz.prog 128 #[.int .i64 o.k,.int .i64 8] W fun e w'=>e=.returned (.bool f1)/\Below W.heap.size W w'))
  (F2:Hid (∀(W:World)[Tab W],Calls Tryz.prog 128 #[.int .i64 o.k,.int .i64 16] W fun e w'=>e=.returned (.bool f2)/\Below W.heap.size W w'))(w:World)[Tab w]:
  Calls Tryz.prog 91 #[.agg #[.int .i64 o.st,.int .i64 o.sr,.int .i64 o.k,.int .i64 o.pt,.int .i64 o.pr,.int .i64 o.it,.int .i64 o.ir,.int .i64 o.tt,.int .i64 o.tr,.string o.name,.string o.new,.int .i64 o.off,.string o.data]] w fun e w'=>e=.returned (.bool ((b1==f1)&&(b2==f2)))/\Below w.heap.size w w':=by
 have hh0:(w.alloc (.cells (opA o) 37)).heap[w.heap.size]?=some (.cells (opA o) 37 (0,0)):=heap_alloc_new w _;have hB0:Below w.heap.size w (w.alloc (.cells (opA o) 37)):=(Below.refl _ _).alloc (Nat.le_refl _) _
 go_enter Tryz.func91,Tryz.ntmps91
 go_upto_region 1 with fail
 have iw0:Tab (w.alloc (.cells (opA o) 37)):=inferInstance;change Code.wp _ _ _ _ (w.alloc (.cells (opA o) 37));generalize w.alloc (.cells (opA o) 37)=w0 at hh0 hB0 iw0 ⊢;obtain⟨l0,l1,l2,l3,l4,l5,l6,l7,l8,l9,l10,l11,l12⟩:=op_cells hh0;have q2:=later_cell l2;have q9:=later_cell l9;have q10:=later_cell l10;clear l0 l1 l2 l3 l4 l5 l6 l7 l8 l9 l10 l11 l12
 cases b1<;>cases f1<;>cases b2<;>cases f2
 all_goals
  refine wp_region_later (by kernel_rfl) (by kernel_rfl) ?_
  repeat(go_big_quiet_step (first|(with_reducible exact later_call (N1.out _))|(with_reducible exact later_call (N2.out _))|(with_reducible exact later_call (F1.out _))|(with_reducible exact later_call (F2.out _))))
  refine wpQuiet_nil ?_;intro _ hw';obtain⟨y1,rfl⟩:=hw'
  go_wp2_with fail
  go_ret
  exact⟨rfl,below_step hB0 (later_below w0 y1)⟩
theorem mayNames_any(o:Opn)(hn:o.name.size<=maxLen)(hm:o.new.size<=maxLen)(w:World)[Tab w]:
  Calls Tryz.prog 91 #[.agg #[.int .i64 o.st,.int .i64 o.sr,.int .i64 o.k,.int .i64 o.pt,.int .i64 o.pr,.int .i64 o.it,.int .i64 o.ir,.int .i64 o.tt,.int .i64 o.tr,.string o.name,.string o.new,.int .i64 o.off,.string o.data]] w fun e w'=>e=.returned (.bool (namesB o))/\Below w.heap.size w w':=
 mayNames_core o (nameB o.name) (nameB o.new) (hasF o.k 8) (hasF o.k 16) (fun W _=>(name_any o.name hn W).mono fun _ _ ⟨he,hw⟩=>⟨he,hw▸Below.refl _ _⟩) (fun W _=>(name_any o.new hm W).mono fun _ _ ⟨he,hw⟩=>⟨he,hw▸Below.refl _ _⟩)
  (fun W _=>(has_any o.k 8 (by omega) W).mono fun _ _ ⟨he,hw⟩=>⟨he,hw▸Below.refl _ _⟩) (fun W _=>(has_any o.k 16 (by omega) W).mono fun _ _ ⟨he,hw⟩=>⟨he,hw▸Below.refl _ _⟩) w
theorem below_setCells{B b:Nat}{w0:World}(hb:B<=b):∀(vs:List Value)(o:Nat)(w:World),Below B w0 w->Below B w0 (w.setCells b o vs)
 | [],_,_,h=>h
 |v::r,o,w,h=>by
  rw[World.setCells];exact below_setCells hb r (o+1) _ (h.setCell hb _)
theorem op_info:(Tryz.prog.info? 37).map (·.size)=some 13:=by kernel_rfl
def zO:Opn:=⟨0,0,0,0,0,0,0,0,0,⟨#[]⟩,⟨#[]⟩,0,⟨#[]⟩⟩
theorem op_one(o:Opn):(opA o).all (·.oneCell')=true:=by
 simp[opA,Value.oneCell']
theorem op_there{w:World}{g:Nat}{o:Opn}{T:TypeId}(h:w.heap[g]?=some (.cells (opA o) T (0,0))):w.there g 0 (opA zO).size:=fun j hj=>by
 have hj13:j<13:=hj;rw[Nat.zero_add];refine⟨?_,frozen_of_row _ _ j _ _ h⟩;rw[cell_of_row _ _ j _ _ (0,0) h,Array.getElem?_eq_getElem (by show j<13;exact hj13)]
 rfl
end Go.Proofs.YtnnnkaobhkeocaaGreatDoor
namespace Go.Proofs.YtnnnkaobhkeocaaGreatDoor
open Go.RowKit OpMath
def ownO(o:Opn):Opn where
 st:=o.st
 sr:=o.sr
 k:=o.k
 pt:=if hasF o.k 1 then o.pt else 0
 pr:=if hasF o.k 1 then o.pr else 0
 it:=if hasF o.k 2 then o.it else 0
 ir:=if hasF o.k 2 then o.ir else 0
 tt:=if hasF o.k 4 then o.tt else 0
 tr:=if hasF o.k 4 then o.tr else 0
 name:=if hasF o.k 8 then o.name else⟨#[]⟩
 new:=if hasF o.k 16 then o.new else⟨#[]⟩
 off:=if hasF o.k 32 then o.off else 0
 data:=if hasF o.k 64 then o.data else⟨#[]⟩
theorem own_bare(o:Opn)(h1:1<=o.k)(h2:o.k<=10):ownO o=bareO o:=by
 have e1:hasF o.k 1=decide (o.k<=7):=by unfold hasF;rw[if_pos rfl,decide_eq_decide];omega
 have e2:hasF o.k 2=decide (4<=o.k):=by unfold hasF;rw[if_neg (by decide),if_pos rfl,decide_eq_decide];omega
 have e4:hasF o.k 4=decide (o.k=7):=by unfold hasF;rw[if_neg (by decide),if_neg (by decide),if_pos rfl]
 have e8:hasF o.k 8=decide (o.k<=7):=by unfold hasF;rw[if_neg (by decide),if_neg (by decide),if_neg (by decide),if_pos rfl,decide_eq_decide];omega
 have e16:hasF o.k 16=decide (o.k=7):=by unfold hasF;rw[if_neg (by decide),if_neg (by decide),if_neg (by decide),if_neg (by decide),if_pos rfl]
 have e32:hasF o.k 32=decide (8<=o.k):=by unfold hasF;rw[if_neg (by decide),if_neg (by decide),if_neg (by decide),if_neg (by decide),if_neg (by decide),if_pos rfl,decide_eq_decide];omega
 have e64:hasF o.k 64=decide (o.k=3\/o.k=8):=by unfold hasF;rw[if_neg (by decide),if_neg (by decide),if_neg (by decide),if_neg (by decide),if_neg (by decide),if_neg (by decide)]
 unfold ownO bareO;rw[e1,e2,e4,e8,e16,e32,e64];simp only[decide_eq_true_eq]
theorem there_below{W W':World}{b o n:Nat}(hb:Below W.heap.size W W')(h:W.there b o n):W'.there b o n:=fun j hj=>by
 obtain⟨h1,h2⟩:=h j hj;obtain⟨v,hv⟩:=Option.isSome_iff_exists.1 h1;have hl:=World.block_lt_of_cell? _ _ hv;exact⟨by rw[hb.cell (p:=⟨b,o+j,none⟩) hl,hv];rfl,(hb.frozen (p:=⟨b,o+j,none⟩) hl).trans h2⟩
theorem opOwn_call{w W W':World}{o:Opn}{T:TypeId}(hb:Below W.heap.size W W')(h:Held w [(w.heap.size,(.cells (opA o) T (0,0)))] W/\W.there (w.heap.size+1) 0 13/\W.cell? ⟨w.heap.size,0,none⟩=some (.int .i64 o.st)/\W.cell? ⟨w.heap.size,1,none⟩=some (.int .i64 o.sr)/\W.cell? ⟨w.heap.size,2,none⟩=some (.int .i64 o.k)/\W.cell? ⟨w.heap.size,3,none⟩=some (.int .i64 o.pt)/\W.cell? ⟨w.heap.size,4,none⟩=some (.int .i64 o.pr)/\W.cell? ⟨w.heap.size,5,none⟩=some (.int .i64 o.it)/\W.cell? ⟨w.heap.size,6,none⟩=some (.int .i64 o.ir)/\W.cell? ⟨w.heap.size,7,none⟩=some (.int .i64 o.tt)/\W.cell? ⟨w.heap.size,8,none⟩=some (.int .i64 o.tr)/\W.cell? ⟨w.heap.size,9,none⟩=some (.string o.name)/\W.cell? ⟨w.heap.size,10,none⟩=some (.string o.new)/\W.cell? ⟨w.heap.size,11,none⟩=some (.int .i64 o.off)/\W.cell? ⟨w.heap.size,12,none⟩=some (.string o.data)):Held w [(w.heap.size,(.cells (opA o) T (0,0)))] W'/\W'.there (w.heap.size+1) 0 13/\W'.cell? ⟨w.heap.size,0,none⟩=some (.int .i64 o.st)/\W'.cell? ⟨w.heap.size,1,none⟩=some (.int .i64 o.sr)/\W'.cell? ⟨w.heap.size,2,none⟩=some (.int .i64 o.k)/\W'.cell? ⟨w.heap.size,3,none⟩=some (.int .i64 o.pt)/\W'.cell? ⟨w.heap.size,4,none⟩=some (.int .i64 o.pr)/\W'.cell? ⟨w.heap.size,5,none⟩=some (.int .i64 o.it)/\W'.cell? ⟨w.heap.size,6,none⟩=some (.int .i64 o.ir)/\W'.cell? ⟨w.heap.size,7,none⟩=some (.int .i64 o.tt)/\W'.cell? ⟨w.heap.size,8,none⟩=some (.int .i64 o.tr)/\W'.cell? ⟨w.heap.size,9,none⟩=some (.string o.name)/\W'.cell? ⟨w.heap.size,10,none⟩=some (.string o.new)/\W'.cell? ⟨w.heap.size,11,none⟩=some (.int .i64 o.off)/\W'.cell? ⟨w.heap.size,12,none⟩=some (.string o.data):=
 ⟨h.1.step hb,there_below hb h.2.1,op_cells ((h.1.step hb).at 0 rfl)⟩
theorem own_drew{w W:World}{o:Opn}{T:TypeId}(h:Held w [(w.heap.size,(.cells (opA o) T (0,0)))] W/\W.there (w.heap.size+1) 0 13/\W.cell? ⟨w.heap.size,0,none⟩=some (.int .i64 o.st)/\W.cell? ⟨w.heap.size,1,none⟩=some (.int .i64 o.sr)/\W.cell? ⟨w.heap.size,2,none⟩=some (.int .i64 o.k)/\W.cell? ⟨w.heap.size,3,none⟩=some (.int .i64 o.pt)/\W.cell? ⟨w.heap.size,4,none⟩=some (.int .i64 o.pr)/\W.cell? ⟨w.heap.size,5,none⟩=some (.int .i64 o.it)/\W.cell? ⟨w.heap.size,6,none⟩=some (.int .i64 o.ir)/\W.cell? ⟨w.heap.size,7,none⟩=some (.int .i64 o.tt)/\W.cell? ⟨w.heap.size,8,none⟩=some (.int .i64 o.tr)/\W.cell? ⟨w.heap.size,9,none⟩=some (.string o.name)/\W.cell? ⟨w.heap.size,10,none⟩=some (.string o.new)/\W.cell? ⟨w.heap.size,11,none⟩=some (.int .i64 o.off)/\W.cell? ⟨w.heap.size,12,none⟩=some (.string o.data)):Held w [(w.heap.size,(.cells (opA o) T (0,0)))] W.drew/\W.drew.there (w.heap.size+1) 0 13/\W.drew.cell? ⟨w.heap.size,0,none⟩=some (.int .i64 o.st)/\W.drew.cell? ⟨w.heap.size,1,none⟩=some (.int .i64 o.sr)/\W.drew.cell? ⟨w.heap.size,2,none⟩=some (.int .i64 o.k)/\W.drew.cell? ⟨w.heap.size,3,none⟩=some (.int .i64 o.pt)/\W.drew.cell? ⟨w.heap.size,4,none⟩=some (.int .i64 o.pr)/\W.drew.cell? ⟨w.heap.size,5,none⟩=some (.int .i64 o.it)/\W.drew.cell? ⟨w.heap.size,6,none⟩=some (.int .i64 o.ir)/\W.drew.cell? ⟨w.heap.size,7,none⟩=some (.int .i64 o.tt)/\W.drew.cell? ⟨w.heap.size,8,none⟩=some (.int .i64 o.tr)/\W.drew.cell? ⟨w.heap.size,9,none⟩=some (.string o.name)/\W.drew.cell? ⟨w.heap.size,10,none⟩=some (.string o.new)/\W.drew.cell? ⟨w.heap.size,11,none⟩=some (.int .i64 o.off)/\W.drew.cell? ⟨w.heap.size,12,none⟩=some (.string o.data):=
 ⟨h.1.drew,(World.there_drew W _ _ _).2 h.2.1,op_cells (h.1.drew.at 0 rfl)⟩
theorem heap_setCells_old{g k:Nat}:∀ {W:World}(vs:List Value)(o:Nat),k≠g->(W.setCells g o vs).heap[k]?=W.heap[k]?
 |_,[],_,_=>rfl
 |W,v::vs,o,h=>by
  rw[World.setCells,heap_setCells_old vs (o+1) h];exact heap_setCell_other _ _ _ _ h
theorem held_setCells{w W:World}{g:Nat}{ob:Obj}(h:Held w [(w.heap.size,ob)] W)(hg:w.heap.size<g)(vs:List Value):Held w [(w.heap.size,ob)] (W.setCells g 0 vs):=
 ⟨fun p hp=>by
  have e:=List.mem_singleton.1 hp;subst e
  exact(heap_setCells_old vs 0 (by show w.heap.size≠g;omega)).trans (h.at 0 rfl),below_setCells (Nat.le_of_lt hg) vs 0 W h.2⟩
theorem own_store{w W:World}{o:Opn}{T:TypeId}(vs:List Value)(h:Held w [(w.heap.size,(.cells (opA o) T (0,0)))] W/\W.there (w.heap.size+1) 0 13/\W.cell? ⟨w.heap.size,0,none⟩=some (.int .i64 o.st)/\W.cell? ⟨w.heap.size,1,none⟩=some (.int .i64 o.sr)/\W.cell? ⟨w.heap.size,2,none⟩=some (.int .i64 o.k)/\W.cell? ⟨w.heap.size,3,none⟩=some (.int .i64 o.pt)/\W.cell? ⟨w.heap.size,4,none⟩=some (.int .i64 o.pr)/\W.cell? ⟨w.heap.size,5,none⟩=some (.int .i64 o.it)/\W.cell? ⟨w.heap.size,6,none⟩=some (.int .i64 o.ir)/\W.cell? ⟨w.heap.size,7,none⟩=some (.int .i64 o.tt)/\W.cell? ⟨w.heap.size,8,none⟩=some (.int .i64 o.tr)/\W.cell? ⟨w.heap.size,9,none⟩=some (.string o.name)/\W.cell? ⟨w.heap.size,10,none⟩=some (.string o.new)/\W.cell? ⟨w.heap.size,11,none⟩=some (.int .i64 o.off)/\W.cell? ⟨w.heap.size,12,none⟩=some (.string o.data)):Held w [(w.heap.size,(.cells (opA o) T (0,0)))] (W.setCells (w.heap.size+1) 0 vs)/\(W.setCells (w.heap.size+1) 0 vs).there (w.heap.size+1) 0 13/\(W.setCells (w.heap.size+1) 0 vs).cell? ⟨w.heap.size,0,none⟩=some (.int .i64 o.st)/\(W.setCells (w.heap.size+1) 0 vs).cell? ⟨w.heap.size,1,none⟩=some (.int .i64 o.sr)/\(W.setCells (w.heap.size+1) 0 vs).cell? ⟨w.heap.size,2,none⟩=some (.int .i64 o.k)/\(W.setCells (w.heap.size+1) 0 vs).cell? ⟨w.heap.size,3,none⟩=some (.int .i64 o.pt)/\(W.setCells (w.heap.size+1) 0 vs).cell? ⟨w.heap.size,4,none⟩=some (.int .i64 o.pr)/\(W.setCells (w.heap.size+1) 0 vs).cell? ⟨w.heap.size,5,none⟩=some (.int .i64 o.it)/\(W.setCells (w.heap.size+1) 0 vs).cell? ⟨w.heap.size,6,none⟩=some (.int .i64 o.ir)/\(W.setCells (w.heap.size+1) 0 vs).cell? ⟨w.heap.size,7,none⟩=some (.int .i64 o.tt)/\(W.setCells (w.heap.size+1) 0 vs).cell? ⟨w.heap.size,8,none⟩=some (.int .i64 o.tr)/\(W.setCells (w.heap.size+1) 0 vs).cell? ⟨w.heap.size,9,none⟩=some (.string o.name)/\(W.setCells (w.heap.size+1) 0 vs).cell? ⟨w.heap.size,10,none⟩=some (.string o.new)/\(W.setCells (w.heap.size+1) 0 vs).cell? ⟨w.heap.size,11,none⟩=some (.int .i64 o.off)/\(W.setCells (w.heap.size+1) 0 vs).cell? ⟨w.heap.size,12,none⟩=some (.string o.data):=
 ⟨held_setCells h.1 (by omega) vs,World.there_setCells h.2.1 _ _ _,op_cells ((held_setCells h.1 (by omega) vs).at 0 rfl)⟩
theorem store_iff{P:Program}{op:Oper}{a:Act}{w:World}{K:Act->World->Prop}{Q:Exit->Act->World->Prop}(ty:TypeId)(x y:Operand)(ho:op.op=.store ty x y)
  (b o:Nat)(cells:Array Value)(hx:a.eval x=.pointer (some ⟨b,o,none⟩))(hy:a.eval y=.agg cells)
  (ht:w.there b o cells.size)(hi:(P.info? ty).map (·.size)=some cells.size)(h1:cells.all (·.oneCell')=true):
  op.wp P a w K Q↔K (a.put op.dst undef) (w.setCells b o cells.toList):=by
 unfold Oper.wp execOp;simp only[ho,hx,hy,Instr.storeAt,Instr.sureAddr,Sem.run_bind,Sem.run_pure,Result.andThen_ok,run_storeVar_mid w b o ty cells ht hi h1];exact Iff.rfl
theorem own_stores(g:Nat)(W:World)(a b c d e f h i j:Int)(n m:ByteArray)(x:Int)(y:ByteArray)(t0 t1 t3 t4 t5 t6 t7 t8 t9 t10 t11 t12 t13 t14 t15 t16 t17 t18 t19 t20 t21 t22 t23 t24 t25 t26 t27 t28 t29 t30 t31 t32 t33 t34 t35 t36 t37 t38 t39 t40 t41:Value)(ds:List Deferred)(K:Act->World->Prop)(Q:Exit->Act->World->Prop)(ty:TypeId)(pos:String)(af:Array Edge)
  (ht:W.there g 0 13):
  Oper.wp Tryz.prog {dst:=none,op:=Op.store 37 (Operand.tmp 2) (Operand.tmp 42),type:=ty,pos:=pos,after:=af,guard:=none} ⟨#[t0,t1,.pointer (some ⟨g,0,none⟩),t3,t4,t5,t6,t7,t8,t9,t10,t11,t12,t13,t14,t15,t16,t17,t18,t19,t20,t21,t22,t23,t24,t25,t26,t27,t28,t29,t30,t31,t32,t33,t34,t35,t36,t37,t38,t39,t40,t41,.agg #[.int .i64 a,.int .i64 b,.int .i64 c,.int .i64 d,.int .i64 e,.int .i64 f,.int .i64 h,.int .i64 i,.int .i64 j,.string n,.string m,.int .i64 x,.string y]],ds⟩ W K Q↔
   K ⟨#[t0,t1,.pointer (some ⟨g,0,none⟩),t3,t4,t5,t6,t7,t8,t9,t10,t11,t12,t13,t14,t15,t16,t17,t18,t19,t20,t21,t22,t23,t24,t25,t26,t27,t28,t29,t30,t31,t32,t33,t34,t35,t36,t37,t38,t39,t40,t41,.agg #[.int .i64 a,.int .i64 b,.int .i64 c,.int .i64 d,.int .i64 e,.int .i64 f,.int .i64 h,.int .i64 i,.int .i64 j,.string n,.string m,.int .i64 x,.string y]],ds⟩ (W.setCells g 0 (opA ⟨a,b,c,d,e,f,h,i,j,n,m,x,y⟩).toList):=
 store_iff 37 (.tmp 2) (.tmp 42) rfl g 0 (opA ⟨a,b,c,d,e,f,h,i,j,n,m,x,y⟩) rfl rfl ht op_info (op_one _)
attribute [local go_sem ↓] own_stores in
set_option maxRecDepth 100000 in
set_option maxHeartbeats 6400000 in
theorem own_core(o p:Opn)(e1:p.st=o.st)(e2:p.sr=o.sr)(e3:p.k=o.k)(w:World)[Tab w]
    (K1:Hid (∀(W:World)[Tab W],Calls Tryz.prog 124 #[.int .i64 o.k,.int .i64 1,.agg #[.int .i64 o.pt,.int .i64 o.pr]] W fun e w'=>e=.returned (.agg #[.int .i64 p.pt,.int .i64 p.pr])/\Below W.heap.size W w'))
    (K2:Hid (∀(W:World)[Tab W],Calls Tryz.prog 124 #[.int .i64 o.k,.int .i64 2,.agg #[.int .i64 o.it,.int .i64 o.ir]] W fun e w'=>e=.returned (.agg #[.int .i64 p.it,.int .i64 p.ir])/\Below W.heap.size W w'))
    (K4:Hid (∀(W:World)[Tab W],Calls Tryz.prog 124 #[.int .i64 o.k,.int .i64 4,.agg #[.int .i64 o.tt,.int .i64 o.tr]] W fun e w'=>e=.returned (.agg #[.int .i64 p.tt,.int .i64 p.tr])/\Below W.heap.size W w'))
    (K8:Hid (∀(W:World)[Tab W],Calls Tryz.prog 125 #[.int .i64 o.k,.int .i64 8,.string o.name] W fun e w'=>e=.returned (.string p.name)/\Below W.heap.size W w'))
    (K16:Hid (∀(W:World)[Tab W],Calls Tryz.prog 125 #[.int .i64 o.k,.int .i64 16,.string o.new] W fun e w'=>e=.returned (.string p.new)/\Below W.heap.size W w'))
    (K32:Hid (∀(W:World)[Tab W],Calls Tryz.prog 126 #[.int .i64 o.k,.int .i64 32,.int .i64 o.off] W fun e w'=>e=.returned (.int .i64 p.off)/\Below W.heap.size W w'))
    (K64:Hid (∀(W:World)[Tab W],Calls Tryz.prog 125 #[.int .i64 o.k,.int .i64 64,.string o.data] W fun e w'=>e=.returned (.string p.data)/\Below W.heap.size W w')):
    Calls Tryz.prog 89 #[.agg #[.int .i64 o.st,.int .i64 o.sr,.int .i64 o.k,.int .i64 o.pt,.int .i64 o.pr,.int .i64 o.it,.int .i64 o.ir,.int .i64 o.tt,.int .i64 o.tr,.string o.name,.string o.new,.int .i64 o.off,.string o.data]] w fun e w'=>e=.returned (.agg (opA p))/\Below w.heap.size w w':=by
  go_enter Tryz.func89,Tryz.ntmps89
  go_wp2_with fail
  have hS0:Held w [(w.heap.size,(.cells (opA o) 37 (0,0)))] ((w.alloc (.cells (opA o) 37)).alloc (.cells (opA zO) 37))/\((w.alloc (.cells (opA o) 37)).alloc (.cells (opA zO) 37)).there (w.heap.size+1) 0 13/\(((w.alloc (.cells (opA o) 37)).alloc (.cells (opA zO) 37)).cell? ⟨w.heap.size,0,none⟩=some (.int .i64 o.st)/\((w.alloc (.cells (opA o) 37)).alloc (.cells (opA zO) 37)).cell? ⟨w.heap.size,1,none⟩=some (.int .i64 o.sr)/\((w.alloc (.cells (opA o) 37)).alloc (.cells (opA zO) 37)).cell? ⟨w.heap.size,2,none⟩=some (.int .i64 o.k)/\((w.alloc (.cells (opA o) 37)).alloc (.cells (opA zO) 37)).cell? ⟨w.heap.size,3,none⟩=some (.int .i64 o.pt)/\((w.alloc (.cells (opA o) 37)).alloc (.cells (opA zO) 37)).cell? ⟨w.heap.size,4,none⟩=some (.int .i64 o.pr)/\((w.alloc (.cells (opA o) 37)).alloc (.cells (opA zO) 37)).cell? ⟨w.heap.size,5,none⟩=some (.int .i64 o.it)/\((w.alloc (.cells (opA o) 37)).alloc (.cells (opA zO) 37)).cell? ⟨w.heap.size,6,none⟩=some (.int .i64 o.ir)/\((w.alloc (.cells (opA o) 37)).alloc (.cells (opA zO) 37)).cell? ⟨w.heap.size,7,none⟩=some (.int .i64 o.tt)/\((w.alloc (.cells (opA o) 37)).alloc (.cells (opA zO) 37)).cell? ⟨w.heap.size,8,none⟩=some (.int .i64 o.tr)/\((w.alloc (.cells (opA o) 37)).alloc (.cells (opA zO) 37)).cell? ⟨w.heap.size,9,none⟩=some (.string o.name)/\((w.alloc (.cells (opA o) 37)).alloc (.cells (opA zO) 37)).cell? ⟨w.heap.size,10,none⟩=some (.string o.new)/\((w.alloc (.cells (opA o) 37)).alloc (.cells (opA zO) 37)).cell? ⟨w.heap.size,11,none⟩=some (.int .i64 o.off)/\((w.alloc (.cells (opA o) 37)).alloc (.cells (opA zO) 37)).cell? ⟨w.heap.size,12,none⟩=some (.string o.data)):=by
    have h1:Held w [(w.heap.size,(.cells (opA o) 37 (0,0)))] (w.alloc (.cells (opA o) 37)):=(Held.refl w).alloc (.cells (opA o) 37) rfl;have h2:=h1.alloc (.cells (opA zO) 37 (0,0)) (World.size_alloc _ _);exact⟨h2.tail,op_there h2.head,op_cells (h2.at 1 rfl)⟩
  have iw0:Tab ((w.alloc (.cells (opA o) 37)).alloc (.cells (opA zO) 37)):=inferInstance;change Code.wp _ _ _ _ ((w.alloc (.cells (opA o) 37)).alloc (.cells (opA zO) 37));generalize ((w.alloc (.cells (opA o) 37)).alloc (.cells (opA zO) 37))=w0 at hS0 iw0 ⊢;have hS0':=own_drew hS0
  go_region_held3 (fun W=>Held w [(w.heap.size,(.cells (opA o) 37 (0,0)))] W/\W.there (w.heap.size+1) 0 13/\W.cell? ⟨w.heap.size,0,none⟩=some (.int .i64 o.st)/\W.cell? ⟨w.heap.size,1,none⟩=some (.int .i64 o.sr)/\W.cell? ⟨w.heap.size,2,none⟩=some (.int .i64 o.k)/\W.cell? ⟨w.heap.size,3,none⟩=some (.int .i64 o.pt)/\W.cell? ⟨w.heap.size,4,none⟩=some (.int .i64 o.pr)/\W.cell? ⟨w.heap.size,5,none⟩=some (.int .i64 o.it)/\W.cell? ⟨w.heap.size,6,none⟩=some (.int .i64 o.ir)/\W.cell? ⟨w.heap.size,7,none⟩=some (.int .i64 o.tt)/\W.cell? ⟨w.heap.size,8,none⟩=some (.int .i64 o.tr)/\W.cell? ⟨w.heap.size,9,none⟩=some (.string o.name)/\W.cell? ⟨w.heap.size,10,none⟩=some (.string o.new)/\W.cell? ⟨w.heap.size,11,none⟩=some (.int .i64 o.off)/\W.cell? ⟨w.heap.size,12,none⟩=some (.string o.data)) (first|(with_reducible assumption)|exact own_store _ (by with_reducible assumption))
    (first
      |(go_at_call 124;(with_reducible refine(K1.out _).mono ?_);rintro e wK1 ⟨rfl,hbK1⟩;have iK1:Tab wK1:=tab_step hbK1;have hSK1:=opOwn_call hbK1 (by assumption))
      |(go_at_call 124;(with_reducible refine(K2.out _).mono ?_);rintro e wK2 ⟨rfl,hbK2⟩;have iK2:Tab wK2:=tab_step hbK2;have hSK2:=opOwn_call hbK2 (by assumption))
      |(go_at_call 124;(with_reducible refine(K4.out _).mono ?_);rintro e wK4 ⟨rfl,hbK4⟩;have iK4:Tab wK4:=tab_step hbK4;have hSK4:=opOwn_call hbK4 (by assumption))
      |(go_at_call 125;(with_reducible refine(K8.out _).mono ?_);rintro e wK8 ⟨rfl,hbK8⟩;have iK8:Tab wK8:=tab_step hbK8;have hSK8:=opOwn_call hbK8 (by assumption))
      |(go_at_call 125;(with_reducible refine(K16.out _).mono ?_);rintro e wK16 ⟨rfl,hbK16⟩;have iK16:Tab wK16:=tab_step hbK16;have hSK16:=opOwn_call hbK16 (by assumption))
      |(go_at_call 126;(with_reducible refine(K32.out _).mono ?_);rintro e wK32 ⟨rfl,hbK32⟩;have iK32:Tab wK32:=tab_step hbK32;have hSK32:=opOwn_call hbK32 (by assumption))
      |(go_at_call 125;(with_reducible refine(K64.out _).mono ?_);rintro e wK64 ⟨rfl,hbK64⟩;have iK64:Tab wK64:=tab_step hbK64;have hSK64:=opOwn_call hbK64 (by assumption)))
  have ht:=hSK64.2.1;have hB:=hSK64.1.below;have hr:=World.rangeAt_setCells_same wK64 (w.heap.size+1) 0 (opA ({st:=o.st,sr:=o.sr,k:=o.k,pt:=p.pt,pr:=p.pr,it:=p.it,ir:=p.ir,tt:=p.tt,tr:=p.tr,name:=p.name,new:=p.new,off:=p.off,data:=p.data}:Opn)).toList ht;have hB8:=below_setCells (show w.heap.size<=w.heap.size+1 by omega) (opA ({st:=o.st,sr:=o.sr,k:=o.k,pt:=p.pt,pr:=p.pr,it:=p.it,ir:=p.ir,tt:=p.tt,tr:=p.tr,name:=p.name,new:=p.new,off:=p.off,data:=p.data}:Opn)).toList 0 _ hB;generalize wK64.setCells (w.heap.size+1) 0 (opA ({st:=o.st,sr:=o.sr,k:=o.k,pt:=p.pt,pr:=p.pr,it:=p.it,ir:=p.ir,tt:=p.tt,tr:=p.tr,name:=p.name,new:=p.new,off:=p.off,data:=p.data}:Opn)).toList=W9 at hr hB8 ⊢;have Z0:W9.cell? ⟨w.heap.size+1,0,none⟩=some (.int .i64 o.st):=hr 0 _ rfl;have Z1:W9.cell? ⟨w.heap.size+1,1,none⟩=some (.int .i64 o.sr):=hr 1 _ rfl;have Z2:W9.cell? ⟨w.heap.size+1,2,none⟩=some (.int .i64 o.k):=hr 2 _ rfl;have Z3:W9.cell? ⟨w.heap.size+1,3,none⟩=some (.int .i64 p.pt):=hr 3 _ rfl;have Z4:W9.cell? ⟨w.heap.size+1,4,none⟩=some (.int .i64 p.pr):=hr 4 _ rfl;have Z5:W9.cell? ⟨w.heap.size+1,5,none⟩=some (.int .i64 p.it):=hr 5 _ rfl;have Z6:W9.cell? ⟨w.heap.size+1,6,none⟩=some (.int .i64 p.ir):=hr 6 _ rfl;have Z7:W9.cell? ⟨w.heap.size+1,7,none⟩=some (.int .i64 p.tt):=hr 7 _ rfl;have Z8:W9.cell? ⟨w.heap.size+1,8,none⟩=some (.int .i64 p.tr):=hr 8 _ rfl;have Z9:W9.cell? ⟨w.heap.size+1,9,none⟩=some (.string p.name):=hr 9 _ rfl;have Z10:W9.cell? ⟨w.heap.size+1,10,none⟩=some (.string p.new):=hr 10 _ rfl;have Z11:W9.cell? ⟨w.heap.size+1,11,none⟩=some (.int .i64 p.off):=hr 11 _ rfl;have Z12:W9.cell? ⟨w.heap.size+1,12,none⟩=some (.string p.data):=hr 12 _ rfl;clear hr ht hB;have HB8:=Lib.hid hB8;clear hB8
  go_wp2_with fail
  refine bodyPost_ret (v:=.agg (opA p)) ?_ rfl ⟨rfl,HB8.out⟩;simp[results,Tryz.results89,go_sem,Z0,Z1,Z2,Z3,Z4,Z5,Z6,Z7,Z8,Z9,Z10,Z11,Z12];unfold opA;rw[e1,e2,e3]
theorem own_any(o:Opn)(w:World)[Tab w]:
  Calls Tryz.prog 89 #[.agg #[.int .i64 o.st,.int .i64 o.sr,.int .i64 o.k,.int .i64 o.pt,.int .i64 o.pr,.int .i64 o.it,.int .i64 o.ir,.int .i64 o.tt,.int .i64 o.tr,.string o.name,.string o.new,.int .i64 o.off,.string o.data]] w fun e w'=>e=.returned (.agg (opA (ownO o)))/\Below w.heap.size w w':=
 own_core o (ownO o) rfl rfl rfl w
  (fun W _=>keptStamp _ _ _ _ (hasF o.k 1) (fun W _=>has_any o.k 1 (by omega) W) W)
  (fun W _=>keptStamp _ _ _ _ (hasF o.k 2) (fun W _=>has_any o.k 2 (by omega) W) W)
  (fun W _=>keptStamp _ _ _ _ (hasF o.k 4) (fun W _=>has_any o.k 4 (by omega) W) W)
  (fun W _=>keptText _ _ _ (hasF o.k 8) (fun W _=>has_any o.k 8 (by omega) W) W)
  (fun W _=>keptText _ _ _ (hasF o.k 16) (fun W _=>has_any o.k 16 (by omega) W) W)
  (fun W _=>keptInt _ _ _ (hasF o.k 32) (fun W _=>has_any o.k 32 (by omega) W) W)
  (fun W _=>keptText _ _ _ (hasF o.k 64) (fun W _=>has_any o.k 64 (by omega) W) W)
end Go.Proofs.YtnnnkaobhkeocaaGreatDoor
namespace Go.Proofs.YtnnnkaobhkeocaaGreatDoor
open Go.RowKit OpMath
theorem bytes_ext{a b:ByteArray}(h:a.toList=b.toList):a=b:=by
 rw[ByteArray.toList_eq,ByteArray.toList_eq] at h;apply ByteArray.ext;exact Array.toList_inj.1 h
theorem opn_ext{a b:Opn}(h1:a.st=b.st)(h2:a.sr=b.sr)(h3:a.k=b.k)(h4:a.pt=b.pt)(h5:a.pr=b.pr)(h6:a.it=b.it)(h7:a.ir=b.ir)(h8:a.tt=b.tt)(h9:a.tr=b.tr)
  (h10:a.name.toList=b.name.toList)(h11:a.new.toList=b.new.toList)(h12:a.off=b.off)(h13:a.data.toList=b.data.toList):a=b:=by
 have e1:=bytes_ext h10;have e2:=bytes_ext h11;have e3:=bytes_ext h13
 cases a
 cases b
 simp_all
theorem run_eqO(a b:Opn)(W:World):(Op.equalIn 10000 37 (.agg (opA a)) (.agg (opA b))).run Tryz.prog W=.ok (decide (a=b)) W:=by
 unfold opA
 go_simp
 by_cases e:a=b
 ·subst e;simp
 ·rw[decide_eq_false e];by_cases h1:a.st=b.st
  ·rw[if_pos h1];by_cases h2:a.sr=b.sr
   ·rw[if_pos h2];by_cases h3:a.k=b.k
    ·rw[if_pos h3];by_cases h4:a.pt=b.pt
     ·rw[if_pos h4];by_cases h5:a.pr=b.pr
      ·rw[if_pos h5];by_cases h6:a.it=b.it
       ·rw[if_pos h6];by_cases h7:a.ir=b.ir
        ·rw[if_pos h7];by_cases h8:a.tt=b.tt
         ·rw[if_pos h8];by_cases h9:a.tr=b.tr
          ·rw[if_pos h9];by_cases h10:a.name.toList=b.name.toList
           ·rw[if_pos h10];by_cases h11:a.new.toList=b.new.toList
            ·rw[if_pos h11];by_cases h12:a.off=b.off
             ·rw[if_pos h12];rw[if_neg fun h13=>e (opn_ext h1 h2 h3 h4 h5 h6 h7 h8 h9 h10 h11 h12 h13)]
             ·rw[if_neg h12]
            ·rw[if_neg h11]
           ·rw[if_neg h10]
          ·rw[if_neg h9]
         ·rw[if_neg h8]
        ·rw[if_neg h7]
       ·rw[if_neg h6]
      ·rw[if_neg h5]
     ·rw[if_neg h4]
    ·rw[if_neg h3]
   ·rw[if_neg h2]
  ·rw[if_neg h1]
end Go.Proofs.YtnnnkaobhkeocaaGreatDoor
