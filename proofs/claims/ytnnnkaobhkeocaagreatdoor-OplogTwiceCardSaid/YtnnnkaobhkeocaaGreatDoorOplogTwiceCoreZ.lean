/-
 What is there isn't added again; what isn't above the floor neither; a copy is apart; a log that is nil has nothing: for all lists of operations (60 at most), all stamps and operations.
-/
import Derived.Test.YtnnnkaobhkeocaaGreatDoorZ01
import Derived.Test.YtnnnkaobhkeocaaGreatDoorZ01
import Derived.Test.YtnnnkaobhkeocaaGreatDoorZ01
import Derived.Deep.LoopGhost
import Derived.OpenShut
namespace Go.Proofs.YtnnnkaobhkeocaaGreatDoor.lawOplogTwice
open Go.RowKit StampMath GraphMath OpMath PackMath
set_option maxRecDepth 100000 in
set_option maxHeartbeats 6400000 in
theorem core{H:GraphHave}(O:OplogHave H)(A:Option Addr)(n c:Nat)(l:List Opn)(s:St)(o:Opn)(hl:∀x∈l,OpFit x)(ho:OpFit o)(w:World)(T:Tab w)(h:OpsIn w w.heap.size A n l):
  Calls Tryz.prog 6 #[.slice A n c,.agg (stA s),.agg (opA o)] w fun e w'=>e=.returned (.bool true)/\Below w.heap.size w w':=by
 obtain⟨u,hu⟩:∃u,u=w.heap.size:=⟨_,rfl⟩;have H0:Hid (Held w [(u+1,.cells (opA o) 37),(u,.cells #[.int .i64 s.1,.int .i64 s.2] 24)] ((w.alloc (.cells #[.int .i64 s.1,.int .i64 s.2] 24)).alloc (.cells (opA o) 37))):=
  Lib.hid (((Held.refl w).alloc _ hu.symm).alloc _ (by simp[hu]))
 have HX:=Lib.hid h;have HF:=Lib.hid hl;have HO:=Lib.hid ho;have HT:=Lib.hid T;have hll:=h.len;clear h hl ho T;unfold stA
 go_enter Tryz.func6,Tryz.ntmps6
 go_upto_region 1 with fail
 rw[<-hu];change Code.wp _ _ _ _ ((w.alloc (.cells #[.int .i64 s.1,.int .i64 s.2] 24)).alloc (.cells (opA o) 37));generalize (w.alloc (.cells #[.int .i64 s.1,.int .i64 s.2] 24)).alloc (.cells (opA o) 37)=w0 at H0 ⊢;clear hu;have D0:=Lib.hid (OplogHave.shown O w0 (tab_below HT.out (Nat.le_refl _) H0.out.below))
 go_wp2_with fail
 refine D0.out.mono ?_;rintro e w1 ⟨rfl,hb1⟩;have H1:=Lib.hid (H0.out.step hb1);clear hb1 D0 H0;by_cases hn:n<=60
 case neg=>
  have hc:(60:Int)<(n:Int):=by omega
  go_wp2_with fail
  go_ret
  exact⟨rfl,H1.out.below⟩
 have hc:¬(60:Int)<(n:Int):=by omega
 have T1:=Lib.hid (tab_below HT.out (Nat.le_refl _) H1.out.below);have HC:Hid (∀W,Below w1.heap.size w1 W->(W.cell? ⟨u,0,none⟩=some (.int .i64 s.1)/\W.cell? ⟨u,1,none⟩=some (.int .i64 s.2))/\OpAt W (u+1) 0 o):=Lib.hid fun W hW=>by
  have hW1:=H1.out.step hW;exact⟨two_cells (hW1.at 1 rfl),op_cells (hW1.at 0 rfl)⟩
 have HL:Hid (∀W,Below w1.heap.size w1 W->OpsIn W W.heap.size A n l):=Lib.hid fun W hW=>(HX.out.below (below_step H1.out.below hW)).more (below_step H1.out.below hW).size;have B1:=Lib.hid H1.out.below;clear HX H1 HT
 go_wp2_with fail
 refine(GX.new (H:=H) (Below.refl w1.heap.size w1) (fun _=>False) (fun _ h=>h.elim)).mono ?_;rintro e w2 ⟨a0,rfl,g2,hb2⟩;have D2:=Lib.hid (LX.made O ⟨g2,new_fine⟩ T1.out (0,0) (by decide) A n c l (by omega) HF.out (HL.out w2 hb2));unfold stA at D2;clear g2 hb2
 go_wp2_with fail
 refine D2.out.mono ?_;rintro e w3 ⟨a,rfl,h3,_⟩;have HSH:Hid (∀b∈l,Shut (compactL (fromL newG (0,0) l) s).1 b):=Lib.hid fun b hb=>shut_compact (adds_shut l _ b hb) s;have hfl:=fromL_len newG (0,0) l;have D3:=Lib.hid (h3.compact T1.out (by omega) s);obtain⟨⟨s0,s1⟩,-⟩:=HC.out w3 h3.below;unfold stA at D3;have hcl:=compact_len (fromL newG (0,0) l) s;generalize (compactL (fromL newG (0,0) l) s).1=x1 at D3 HSH hcl;generalize (compactL (fromL newG (0,0) l) s).2=r1 at D3;have hx1:x1.L.length<=n:=by omega
 clear h3 D2 hfl hcl
 go_wp2_with fail
 refine D3.out.mono ?_;rintro e w4 ⟨rfl,h4,_⟩;have D4:=Lib.hid (h4.ops (by omega));have H4:=Lib.hid h4;unfold OpsNew at D4;clear h4 D3 s0 s1;obtain⟨m,hm⟩:∃m,m=x1.L.length:=⟨_,rfl⟩;rw[<-hm] at D4 hx1;have HM:=Lib.hid hm;clear hm
 go_wp2_with fail
 refine D4.out.mono ?_;rintro e w5 ⟨v5,rfl,ho5,hb5⟩;obtain⟨X5,c5,rfl,-⟩:=ops_own (l:=x1.L) HM.out.symm ho5;have H5:=Lib.hid (H4.out.step hb5);clear ho5 hb5 D4 H4
 go_wp2_with fail
 go_loopg [10] (n+1) (fun gk i wr=>∃k:Nat,i=.int .i64 (k:Int)/\gk+k=n+1/\k<=n/\Hid (LX O w1 wr (fun _=>False) n a x1))
 case atStart=>exact⟨0,by go_num,by omega,by omega,H5⟩
 case round=>
  clear H5;obtain⟨k,rfl,hgk,hk,HR⟩:=hrel;have HG:=Lib.hid hgk;clear hgk;by_cases hlt:k<n
  ·obtain⟨gi,oo,rfl,hg,hrow⟩:=(HL.out wr HR.out.below).row (by omega);have hca:=hrow k (by omega);have HS:=Lib.hid (HSH.out _ (List.getElem_mem (show k<l.length by omega)));have HFT:=Lib.hid (HF.out _ (List.getElem_mem (show k<l.length by omega)));generalize l[k]=d at hca HS HFT;have D:=Lib.hid (HR.out.add T1.out (by omega) d HFT.out);rw[add_no HS.out] at D;dsimp only at D;have hi1:(k:Int)<(n:Int):=by omega
   have hi0:(0:Int)<=(k:Int):=by omega
   obtain⟨c0,c1,c2,c3,c4,c5,c6,c7,c8,c9,c10,c11,c12⟩:=hca;clear hrow hg HR;unfold opA at D
   go_wp2_with fail
   refine D.out.mono ?_;rintro e w6 ⟨rfl,h6,_⟩;have H6:=Lib.hid (h6.tight (k:=n) (by have:=HM.out;omega));clear h6 D c0 c1 c2 c3 c4 c5 c6 c7 c8 c9 c10 c11 c12
   go_wp2_with fail
   go_roundg (gk-1)
   case measure=>have:=HG.out;omega
   case rel=>exact⟨k+1,by go_num,by have:=HG.out;omega,by omega,H6⟩
  ·have hcn:¬(k:Int)<(n:Int):=by omega
   clear hlt;have D6:=Lib.hid (HR.out.two (by omega));clear HR
   go_wp2_with fail
   refine D6.out.mono ?_;rintro e w6 ⟨cc,rfl,p6,hb6⟩;have P6:=Lib.hid p6;have D7:=Lib.hid (p6.two.ops (by omega));unfold OpsNew at D7;rw[<-HM.out] at D7;clear p6 hb6 D6
   go_wp2_with fail
   refine D7.out.mono ?_;rintro e w7 ⟨v7,rfl,ho7,hb7⟩;obtain⟨X7,c7,rfl,-⟩:=ops_own (l:=x1.L) HM.out.symm ho7;have p7:=P6.out.step hb7;have P7:=Lib.hid p7;have D8:=Lib.hid (p7.add T1.out (by omega) o HO.out);obtain⟨-,z0,z1,z2,z3,z4,z5,z6,z7,z8,z9,z10,z11,z12⟩:=HC.out w7 p7.below;have HLE:=Lib.hid (add_len x1 o);have HHA:=Lib.hid (add_has x1 o);have HSO:=Lib.hid (add_shut x1 o);generalize (addL x1 o).1=x2 at D8 HLE HHA HSO;generalize (addL x1 o).2=q at D8 HLE HHA;clear p7 ho7 hb7 D7;unfold opA at D8
   go_wp2_with fail
   refine D8.out.mono ?_;rintro e w8 ⟨rfl,p8,_⟩;have P8:=Lib.hid p8;clear p8 D8 P7 P6 z0 z1 z2 z3 z4 z5 z6 z7 z8 z9 z10 z11 z12
   cases q with
   |false=>
    have hlen:x2.L.length=m+0:=by have h1:=HLE.out;have h2:=HM.out;simp at h1;omega
    have HL2:Hid (x2.L.length=m+0):=hlen;clear hlen HLE;have D9:=Lib.hid (P8.out.two.ops (by omega));unfold OpsNew at D9;rw[<-HM.out] at D9
    go_wp2_with fail
    refine D9.out.mono ?_;rintro e w9 ⟨v9,rfl,ho9,hb9⟩;obtain⟨X9,c9,rfl,-⟩:=ops_own (l:=x1.L) HM.out.symm ho9;have P9:=Lib.hid (P8.out.step hb9);have D10:=Lib.hid (P9.out.one.ops (by omega));unfold OpsNew at D10;rw[HL2.out] at D10;clear ho9 hb9 D9 P8
    go_wp2_with fail
    refine D10.out.mono ?_;rintro e w10 ⟨v10,rfl,ho10,hb10⟩;obtain⟨X10,c10,rfl,-⟩:=ops_own (l:=x2.L) HL2.out ho10;have p10:=P9.out.step hb10;have D11:=Lib.hid (p10.add T1.out (by omega) o HO.out);rw[add_no HSO.out] at D11;dsimp only at D11;obtain⟨-,z0,z1,z2,z3,z4,z5,z6,z7,z8,z9,z10,z11,z12⟩:=HC.out w10 p10.below;clear ho10 hb10 D10 P9 p10;unfold opA at D11
    go_wp2_with fail
    refine D11.out.mono ?_;rintro e w11 ⟨rfl,p11,_⟩;have P11:=Lib.hid p11;have D12:=Lib.hid (p11.one.has (by omega) (oSt o));rw[HHA.out] at D12;obtain⟨-,y0,y1,-⟩:=HC.out w11 p11.below;clear z0 z1 z2 z3 z4 z5 z6 z7 z8 z9 z10 z11 z12 D11 p11;unfold stA at D12;rw[Bool.false_or] at D12;obtain⟨r,hr⟩:∃r,r=hasL x1 (oSt o):=⟨_,rfl⟩;rw[<-hr] at D12;have HRR:=Lib.hid hr;clear hr
    go_wp2_with fail
    refine D12.out.mono ?_;rintro e w12 ⟨rfl,hb12⟩;have P12:=Lib.hid (P11.out.step hb12);clear hb12 D12 P11 y0 y1;have D13:=Lib.hid (P12.out.two.has (by omega) (oSt o));rw[<-HRR.out] at D13;obtain⟨-,y0,y1,-⟩:=HC.out w12 P12.out.below;unfold stA at D13
    go_wp2_with fail
    refine D13.out.mono ?_;rintro e w13 ⟨rfl,hb13⟩;have P12:=Lib.hid (P12.out.step hb13);clear hb13 D13 y0 y1;have W13:=P12.out.below;obtain⟨⟨s0,s1⟩,z0,z1,z2,z3,z4,z5,z6,z7,z8,z9,z10,z11,z12⟩:=HC.out _ W13;have D13:=Lib.hid (O.nilAdd o w13);unfold opA at D13;have B13:=Lib.hid W13;clear W13
    go_wp2_with fail
    refine D13.out.mono ?_;rintro e w14 ⟨rfl,hb14⟩;have B14:=Lib.hid (below_step B13.out hb14);clear D13 hb14 s0 s1 z0 z1 z2 z3 z4 z5 z6 z7 z8 z9 z10 z11 z12 P12 B13;obtain⟨⟨s0,s1⟩,-⟩:=HC.out _ B14.out;have D14:=Lib.hid (O.nilCompact s w14);unfold stA at D14
    go_wp2_with fail
    refine D14.out.mono ?_;rintro e w15 ⟨rfl,hb15⟩;have B15:=Lib.hid (below_step B14.out hb15);clear D14 hb15 s0 s1 B14;have D15:=Lib.hid (O.nilGraph w15)
    go_wp2_with fail
    refine D15.out.mono ?_;rintro e w16 ⟨rfl,hb16⟩;have B16:=Lib.hid (below_step B15.out hb16);clear D15 hb16 B15;obtain⟨⟨s0,s1⟩,-⟩:=HC.out _ B16.out;have D16:=Lib.hid (O.nilHas s w16);unfold stA at D16
    go_wp2_with fail
    refine D16.out.mono ?_;rintro e w17 ⟨rfl,hb17⟩;have B17:=Lib.hid (below_step B16.out hb17);clear D16 hb17 B16 s0 s1;obtain⟨⟨s0,s1⟩,-⟩:=HC.out _ B17.out;have D17:=Lib.hid (O.nilMade s A n c w17);unfold stA at D17
    go_wp2_with fail
    refine D17.out.mono ?_;rintro e w18 ⟨rfl,hb18⟩;have B18:=Lib.hid (below_step B17.out hb18);clear D17 hb18 B17 s0 s1
    go_wp2_with fail
    go_ret
    exact⟨rfl,below_step B1.out B18.out⟩
   |true=>
    have hlen:x2.L.length=m+1:=by have h1:=HLE.out;have h2:=HM.out;simp at h1;omega
    have HL2:Hid (x2.L.length=m+1):=hlen;clear hlen HLE;have D9:=Lib.hid (P8.out.two.ops (by omega));unfold OpsNew at D9;rw[<-HM.out] at D9
    go_wp2_with fail
    refine D9.out.mono ?_;rintro e w9 ⟨v9,rfl,ho9,hb9⟩;obtain⟨X9,c9,rfl,-⟩:=ops_own (l:=x1.L) HM.out.symm ho9;have P9:=Lib.hid (P8.out.step hb9);have D10:=Lib.hid (P9.out.one.ops (by omega));unfold OpsNew at D10;rw[HL2.out] at D10;clear ho9 hb9 D9 P8
    go_wp2_with fail
    refine D10.out.mono ?_;rintro e w10 ⟨v10,rfl,ho10,hb10⟩;obtain⟨X10,c10,rfl,-⟩:=ops_own (l:=x2.L) HL2.out ho10;have p10:=P9.out.step hb10;have D11:=Lib.hid (p10.add T1.out (by omega) o HO.out);rw[add_no HSO.out] at D11;dsimp only at D11;obtain⟨-,z0,z1,z2,z3,z4,z5,z6,z7,z8,z9,z10,z11,z12⟩:=HC.out w10 p10.below;clear ho10 hb10 D10 P9 p10;unfold opA at D11
    go_wp2_with fail
    refine D11.out.mono ?_;rintro e w11 ⟨rfl,p11,_⟩;have P11:=Lib.hid p11;have D12:=Lib.hid (p11.one.has (by omega) (oSt o));rw[HHA.out] at D12;obtain⟨-,y0,y1,-⟩:=HC.out w11 p11.below;clear z0 z1 z2 z3 z4 z5 z6 z7 z8 z9 z10 z11 z12 D11 p11;unfold stA at D12;rw[Bool.true_or] at D12
    go_wp2_with fail
    refine D12.out.mono ?_;rintro e w12 ⟨rfl,hb12⟩;have P12:=Lib.hid (P11.out.step hb12);clear hb12 D12 P11 y0 y1
    skip
    have W13:=P12.out.below;obtain⟨⟨s0,s1⟩,z0,z1,z2,z3,z4,z5,z6,z7,z8,z9,z10,z11,z12⟩:=HC.out _ W13;have D13:=Lib.hid (O.nilAdd o w12);unfold opA at D13;have B13:=Lib.hid W13;clear W13
    go_wp2_with fail
    refine D13.out.mono ?_;rintro e w14 ⟨rfl,hb14⟩;have B14:=Lib.hid (below_step B13.out hb14);clear D13 hb14 s0 s1 z0 z1 z2 z3 z4 z5 z6 z7 z8 z9 z10 z11 z12 P12 B13;obtain⟨⟨s0,s1⟩,-⟩:=HC.out _ B14.out;have D14:=Lib.hid (O.nilCompact s w14);unfold stA at D14
    go_wp2_with fail
    refine D14.out.mono ?_;rintro e w15 ⟨rfl,hb15⟩;have B15:=Lib.hid (below_step B14.out hb15);clear D14 hb15 s0 s1 B14;have D15:=Lib.hid (O.nilGraph w15)
    go_wp2_with fail
    refine D15.out.mono ?_;rintro e w16 ⟨rfl,hb16⟩;have B16:=Lib.hid (below_step B15.out hb16);clear D15 hb16 B15;obtain⟨⟨s0,s1⟩,-⟩:=HC.out _ B16.out;have D16:=Lib.hid (O.nilHas s w16);unfold stA at D16
    go_wp2_with fail
    refine D16.out.mono ?_;rintro e w17 ⟨rfl,hb17⟩;have B17:=Lib.hid (below_step B16.out hb17);clear D16 hb17 B16 s0 s1;obtain⟨⟨s0,s1⟩,-⟩:=HC.out _ B17.out;have D17:=Lib.hid (O.nilMade s A n c w17);unfold stA at D17
    go_wp2_with fail
    refine D17.out.mono ?_;rintro e w18 ⟨rfl,hb18⟩;have B18:=Lib.hid (below_step B17.out hb18);clear D17 hb18 B17 s0 s1
    go_wp2_with fail
    go_ret
    exact⟨rfl,below_step B1.out B18.out⟩
theorem walk0{H:GraphHave}(O:OplogHave H)(a0A:Option Addr)(a0n:Nat)(a0c:Nat)(a0x:List Opn)(s:St)(o:Opn)(w:World)[T:Tab w](hl:∀x∈a0x,OpFit x)(ho:OpFit o)(h:OpsIn w w.heap.size a0A a0n a0x):
  Calls Tryz.prog 6 #[.slice a0A a0n a0c,.agg (stA s),.agg (opA o)] w fun e w'=>e=.returned (.bool true)/\Below w.heap.size w w':=
 core O a0A a0n a0c a0x s o hl ho w T h
end Go.Proofs.YtnnnkaobhkeocaaGreatDoor.lawOplogTwice
