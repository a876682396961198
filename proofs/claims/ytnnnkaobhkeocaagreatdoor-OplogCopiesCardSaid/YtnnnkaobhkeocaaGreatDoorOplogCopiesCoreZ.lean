/-
 What a log tells, and a copy of it, are apart from it: what is done to them turns nothing: for all lists of operations (60 at most), all operations and stamps.
-/
import Derived.Test.YtnnnkaobhkeocaaGreatDoorZ01
import Derived.Test.YtnnnkaobhkeocaaGreatDoorZ01
import Derived.Test.YtnnnkaobhkeocaaGreatDoorZ01
import Derived.Deep.LoopGhost
import Derived.OpenShut
import Derived.Test.YtnnnkaobhkeocaaGreatDoorOplogSameZ
import Derived.Test.YtnnnkaobhkeocaaGreatDoorFoldRefAZ
import Derived.Test.YtnnnkaobhkeocaaGreatDoorZ00
import Derived.Test.YtnnnkaobhkeocaaGreatDoorZ00
namespace Go.Proofs.YtnnnkaobhkeocaaGreatDoor.lawOplogCopies
open Go.RowKit StampMath GraphMath OpMath PackMath
set_option maxRecDepth 100000 in
theorem one_ino:(inodesG newG).length=1:=by decide+kernel
set_option maxRecDepth 100000 in
set_option maxHeartbeats 6400000 in
theorem core{H:GraphHave}(O:OplogHave H)(A:Option Addr)(n c:Nat)(l:List Opn)(o:Opn)(s:St)(hl:∀x∈l,OpFit x)(ho:OpFit o)(w:World)(T:Tab w)(h:OpsIn w w.heap.size A n l):
  Calls Tryz.prog 7 #[.slice A n c,.agg (opA o),.agg (stA s)] w fun e w'=>e=.returned (.bool true)/\Below w.heap.size w w':=by
 obtain⟨u,hu⟩:∃u,u=w.heap.size:=⟨_,rfl⟩;have H0:Hid (Held w [(u+1,.cells #[.int .i64 s.1,.int .i64 s.2] 24),(u,.cells (opA o) 37)] ((w.alloc (.cells (opA o) 37)).alloc (.cells #[.int .i64 s.1,.int .i64 s.2] 24))):=
  Lib.hid (((Held.refl w).alloc _ hu.symm).alloc _ (by simp[hu]))
 have HX:=Lib.hid h;have HF:=Lib.hid hl;have HO:=Lib.hid ho;have HT:=Lib.hid T;have hll:=h.len;clear h hl ho T;unfold stA
 go_enter Tryz.func7,Tryz.ntmps7
 go_upto_region 1 with fail
 rw[<-hu];change Code.wp _ _ _ _ ((w.alloc (.cells (opA o) 37)).alloc (.cells #[.int .i64 s.1,.int .i64 s.2] 24));generalize (w.alloc (.cells (opA o) 37)).alloc (.cells #[.int .i64 s.1,.int .i64 s.2] 24)=w0 at H0 ⊢;clear hu;have D0:=Lib.hid (OplogHave.shown O w0 (tab_below HT.out (Nat.le_refl _) H0.out.below))
 go_wp2_with fail
 refine D0.out.mono ?_;rintro e w1 ⟨rfl,hb1⟩;have H1:=Lib.hid (H0.out.step hb1);clear hb1 D0 H0;by_cases hn:n<=60
 case neg=>
  have hc:(60:Int)<(n:Int):=by omega
  go_wp2_with fail
  go_ret
  exact⟨rfl,H1.out.below⟩
 have hc:¬(60:Int)<(n:Int):=by omega
 have T1:=Lib.hid (tab_below HT.out (Nat.le_refl _) H1.out.below);have HC:Hid (∀W,Below w1.heap.size w1 W->OpAt W u 0 o/\W.cell? ⟨u+1,0,none⟩=some (.int .i64 s.1)/\W.cell? ⟨u+1,1,none⟩=some (.int .i64 s.2)):=Lib.hid fun W hW=>by
  have hW1:=H1.out.step hW;exact⟨op_cells (hW1.at 1 rfl),two_cells (hW1.at 0 rfl)⟩
 have HL1:Hid (OpsIn w1 w1.heap.size A n l):=(HX.out.below H1.out.below).more H1.out.below.size;have B1:=Lib.hid H1.out.below;clear HX H1 HT
 go_wp2_with fail
 refine(GX.new (H:=H) (Below.refl w1.heap.size w1) (fun _=>False) (fun _ h=>h.elim)).mono ?_;rintro e w2 ⟨a0,rfl,g2,hb2⟩;have D2:=Lib.hid (LX.made O ⟨g2,new_fine⟩ T1.out (0,0) (by decide) A n c l (by omega) HF.out ((HL1.out.below hb2).more hb2.size));unfold stA at D2;clear g2 hb2 HL1
 go_wp2_with fail
 refine D2.out.mono ?_;rintro e w3 ⟨a,rfl,h3,_⟩;have HZ:Hid ((fromL newG (0,0) l).fl=(0,0)/\(fromL newG (0,0) l).B=newG):=by rw[from_zero];exact⟨rfl,rfl⟩
 have hfl:=fromL_len newG (0,0) l;generalize fromL newG (0,0) l=x at h3 HZ hfl;obtain⟨m,hm⟩:∃m,m=x.L.length:=⟨_,rfl⟩;have HM:=Lib.hid hm;have hmn:m<=n:=by omega
 obtain⟨γ,hγ⟩:∃γ,γ=graphL x:=⟨_,rfl⟩;have HGG:=Lib.hid hγ;have H3:=Lib.hid h3;have D3:=Lib.hid h3.graph;rw[<-hγ] at D3;clear h3 D2 hm hfl hγ
 go_wp2_with fail
 refine D3.out.mono ?_;rintro e w4 ⟨gw,rfl,f4,hb4⟩;have H4:=Lib.hid (H3.out.step hb4);have F4:=Lib.hid f4;have D4:=Lib.hid (H4.out.ops (by omega));unfold OpsNew at D4;rw[<-HM.out] at D4;clear f4 hb4 D3 H3
 go_wp2_with fail
 refine D4.out.mono ?_;rintro e w5 ⟨v5,rfl,ho5,hb5⟩;obtain⟨X5,c5,rfl,hi5,-⟩:=ops_own (l:=x.L) HM.out.symm ho5;have HI5:=Lib.hid hi5;have h5:=H4.out.step hb5;have H5:=Lib.hid h5;have F5:=Lib.hid (F4.out.step hb5);have T5:=Lib.hid (tab_below T1.out (Nat.le_refl _) h5.below);have D5:=Lib.hid (h5.copy (by omega));clear ho5 hi5 hb5 D4 H4 F4 h5
 go_wp2_with fail
 refine D5.out.mono ?_;rintro e w6 ⟨cc,rfl,h6,_⟩;have D6:=Lib.hid (h6.add T5.out (by omega) o HO.out);obtain⟨⟨z0,z1,z2,z3,z4,z5,z6,z7,z8,z9,z10,z11,z12⟩,-⟩:=HC.out w6 (below_step H5.out.below h6.below);generalize (addL x o).1=y at D6;generalize (addL x o).2=q at D6;unfold opA at D6;clear h6 D5
 go_wp2_with fail
 refine D6.out.mono ?_;rintro e w7 ⟨rfl,h7,_⟩;have D7:=Lib.hid (h7.compact T5.out (by omega) s);obtain⟨-,s0,s1⟩:=HC.out w7 (below_step H5.out.below h7.below);generalize (compactL y s).1=y2 at D7;generalize (compactL y s).2=q2 at D7;unfold stA at D7;clear h7 D6 z0 z1 z2 z3 z4 z5 z6 z7 z8 z9 z10 z11 z12
 go_wp2_with fail
 refine D7.out.mono ?_;rintro e w8 ⟨rfl,h8,_⟩;have hb8:=h8.below;have H8:=Lib.hid (H5.out.step hb8);have F8:=Lib.hid (F5.out.step hb8);have HI8:=Lib.hid ((HI5.out.below hb8).more hb8.size);have D8:=Lib.hid H8.out.graph;clear h8 hb8 D7 s0 s1 H5 F5 HI5
 go_wp2_with fail
 refine D8.out.mono ?_;rintro e w9 ⟨g9,rfl,f9,_⟩;have D9:=Lib.hid (f9.gx.make (77,0) 2);unfold stA at D9;clear f9 D8
 go_wp2_with fail
 refine D9.out.mono ?_;rintro e w10 ⟨rfl,f10,_⟩;have hb10:=f10.below;have H10:=Lib.hid (H8.out.step hb10);have F10:=Lib.hid (F8.out.step hb10);have HI10:=Lib.hid ((HI8.out.below hb10).more hb10.size);have D10:=Lib.hid H10.out.base;clear f10 hb10 D9 H8 F8 HI8
 go_wp2_with fail
 refine D10.out.mono ?_;rintro e w11 ⟨g11,rfl,f11,_⟩;have D11:=Lib.hid (f11.gx.make (78,0) 2);unfold stA at D11;clear f11 D10
 go_wp2_with fail
 refine D11.out.mono ?_;rintro e w12 ⟨rfl,f12,_⟩;have hb12:=f12.below;have H12:=Lib.hid (H10.out.step hb12);have F12:=Lib.hid (F10.out.step hb12);have HI12:=Lib.hid ((HI10.out.below hb12).more hb12.size);have D12:=Lib.hid (H12.out.ops (by omega));unfold OpsNew at D12;rw[<-HM.out] at D12;clear f12 hb12 D11 H10 F10 HI10
 go_wp2_with fail
 refine D12.out.mono ?_;rintro e w13 ⟨v13,rfl,ho13,hb13⟩;obtain⟨X13,c13,rfl,-⟩:=ops_own (l:=x.L) HM.out.symm ho13;have HO13:=Lib.hid ho13;have HB13:=Lib.hid hb13;clear ho13 hb13 D12
 go_wp2_with fail
 go_loopg [15] (m+1) (fun gk i wr=>∃(k:Nat)(xs:List Value),i=.int .i64 (k:Int)/\gk+k=m+1/\k<=m/\Hid (wr.ownsRow w12.heap.size 37 13 (.slice X13 m c13) m xs)/\Hid (Below w12.heap.size w12 wr))
 case atStart=>exact⟨0,_,by go_num,by omega,by omega,HO13,HB13⟩
 case round=>
  clear HO13 HB13;obtain⟨k,xs,rfl,hgk,hk,HW,HB⟩:=hrel;have HG:=Lib.hid hgk;clear hgk;by_cases hlt:k<m
  ·obtain⟨gi,cq,hX,hge,hgl⟩:=HW.out.form (by omega)
   injection hX with hX1 hX2 hX3
   subst hX1 hX3;have hxl:xs.length=m*13:=HW.out.1;have hj:k*13+9<m*13:=by omega
   have hcell:wr.cell? ⟨gi,k*13+9,none⟩=some (xs[k*13+9]'(by omega)):=by
    rw[HW.out.cellAt _ hj];exact List.getElem?_eq_getElem (by omega)
   have hfz:=HW.out.frozenAt (k*13+9);obtain⟨k1,k2⟩:=HW.out.stored (k*13+9) (.string ⟨#[122,122]⟩);have HW2:=Lib.hid k1;have HB2:=Lib.hid (HB.out.setCell (p:=⟨gi,k*13+9,none⟩) hge (.string ⟨#[122,122]⟩));have hi1:(k:Int)<(m:Int):=by omega
   have hi0:(0:Int)<=(k:Int):=by omega
   generalize xs[k*13+9]'(by omega)=ov at hcell;clear k1 k2 hge hgl hxl hj
   go_wp2_with fail
   go_roundg (gk-1)
   case measure=>have:=HG.out;omega
   case rel=>exact⟨k+1,_,by go_num,by have:=HG.out;omega,by omega,HW2,HB2⟩
  ·have hcn:¬(k:Int)<(m:Int):=by omega
   have H14:=Lib.hid (H12.out.step HB.out);have F14:=Lib.hid (F12.out.step HB.out);have HI14:=Lib.hid ((HI12.out.below HB.out).more HB.out.size);have D14:=Lib.hid H14.out.graph;rw[<-HGG.out] at D14;clear hlt HW HB H12 F12 HI12
   go_wp2_with fail
   refine D14.out.mono ?_;rintro e w15 ⟨g15,rfl,f15,hb15⟩;have H15:=Lib.hid (H14.out.step hb15);have f14:=F14.out.step hb15;have HI15:=Lib.hid ((HI14.out.below hb15).more hb15.size);obtain⟨S1,r1,_⟩:=f15.gx.at';obtain⟨S2,r2,_⟩:=f14.gx.at';have D15:=Lib.hid (sameO_two H g15 gw S1 S2 γ w15 r1 r2 f15.fine.ok);clear f15 f14 r1 r2 hb15 D14 H14 F14 HI14
   go_wp2_with fail
   refine D15.out.mono ?_;rintro e w16 ⟨rfl,hb16⟩;have H16:=Lib.hid (H15.out.step hb16);have HI16:=Lib.hid ((HI15.out.below hb16).more hb16.size);have D16:=Lib.hid (H16.out.ops (by omega));unfold OpsNew at D16;rw[<-HM.out] at D16;clear hb16 D15 H15 HI15
   go_wp2_with fail
   refine D16.out.mono ?_;rintro e w17 ⟨v17,rfl,ho17,hb17⟩;obtain⟨X17,c17,rfl,hi17,-⟩:=ops_own (l:=x.L) HM.out.symm ho17;have H17:=Lib.hid (H16.out.step hb17);have D17:=Lib.hid (refOps X17 X5 m c17 m c5 x.L x.L (by omega) (by omega) w17 hi17 ((HI16.out.below hb17).more hb17.size));rw[decide_eq_true rfl] at D17;clear ho17 hi17 hb17 D16 H16 HI16
   go_wp2_with fail
   refine D17.out.mono ?_;rintro e w18 ⟨rfl,hb18⟩;have H18:=Lib.hid (H17.out.step hb18);have D18:=Lib.hid H18.out.floor;rw[HZ.out.1] at D18;unfold stA at D18;have hv:∀W:World,(Op.equalIn 10000 24 (.agg #[.int .i64 0,.int .i64 0]) (.agg #[.int .i64 0,.int .i64 0])).run Tryz.prog W=.ok true W:=fun W=>by rw[run_eqSt];rfl
   clear hb18 D17 H17
   go_wp2_with fail
   refine D18.out.mono ?_;rintro e w19 ⟨rfl,hb19⟩;have H19:=Lib.hid (H18.out.step hb19);have D19:=Lib.hid H19.out.base;rw[HZ.out.2] at D19;clear hb19 D18 H18
   go_wp2_with fail
   refine D19.out.mono ?_;rintro e w20 ⟨g20,rfl,f20,hb20⟩;have H20:=Lib.hid (H19.out.step hb20);obtain⟨S3,r3,_⟩:=f20.gx.at';have D20:=Lib.hid (told_inos H r3 f20.fine.ok (Below.refl _ _));unfold InosPost at D20;rw[one_ino] at D20;clear f20 r3 hb20 D19 H19
   go_wp2_with fail
   refine D20.out.mono ?_;rintro e w21 ⟨X21,c21,rfl,_,_,_,_,hb21⟩;have HE:=Lib.hid (below_step B1.out (below_step H20.out.below hb21));clear hb21 D20 H20
   go_wp2_with fail
   go_ret
   exact⟨rfl,HE.out⟩
theorem walk0{H:GraphHave}(O:OplogHave H)(a0A:Option Addr)(a0n:Nat)(a0c:Nat)(a0x:List Opn)(o:Opn)(s:St)(w:World)[T:Tab w](hl:∀x∈a0x,OpFit x)(ho:OpFit o)(h:OpsIn w w.heap.size a0A a0n a0x):
  Calls Tryz.prog 7 #[.slice a0A a0n a0c,.agg (opA o),.agg (stA s)] w fun e w'=>e=.returned (.bool true)/\Below w.heap.size w w':=
 core O a0A a0n a0c a0x o s hl ho w T h
end Go.Proofs.YtnnnkaobhkeocaaGreatDoor.lawOplogCopies
