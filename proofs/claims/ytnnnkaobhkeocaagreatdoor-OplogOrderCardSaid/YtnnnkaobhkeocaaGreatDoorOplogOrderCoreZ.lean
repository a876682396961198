/-
 The same operations in two orders make the same log: for all lists of operations (60 at most) and all turns.
-/
import Derived.Test.YtnnnkaobhkeocaaGreatDoorZ01
import Derived.Test.YtnnnkaobhkeocaaGreatDoorZ01
import Derived.Test.YtnnnkaobhkeocaaGreatDoorZ01
import Derived.Deep.LoopGhost
import Derived.OpenShut
import Derived.Test.YtnnnkaobhkeocaaGreatDoorOplogSameZ
import Derived.Test.YtnnnkaobhkeocaaGreatDoorFoldOpenZ
import Derived.Test.YtnnnkaobhkeocaaGreatDoorZ04
import Derived.Test.YtnnnkaobhkeocaaGreatDoorFoldRefAZ
import Derived.Test.YtnnnkaobhkeocaaGreatDoorZ06
import Derived.Test.YtnnnkaobhkeocaaGreatDoorZ06
import Derived.Deep.CutBlock
import Derived.Deep.CutRange
import Derived.Deep.MidRow
import Derived.StillTailTactics
namespace Go.Proofs.YtnnnkaobhkeocaaGreatDoor.lawOplogOrder
open Go.RowKit Go.Shelf Go.Sort StampMath GraphMath OpMath PackMath
theorem u8_bounds{x:Int}(h:(Lit.int .u8 x).wf=true):0<=x/\x<=255:=by
 unfold Lit.wf at h;rw[Bool.and_eq_true,decide_eq_true_iff,decide_eq_true_iff] at h;have h1:IntKind.u8.min=0:=by decide
 have h2:IntKind.u8.max=255:=by decide
 rw[h1,h2] at h;exact h
theorem row_op{w0 W:World}{gb:Nat}{d0 dk:Array Opn}(S:SWK opE 13 w0 gb 0 dk W)(R:RowK opE 13 w0 gb 0 d0)(hs:dk.size=d0.size){i:Nat}(hi:i<dk.size):OpAt W gb (i*13) dk[i]!:=by
 have h:=S.holds R.hblk R.hH hs;have e:∀(c:Nat)(hc:c<13),W.cell? ⟨gb,i*13+c,none⟩=some (opE dk[i]!)[c]!:=fun c hc=>by
  have:=(h.cell hi hc).1
  rwa[Nat.zero_add] at this
 exact⟨e 0 (by omega),e 1 (by omega),e 2 (by omega),e 3 (by omega),e 4 (by omega),e 5 (by omega),e 6 (by omega),e 7 (by omega),e 8 (by omega),e 9 (by omega),e 10 (by omega),e 11 (by omega),e 12 (by omega)⟩
theorem swk_there{w0 W:World}{gb:Nat}{d0 dk:Array Opn}(S:SWK opE 13 w0 gb 0 dk W)(R:RowK opE 13 w0 gb 0 d0)(hs:dk.size=d0.size){i:Nat}(hi:i<dk.size)(o:Opn):W.there gb (i*13) (opA o).size:=by
 intro j hj;have hj':j<13:=hj;have:=(S.holds R.hblk R.hH hs).cell hi hj';rw[Nat.zero_add] at this;exact⟨by rw[this.1];rfl,this.2⟩
theorem row_set{w0 W:World}{gb:Nat}{d0 dk:Array Opn}(S:SWK opE 13 w0 gb 0 dk W)(R:RowK opE 13 w0 gb 0 d0){i:Nat}(hi:i<dk.size)(o:Opn):SWK opE 13 w0 gb 0 (dk.setIfInBounds i o) (W.setCells gb (i*13) (opA o).toList):=by
 have:=swk_put S R.hblk (i*13) (opE o) (by
  have:=rowK_bnd dk 13 i hi
  rw[opE_len];exact this) (setMany_one opE opE_len dk i hi o)
 rwa[Nat.zero_add] at this
theorem swp_two(d:Array Opn)(i j:Nat){p q:Opn}(hp:p=d[i]!)(hq:q=d[j]!):(d.setIfInBounds i q).setIfInBounds j p=swp d i j:=by
 rw[hp,hq];unfold swp
 rfl
theorem swp_mem(d:Array Opn){i j:Nat}(hi:i<d.size)(hj:j<d.size)(a:Opn):a∈(swp d i j).toList↔a∈d.toList:=
 (perm_of (swp_permIn d 0 d.size i j (Nat.zero_le _) hi (Nat.zero_le _) hj (Nat.le_refl _))).mem_iff
set_option maxRecDepth 100000 in
set_option maxHeartbeats 12800000 in
theorem core{H:GraphHave}(O:OplogHave H)(P:FoldHave H)(Q:SortOwn)(A:Option Addr)(n c:Nat)(l:List Opn)(At:Option Addr)(nt ct:Nat)(tx:List Int)(hl:∀x∈l,OpFit x)(htx:∀x∈tx,(Lit.int .u8 x).wf=true)(w:World)(T:Tab w)(h:OpsIn w w.heap.size A n l)(ht:U8sIn w w.heap.size At nt tx):
  Calls Tryz.prog 5 #[.slice A n c,.slice At nt ct] w fun e w'=>e=.returned (.bool true)/\Below w.heap.size w w':=by
 have HX:=Lib.hid h;have HF:=Lib.hid hl;have HTX:=Lib.hid ht;have HTB:=Lib.hid fun x hx=>u8_bounds (htx x hx);have htl:tx.length=nt:=by have:=ht.1;rwa[List.length_map] at this
 have HTL:=Lib.hid htl;clear h hl ht htx htl
 go_enter Tryz.func5,Tryz.ntmps5
 go_wp2_with fail
 refine(OplogHave.shown O _ T).mono ?_;rintro e w1 ⟨rfl,hb1⟩;have B3:=Lib.hid hb1;have T3:=Lib.hid (tab_below T (Nat.le_refl _) hb1);clear hb1;by_cases hn:n<=60
 case neg=>
  have hc:(60:Int)<(n:Int):=by omega
  go_wp2_with fail
  go_ret
  exact⟨rfl,B3.out⟩
 have hc:¬(60:Int)<(n:Int):=by omega
 have hll:l.length=n:=HX.out.len;have hsl:=sort_len l;have HX1:Hid (∀W,Below w1.heap.size w1 W->OpsIn W W.heap.size A n l):=Lib.hid fun W hW=>(HX.out.below (below_step B3.out hW)).more (below_step B3.out hW).size;have D:=Lib.hid (have:=T3.out;Q.sort A n c l w1 (by omega) HF.out (HX1.out _ (Below.refl _ _)));unfold OpsNew at D;have HDF:Hid (∀x∈sortO l,OpFit x):=Lib.hid fun x hx=>HF.out x (sort_sub x hx);obtain⟨m,hm⟩:∃m,m=(sortO l).length:=⟨_,rfl⟩;have HM:=Lib.hid hm;rw[<-hm] at D hsl;clear hm
 go_wp2_with fail
 refine D.out.mono ?_;rintro e w3 ⟨v3,rfl,hown4,hb4⟩;obtain⟨B,cB,rfl,-⟩:=ops_own (l:=sortO l) HM.out.symm hown4;have HO4:=Lib.hid hown4;have HB4:=Lib.hid hb4;clear hown4 hb4 D
 go_upto_block 0 with fail
 go_cut [7,8,9] from 19 to 62 (fun _ _ _ wx=>∃bl:List Opn,Hid (wx.ownsRow w1.heap.size 37 13 (.slice B m cB) m (flat (bl.map opA)))/\Hid (bl.length=m/\∀x,x∈bl↔x∈sortO l)/\Hid (Below w1.heap.size w1 wx))
 case first=>
  go_wp2_with fail
  go_loopg [7] 101 (fun gk i wr=>∃(k:Nat)(bl:List Opn),i=.int .i64 (k:Int)/\gk+k=101/\k<=100/\k<=nt/\Hid (wr.ownsRow w1.heap.size 37 13 (.slice B m cB) m (flat (bl.map opA)))/\Hid (bl.length=m/\∀x,x∈bl↔x∈sortO l)/\Hid (Below w1.heap.size w1 wr))
  case atStart=>exact⟨0,sortO l,by go_num,by omega,by omega,by omega,HO4,⟨HM.out.symm,fun _=>Iff.rfl⟩,HB4⟩
  case round=>
   clear HO4 HB4;obtain⟨k,bl,rfl,hgk,hk,hknt,HO,HL,HB⟩:=hrel;have HG:=Lib.hid hgk;clear hgk;by_cases hlt:(k<nt/\k<100)/\0<m
   ·obtain⟨⟨g1,g2⟩,g3⟩:=hlt;have hblk:bl.length=m:=HL.out.1;obtain⟨hol,hoo⟩:=HO.out;rcases hoo with ⟨_,h0⟩|⟨gb,cap,cur,hBv,hgb,hg,hc1,hc2,hcs,hct⟩
    ·omega
    injection hBv with hB1 _ hB2
    subst hB1 hB2;have R0:=row_of_own (xs:=bl) hg (by rw[hblk];exact hct);have HR:=Lib.hid R0;have HCF:=Lib.hid (And.intro hgb (And.intro hg (And.intro hc1 (And.intro hc2 hcs))));have hds:bl.toArray.size=m:=by simpa using hblk
    have S0:=Lib.hid (SWK.start R0.hH);obtain⟨gt,ot,rfl,hgt,hct'⟩:=HTX.out.2 (by omega);have lk:k<tx.length:=by have:=HTL.out;omega
    have ht0:wr.cell? ⟨gt,ot+k,none⟩=some (.int .u8 tx[k]):=by
     have:=hct' k (by rw[List.length_map];exact lk) 0 (.int .u8 tx[k]) (by simp);rw[Nat.mul_one,Nat.add_zero] at this;exact((below_step B3.out HB.out).cell (p:=⟨gt,ot+k,none⟩) hgt).trans this
    obtain⟨tb1,tb2⟩:=HTB.out _ (List.getElem_mem lk);obtain⟨t,htz⟩:∃t:Nat,tx[k]=(t:Int):=⟨tx[k].toNat,by omega⟩;rw[htz] at ht0;have ht255:t<=255:=by omega
    obtain⟨x,hx⟩:∃x:Nat,x=t%m:=⟨_,rfl⟩;have hxm:x<m:=by rw[hx];exact Nat.mod_lt _ g3
    have hxz:(t:Int)%(m:Int)=(x:Int):=by rw[hx];exact(Int.natCast_emod t m).symm
    obtain⟨y,hy⟩:∃y:Nat,y=k%m:=⟨_,rfl⟩;have hym:y<m:=by rw[hy];exact Nat.mod_lt _ g3
    have hyz:(k:Int)%(m:Int)=(y:Int):=by rw[hy];exact(Int.natCast_emod k m).symm
    have hyn:k%m=y:=hy.symm;have k1:(k:Int)<(nt:Int):=by omega
    have k2:(k:Int)<100:=by omega
    have k3:(0:Int)<(m:Int):=by omega
    have k4:(0:Int)<=(k:Int):=by omega
    have k5:¬(m:Int)=0:=by omega
    have k6:(x:Int)<(m:Int):=by omega
    have k7:(0:Int)<=(x:Int):=by omega
    have k8:(y:Int)<(m:Int):=by omega
    have k9:(0:Int)<=(y:Int):=by omega
    have X1:=row_op S0.out HR.out rfl (i:=x) (by omega);obtain⟨p,hp⟩:∃p,p=bl.toArray[x]!:=⟨_,rfl⟩;obtain⟨q,hq⟩:∃q,q=bl.toArray[y]!:=⟨_,rfl⟩;rw[<-hp] at X1;have HPQ:=Lib.hid (And.intro hp hq);have HDS:=Lib.hid hds;have HK:=Lib.hid (And.intro g1 g2);obtain⟨a0,a1,a2,a3,a4,a5,a6,a7,a8,a9,a10,a11,a12⟩:=X1;clear hp hq hx hy hds hblk hol hgb hg hc1 hc2 hcs hct hct' htz tb1 tb2 hgt lk g1 g2;obtain⟨u,hu⟩:∃u,u=wr.heap.size:=⟨_,rfl⟩;have hHA:Held wr [(u,.cells (opA p) 37)] (wr.alloc (.cells (opA p) 37)):=(Held.refl wr).alloc _ hu.symm;have SA:Hid (SWK opE 13 wr gb 0 bl.toArray (wr.alloc (.cells (opA p) 37))):=S0.out.alloc _
    go_upto_region 10 with fail
    try simp only[hxz]
    rw[<-hu];change Code.wp _ _ _ _ (wr.alloc (.cells (opA p) 37));generalize wr.alloc (.cells (opA p) 37)=wA at hHA SA ⊢;have HA:=Lib.hid hHA;have hug:¬u=gb:=by have:=heap_lt HCF.out.2.1;omega
    have hds:=HDS.out;clear hHA a0 a1 a2 a3 a4 a5 a6 a7 a8 a9 a10 a11 a12 S0 ht0 k1 k2 hxz hyz;have Y1:=row_op SA.out HR.out rfl (i:=y) (by omega);rw[<-HPQ.out.2] at Y1;obtain⟨a0,a1,a2,a3,a4,a5,a6,a7,a8,a9,a10,a11,a12⟩:=Y1;have ht12:=Lib.hid (swk_there SA.out HR.out rfl (i:=x) (by omega) q);have S12:=Lib.hid (row_set SA.out HR.out (i:=x) (by omega) q);have HI:Hid ((Tryz.prog.info? 37).map (·.size)=some 13):=op_info;clear hds
    go_upto_region 11 with (refine wpList_store_mid rfl 37 _ _ rfl gb (x*13) (opA q) rfl rfl ht12.out HI.out (op_one q) ?_)
    have H12:Hid ((wA.setCells gb (x*13) (opA q).toList).heap[u]?=some (.cells (opA p) 37 (0,0))):=(heap_setCells_old (opA q).toList (x*13) hug).trans (HA.out.at 0 rfl);generalize wA.setCells gb (x*13) (opA q).toList=wB at S12 H12 ⊢;clear a0 a1 a2 a3 a4 a5 a6 a7 a8 a9 a10 a11 a12 ht12 SA HA hug hu;obtain⟨a0,a1,a2,a3,a4,a5,a6,a7,a8,a9,a10,a11,a12⟩:=op_cells H12.out;have hds:=HDS.out;have hsz12:(bl.toArray.setIfInBounds x q).size=bl.toArray.size:=by simp
    have S12d:SWK opE 13 wr gb 0 (bl.toArray.setIfInBounds x q) wB.drew:=S12.out.grown 1 #[];have ht13:=Lib.hid (swk_there S12d HR.out hsz12 (i:=y) (by omega) p);have S13:=Lib.hid (row_set S12d HR.out (i:=y) (by omega) p);clear hds hsz12 S12d;have hm0:¬m=0:=by omega
    have hty:(k:Int).tmod (m:Int)=(y:Int):=by rw[Int.tmod_eq_emod_of_nonneg k4,<-hyn];exact(Int.natCast_emod k m).symm
    go_still_tail 6,(by kernel_rfl)
    clear hm0 hty;change wpList _ _ _ _ _ wB.drew
    go_upto_region 7 with (refine wpList_store_mid rfl 37 _ _ rfl gb (y*13) (opA p) rfl rfl ht13.out HI.out (op_one p) ?_)
    have hsw:=swp_two bl.toArray x y HPQ.out.1 HPQ.out.2;rw[hsw] at S13;generalize wB.drew.setCells gb (y*13) (opA p).toList=wC at S13 ⊢;have hds:=HDS.out;have hsl:(swp bl.toArray x y).toList.length=m:=by rw[Array.length_toList,size_swp,hds]
    obtain⟨q1,q2⟩:=own_of_row HCF.out.1 HCF.out.2.1 HCF.out.2.2.1 HCF.out.2.2.2.1 HCF.out.2.2.2.2 (by rw[size_swp,hds];exact HCF.out.2.2.1) S13.out (List.take_of_length_le (Nat.le_of_eq hsl)) hsl;have HOC:=Lib.hid q1;have HLC:Hid ((swp bl.toArray x y).toList.length=m/\∀a,a∈(swp bl.toArray x y).toList↔a∈sortO l):=⟨hsl,fun a=>(swp_mem bl.toArray (by omega) (by omega) a).trans (by rw[show bl.toArray.toList=bl by simp];exact HL.out.2 a)⟩;have HBC:=Lib.hid (HB.out.trans (q2.below (fun i hi=>by have:=HCF.out.1;omega) HB.out.size));clear hds hsl q1 q2 hsw S13 ht13 S12 H12 HI a0 a1 a2 a3 a4 a5 a6 a7 a8 a9 a10 a11 a12 k3 k4 k5 k6 k7 k8 k9
    go_wp2_with fail
    go_roundg (gk-1)
    case measure=>have:=HG.out;omega
    case rel=>exact⟨k+1,(swp bl.toArray x y).toList,by go_num,by have:=HG.out;omega,by have:=HK.out;omega,by have:=HK.out;omega,HOC,HLC,HBC⟩
   ·have h3:¬(k:Int)<(nt:Int)\/((k:Int)<(nt:Int)/\¬(k:Int)<100)\/((k:Int)<(nt:Int)/\(k:Int)<100/\¬(0:Int)<(m:Int)):=by omega
    clear hlt;rcases h3 with h3|⟨h1,h3⟩|⟨h1,h2,h3⟩
    all_goals
     go_wp2_with fail
     go_meet
     case rel=>exact⟨bl,HO,HL,HB⟩
 case rest=>
  obtain⟨bl,HO,HL,HB⟩:=hcut;generalize wc=w5 at HO HL HB ⊢;clear HO4 HB4;obtain⟨Y,cY,hY,hyi,-⟩:=ops_own HL.out.1 HO.out;have HY:Hid (OpsIn w5 w5.heap.size B m bl):=by
   injection hY with e1 _ _
   rw[e1];exact hyi
  have HSE:Hid (fromL newG (0,0) bl=fromL newG (0,0) (sortO l)):=from_same HL.out.2;have HBF:Hid (∀x∈bl,OpFit x):=Lib.hid fun x hx=>HDF.out x ((HL.out.2 x).1 hx);have hb5:=HB.out;have T5:=Lib.hid (tab_below T3.out (Nat.le_refl _) hb5);have HX5:=Lib.hid (HX1.out _ hb5);have B5:=Lib.hid (below_step B3.out hb5);have HFZ:Hid (graphL (fromL newG (0,0) (sortO l))=runA (sortO l)):=from_sort l;have HFL:=fromL_len newG (0,0) (sortO l);have hfl:(fromL newG (0,0) (sortO l)).L.length<=m:=by rw[HM.out];exact HFL
  clear hY hyi hb5 HFL HO HL HB HX HTX HTB HTL HX1;have D5:=Lib.hid (GX.new (H:=H) (Below.refl w5.heap.size w5) (fun _=>False) (fun _ h=>h.elim))
  go_wp2_with fail
  refine D5.out.mono ?_;rintro e w6 ⟨a0,rfl,g6,hb6⟩;have f6:FX H w5 w6 (fun _=>False) a0 newG:=⟨g6,new_fine⟩;have D6:=Lib.hid (have:=tab_below T5.out (Nat.le_refl _) hb6;P.sort A n c l w6 (by omega) HF.out ((HX5.out.below hb6).more hb6.size));unfold OpsPost at D6;rw[<-HM.out] at D6;have F6:=Lib.hid f6;have HY6:=Lib.hid ((HY.out.below hb6).more hb6.size);have HX6:=Lib.hid ((HX5.out.below hb6).more hb6.size);clear f6 g6 hb6 D5 HY HX5
  go_wp2_with fail
  refine D6.out.mono ?_;rintro e w7 ⟨Z,cZ,rfl,hz,-,-,-,hb7⟩;have D7:=Lib.hid (LX.made O (F6.out.step hb7) T5.out (0,0) (by decide) Z m cZ (sortO l) (by omega) HDF.out hz);unfold stA at D7;have HY7:=Lib.hid ((HY6.out.below hb7).more hb7.size);have HX7:=Lib.hid ((HX6.out.below hb7).more hb7.size);clear hz hb7 D6 F6 HY6 HX6
  go_wp2_with fail
  refine D7.out.mono ?_;rintro e w8 ⟨a,rfl,h8,hb8⟩;have H8:=Lib.hid (h8.tight hfl);have HY8:=Lib.hid ((HY7.out.below hb8).more hb8.size);have HX8:=Lib.hid ((HX7.out.below hb8).more hb8.size);have D8:=Lib.hid (GX.new (H:=H) h8.below (fun _=>False) (fun _ h=>h.elim));clear h8 hb8 D7 HY7 HX7
  go_wp2_with fail
  refine D8.out.mono ?_;rintro e w9 ⟨b0,rfl,g9,hb9⟩;have D9:=Lib.hid (LX.made O ⟨g9,new_fine⟩ T5.out (0,0) (by decide) B m cB bl (by omega) HBF.out ((HY8.out.below hb9).more hb9.size));rw[HSE.out] at D9;unfold stA at D9;have H9:=Lib.hid (H8.out.step hb9);have HX9:=Lib.hid ((HX8.out.below hb9).more hb9.size);clear g9 hb9 D8 HY8 HX8 H8
  go_wp2_with fail
  refine D9.out.mono ?_;rintro e w10 ⟨b,rfl,h10,hb10⟩;have H10:=Lib.hid (H9.out.step hb10);have K10:=Lib.hid (h10.tight hfl);have HX10:=Lib.hid ((HX9.out.below hb10).more hb10.size);obtain⟨γ,hγ⟩:∃γ,γ=graphL (fromL newG (0,0) (sortO l)):=⟨_,rfl⟩;have HGG:=Lib.hid hγ;have HGR:Hid (γ=runA (sortO l)):=hγ.trans HFZ.out;have D10:=Lib.hid H10.out.graph;rw[<-HGG.out] at D10;clear h10 hb10 D9 H9 HX9 hγ
  go_wp2_with fail
  refine D10.out.mono ?_;rintro e w11 ⟨g1,rfl,f11,hb11⟩;have F11:=Lib.hid f11;have H11:=Lib.hid (H10.out.step hb11);have K11:=Lib.hid (K10.out.step hb11);have HX11:=Lib.hid ((HX10.out.below hb11).more hb11.size);have D11:=Lib.hid K11.out.graph;rw[<-HGG.out] at D11;clear f11 hb11 D10 H10 K10 HX10
  go_wp2_with fail
  refine D11.out.mono ?_;rintro e w12 ⟨g2,rfl,f12,hb12⟩;have H12:=Lib.hid (H11.out.step hb12);have K12:=Lib.hid (K11.out.step hb12);have HX12:=Lib.hid ((HX11.out.below hb12).more hb12.size);have f11:=F11.out.step hb12;obtain⟨S1,r1,_⟩:=f11.gx.at';obtain⟨S2,r2,_⟩:=f12.gx.at';have D12:=Lib.hid (sameO_two H g1 g2 S1 S2 γ w12 r1 r2 f11.fine.ok);clear f11 f12 r1 r2 hb12 D11 F11 H11 K11 HX11
  go_wp2_with fail
  refine D12.out.mono ?_;rintro e w13 ⟨rfl,hb13⟩;have H13:=Lib.hid (H12.out.step hb13);have K13:=Lib.hid (K12.out.step hb13);have HX13:=Lib.hid ((HX12.out.below hb13).more hb13.size);have hr:(fromL newG (0,0) (sortO l)).L.length<=900:=by omega
  obtain⟨r,hrr⟩:∃r,r=(fromL newG (0,0) (sortO l)).L.length:=⟨_,rfl⟩;have HR:=Lib.hid hrr;rw[<-hrr] at hr;have D13:=Lib.hid (H13.out.ops (by omega));unfold OpsNew at D13;rw[<-HR.out] at D13;clear hb13 D12 H12 K12 HX12 hrr
  go_wp2_with fail
  refine D13.out.mono ?_;rintro e w14 ⟨v14,rfl,ho14,hb14⟩;obtain⟨X14,c14,rfl,hi14,-⟩:=ops_own (l:=(fromL newG (0,0) (sortO l)).L) HR.out.symm ho14;have HI14:=Lib.hid hi14;have H14:=Lib.hid (H13.out.step hb14);have K14:=Lib.hid (K13.out.step hb14);have HX14:=Lib.hid ((HX13.out.below hb14).more hb14.size);have D14:=Lib.hid (K14.out.ops (by omega));unfold OpsNew at D14;rw[<-HR.out] at D14;clear ho14 hi14 hb14 D13 H13 K13 HX13
  go_wp2_with fail
  refine D14.out.mono ?_;rintro e w15 ⟨v15,rfl,ho15,hb15⟩;obtain⟨X15,c15,rfl,hi15,-⟩:=ops_own (l:=(fromL newG (0,0) (sortO l)).L) HR.out.symm ho15;have H15:=Lib.hid (H14.out.step hb15);have HX15:=Lib.hid ((HX14.out.below hb15).more hb15.size);have D15:=Lib.hid (refOps X14 X15 r c14 r c15 _ _ (by omega) (by omega) w15 ((HI14.out.below hb15).more hb15.size) hi15);rw[decide_eq_true rfl] at D15;clear ho15 hi15 hb15 D14 H14 K14 HX14 HI14
  go_wp2_with fail
  refine D15.out.mono ?_;rintro e w16 ⟨rfl,hb16⟩;have H16:=Lib.hid (H15.out.step hb16);have HX16:=Lib.hid ((HX15.out.below hb16).more hb16.size);have D16:=Lib.hid H16.out.graph;rw[<-HGG.out] at D16;clear hb16 D15 H15 HX15
  go_wp2_with fail
  refine D16.out.mono ?_;rintro e w17 ⟨g17,rfl,f17,hb17⟩;have F17:=Lib.hid f17;have H17:=Lib.hid (H16.out.step hb17);have HX17:=Lib.hid ((HX16.out.below hb17).more hb17.size);have D17:=Lib.hid (FX.of P A n c l w17 (tab_below T5.out (Nat.le_refl _) H17.out.below) (by omega) HF.out HX17.out);clear f17 hb17 D16 H16 HX16
  go_wp2_with fail
  refine D17.out.mono ?_;rintro e w18 ⟨g18,rfl,f18,hb18⟩;have H18:=Lib.hid (H17.out.step hb18);have f17:=F17.out.step hb18;obtain⟨S3,r3,_⟩:=f17.gx.at';obtain⟨S4,r4,_⟩:=f18.gx.at';rw[<-HGR.out] at r4;have D18:=Lib.hid (sameO_two H g17 g18 S3 S4 γ w18 r3 r4 f17.fine.ok);clear f17 f18 r3 r4 hb18 D17 F17 H17 HX17
  go_wp2_with fail
  refine D18.out.mono ?_;rintro e w19 ⟨rfl,hb19⟩;have HE:=Lib.hid (below_step B5.out (below_step H18.out.below hb19));clear hb19 D18 H18
  go_wp2_with fail
  go_ret
  exact⟨rfl,HE.out⟩
theorem walk0{H:GraphHave}(O:OplogHave H)(P:FoldHave H)(Q:SortOwn)(a0A:Option Addr)(a0n:Nat)(a0c:Nat)(a0x:List Opn)(a1A:Option Addr)(a1n:Nat)(a1c:Nat)(a1x:List Int)(w:World)[T:Tab w](_:a0n<=a0c)(_:a0c<=maxLen)(w0x:∀x∈a0x,OpFit x)(w0d:OpsIn w w.heap.size a0A a0n a0x)(_:a1n<=a1c)(_:a1c<=maxLen)(w1x:∀x∈a1x,(Lit.int .u8 x).wf=true)(w1d:U8sIn w w.heap.size a1A a1n a1x):
  Calls Tryz.prog 5 #[.slice a0A a0n a0c,.slice a1A a1n a1c] w fun e w'=>e=.returned (.bool true)/\Below w.heap.size w w':=
 core O P Q a0A a0n a0c a0x a1A a1n a1c a1x w0x w1x w T w0d w1d
end Go.Proofs.YtnnnkaobhkeocaaGreatDoor.lawOplogOrder
