/-
 Whatever is added and compacted: compacting changes no graph, a log's graph is that of its base and its operations, and, where nothing came too late, that of all that ever came: for all lists of deeds.
-/
import Derived.Test.YtnnnkaobhkeocaaGreatDoorZ01
import Derived.Test.YtnnnkaobhkeocaaGreatDoorZ01
import Derived.Test.YtnnnkaobhkeocaaGreatDoorZ01
import Derived.Test.YtnnnkaobhkeocaaGreatDoorOplogSameZ
import Derived.Test.YtnnnkaobhkeocaaGreatDoorZ01
import Derived.Test.YtnnnkaobhkeocaaGreatDoorZ00
import Derived.Test.YtnnnkaobhkeocaaGreatDoorZ00
import Derived.Test.YtnnnkaobhkeocaaGreatDoorZ02
import Derived.Test.YtnnnkaobhkeocaaGreatDoorZ01
import Derived.Test.YtnnnkaobhkeocaaGreatDoorZ01
import Derived.Deep.LoopGhost
import Derived.Deep.CutBlock
import Derived.Deep.CutRange
import Derived.OpenShut
namespace Go.Proofs.YtnnnkaobhkeocaaGreatDoor.lawOplogTheorem
open Go.RowKit StampMath GraphMath OpMath PackMath
theorem late_no{fl s:St}{v:Int}(hv:v=cmp s.1 s.2 fl.1 fl.2)(h:decide (v<=0)=false):lessS fl s=true:=by
 rw[decide_eq_false_iff_not] at h;rw[<-cmp_lt fl s];have e:=cmp_turn s.1 s.2 fl.1 fl.2;omega
def Came(b:Bool)(x:Lg)(l:List Opn):Prop:=(b=false->Whole x l)/\∀o∈l,OpFit o
def Fresh(q:Bool)(x:Lg)(o:Opn):Prop:=q=false->x.fl=(0,0)\/lessS x.fl (oSt o)=true
set_option maxRecDepth 100000 in
set_option maxHeartbeats 6400000 in
theorem core{H:GraphHave}(O:OplogHave H)(P:FoldHave H)(Q:CmpHave)(A:Option Addr)(n c:Nat)(l:List (Opn×Bool))(hl:∀x∈l,OpFit x.1)(w:World)(T:Tab w)(h:DdoIn w w.heap.size A n l):
  Calls Tryz.prog 4 #[.slice A n c] w fun e w'=>e=.returned (.bool true)/\Below w.heap.size w w':=by
 obtain⟨i0,hi0,hz0,hz1,hz2⟩:=info_parts op_infos;have HX:=Lib.hid h;have HF:=Lib.hid hl;have hll:=h.len;clear h hl
 go_enter Tryz.func4,Tryz.ntmps4
 go_wp2_with fail
 refine(OplogHave.shown O _ T).mono ?_;rintro e w1 ⟨rfl,hb1⟩;have B1:=Lib.hid hb1;have T1:=Lib.hid (tab_below T (Nat.le_refl _) hb1);have HX1:Hid (∀W,Below w1.heap.size w1 W->DdoIn W w.heap.size A n l):=Lib.hid fun W hW=>HX.out.below (below_step B1.out hW);clear hb1 HX
 go_wp2_with fail
 refine(LX.new O T1.out (Below.refl w1.heap.size w1) (fun _=>False) (fun _ h=>h.elim)).mono ?_;rintro e w2 ⟨a,rfl,h2,_⟩;have S2:Hid (StackL O w1 w2 (fun _=>False) 0 a newL (.slice none 0 0) []):=Lib.hid (StackL.start h2);have K2:Hid (Came false newL []):=Lib.hid ⟨fun _=>whole_new,fun _ h=>nomatch h⟩;clear h2
 go_upto_block 0 with fail
 go_cut [5,6,7,8,9] from 12 to 76 (fun al lt _ _ _ wx=>∃(l':List Opn)(x:Lg)(b:Bool)(N:Nat->Prop),lt=.bool b/\l'.length<=60/\Hid (StackL O w1 wx N 60 a x al l')/\Hid (Came b x l'))
 case first=>
  go_wp2_with fail
  go_loopg [5,6,7] 61 (fun gk al lt i wr=>∃(k:Nat)(l':List Opn)(x:Lg)(b:Bool)(N:Nat->Prop),i=.int .i64 (k:Int)/\lt=.bool b/\gk+k=61/\k<=60/\k<=n/\l'.length<=k/\Hid (StackL O w1 wr N k a x al l')/\Hid (Came b x l'))
  case atStart=>exact⟨0,[],newL,false,_,by go_num,rfl,by omega,by omega,by omega,Nat.le_refl _,S2,K2⟩
  case round=>
   clear S2 K2;obtain⟨k,l',x,b,N,rfl,rfl,hgk,hk,hkn,hkl,HS,HK⟩:=hrel;have HG:=Lib.hid hgk;clear hgk;by_cases hlt:k<n/\k<60
   ·obtain⟨g1,g2⟩:=hlt;obtain⟨gi,oo,rfl,hg,hrow⟩:=(HX1.out wr HS.out.lx.below).row (by omega);have lk:k<l.length:=by omega
    have HFT:=Lib.hid (HF.out _ (List.getElem_mem lk));have HROW:Hid (∀W,Below w1.heap.size w1 W->OpAt W gi (oo+k*14) l[k].1/\W.cell? ⟨gi,oo+k*14+13,none⟩=some (.bool l[k].2)):=Lib.hid fun W hW=>by
     obtain⟨gi',oo',e',_,hr⟩:=(HX1.out W hW).row (by omega)
     injection e' with e'
     injection e' with e1 e2
     subst e1 e2;exact hr k lk
    generalize l[k]=dd at HFT HROW;obtain⟨d,cp⟩:=dd;dsimp only at HFT HROW;obtain⟨-,cc⟩:=HROW.out wr HS.out.lx.below;have k1:(k:Int)<(n:Int):=by omega
    have k2:(k:Int)<60:=by omega
    have k4:(0:Int)<=(k:Int):=by omega
    clear hrow hg lk
    cases cp with
    |true=>
     have D6:=Lib.hid HS.out.lx.graph
     go_wp2_with fail
     refine D6.out.mono ?_;rintro e w6 ⟨b6,rfl,f6,hb6⟩;have F6:=Lib.hid f6;obtain⟨N6,hN6⟩:∃N6:Nat->Prop,N6=fun i=>N i\/(wr.heap.size<=i/\i<w6.heap.size):=⟨_,rfl⟩;have HRG:Hid (∀i,wr.heap.size<=i->i<w6.heap.size->N6 i):=Lib.hid fun i h1 h2=>by rw[hN6];exact .inr ⟨h1,h2⟩
     have S6:=Lib.hid (HS.out.grow hb6);rw[<-hN6] at S6;clear hN6;obtain⟨⟨c0,c1,-⟩,-⟩:=HROW.out w6 S6.out.lx.below;have D7:=Lib.hid (S6.out.lx.compact T1.out (by omega) (oSt d));unfold stA at D7;clear f6 hb6 D6 HS cc
     go_wp2_with fail
     refine D7.out.mono ?_;rintro e w7 ⟨rfl,h7,s7⟩;have S7:=Lib.hid (S6.out.same h7 s7);obtain⟨Sx,rx⟩:=FX.same F6.out HRG.out s7;have RX:=Lib.hid rx;have hok:=F6.out.fine.ok;have HKC:Hid (Came b (compactL x (oSt d)).1 l'):=Lib.hid ⟨fun q=>whole_compact (HK.out.1 q) _,HK.out.2⟩;have D8:=Lib.hid h7.graph;rw[compact_graph] at D8;generalize (compactL x (oSt d)).1=x7 at S7 HKC;clear h7 s7 rx D7 S6 F6 HRG c0 c1 HK
     go_wp2_with fail
     refine D8.out.mono ?_;rintro e w8 ⟨b8,rfl,f8,hb8⟩;have S8:=Lib.hid (S7.out.step hb8);have r8:H.rep w8 Sx b6 (graphL x):=H.keep RX.out fun i hi=>hb8.block i (H.lt RX.out i hi);obtain⟨S',r',_⟩:=f8.gx.at';have D9:=Lib.hid (sameO_two H b6 b8 Sx S' (graphL x) w8 r8 r' hok);clear f8 hb8 r8 r' D8 S7 RX
     go_wp2_with fail
     refine D9.out.mono ?_;rintro e w9 ⟨rfl,hb9⟩;have S9:=Lib.hid ((S8.out.step hb9).more (Nat.le_succ k));clear hb9 D9 S8
     go_wp2_with fail
     go_roundg (gk-1)
     case measure=>have:=HG.out;omega
     case rel=>exact⟨k+1,l',x7,b,_,by go_num,rfl,by have:=HG.out;omega,by omega,by omega,by omega,S9,HKC⟩
    |false=>
     go_upto_region 13 with fail
     clear cc
     go_cut [9] from 42 to 57 (fun p wx=>∃q:Bool,p=.bool q/\Hid (Fresh q x d)/\Hid (Below wr.heap.size wr wx))
     case first=>
      have DF:Hid (∀y,Calls Tryz.prog 18 #[.pointer (some a)] (later wr y) fun e w'=>e=.returned (.agg #[.int .i64 x.fl.1,.int .i64 x.fl.2])/\∃z,w'=later wr z):=Lib.hid fun y=>later_call (HS.out.lx.step (later_below wr y)).floor;by_cases hz:x.fl=(0,0)
      ·have HQ:Hid (Fresh false x d):=Lib.hid fun _=>.inl hz;have hv:∀W:World,(Op.equalIn 10000 24 (.agg #[.int .i64 x.fl.1,.int .i64 x.fl.2]) (.agg #[.int .i64 0,.int .i64 0])).run Tryz.prog W=.ok true W:=fun W=>eqSt_yes hz W;generalize x.fl.1=f1 at DF hv;generalize x.fl.2=f2 at DF hv;clear hz;refine wp_region_later (by kernel_rfl) (by kernel_rfl) ?_
       repeat(go_big_quiet_step (first|(with_reducible exact DF.out _)))
       refine wpQuiet_nil ?_;intro _ hw';obtain⟨y,rfl⟩:=hw';have HE:=Lib.hid (later_below wr y)
       go_wp2_with fail
       go_meet
       case rel=>exact⟨false,rfl,HQ,HE⟩
      ·have hv:∀W:World,(Op.equalIn 10000 24 (.agg #[.int .i64 x.fl.1,.int .i64 x.fl.2]) (.agg #[.int .i64 0,.int .i64 0])).run Tryz.prog W=.ok false W:=fun W=>eqSt_no (c:=(0,0)) hz W;obtain⟨v,hvv⟩:∃v,v=cmp d.st d.sr x.fl.1 x.fl.2:=⟨_,rfl⟩;have HQ:Hid (Fresh (decide (v<=0)) x d):=Lib.hid fun q=>.inr (late_no (s:=oSt d) hvv q);have DC:Hid (∀y,Calls Tryz.prog 25 #[.agg #[.int .i64 d.st,.int .i64 d.sr],.agg #[.int .i64 x.fl.1,.int .i64 x.fl.2]] (later wr y) fun e w'=>e=.returned (.int .i64 v)/\∃z,w'=later wr z):=Lib.hid fun y=>later_call (by rw[hvv];exact Q.cmp (oSt d) x.fl (later wr y));obtain⟨⟨c0,c1,-⟩,-⟩:=HROW.out wr HS.out.lx.below;have m0:=later_cell c0;have m1:=later_cell c1;generalize x.fl.1=f1 at DF DC hv;generalize x.fl.2=f2 at DF DC hv;clear hz c0 c1 hvv;refine wp_region_later (by kernel_rfl) (by kernel_rfl) ?_
       repeat(go_big_quiet_step (first|(with_reducible exact DF.out _)|(with_reducible exact DC.out _)))
       refine wpQuiet_nil ?_;intro _ hw';obtain⟨y,rfl⟩:=hw';have HE:=Lib.hid (later_below wr y)
       go_wp2_with fail
       go_meet
       case rel=>exact⟨decide (v<=0),rfl,HQ,HE⟩
     case rest=>
      obtain⟨q,rfl,HQ,HE⟩:=hcut;generalize wc=w6 at HE ⊢;have S6:=Lib.hid (HS.out.step HE.out);obtain⟨⟨c0,c1,c2,c3,c4,c5,c6,c7,c8,c9,c10,c11,c12⟩,-⟩:=HROW.out w6 S6.out.lx.below;have HKA:Hid (Came (b||q) (addL x d).1 (l'++[d])):=Lib.hid ⟨fun e=>whole_add (HK.out.1 (Bool.or_eq_false_iff.1 e).1) (HQ.out (Bool.or_eq_false_iff.1 e).2),fun o ho=>(List.mem_append.1 ho).elim (HK.out.2 o) fun h1=>by rw[List.mem_singleton.1 h1];exact HFT.out⟩;have D7:=Lib.hid (S6.out.lx.add T1.out (by omega) d HFT.out);generalize (addL x d).1=x7 at D7 HKA;generalize (addL x d).2=r7 at D7;clear HS HE HQ HK;have HM:∃m:Bool,m=(b||q):=⟨_,rfl⟩;obtain⟨m,hm⟩:=HM;rw[<-hm] at HKA;unfold opA at D7
      cases b<;>cases q<;>simp at hm<;>subst hm
      all_goals
       go_wp2_with fail
       refine D7.out.mono ?_;rintro e w7 ⟨rfl,h7,s7⟩;have S7:=Lib.hid (S6.out.same h7 s7);have S8:=Lib.hid (S7.out.step ((Below.refl w7.heap.size w7).alloc (Nat.le_refl _) (.cells (opA d) 37)));clear h7 s7 D7 S6 c0 c1 c2 c3 c4 c5 c6 c7 c8 c9 c10 c11 c12;obtain⟨⟨c0,c1,c2,c3,c4,c5,c6,c7,c8,c9,c10,c11,c12⟩,-⟩:=HROW.out w7 S7.out.lx.below;have OW:=Lib.hid S8.out.own;have hm1:l'.length+1<=maxLen:=by unfold maxLen;omega
       have hm3:w1.heap.size<=(w7.alloc (.cells (opA d) 37)).heap.size:=S8.out.lx.below.size
       go_wp2_with (at_builtin;refine wpList_append_own_at _ (by rfl) (.tmp 69) (.tmp 75) 32 (by rfl) w1.heap.size 37 i0 _ 13 128 Tryz.underlying32 hi0 hz0 hz1 hz2 (by rfl) (by decide) _ _ _ (by rfl) OW.out ⟨w7.heap.size,0,none⟩ 1 1 (opA d).toList (by rfl) (by rfl) (row_there w7 _ _) (op_cells1 d) hm1 (by omega) hm3 ?_;intro rv9 w9 hown9 hg9 _ hat9)
       rw[flat_op] at hown9;have S9:=Lib.hid (S8.out.push hown9 hg9 hat9);have hkl2:(l'++[d]).length<=k+1:=by rw[List.length_append,List.length_singleton];omega
       clear hown9 hg9 hat9 OW S8 S7 c0 c1 c2 c3 c4 c5 c6 c7 c8 c9 c10 c11 c12 hm3
       go_roundg (gk-1)
       case measure=>have:=HG.out;omega
       case rel=>exact⟨k+1,l'++[d],x7,_,_,by go_num,rfl,by have:=HG.out;omega,by omega,by omega,hkl2,S9,HKA⟩
   ·have h3:¬(k:Int)<(n:Int)\/((k:Int)<(n:Int)/\¬(k:Int)<60):=by omega
    have HS':=Lib.hid (HS.out.more hk);clear hlt;rcases h3 with h3|⟨h1,h3⟩
    all_goals
     go_wp2_with fail
     go_meet
     case rel=>exact⟨l',x,b,N,rfl,by omega,HS',HK⟩
 case rest=>
  obtain⟨l',x,b,N,rfl,hkl,HS,HK⟩:=hcut;generalize wc=w5 at HS HK ⊢;clear S2 K2;obtain⟨AA,cA,rfl,ha,-⟩:=ops_own rfl HS.out.own;have HA:=Lib.hid ha;have HL:Hid (∀W,Below w5.heap.size w5 W->LX O w1 W N 60 a x):=Lib.hid fun W hW=>HS.out.lx.step hW;have T5:=Lib.hid (tab_below T1.out (Nat.le_refl _) HS.out.lx.below);have B5:=Lib.hid (below_step B1.out HS.out.lx.below);have HON:Hid (runG x.B (sortO x.L)=graphL x):=graph_on HS.out.lx.ok;have HFX:=Lib.hid HS.out.lx.fit;obtain⟨m,hm⟩:∃m,m=x.L.length:=⟨_,rfl⟩;have HM:=Lib.hid hm;have hm60:m<=60:=by rw[hm];exact HS.out.lx.few
  obtain⟨γ,hγ⟩:∃γ,γ=graphL x:=⟨_,rfl⟩;have HGG:=Lib.hid hγ;have D6:=Lib.hid HS.out.lx.graph;rw[<-hγ] at D6;clear ha hm hγ HS
  go_wp2_with fail
  refine D6.out.mono ?_;rintro e w6 ⟨b6,rfl,f6,hb6⟩;have F6:=Lib.hid f6;have E6:=Lib.hid hb6;have D7:=Lib.hid (HL.out w6 hb6).base;clear f6 hb6 D6
  go_wp2_with fail
  refine D7.out.mono ?_;rintro e w7 ⟨b7,rfl,f7,hb7⟩;have F7:=Lib.hid f7;have F6:=Lib.hid (F6.out.step hb7);have E7:=Lib.hid (below_step E6.out hb7);have D8:=Lib.hid ((HL.out w7 E7.out).ops (by omega));unfold OpsNew at D8;rw[<-HM.out] at D8;clear f7 hb7 D7
  go_wp2_with fail
  refine D8.out.mono ?_;rintro e w8 ⟨v8,rfl,ho8,hb8⟩;obtain⟨X8,c8,rfl,hi8,-⟩:=ops_own (l:=x.L) HM.out.symm ho8;have F8:=Lib.hid (F6.out.step hb8);have E8:=Lib.hid (below_step E7.out hb8);have D9:=Lib.hid (FX.on P (F7.out.step hb8) (tab_below T5.out (Nat.le_refl _) E6.out) X8 m c8 x.L (by omega) HFX.out hi8);rw[HON.out,<-HGG.out] at D9;clear ho8 hi8 hb8 D8 F6 F7
  go_wp2_with fail
  refine D9.out.mono ?_;rintro e w9 ⟨b9,rfl,f9,hb9⟩;have E9:=Lib.hid (below_step E8.out hb9);have f8:=F8.out.step hb9;obtain⟨S1,r1,_⟩:=f8.gx.at';obtain⟨S2,r2,_⟩:=f9.gx.at';have D10:=Lib.hid (sameO_two H b6 b9 S1 S2 γ w9 r1 r2 f8.fine.ok);clear f8 f9 r1 r2 hb9 D9 F8
  go_wp2_with fail
  refine D10.out.mono ?_;rintro e w10 ⟨rfl,hb10⟩;have E10:=Lib.hid (below_step E9.out hb10);clear hb10 D10 E9 E8 E7 E6
  cases b with
  |true=>
   have HE:=Lib.hid (below_step B5.out E10.out)
   go_wp2_with fail
   go_ret
   exact⟨rfl,HE.out⟩
  |false=>
   have HRR:Hid (γ=runA (sortO l')):=HGG.out.trans (whole_graph (HK.out.1 rfl));have HFL:=Lib.hid HK.out.2;have D11:=Lib.hid (HL.out w10 E10.out).graph;rw[<-HGG.out] at D11;clear HK
   go_wp2_with fail
   refine D11.out.mono ?_;rintro e w11 ⟨b11,rfl,f11,hb11⟩;have F11:=Lib.hid f11;have E11:=Lib.hid (below_step E10.out hb11);have D12:=Lib.hid (FX.of P AA l'.length cA l' w11 (tab_below T5.out (Nat.le_refl _) E11.out) (by omega) HFL.out ((HA.out.below E11.out).more E11.out.size));rw[<-HRR.out] at D12;clear f11 hb11 D11 E10
   go_wp2_with fail
   refine D12.out.mono ?_;rintro e w12 ⟨b12,rfl,f12,hb12⟩;have E12:=Lib.hid (below_step E11.out hb12);have f11:=F11.out.step hb12;obtain⟨S3,r3,_⟩:=f11.gx.at';obtain⟨S4,r4,_⟩:=f12.gx.at';have D13:=Lib.hid (sameO_two H b11 b12 S3 S4 γ w12 r3 r4 f11.fine.ok);clear f11 f12 r3 r4 hb12 D12 F11 E11
   go_wp2_with fail
   refine D13.out.mono ?_;rintro e w13 ⟨rfl,hb13⟩;have HE:=Lib.hid (below_step B5.out (below_step E12.out hb13));clear hb13 D13 E12
   go_wp2_with fail
   go_ret
   exact⟨rfl,HE.out⟩
theorem walk0{H:GraphHave}(O:OplogHave H)(P:FoldHave H)(Q:CmpHave)(a0A:Option Addr)(a0n:Nat)(a0c:Nat)(a0x:List (Opn×Bool))(w:World)[T:Tab w](_:a0n<=a0c)(_:a0c<=maxLen)(w0x:∀x∈a0x,OpFit x.1)(w0d:DdoIn w w.heap.size a0A a0n a0x):
  Calls Tryz.prog 4 #[.slice a0A a0n a0c] w fun e w'=>e=.returned (.bool true)/\Below w.heap.size w w':=
 core O P Q a0A a0n a0c a0x w0x w T w0d
end Go.Proofs.YtnnnkaobhkeocaaGreatDoor.lawOplogTheorem
