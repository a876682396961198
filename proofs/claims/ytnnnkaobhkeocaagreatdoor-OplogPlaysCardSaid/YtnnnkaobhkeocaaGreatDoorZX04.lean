/-
 The walk of the document's own Sort: the least one that is left, again and again.
-/
import Derived.Test.YtnnnkaobhkeocaaGreatDoorZ01
import Derived.Test.YtnnnkaobhkeocaaGreatDoorZX02
import Derived.Test.YtnnnkaobhkeocaaGreatDoorZ01
import Derived.Test.YtnnnkaobhkeocaaGreatDoorZX03
import Derived.Test.YtnnnkaobhkeocaaGreatDoorZX03
import Derived.Test.YtnnnkaobhkeocaaGreatDoorZ01
import Derived.Test.YtnnnkaobhkeocaaGreatDoorZ01
import Derived.RegionTactic
import Derived.Deep.LoopGhost
import Derived.Deep.Cut
import Derived.Deep.DeepCutAuto
import Derived.Deep.QuietTactic
import Derived.BigQuiet
import Derived.Test.YtnnnkaobhkeocaaGreatDoorZ00
import Derived.Test.YtnnnkaobhkeocaaGreatDoorZ02
import Derived.Test.YtnnnkaobhkeocaaGreatDoorZ04
namespace Go.Proofs.YtnnnkaobhkeocaaGreatDoor
open Go.RowKit StampMath GraphMath OpMath PackMath
def atV:Option Nat->Int
 |none=>-1
 |some p=>(p:Int)
theorem less_of(a b:St)(W:World):Calls Tryz.prog 42 #[.agg #[.int .i64 a.1,.int .i64 a.2],.agg #[.int .i64 b.1,.int .i64 b.2]] W fun e w'=>e=.returned (.bool (lessS a b))/\Below W.heap.size W w':=refLess a.1 a.2 b.1 b.2 W
def aboveO(t:List Opn)(a:Opn):Bool:=match t.getLast? with|none=>true|some z=>lessS (oSt z) (oSt a)
theorem and_no{a b:Bool}(h:¬(a=true/\b=true)):(a&&b)=false:=by cases a<;>cases b<;>simp_all
set_option maxRecDepth 100000 in
set_option maxHeartbeats 3200000 in
theorem refSort(A:Option Addr)(n c:Nat)(l:List Opn)(hn:n<=60)(hfit:∀o∈l,OpFit o)(w:World)(h:OpsIn w w.heap.size A n l):
  Calls Tryz.prog 74 #[.slice A n c] w (OpsPost (sortO l) w):=by
 obtain⟨i0,hi0,hz0,hz1,hz2⟩:=info_parts op_infos;have hl:=h.len;have hsl:(sortO l).length<=n:=by have:=sort_len l;omega
 have HSC:Hid (∀j,j<=(sortO l).length->(scanO l (leftO ((sortO l).take j)) l.length=none->j=(sortO l).length)/\∀p,scanO l (leftO ((sortO l).take j)) l.length=some p->∃hp:p<l.length,∃hs:j<(sortO l).length,l[p]=(sortO l)[j]):=Lib.hid fun j hj=>scan_sort hj;generalize sortO l=s at hsl HSC ⊢;have HX:=Lib.hid h;have HF:=Lib.hid hfit;clear h hfit
 go_enter Tryz.func74,Tryz.ntmps74
 go_wp2_with fail
 go_loopg [3] (n+1) (fun gk out wr=>∃j:Nat,gk+j=n+1/\j<=s.length/\wr.ownsRow w.heap.size 37 13 out j (flat ((s.take j).map opA))/\Hid (Below w.heap.size w wr))
 case atStart=>exact⟨0,by omega,by omega,World.ownsRow_nil _ _ _ _,Below.refl _ _⟩
 case round=>
  obtain⟨j,hgk,hj,hown,hB⟩:=hrel;have HJ:=Lib.hid (HSC.out j hj);obtain⟨t,ht⟩:∃t,t=s.take j:=⟨_,rfl⟩;rw[<-ht] at hown HJ;have htl:t.length=j:=by rw[ht,List.length_take];omega
  have HT:=Lib.hid ht;obtain⟨B,cB,rfl,hO,_⟩:=ops_own htl hown;have HO:=Lib.hid hO;have HOWN:=Lib.hid hown;obtain⟨W0,hW0⟩:∃x,x=wr:=⟨_,rfl⟩;subst hW0;obtain⟨gp,hgpe⟩:∃x,x=gk:=⟨_,rfl⟩;subst hgpe;clear ht hO hown
  go_wp2_with fail
  go_loopg [4,5] (n+1) (fun gl at' i wi=>∃k:Nat,i=.int .i64 (k:Int)/\gl+k=n+1/\k<=n/\at'=.int .i64 (atV (scanO l (leftO t) k))/\Hid (Below W0.heap.size W0 wi))
  case atStart=>exact⟨0,rfl,by omega,by omega,rfl,Below.refl _ _⟩
  case round=>
   obtain⟨k,rfl,hgl,hk,rfl,hBi⟩:=hrel;have HG:=Lib.hid hgl;clear hgl;by_cases hlt:k<n
   ·obtain⟨gi,o,rfl,hg,hrow⟩:=HX.out.row (by omega);have lk:k<l.length:=by omega
    have hca:=(hrow k lk).below (below_step hB.out hBi.out) hg;have hnx:=scan_next l (leftO t) lk;have hnm:=HF.out _ (List.getElem_mem lk);obtain⟨a,ha⟩:∃a,l[k]=a:=⟨_,rfl⟩;rw[ha] at hca hnx hnm;obtain⟨c0,c1,c2,c3,c4,c5,c6,c7,c8,c9,c10,c11,c12⟩:=hca;obtain⟨ab,hab⟩:∃b,b=aboveO t a:=⟨_,rfl⟩;have HAB:=Lib.hid hab;have HNX:=Lib.hid hnx;have HNM:=Lib.hid hnm;have HROW:Hid (∀k(hk:k<l.length),∀W,Below w.heap.size w W->OpAt W gi (o+k*13) l[k]):=Lib.hid fun k hk W hW=>(hrow k hk).below hW hg;have hi0:(0:Int)<=(k:Int):=by omega
    have hi1:(k:Int)<(n:Int):=by omega
    clear hab hnx hnm hrow
    go_upto_region 6 with fail
    go_cut [6] from 13 to 31 (fun v wx=>v=.bool ab/\∃y,wx=later wr y)
    case first=>
     have l0:=later_cell c0;have l1:=later_cell c1;by_cases hj0:j=0
     ·have ht0:t= []:=List.length_eq_zero_iff.1 (by omega);have hab0:ab=true:=by rw[HAB.out,ht0];rfl
      have hd:((j:Int)==0)=true:=beq_iff_eq.2 (by omega);refine wp_region_later (by kernel_rfl) (by kernel_rfl) ?_
      repeat(go_big_quiet_step (fail))
      refine wpQuiet_nil ?_;intro _ hw';obtain⟨y,rfl⟩:=hw'
      go_wp2_with fail
      go_meet
      case rel=>exact⟨by rw[hab0],y,rfl⟩
     ·obtain⟨gb,ob,rfl,hgb,hrb⟩:=HO.out.row (by omega);have hj':j-1<t.length:=by omega
      have hz:=(hrb (j-1) hj').below hBi.out hgb;obtain⟨z,hze⟩:∃z,t[j-1]=z:=⟨_,rfl⟩;rw[hze] at hz;have hlast:t.getLast?=some z:=by
       rw[List.getLast?_eq_getElem?,htl,List.getElem?_eq_getElem hj',hze]
      have HABz:Hid (ab=lessS (oSt z) (oSt a)):=Lib.hid (by rw[HAB.out];unfold aboveO;rw[hlast]);have HL:Hid (∀y,Calls Tryz.prog 42 #[.agg #[.int .i64 z.st,.int .i64 z.sr],.agg #[.int .i64 a.st,.int .i64 a.sr]] (later wr y) fun e w'=>e=.returned (.bool ab)/\∃x,w'=later wr x):=Lib.hid fun y=>later_call (by rw[HABz.out];exact less_of (oSt z) (oSt a) _);obtain⟨z0,z1,_⟩:=hz;have hx0:(0:Int)<=(j:Int)-1:=by omega
      have hx1:(j:Int)-1<(j:Int):=by omega
      have hxe:((j:Int)-1).toNat=j-1:=by omega
      have m0:=later_cell z0;have m1:=later_cell z1;have hd:((j:Int)==0)=false:=beq_eq_false_iff_ne.2 (by omega);clear hrb hze hlast z0 z1 hj' htl HJ HX HF HSC HOWN HO c0 c1 c2 c3 c4 c5 c6 c7 c8 c9 c10 c11 c12;refine wp_region_later (by kernel_rfl) (by kernel_rfl) ?_
      repeat(go_big_quiet_step (first|(with_reducible exact HL.out _)))
      refine wpQuiet_nil ?_;intro _ hw';obtain⟨y,rfl⟩:=hw'
      go_wp2_with fail
      go_meet
      case rel=>exact⟨rfl,y,rfl⟩
    case rest=>
     obtain⟨rfl,y0,rfl⟩:=hcut;have hca:=(HROW.out k lk _ (below_step (below_step hB.out hBi.out) (later_below wr y0)));rw[ha] at hca;clear c0 c1 c2 c3 c4 c5 c6 c7 c8 c9 c10 c11 c12;obtain⟨c0,c1,c2,c3,c4,c5,c6,c7,c8,c9,c10,c11,c12⟩:=hca;have HBI:=Lib.hid (below_step hBi.out (later_below wr y0));generalize later wr y0=w1 at c0 c1 c2 c3 c4 c5 c6 c7 c8 c9 c10 c11 c12 HBI ⊢;obtain⟨may,hmay⟩:∃b,b=mayO a:=⟨_,rfl⟩;have HM:Hid (∀y,Calls Tryz.prog 79 #[.agg #[.int .i64 a.st,.int .i64 a.sr,.int .i64 a.k,.int .i64 a.pt,.int .i64 a.pr,.int .i64 a.it,.int .i64 a.ir,.int .i64 a.tt,.int .i64 a.tr,.string a.name,.string a.new,.int .i64 a.off,.string a.data]] (later w1 y) fun e w'=>e=.returned (.bool may)/\∃x,w'=later w1 x):=Lib.hid fun y=>later_call (by
      have h1:=HNM.out.name;have h2:=HNM.out.new;have h3:=HNM.out.data;unfold maxLen at h1 h2 h3;rw[hmay]
      exact refOpMay a (by omega) (by omega) (by omega) _)
     have hlo:leftO t a=(may&&ab):=by rw[hmay,HAB.out];rfl
     have HNX2:=Lib.hid (HNX.out);unfold Hid at HNX2;rw[hlo] at HNX2;clear hmay hlo HNX HNM HAB;have l0:=later_cell c0;have l1:=later_cell c1;have l2:=later_cell c2;have l3:=later_cell c3;have l4:=later_cell c4;have l5:=later_cell c5;have l6:=later_cell c6;have l7:=later_cell c7;have l8:=later_cell c8;have l9:=later_cell c9;have l10:=later_cell c10;have l11:=later_cell c11;have l12:=later_cell c12;have HK:=Lib.hid HNX2;clear HNX2;clear c0 c1 c2 c3 c4 c5 c6 c7 c8 c9 c10 c11 c12;by_cases hgo:may=true/\ab=true
     ·obtain⟨rfl,rfl⟩:=hgo
      cases hsc:scanO l (leftO t) k with
      |none=>
       have hK:scanO l (leftO t) (k+1)=some k:=by rw[HK.out,hsc];rfl
       have HE:Hid (atV (scanO l (leftO t) (k+1))=(k:Int)):=Lib.hid (by rw[hK];rfl);have e0:atV (none:Option Nat)= -1:=rfl;rw[e0];clear HK hK hsc e0
       go_upto_region 7 with fail
       refine wp_region_later (by kernel_rfl) (by kernel_rfl) ?_
       repeat(go_big_quiet_step (first|(with_reducible exact HM.out _)))
       refine wpQuiet_nil ?_;intro _ hw';obtain⟨y,rfl⟩:=hw';have HBJ:=Lib.hid (below_step HBI.out (later_below w1 y));clear l0 l1 l2 l3 l4 l5 l6 l7 l8 l9 l10 l11 l12 HM HBI
       go_wp2_with fail
       go_roundg (gk-1)
       case measure=>have:=HG.out;omega
       case rel=>exact⟨k+1,by go_num,by have:=HG.out;omega,by omega,by rw[HE.out],HBJ⟩
      |some p=>
       obtain⟨hp,S⟩:=(scan_is l (leftO t) k (by omega)).2 p hsc;have hpk:=S.lt;have hz:=HROW.out p hp _ (below_step hB.out HBI.out);obtain⟨b,hb⟩:∃b,b=lessS (oSt a) (oSt l[p]):=⟨_,rfl⟩;have hK:scanO l (leftO t) (k+1)=if b=true then some k else some p:=by
        rw[HK.out,hsc];show(if(true&&lessS (oSt a) (((l[p]?).map oSt).getD (0,0)))=true then some k else some p)=_;rw[List.getElem?_eq_getElem hp,hb]
        rfl
       obtain⟨z,hze⟩:∃z,l[p]=z:=⟨_,rfl⟩;rw[hze] at hz hb;obtain⟨z0,z1,_⟩:=hz;have m0:=later_cell z0;have m1:=later_cell z1;have HL:Hid (∀y,Calls Tryz.prog 42 #[.agg #[.int .i64 a.st,.int .i64 a.sr],.agg #[.int .i64 z.st,.int .i64 z.sr]] (later w1 y) fun e w'=>e=.returned (.bool b)/\∃x,w'=later w1 x):=Lib.hid fun y=>later_call (by rw[hb];exact less_of (oSt a) (oSt z) _);have e0:atV (some p)=(p:Int):=rfl;rw[e0];have hp0:¬(p:Int)<0:=by omega
       have hp1:(0:Int)<=(p:Int):=by omega
       have hp2:(p:Int)<(n:Int):=by omega
       have HP:=Lib.hid hp;have HK2:=Lib.hid hK;clear HK hK hsc e0 S hze z0 z1 hb hp hpk
       go_upto_region 7 with fail
       refine wp_region_later (by kernel_rfl) (by kernel_rfl) ?_
       cases b
       all_goals
        repeat(go_big_quiet_step (first|(with_reducible exact HM.out _)|(with_reducible exact HL.out _)))
        refine wpQuiet_nil ?_;intro _ hw';obtain⟨y,rfl⟩:=hw';have HBJ:=Lib.hid (below_step HBI.out (later_below w1 y));clear l0 l1 l2 l3 l4 l5 l6 l7 l8 l9 l10 l11 l12 HM HBI m0 m1 HL
        go_wp2_with fail
        go_roundg (gk-1)
        case measure=>have:=HG.out;omega
        case rel=>exact⟨k+1,by go_num,by have:=HG.out;omega,by omega,by rw[HK2.out];rfl,HBJ⟩
     ·have hK:Hid (scanO l (leftO t) (k+1)=scanO l (leftO t) k):=Lib.hid (by
       rw[HK.out];rw[and_no hgo]
       cases scanO l (leftO t) k<;>rfl)
      have hb:(may&&ab)=false:=and_no hgo;have e0:Hid (atV (scanO l (leftO t) k)=atV (scanO l (leftO t) (k+1))):=Lib.hid (by rw[hK.out]);rw[e0.out];clear HK hK e0 hgo
      go_upto_region 7 with fail
      refine wp_region_later (by kernel_rfl) (by kernel_rfl) ?_
      cases may<;>cases ab<;>first|(cases hb;done)|skip
      all_goals
       repeat(go_big_quiet_step (first|(with_reducible exact HM.out _)))
       refine wpQuiet_nil ?_;intro _ hw';obtain⟨y,rfl⟩:=hw';have HBJ:=Lib.hid (below_step HBI.out (later_below w1 y));clear l0 l1 l2 l3 l4 l5 l6 l7 l8 l9 l10 l11 l12 HM HBI
       go_wp2_with fail
       go_roundg (gk-1)
       case measure=>have:=HG.out;omega
       case rel=>exact⟨k+1,by go_num,by have:=HG.out;omega,by omega,rfl,HBJ⟩
   ·have hkn:k=l.length:=by omega
    have hc:¬(k:Int)<(n:Int):=by omega
    rw[hkn];have HB2:=Lib.hid (below_step hB.out hBi.out)
    cases hsc:scanO l (leftO t) l.length with
    |none=>
     have hjs:=HJ.out.1 hsc;have e0:atV (none:Option Nat)= -1:=rfl;rw[e0];have HF2:Hid (OpsPost s w (.returned (.slice B j cB)) wr):=Lib.hid (by
      have e1:t=s:=by rw[HT.out,hjs,List.take_length]
      have hbt:=hBi.out;have ho:=HO.out;rw[e1] at ho;unfold OpsPost;rw[<-hjs];obtain⟨h1,h2,h3⟩:=‹j<=cB/\cB<=maxLen/\(B=none->cB=0)›
      exact⟨B,cB,rfl,(ho.below hbt).more hbt.size,h1,h2,h3,HB2.out⟩)
     clear hsc hkn hlt e0 hjs HJ HSC HOWN HO HT
     go_wp2_with fail
     go_ret
     exact HF2.out
    |some p=>
     obtain⟨hp,hs,hps⟩:=HJ.out.2 p hsc;have e0:atV (some p)=(p:Int):=rfl;rw[e0];obtain⟨gi,o,rfl,hg,hrow⟩:=HX.out.row (by omega);have hca:=(hrow p hp).below HB2.out hg;rw[hps] at hca;have hbt:=hBi.out;have hownc:wr.ownsRow w.heap.size 37 13 (.slice B j cB) j (flat (t.map opA)):=HOWN.out.kept (row:=none) ⟨hbt.os,hbt.tape,hbt.output,hbt.size,fun q hq _=>hbt.block q hq⟩ (Classical.em _);have htk:s.take (j+1)=t++[s[j]]:=by rw[List.take_succ_eq_append_getElem hs,HT.out]
     obtain⟨a,ha⟩:∃a,a=s[j]:=⟨_,rfl⟩;rw[<-ha] at hca htk;have HTK:=Lib.hid htk;have hlow:=HB2.out.size;have hm:j+1<=maxLen:=by unfold maxLen;omega
     have hp0:¬(p:Int)<0:=by omega
     have hp1:(0:Int)<=(p:Int):=by omega
     have hp2:(p:Int)<(n:Int):=by omega
     clear hsc e0 hps ha htk hrow hbt HJ HSC HO HT HF HX hlt;obtain⟨c0,c1,c2,c3,c4,c5,c6,c7,c8,c9,c10,c11,c12⟩:=hca
     go_wp2_with (at_builtin;refine wpList_append_own _ rfl (.tmp 60) (.tmp 65) 32 rfl w.heap.size 37 i0 _ 13 128 Tryz.underlying32 hi0 hz0 hz1 hz2 rfl (by decide) _ _ _ rfl (hownc.alloc _) ⟨wr.heap.size,0,none⟩ 1 1 (opA a).toList rfl rfl (row_there wr _ _) (op_cells1 a) hm (by omega) (by simp;omega) ?_;intro v2 w3 hown3 hg3 _)
     have hb3:Below w.heap.size w w3:=(HB2.out.alloc HB2.out.size _).grown hg3 (by simp;omega) (fun q hq=>(hownc.lt q hq).1);rw[flat_op,<-HTK.out] at hown3
     go_roundg (gp-1)
     case measure=>omega
     case rel=>exact⟨j+1,by omega,by omega,hown3,hb3⟩
end Go.Proofs.YtnnnkaobhkeocaaGreatDoor
namespace Go.Proofs.YtnnnkaobhkeocaaGreatDoor
open Go.RowKit StampMath GraphMath OpMath
structure Play (H:GraphHave) (w W:World) (a:Addr) (bx:Nat) (γ:Gr) (X:Option Addr) (n1 c1:Nat) (Y:Option Addr) (m1 d1:Nat) (N:Nat->Prop):Prop where
 gr:GX H w W N a γ
 x:GrAt (fun i=>N i/\i≠bx) W (.agg #[.slice X n1 c1,.slice Y m1 d1]) γ
 here:N bx
 ge:w.heap.size<=bx
 box:W.heap[bx]?=some (.cells #[.slice X n1 c1,.slice Y m1 d1] 31 (0,0))
theorem box_behind{W W':World}{o:Obj}(hb:Below (W.alloc o).drew.heap.size (W.alloc o).drew W'):W'.heap[W.heap.size]?=some o:=
 (hb.block _ (heap_lt (heap_alloc_new W o))).trans (heap_alloc_new W o)
def Told(N:Nat->Prop)(w6:World)(g':Gr)(er:Int)(v n:Value)(W:World):Prop:=
 ∃(bn:Nat)(X:Option Addr)(n1 c1:Nat)(Y:Option Addr)(m1 d1:Nat),v=.pointer (some ⟨bn,0,none⟩)/\n=.int .i64 er/\Below w6.heap.size w6 W/\w6.heap.size<=bn/\
  W.heap[bn]?=some (.cells #[.slice X n1 c1,.slice Y m1 d1] 31 (0,0))/\GrAt (MoreN N w6) W (.agg #[.slice X n1 c1,.slice Y m1 d1]) g'
theorem told_after{N:Nat->Prop}{w6 W w8:World}{g':Gr}{er:Int}{X:Option Addr}{n1 c1:Nat}{Y:Option Addr}{m1 d1:Nat}(hW:Below w6.heap.size w6 W)(q8:GrAt (MoreN N W) w8 (.agg #[.slice X n1 c1,.slice Y m1 d1]) g')(hb8:Below W.heap.size W w8):
  Told N w6 g' er (.pointer (some ⟨w8.heap.size,0,none⟩)) (.int .i64 er) (w8.alloc (.cells #[.slice X n1 c1,.slice Y m1 d1] 31)):=by
 have h1:=below_step hW hb8;exact⟨_,X,n1,c1,Y,m1,d1,rfl,rfl,below_step h1 ((Below.refl _ _).alloc (Nat.le_refl _) _),h1.size,heap_alloc_new _ _,q8.step ((Below.refl _ _).alloc (Nat.le_refl _) _) fun i hi=>hi.imp_right fun q=>Nat.le_trans hW.size q⟩
theorem told_before{N:Nat->Prop}{w6 w8:World}{o:Obj}{g':Gr}{er:Int}{X:Option Addr}{n1 c1:Nat}{Y:Option Addr}{m1 d1:Nat}(hN:∀i,N i->i<w6.heap.size)(ho:w8.heap[w6.heap.size]?=some (.cells #[.slice none 0 0,.slice none 0 0] 31 (0,0)))
  (q8:GrAt (MoreN N (w6.alloc o).drew) w8 (.agg #[.slice X n1 c1,.slice Y m1 d1]) g')(hb8:Below (w6.alloc o).drew.heap.size (w6.alloc o).drew w8):
  Told N w6 g' er (.pointer (some ⟨w6.heap.size,0,none⟩)) (.int .i64 er) ((w8.setCell ⟨w6.heap.size,0,none⟩ (.slice X n1 c1)).setCell ⟨w6.heap.size,1,none⟩ (.slice Y m1 d1)):=by
 have h1:Below w6.heap.size w6 w8:=below_step (((Below.refl w6.heap.size w6).alloc (Nat.le_refl _) o).drew) hb8;refine⟨_,X,n1,c1,Y,m1,d1,rfl,rfl,(h1.setCell (p:=⟨w6.heap.size,0,none⟩) (Nat.le_refl _) _).setCell (p:=⟨w6.heap.size,1,none⟩) (Nat.le_refl _) _,Nat.le_refl _,?_,q8.keep (fun i hi=>?_) (by simp) fun i hi=>hi.imp_right fun q=>?_⟩
 ·rw[heap_setCell_same _ _ _ _ _ _ (heap_setCell_same _ _ _ _ _ _ ho)]
  rfl
 ·have hne:i≠w6.heap.size:=by
   rcases hi with hi|hi
   ·have:=hN i hi;omega
   ·have h2:w6.heap.size+1<=i:=by
     have h3:(w6.alloc o).drew.heap.size=w6.heap.size+1:=by show(w6.alloc o).heap.size=_;simp
     omega
    omega
  rw[heap_setCell_other _ _ _ _ hne,heap_setCell_other _ _ _ _ hne]
 ·have h3:(w6.alloc o).drew.heap.size=w6.heap.size+1:=by show(w6.alloc o).heap.size=_;simp
  omega
end Go.Proofs.YtnnnkaobhkeocaaGreatDoor
namespace Go.Proofs.YtnnnkaobhkeocaaGreatDoor
open Go.RowKit StampMath GraphMath OpMath PackMath
structure Boxed (w W:World) (bx:Nat) (γ:Gr) (X:Option Addr) (n1 c1:Nat) (Y:Option Addr) (m1 d1:Nat):Prop where
 x:GrAt (fun i=>(w.heap.size+1<=i/\i≠bx)/\i<W.heap.size) W (.agg #[.slice X n1 c1,.slice Y m1 d1]) γ
 ge:w.heap.size+1<=bx
 box:W.heap[bx]?=some (.cells #[.slice X n1 c1,.slice Y m1 d1] 31 (0,0))
 res:W.heap[w.heap.size]?=some (.cells #[.slice none 0 0,.slice none 0 0] 31 (0,0))
 below:Below w.heap.size w W
end Go.Proofs.YtnnnkaobhkeocaaGreatDoor
namespace Go.Proofs.YtnnnkaobhkeocaaGreatDoor
open Go.RowKit StampMath GraphMath
theorem parentG_eq(g:Gr)(d:St):parentG g d=if(getG g d).isSome=true/\((getG g d).getD noIno).kind=1 then(g.E.find? fun e=>decide (e.ino=d)).map fun e=>e.dir else none:=by
 unfold parentG
 cases h:getG g d with
 |none=>rw[if_neg (by simp)]
 |some x=>
  by_cases hk:x.kind=1
  ·rw[if_pos ⟨rfl,hk⟩];simp[hk]
  ·rw[if_neg (fun q=>hk q.2)];simp[hk]
set_option maxRecDepth 100000 in
set_option maxHeartbeats 1600000 in
theorem refParent(A A':Option Addr)(n c m d:Nat)(g:Gr)(id:St)(hn:n<=1000)(hm:m<=1000)(w:World)(h:InosIn w w.heap.size A n g.I)(h':EntsIn w w.heap.size A' m g.E):
  Calls Tryz.prog 205 #[.agg #[.slice A n c,.slice A' m d],.agg (stA id)] w fun e w'=>e=.returned (.tuple #[.agg (stA ((parentG g id).getD (0,0))),.bool (parentG g id).isSome])/\Below w.heap.size w w':=by
 have hl:=h'.len;have HI:Hid (EntsIn w w.heap.size A' m g.E):=h';have hpar:=parentG_eq g id;obtain⟨X,hX⟩:∃X,X=(getG g id).getD noIno:=⟨_,rfl⟩;obtain⟨is,his⟩:∃is,is=(getG g id).isSome:=⟨_,rfl⟩;have HG:Hid (∀W:World,Below w.heap.size w W->Calls Tryz.prog 80 #[.agg #[.slice A n c,.slice A' m d],.agg #[.int .i64 id.1,.int .i64 id.2]] W fun e w'=>e=.returned (.tuple #[.agg #[.int .i64 X.id.1,.int .i64 X.id.2,.int .i64 X.kind,.int .i64 X.links,.int .i64 X.mode,.string X.data],.bool is])/\Below W.heap.size W w'):=fun W hW=>by
  rw[hX,his];exact refGet A A' n c m d g id hn hm W ((h.below hW).more hW.size) ((h'.below hW).more hW.size)
 rw[<-hX,<-his] at hpar;clear h h' hX his;have HPar:=Lib.hid hpar;clear hpar;have hb0:Held w [(w.heap.size+1+1,.cells #[.int .i64 0,.int .i64 0] 24),(w.heap.size+1,.cells (stA id) 24),(w.heap.size,.cells #[.slice A n c,.slice A' m d] 31)]
  (((w.alloc (.cells #[.slice A n c,.slice A' m d] 31)).alloc (.cells #[.int .i64 id.1,.int .i64 id.2] 24)).alloc (.cells #[.int .i64 0,.int .i64 0] 24)):=
  (((Held.refl w).alloc (.cells #[.slice A n c,.slice A' m d] 31) rfl).alloc (.cells (stA id) 24) (by simp)).alloc (.cells #[.int .i64 0,.int .i64 0] 24) (by simp)
 unfold stA
 go_enter Tryz.func205,Tryz.ntmps205
 go_wp2_with fail
 refine(HG.out _ hb0.below).mono ?_;rintro e w1 ⟨rfl,hb1⟩;have hH1:=hb0.step hb1;clear hb0 hb1
 go_upto_region 2 with fail
 change Code.wp _ _ _ _ (w1.alloc (.cells (inoA X) 102));obtain⟨u,hu⟩:∃u,u=w1.heap.size:=⟨_,rfl⟩;have hlow:w.heap.size+1+1<u:=by rw[hu];exact heap_lt (hH1.at 0 rfl)
 have hH2:=hH1.alloc (.cells (inoA X) 102) hu.symm;rw[<-hu];generalize w1.alloc (.cells (inoA X) 102)=w2 at hH2 ⊢;clear hH1 hu
 go_wp2_with fail
 go_loopg [8] (m+1) (fun gk i wr=>∃k:Nat,i=.int .i64 (k:Int)/\gk+k=m+1/\k<=m/\Hid ((g.E.take k).find? (fun e=>decide (e.ino=id))=none)/\Held w [(u,.cells (inoA X) 102),(w.heap.size+1+1,.cells #[.int .i64 0,.int .i64 0] 24),(w.heap.size+1,.cells (stA id) 24),(w.heap.size,.cells #[.slice A n c,.slice A' m d] 31)] wr)
 case atStart=>exact⟨0,rfl,by omega,by omega,rfl,hH2⟩
 case round=>
  obtain⟨k,rfl,hgk,hk,hnone,hH⟩:=hrel;clear hH2;have hc1:=(two_cells (g:=w.heap.size) (hH.at 3 rfl)).2;obtain⟨c3,c4⟩:=two_cells (g:=w.heap.size+1) (hH.at 2 rfl);obtain⟨m0,m1⟩:=two_cells (g:=w.heap.size+1+1) (hH.at 1 rfl);obtain⟨f0,f1⟩:=two_free (g:=w.heap.size+1+1) (hH.at 1 rfl);have hx2:=(ino_cells (g:=u) (hH.at 0 rfl)).2.2.1;have hcase:(k<m/\is=true/\(X.kind==1)=true)\/(parentG g id=none/\(¬(k:Int)<m\/((k:Int)<m/\is=false)\/((k:Int)<m/\is=true/\(X.kind==1)=false))):=by
   by_cases h1:k<m
   ·cases is with
    |false=>exact Or.inr ⟨HPar.out.trans (if_neg (by simp)),Or.inr (Or.inl ⟨by omega,rfl⟩)⟩
    |true=>
     by_cases h2:X.kind=1
     ·exact Or.inl ⟨h1,rfl,beq_iff_eq.2 h2⟩
     ·exact Or.inr ⟨HPar.out.trans (if_neg fun q=>h2 q.2),Or.inr (Or.inr ⟨by omega,rfl,beq_eq_false_iff_ne.2 h2⟩)⟩
   ·refine Or.inr ⟨?_,Or.inl (by omega)⟩;have h:=hnone.out;rw[List.take_of_length_le (by omega)] at h;rw[HPar.out,h];simp
  rcases hcase with ⟨hlt,rfl,hkd⟩|⟨hpn,hcase⟩
  ·obtain⟨gi,o,rfl,hg,hrow⟩:=HI.out.row (by omega);have hp:=find_none_take (p:=fun e:Ent=>decide (e.ino=id)) (k:=k) (by omega) hnone.out;have hrk:=(hrow k (by omega)).below hH.below hg;obtain⟨⟨di,en,ei⟩,hx⟩:∃x,g.E[k]=x:=⟨_,rfl⟩;rw[hx] at hrk hp;clear hrow hx hnone;obtain⟨e0,e1,e2,e3,e4⟩:=hrk;by_cases hq:ei=id
   ·have hv:=eqSt_yes hq;have HR:Hid (parentG g id=some di):=by
     rw[if_pos (decide_eq_true hq)] at hp;show parentG g id=_;rw[HPar.out,if_pos ⟨rfl,beq_iff_eq.1 hkd⟩,find_take hp]
     rfl
    clear hp;subst hq
    go_wp2_with fail
    go_quiet (fail)
    go_wp2_with fail
    exact bodyPost_ret (v:=.tuple #[.agg (stA di),.bool true]) (by simp[results,Tryz.results205,go_sem,stA,m0,m1]) rfl ⟨by rw[HR.out];rfl,((below_drewN' hH.below _).setCell (by dsimp only;omega) _).setCell (by dsimp only;omega) _⟩
   ·have hv:=eqSt_no hq;have HP:Hid ((g.E.take (k+1)).find? (fun e=>decide (e.ino=id))=none):=by
     rw[if_neg (by rw[decide_eq_false hq];decide)] at hp;exact hp
    clear hp
    go_wp2_with fail
    go_quiet (fail)
    go_wp2_with fail
    go_roundg (gk-1)
    case measure=>omega
    case rel=>exact⟨k+1,by go_num,by omega,by omega,HP.out,hH.drewN _⟩
  ·have HR:=Lib.hid hpn;clear hpn;rcases hcase with h1|⟨h1,rfl⟩|⟨h1,rfl,h2⟩
   all_goals
    go_wp2_with fail
    exact bodyPost_ret (v:=.tuple #[.agg (stA (0,0)),.bool false]) (by simp[results,Tryz.results205,go_sem,stA,m0,m1]) rfl ⟨by rw[HR.out];rfl,((hH.below).setCell (by dsimp only;omega) _).setCell (by dsimp only;omega) _⟩
theorem underN_succ(g:Gr)(n:Nat)(a b:St):underN g (n+1) a b=if a=b then true else match parentG g a with
  |none=>false
  |some up=>underN g n up b:=rfl
structure UBox (w W:World) (x y:Value) (cur dir:St):Prop where
 a:W.heap[w.heap.size]?=some (.cells #[x,y] 31 (0,0))
 b:W.heap[w.heap.size+1]?=some (.cells #[.int .i64 cur.1,.int .i64 cur.2] 24 (0,0))
 c:W.heap[w.heap.size+1+1]?=some (.cells #[.int .i64 dir.1,.int .i64 dir.2] 24 (0,0))
 low:Below w.heap.size w W
theorem UBox.step{w W W':World}{x y:Value}{cur dir:St}(h:UBox w W x y cur dir)(hb:Below W.heap.size W W'):UBox w W' x y cur dir:=
 ⟨(hb.block _ (heap_lt h.a)).trans h.a,(hb.block _ (heap_lt h.b)).trans h.b,(hb.block _ (heap_lt h.c)).trans h.c,below_step h.low hb⟩
theorem UBox.set{w W:World}{x y:Value}{cur dir:St}(h:UBox w W x y cur dir)(up:St):
  UBox w ((W.setCell ⟨w.heap.size+1,0,none⟩ (.int .i64 up.1)).setCell ⟨w.heap.size+1,1,none⟩ (.int .i64 up.2)) x y up dir:=
 ⟨(heap_setCell_other _ _ _ _ (by dsimp only;omega)).trans ((heap_setCell_other _ _ _ _ (by dsimp only;omega)).trans h.a),box_set h.b,(heap_setCell_other _ _ _ _ (by dsimp only;omega)).trans ((heap_setCell_other _ _ _ _ (by dsimp only;omega)).trans h.c),
  (h.low.setCell (by dsimp only;omega) _).setCell (by dsimp only;omega) _⟩
set_option maxRecDepth 100000 in
set_option maxHeartbeats 1600000 in
theorem refUnder(A A':Option Addr)(n c m d:Nat)(g:Gr)(id dir:St)(hn:n<=1000)(hm:m<=1000)(w:World)(h:InosIn w w.heap.size A n g.I)(h':EntsIn w w.heap.size A' m g.E):
  Calls Tryz.prog 179 #[.agg #[.slice A n c,.slice A' m d],.agg (stA id),.agg (stA dir)] w fun e w'=>e=.returned (.bool (underG g id dir))/\Below w.heap.size w w':=by
 have hl:=h.len;have HP:Hid (∀(a:St)(W:World),Below w.heap.size w W->Calls Tryz.prog 205 #[.agg #[.slice A n c,.slice A' m d],.agg #[.int .i64 a.1,.int .i64 a.2]] W fun e w'=>e=.returned (.tuple #[.agg #[.int .i64 ((parentG g a).getD (0,0)).1,.int .i64 ((parentG g a).getD (0,0)).2],.bool (parentG g a).isSome])/\Below W.heap.size W w'):=fun a W hW=>
  refParent A A' n c m d g a hn hm W ((h.below hW).more hW.size) ((h'.below hW).more hW.size)
 clear h h';have hb0:UBox w (((w.alloc (.cells #[.slice A n c,.slice A' m d] 31)).alloc (.cells #[.int .i64 id.1,.int .i64 id.2] 24)).alloc (.cells #[.int .i64 dir.1,.int .i64 dir.2] 24)) (.slice A n c) (.slice A' m d) id dir:=by
  have hq:=(((Held.refl w).alloc (.cells #[.slice A n c,.slice A' m d] 31) rfl).alloc (.cells #[.int .i64 id.1,.int .i64 id.2] 24) (g:=w.heap.size+1) (by simp)).alloc (.cells #[.int .i64 dir.1,.int .i64 dir.2] 24) (g:=w.heap.size+1+1) (by simp);exact⟨hq.at 2 rfl,hq.at 1 rfl,hq.at 0 rfl,hq.below⟩
 unfold stA
 go_enter Tryz.func179,Tryz.ntmps179
 go_wp2_with fail
 go_loopg [7] (n+2) (fun gk i wr=>∃(k:Nat)(cur:St),i=.int .i64 (k:Int)/\gk+k=n+2/\k<=n+1/\Hid (underN g (n+1-k) cur dir=underG g id dir)/\UBox w wr (.slice A n c) (.slice A' m d) cur dir)
 case atStart=>exact⟨0,id,rfl,by omega,by omega,(by unfold underG;rw[hl];rfl),hb0⟩
 case round=>
  obtain⟨k,cur,rfl,hgk,hk,hun,hH⟩:=hrel;clear hb0;obtain⟨c1,c2⟩:=two_cells hH.a;obtain⟨c3,c4⟩:=two_cells hH.b;obtain⟨c5,c6⟩:=two_cells hH.c;obtain⟨f0,f1⟩:=two_free hH.b;by_cases hlt:k<=n
  ·have hun2:=hun.out;rw[show n+1-k=(n-k)+1 by omega,underN_succ] at hun2;by_cases hq:cur=dir
   ·rw[if_pos hq] at hun2;have HU:=Lib.hid hun2;clear hun hun2;have hv:=eqSt_yes hq;subst hq
    go_wp2_with fail
    go_ret
    exact⟨by rw[<-HU.out];rfl,hH.low⟩
   ·rw[if_neg hq] at hun2;have hv:=eqSt_no hq;have HPc:=Lib.hid (HP.out cur)
    cases hpar:parentG g cur with
    |none=>
     rw[hpar] at hun2 HPc;have HU:Hid (false=underG g id dir):=hun2;have HQ:Hid (∀(W:World),Below w.heap.size w W->Calls Tryz.prog 205 #[.agg #[.slice A n c,.slice A' m d],.agg #[.int .i64 cur.1,.int .i64 cur.2]] W fun e w'=>e=.returned (.tuple #[.agg #[.int .i64 0,.int .i64 0],.bool false])/\Below W.heap.size W w'):=HPc;clear hun hun2 HPc hpar HP
     go_wp2_with fail
     refine(HQ.out _ hH.low).mono ?_;rintro e w1 ⟨rfl,hb1⟩;have hH1:=hH.step hb1;clear hH hb1 c1 c2 c3 c4 c5 c6 f0 f1
     go_wp2_with fail
     go_ret
     exact⟨by rw[<-HU.out];rfl,hH1.low.alloc hH1.low.size _⟩
    |some up=>
     rw[hpar] at hun2 HPc;have HU:Hid (underN g (n-k) up dir=underG g id dir):=hun2;have HQ:Hid (∀(W:World),Below w.heap.size w W->Calls Tryz.prog 205 #[.agg #[.slice A n c,.slice A' m d],.agg #[.int .i64 cur.1,.int .i64 cur.2]] W fun e w'=>e=.returned (.tuple #[.agg #[.int .i64 up.1,.int .i64 up.2],.bool true])/\Below W.heap.size W w'):=HPc;clear hun hun2 HPc hpar
     go_wp2_with fail
     refine(HQ.out _ hH.low).mono ?_;rintro e w1 ⟨rfl,hb1⟩;have hH1:=hH.step hb1;clear hH hb1 c1 c2 c3 c4 c5 c6 f0 f1
     go_upto_region 9 with fail
     have hb2:Below w1.heap.size w1 (w1.alloc (.cells #[.int .i64 up.1,.int .i64 up.2] 24)):=(Below.refl _ _).alloc (Nat.le_refl _) _;have hH2:=hH1.step hb2;have hu2:=two_cells (heap_alloc_new w1 (.cells #[.int .i64 up.1,.int .i64 up.2] 24));obtain⟨u,hu⟩:∃u,u=w1.heap.size:=⟨_,rfl⟩;have hlow:w.heap.size+1+1<u:=by rw[hu];exact heap_lt hH1.c
     rw[<-hu] at hu2 ⊢;generalize w1.alloc (.cells #[.int .i64 up.1,.int .i64 up.2] 24)=w2 at hH2 hu2 ⊢;clear hb2 hH1 hu;obtain⟨u0,u1⟩:=hu2;obtain⟨c3,c4⟩:=two_cells hH2.b;obtain⟨f0,f1⟩:=two_free hH2.b
     go_wp2_with fail
     go_roundg (gk-1)
     case measure=>omega
     case rel=>exact⟨k+1,up,by go_num,by omega,by omega,(by rw[show n+1-(k+1)=n-k by omega];exact HU.out),hH2.set up⟩
  ·have HU:Hid (false=underG g id dir):=by
    have h:=hun.out;rw[show n+1-k=0 by omega] at h;exact h
   go_wp2_with fail
   go_ret
   exact⟨by rw[<-HU.out];rfl,hH.low⟩
end Go.Proofs.YtnnnkaobhkeocaaGreatDoor
namespace Go.Proofs.YtnnnkaobhkeocaaGreatDoor
open Go.RowKit StampMath GraphMath OpMath
structure GrV (w:World) (A:Option Addr) (n c:Nat) (A':Option Addr) (m d:Nat) (g:Gr):Prop where
 I:InosIn w w.heap.size A n g.I
 E:EntsIn w w.heap.size A' m g.E
 fewI:n<=1000
 fewE:m<=1000
theorem GrV.step{w W:World}{A:Option Addr}{n c:Nat}{A':Option Addr}{m d:Nat}{g:Gr}(h:GrV w A n c A' m d g)(hb:Below w.heap.size w W):GrV W A n c A' m d g:=
 ⟨(h.I.below hb).more hb.size,(h.E.below hb).more hb.size,h.fewI,h.fewE⟩
theorem GrAt.few{N:Nat->Prop}{w:World}{v:Value}{g:Gr}(h:GrAt N w v g)(hn:g.I.length<=1000)(hm:g.E.length<=1000):∃(A:Option Addr)(n c:Nat)(A':Option Addr)(m d:Nat),v=.agg #[.slice A n c,.slice A' m d]/\GrV w A n c A' m d g:=by
 obtain⟨A,n,c,A',m,d,h1,h2,_,h4,_⟩:=h;exact⟨A,n,c,A',m,d,h1,h2,h4,by have:=h2.len;omega,by have:=h4.len;omega⟩
theorem GrV.get{w:World}{A:Option Addr}{n c:Nat}{A':Option Addr}{m d:Nat}{g:Gr}(h:GrV w A n c A' m d g)(id:St):
  Calls Tryz.prog 80 #[.agg #[.slice A n c,.slice A' m d],.agg #[.int .i64 id.1,.int .i64 id.2]] w fun e w'=>e=.returned (.tuple #[.agg (inoA ((getG g id).getD noIno)),.bool (getG g id).isSome])/\Below w.heap.size w w':=
 refGet A A' n c m d g id h.fewI h.fewE w h.I h.E
theorem GrV.look{w:World}{A:Option Addr}{n c:Nat}{A':Option Addr}{m d:Nat}{g:Gr}(h:GrV w A n c A' m d g)(at':St)(nm:ByteArray):
  Calls Tryz.prog 102 #[.agg #[.slice A n c,.slice A' m d],.agg #[.int .i64 at'.1,.int .i64 at'.2],.string nm] w fun e w'=>e=.returned (.tuple #[.agg #[.int .i64 ((lookE g.E at' nm).getD (0,0)).1,.int .i64 ((lookE g.E at' nm).getD (0,0)).2],.bool (lookE g.E at' nm).isSome])/\Below w.heap.size w w':=
 refLook (.slice A n c) A' m d g.E at' nm h.fewE w h.E
theorem GrV.under{w:World}{A:Option Addr}{n c:Nat}{A':Option Addr}{m d:Nat}{g:Gr}(h:GrV w A n c A' m d g)(a b:St):
  Calls Tryz.prog 179 #[.agg #[.slice A n c,.slice A' m d],.agg #[.int .i64 a.1,.int .i64 a.2],.agg #[.int .i64 b.1,.int .i64 b.2]] w fun e w'=>e=.returned (.bool (underG g a b))/\Below w.heap.size w w':=
 refUnder A A' n c m d g a b h.fewI h.fewE w h.I h.E
theorem GrV.list{w:World}{A:Option Addr}{n c:Nat}{A':Option Addr}{m d:Nat}{g:Gr}(h:GrV w A n c A' m d g)(id:St):
  Calls Tryz.prog 139 #[.agg #[.slice A n c,.slice A' m d],.agg #[.int .i64 id.1,.int .i64 id.2]] w (EntsPost (listE g.E id) w):=
 refList (.slice A n c) A' m d g.E id h.fewE w h.E
set_option maxRecDepth 100000 in
theorem GrV.kind{w:World}{A:Option Addr}{n c:Nat}{A':Option Addr}{m d:Nat}{g:Gr}(h:GrV w A n c A' m d g)(id:St):
  Calls Tryz.prog 135 #[.agg #[.slice A n c,.slice A' m d],.agg #[.int .i64 id.1,.int .i64 id.2]] w fun e w'=>e=.returned (.int .i64 (kindG g id))/\Below w.heap.size w w':=by
 have HG:Hid (∀W,Below w.heap.size w W->Calls Tryz.prog 80 #[.agg #[.slice A n c,.slice A' m d],.agg #[.int .i64 id.1,.int .i64 id.2]] W fun e w'=>e=.returned (.tuple #[.agg (inoA ((getG g id).getD noIno)),.bool (getG g id).isSome])/\Below W.heap.size W w'):=fun W hW=>(h.step hW).get id;unfold kindG;obtain⟨x,hx⟩:∃x,x=(getG g id).getD noIno:=⟨_,rfl⟩;rw[<-hx] at HG ⊢;have hb0:Below w.heap.size w ((w.alloc (.cells #[.slice A n c,.slice A' m d] 31)).alloc (.cells #[.int .i64 id.1,.int .i64 id.2] 24)):=((Below.refl _ _).alloc (Nat.le_refl _) _).alloc (by simp) _;clear hx h;unfold inoA at HG
 go_enter Tryz.func135,Tryz.ntmps135
 go_wp2_with fail
 refine(HG.out _ hb0).mono ?_;rintro e w1 ⟨rfl,hb1⟩;have hb2:=below_step hb0 hb1;clear hb0 hb1
 go_wp2_with fail
 go_ret
 exact⟨rfl,by first|exact hb2|exact hb2.alloc hb2.size _⟩
set_option maxRecDepth 100000 in
theorem GrV.has{w:World}{A:Option Addr}{n c:Nat}{A':Option Addr}{m d:Nat}{g:Gr}(h:GrV w A n c A' m d g)(at':St)(nm:ByteArray)(ino:St):
  Calls Tryz.prog 138 #[.agg #[.slice A n c,.slice A' m d],.agg #[.int .i64 at'.1,.int .i64 at'.2],.string nm,.agg #[.int .i64 ino.1,.int .i64 ino.2]] w fun e w'=>e=.returned (.bool (decide (lookE g.E at' nm=some ino)))/\Below w.heap.size w w':=by
 have HG:Hid (∀W,Below w.heap.size w W->Calls Tryz.prog 102 #[.agg #[.slice A n c,.slice A' m d],.agg #[.int .i64 at'.1,.int .i64 at'.2],.string nm] W fun e w'=>e=.returned (.tuple #[.agg #[.int .i64 ((lookE g.E at' nm).getD (0,0)).1,.int .i64 ((lookE g.E at' nm).getD (0,0)).2],.bool (lookE g.E at' nm).isSome])/\Below W.heap.size W w'):=fun W hW=>(h.step hW).look at' nm;have hr:decide (lookE g.E at' nm=some ino)=((lookE g.E at' nm).isSome&&(((lookE g.E at' nm).getD (0,0)).1==ino.1&&((lookE g.E at' nm).getD (0,0)).2==ino.2)):=by
  cases hq:lookE g.E at' nm with
  |none=>simp
  |some t=>simp[Prod.ext_iff];rw[Bool.eq_iff_iff];simp
 have HR:=Lib.hid hr;obtain⟨b,hb⟩:∃b,b=(lookE g.E at' nm).isSome:=⟨_,rfl⟩;obtain⟨t,ht⟩:∃t,t=(lookE g.E at' nm).getD (0,0):=⟨_,rfl⟩;obtain⟨r,hr'⟩:∃r,r=decide (lookE g.E at' nm=some ino):=⟨_,rfl⟩;rw[<-hb,<-ht] at HG;rw[<-hb,<-ht,<-hr'] at HR;rw[<-hr'];obtain⟨r1,hr1⟩:∃r1,(t.1==ino.1)=r1:=⟨_,rfl⟩;obtain⟨r2,hr2⟩:∃r2,(t.2==ino.2)=r2:=⟨_,rfl⟩;rw[hr1,hr2] at HR;have hb0:Held w [(w.heap.size+1+1,.cells #[.int .i64 ino.1,.int .i64 ino.2] 24)] (((w.alloc (.cells #[.slice A n c,.slice A' m d] 31)).alloc (.cells #[.int .i64 at'.1,.int .i64 at'.2] 24)).alloc (.cells #[.int .i64 ino.1,.int .i64 ino.2] 24)):=
  (((Held.refl w).alloc (.cells #[.slice A n c,.slice A' m d] 31) rfl).alloc (.cells #[.int .i64 at'.1,.int .i64 at'.2] 24) (g:=w.heap.size+1) (by simp)).tail.tail.alloc (.cells #[.int .i64 ino.1,.int .i64 ino.2] 24) (by simp)
 clear hb ht hr hr' h
 go_enter Tryz.func138,Tryz.ntmps138
 go_wp2_with fail
 refine(HG.out _ hb0.below).mono ?_;rintro e w1 ⟨rfl,hb1⟩;have hb2:=hb0.step hb1;clear hb0 hb1;obtain⟨i0,i1⟩:=two_cells (g:=w.heap.size+1+1) (hb2.at 0 rfl);have hlt:=heap_lt (hb2.at 0 rfl);have q0:=(heap_alloc_old w1 (.cells #[.int .i64 t.1,.int .i64 t.2] 24) hlt).trans (hb2.at 0 rfl);obtain⟨j0,j1⟩:=two_cells (g:=w.heap.size+1+1) q0;have HB:=Lib.hid hb2.below;clear hb2 q0
 cases b
 ·go_wp2_with fail
  go_ret
  exact⟨by rw[HR.out];rfl,by first|exact HB.out|exact HB.out.alloc HB.out.size _⟩
 ·cases r1<;>cases r2
  all_goals
   go_wp2_with fail
   go_ret
   exact⟨by rw[HR.out];rfl,by first|exact HB.out|exact HB.out.alloc HB.out.size _⟩
def whyB(nm ai xi:Bool)(ak:Int)(lk:Bool)(xk:Int)(rt u:Bool)(xl:Int):Int:=
 if nm=false then 1 else if ai=false\/xi=false then 3 else if ak≠1 then 6 else if lk=true then 4 else if xk=1/\(rt=true\/u=true) then 8 else if xk=1/\0<xl\/6<=xl then 12 else 0
theorem whyG_eq(nm:Bool)(g:Gr)(e:Ent):whyG nm g e=whyB nm (getG g e.dir).isSome (getG g e.ino).isSome ((getG g e.dir).getD noIno).kind (lookE g.E e.dir e.name).isSome ((getG g e.ino).getD noIno).kind (decide (e.ino=(0,0))) (underG g e.dir e.ino) ((getG g e.ino).getD noIno).links:=by
 unfold whyG whyB
 cases nm
 ·rfl
 ·rw[if_neg (by decide),if_neg (by decide)]
  cases h1:getG g e.dir with
  |none=>simp
  |some a=>
   cases h2:getG g e.ino with
   |none=>simp
   |some x=>simp
set_option maxRecDepth 100000 in
set_option maxHeartbeats 3200000 in
theorem refWhy(v:Value)(g:Gr)(e:Ent)(hn:g.I.length<=1000)(hm:g.E.length<=1000)(hs:e.name.size<=9223372036854775807)(w:World){N:Nat->Prop}(hv:GrAt N w v g):
  Calls Tryz.prog 180 #[v,.agg (entA e)] w fun x w'=>x=.returned (.int .i64 (whyG (nameB e.name) g e))/\Below w.heap.size w w':=by
 obtain⟨A,n,c,A',m,d,rfl,hI,hc1,hE,hc2⟩:=hv;have hl:=hI.len;have hl':=hE.len;have hwhy:=whyG_eq (nameB e.name) g e;obtain⟨a,ha⟩:∃a,a=(getG g e.dir).getD noIno:=⟨_,rfl⟩;obtain⟨ai,hai⟩:∃ai,ai=(getG g e.dir).isSome:=⟨_,rfl⟩;obtain⟨x,hx⟩:∃x,x=(getG g e.ino).getD noIno:=⟨_,rfl⟩;obtain⟨xi,hxi⟩:∃xi,xi=(getG g e.ino).isSome:=⟨_,rfl⟩;obtain⟨p,hp⟩:∃p,p=(lookE g.E e.dir e.name).getD (0,0):=⟨_,rfl⟩;obtain⟨lk,hlk⟩:∃lk,lk=(lookE g.E e.dir e.name).isSome:=⟨_,rfl⟩;obtain⟨u,hu⟩:∃u,u=underG g e.dir e.ino:=⟨_,rfl⟩;obtain⟨nm,hnm⟩:∃nm,nm=nameB e.name:=⟨_,rfl⟩;have G1:Hid (∀W:World,Below w.heap.size w W->Calls Tryz.prog 80 #[.agg #[.slice A n c,.slice A' m d],.agg #[.int .i64 e.dir.1,.int .i64 e.dir.2]] W fun z w'=>z=.returned (.tuple #[.agg #[.int .i64 a.id.1,.int .i64 a.id.2,.int .i64 a.kind,.int .i64 a.links,.int .i64 a.mode,.string a.data],.bool ai])/\Below W.heap.size W w'):=fun W hW=>by
  rw[ha,hai];exact refGet A A' n c m d g e.dir (by omega) (by omega) W ((hI.below hW).more hW.size) ((hE.below hW).more hW.size)
 have G2:Hid (∀W:World,Below w.heap.size w W->Calls Tryz.prog 80 #[.agg #[.slice A n c,.slice A' m d],.agg #[.int .i64 e.ino.1,.int .i64 e.ino.2]] W fun z w'=>z=.returned (.tuple #[.agg #[.int .i64 x.id.1,.int .i64 x.id.2,.int .i64 x.kind,.int .i64 x.links,.int .i64 x.mode,.string x.data],.bool xi])/\Below W.heap.size W w'):=fun W hW=>by
  rw[hx,hxi];exact refGet A A' n c m d g e.ino (by omega) (by omega) W ((hI.below hW).more hW.size) ((hE.below hW).more hW.size)
 have L1:Hid (∀W:World,Below w.heap.size w W->Calls Tryz.prog 102 #[.agg #[.slice A n c,.slice A' m d],.agg #[.int .i64 e.dir.1,.int .i64 e.dir.2],.string e.name] W fun z w'=>z=.returned (.tuple #[.agg #[.int .i64 p.1,.int .i64 p.2],.bool lk])/\Below W.heap.size W w'):=fun W hW=>by
  rw[hp,hlk];exact refLook (.slice A n c) A' m d g.E e.dir e.name (by omega) W ((hE.below hW).more hW.size)
 have U1:Hid (∀W:World,Below w.heap.size w W->Calls Tryz.prog 179 #[.agg #[.slice A n c,.slice A' m d],.agg #[.int .i64 e.dir.1,.int .i64 e.dir.2],.agg #[.int .i64 e.ino.1,.int .i64 e.ino.2]] W fun z w'=>z=.returned (.bool u)/\Below W.heap.size W w'):=fun W hW=>by
  rw[hu];exact refUnder A A' n c m d g e.dir e.ino (by omega) (by omega) W ((hI.below hW).more hW.size) ((hE.below hW).more hW.size)
 have N1:Hid (∀W:World,Calls Tryz.prog 113 #[.string e.name] W fun z w'=>z=.returned (.bool nm)/\W=w'):=fun W=>by rw[hnm];exact refName e.name hs W
 have hroot:decide (e.ino=(0,0))=((e.ino.1==0)&&(e.ino.2==0)):=by
  rw[Bool.eq_iff_iff,decide_eq_true_iff,Bool.and_eq_true,beq_iff_eq,beq_iff_eq];exact Prod.ext_iff
 rw[<-ha,<-hai,<-hx,<-hxi,<-hlk,<-hu,<-hnm,hroot] at hwhy;rw[<-hnm];obtain⟨r1,hr1⟩:∃r1,(e.ino.1==0)=r1:=⟨_,rfl⟩;obtain⟨r2,hr2⟩:∃r2,(e.ino.2==0)=r2:=⟨_,rfl⟩;rw[hr1,hr2] at hwhy;have HW:=Lib.hid hwhy;clear hwhy ha hai hx hxi hp hlk hu hnm hI hE hroot hc1 hc2;have hb0:Held w [(w.heap.size+1,.cells (entA e) 126),(w.heap.size,.cells #[.slice A n c,.slice A' m d] 31)]
  ((w.alloc (.cells #[.slice A n c,.slice A' m d] 31)).alloc (.cells (entA e) 126)):=
  ((Held.refl w).alloc (.cells #[.slice A n c,.slice A' m d] 31) rfl).alloc (.cells (entA e) 126) (by simp)
 unfold entA
 go_enter Tryz.func180,Tryz.ntmps180
 go_upto_region 1 with fail
 change Code.wp _ _ _ _ ((w.alloc (.cells #[.slice A n c,.slice A' m d] 31)).alloc (.cells (entA e) 126));generalize (w.alloc (.cells #[.slice A n c,.slice A' m d] 31)).alloc (.cells (entA e) 126)=w0 at hb0 ⊢;obtain⟨c1,c2⟩:=two_cells (g:=w.heap.size) (hb0.at 1 rfl);obtain⟨e0,e1,e2,e3,e4⟩:=ent_cells (g:=w.heap.size+1) (hb0.at 0 rfl)
 go_wp2_with fail
 refine(G1.out _ hb0.below).mono ?_;rintro z w1 ⟨rfl,hb1⟩;have hH1:=hb0.step hb1;clear hb0 hb1 c1 c2 e0 e1 e2 e3 e4
 go_upto_region 2 with fail
 obtain⟨ua,hua⟩:∃u,u=w1.heap.size:=⟨_,rfl⟩;have hla:w.heap.size+1<ua:=by rw[hua];exact heap_lt (hH1.at 0 rfl)
 have hH2:=hH1.alloc (.cells (inoA a) 102) hua.symm;change Code.wp _ _ _ _ (w1.alloc (.cells (inoA a) 102));rw[<-hua];generalize w1.alloc (.cells (inoA a) 102)=w2 at hH2 ⊢;clear hH1 hua;obtain⟨c1,c2⟩:=two_cells (g:=w.heap.size) (hH2.at 2 rfl);obtain⟨e0,e1,e2,e3,e4⟩:=ent_cells (g:=w.heap.size+1) (hH2.at 1 rfl)
 go_wp2_with fail
 refine(G2.out _ hH2.below).mono ?_;rintro z w3 ⟨rfl,hb3⟩;have hH3:=hH2.step hb3;clear hH2 hb3 c1 c2 e0 e1 e2 e3 e4
 go_upto_region 3 with fail
 obtain⟨ux,hux⟩:∃u,u=w3.heap.size:=⟨_,rfl⟩;have hlx:ua<ux:=by rw[hux];exact heap_lt (hH3.at 0 rfl)
 have hH4:=hH3.alloc (.cells (inoA x) 102) hux.symm;change Code.wp _ _ _ _ (w3.alloc (.cells (inoA x) 102));rw[<-hux];generalize w3.alloc (.cells (inoA x) 102)=w4 at hH4 ⊢;clear hH3 hux;obtain⟨c1,c2⟩:=two_cells (g:=w.heap.size) (hH4.at 3 rfl);obtain⟨e0,e1,e2,e3,e4⟩:=ent_cells (g:=w.heap.size+1) (hH4.at 2 rfl)
 go_wp2_with fail
 refine(L1.out _ hH4.below).mono ?_;rintro z w5 ⟨rfl,hb5⟩;have hH5:=hH4.step hb5;clear hH4 hb5 c1 c2 e0 e1 e2 e3 e4
 go_upto_region 4 with fail
 have hH6:=hH5.alloc (.cells #[.int .i64 p.1,.int .i64 p.2] 24) rfl;generalize w5.alloc (.cells #[.int .i64 p.1,.int .i64 p.2] 24)=w6 at hH6 ⊢;obtain⟨up,hup⟩:∃u,u=w5.heap.size:=⟨_,rfl⟩;rw[<-hup] at hH6 ⊢;clear hH5 hup;obtain⟨c1,c2⟩:=two_cells (g:=w.heap.size) (hH6.at 4 rfl);obtain⟨e0,e1,e2,e3,e4⟩:=ent_cells (g:=w.heap.size+1) (hH6.at 3 rfl);have ka:=(ino_cells (g:=ua) (hH6.at 2 rfl)).2.2.1;have kx:=(ino_cells (g:=ux) (hH6.at 1 rfl)).2.2.1;have lx:=(ino_cells (g:=ux) (hH6.at 1 rfl)).2.2.2.1;have HB:=Lib.hid hH6.below;clear hH6
 go_wp2_with fail
 refine(N1.out _).mono ?_;rintro z w7 ⟨rfl,rfl⟩
 cases nm
 ·go_wp2_with fail
  go_ret
  exact⟨by rw[HW.out];rfl,HB.out⟩
 cases ai
 ·go_wp2_with fail
  go_ret
  exact⟨by rw[HW.out];simp[whyB],HB.out⟩
 cases xi
 ·go_wp2_with fail
  go_ret
  exact⟨by rw[HW.out];simp[whyB],HB.out⟩
 by_cases hk:a.kind=1
 ·have hkb:(a.kind==1)=true:=beq_iff_eq.2 hk;have Hk:=Lib.hid hk;clear hk
  cases lk
  ·by_cases hx:x.kind=1
   ·have hxb:(x.kind==1)=true:=beq_iff_eq.2 hx;have Hx:=Lib.hid hx;clear hx
    cases r1
    ·go_wp2_with fail
     refine(U1.out _ HB.out).mono ?_;rintro z w8 ⟨rfl,hb8⟩;have kx8:=cell_later hb8 kx;have lx8:=cell_later hb8 lx;have HB8:=Lib.hid (below_step HB.out hb8);clear hb8
     cases u
     ·by_cases h1:0<x.links
      ·go_wp2_with fail
       go_ret
       exact⟨by rw[HW.out];simp[whyB,Hk.out,Hx.out,h1],HB8.out⟩
      ·have h2:¬6<=x.links:=by omega
       go_wp2_with fail
       go_ret
       exact⟨by rw[HW.out];simp[whyB,Hk.out,Hx.out,h1,h2],HB8.out⟩
     ·go_wp2_with fail
      go_ret
      exact⟨by rw[HW.out];simp[whyB,Hk.out,Hx.out],HB8.out⟩
    ·cases r2
     ·go_wp2_with fail
      refine(U1.out _ HB.out).mono ?_;rintro z w8 ⟨rfl,hb8⟩;have kx8:=cell_later hb8 kx;have lx8:=cell_later hb8 lx;have HB8:=Lib.hid (below_step HB.out hb8);clear hb8
      cases u
      ·by_cases h1:0<x.links
       ·go_wp2_with fail
        go_ret
        exact⟨by rw[HW.out];simp[whyB,Hk.out,Hx.out,h1],HB8.out⟩
       ·have h2:¬6<=x.links:=by omega
        go_wp2_with fail
        go_ret
        exact⟨by rw[HW.out];simp[whyB,Hk.out,Hx.out,h1,h2],HB8.out⟩
      ·go_wp2_with fail
       go_ret
       exact⟨by rw[HW.out];simp[whyB,Hk.out,Hx.out],HB8.out⟩
     ·go_wp2_with fail
      go_ret
      exact⟨by rw[HW.out];simp[whyB,Hk.out,Hx.out],HB.out⟩
   ·have hxb:(x.kind==1)=false:=beq_eq_false_iff_ne.2 hx;have Hx:=Lib.hid hx;clear hx;by_cases h2:6<=x.links
    ·go_wp2_with fail
     go_ret
     exact⟨by rw[HW.out];simp[whyB,Hk.out,Hx.out,h2],HB.out⟩
    ·go_wp2_with fail
     go_ret
     exact⟨by rw[HW.out];simp[whyB,Hk.out,Hx.out,h2],HB.out⟩
  ·go_wp2_with fail
   go_ret
   exact⟨by rw[HW.out];simp[whyB,Hk.out],HB.out⟩
 ·have hkb:(a.kind==1)=false:=beq_eq_false_iff_ne.2 hk;have Hk:=Lib.hid hk;clear hk
  go_wp2_with fail
  go_ret
  exact⟨by rw[HW.out];simp[whyB,Hk.out],HB.out⟩
theorem bytes_less:∀(x y:List UInt8),Op.bytesLess x y=decide (x<y)
 | [],[]=>by simp[Op.bytesLess]
 |_::_,[]=>by simp[Op.bytesLess]
 | [],_::_=>by simp[Op.bytesLess]
 |a::x,b::y=>by
  rw[Op.bytesLess,bytes_less x y];simp only[List.cons_lt_cons_iff];by_cases h1:a<b<;>by_cases h2:a=b<;>by_cases h3:x<y<;>simp[h1,h2,h3]
theorem names_less(a b:ByteArray):Op.bytesLess a.toList b.toList=decide (a.data.toList<b.data.toList):=by
 rw[bytes_less,ByteArray.toList_eq,ByteArray.toList_eq]
set_option maxRecDepth 100000 in
set_option maxHeartbeats 800000 in
theorem refAhead(a b:Ent)(w:World):
  Calls Tryz.prog 181 #[.agg (entA a),.agg (entA b)] w fun x w'=>x=.returned (.bool (aheadE a b))/\Below w.heap.size w w':=by
 have hb0:Held w [(w.heap.size+1,.cells (entA b) 126),(w.heap.size,.cells (entA a) 126)] ((w.alloc (.cells (entA a) 126)).alloc (.cells (entA b) 126)):=
  ((Held.refl w).alloc (.cells (entA a) 126) rfl).alloc (.cells (entA b) 126) (by simp)
 have hA:aheadE a b=(lessS a.dir b.dir||(decide (a.dir=b.dir)&&decide (a.name.data.toList<b.name.data.toList))):=rfl;have hs:=names_less a.name b.name;obtain⟨nl,hnl⟩:∃nl,nl=decide (a.name.data.toList<b.name.data.toList):=⟨_,rfl⟩;obtain⟨sl,hsl⟩:∃sl,sl=lessS a.dir b.dir:=⟨_,rfl⟩;have HL:Hid (∀W:World,Calls Tryz.prog 42 #[.agg #[.int .i64 a.dir.1,.int .i64 a.dir.2],.agg #[.int .i64 b.dir.1,.int .i64 b.dir.2]] W fun e w'=>e=.returned (.bool sl)/\Below W.heap.size W w'):=fun W=>by
  rw[hsl];exact refLess a.dir.1 a.dir.2 b.dir.1 b.dir.2 W
 rw[<-hnl] at hs hA;rw[<-hsl] at hA;have HA:=Lib.hid hA;clear hA hnl hsl;unfold entA
 go_enter Tryz.func181,Tryz.ntmps181
 go_upto_region 1 with fail
 change Code.wp _ _ _ _ ((w.alloc (.cells (entA a) 126)).alloc (.cells (entA b) 126));generalize (w.alloc (.cells (entA a) 126)).alloc (.cells (entA b) 126)=w0 at hb0 ⊢;obtain⟨c0,c1,c2,c3,c4⟩:=ent_cells (g:=w.heap.size) (hb0.at 1 rfl);obtain⟨e0,e1,e2,e3,e4⟩:=ent_cells (g:=w.heap.size+1) (hb0.at 0 rfl)
 go_wp2_with fail
 refine(HL.out _).mono ?_;rintro z w1 ⟨rfl,hb1⟩;have hH1:=hb0.step hb1;clear hb0 hb1 c0 c1 c2 c3 c4 e0 e1 e2 e3 e4;obtain⟨c0,c1,c2,c3,c4⟩:=ent_cells (g:=w.heap.size) (hH1.at 1 rfl);obtain⟨e0,e1,e2,e3,e4⟩:=ent_cells (g:=w.heap.size+1) (hH1.at 0 rfl)
 cases sl
 ·by_cases hq:a.dir=b.dir
  ·have hv:=eqSt_yes hq;have HQ:=Lib.hid hq;clear hq
   go_wp2_with fail
   go_ret
   exact⟨by rw[HA.out];simp[HQ.out],hH1.below⟩
  ·have hv:=eqSt_no hq;have HQ:=Lib.hid hq;clear hq
   go_wp2_with fail
   go_ret
   exact⟨by rw[HA.out];simp[HQ.out],hH1.below⟩
 ·go_wp2_with fail
  go_ret
  exact⟨by rw[HA.out];simp,hH1.below⟩
end Go.Proofs.YtnnnkaobhkeocaaGreatDoor
