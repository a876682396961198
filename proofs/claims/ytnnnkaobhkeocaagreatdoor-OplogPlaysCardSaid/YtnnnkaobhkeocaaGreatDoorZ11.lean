/-
 The code of package fold: Put (made by gen_foldput13.py).
-/
import Derived.Test.YtnnnkaobhkeocaaGreatDoorZ10
import Derived.Deep.RegionHeld3
import Derived.Test.YtnnnkaobhkeocaaGreatDoorZ01
import Derived.Test.YtnnnkaobhkeocaaGreatDoorZ01
import Derived.Maps.AppendAt
import Derived.Test.YtnnnkaobhkeocaaGreatDoorZ02
import Derived.Test.YtnnnkaobhkeocaaGreatDoorZ00
import Derived.Test.YtnnnkaobhkeocaaGreatDoorZ00
namespace Go.Proofs.YtnnnkaobhkeocaaGreatDoor
open Go.RowKit StampMath GraphMath OpMath PackMath
theorem place_below{x:List Opn}(h:Rises x)(s:St):belowO x s=if hasO x s=true then placeO x s+1 else placeO x s:=by
 by_cases q:hasO x s=true
 ·rw[if_pos q];obtain⟨hp,e⟩:=(place_has h).1 q;have:=below_own h hp;rw[e] at this;exact this
 ·rw[if_neg q];obtain⟨w1,w2⟩:=while_at (beforeO s) x;refine while_is (place_le x s) (fun j hj hji=>?_) fun hj=>?_
  ·rw[Bool.not_eq_true'];exact lessS_le (w1 j hj hji)
  ·rw[Bool.not_eq_false'];exact lessS_total (w2 hj) fun e=>q (hasO_iff.2 ⟨_,List.getElem_mem hj,e⟩)
theorem held_put{w W:World}{o:Opn}(h:Held w [(w.heap.size,.cells (opA o) 37)] W):Held w [(w.heap.size,.cells (opA o) 37)] W/\W.cell? ⟨w.heap.size,0,none⟩=some (.int .i64 o.st)/\W.cell? ⟨w.heap.size,1,none⟩=some (.int .i64 o.sr)/\W.cell? ⟨w.heap.size,2,none⟩=some (.int .i64 o.k)/\W.cell? ⟨w.heap.size,3,none⟩=some (.int .i64 o.pt)/\W.cell? ⟨w.heap.size,4,none⟩=some (.int .i64 o.pr)/\W.cell? ⟨w.heap.size,5,none⟩=some (.int .i64 o.it)/\W.cell? ⟨w.heap.size,6,none⟩=some (.int .i64 o.ir)/\W.cell? ⟨w.heap.size,7,none⟩=some (.int .i64 o.tt)/\W.cell? ⟨w.heap.size,8,none⟩=some (.int .i64 o.tr)/\W.cell? ⟨w.heap.size,9,none⟩=some (.string o.name)/\W.cell? ⟨w.heap.size,10,none⟩=some (.string o.new)/\W.cell? ⟨w.heap.size,11,none⟩=some (.int .i64 o.off)/\W.cell? ⟨w.heap.size,12,none⟩=some (.string o.data):=⟨h,op_cells (h.at 0 rfl)⟩
theorem put_alloc{w W:World}{o:Opn}(ob:Obj)(h:Held w [(w.heap.size,.cells (opA o) 37)] W/\W.cell? ⟨w.heap.size,0,none⟩=some (.int .i64 o.st)/\W.cell? ⟨w.heap.size,1,none⟩=some (.int .i64 o.sr)/\W.cell? ⟨w.heap.size,2,none⟩=some (.int .i64 o.k)/\W.cell? ⟨w.heap.size,3,none⟩=some (.int .i64 o.pt)/\W.cell? ⟨w.heap.size,4,none⟩=some (.int .i64 o.pr)/\W.cell? ⟨w.heap.size,5,none⟩=some (.int .i64 o.it)/\W.cell? ⟨w.heap.size,6,none⟩=some (.int .i64 o.ir)/\W.cell? ⟨w.heap.size,7,none⟩=some (.int .i64 o.tt)/\W.cell? ⟨w.heap.size,8,none⟩=some (.int .i64 o.tr)/\W.cell? ⟨w.heap.size,9,none⟩=some (.string o.name)/\W.cell? ⟨w.heap.size,10,none⟩=some (.string o.new)/\W.cell? ⟨w.heap.size,11,none⟩=some (.int .i64 o.off)/\W.cell? ⟨w.heap.size,12,none⟩=some (.string o.data)):Held w [(w.heap.size,.cells (opA o) 37)] (W.alloc ob)/\(W.alloc ob).cell? ⟨w.heap.size,0,none⟩=some (.int .i64 o.st)/\(W.alloc ob).cell? ⟨w.heap.size,1,none⟩=some (.int .i64 o.sr)/\(W.alloc ob).cell? ⟨w.heap.size,2,none⟩=some (.int .i64 o.k)/\(W.alloc ob).cell? ⟨w.heap.size,3,none⟩=some (.int .i64 o.pt)/\(W.alloc ob).cell? ⟨w.heap.size,4,none⟩=some (.int .i64 o.pr)/\(W.alloc ob).cell? ⟨w.heap.size,5,none⟩=some (.int .i64 o.it)/\(W.alloc ob).cell? ⟨w.heap.size,6,none⟩=some (.int .i64 o.ir)/\(W.alloc ob).cell? ⟨w.heap.size,7,none⟩=some (.int .i64 o.tt)/\(W.alloc ob).cell? ⟨w.heap.size,8,none⟩=some (.int .i64 o.tr)/\(W.alloc ob).cell? ⟨w.heap.size,9,none⟩=some (.string o.name)/\(W.alloc ob).cell? ⟨w.heap.size,10,none⟩=some (.string o.new)/\(W.alloc ob).cell? ⟨w.heap.size,11,none⟩=some (.int .i64 o.off)/\(W.alloc ob).cell? ⟨w.heap.size,12,none⟩=some (.string o.data):=
 held_put (h.1.step ((Below.refl W.heap.size W).alloc (Nat.le_refl _) ob))
theorem put_one{w W:World}{o:Opn}(ob:Obj)(h:Held w [(w.heap.size,.cells (opA o) 37)] W/\W.cell? ⟨w.heap.size,0,none⟩=some (.int .i64 o.st)/\W.cell? ⟨w.heap.size,1,none⟩=some (.int .i64 o.sr)/\W.cell? ⟨w.heap.size,2,none⟩=some (.int .i64 o.k)/\W.cell? ⟨w.heap.size,3,none⟩=some (.int .i64 o.pt)/\W.cell? ⟨w.heap.size,4,none⟩=some (.int .i64 o.pr)/\W.cell? ⟨w.heap.size,5,none⟩=some (.int .i64 o.it)/\W.cell? ⟨w.heap.size,6,none⟩=some (.int .i64 o.ir)/\W.cell? ⟨w.heap.size,7,none⟩=some (.int .i64 o.tt)/\W.cell? ⟨w.heap.size,8,none⟩=some (.int .i64 o.tr)/\W.cell? ⟨w.heap.size,9,none⟩=some (.string o.name)/\W.cell? ⟨w.heap.size,10,none⟩=some (.string o.new)/\W.cell? ⟨w.heap.size,11,none⟩=some (.int .i64 o.off)/\W.cell? ⟨w.heap.size,12,none⟩=some (.string o.data)):Held w [(w.heap.size,.cells (opA o) 37)] (W.alloc ob).drew/\(W.alloc ob).drew.cell? ⟨w.heap.size,0,none⟩=some (.int .i64 o.st)/\(W.alloc ob).drew.cell? ⟨w.heap.size,1,none⟩=some (.int .i64 o.sr)/\(W.alloc ob).drew.cell? ⟨w.heap.size,2,none⟩=some (.int .i64 o.k)/\(W.alloc ob).drew.cell? ⟨w.heap.size,3,none⟩=some (.int .i64 o.pt)/\(W.alloc ob).drew.cell? ⟨w.heap.size,4,none⟩=some (.int .i64 o.pr)/\(W.alloc ob).drew.cell? ⟨w.heap.size,5,none⟩=some (.int .i64 o.it)/\(W.alloc ob).drew.cell? ⟨w.heap.size,6,none⟩=some (.int .i64 o.ir)/\(W.alloc ob).drew.cell? ⟨w.heap.size,7,none⟩=some (.int .i64 o.tt)/\(W.alloc ob).drew.cell? ⟨w.heap.size,8,none⟩=some (.int .i64 o.tr)/\(W.alloc ob).drew.cell? ⟨w.heap.size,9,none⟩=some (.string o.name)/\(W.alloc ob).drew.cell? ⟨w.heap.size,10,none⟩=some (.string o.new)/\(W.alloc ob).drew.cell? ⟨w.heap.size,11,none⟩=some (.int .i64 o.off)/\(W.alloc ob).drew.cell? ⟨w.heap.size,12,none⟩=some (.string o.data):=held_put (put_alloc ob h).1.drew
theorem put_two{w W:World}{o:Opn}(ob oc:Obj)(h:Held w [(w.heap.size,.cells (opA o) 37)] W/\W.cell? ⟨w.heap.size,0,none⟩=some (.int .i64 o.st)/\W.cell? ⟨w.heap.size,1,none⟩=some (.int .i64 o.sr)/\W.cell? ⟨w.heap.size,2,none⟩=some (.int .i64 o.k)/\W.cell? ⟨w.heap.size,3,none⟩=some (.int .i64 o.pt)/\W.cell? ⟨w.heap.size,4,none⟩=some (.int .i64 o.pr)/\W.cell? ⟨w.heap.size,5,none⟩=some (.int .i64 o.it)/\W.cell? ⟨w.heap.size,6,none⟩=some (.int .i64 o.ir)/\W.cell? ⟨w.heap.size,7,none⟩=some (.int .i64 o.tt)/\W.cell? ⟨w.heap.size,8,none⟩=some (.int .i64 o.tr)/\W.cell? ⟨w.heap.size,9,none⟩=some (.string o.name)/\W.cell? ⟨w.heap.size,10,none⟩=some (.string o.new)/\W.cell? ⟨w.heap.size,11,none⟩=some (.int .i64 o.off)/\W.cell? ⟨w.heap.size,12,none⟩=some (.string o.data)):Held w [(w.heap.size,.cells (opA o) 37)] ((W.alloc ob).alloc oc).drew/\((W.alloc ob).alloc oc).drew.cell? ⟨w.heap.size,0,none⟩=some (.int .i64 o.st)/\((W.alloc ob).alloc oc).drew.cell? ⟨w.heap.size,1,none⟩=some (.int .i64 o.sr)/\((W.alloc ob).alloc oc).drew.cell? ⟨w.heap.size,2,none⟩=some (.int .i64 o.k)/\((W.alloc ob).alloc oc).drew.cell? ⟨w.heap.size,3,none⟩=some (.int .i64 o.pt)/\((W.alloc ob).alloc oc).drew.cell? ⟨w.heap.size,4,none⟩=some (.int .i64 o.pr)/\((W.alloc ob).alloc oc).drew.cell? ⟨w.heap.size,5,none⟩=some (.int .i64 o.it)/\((W.alloc ob).alloc oc).drew.cell? ⟨w.heap.size,6,none⟩=some (.int .i64 o.ir)/\((W.alloc ob).alloc oc).drew.cell? ⟨w.heap.size,7,none⟩=some (.int .i64 o.tt)/\((W.alloc ob).alloc oc).drew.cell? ⟨w.heap.size,8,none⟩=some (.int .i64 o.tr)/\((W.alloc ob).alloc oc).drew.cell? ⟨w.heap.size,9,none⟩=some (.string o.name)/\((W.alloc ob).alloc oc).drew.cell? ⟨w.heap.size,10,none⟩=some (.string o.new)/\((W.alloc ob).alloc oc).drew.cell? ⟨w.heap.size,11,none⟩=some (.int .i64 o.off)/\((W.alloc ob).alloc oc).drew.cell? ⟨w.heap.size,12,none⟩=some (.string o.data):=held_put (put_alloc oc (put_alloc ob h)).1.drew
theorem put_new(w:World)(X:Obj)(a b c:Value)(T:TypeId):
  ((w.alloc X).alloc (.cells #[a,b,c] T)).drew.cell? ⟨w.heap.size+1,0,none⟩=some a/\((w.alloc X).alloc (.cells #[a,b,c] T)).drew.cell? ⟨w.heap.size+1,1,none⟩=some b/\((w.alloc X).alloc (.cells #[a,b,c] T)).drew.cell? ⟨w.heap.size+1,2,none⟩=some c/\((w.alloc X).alloc (.cells #[a,b,c] T)).drew.heap[w.heap.size]?=some X:=by
 have h:=heap_alloc_new (w.alloc X) (.cells #[a,b,c] T);have e:(w.alloc X).heap.size=w.heap.size+1:=by simp
 rw[e] at h;exact⟨cell_of_row _ _ 0 _ _ (0,0) h,cell_of_row _ _ 1 _ _ (0,0) h,cell_of_row _ _ 2 _ _ (0,0) h,heap_alloc2_old w X _⟩
set_option maxRecDepth 100000 in
set_option maxHeartbeats 6400000 in
theorem put_code(A:Option Addr)(n c:Nat)(x:List Opn)(o:Opn)(w:World)(T:Tab w)(hn:n<=1000)(hnc:n<=c)(hcm:c<=maxLen)(hd:A=none->c=0)(ho:OpFit o)(hx:Rises x)(h:OpsIn w w.heap.size A n x):
    Calls Tryz.prog 45 #[.slice A n c,.agg (opA o)] w fun e w'=>∃(B:Option Addr)(k:Nat),e=.returned (.tuple #[.slice B (putO x o).1.length k,.int .i64 ((putO x o).2.1:Int),.bool (putO x o).2.2])/\OpsIn w' w'.heap.size B (putO x o).1.length (putO x o).1/\(putO x o).1.length<=k/\k<=maxLen/\Made w.heap.size w' B k (putO x o).1/\Below w.heap.size w w':=by
  have hl:=h.len;have HR:Hid (putO x o=if mayO o=false then(x,0,false) else if hasO x (oSt o)=true then(x,placeO x (oSt o),false) else(x.take (placeO x (oSt o))++o::x.drop (placeO x (oSt o)),placeO x (oSt o),true)):=by
    show _=_;unfold GraphMath.putO;rw[putIn_place]
  have HPB:Hid (belowO x (oSt o)=if hasO x (oSt o)=true then placeO x (oSt o)+1 else placeO x (oSt o)):=place_below hx (oSt o);have HP:Hid (hasO x (oSt o)=true↔ ∃hp:placeO x (oSt o)<x.length,oSt (x[placeO x (oSt o)])=oSt o):=place_has hx;have hbl:=below_le x (oSt o);generalize putO x o=R at HR ⊢;have HX:=Lib.hid h;have HL:Hid (x.length=n):=hl;have hH0:Held w [(w.heap.size,.cells (opA o) 37)] (w.alloc (.cells (opA o) 37)):=(Held.refl w).alloc _ rfl;have HCL:Hid (∀W,Below w.heap.size w W->Calls Tryz.prog 55 #[.slice A n c] W (OpsMade w.heap.size x W)):=Lib.hid fun W hW=>(clone_code A n c x W hn hd ((HX.out.below hW).more hW.size)).mono fun _ _ h=>h.lower hW.size;have HBE:Hid (∀W,Below w.heap.size w W->Calls Tryz.prog 38 #[.slice A n c,.agg #[.int .i64 o.st,.int .i64 o.sr]] W fun e w'=>e=.returned (.int .i64 (belowO x (oSt o):Int))/\Below W.heap.size W w'):=Lib.hid fun W hW=>below_code A n c x (oSt o) W hn hx ((HX.out.below hW).more hW.size);unfold OpsMade at HCL;have hbl':belowO x (oSt o)<=n:=by omega
  clear h hx hl hbl
  go_enter Tryz.func45,Tryz.ntmps45
  go_upto_region 1 with fail
  generalize w.alloc (.cells (opA o) 37)=w1 at hH0 ⊢;have T1:=tab_below T (Nat.le_refl _) hH0.below;obtain⟨c0,c1,c2,c3,c4,c5,c6,c7,c8,c9,c10,c11,c12⟩:=op_cells (o:=o) (g:=w.heap.size) (hH0.at 0 rfl);have HM:=Lib.hid (applyHave.may o w1 ho);unfold opA at HM;clear T1
  go_wp2_with fail
  refine HM.out.mono ?_;rintro e w2 ⟨rfl,hb2⟩;have hH2:=Lib.hid (hH0.step hb2);clear c0 c1 c2 c3 c4 c5 c6 c7 c8 c9 c10 c11 c12 hH0 hb2 HM
  cases hm:mayO o with
  |false=>
    have HR1:Hid (R=(x,0,false)):=HR.out.trans (if_pos hm);have D:=Lib.hid (HCL.out _ hH2.out.below);clear hm HR HCL HBE HPB HP
    go_wp2_with fail
    refine D.out.mono ?_;rintro e w3 ⟨B,k,rfl,q1,q2,q3,q4,hb3⟩;have HB:=Lib.hid (below_step hH2.out.below hb3);have HQ:=Lib.hid (And.intro q1 (And.intro q2 (And.intro q3 q4)));clear q1 q2 q3 q4 hb3 D
    go_wp2_with fail
    refine bodyPost_ret (v:=.tuple #[.slice B x.length k,.int .i64 0,.bool false]) (by simp[results,Tryz.results45,go_sem]) rfl ?_;rw[HR1.out];exact⟨B,k,rfl,HQ.out.1,HQ.out.2.1,HQ.out.2.2.1,HQ.out.2.2.2,HB.out⟩
  |true=>
    have HR1:Hid (R=if hasO x (oSt o)=true then(x,placeO x (oSt o),false) else(x.take (placeO x (oSt o))++o::x.drop (placeO x (oSt o)),placeO x (oSt o),true)):=HR.out.trans (if_neg (by rw[hm];simp));have D:=Lib.hid (HBE.out _ hH2.out.below);obtain⟨c0,c1,_⟩:=op_cells (o:=o) (g:=w.heap.size) (hH2.out.at 0 rfl);obtain⟨b,hb⟩:∃b,b=belowO x (oSt o):=⟨_,rfl⟩;rw[<-hb] at D HPB hbl';clear hm HR HBE hb
    go_wp2_with fail
    refine D.out.mono ?_;rintro e w3 ⟨rfl,hb3⟩;have hH3:=Lib.hid (hH2.out.step hb3);clear c0 c1 hb3 hH2 D
    -- what stands ahead of the place
    have HD:Hid ((1<=b/\(∃q:b-1<x.length,oSt x[b-1]=oSt o)/\R=(x,b-1,false))\/((1<=b->∃q:b-1<x.length,oSt x[b-1]≠oSt o)/\R=(x.take b++o::x.drop b,b,true))):=by
      have hl:=HL.out;by_cases q:hasO x (oSt o)=true
      · obtain⟨hp,e⟩:=HP.out.1 q
        have hpb:=HPB.out;rw[if_pos q] at hpb;have hr:=HR1.out;rw[if_pos q] at hr;refine Or.inl ⟨by omega,⟨by omega,?_⟩,?_⟩
        · rw[<-e];congr 2;omega
        · rw[hr];congr 2;omega
      · have hpb:=HPB.out
        rw[if_neg q] at hpb;have hr:=HR1.out;rw[if_neg q,<-hpb] at hr;exact Or.inr ⟨fun h1=>⟨by omega,fun e=>q (hasO_iff.2 ⟨_,List.getElem_mem _,e⟩)⟩,hr⟩
    clear HR1 HPB HP;have hbn:b<=n:=hbl';obtain⟨c0,c1,-⟩:=op_cells (o:=o) (g:=w.heap.size) (hH3.out.at 0 rfl);have m0:=later_cell c0;have m1:=later_cell c1;clear c0 c1;rcases HD.out with ⟨hb1,hq,hr⟩|⟨hq,hr⟩
    · -- it is there
      have HR2:=Lib.hid hr;obtain⟨f,hf⟩:∃f,f=b-1:=⟨_,rfl⟩;have hbz:(b:Int)-1=(f:Int):=by omega
      have hl:=HL.out;obtain⟨q,e⟩:=hq;have hfn:f<n:=by omega
      obtain⟨gi,of,rfl,hg,hrow⟩:=HX.out.row (by omega);obtain⟨e0,e1,-⟩:=(hrow (b-1) q).below hH3.out.below hg;generalize x[b-1]'q=a at e0 e1 e;rw[<-hf] at e0 e1 HR2;have k0:=later_cell e0;have k1:=later_cell e1;have hv:∀W:World,(Op.equalIn 10000 24 (.agg #[.int .i64 a.st,.int .i64 a.sr]) (.agg #[.int .i64 o.st,.int .i64 o.sr])).run Tryz.prog W=.ok true W:=fun W=>by rw[run_eqSt];exact congrArg (fun t=>Result.ok t W) (decide_eq_true e)
      have D:=Lib.hid (fun y=>HCL.out _ (below_step hH3.out.below (later_below w3 y)));have g1:decide (0<b)=true:=decide_eq_true (by omega);have g2:(0:Int)<(b:Int):=by omega
      have g3:(0:Int)<=(f:Int):=by omega
      have g4:(f:Int)<(n:Int):=by omega
      clear hrow e0 e1 hg e hr HD hb1 HCL q hf hl hbl'
      go_upto_region 4 with fail
      refine wp_region_later (by kernel_rfl) (by kernel_rfl) ?_
      repeat(go_big_quiet_step (fail))
      refine wpQuiet_nil ?_;intro _ hw';obtain⟨y,rfl⟩:=hw';have HB4:=Lib.hid (below_step hH3.out.below (later_below w3 y));have D4:=Lib.hid (D.out y);clear m0 m1 k0 k1 hv g1 g2 D hH3
      go_wp2_with fail
      refine D4.out.mono ?_;rintro e w5 ⟨B,k,rfl,q1,q2,q3,q4,hb5⟩;have HB:=Lib.hid (below_step HB4.out hb5);have HQ:=Lib.hid (And.intro q1 (And.intro q2 (And.intro q3 q4)));clear q1 q2 q3 q4 hb5 D4 HB4
      go_wp2_with fail
      refine bodyPost_ret (v:=.tuple #[.slice B x.length k,.int .i64 (f:Int),.bool false]) (by simp[results,Tryz.results45,go_sem]) rfl ?_;rw[HR2.out];exact⟨B,k,rfl,HQ.out.1,HQ.out.2.1,HQ.out.2.2.1,HQ.out.2.2.2,HB.out⟩
    · -- it isn't
      obtain⟨L,hLe⟩:∃L,L=x.take b++o::x.drop b:=⟨_,rfl⟩;rw[<-hLe] at hr;have HR2:=Lib.hid hr;have HQ:=Lib.hid hq;have HXD:Hid (∀(W:World),Below w.heap.size w W->OpsIn W W.heap.size A n x):=Lib.hid fun W hW=>(HX.out.below hW).more hW.size;have HK:Hid (∀(W:World)(g g1:Nat)(A3:Option Addr)(m c3:Nat),m=n-b->(Held w [(w.heap.size,.cells (opA o) 37)] W/\W.cell? ⟨w.heap.size,0,none⟩=some (.int .i64 o.st)/\W.cell? ⟨w.heap.size,1,none⟩=some (.int .i64 o.sr)/\W.cell? ⟨w.heap.size,2,none⟩=some (.int .i64 o.k)/\W.cell? ⟨w.heap.size,3,none⟩=some (.int .i64 o.pt)/\W.cell? ⟨w.heap.size,4,none⟩=some (.int .i64 o.pr)/\W.cell? ⟨w.heap.size,5,none⟩=some (.int .i64 o.it)/\W.cell? ⟨w.heap.size,6,none⟩=some (.int .i64 o.ir)/\W.cell? ⟨w.heap.size,7,none⟩=some (.int .i64 o.tt)/\W.cell? ⟨w.heap.size,8,none⟩=some (.int .i64 o.tr)/\W.cell? ⟨w.heap.size,9,none⟩=some (.string o.name)/\W.cell? ⟨w.heap.size,10,none⟩=some (.string o.new)/\W.cell? ⟨w.heap.size,11,none⟩=some (.int .i64 o.off)/\W.cell? ⟨w.heap.size,12,none⟩=some (.string o.data))->W.cell? ⟨g,0,none⟩=some (.slice A b c)->W.cell? ⟨g,1,none⟩=some (.slice (some ⟨g1,0,none⟩) 1 1)->W.cell? ⟨g,2,none⟩=some (.slice A3 m c3)->W.heap[g1]?=some (.cells (opA o) 37 (0,0))->OpsIn W W.heap.size A3 m (x.drop b)->(A3=none->c3=0)->
          Calls Tryz.prog 76 #[.slice (some ⟨g,0,none⟩) 3 3] W (OpsMade w.heap.size L W)):=Lib.hid fun W g g1 A3 m c3 hm hS z0 z1 z2 hg1 hA3 hd3=>by
        have hO:=ops_take (HXD.out W hS.1.below) hbn;have h1:=ops_of_cells (l:=[o]) hg1 (by simp[flat]);have:=concat_code W g A b c (x.take b) (some ⟨g1,0,none⟩) 1 1 [o] A3 m c3 (x.drop b) z0 z1 z2 hO h1 hA3 hd (fun h=>by cases h) hd3 (by omega) (by omega);rw[List.append_assoc,List.singleton_append,<-hLe] at this;exact this.mono fun _ _ h=>h.lower hS.1.below.size
      unfold OpsMade at HK;clear hLe;clear hr hq HD HCL hbl';by_cases hb0:b=0
      · -- the place is the first one
        have g1:decide (0<b)=false:=decide_eq_false (by omega);clear hb0
        go_upto_region 4 with fail
        refine wp_region_later (by kernel_rfl) (by kernel_rfl) ?_
        repeat(go_big_quiet_step (fail))
        refine wpQuiet_nil ?_;intro _ hw';obtain⟨y,rfl⟩:=hw';clear g1;have hH4:=hH3.out.step (later_below w3 y);clear m0 m1 hH3;generalize later w3 y=w4 at hH4 ⊢;have hS0:=held_put hH4;have hS1:=held_put hH4.drew;have HH4:=Lib.hid hH4;clear hH4;by_cases hbl:b<n
        · have hbc:b<c:=by omega
          have hcb:¬c=b:=by omega
          obtain⟨gi,of,rfl,-⟩:=HX.out.row (by omega);have i1:(0:Int)<=((b:Nat):Int):=by omega
          have i2:((b:Nat):Int)<=((n:Nat):Int):=by omega
          have i3:((b:Nat):Int)<=((c:Nat):Int):=by omega
          go_upto_region 6 with fail
          go_region_held3 (fun W=>Held w [(w.heap.size,.cells (opA o) 37)] W/\W.cell? ⟨w.heap.size,0,none⟩=some (.int .i64 o.st)/\W.cell? ⟨w.heap.size,1,none⟩=some (.int .i64 o.sr)/\W.cell? ⟨w.heap.size,2,none⟩=some (.int .i64 o.k)/\W.cell? ⟨w.heap.size,3,none⟩=some (.int .i64 o.pt)/\W.cell? ⟨w.heap.size,4,none⟩=some (.int .i64 o.pr)/\W.cell? ⟨w.heap.size,5,none⟩=some (.int .i64 o.it)/\W.cell? ⟨w.heap.size,6,none⟩=some (.int .i64 o.ir)/\W.cell? ⟨w.heap.size,7,none⟩=some (.int .i64 o.tt)/\W.cell? ⟨w.heap.size,8,none⟩=some (.int .i64 o.tr)/\W.cell? ⟨w.heap.size,9,none⟩=some (.string o.name)/\W.cell? ⟨w.heap.size,10,none⟩=some (.string o.new)/\W.cell? ⟨w.heap.size,11,none⟩=some (.int .i64 o.off)/\W.cell? ⟨w.heap.size,12,none⟩=some (.string o.data)) (first|(with_reducible assumption)|(with_reducible exact put_one _ hS0)|(with_reducible exact put_two _ _ hS0))
            (first
              |(go_at_call 76;refine Calls.mono (HK.out _ _ _ _ _ _ (by omega) (held_put ((HH4.out.step (((Below.refl w4.heap.size w4).alloc (Nat.le_refl _) _).alloc (by simp) _)).drew)) (put_new w4 _ _ _ _ _).1 (put_new w4 _ _ _ _ _).2.1 (put_new w4 _ _ _ _ _).2.2.1 (put_new w4 _ _ _ _ _).2.2.2 (ops_drop (HXD.out _ ((HH4.out.step (((Below.refl w4.heap.size w4).alloc (Nat.le_refl _) _).alloc (by simp) _)).drew).below) hbn) (fun h=>by cases h)) ?_;rintro e w7 ⟨B7,k7,rfl,q1,q2,q3,q4,hb7⟩;have hS7:=held_put (((HH4.out.step (((Below.refl w4.heap.size w4).alloc (Nat.le_refl _) _).alloc (by simp) _)).drew).step hb7)))
          all_goals
            have HF:=Lib.hid (And.intro q1 (And.intro q2 (And.intro q3 (And.intro q4 hS7.1.below))));clear hS0 hS1 hS7 q1 q2 q3 q4 hb7 HK HH4
            go_wp2_with fail
            refine bodyPost_ret (v:=.tuple #[.slice B7 L.length k7,.int .i64 (b:Int),.bool true]) (by simp[results,Tryz.results45,go_sem]) rfl ?_;rw[HR2.out];exact⟨B7,k7,rfl,HF.out⟩
        · have hbe:n=b:=by omega
          cases A with
          |none=>
            obtain rfl:c=0:=hd rfl;obtain rfl:b=0:=by omega
            obtain rfl:n=0:=by omega
            have i1:(0:Int)<=((0:Nat):Int):=by omega
            have i2:((0:Nat):Int)<=((0:Nat):Int):=by omega
            have i3:((0:Nat):Int)<=((0:Nat):Int):=by omega
            go_upto_region 6 with fail
            go_region_held3 (fun W=>Held w [(w.heap.size,.cells (opA o) 37)] W/\W.cell? ⟨w.heap.size,0,none⟩=some (.int .i64 o.st)/\W.cell? ⟨w.heap.size,1,none⟩=some (.int .i64 o.sr)/\W.cell? ⟨w.heap.size,2,none⟩=some (.int .i64 o.k)/\W.cell? ⟨w.heap.size,3,none⟩=some (.int .i64 o.pt)/\W.cell? ⟨w.heap.size,4,none⟩=some (.int .i64 o.pr)/\W.cell? ⟨w.heap.size,5,none⟩=some (.int .i64 o.it)/\W.cell? ⟨w.heap.size,6,none⟩=some (.int .i64 o.ir)/\W.cell? ⟨w.heap.size,7,none⟩=some (.int .i64 o.tt)/\W.cell? ⟨w.heap.size,8,none⟩=some (.int .i64 o.tr)/\W.cell? ⟨w.heap.size,9,none⟩=some (.string o.name)/\W.cell? ⟨w.heap.size,10,none⟩=some (.string o.new)/\W.cell? ⟨w.heap.size,11,none⟩=some (.int .i64 o.off)/\W.cell? ⟨w.heap.size,12,none⟩=some (.string o.data)) (first|(with_reducible assumption)|(with_reducible exact put_one _ hS0)|(with_reducible exact put_two _ _ hS0))
              (first
                |(go_at_call 76;refine Calls.mono (HK.out _ _ _ _ _ _ (by omega) (held_put ((HH4.out.step (((Below.refl w4.heap.size w4).alloc (Nat.le_refl _) _).alloc (by simp) _)).drew)) (put_new w4 _ _ _ _ _).1 (put_new w4 _ _ _ _ _).2.1 (put_new w4 _ _ _ _ _).2.2.1 (put_new w4 _ _ _ _ _).2.2.2 (by rw[List.drop_of_length_le (by have:=HL.out;omega)];exact ops_none _) (fun _=>rfl)) ?_;rintro e w7 ⟨B7,k7,rfl,q1,q2,q3,q4,hb7⟩;have hS7:=held_put (((HH4.out.step (((Below.refl w4.heap.size w4).alloc (Nat.le_refl _) _).alloc (by simp) _)).drew).step hb7)))
            all_goals
              have HF:=Lib.hid (And.intro q1 (And.intro q2 (And.intro q3 (And.intro q4 hS7.1.below))));clear hS0 hS1 hS7 q1 q2 q3 q4 hb7 HK HH4
              go_wp2_with fail
              refine bodyPost_ret (v:=.tuple #[.slice B7 L.length k7,.int .i64 0,.bool true]) (by simp[results,Tryz.results45,go_sem]) rfl ?_;rw[HR2.out];exact⟨B7,k7,rfl,HF.out⟩
          |some ad=>
            obtain⟨gi,of,sb⟩:=ad;by_cases hdk:c=b
            · subst hdk
              subst hbe;have i1:(0:Int)<=((n:Nat):Int):=by omega
              have i2:((n:Nat):Int)<=((n:Nat):Int):=by omega
              have i3:((n:Nat):Int)<=((n:Nat):Int):=by omega
              go_upto_region 6 with fail
              go_region_held3 (fun W=>Held w [(w.heap.size,.cells (opA o) 37)] W/\W.cell? ⟨w.heap.size,0,none⟩=some (.int .i64 o.st)/\W.cell? ⟨w.heap.size,1,none⟩=some (.int .i64 o.sr)/\W.cell? ⟨w.heap.size,2,none⟩=some (.int .i64 o.k)/\W.cell? ⟨w.heap.size,3,none⟩=some (.int .i64 o.pt)/\W.cell? ⟨w.heap.size,4,none⟩=some (.int .i64 o.pr)/\W.cell? ⟨w.heap.size,5,none⟩=some (.int .i64 o.it)/\W.cell? ⟨w.heap.size,6,none⟩=some (.int .i64 o.ir)/\W.cell? ⟨w.heap.size,7,none⟩=some (.int .i64 o.tt)/\W.cell? ⟨w.heap.size,8,none⟩=some (.int .i64 o.tr)/\W.cell? ⟨w.heap.size,9,none⟩=some (.string o.name)/\W.cell? ⟨w.heap.size,10,none⟩=some (.string o.new)/\W.cell? ⟨w.heap.size,11,none⟩=some (.int .i64 o.off)/\W.cell? ⟨w.heap.size,12,none⟩=some (.string o.data)) (first|(with_reducible assumption)|(with_reducible exact put_one _ hS0)|(with_reducible exact put_two _ _ hS0))
                (first
                  |(go_at_call 76;refine Calls.mono (HK.out _ _ _ _ _ _ (by omega) (held_put ((HH4.out.step (((Below.refl w4.heap.size w4).alloc (Nat.le_refl _) _).alloc (by simp) _)).drew)) (put_new w4 _ _ _ _ _).1 (put_new w4 _ _ _ _ _).2.1 (put_new w4 _ _ _ _ _).2.2.1 (put_new w4 _ _ _ _ _).2.2.2 (by rw[List.drop_of_length_le (by have:=HL.out;omega)];exact ops_none _) (fun h=>by cases h)) ?_;rintro e w7 ⟨B7,k7,rfl,q1,q2,q3,q4,hb7⟩;have hS7:=held_put (((HH4.out.step (((Below.refl w4.heap.size w4).alloc (Nat.le_refl _) _).alloc (by simp) _)).drew).step hb7)))
              all_goals
                have HF:=Lib.hid (And.intro q1 (And.intro q2 (And.intro q3 (And.intro q4 hS7.1.below))));clear hS0 hS1 hS7 q1 q2 q3 q4 hb7 HK HH4
                go_wp2_with fail
                refine bodyPost_ret (v:=.tuple #[.slice B7 L.length k7,.int .i64 (n:Int),.bool true]) (by simp[results,Tryz.results45,go_sem]) rfl ?_;rw[HR2.out];exact⟨B7,k7,rfl,HF.out⟩
            · have hbc:b<c:=by omega
              have hcb:¬c=b:=by omega
              subst hbe;have i1:(0:Int)<=((n:Nat):Int):=by omega
              have i2:((n:Nat):Int)<=((n:Nat):Int):=by omega
              have i3:((n:Nat):Int)<=((c:Nat):Int):=by omega
              go_upto_region 6 with fail
              go_region_held3 (fun W=>Held w [(w.heap.size,.cells (opA o) 37)] W/\W.cell? ⟨w.heap.size,0,none⟩=some (.int .i64 o.st)/\W.cell? ⟨w.heap.size,1,none⟩=some (.int .i64 o.sr)/\W.cell? ⟨w.heap.size,2,none⟩=some (.int .i64 o.k)/\W.cell? ⟨w.heap.size,3,none⟩=some (.int .i64 o.pt)/\W.cell? ⟨w.heap.size,4,none⟩=some (.int .i64 o.pr)/\W.cell? ⟨w.heap.size,5,none⟩=some (.int .i64 o.it)/\W.cell? ⟨w.heap.size,6,none⟩=some (.int .i64 o.ir)/\W.cell? ⟨w.heap.size,7,none⟩=some (.int .i64 o.tt)/\W.cell? ⟨w.heap.size,8,none⟩=some (.int .i64 o.tr)/\W.cell? ⟨w.heap.size,9,none⟩=some (.string o.name)/\W.cell? ⟨w.heap.size,10,none⟩=some (.string o.new)/\W.cell? ⟨w.heap.size,11,none⟩=some (.int .i64 o.off)/\W.cell? ⟨w.heap.size,12,none⟩=some (.string o.data)) (first|(with_reducible assumption)|(with_reducible exact put_one _ hS0)|(with_reducible exact put_two _ _ hS0))
                (first
                  |(go_at_call 76;refine Calls.mono (HK.out _ _ _ _ _ _ (by omega) (held_put ((HH4.out.step (((Below.refl w4.heap.size w4).alloc (Nat.le_refl _) _).alloc (by simp) _)).drew)) (put_new w4 _ _ _ _ _).1 (put_new w4 _ _ _ _ _).2.1 (put_new w4 _ _ _ _ _).2.2.1 (put_new w4 _ _ _ _ _).2.2.2 (by rw[List.drop_of_length_le (by have:=HL.out;omega)];exact ops_none _) (fun h=>by cases h)) ?_;rintro e w7 ⟨B7,k7,rfl,q1,q2,q3,q4,hb7⟩;have hS7:=held_put (((HH4.out.step (((Below.refl w4.heap.size w4).alloc (Nat.le_refl _) _).alloc (by simp) _)).drew).step hb7)))
              all_goals
                have HF:=Lib.hid (And.intro q1 (And.intro q2 (And.intro q3 (And.intro q4 hS7.1.below))));clear hS0 hS1 hS7 q1 q2 q3 q4 hb7 HK HH4
                go_wp2_with fail
                refine bodyPost_ret (v:=.tuple #[.slice B7 L.length k7,.int .i64 (n:Int),.bool true]) (by simp[results,Tryz.results45,go_sem]) rfl ?_;rw[HR2.out];exact⟨B7,k7,rfl,HF.out⟩
      · -- the place is behind another one
        obtain⟨f,hf⟩:∃f,f=b-1:=⟨_,rfl⟩;have hbz:(b:Int)-1=(f:Int):=by omega
        obtain⟨q,e⟩:=HQ.out (by omega);have hlx:=HL.out;obtain⟨gi,of,hAe,hg,hrow⟩:=HX.out.row (by omega);obtain⟨e0,e1,-⟩:=(hrow (b-1) q).below hH3.out.below hg;generalize x[b-1]'q=a at e0 e1 e;rw[<-hf] at e0 e1;have k0:=later_cell e0;have k1:=later_cell e1;have hv:∀W:World,(Op.equalIn 10000 24 (.agg #[.int .i64 a.st,.int .i64 a.sr]) (.agg #[.int .i64 o.st,.int .i64 o.sr])).run Tryz.prog W=.ok false W:=fun W=>by rw[run_eqSt];exact congrArg (fun t=>Result.ok t W) (decide_eq_false e)
        have g1:decide (0<b)=true:=decide_eq_true (by omega);have g2:(0:Int)<(b:Int):=by omega
        have g3:(0:Int)<=(f:Int):=by omega
        have g4:(f:Int)<(n:Int):=by omega
        subst hAe;clear hrow e0 e1 hg e q hf hlx hb0
        go_upto_region 4 with fail
        refine wp_region_later (by kernel_rfl) (by kernel_rfl) ?_
        repeat(go_big_quiet_step (fail))
        refine wpQuiet_nil ?_;intro _ hw';obtain⟨y,rfl⟩:=hw';clear k0 k1 hv g1 g2 g3 g4 hbz;have hH4:=hH3.out.step (later_below w3 y);clear m0 m1 hH3;generalize later w3 y=w4 at hH4 ⊢;have hS0:=held_put hH4;have hS1:=held_put hH4.drew;have HH4:=Lib.hid hH4;clear hH4;by_cases hbl:b<n
        · have hbc:b<c:=by omega
          have hcb:¬c=b:=by omega
          have i1:(0:Int)<=((b:Nat):Int):=by omega
          have i2:((b:Nat):Int)<=((n:Nat):Int):=by omega
          have i3:((b:Nat):Int)<=((c:Nat):Int):=by omega
          go_upto_region 6 with fail
          go_region_held3 (fun W=>Held w [(w.heap.size,.cells (opA o) 37)] W/\W.cell? ⟨w.heap.size,0,none⟩=some (.int .i64 o.st)/\W.cell? ⟨w.heap.size,1,none⟩=some (.int .i64 o.sr)/\W.cell? ⟨w.heap.size,2,none⟩=some (.int .i64 o.k)/\W.cell? ⟨w.heap.size,3,none⟩=some (.int .i64 o.pt)/\W.cell? ⟨w.heap.size,4,none⟩=some (.int .i64 o.pr)/\W.cell? ⟨w.heap.size,5,none⟩=some (.int .i64 o.it)/\W.cell? ⟨w.heap.size,6,none⟩=some (.int .i64 o.ir)/\W.cell? ⟨w.heap.size,7,none⟩=some (.int .i64 o.tt)/\W.cell? ⟨w.heap.size,8,none⟩=some (.int .i64 o.tr)/\W.cell? ⟨w.heap.size,9,none⟩=some (.string o.name)/\W.cell? ⟨w.heap.size,10,none⟩=some (.string o.new)/\W.cell? ⟨w.heap.size,11,none⟩=some (.int .i64 o.off)/\W.cell? ⟨w.heap.size,12,none⟩=some (.string o.data)) (first|(with_reducible assumption)|(with_reducible exact put_one _ hS0)|(with_reducible exact put_two _ _ hS0))
            (first
              |(go_at_call 76;refine Calls.mono (HK.out _ _ _ _ _ _ (by omega) (held_put ((HH4.out.step (((Below.refl w4.heap.size w4).alloc (Nat.le_refl _) _).alloc (by simp) _)).drew)) (put_new w4 _ _ _ _ _).1 (put_new w4 _ _ _ _ _).2.1 (put_new w4 _ _ _ _ _).2.2.1 (put_new w4 _ _ _ _ _).2.2.2 (ops_drop (HXD.out _ ((HH4.out.step (((Below.refl w4.heap.size w4).alloc (Nat.le_refl _) _).alloc (by simp) _)).drew).below) hbn) (fun h=>by cases h)) ?_;rintro e w7 ⟨B7,k7,rfl,q1,q2,q3,q4,hb7⟩;have hS7:=held_put (((HH4.out.step (((Below.refl w4.heap.size w4).alloc (Nat.le_refl _) _).alloc (by simp) _)).drew).step hb7)))
          all_goals
            have HF:=Lib.hid (And.intro q1 (And.intro q2 (And.intro q3 (And.intro q4 hS7.1.below))));clear hS0 hS1 hS7 q1 q2 q3 q4 hb7 HK HH4
            go_wp2_with fail
            refine bodyPost_ret (v:=.tuple #[.slice B7 L.length k7,.int .i64 (b:Int),.bool true]) (by simp[results,Tryz.results45,go_sem]) rfl ?_;rw[HR2.out];exact⟨B7,k7,rfl,HF.out⟩
        · have hbe:n=b:=by omega
          by_cases hdk:c=b
          · subst hdk
            subst hbe;have i1:(0:Int)<=((n:Nat):Int):=by omega
            have i2:((n:Nat):Int)<=((n:Nat):Int):=by omega
            have i3:((n:Nat):Int)<=((n:Nat):Int):=by omega
            go_upto_region 6 with fail
            go_region_held3 (fun W=>Held w [(w.heap.size,.cells (opA o) 37)] W/\W.cell? ⟨w.heap.size,0,none⟩=some (.int .i64 o.st)/\W.cell? ⟨w.heap.size,1,none⟩=some (.int .i64 o.sr)/\W.cell? ⟨w.heap.size,2,none⟩=some (.int .i64 o.k)/\W.cell? ⟨w.heap.size,3,none⟩=some (.int .i64 o.pt)/\W.cell? ⟨w.heap.size,4,none⟩=some (.int .i64 o.pr)/\W.cell? ⟨w.heap.size,5,none⟩=some (.int .i64 o.it)/\W.cell? ⟨w.heap.size,6,none⟩=some (.int .i64 o.ir)/\W.cell? ⟨w.heap.size,7,none⟩=some (.int .i64 o.tt)/\W.cell? ⟨w.heap.size,8,none⟩=some (.int .i64 o.tr)/\W.cell? ⟨w.heap.size,9,none⟩=some (.string o.name)/\W.cell? ⟨w.heap.size,10,none⟩=some (.string o.new)/\W.cell? ⟨w.heap.size,11,none⟩=some (.int .i64 o.off)/\W.cell? ⟨w.heap.size,12,none⟩=some (.string o.data)) (first|(with_reducible assumption)|(with_reducible exact put_one _ hS0)|(with_reducible exact put_two _ _ hS0))
              (first
                |(go_at_call 76;refine Calls.mono (HK.out _ _ _ _ _ _ (by omega) (held_put ((HH4.out.step (((Below.refl w4.heap.size w4).alloc (Nat.le_refl _) _).alloc (by simp) _)).drew)) (put_new w4 _ _ _ _ _).1 (put_new w4 _ _ _ _ _).2.1 (put_new w4 _ _ _ _ _).2.2.1 (put_new w4 _ _ _ _ _).2.2.2 (by rw[List.drop_of_length_le (by have:=HL.out;omega)];exact ops_none _) (fun h=>by cases h)) ?_;rintro e w7 ⟨B7,k7,rfl,q1,q2,q3,q4,hb7⟩;have hS7:=held_put (((HH4.out.step (((Below.refl w4.heap.size w4).alloc (Nat.le_refl _) _).alloc (by simp) _)).drew).step hb7)))
            all_goals
              have HF:=Lib.hid (And.intro q1 (And.intro q2 (And.intro q3 (And.intro q4 hS7.1.below))));clear hS0 hS1 hS7 q1 q2 q3 q4 hb7 HK HH4
              go_wp2_with fail
              refine bodyPost_ret (v:=.tuple #[.slice B7 L.length k7,.int .i64 (n:Int),.bool true]) (by simp[results,Tryz.results45,go_sem]) rfl ?_;rw[HR2.out];exact⟨B7,k7,rfl,HF.out⟩
          · have hbc:b<c:=by omega
            have hcb:¬c=b:=by omega
            subst hbe;have i1:(0:Int)<=((n:Nat):Int):=by omega
            have i2:((n:Nat):Int)<=((n:Nat):Int):=by omega
            have i3:((n:Nat):Int)<=((c:Nat):Int):=by omega
            go_upto_region 6 with fail
            go_region_held3 (fun W=>Held w [(w.heap.size,.cells (opA o) 37)] W/\W.cell? ⟨w.heap.size,0,none⟩=some (.int .i64 o.st)/\W.cell? ⟨w.heap.size,1,none⟩=some (.int .i64 o.sr)/\W.cell? ⟨w.heap.size,2,none⟩=some (.int .i64 o.k)/\W.cell? ⟨w.heap.size,3,none⟩=some (.int .i64 o.pt)/\W.cell? ⟨w.heap.size,4,none⟩=some (.int .i64 o.pr)/\W.cell? ⟨w.heap.size,5,none⟩=some (.int .i64 o.it)/\W.cell? ⟨w.heap.size,6,none⟩=some (.int .i64 o.ir)/\W.cell? ⟨w.heap.size,7,none⟩=some (.int .i64 o.tt)/\W.cell? ⟨w.heap.size,8,none⟩=some (.int .i64 o.tr)/\W.cell? ⟨w.heap.size,9,none⟩=some (.string o.name)/\W.cell? ⟨w.heap.size,10,none⟩=some (.string o.new)/\W.cell? ⟨w.heap.size,11,none⟩=some (.int .i64 o.off)/\W.cell? ⟨w.heap.size,12,none⟩=some (.string o.data)) (first|(with_reducible assumption)|(with_reducible exact put_one _ hS0)|(with_reducible exact put_two _ _ hS0))
              (first
                |(go_at_call 76;refine Calls.mono (HK.out _ _ _ _ _ _ (by omega) (held_put ((HH4.out.step (((Below.refl w4.heap.size w4).alloc (Nat.le_refl _) _).alloc (by simp) _)).drew)) (put_new w4 _ _ _ _ _).1 (put_new w4 _ _ _ _ _).2.1 (put_new w4 _ _ _ _ _).2.2.1 (put_new w4 _ _ _ _ _).2.2.2 (by rw[List.drop_of_length_le (by have:=HL.out;omega)];exact ops_none _) (fun h=>by cases h)) ?_;rintro e w7 ⟨B7,k7,rfl,q1,q2,q3,q4,hb7⟩;have hS7:=held_put (((HH4.out.step (((Below.refl w4.heap.size w4).alloc (Nat.le_refl _) _).alloc (by simp) _)).drew).step hb7)))
            all_goals
              have HF:=Lib.hid (And.intro q1 (And.intro q2 (And.intro q3 (And.intro q4 hS7.1.below))));clear hS0 hS1 hS7 q1 q2 q3 q4 hb7 HK HH4
              go_wp2_with fail
              refine bodyPost_ret (v:=.tuple #[.slice B7 L.length k7,.int .i64 (n:Int),.bool true]) (by simp[results,Tryz.results45,go_sem]) rfl ?_;rw[HR2.out];exact⟨B7,k7,rfl,HF.out⟩
structure StackO (H:GraphHave) (w W:World) (N:Nat->Prop) (a:Addr) (g:Gr) (rv:Value) (l:List Opn):Prop where
 fx:FX H w W N a g
 own:W.ownsRow w.heap.size 37 13 rv l.length (flat (l.map opA))
 row:∀b,rv.ownBlock=some b->N b
section
variable {H:GraphHave}{w W W':World}{N:Nat->Prop}{a:Addr}{g g':Gr}{rv:Value}{l:List Opn}
theorem StackO.same(h:StackO H w W N a g rv l)(k:FX H w W' N a g')(s:Same N W W'):StackO H w W' N a g' rv l:=
 ⟨k,own_same h.own fun b hb=>s.2 b (h.row b hb),h.row⟩
theorem StackO.step(h:StackO H w W N a g rv l)(hb:Below W.heap.size W W'):StackO H w W' N a g rv l:=
 h.same (h.fx.step hb) ⟨hb.size,fun i hi=>hb.block i (h.fx.gx.lt i hi)⟩
end
set_option maxRecDepth 100000 in
set_option maxHeartbeats 3200000 in
theorem on_code(a:Addr)(S:Nat->Prop)(g:Gr)(A:Option Addr)(n c:Nat)(l:List Opn)(w:World)(T:Tab w)(hr:graphHave.rep w S a g)(hf:g.fine)(hn:n<=1000)(hl:∀o∈l,OpFit o)(h:OpsIn w w.heap.size A n l):
  Calls Tryz.prog 26 #[.pointer (some a),.slice A n c] w fun e w'=>∃b U,e=.returned (.pointer (some b))/\graphHave.rep w' U b (runG g (sortO l))/\(∀i,U i->w.heap.size<=i)/\Below w.heap.size w w':=by
 have HCP:=Lib.hid (graphHave.copy a S g w hr hf.ok);have HX:=Lib.hid h;have HF:=Lib.hid hl;have HT:=Lib.hid T;have hfs:=sort_sub (l:=l);have HFS:Hid (∀o∈sortO l,OpFit o):=Lib.hid fun o ho=>hl o (hfs o ho);have hsl:=sort_len l;have hll:=h.len;have HS:Hid (∀W,Below w.heap.size w W->Calls Tryz.prog 28 #[.slice A n c] W fun e w'=>∃v,e=.returned v/\w'.ownsRow W.heap.size 37 13 v (sortO l).length (flat ((sortO l).map opA))/\Below W.heap.size W w'):=Lib.hid fun W hW=>sort_new A n c l W (tab_below T (Nat.le_refl _) hW) hn hl ((h.below hW).more hW.size);have hsn:(sortO l).length<=1000:=by omega
 generalize sortO l=s at HFS HS hsn ⊢;clear hr h hl T hfs hsl hll
 go_enter Tryz.func26,Tryz.ntmps26
 go_wp2_with fail
 refine HCP.out.mono ?_;rintro e w1 ⟨b,T1,rfl,r1,hT1,hb1⟩;have F1:Hid (FX graphHave w w1 (fun _=>False) b g):=Lib.hid ⟨⟨⟨T1,r1,hT1,fun _ h=>h.elim⟩,hf.ok,fun _ h=>h.elim,hb1⟩,hf⟩;have D:=Lib.hid (HS.out w1 hb1);clear r1 hT1 hb1 HCP
 go_wp2_with fail
 refine D.out.mono ?_;rintro e w2 ⟨v,rfl,hown,hb2⟩;obtain⟨B,cB,rfl,_⟩:=ops_own rfl hown;have K:Hid (StackO graphHave w w2 (fun i=>False\/(w1.heap.size<=i/\i<w2.heap.size)) b g (.slice B s.length cB) s):=Lib.hid ⟨⟨F1.out.gx.grow hb2,hf⟩,own_lower hown F1.out.below.size,fun q hq=>Or.inr (hown.lt q hq)⟩;obtain⟨N,hN⟩:∃N:Nat->Prop,N=fun i=>False\/(w1.heap.size<=i/\i<w2.heap.size):=⟨_,rfl⟩;rw[<-hN] at K;clear hN hown hb2 D F1 HS
 go_wp2_with fail
 go_loopg [13] (s.length+1) (fun gk i wr=>∃k:Nat,i=.int .i64 (k:Int)/\gk+k=s.length+1/\k<=s.length/\Hid (StackO graphHave w wr N b (runG g (s.take k)) (.slice B s.length cB) s))
 case atStart=>exact⟨0,by go_num,by omega,by omega,K⟩
 case round=>
  clear K;obtain⟨k,rfl,hgk,hk,hS⟩:=hrel;by_cases hlt:k<s.length
  ·obtain⟨B',cB',e1,ht,_⟩:=ops_own rfl hS.out.own
   injection e1 with e1 _ e2
   subst e1 e2;obtain⟨gi,o,rfl,hg,hrow⟩:=ht.row (by omega);have hca:=hrow k hlt;have hnx:=runG_next g (l:=s) (k:=k) hlt;have hfit:=HFS.out _ (List.getElem_mem hlt);obtain⟨d,hd⟩:∃d,s[k]=d:=⟨_,rfl⟩;rw[hd] at hca hfit hnx;have HNX:=Lib.hid hnx;have S1:=Lib.hid (hS.out.step ((Below.refl wr.heap.size wr).alloc (Nat.le_refl _) (.cells (opA d) 37)));have DD:=Lib.hid (FX.does applyHave S1.out.fx HT.out d hfit);have hi1:(k:Int)<(s.length:Int):=by omega
   have hi0:(0:Int)<=(k:Int):=by omega
   obtain⟨c0,c1,c2,c3,c4,c5,c6,c7,c8,c9,c10,c11,c12⟩:=hca;clear hrow hd hnx hfit ht hg;unfold opA at DD
   go_wp2_with fail
   refine DD.out.mono ?_;rintro e w5 ⟨rfl,h5,hs5⟩;have S5:=Lib.hid (S1.out.same h5 hs5);rw[<-HNX.out] at S5;clear h5 hs5 DD S1 hS c0 c1 c2 c3 c4 c5 c6 c7 c8 c9 c10 c11 c12
   go_wp2_with fail
   go_roundg (gk-1)
   case measure=>omega
   case rel=>exact⟨k+1,by go_num,by omega,by omega,S5⟩
  ·have hc:¬(k:Int)<(s.length:Int):=by omega
   have hS2:=hS.out;rw[List.take_of_length_le (by omega)] at hS2;have HF2:=Lib.hid hS2;clear hS2 hS
   go_wp2_with fail
   go_ret
   obtain⟨U,u1,u2,_⟩:=HF2.out.fx.gx.at';exact⟨b,rfl,U,u1,u2,HF2.out.fx.below⟩
set_option maxRecDepth 100000 in
set_option maxHeartbeats 3200000 in
theorem on_nil(A:Option Addr)(n c:Nat)(l:List Opn)(w:World)(T:Tab w)(hn:n<=1000)(hl:∀o∈l,OpFit o)(h:OpsIn w w.heap.size A n l):
  Calls Tryz.prog 26 #[.pointer none,.slice A n c] w fun e w'=>e=.returned (.pointer none)/\Below w.heap.size w w':=by
 have HT:=Lib.hid T;have hfs:=sort_sub (l:=l);have HFS:Hid (∀o∈sortO l,OpFit o):=Lib.hid fun o ho=>hl o (hfs o ho);have HS:Hid (∀W,Below w.heap.size w W->Calls Tryz.prog 28 #[.slice A n c] W (OpsPost (sortO l) W)):=Lib.hid fun W hW=>sort_code A n c l W (tab_below T (Nat.le_refl _) hW) hn hl ((h.below hW).more hW.size);unfold OpsPost at HS;have hsl:=sort_len l;have hll:=h.len;have hsn:(sortO l).length<=1000:=by omega
 generalize sortO l=s at HFS HS hsn;clear h hl T hfs hsl hll
 go_enter Tryz.func26,Tryz.ntmps26
 go_wp2_with fail
 refine(graphHave.nilCopy _).mono ?_;rintro e w1 ⟨rfl,hb1⟩;have D:=Lib.hid (HS.out w1 hb1);have B1:=Lib.hid hb1;clear hb1 HS
 go_wp2_with fail
 refine D.out.mono ?_;rintro e w2 ⟨B,cB,rfl,hx,_,_,_,hb2⟩;have HX:=Lib.hid hx;have B2:=Lib.hid (below_step B1.out hb2);clear hx hb2 D B1
 go_wp2_with fail
 go_loopg [13] (s.length+1) (fun gk i wr=>∃k:Nat,i=.int .i64 (k:Int)/\gk+k=s.length+1/\k<=s.length/\Hid (Below w2.heap.size w2 wr))
 case atStart=>exact⟨0,by go_num,by omega,by omega,Below.refl _ _⟩
 case round=>
  obtain⟨k,rfl,hgk,hk,hB⟩:=hrel;by_cases hlt:k<s.length
  ·obtain⟨gi,o,rfl,hg,hrow⟩:=HX.out.row (by omega);have hca:=(hrow k hlt).below hB.out hg;have hfit:=HFS.out _ (List.getElem_mem hlt);generalize s[k]=d at hca hfit;have hBA:Below w2.heap.size w2 (wr.alloc (.cells (opA d) 37)):=hB.out.alloc hB.out.size _;have TA:Tab (wr.alloc (.cells (opA d) 37)):=tab_below HT.out (Nat.le_refl _) (below_step B2.out hBA);have HBA:=Lib.hid hBA;have DD:=Lib.hid (applyHave.nilDo d (wr.alloc (.cells (opA d) 37)) hfit);have hi1:(k:Int)<(s.length:Int):=by omega
   have hi0:(0:Int)<=(k:Int):=by omega
   obtain⟨c0,c1,c2,c3,c4,c5,c6,c7,c8,c9,c10,c11,c12⟩:=hca;clear hrow hfit hg TA hBA;unfold opA at DD
   go_wp2_with fail
   refine DD.out.mono ?_;rintro e w5 ⟨rfl,hb5⟩;have B5:=Lib.hid (below_step HBA.out hb5);clear hb5 DD c0 c1 c2 c3 c4 c5 c6 c7 c8 c9 c10 c11 c12
   go_wp2_with fail
   go_roundg (gk-1)
   case measure=>omega
   case rel=>exact⟨k+1,by go_num,by omega,by omega,B5⟩
  ·have hc:¬(k:Int)<(s.length:Int):=by omega
   go_wp2_with fail
   go_ret
   exact⟨rfl,below_step B2.out hB.out⟩
set_option maxRecDepth 100000 in
theorem of_code(A:Option Addr)(n c:Nat)(l:List Opn)(w:World)(T:Tab w)(hn:n<=1000)(hl:∀o∈l,OpFit o)(h:OpsIn w w.heap.size A n l):
  Calls Tryz.prog 27 #[.slice A n c] w fun e w'=>∃b U,e=.returned (.pointer (some b))/\graphHave.rep w' U b (runA (sortO l))/\(∀i,U i->w.heap.size<=i)/\Below w.heap.size w w':=by
 have HO:Hid (∀(a:Addr)(S:Nat->Prop)(W:World),Below w.heap.size w W->graphHave.rep W S a newG->Calls Tryz.prog 26 #[.pointer (some a),.slice A n c] W fun e w'=>∃b U,e=.returned (.pointer (some b))/\graphHave.rep w' U b (runA (sortO l))/\(∀i,U i->W.heap.size<=i)/\Below W.heap.size W w'):=Lib.hid fun a S W hW hr=>
  on_code a S newG A n c l W (tab_below T (Nat.le_refl _) hW) hr new_fine hn hl ((h.below hW).more hW.size)
 generalize runA (sortO l)=φ at HO ⊢;clear h hl
 go_enter Tryz.func27,Tryz.ntmps27
 go_wp2_with fail
 refine(graphHave.new _).mono ?_;rintro e w1 ⟨a,S,rfl,r1,_,hb1⟩;have D:=Lib.hid (HO.out a S w1 hb1 r1);have B1:=Lib.hid hb1;clear r1 hb1 HO
 go_wp2_with fail
 refine D.out.mono ?_;rintro e w2 ⟨b,U,rfl,u1,u2,hb2⟩;have HU:=Lib.hid (And.intro u1 (And.intro (fun i hi=>Nat.le_trans B1.out.size (u2 i hi)) (below_step B1.out hb2)));clear u1 u2 hb2 D
 go_wp2_with fail
 go_ret
 exact⟨b,U,rfl,HU.out.1,HU.out.2.1,HU.out.2.2⟩
theorem foldHave:FoldHave graphHave where
 sort:=fun A n c l w _ hn hl h=>sort_code A n c l w inferInstance hn hl h
 put:=fun A n c x o w _ hn hnc hcm hd _ ho hx h=>(put_code A n c x o w inferInstance hn hnc hcm hd ho hx h).mono fun _ _ ⟨B,k,h1,h2,h3,h4,h5,h6⟩=>⟨B,k,h1,h2,h3,h4,h5.1,h6⟩
 below:=fun A n c x s w hn hx h=>below_code A n c x s w hn hx h
 of:=fun A n c l w _ hn hl h=>of_code A n c l w inferInstance hn hl h
 on:=fun a S g A n c l w _ hr _ hf hn hl h=>on_code a S g A n c l w inferInstance hr hf hn hl h
 nilOn:=fun A n c l w _ hn hl h=>on_nil A n c l w inferInstance hn hl h
end Go.Proofs.YtnnnkaobhkeocaaGreatDoor
namespace Go.Proofs.YtnnnkaobhkeocaaGreatDoor.GraphMath
open StampMath OpMath ExtentMath
structure Few (g g':Gr) (o:Opn):Prop where
 new:(newN g g').length<=1
 lost:(lostG g g').length<=2
 made:(lostG g' g).length<=1
 was:(wasG g g').length<=1
 makes:o.k<=3->newN g g'= [oSt o]/\(lostG g' g).length=1/\lostG g g'= []/\wasG g g'= []
 data:8<=o.k->lostG g g'= []/\lostG g' g= []/\newN g g'= []
theorem tie_mem{g:Gr}{b:Bool}{e:Ent}(h:whyG b g e=0){x:Ent}:x∈(tieG b g e).1.E↔x=e\/x∈g.E:=by
 unfold tieG;rw[if_pos h];exact putIn_mem
theorem key_one{g:Gr}(h:g.ok){e:Ent}(he:e∈g.E){d:St}{nm:ByteArray}(hk:e.dir=d/\e.name=nm):e=⟨d,nm,(lookE g.E d nm).getD (0,0)⟩:=by
 obtain⟨dir,name,ino⟩:=e;obtain⟨rfl,rfl⟩:=hk;rw[(look_iff h).2 he]
 rfl
end Go.Proofs.YtnnnkaobhkeocaaGreatDoor.GraphMath
namespace Go.Proofs.YtnnnkaobhkeocaaGreatDoor
open Go.RowKit StampMath GraphMath OpMath
def StsIn(W:World)(B:Nat)(A:Option Addr)(n:Nat)(l:List St):Prop:=TabIn 2 W B A n (l.map stA)
def StAt(W:World)(g p:Nat)(s:St):Prop:=W.cell? ⟨g,p,none⟩=some (.int .i64 s.1)/\W.cell? ⟨g,p+1,none⟩=some (.int .i64 s.2)
theorem StsIn.row{W:World}{B:Nat}{A:Option Addr}{n:Nat}{l:List St}(h:StsIn W B A n l)(hn:0<n):∃g o,A=some ⟨g,o,none⟩/\g<B/\∀k(hk:k<l.length),StAt W g (o+k*2) l[k]:=by
 obtain⟨g,o,e,hg,hc⟩:=h.2 hn;refine⟨g,o,e,hg,fun k hk=>?_⟩;have hk':k<(l.map stA).length:=by simpa using hk
 have he:(l.map stA)[k]=stA l[k]:=by simp
 exact⟨hc k hk' 0 _ (by rw[he];rfl),hc k hk' 1 _ (by rw[he];rfl)⟩
end Go.Proofs.YtnnnkaobhkeocaaGreatDoor
namespace Go.Proofs.YtnnnkaobhkeocaaGreatDoor
open Go.RowKit StampMath GraphMath OpMath PackMath
def TabAt(T:Nat->Prop)(k:Nat)(W:World)(A:Option Addr)(n:Nat)(rows:List (Array Value)):Prop:=
 rows.length=n/\(0<n->∃g o,A=some ⟨g,o,none⟩/\T g/\g<W.heap.size/\∀j(h:j<rows.length) i v,rows[j][i]?=some v->W.cell? ⟨g,o+j*k+i,none⟩=some v)
theorem TabAt.keep{T:Nat->Prop}{k:Nat}{W W':World}{A:Option Addr}{n:Nat}{rows:List (Array Value)}(h:TabAt T k W A n rows)(hb:∀i,T i->i<W.heap.size->W'.heap[i]?=W.heap[i]?)(hs:W.heap.size<=W'.heap.size):TabAt T k W' A n rows:=
 ⟨h.1,fun hn=>by
  obtain⟨g,o,e,ht,hg,hc⟩:=h.2 hn
  exact⟨g,o,e,ht,by omega,fun j hj i v hv=>(World.cell?_of_block (a:=⟨g,o+j*k+i,none⟩) (hb g ht hg)).trans (hc j hj i v hv)⟩⟩
theorem TabAt.mono{T T':Nat->Prop}{k:Nat}{W:World}{A:Option Addr}{n:Nat}{rows:List (Array Value)}(h:TabAt T k W A n rows)(hT:∀i,T i->i<W.heap.size->T' i):TabAt T' k W A n rows:=
 ⟨h.1,fun hn=>by
  obtain⟨g,o,e,ht,hg,hc⟩:=h.2 hn
  exact⟨g,o,e,hT g ht hg,hg,hc⟩⟩
theorem TabAt.tab{T:Nat->Prop}{k:Nat}{W:World}{A:Option Addr}{n:Nat}{rows:List (Array Value)}(h:TabAt T k W A n rows):TabIn k W W.heap.size A n rows:=
 ⟨h.1,fun hn=>by
  obtain⟨g,o,e,_,hg,hc⟩:=h.2 hn
  exact⟨g,o,e,hg,hc⟩⟩
def RecAt(T:Nat->Prop)(W:World)(v:Value)(r:Rec):Prop:=
 ∃(A1:Option Addr)(n1 c1:Nat)(A2:Option Addr)(n2 c2:Nat)(A3:Option Addr)(n3 c3:Nat)(A4:Option Addr)(n4 c4:Nat),
  v=.agg #[.slice A1 n1 c1,.slice A2 n2 c2,.slice A3 n3 c3,.slice A4 n4 c4,.int .i64 r.err]/\
  TabAt T 5 W A1 n1 (r.lost.map entA)/\TabAt T 5 W A2 n2 (r.made.map entA)/\TabAt T 6 W A3 n3 (r.was.map inoA)/\TabAt T 2 W A4 n4 (r.new.map stA)/\(A1=none->c1=0)/\(A2=none->c2=0)
theorem RecAt.keep{T:Nat->Prop}{W W':World}{v:Value}{r:Rec}(h:RecAt T W v r)(hb:∀i,T i->i<W.heap.size->W'.heap[i]?=W.heap[i]?)(hs:W.heap.size<=W'.heap.size):RecAt T W' v r:=by
 obtain⟨A1,n1,c1,A2,n2,c2,A3,n3,c3,A4,n4,c4,e,h1,h2,h3,h4,h5⟩:=h;exact⟨A1,n1,c1,A2,n2,c2,A3,n3,c3,A4,n4,c4,e,h1.keep hb hs,h2.keep hb hs,h3.keep hb hs,h4.keep hb hs,h5⟩
theorem RecAt.mono{T T':Nat->Prop}{W:World}{v:Value}{r:Rec}(h:RecAt T W v r)(hT:∀i,T i->i<W.heap.size->T' i):RecAt T' W v r:=by
 obtain⟨A1,n1,c1,A2,n2,c2,A3,n3,c3,A4,n4,c4,e,h1,h2,h3,h4,h5⟩:=h;exact⟨A1,n1,c1,A2,n2,c2,A3,n3,c3,A4,n4,c4,e,h1.mono hT,h2.mono hT,h3.mono hT,h4.mono hT,h5⟩
theorem RecAt.step{T:Nat->Prop}{W W':World}{v:Value}{r:Rec}(h:RecAt T W v r)(hb:Below W.heap.size W W'):RecAt T W' v r:=h.keep (fun i _ hi=>hb.block i hi) hb.size
structure UndoHave (H:GraphHave):Prop where
 diff:∀(a b:Addr)(S T:Nat->Prop)(g h:Gr)(w:World),H.rep w S a g->H.rep w T b h->g.ok->h.ok->
  Calls Tryz.prog 111 #[.pointer (some a),.pointer (some b)] w fun e w'=>∃v,e=.returned v/\RecAt (fun i=>w.heap.size<=i) w' v (diffG g h 0)/\Below w.heap.size w w'
 does:∀(a:Addr)(S:Nat->Prop)(g:Gr)(o:Opn)(w:World)[Tab w],H.rep w S a g->¬S 0->g.fine->OpFit o->
  Calls Tryz.prog 78 #[.pointer (some a),.agg (opA o)] w fun e w'=>∃S' T v,e=.returned v/\H.rep w' S' a (doA g o).1/\(∀i,S' i->S i\/w.heap.size<=i)/\But S w w'/\RecAt T w' v (doR g o)/\(∀i,T i->w.heap.size<=i/\¬S' i)
 back:∀(a:Addr)(S T:Nat->Prop)(g:Gr)(o:Opn)(v:Value)(w:World),H.rep w S a (doA g o).1->g.fine->OpFit o->RecAt T w v (doR g o)->(∀i,T i->¬S i)->
  Calls Tryz.prog 77 #[.pointer (some a),v] w fun e w'=>∃S',e=.returned (.tuple #[])/\H.rep w' S' a g/\(∀i,S' i->S i\/w.heap.size<=i)/\But S w w'
def RecRow(R:Nat->Prop)(W:World)(rv:Value)(rs:List Rec):Prop:=
 ∃vs:List (Array Value),vs.length=rs.length/\W.ownsRow 0 81 5 rv rs.length (flat vs)/\(∀v∈vs,v.size=5)/\∀(j:Nat)(r:Rec)(v:Array Value),rs[j]?=some r->vs[j]?=some v->RecAt R W (.agg v) r
theorem RecRow.keep{R:Nat->Prop}{W W':World}{rv:Value}{rs:List Rec}(h:RecRow R W rv rs)(hr:∀g,rv.ownBlock=some g->W'.heap[g]?=W.heap[g]?)(hR:∀i,R i->W'.heap[i]?=W.heap[i]?)(hs:W.heap.size<=W'.heap.size):RecRow R W' rv rs:=by
 obtain⟨vs,h1,h2,h3,h4⟩:=h;exact⟨vs,h1,own_same h2 hr,h3,fun j r v hr hv=>(h4 j r v hr hv).keep (fun i hi _=>hR i hi) hs⟩
theorem RecRow.mono{R R':Nat->Prop}{W:World}{rv:Value}{rs:List Rec}(h:RecRow R W rv rs)(hR:∀i,R i->R' i):RecRow R' W rv rs:=by
 obtain⟨vs,h1,h2,h3,h4⟩:=h;exact⟨vs,h1,h2,h3,fun j r v hr hv=>(h4 j r v hr hv).mono fun i hi _=>hR i hi⟩
theorem rec_one{R:Nat->Prop}{W:World}{v:Array Value}{r:Rec}(h:RecAt R W (.agg v) r):∀u∈v.toList,u.oneCell'=true:=by
 obtain⟨A1,n1,c1,A2,n2,c2,A3,n3,c3,A4,n4,c4,e,_⟩:=h
 injection e with e
 subst e;intro u hu;simp at hu;rcases hu with rfl|rfl|rfl|rfl|rfl<;>rfl
theorem recs_one{R:Nat->Prop}{W:World}{rs:List Rec}{vs:List (Array Value)}(h1:vs.length=rs.length)(h4:∀(j:Nat)(r:Rec)(v:Array Value),rs[j]?=some r->vs[j]?=some v->RecAt R W (.agg v) r):∀u∈flat vs,u.oneCell'=true:=by
 intro u hu;unfold flat at hu;obtain⟨v,hv,hu⟩:=List.mem_flatMap.1 hu;obtain⟨j,hj,rfl⟩:=List.getElem_of_mem hv;exact rec_one (h4 j rs[j] vs[j] (List.getElem?_eq_getElem (by omega)) (List.getElem?_eq_getElem hj)) u hu
def sixK(g:Nat)(Sb Sa:Nat->Prop)(ov rv:Value)(R:Nat->Prop):Nat->Nat->Prop
 |0=>fun i=>i=g
 |1=>Sb
 |2=>Sa
 |3=>fun i=>ov.ownBlock=some i
 |4=>fun i=>rv.ownBlock=some i
 |5=>R
 |_=>fun _=>False
structure Parts (H:GraphHave) (W:World) (g:Nat) (b c:Addr) (Sb Sa R:Nat->Prop) (B γ:Gr) (ov:Value) (L:List Opn) (rv:Value) (rs:List Rec):Prop where
 base:H.rep W Sb b B
 all:H.rep W Sa c γ
 ops:W.ownsRow 0 37 13 ov L.length (flat (L.map opA))
 recs:RecRow R W rv rs
 six:Six W.heap.size (sixK g Sb Sa ov rv R)
section
variable {H:GraphHave}{W W':World}{g:Nat}{b c:Addr}{Sb Sa R:Nat->Prop}{B γ:Gr}{ov:Value}{L:List Opn}{rv:Value}{rs:List Rec}
theorem Parts.keep(h:Parts H W g b c Sb Sa R B γ ov L rv rs)(hk:∀i,Sb i\/Sa i\/ov.ownBlock=some i\/rv.ownBlock=some i\/R i->W'.heap[i]?=W.heap[i]?)(hs:W.heap.size<=W'.heap.size):Parts H W' g b c Sb Sa R B γ ov L rv rs:=
 ⟨H.keep h.base fun i hi=>hk i (.inl hi),H.keep h.all fun i hi=>hk i (.inr (.inl hi)),own_same h.ops fun i hi=>hk i (.inr (.inr (.inl hi))),h.recs.keep (fun i hi=>hk i (.inr (.inr (.inr (.inl hi))))) (fun i hi=>hk i (.inr (.inr (.inr (.inr hi))))) hs,h.six.more hs⟩
theorem Parts.lt(h:Parts H W g b c Sb Sa R B γ ov L rv rs):∀i,Sb i\/Sa i\/ov.ownBlock=some i\/rv.ownBlock=some i\/R i->i<W.heap.size:=by
 rintro i (q|q|q|q|q)
 ·exact h.six.1 1 i q
 ·exact h.six.1 2 i q
 ·exact h.six.1 3 i q
 ·exact h.six.1 4 i q
 ·exact h.six.1 5 i q
theorem Parts.step(h:Parts H W g b c Sb Sa R B γ ov L rv rs)(hb:Below W.heap.size W W'):Parts H W' g b c Sb Sa R B γ ov L rv rs:=
 h.keep (fun i hi=>hb.block i (h.lt i hi)) hb.size
theorem Parts.box(h:Parts H W g b c Sb Sa R B γ ov L rv rs)(hb:But (fun i=>i=g) W W'):Parts H W' g b c Sb Sa R B γ ov L rv rs:=
 h.keep (fun i hi=>hb.block i (h.lt i hi) fun e=>by
  subst e;rcases hi with q|q|q|q|q
  ·exact h.six.2 0 1 (by decide) i rfl q
  ·exact h.six.2 0 2 (by decide) i rfl q
  ·exact h.six.2 0 3 (by decide) i rfl q
  ·exact h.six.2 0 4 (by decide) i rfl q
  ·exact h.six.2 0 5 (by decide) i rfl q) hb.size
theorem Parts.setOps(h:Parts H W g b c Sb Sa R B γ ov L rv rs){ov':Value}{L':List Opn}(hb:But (fun i=>ov.ownBlock=some i) W W')(ho:W'.ownsRow 0 37 13 ov' L'.length (flat (L'.map opA)))(hat:∀i,ov'.ownBlock=some i->ov.ownBlock=some i\/W.heap.size<=i):Parts H W' g b c Sb Sa R B γ ov' L' rv rs:=by
 have hk:∀j i,j≠3->sixK g Sb Sa ov rv R j i->W'.heap[i]?=W.heap[i]?:=fun j i hj hi=>hb.block i (h.six.1 j i hi) fun e=>h.six.2 j 3 hj i hi e;refine⟨H.keep h.base fun i hi=>hk 1 i (by decide) hi,H.keep h.all fun i hi=>hk 2 i (by decide) hi,ho,h.recs.keep (fun i hi=>hk 4 i (by decide) hi) (fun i hi=>hk 5 i (by decide) hi) hb.size,h.six.turn 3 hb.size (fun j hj=>?_) fun i hi=>⟨?_,(ho.lt i hi).2⟩⟩
 ·match j,hj with
  |0,_=>rfl
  |1,_=>rfl
  |2,_=>rfl
  |3,hj=>exact absurd rfl hj
  |4,_=>rfl
  |5,_=>rfl
  |_+6,_=>rfl
 ·exact(hat i hi).imp id fun q j _=>h.six.new q j
theorem Parts.setRecs(h:Parts H W g b c Sb Sa R B γ ov L rv rs){rv':Value}{rs':List Rec}(hb:But (fun i=>rv.ownBlock=some i) W W')(ho:RecRow R W' rv' rs')(hat:∀i,rv'.ownBlock=some i->rv.ownBlock=some i\/W.heap.size<=i):Parts H W' g b c Sb Sa R B γ ov L rv' rs':=by
 have hk:∀j i,j≠4->sixK g Sb Sa ov rv R j i->W'.heap[i]?=W.heap[i]?:=fun j i hj hi=>hb.block i (h.six.1 j i hi) fun e=>h.six.2 j 4 hj i hi e;refine⟨H.keep h.base fun i hi=>hk 1 i (by decide) hi,H.keep h.all fun i hi=>hk 2 i (by decide) hi,own_same h.ops fun i hi=>hk 3 i (by decide) hi,ho,h.six.turn 4 hb.size (fun j hj=>?_) fun i hi=>⟨?_,?_⟩⟩
 ·match j,hj with
  |0,_=>rfl
  |1,_=>rfl
  |2,_=>rfl
  |3,_=>rfl
  |4,hj=>exact absurd rfl hj
  |5,_=>rfl
  |_+6,_=>rfl
 ·exact(hat i hi).imp id fun q j _=>h.six.new q j
 ·obtain⟨vs,_,q,_⟩:=ho;exact(q.lt i hi).2
theorem Parts.setAll(h:Parts H W g b c Sb Sa R B γ ov L rv rs){Sa' R':Nat->Prop}{γ':Gr}(hb:But Sa W W')(hr:H.rep W' Sa' c γ')(hS:∀i,Sa' i->Sa i\/W.heap.size<=i)(hR:∀i,R i->R' i)(hR':∀i,R' i->(R i\/(W.heap.size<=i/\¬Sa' i))/\i<W'.heap.size):Parts H W' g b c Sb Sa' R' B γ' ov L rv rs:=by
 have hk:∀j i,j≠2->sixK g Sb Sa ov rv R j i->W'.heap[i]?=W.heap[i]?:=fun j i hj hi=>hb.block i (h.six.1 j i hi) fun e=>h.six.2 j 2 hj i hi e;have h2:Six W'.heap.size (sixK g Sb Sa' ov rv R):=by
  refine h.six.turn 2 hb.size (fun j hj=>?_) fun i hi=>⟨(hS i hi).imp id fun q j _=>h.six.new q j,H.lt hr i hi⟩
  match j,hj with
  |0,_=>rfl
  |1,_=>rfl
  |2,hj=>exact absurd rfl hj
  |3,_=>rfl
  |4,_=>rfl
  |5,_=>rfl
  |_+6,_=>rfl
 refine⟨H.keep h.base fun i hi=>hk 1 i (by decide) hi,hr,own_same h.ops fun i hi=>hk 3 i (by decide) hi,(h.recs.keep (fun i hi=>hk 4 i (by decide) hi) (fun i hi=>hk 5 i (by decide) hi) hb.size).mono hR,h2.turn 5 (Nat.le_refl _) (fun j hj=>?_) fun i hi=>⟨?_,(hR' i hi).2⟩⟩
 ·match j,hj with
  |0,_=>rfl
  |1,_=>rfl
  |2,_=>rfl
  |3,_=>rfl
  |4,_=>rfl
  |5,hj=>exact absurd rfl hj
  |_+6,_=>rfl
 ·refine(hR' i hi).1.imp id fun q j hj=>?_
  match j,hj with
  |0,_=>exact h.six.new q.1 0
  |1,_=>exact h.six.new q.1 1
  |2,_=>exact q.2
  |3,_=>exact h.six.new q.1 3
  |4,_=>exact h.six.new q.1 4
  |5,hj=>exact absurd rfl hj
  |_+6,_=>exact fun e=>e
theorem Parts.setBase(h:Parts H W g b c Sb Sa R B γ ov L rv rs){b':Addr}{Sb':Nat->Prop}{B':Gr}(hb:Below W.heap.size W W')(hr:H.rep W' Sb' b' B')(hS:∀i,Sb' i->W.heap.size<=i):Parts H W' g b' c Sb' Sa R B' γ ov L rv rs:=by
 have h1:=h.step hb;refine⟨hr,h1.all,h1.ops,h1.recs,h.six.turn 1 hb.size (fun j hj=>?_) fun i hi=>⟨.inr fun j _=>h.six.new (hS i hi) j,H.lt hr i hi⟩⟩
 match j,hj with
 |0,_=>rfl
 |1,hj=>exact absurd rfl hj
 |2,_=>rfl
 |3,_=>rfl
 |4,_=>rfl
 |5,_=>rfl
 |_+6,_=>rfl
theorem RecRow.push{T:Nat->Prop}{vs:List (Array Value)}(h1:vs.length=rs.length)(h3:∀v∈vs,v.size=5)(h4:∀(j:Nat)(r:Rec)(v:Array Value),rs[j]?=some r->vs[j]?=some v->RecAt T W (.agg v) r)
  {v:Array Value}{r:Rec}(hv:v.size=5)(hr:RecAt T W (.agg v) r){rv':Value}(hown:W.ownsRow 0 81 5 rv' (rs.length+1) (flat vs++v.toList)):RecRow T W rv' (rs++[r]):=by
 refine⟨vs++[v],by simp[h1],by rw[flat_append,flat_one,List.length_append];exact hown,fun u hu=>?_,fun j r' v' hr' hv'=>?_⟩
 ·rcases List.mem_append.1 hu with hu|hu
  ·exact h3 u hu
  ·rw[List.mem_singleton.1 hu];exact hv
 ·by_cases hj:j<rs.length
  ·rw[List.getElem?_append_left hj] at hr';rw[List.getElem?_append_left (by omega)] at hv';exact h4 j r' v' hr' hv'
  ·have e1:j=rs.length:=by
    have:=(List.getElem?_eq_some_iff.1 hr').1;rw[List.length_append] at this;simp at this;omega
   subst e1;rw[List.getElem?_append_right (Nat.le_refl _)] at hr';rw[<-h1,List.getElem?_append_right (Nat.le_refl _)] at hv';simp at hr' hv';subst hr' hv';exact hr
theorem RecRow.take{A:Option Addr}{cp:Nat}(h:RecRow R W (.slice A rs.length cp) rs){n:Nat}(hn:n<=rs.length):RecRow R W (.slice A n cp) (rs.take n):=by
 obtain⟨vs,h1,h2,h3,h4⟩:=h;have hl:(rs.take n).length=n:=by rw[List.length_take];omega
 refine⟨vs.take n,by rw[List.length_take,List.length_take,h1],by rw[hl];exact own_take h3 h2 hn,fun v hv=>h3 v (List.mem_of_mem_take hv),fun j r v hr hv=>?_⟩;rw[List.getElem?_take] at hr hv
 split at hr
 ·rename_i hj
  rw[if_pos hj] at hv;exact h4 j r v hr hv
 ·cases hr
end
def logC(b c:Addr)(fl:St)(ov rv:Value):Array Value:=#[.pointer (some b),.pointer (some c),.int .i64 fl.1,.int .i64 fl.2,ov,rv]
structure LogSt (H:GraphHave) (W:World) (g:Nat) (b c:Addr) (fl:St) (Sb Sa R:Nat->Prop) (B γ:Gr) (ov:Value) (L:List Opn) (rv:Value) (rs:List Rec):Prop where
 box:W.heap[g]?=some (.cells (logC b c fl ov rv) 76 (0,0))
 parts:Parts H W g b c Sb Sa R B γ ov L rv rs
def Own5(g:Nat)(Sb Sa:Nat->Prop)(ov rv:Value):Nat->Prop:=fun i=>i=g\/Sb i\/Sa i\/ov.ownBlock=some i\/rv.ownBlock=some i
def LogIn(H:GraphHave)(W:World)(S R:Nat->Prop)(a:Addr)(x:Lg):Prop:=
 ∃(g:Nat)(b c:Addr)(Sb Sa:Nat->Prop)(ov rv:Value),a=⟨g,0,none⟩/\S=Own5 g Sb Sa ov rv/\LogSt H W g b c x.fl Sb Sa R x.B (graphL x) ov x.L rv (recL x.B x.L)
section
variable {H:GraphHave}{W W':World}{g:Nat}{b c:Addr}{fl:St}{Sb Sa R:Nat->Prop}{B γ:Gr}{ov:Value}{L:List Opn}{rv:Value}{rs:List Rec}
theorem LogSt.step(h:LogSt H W g b c fl Sb Sa R B γ ov L rv rs)(hb:Below W.heap.size W W'):LogSt H W' g b c fl Sb Sa R B γ ov L rv rs:=
 ⟨(hb.block g (heap_lt h.box)).trans h.box,h.parts.step hb⟩
theorem LogSt.lt(h:LogSt H W g b c fl Sb Sa R B γ ov L rv rs):∀i,Own5 g Sb Sa ov rv i\/R i->i<W.heap.size:=by
 rintro i ((rfl|q|q|q|q)|q)
 ·exact heap_lt h.box
 ·exact h.parts.lt i (.inl q)
 ·exact h.parts.lt i (.inr (.inl q))
 ·exact h.parts.lt i (.inr (.inr (.inl q)))
 ·exact h.parts.lt i (.inr (.inr (.inr (.inl q))))
 ·exact h.parts.lt i (.inr (.inr (.inr (.inr q))))
theorem LogSt.keep(h:LogSt H W g b c fl Sb Sa R B γ ov L rv rs)(hk:∀i,Own5 g Sb Sa ov rv i\/R i->W'.heap[i]?=W.heap[i]?)(hs:W.heap.size<=W'.heap.size):LogSt H W' g b c fl Sb Sa R B γ ov L rv rs:=
 ⟨(hk g (.inl (.inl rfl))).trans h.box,h.parts.keep (fun i hi=>hk i (by
  rcases hi with q|q|q|q|q
  ·exact .inl (.inr (.inl q))
  ·exact .inl (.inr (.inr (.inl q)))
  ·exact .inl (.inr (.inr (.inr (.inl q))))
  ·exact .inl (.inr (.inr (.inr (.inr q))))
  ·exact .inr q)) hs⟩
theorem LogSt.apart(h:LogSt H W g b c fl Sb Sa R B γ ov L rv rs):∀i,Own5 g Sb Sa ov rv i->¬R i:=by
 rintro i (q|q|q|q|q) r
 ·exact h.parts.six.2 0 5 (by decide) i q r
 ·exact h.parts.six.2 1 5 (by decide) i q r
 ·exact h.parts.six.2 2 5 (by decide) i q r
 ·exact h.parts.six.2 3 5 (by decide) i q r
 ·exact h.parts.six.2 4 5 (by decide) i q r
theorem six_cells{w:World}{g:Nat}{a b c d e f:Value}{T:TypeId}(h:w.heap[g]?=some (.cells #[a,b,c,d,e,f] T (0,0))):
  w.cell? ⟨g,0,none⟩=some a/\w.cell? ⟨g,1,none⟩=some b/\w.cell? ⟨g,2,none⟩=some c/\w.cell? ⟨g,3,none⟩=some d/\w.cell? ⟨g,4,none⟩=some e/\w.cell? ⟨g,5,none⟩=some f:=
 ⟨cell_of_row _ _ 0 _ _ (0,0) h,cell_of_row _ _ 1 _ _ (0,0) h,cell_of_row _ _ 2 _ _ (0,0) h,cell_of_row _ _ 3 _ _ (0,0) h,cell_of_row _ _ 4 _ _ (0,0) h,cell_of_row _ _ 5 _ _ (0,0) h⟩
theorem LogSt.ops_in(h:LogSt H W g b c fl Sb Sa R B γ ov L rv rs):∃(A:Option Addr)(cp:Nat),ov=.slice A L.length cp/\OpsIn W W.heap.size A L.length L/\L.length<=cp/\cp<=maxLen/\(A=none->cp=0):=ops_own rfl h.parts.ops
theorem LogSt.recs_slice(h:LogSt H W g b c fl Sb Sa R B γ ov L rv rs):∃(A:Option Addr)(cp:Nat),rv=.slice A rs.length cp/\rs.length<=cp/\cp<=maxLen/\(A=none->cp=0):=by
 obtain⟨vs,h1,h2,h3,_⟩:=h.parts.recs;obtain⟨A,cp,e,_,h4,h5,h6⟩:=tab_own h3 h1 h2;exact⟨A,cp,e,h4,h5,h6⟩
end
end Go.Proofs.YtnnnkaobhkeocaaGreatDoor
