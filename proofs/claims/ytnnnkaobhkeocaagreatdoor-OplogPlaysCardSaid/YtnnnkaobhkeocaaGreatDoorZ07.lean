/-
 The walk of op's May.
-/
import Derived.Test.YtnnnkaobhkeocaaGreatDoorZ06
import Derived.Test.YtnnnkaobhkeocaaGreatDoorZ06
import Derived.Test.YtnnnkaobhkeocaaGreatDoorZ06
import Derived.Deep.DeepCutAuto
import Derived.Laws.StructEq
import Derived.Test.YtnnnkaobhkeocaaGreatDoorZ04
import Derived.Test.YtnnnkaobhkeocaaGreatDoorZ05
import Derived.Test.YtnnnkaobhkeocaaGreatDoorZ05
import Derived.Test.YtnnnkaobhkeocaaGreatDoorZ05
import Derived.Test.YtnnnkaobhkeocaaGreatDoorZ01
import Derived.Deep.RegionHeld3
import Derived.Deep.RegionWith
import Derived.Test.YtnnnkaobhkeocaaGreatDoorZ00
import Derived.Test.YtnnnkaobhkeocaaGreatDoorRows
namespace Go.Proofs.YtnnnkaobhkeocaaGreatDoor
open Go.RowKit OpMath StampMath PackMath
set_option maxRecDepth 100000 in
set_option maxHeartbeats 3200000 in
theorem mayCode(o p:Opn)(same ms mn mr r:Bool)(hr:r=(decide (1<=o.k)&&decide (o.k<=10)&&same&&ms&&mn&&mr))
  (EQ:Hid (∀W:World,(Op.equalIn 10000 37 (.agg #[.int .i64 o.st,.int .i64 o.sr,.int .i64 o.k,.int .i64 o.pt,.int .i64 o.pr,.int .i64 o.it,.int .i64 o.ir,.int .i64 o.tt,.int .i64 o.tr,.string o.name,.string o.new,.int .i64 o.off,.string o.data]) (.agg #[.int .i64 p.st,.int .i64 p.sr,.int .i64 p.k,.int .i64 p.pt,.int .i64 p.pr,.int .i64 p.it,.int .i64 p.ir,.int .i64 p.tt,.int .i64 p.tr,.string p.name,.string p.new,.int .i64 p.off,.string p.data])).run Tryz.prog W=.ok same W))
  (OW:Hid (∀(W:World)[Tab W],Calls Tryz.prog 89 #[.agg #[.int .i64 o.st,.int .i64 o.sr,.int .i64 o.k,.int .i64 o.pt,.int .i64 o.pr,.int .i64 o.it,.int .i64 o.ir,.int .i64 o.tt,.int .i64 o.tr,.string o.name,.string o.new,.int .i64 o.off,.string o.data]] W fun e w'=>e=.returned (.agg #[.int .i64 p.st,.int .i64 p.sr,.int .i64 p.k,.int .i64 p.pt,.int .i64 p.pr,.int .i64 p.it,.int .i64 p.ir,.int .i64 p.tt,.int .i64 p.tr,.string p.name,.string p.new,.int .i64 p.off,.string p.data])/\Below W.heap.size W w'))
  (MS:Hid (∀(W:World)[Tab W],Calls Tryz.prog 90 #[.agg #[.int .i64 o.st,.int .i64 o.sr,.int .i64 o.k,.int .i64 o.pt,.int .i64 o.pr,.int .i64 o.it,.int .i64 o.ir,.int .i64 o.tt,.int .i64 o.tr,.string o.name,.string o.new,.int .i64 o.off,.string o.data]] W fun e w'=>e=.returned (.bool ms)/\Below W.heap.size W w'))
  (MN:Hid (∀(W:World)[Tab W],Calls Tryz.prog 91 #[.agg #[.int .i64 o.st,.int .i64 o.sr,.int .i64 o.k,.int .i64 o.pt,.int .i64 o.pr,.int .i64 o.it,.int .i64 o.ir,.int .i64 o.tt,.int .i64 o.tr,.string o.name,.string o.new,.int .i64 o.off,.string o.data]] W fun e w'=>e=.returned (.bool mn)/\Below W.heap.size W w'))
  (MR:Hid (∀(W:World)[Tab W],Calls Tryz.prog 92 #[.agg #[.int .i64 o.st,.int .i64 o.sr,.int .i64 o.k,.int .i64 o.pt,.int .i64 o.pr,.int .i64 o.it,.int .i64 o.ir,.int .i64 o.tt,.int .i64 o.tr,.string o.name,.string o.new,.int .i64 o.off,.string o.data]] W fun e w'=>e=.returned (.bool mr)/\Below W.heap.size W w'))(w:World)[Tab w]:
  Calls Tryz.prog 60 #[.agg #[.int .i64 o.st,.int .i64 o.sr,.int .i64 o.k,.int .i64 o.pt,.int .i64 o.pr,.int .i64 o.it,.int .i64 o.ir,.int .i64 o.tt,.int .i64 o.tr,.string o.name,.string o.new,.int .i64 o.off,.string o.data]] w fun e w'=>e=.returned (.bool r)/\Below w.heap.size w w':=by
 have HR:=Lib.hid hr;clear hr;have E:=EQ.out;by_cases k1:1<=o.k
 ·have K1:=Lib.hid (show decide (1<=o.k)=true by simpa using k1);by_cases k2:o.k<=10
  ·have K2:=Lib.hid (show decide (o.k<=10)=true by simpa using k2)
   go_enter Tryz.func60,Tryz.ntmps60
   have hh0:(w.alloc (.cells (opA o) 37)).heap[w.heap.size]?=some (.cells (opA o) 37 (0,0)):=heap_alloc_new w _;have hB0:Below w.heap.size w (w.alloc (.cells (opA o) 37)):=(Below.refl _ _).alloc (Nat.le_refl _) _
   go_upto_region 2 with fail
   have iw0:Tab (w.alloc (.cells (opA o) 37)):=inferInstance;change Code.wp _ _ _ _ (w.alloc (.cells (opA o) 37));generalize w.alloc (.cells (opA o) 37)=w0 at hh0 hB0 iw0 ⊢;obtain⟨l0,l1,l2,l3,l4,l5,l6,l7,l8,l9,l10,l11,l12⟩:=op_cells hh0;have q0:=later_cell l0;have q1:=later_cell l1;have q2:=later_cell l2;have q3:=later_cell l3;have q4:=later_cell l4;have q5:=later_cell l5;have q6:=later_cell l6;have q7:=later_cell l7;have q8:=later_cell l8;have q9:=later_cell l9;have q10:=later_cell l10;have q11:=later_cell l11;have q12:=later_cell l12;clear l0 l1 l2 l3 l4 l5 l6 l7 l8 l9 l10 l11 l12 k1 k2
   cases same
   ·refine wp_region_later (by kernel_rfl) (by kernel_rfl) ?_
    repeat(go_big_quiet_step (first|(with_reducible exact later_call (OW.out _))|(with_reducible exact later_call (MS.out _))|(with_reducible exact later_call (MN.out _))|(with_reducible exact later_call (MR.out _))))
    refine wpQuiet_nil ?_;intro _ hw';obtain⟨y1,rfl⟩:=hw'
    go_wp2_with fail
    go_ret
    exact⟨by rw[HR.out];simp,below_step hB0 (later_below w0 y1)⟩
   cases ms
   ·refine wp_region_later (by kernel_rfl) (by kernel_rfl) ?_
    repeat(go_big_quiet_step (first|(with_reducible exact later_call (OW.out _))|(with_reducible exact later_call (MS.out _))|(with_reducible exact later_call (MN.out _))|(with_reducible exact later_call (MR.out _))))
    refine wpQuiet_nil ?_;intro _ hw';obtain⟨y1,rfl⟩:=hw'
    go_wp2_with fail
    go_ret
    exact⟨by rw[HR.out];simp,below_step hB0 (later_below w0 y1)⟩
   cases mn
   ·refine wp_region_later (by kernel_rfl) (by kernel_rfl) ?_
    repeat(go_big_quiet_step (first|(with_reducible exact later_call (OW.out _))|(with_reducible exact later_call (MS.out _))|(with_reducible exact later_call (MN.out _))|(with_reducible exact later_call (MR.out _))))
    refine wpQuiet_nil ?_;intro _ hw';obtain⟨y1,rfl⟩:=hw'
    go_wp2_with fail
    go_ret
    exact⟨by rw[HR.out];simp,below_step hB0 (later_below w0 y1)⟩
   ·refine wp_region_later (by kernel_rfl) (by kernel_rfl) ?_
    repeat(go_big_quiet_step (first|(with_reducible exact later_call (OW.out _))|(with_reducible exact later_call (MS.out _))|(with_reducible exact later_call (MN.out _))|(with_reducible exact later_call (MR.out _))))
    refine wpQuiet_nil ?_;intro _ hw';obtain⟨y1,rfl⟩:=hw'
    go_wp2_with fail
    go_ret
    exact⟨by rw[HR.out,K1.out,K2.out];rfl,below_step hB0 (later_below w0 y1)⟩
  ·have K2:=Lib.hid (show decide (o.k<=10)=false by simpa using k2);have d2:decide (o.k<=10)=false:=by simpa using k2
   clear k2
   go_enter Tryz.func60,Tryz.ntmps60
   have hB0:Below w.heap.size w (w.alloc (.cells (opA o) 37)):=(Below.refl _ _).alloc (Nat.le_refl _) _
   go_upto_region 2 with fail
   change Code.wp _ _ _ _ (w.alloc (.cells (opA o) 37));generalize w.alloc (.cells (opA o) 37)=w0 at hB0 ⊢;refine wp_region_later (by kernel_rfl) (by kernel_rfl) ?_
   repeat(go_big_quiet_step (first|(with_reducible exact later_call (OW.out _))|(with_reducible exact later_call (MS.out _))|(with_reducible exact later_call (MN.out _))|(with_reducible exact later_call (MR.out _))))
   refine wpQuiet_nil ?_;intro _ hw';obtain⟨y1,rfl⟩:=hw'
   go_wp2_with fail
   go_ret
   exact⟨by rw[HR.out,K2.out];simp,below_step hB0 (later_below w0 y1)⟩
 ·have K1:=Lib.hid (show decide (1<=o.k)=false by simpa using k1);have d1:decide (1<=o.k)=false:=by simpa using k1
  clear k1
  go_enter Tryz.func60,Tryz.ntmps60
  have hB0:Below w.heap.size w (w.alloc (.cells (opA o) 37)):=(Below.refl _ _).alloc (Nat.le_refl _) _
  go_upto_region 2 with fail
  change Code.wp _ _ _ _ (w.alloc (.cells (opA o) 37));generalize w.alloc (.cells (opA o) 37)=w0 at hB0 ⊢;refine wp_region_later (by kernel_rfl) (by kernel_rfl) ?_
  repeat(go_big_quiet_step (first|(with_reducible exact later_call (OW.out _))|(with_reducible exact later_call (MS.out _))|(with_reducible exact later_call (MN.out _))|(with_reducible exact later_call (MR.out _))))
  refine wpQuiet_nil ?_;intro _ hw';obtain⟨y1,rfl⟩:=hw'
  go_wp2_with fail
  go_ret
  exact⟨by rw[HR.out,K1.out];simp,below_step hB0 (later_below w0 y1)⟩
theorem stamps_zero(o:Opn)(h:o.st=0):mayB o.st o.sr=(o.sr==0):=by
 unfold mayB;rw[if_pos h]
theorem may_same(o:Opn):(decide (1<=o.k)&&decide (o.k<=10)&&decide (o=ownO o)&&(!(o.st==0)&&mayB o.st o.sr&&mayB o.pt o.pr&&mayB o.it o.ir&&mayB o.tt o.tr)&&namesB o&&restB o)=mayO o:=by
 by_cases h1:1<=o.k
 ·by_cases h2:o.k<=10
  ·rw[own_bare o h1 h2];by_cases h3:o=bareO o
   ·have e3:decide (o=bareO o)=true:=decide_eq_true h3;have e3':decide (bareO o=o)=true:=decide_eq_true h3.symm;have f8:hasF o.k 8=decide (o.k<=7):=by unfold hasF;rw[if_neg (by decide),if_neg (by decide),if_neg (by decide),if_pos rfl,decide_eq_decide];omega
    have f16:hasF o.k 16=decide (o.k=7):=by unfold hasF;rw[if_neg (by decide),if_neg (by decide),if_neg (by decide),if_neg (by decide),if_pos rfl]
    have hz:nameB ⟨#[]⟩=false:=by
     unfold nameB
     rfl
    have hN:(nameB o.name==hasF o.k 8)=(decide (7<o.k)||nameB o.name):=by
     rw[f8];by_cases h7:o.k<=7
     ·rw[decide_eq_true h7,decide_eq_false (by omega)]
      cases nameB o.name<;>rfl
     ·have e:=congrArg Opn.name h3;simp only[bareO] at e;rw[if_neg h7] at e;rw[decide_eq_false h7,decide_eq_true (by omega),e,hz]
      rfl
    have hM:(nameB o.new==hasF o.k 16)=(!(o.k==7)||nameB o.new):=by
     rw[f16];by_cases h7:o.k=7
     ·rw[decide_eq_true h7,show(o.k==7)=true by simpa using h7]
      cases nameB o.new<;>rfl
     ·have e:=congrArg Opn.new h3;simp only[bareO] at e;rw[if_neg h7] at e;rw[decide_eq_false h7,show(o.k==7)=false by simpa using h7,e,hz]
      rfl
    have hD:restB o=dataB o:=by
     unfold restB dataB;by_cases g3:o.k=3
     ·rw[if_pos g3,if_pos g3]
     ·rw[if_neg g3,if_neg g3];by_cases g8:o.k=8
      ·rw[if_pos g8,if_pos g8];have es:(o.data.toList== [])=decide (o.data.size=0):=by
        rw[ByteArray.toList_eq];have e2:o.data.data.toList.length=o.data.size:=by simp
        cases hl:o.data.data.toList with
        |nil=>rw[hl] at e2;rw[decide_eq_true (by simpa using e2.symm)];rfl
        |cons a l=>rw[hl,List.length_cons] at e2;rw[decide_eq_false (by omega)];rfl
       rw[es];by_cases t0:0<=o.off
       ·by_cases t1:o.off<=64-(o.data.size:Int)
        ·rw[decide_eq_true t0,decide_eq_true t1,show decide (o.data.size<=64)=true from decide_eq_true (by omega)];by_cases t2:o.data.size=0
         ·rw[decide_eq_true t2,decide_eq_false (show¬1<=o.data.size by omega)];rfl
         ·rw[decide_eq_false t2,decide_eq_true (show 1<=o.data.size by omega)];rfl
        ·rw[decide_eq_false t1];simp
       ·rw[decide_eq_false t0];simp
      ·rw[if_neg g8,if_neg g8]
    unfold namesB mayO;rw[e3,e3',hN,hM,hD]
    cases decide (1<=o.k)<;>cases decide (o.k<=10)<;>cases o.st==0<;>cases mayB o.st o.sr<;>cases mayB o.pt o.pr<;>cases mayB o.it o.ir<;>cases mayB o.tt o.tr<;>cases(decide (7<o.k)||nameB o.name)<;>cases(!(o.k==7)||nameB o.new)<;>cases dataB o<;>rfl
   ·have e3:decide (o=bareO o)=false:=decide_eq_false h3;have e3':decide (bareO o=o)=false:=decide_eq_false fun h=>h3 h.symm;unfold mayO;rw[e3,e3'];simp
  ·unfold mayO;rw[decide_eq_false h2];simp
 ·unfold mayO;rw[decide_eq_false h1];simp
theorem opMay_any(o:Opn)(w:World)[Tab w](ok:Ok64 o)(hn:o.name.size<=maxLen)(hm:o.new.size<=maxLen)(hd:o.data.size<=maxLen):
  Calls Tryz.prog 60 #[.agg #[.int .i64 o.st,.int .i64 o.sr,.int .i64 o.k,.int .i64 o.pt,.int .i64 o.pr,.int .i64 o.it,.int .i64 o.ir,.int .i64 o.tt,.int .i64 o.tr,.string o.name,.string o.new,.int .i64 o.off,.string o.data]] w fun e w'=>e=.returned (.bool (mayO o))/\Below w.heap.size w w':=
 mayCode o (ownO o) (decide (o=ownO o)) (!(o.st==0)&&mayB o.st o.sr&&mayB o.pt o.pr&&mayB o.it o.ir&&mayB o.tt o.tr) (namesB o) (restB o) (mayO o) (may_same o).symm
  (fun W=>run_eqO o (ownO o) W) (fun W _=>own_any o W)
  (fun W _=>mayStamps_core o _ _ _ _ (stamps_zero o) (fun W=>may_any _ _ W) (fun W=>may_any _ _ W) (fun W=>may_any _ _ W) (fun W=>may_any _ _ W) W)
  (fun W _=>mayNames_any o hn hm W) (fun W _=>mayRest_any o hd ok.off W) w
end Go.Proofs.YtnnnkaobhkeocaaGreatDoor
namespace Go.Proofs.YtnnnkaobhkeocaaGreatDoor
open Go.RowKit StampMath GraphMath OpMath PackMath
def whyL:List (Int×FuncId):=[(10,162),(9,161),(8,161),(7,160),(6,159),(5,158),(4,157),(3,156),(2,156),(1,156)]
theorem inShape:KShape Tryz.prog 3 inV:=KShape.of_int Tryz.underlying3
theorem but_step{w W W':World}{b:Nat}(h:Below w.heap.size w W)(hb:w.heap.size<=b)(k:But (fun i=>i=b) W W'):Below w.heap.size w W':=
 h.trans (k.below (fun i hi=>by omega) h.size)
set_option maxRecDepth 100000 in
set_option maxHeartbeats 1600000 in
theorem reasons_code(w:World):
  Calls Tryz.prog 119 #[] w fun e w'=>∃b,e=.returned (.map (some b))/\KMap inV fnV w' b whyL/\Below w.heap.size w w':=by
 have hmk:∀W:World,(Instr.makeMap 166 none).run Tryz.prog W=.ok (.map (some W.heap.size)) (W.alloc (.map #[] 0)):=fun _=>rfl;have HK:=Lib.hid (KMap.made (ek:=inV) (ev:=fnV) w);have HB:=Lib.hid ((Below.refl w.heap.size w).alloc (Nat.le_refl _) (.map #[] 0))
 go_enter Tryz.func119,Tryz.ntmps119
 go_wp2_with (refine wpList_k_insert_new inShape (by rfl) _ _ _ _ (by rfl) Tryz.underlying166 w.heap.size _ (by rfl) HK.out _ (by rfl) _ (by rfl) (by rfl) ?_;intro w1 HK1 HB1 _;have HB:=Lib.hid (but_step HB.out (Nat.le_refl _) HB1.out);have HK:=HK1;clear HK1 HB1)
 go_ret
 exact⟨_,rfl,HK.out,HB.out⟩
theorem ask_code(H:GraphHave)(a:Addr)(S:Nat->Prop)(g:Gr)(o:Opn)(hg:g.ok)(hm:mayO o=true)(hf:OpFit o):
  ∃f,(f=156\/f=157\/f=158\/f=159\/f=160\/f=161\/f=162)/\lookL whyL o.k=some f/\∀W:World,H.rep W S a g->Calls Tryz.prog f #[.agg (deedA a o)] W fun e w'=>e=.returned (.int .i64 (whyA g o))/\Below W.heap.size W w':=by
 obtain⟨p1,p2,_⟩:=mayO_parts hm;rcases show o.k=1\/o.k=2\/o.k=3\/o.k=4\/o.k=5\/o.k=6\/o.k=7\/o.k=8\/o.k=9\/o.k=10 by omega with q|q|q|q|q|q|q|q|q|q
 ·exact⟨_,Or.inl rfl,by rw[q];rfl,fun W h=>whyMake_code H a S g o W h hg hm (by omega) hf.name⟩
 ·exact⟨_,Or.inl rfl,by rw[q];rfl,fun W h=>whyMake_code H a S g o W h hg hm (by omega) hf.name⟩
 ·exact⟨_,Or.inl rfl,by rw[q];rfl,fun W h=>whyMake_code H a S g o W h hg hm (by omega) hf.name⟩
 ·exact⟨_,Or.inr (Or.inl rfl),by rw[q];rfl,fun W h=>whyLink_code H a S g o W h hg hm q hf.name⟩
 ·exact⟨_,Or.inr (Or.inr (Or.inl rfl)),by rw[q];rfl,fun W h=>whyUnlink_code H a S g o W h hg hm q hf.name⟩
 ·exact⟨_,Or.inr (Or.inr (Or.inr (Or.inl rfl))),by rw[q];rfl,fun W h=>whyRmdir_code H a S g o W h hg hm q hf.name⟩
 ·exact⟨_,Or.inr (Or.inr (Or.inr (Or.inr (Or.inl rfl)))),by rw[q];rfl,fun W h=>whyRename_code H a S g o W h hg hm q hf.name hf.new⟩
 ·exact⟨_,Or.inr (Or.inr (Or.inr (Or.inr (Or.inr (Or.inl rfl))))),by rw[q];rfl,fun W h=>whyFill_code H a S g o W h hg hm (Or.inl q)⟩
 ·exact⟨_,Or.inr (Or.inr (Or.inr (Or.inr (Or.inr (Or.inl rfl))))),by rw[q];rfl,fun W h=>whyFill_code H a S g o W h hg hm (Or.inr q)⟩
 ·exact⟨_,Or.inr (Or.inr (Or.inr (Or.inr (Or.inr (Or.inr (rfl)))))),by rw[q];rfl,fun W h=>whySet_code H a S g o W h hg hm q⟩
theorem ops_call{w W W':World}{o:Opn}(hb:Below W.heap.size W W')(h:Held w [(w.heap.size,(.cells (opA o) 37 (0,0)))] W/\W.cell? ⟨w.heap.size,0,none⟩=some (.int .i64 o.st)/\W.cell? ⟨w.heap.size,1,none⟩=some (.int .i64 o.sr)/\W.cell? ⟨w.heap.size,2,none⟩=some (.int .i64 o.k)/\W.cell? ⟨w.heap.size,3,none⟩=some (.int .i64 o.pt)/\W.cell? ⟨w.heap.size,4,none⟩=some (.int .i64 o.pr)/\W.cell? ⟨w.heap.size,5,none⟩=some (.int .i64 o.it)/\W.cell? ⟨w.heap.size,6,none⟩=some (.int .i64 o.ir)/\W.cell? ⟨w.heap.size,7,none⟩=some (.int .i64 o.tt)/\W.cell? ⟨w.heap.size,8,none⟩=some (.int .i64 o.tr)/\W.cell? ⟨w.heap.size,9,none⟩=some (.string o.name)/\W.cell? ⟨w.heap.size,10,none⟩=some (.string o.new)/\W.cell? ⟨w.heap.size,11,none⟩=some (.int .i64 o.off)/\W.cell? ⟨w.heap.size,12,none⟩=some (.string o.data)):
  Held w [(w.heap.size,(.cells (opA o) 37 (0,0)))] W'/\W'.cell? ⟨w.heap.size,0,none⟩=some (.int .i64 o.st)/\W'.cell? ⟨w.heap.size,1,none⟩=some (.int .i64 o.sr)/\W'.cell? ⟨w.heap.size,2,none⟩=some (.int .i64 o.k)/\W'.cell? ⟨w.heap.size,3,none⟩=some (.int .i64 o.pt)/\W'.cell? ⟨w.heap.size,4,none⟩=some (.int .i64 o.pr)/\W'.cell? ⟨w.heap.size,5,none⟩=some (.int .i64 o.it)/\W'.cell? ⟨w.heap.size,6,none⟩=some (.int .i64 o.ir)/\W'.cell? ⟨w.heap.size,7,none⟩=some (.int .i64 o.tt)/\W'.cell? ⟨w.heap.size,8,none⟩=some (.int .i64 o.tr)/\W'.cell? ⟨w.heap.size,9,none⟩=some (.string o.name)/\W'.cell? ⟨w.heap.size,10,none⟩=some (.string o.new)/\W'.cell? ⟨w.heap.size,11,none⟩=some (.int .i64 o.off)/\W'.cell? ⟨w.heap.size,12,none⟩=some (.string o.data):=
 ⟨h.1.step hb,op_cells ((h.1.step hb).at 0 rfl)⟩
theorem nil_fn(W:World):(zeroValue 165).run Tryz.prog W=.ok .nilFunc W:=by kernel_rfl
set_option maxRecDepth 100000 in
set_option maxHeartbeats 1600000 in
theorem whyGood(H:GraphHave)(a:Addr)(S:Nat->Prop)(g:Gr)(o:Opn)(w:World)[Tab w](h:H.rep w S a g)(hg:g.ok)(hm:mayO o=true)(hf:OpFit o):
    Calls Tryz.prog 87 #[.pointer (some a),.agg (opA o)] w fun e w'=>e=.returned (.int .i64 (whyA g o))/\Below w.heap.size w w':=by
  obtain⟨f,hf0,hf1,hf2⟩:=ask_code H a S g o hg hm hf;have HA:Hid (∀W:World,Below w.heap.size w W->Calls Tryz.prog f #[.agg #[.pointer (some a),.int .i64 o.st,.int .i64 o.sr,.int .i64 o.k,.int .i64 o.pt,.int .i64 o.pr,.int .i64 o.it,.int .i64 o.ir,.int .i64 o.tt,.int .i64 o.tr,.string o.name,.string o.new,.int .i64 o.off,.string o.data]] W fun e w'=>e=.returned (.int .i64 (whyA g o))/\Below W.heap.size W w'):=Lib.hid fun W hW=>hf2 W (rep_below h hW);have HM:Hid (∀(W:World)[Tab W],Calls Tryz.prog 60 #[.agg #[.int .i64 o.st,.int .i64 o.sr,.int .i64 o.k,.int .i64 o.pt,.int .i64 o.pr,.int .i64 o.it,.int .i64 o.ir,.int .i64 o.tt,.int .i64 o.tr,.string o.name,.string o.new,.int .i64 o.off,.string o.data]] W fun e w'=>e=.returned (.bool true)/\Below W.heap.size W w'):=Lib.hid fun W _=>by rw[<-hm];exact opMay_any o W hf.ok hf.name hf.new hf.data
  have HL:=Lib.hid hf1;generalize whyA g o=r at HA ⊢;have hS0:Held w [(w.heap.size,.cells (opA o) 37 (0,0))] (w.alloc (.cells (opA o) 37)):=(Held.refl w).alloc (.cells (opA o) 37) rfl;have i0:Tab (w.alloc (.cells (opA o) 37)):=inferInstance;clear hf1 hf2 h hg hm hf;unfold opA
  go_enter Tryz.func87,Tryz.ntmps87
  go_upto_region 1 with fail
  change Code.wp _ _ _ _ (w.alloc (.cells (opA o) 37));generalize w.alloc (.cells (opA o) 37)=w0 at hS0 i0 ⊢;obtain⟨e0,e1,e2,e3,e4,e5,e6,e7,e8,e9,e10,e11,e12⟩:=op_cells (o:=o) (g:=w.heap.size) (hS0.at 0 rfl)
  go_wp2_with fail
  refine(HM.out _).mono ?_;rintro e w1 ⟨rfl,hb1⟩;have hS1:=hS0.step hb1;clear hS0 hb1 e0 e1 e2 e3 e4 e5 e6 e7 e8 e9 e10 e11 e12 HM i0
  go_upto_region 3 with fail
  have hS2:=And.intro (hS1.drew) (op_cells (hS1.drew.at 0 rfl));have hS3:=And.intro hS1 (op_cells (hS1.at 0 rfl));rcases hf0 with rfl|rfl|rfl|rfl|rfl|rfl|rfl
  all_goals
    go_region_held3 (fun W=>Held w [(w.heap.size,(.cells (opA o) 37 (0,0)))] W/\W.cell? ⟨w.heap.size,0,none⟩=some (.int .i64 o.st)/\W.cell? ⟨w.heap.size,1,none⟩=some (.int .i64 o.sr)/\W.cell? ⟨w.heap.size,2,none⟩=some (.int .i64 o.k)/\W.cell? ⟨w.heap.size,3,none⟩=some (.int .i64 o.pt)/\W.cell? ⟨w.heap.size,4,none⟩=some (.int .i64 o.pr)/\W.cell? ⟨w.heap.size,5,none⟩=some (.int .i64 o.it)/\W.cell? ⟨w.heap.size,6,none⟩=some (.int .i64 o.ir)/\W.cell? ⟨w.heap.size,7,none⟩=some (.int .i64 o.tt)/\W.cell? ⟨w.heap.size,8,none⟩=some (.int .i64 o.tr)/\W.cell? ⟨w.heap.size,9,none⟩=some (.string o.name)/\W.cell? ⟨w.heap.size,10,none⟩=some (.string o.new)/\W.cell? ⟨w.heap.size,11,none⟩=some (.int .i64 o.off)/\W.cell? ⟨w.heap.size,12,none⟩=some (.string o.data)) (with_reducible assumption)
      (first
        |(go_at_call 119;(with_reducible refine(reasons_code _).mono ?_);rintro e w2 ⟨b,rfl,hK,hb2⟩;have hS4:=ops_call hb2 (by assumption);have hl:=(hK.look inShape Tryz.underlying166 (nil_fn w2) o.k false);rw[HL.out,if_neg (by decide)] at hl;have hl:(Instr.lookup 166 (.map (some b)) (.int .i64 o.k) false).run Tryz.prog w2=.ok (.func (.func _) #[] #[]) w2:=hl)
        |(go_at_call 156;(with_reducible refine(HA.out _ ?_).mono ?_);exact hS4.1.below;rintro e w3 ⟨rfl,hb3⟩;have hS5:=ops_call hb3 (by assumption))
        |(go_at_call 157;(with_reducible refine(HA.out _ ?_).mono ?_);exact hS4.1.below;rintro e w3 ⟨rfl,hb3⟩;have hS5:=ops_call hb3 (by assumption))
        |(go_at_call 158;(with_reducible refine(HA.out _ ?_).mono ?_);exact hS4.1.below;rintro e w3 ⟨rfl,hb3⟩;have hS5:=ops_call hb3 (by assumption))
        |(go_at_call 159;(with_reducible refine(HA.out _ ?_).mono ?_);exact hS4.1.below;rintro e w3 ⟨rfl,hb3⟩;have hS5:=ops_call hb3 (by assumption))
        |(go_at_call 160;(with_reducible refine(HA.out _ ?_).mono ?_);exact hS4.1.below;rintro e w3 ⟨rfl,hb3⟩;have hS5:=ops_call hb3 (by assumption))
        |(go_at_call 161;(with_reducible refine(HA.out _ ?_).mono ?_);exact hS4.1.below;rintro e w3 ⟨rfl,hb3⟩;have hS5:=ops_call hb3 (by assumption))
        |(go_at_call 162;(with_reducible refine(HA.out _ ?_).mono ?_);exact hS4.1.below;rintro e w3 ⟨rfl,hb3⟩;have hS5:=ops_call hb3 (by assumption)))
    have hB:=hS5.1.below;clear hS1 hS2 hS3 hS4 hl
    go_wp2_with fail
    go_ret
    exact⟨rfl,hB⟩
structure DX (H:GraphHave) (w W0 W:World) (N:Nat->Prop) (a:Addr) (g:Gr) (L:List (Nat×Obj)):Prop where
 gx:GX H w W (fun i=>N i\/∃p∈L,p.1=i) a g
 blocks:∀p∈L,W.heap[p.1]?=some p.2
 new:∀p∈L,W0.heap.size<=p.1
 same:Same N W0 W
 low:∀i,N i->i<W0.heap.size
 old:w.heap.size<=W0.heap.size
section
variable {H:GraphHave}{w W0 W W':World}{N:Nat->Prop}{a:Addr}{g g':Gr}{L:List (Nat×Obj)}
theorem Same.trans{X Y Z:World}(h:Same N X Y)(k:Same N Y Z):Same N X Z:=⟨Nat.le_trans h.1 k.1,fun i hi=>(k.2 i hi).trans (h.2 i hi)⟩
theorem DX.start(h:GX H w W N a g):DX H w W W N a g []:=
 ⟨h.less fun _ hi=>hi.elim id (fun⟨_,hp,_⟩=>(nomatch hp)),(fun _ hp=>(nomatch hp)),(fun _ hp=>(nomatch hp)),⟨Nat.le_refl _,fun _ _=>rfl⟩,h.lt,h.below.size⟩
theorem DX.at(h:DX H w W0 W N a g L)(i:Nat){p:Nat×Obj}(hp:L[i]?=some p):W.heap[p.1]?=some p.2:=h.blocks p (List.mem_of_getElem? hp)
theorem DX.ok(h:DX H w W0 W N a g L):g.ok:=h.gx.ok
theorem DX.step(h:DX H w W0 W N a g L)(hb:Below W.heap.size W W'):DX H w W0 W' N a g L:=
 ⟨h.gx.step hb,fun p hp=>(hb.block _ (heap_lt (h.blocks p hp))).trans (h.blocks p hp),h.new,h.same.trans ⟨hb.size,fun i hi=>hb.block i (h.gx.lt i (Or.inl hi))⟩,h.low,h.old⟩
theorem DX.alloc(h:DX H w W0 W N a g L)(o:Obj){u:Nat}(hu:W.heap.size=u):DX H w W0 (W.alloc o) N a g ((u,o)::L):=by
 have hb:Below W.heap.size W (W.alloc o):=(Below.refl _ W).alloc (Nat.le_refl _) o;refine⟨(h.gx.grow hb).less fun i hi=>?_,fun p hp=>?_,fun p hp=>?_,(h.step hb).same,h.low,h.old⟩
 ·rcases hi with hi|⟨p,hp,rfl⟩
  ·exact Or.inl (Or.inl hi)
  ·rcases List.mem_cons.1 hp with rfl|hp
   ·exact Or.inr ⟨by dsimp only;omega,by dsimp only;simp;omega⟩
   ·exact Or.inl (Or.inr ⟨p,hp,rfl⟩)
 ·rcases List.mem_cons.1 hp with rfl|hp
  ·subst hu;exact heap_alloc_new W o
  ·exact(h.step hb).blocks p hp
 ·rcases List.mem_cons.1 hp with rfl|hp
  ·have:=h.same.1;dsimp only;omega
  ·exact h.new p hp
theorem DX.call(h:DX H w W0 W N a g L)(k:GX H w W' (fun i=>N i\/∃p∈L,p.1=i) a g'/\Same (fun i=>N i\/∃p∈L,p.1=i) W W'):DX H w W0 W' N a g' L:=
 ⟨k.1,fun p hp=>(k.2.2 p.1 (Or.inr ⟨p,hp,rfl⟩)).trans (h.blocks p hp),h.new,h.same.trans ⟨k.2.1,fun i hi=>k.2.2 i (Or.inl hi)⟩,h.low,h.old⟩
theorem DX.fin(h:DX H w W0 W N a g L):GX H w W N a g/\Same N W0 W:=⟨h.gx.less fun _ hi=>Or.inl hi,h.same⟩
theorem DX.tail{p:Nat×Obj}(h:DX H w W0 W N a g (p::L)):DX H w W0 W N a g L:=
 ⟨h.gx.less fun _ hi=>hi.elim Or.inl fun⟨q,hq,e⟩=>Or.inr ⟨q,List.mem_cons_of_mem _ hq,e⟩,fun q hq=>h.blocks q (List.mem_cons_of_mem _ hq),fun q hq=>h.new q (List.mem_cons_of_mem _ hq),h.same,h.low,h.old⟩
theorem DX.put{u:Nat}{o o':Obj}(h:DX H w W0 W N a g ((u,o)::L))(hL:∀p∈L,p.1≠u)(hb:But (fun i=>i=u) W W')(ho:W'.heap[u]?=some o'):DX H w W0 W' N a g ((u,o')::L):=by
 have hu:W0.heap.size<=u:=h.new _ (List.mem_cons_self ..);refine⟨(h.gx.put hb fun i hi=>⟨Or.inr ⟨_,List.mem_cons_self ..,hi.symm⟩,?_⟩).less fun i hi=>?_,fun p hp=>?_,fun p hp=>?_,h.same.trans ⟨hb.size,fun i hi=>hb.block i (h.gx.lt i (Or.inl hi)) fun e=>?_⟩,h.low,h.old⟩
 ·have:=h.old;omega
 ·rcases hi with hi|⟨p,hp,e⟩
  ·exact Or.inl hi
  ·rcases List.mem_cons.1 hp with rfl|hp
   ·exact Or.inr ⟨(u,o),List.mem_cons_self ..,e⟩
   ·exact Or.inr ⟨p,List.mem_cons_of_mem _ hp,e⟩
 ·rcases List.mem_cons.1 hp with rfl|hp
  ·exact ho
  ·exact(hb.block _ (heap_lt (h.blocks p (List.mem_cons_of_mem _ hp))) (hL p hp)).trans (h.blocks p (List.mem_cons_of_mem _ hp))
 ·rcases List.mem_cons.1 hp with rfl|hp
  ·exact hu
  ·exact h.new p (List.mem_cons_of_mem _ hp)
 ·have:=h.low i hi;omega
theorem DX.get(h:DX H w W0 W N a g L)(id:St):
  Calls Tryz.prog 67 #[.pointer (some a),.agg #[.int .i64 id.1,.int .i64 id.2]] W fun e w'=>e=.returned (.tuple #[.agg (inoA ((getG g id).getD noIno)),.bool (getG g id).isSome])/\DX H w W0 w' N a g L:=
 (h.gx.get id).mono fun _ _ ⟨he,_,hb⟩=>⟨he,h.step hb⟩
theorem DX.make(h:DX H w W0 W N a g L)(id:St)(kind:Int):
  Calls Tryz.prog 32 #[.pointer (some a),.agg #[.int .i64 id.1,.int .i64 id.2],.int .i64 kind] W fun e w'=>e=.returned (.int .i64 (makeG g id kind).2)/\DX H w W0 w' N a (makeG g id kind).1 L:=
 (h.gx.make id kind).mono fun _ _ ⟨he,k⟩=>⟨he,h.call k⟩
theorem DX.set(h:DX H w W0 W N a g L)(id:St)(mode:Int)(data:ByteArray):
  Calls Tryz.prog 109 #[.pointer (some a),.agg #[.int .i64 id.1,.int .i64 id.2],.int .i64 mode,.string data] W fun e w'=>e=.returned (.int .i64 (setG g id mode data).2)/\DX H w W0 w' N a (setG g id mode data).1 L:=by
 obtain⟨⟨S,h1,h2,h3⟩,h4,h5,h6⟩:=h.gx;refine(H.set a S g id mode data W h1 h4).mono ?_;rintro e w' ⟨S',he,k1,k2,k3⟩;exact⟨he,h.call (GX.mut h2 h3 h5 h6 k1 k2 k3 (h4.set id mode data))⟩
theorem DX.tie(h:DX H w W0 W N a g L)(d:St)(nm:ByteArray)(i:St)(hn:nm.size<=maxLen):
  Calls Tryz.prog 110 #[.pointer (some a),.agg #[.int .i64 d.1,.int .i64 d.2,.string nm,.int .i64 i.1,.int .i64 i.2]] W fun e w'=>e=.returned (.int .i64 (tieG (nameB nm) g ⟨d,nm,i⟩).2)/\DX H w W0 w' N a (tieG (nameB nm) g ⟨d,nm,i⟩).1 L:=
 (h.gx.tie ⟨d,nm,i⟩ hn).mono fun _ _ ⟨he,k⟩=>⟨he,h.call k⟩
theorem DX.untie(h:DX H w W0 W N a g L)(d:St)(nm:ByteArray)(hn:nm.size<=maxLen):
  Calls Tryz.prog 107 #[.pointer (some a),.agg #[.int .i64 d.1,.int .i64 d.2],.string nm] W fun e w'=>e=.returned (.tuple #[.agg #[.int .i64 (untieG g d nm).2.1.1,.int .i64 (untieG g d nm).2.1.2],.int .i64 (untieG g d nm).2.2])/\DX H w W0 w' N a (untieG g d nm).1 L:=
 (h.gx.untie d nm hn).mono fun _ _ ⟨he,k⟩=>⟨he,h.call k⟩
theorem DX.drop(h:DX H w W0 W N a g L)(id:St):
  Calls Tryz.prog 108 #[.pointer (some a),.agg #[.int .i64 id.1,.int .i64 id.2]] W fun e w'=>e=.returned (.int .i64 (dropG g id).2)/\DX H w W0 w' N a (dropG g id).1 L:=
 (h.gx.drop id).mono fun _ _ ⟨he,k⟩=>⟨he,h.call k⟩
end
def Did(H:GraphHave)(w W0:World)(N:Nat->Prop)(a:Addr)(g:Gr)(e:Ending)(w':World):Prop:=e=.returned (.tuple #[])/\GX H w w' N a g/\Same N W0 w'
end Go.Proofs.YtnnnkaobhkeocaaGreatDoor
namespace Go.Proofs.YtnnnkaobhkeocaaGreatDoor
open Go.RowKit OpMath StampMath PackMath
theorem makes_any(o:Opn)(w:World):
  Calls Tryz.prog 163 #[.agg #[.int .i64 o.st,.int .i64 o.sr,.int .i64 o.k,.int .i64 o.pt,.int .i64 o.pr,.int .i64 o.it,.int .i64 o.ir,.int .i64 o.tt,.int .i64 o.tr,.string o.name,.string o.new,.int .i64 o.off,.string o.data]] w fun e w'=>e=.returned (.int .i64 (makesO o))/\Below w.heap.size w w':=by
 have hcase:((o.k==1)=true/\makesO o=1)\/((o.k==1)=false/\(o.k==2)=true/\makesO o=2)\/((o.k==1)=false/\(o.k==2)=false/\(o.k==3)=true/\makesO o=3)\/((o.k==1)=false/\(o.k==2)=false/\(o.k==3)=false/\makesO o=0):=by
  unfold makesO;by_cases h1:o.k=1
  ·exact Or.inl ⟨by simp[h1],by rw[if_pos (by omega),h1]⟩
  ·by_cases h2:o.k=2
   ·exact Or.inr (Or.inl ⟨by simp[h1],by simp[h2],by rw[if_pos (by omega),h2]⟩)
   ·by_cases h3:o.k=3
    ·exact Or.inr (Or.inr (Or.inl ⟨by simp[h1],by simp[h2],by simp[h3],by rw[if_pos (by omega),h3]⟩))
    ·exact Or.inr (Or.inr (Or.inr ⟨by simp[h1],by simp[h2],by simp[h3],by rw[if_neg (by omega)]⟩))
 rcases hcase with ⟨h1,h⟩|⟨h1,h2,h⟩|⟨h1,h2,h3,h⟩|⟨h1,h2,h3,h⟩
 all_goals
  rw[h];clear h
  go_enter Tryz.func163,Tryz.ntmps163
  go_wp2_with fail
  go_ret
  exact⟨rfl,(Below.refl _ _).alloc (Nat.le_refl _) _⟩
end Go.Proofs.YtnnnkaobhkeocaaGreatDoor
namespace Go.Proofs.YtnnnkaobhkeocaaGreatDoor
open Go.RowKit StampMath GraphMath OpMath PackMath
theorem deed_s{W0 W:World}{a:Addr}{o:Opn}(h:W.heap[W0.heap.size]?=some (.cells (deedA a o) 133 (0,0))):W.heap[W0.heap.size]?=some (.cells (deedA a o) 133 (0,0))/\W.cell? ⟨W0.heap.size,0,none⟩=some (.pointer (some a))/\W.cell? ⟨W0.heap.size,1,none⟩=some (.int .i64 o.st)/\W.cell? ⟨W0.heap.size,2,none⟩=some (.int .i64 o.sr)/\W.cell? ⟨W0.heap.size,3,none⟩=some (.int .i64 o.k)/\W.cell? ⟨W0.heap.size,4,none⟩=some (.int .i64 o.pt)/\W.cell? ⟨W0.heap.size,5,none⟩=some (.int .i64 o.pr)/\W.cell? ⟨W0.heap.size,6,none⟩=some (.int .i64 o.it)/\W.cell? ⟨W0.heap.size,7,none⟩=some (.int .i64 o.ir)/\W.cell? ⟨W0.heap.size,8,none⟩=some (.int .i64 o.tt)/\W.cell? ⟨W0.heap.size,9,none⟩=some (.int .i64 o.tr)/\W.cell? ⟨W0.heap.size,10,none⟩=some (.string o.name)/\W.cell? ⟨W0.heap.size,11,none⟩=some (.string o.new)/\W.cell? ⟨W0.heap.size,12,none⟩=some (.int .i64 o.off)/\W.cell? ⟨W0.heap.size,13,none⟩=some (.string o.data):=⟨h,deed_cells h⟩
set_option maxRecDepth 100000 in
set_option maxHeartbeats 1600000 in
theorem add_code(H:GraphHave)(w W0:World)(N:Nat->Prop)(a:Addr)(g:Gr)(o:Opn)(h:GX H w W0 N a g)(hn:o.name.size<=maxLen)(hk:1<=o.k)(hk3:o.k<=3):
    Calls Tryz.prog 120 #[.agg (deedA a o)] W0 (Did H w W0 N a (madeA g o)):=by
  have HM:Hid (∀W:World,Calls Tryz.prog 163 #[.agg #[.int .i64 o.st,.int .i64 o.sr,.int .i64 o.k,.int .i64 o.pt,.int .i64 o.pr,.int .i64 o.it,.int .i64 o.ir,.int .i64 o.tt,.int .i64 o.tr,.string o.name,.string o.new,.int .i64 o.off,.string o.data]] W fun e w'=>e=.returned (.int .i64 (makesO o))/\Below W.heap.size W w'):=Lib.hid (makes_any o);have HE:=Lib.hid (add_made (g:=g) hk hk3);have hD0:=(DX.start h).alloc (.cells (deedA a o) 133) rfl;generalize madeA g o=gr at HE ⊢;generalize makesO o=mk at HM HE;clear h hk hk3;unfold Did
  go_enter Tryz.func120,Tryz.ntmps120
  go_upto_region 1 with fail
  change Code.wp _ _ _ _ (W0.alloc (.cells (deedA a o) 133));generalize W0.alloc (.cells (deedA a o) 133)=w0 at hD0 ⊢;have hDd:=hD0.step ((Below.refl w0.heap.size w0).drew);have hS0:=deed_s (hD0.at 0 rfl);have hSd:=deed_s (hDd.at 0 rfl)
  go_region_held3 (fun W=>W.heap[W0.heap.size]?=some (.cells (deedA a o) 133 (0,0))/\W.cell? ⟨W0.heap.size,0,none⟩=some (.pointer (some a))/\W.cell? ⟨W0.heap.size,1,none⟩=some (.int .i64 o.st)/\W.cell? ⟨W0.heap.size,2,none⟩=some (.int .i64 o.sr)/\W.cell? ⟨W0.heap.size,3,none⟩=some (.int .i64 o.k)/\W.cell? ⟨W0.heap.size,4,none⟩=some (.int .i64 o.pt)/\W.cell? ⟨W0.heap.size,5,none⟩=some (.int .i64 o.pr)/\W.cell? ⟨W0.heap.size,6,none⟩=some (.int .i64 o.it)/\W.cell? ⟨W0.heap.size,7,none⟩=some (.int .i64 o.ir)/\W.cell? ⟨W0.heap.size,8,none⟩=some (.int .i64 o.tt)/\W.cell? ⟨W0.heap.size,9,none⟩=some (.int .i64 o.tr)/\W.cell? ⟨W0.heap.size,10,none⟩=some (.string o.name)/\W.cell? ⟨W0.heap.size,11,none⟩=some (.string o.new)/\W.cell? ⟨W0.heap.size,12,none⟩=some (.int .i64 o.off)/\W.cell? ⟨W0.heap.size,13,none⟩=some (.string o.data)) (with_reducible assumption)
    (first
      |(go_at_call 163;(with_reducible refine(HM.out _).mono ?_);rintro e w1 ⟨rfl,hb1⟩;have hD1:=hDd.step hb1;have hS1:=deed_s (hD1.at 0 rfl))
      |(go_at_call 32;(with_reducible refine(hD1.make (o.st,o.sr) mk).mono ?_);rintro e w2 ⟨rfl,hD2⟩;have hS2:=deed_s (hD2.at 0 rfl)))
  obtain⟨d0,d1,d2,d3,d4,d5,d6,d7,d8,d9,d10,d11,d12,d13⟩:=deed_cells (g:=W0.heap.size) (hD2.at 0 rfl);clear hS0 hSd hS1 hS2 hD0 hDd hD1 hb1
  go_wp2_with fail
  refine(hD2.set (o.st,o.sr) 0 o.data).mono ?_;rintro e w3 ⟨rfl,hD3⟩;clear d0 d1 d2 d3 d4 d5 d6 d7 d8 d9 d10 d11 d12 d13 hD2;obtain⟨d0,d1,d2,d3,d4,d5,d6,d7,d8,d9,d10,d11,d12,d13⟩:=deed_cells (g:=W0.heap.size) (hD3.at 0 rfl)
  go_wp2_with fail
  refine(hD3.tie (o.pt,o.pr) o.name (o.st,o.sr) hn).mono ?_;rintro e w4 ⟨rfl,hD4⟩
  go_wp2_with fail
  exact bodyPost_end (results_none rfl _ _ _) rfl ⟨rfl,by rw[HE.out];exact hD4.fin⟩
set_option maxRecDepth 100000 in
set_option maxHeartbeats 1600000 in
theorem remove_code(H:GraphHave)(w W0:World)(N:Nat->Prop)(a:Addr)(g:Gr)(o:Opn)(d:St)(nm:ByteArray)(h:GX H w W0 N a g)(hn:nm.size<=maxLen):
  Calls Tryz.prog 121 #[.agg (deedA a o),.agg (stA d),.string nm] W0 (Did H w W0 N a (goneG g d nm)):=by
 have HE:=Lib.hid (gone_drop h.ok d nm);have hD0:=((DX.start h).alloc (.cells (deedA a o) 133) rfl).alloc (.cells (stA d) 24) (u:=W0.heap.size+1) (by simp);generalize goneG g d nm=gr at HE ⊢;clear h;unfold Did
 go_enter Tryz.func121,Tryz.ntmps121
 go_upto_region 1 with fail
 change Code.wp _ _ _ _ ((W0.alloc (.cells (deedA a o) 133)).alloc (.cells (stA d) 24));generalize (W0.alloc (.cells (deedA a o) 133)).alloc (.cells (stA d) 24)=w0 at hD0 ⊢;obtain⟨d0,d1,d2,d3,d4,d5,d6,d7,d8,d9,d10,d11,d12,d13⟩:=deed_cells (g:=W0.heap.size) (hD0.at 1 rfl);obtain⟨s0,s1⟩:=two_cells (g:=W0.heap.size+1) (hD0.at 0 rfl)
 go_wp2_with fail
 refine(hD0.untie d nm hn).mono ?_;rintro e w1 ⟨rfl,hD1⟩;clear d0 d1 d2 d3 d4 d5 d6 d7 d8 d9 d10 d11 d12 d13 s0 s1 hD0;generalize (untieG g d nm).2.2=er;generalize (untieG g d nm).2.1=t at HE ⊢
 go_upto_region 2 with fail
 obtain⟨u,hu⟩:∃u,u=w1.heap.size:=⟨_,rfl⟩;have hD2:=hD1.alloc (.cells (stA t) 24) hu.symm;change Code.wp _ _ _ _ (w1.alloc (.cells (stA t) 24));rw[<-hu];generalize w1.alloc (.cells (stA t) 24)=w2 at hD2 ⊢;clear hD1 hu;obtain⟨d0,d1,d2,d3,d4,d5,d6,d7,d8,d9,d10,d11,d12,d13⟩:=deed_cells (g:=W0.heap.size) (hD2.at 2 rfl);obtain⟨s0,s1⟩:=two_cells (g:=u) (hD2.at 0 rfl)
 go_wp2_with fail
 refine(hD2.drop t).mono ?_;rintro e w3 ⟨rfl,hD3⟩
 go_wp2_with fail
 exact bodyPost_end (results_none rfl _ _ _) rfl ⟨rfl,by rw[<-HE.out];exact hD3.fin⟩
end Go.Proofs.YtnnnkaobhkeocaaGreatDoor
