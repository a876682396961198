/-
 The walk of the document's own May (operations).
-/
import Derived.Test.YtnnnkaobhkeocaaGreatDoorZ00
import Derived.Test.YtnnnkaobhkeocaaGreatDoorZX02
import Derived.Test.YtnnnkaobhkeocaaGreatDoorZX02
import Derived.Test.YtnnnkaobhkeocaaGreatDoorZ06
import Derived.Test.YtnnnkaobhkeocaaGreatDoorZX02
import Derived.Test.YtnnnkaobhkeocaaGreatDoorZ01
import Derived.Deep.DeepCutAuto
import Derived.Laws.StructEq
import Derived.Test.YtnnnkaobhkeocaaGreatDoorRows
namespace Go.Proofs.YtnnnkaobhkeocaaGreatDoor
open Go.RowKit OpMath StampMath PackMath
set_option maxRecDepth 100000 in
set_option maxHeartbeats 3200000 in
theorem mayCore(o p:Opn)(hds:o.data.size<=9223372036854775807)(w:World)(same:Bool)(hs:same=true->p=o)(m0 m1 m2 m3 b1 b2 hz:Bool)(r:Bool)
  (hr:r=(decide (1<=o.k)&&decide (o.k<=10)&&same&& !(o.st==0)&&m0&&(m1&&m2&&m3&&(decide (7<o.k)||b1)&&(!(o.k==7)||b2))&&dataB o))(hhz:hz=hasB o.data 0)
  (EQ:Hid (∀W:World,(Op.equalIn 10000 37 (.agg #[.int .i64 p.st,.int .i64 p.sr,.int .i64 p.k,.int .i64 p.pt,.int .i64 p.pr,.int .i64 p.it,.int .i64 p.ir,.int .i64 p.tt,.int .i64 p.tr,.string p.name,.string p.new,.int .i64 p.off,.string p.data]) (.agg #[.int .i64 o.st,.int .i64 o.sr,.int .i64 o.k,.int .i64 o.pt,.int .i64 o.pr,.int .i64 o.it,.int .i64 o.ir,.int .i64 o.tt,.int .i64 o.tr,.string o.name,.string o.new,.int .i64 o.off,.string o.data])).run Tryz.prog W=.ok same W))
  (B:Hid (∀W:World,Calls Tryz.prog 112 #[.agg #[.int .i64 o.st,.int .i64 o.sr,.int .i64 o.k,.int .i64 o.pt,.int .i64 o.pr,.int .i64 o.it,.int .i64 o.ir,.int .i64 o.tt,.int .i64 o.tr,.string o.name,.string o.new,.int .i64 o.off,.string o.data]] W fun e w'=>e=.returned (.agg #[.int .i64 p.st,.int .i64 p.sr,.int .i64 p.k,.int .i64 p.pt,.int .i64 p.pr,.int .i64 p.it,.int .i64 p.ir,.int .i64 p.tt,.int .i64 p.tr,.string p.name,.string p.new,.int .i64 p.off,.string p.data])/\Below W.heap.size W w'))
  (M0:Hid (∀W:World,Calls Tryz.prog 41 #[.agg #[.int .i64 o.st,.int .i64 o.sr]] W fun e w'=>e=.returned (.bool m0)/\Below W.heap.size W w'))
  (M1:Hid (∀W:World,Calls Tryz.prog 41 #[.agg #[.int .i64 o.pt,.int .i64 o.pr]] W fun e w'=>e=.returned (.bool m1)/\Below W.heap.size W w'))
  (M2:Hid (∀W:World,Calls Tryz.prog 41 #[.agg #[.int .i64 o.it,.int .i64 o.ir]] W fun e w'=>e=.returned (.bool m2)/\Below W.heap.size W w'))
  (M3:Hid (∀W:World,Calls Tryz.prog 41 #[.agg #[.int .i64 o.tt,.int .i64 o.tr]] W fun e w'=>e=.returned (.bool m3)/\Below W.heap.size W w'))
  (N1:Hid (∀W:World,Calls Tryz.prog 113 #[.string o.name] W fun e w'=>e=.returned (.bool b1)/\Below W.heap.size W w'))
  (N2:Hid (∀W:World,Calls Tryz.prog 113 #[.string o.new] W fun e w'=>e=.returned (.bool b2)/\Below W.heap.size W w'))
  (Z:Hid (∀W:World,Calls Tryz.prog 114 #[.string o.data,.int .u8 0] W fun e w'=>e=.returned (.bool hz)/\Below W.heap.size W w')):
  Calls Tryz.prog 79 #[.agg #[.int .i64 o.st,.int .i64 o.sr,.int .i64 o.k,.int .i64 o.pt,.int .i64 o.pr,.int .i64 o.it,.int .i64 o.ir,.int .i64 o.tt,.int .i64 o.tr,.string o.name,.string o.new,.int .i64 o.off,.string o.data]] w fun e w'=>e=.returned (.bool r)/\Below w.heap.size w w':=by
 have HR:=Lib.hid hr;have HZ:=Lib.hid hhz;have HS:=Lib.hid hs;clear hr hhz hs
 go_enter Tryz.func79,Tryz.ntmps79
 go_upto_region 1 with fail
 have hh0:(w.alloc (.cells (opA o) 37)).heap[w.heap.size]?=some (.cells (opA o) 37 (0,0)):=heap_alloc_new w _;have hB0:Below w.heap.size w (w.alloc (.cells (opA o) 37)):=(Below.refl _ _).alloc (Nat.le_refl _) _;change Code.wp _ _ _ _ (w.alloc (.cells (opA o) 37));generalize w.alloc (.cells (opA o) 37)=w0 at hh0 hB0 ⊢;obtain⟨l0,l1,l2,l3,l4,l5,l6,l7,l8,l9,l10,l11,l12⟩:=op_cells hh0;have q0:=later_cell l0;have q1:=later_cell l1;have q2:=later_cell l2;have q3:=later_cell l3;have q4:=later_cell l4;have q5:=later_cell l5;have q6:=later_cell l6;have q7:=later_cell l7;have q8:=later_cell l8;have q9:=later_cell l9;have q10:=later_cell l10;have q11:=later_cell l11;have q12:=later_cell l12;clear l0 l1 l2 l3 l4 l5 l6 l7 l8 l9 l10 l11 l12;by_cases k1:1<=o.k
 ·have d1:decide (o.k<1)=false:=by simp;omega
  have K1:=Lib.hid (show decide (1<=o.k)=true by simp;omega);by_cases k2:o.k<=10
  ·have d2:decide (10<o.k)=false:=by simp;omega
   have K2:=Lib.hid (show decide (o.k<=10)=true by simp;omega);have E:=EQ.out
   cases same
   ·refine wp_region_later (by kernel_rfl) (by kernel_rfl) ?_
    repeat(go_big_quiet_step (first|(with_reducible exact later_call (B.out _))|(with_reducible exact later_call (M0.out _))))
    refine wpQuiet_nil ?_;intro _ hw';obtain⟨y1,rfl⟩:=hw'
    go_wp2_with fail
    go_ret
    exact⟨by rw[HR.out];simp,below_step hB0 (later_below w0 y1)⟩
   ·obtain rfl:p=o:=HS.out rfl;clear k1 k2;by_cases hst:p.st=0
    ·have d3:(p.st==0)=true:=by simp[hst]
     have D3:=Lib.hid d3;clear hst;refine wp_region_later (by kernel_rfl) (by kernel_rfl) ?_
     repeat(go_big_quiet_step (first|(with_reducible exact later_call (B.out _))|(with_reducible exact later_call (M0.out _))))
     refine wpQuiet_nil ?_;intro _ hw';obtain⟨y1,rfl⟩:=hw'
     go_wp2_with fail
     go_ret
     exact⟨by rw[HR.out,D3.out];simp,below_step hB0 (later_below w0 y1)⟩
    ·have d3:(p.st==0)=false:=by simp[hst]
     have D3:=Lib.hid d3;clear hst
     cases m0
     ·refine wp_region_later (by kernel_rfl) (by kernel_rfl) ?_
      repeat(go_big_quiet_step (first|(with_reducible exact later_call (B.out _))|(with_reducible exact later_call (M0.out _))))
      refine wpQuiet_nil ?_;intro _ hw';obtain⟨y1,rfl⟩:=hw'
      go_wp2_with fail
      go_ret
      exact⟨by rw[HR.out];simp,below_step hB0 (later_below w0 y1)⟩
     ·refine wp_region_later (by kernel_rfl) (by kernel_rfl) ?_
      repeat(go_big_quiet_step (first|(with_reducible exact later_call (B.out _))|(with_reducible exact later_call (M0.out _))))
      refine wpQuiet_nil ?_;intro _ hw';obtain⟨y1,rfl⟩:=hw';clear E d1 d2 d3 q0 q1 q2 q3 q4 q5 q6 q7 q8 q9 q10 q11 q12;have hh1:(later w0 y1).heap[w.heap.size]?=some (.cells (opA p) 37 (0,0)):=((later_below w0 y1).block _ (heap_lt hh0)).trans hh0;have hB1:=below_step hB0 (later_below w0 y1);generalize later w0 y1=w1 at hh1 hB1 ⊢;clear hh0 hB0;have hc1:=op_cells hh1
      go_wp2_with fail
      refine(M1.out _).mono ?_;rintro e w2 ⟨rfl,hb2⟩;have hh2:=(hb2.block _ (heap_lt hh1)).trans hh1;have hB2:=below_step hB1 hb2;clear hc1 hb2 hh1 hB1;have hc2:=op_cells hh2
      cases m1
      ·go_wp2_with fail
       go_ret
       exact⟨by rw[HR.out];simp,hB2⟩
      ·go_wp2_with fail
       refine(M2.out _).mono ?_;rintro e w3 ⟨rfl,hb3⟩;have hh3:=(hb3.block _ (heap_lt hh2)).trans hh2;have hB3:=below_step hB2 hb3;clear hc2 hb3 hh2 hB2;have hc3:=op_cells hh3
       cases m2
       ·go_wp2_with fail
        go_ret
        exact⟨by rw[HR.out];simp,hB3⟩
       ·go_wp2_with fail
        refine(M3.out _).mono ?_;rintro e w4 ⟨rfl,hb4⟩;have hh4:=(hb4.block _ (heap_lt hh3)).trans hh3;have hB4:=below_step hB3 hb4;clear hc3 hb4 hh3 hB3;have hc4:=op_cells hh4
        cases m3
        ·go_wp2_with fail
         go_ret
         exact⟨by rw[HR.out];simp,hB4⟩
        ·by_cases h7:7<p.k
         ·have a1:decide (p.k<=7)=false:=by simp;omega
          have a2:(p.k==7)=false:=by simp;omega
          have A1:=Lib.hid (show decide (7<p.k)=true by simp;omega);have A2:=Lib.hid a2;have n3:(p.k==3)=false:=by simp;omega
          by_cases h8:p.k=8
          ·have n8:(p.k==8)=true:=by simp[h8]
           have DB:=Lib.hid (show dataB p=(decide (0<=p.off)&&decide (1<=p.data.size)&&decide (p.data.size<=64)&&decide (p.off<=64-(p.data.size:Int))) by unfold dataB;rw[if_neg (by omega),if_pos h8]);clear h7 h8;by_cases t0:0<=p.off
           ·have T0:=Lib.hid (show decide (0<=p.off)=true by simpa using t0);by_cases t1:1<=p.data.size
            ·have T1:=Lib.hid (show decide (1<=p.data.size)=true by simpa using t1);by_cases t2:p.data.size<=64
             ·have T2:=Lib.hid (show decide (p.data.size<=64)=true by simpa using t2);by_cases t3:p.off<=64-(p.data.size:Int)
              ·have T3:=Lib.hid (show decide (p.off<=64-(p.data.size:Int))=true by simpa using t3)
               go_wp2_with fail
               go_ret
               exact⟨by rw[HR.out,K1.out,K2.out,D3.out,A1.out,A2.out,DB.out,T0.out,T1.out,T2.out,T3.out];simp,hB4⟩
              ·have f3:decide (p.off<=64-(p.data.size:Int))=false:=by simp;omega
               have T3:=Lib.hid (show decide (p.off<=64-(p.data.size:Int))=false by simpa using t3);clear t3
               go_wp2_with fail
               go_ret
               exact⟨by rw[HR.out,K1.out,K2.out,D3.out,A1.out,A2.out,DB.out,T0.out,T1.out,T2.out,T3.out];simp,hB4⟩
             ·have f2:decide ((p.data.size:Int)<=64)=false:=by simp;omega
              have T2:=Lib.hid (show decide (p.data.size<=64)=false by simpa using t2);clear t2
              go_wp2_with fail
              go_ret
              exact⟨by rw[HR.out,K1.out,K2.out,D3.out,A1.out,A2.out,DB.out,T0.out,T1.out,T2.out];simp,hB4⟩
            ·have f1:decide (1<=(p.data.size:Int))=false:=by simp;omega
             have T1:=Lib.hid (show decide (1<=p.data.size)=false by simpa using t1);clear t1
             go_wp2_with fail
             go_ret
             exact⟨by rw[HR.out,K1.out,K2.out,D3.out,A1.out,A2.out,DB.out,T0.out,T1.out];simp,hB4⟩
           ·have f0:decide (0<=p.off)=false:=by simp;omega
            have T0:=Lib.hid (show decide (0<=p.off)=false by simpa using t0);clear t0
            go_wp2_with fail
            go_ret
            exact⟨by rw[HR.out,K1.out,K2.out,D3.out,A1.out,A2.out,DB.out,T0.out];simp,hB4⟩
          ·have n8:(p.k==8)=false:=by simp[h8]
           by_cases h9:p.k=9
           ·have n9:(p.k==9)=true:=by simp[h9]
            have DB:=Lib.hid (show dataB p=(decide (0<=p.off)&&decide (p.off<=64)) by unfold dataB;rw[if_neg (by omega),if_neg h8,if_pos h9]);clear h7 h8 h9;by_cases t0:0<=p.off
            ·have T0:=Lib.hid (show decide (0<=p.off)=true by simpa using t0);by_cases t1:p.off<=64
             ·have T1:=Lib.hid (show decide (p.off<=64)=true by simpa using t1)
              go_wp2_with fail
              go_ret
              exact⟨by rw[HR.out,K1.out,K2.out,D3.out,A1.out,A2.out,DB.out,T0.out,T1.out];simp,hB4⟩
             ·have f1:decide (p.off<=64)=false:=by simp;omega
              have T1:=Lib.hid f1;clear t1
              go_wp2_with fail
              go_ret
              exact⟨by rw[HR.out,K1.out,K2.out,D3.out,A1.out,A2.out,DB.out,T0.out,T1.out];simp,hB4⟩
            ·have f0:decide (0<=p.off)=false:=by simp;omega
             have T0:=Lib.hid f0;clear t0
             go_wp2_with fail
             go_ret
             exact⟨by rw[HR.out,K1.out,K2.out,D3.out,A1.out,A2.out,DB.out,T0.out];simp,hB4⟩
           ·have n9:(p.k==9)=false:=by simp[h9]
            have n10:(p.k==10)=true:=by have:=of_decide_eq_true K2.out;simp;omega
            have DB:=Lib.hid (show dataB p=(decide (0<=p.off)&&decide (p.off<=4095)) by unfold dataB;rw[if_neg (by omega),if_neg h8,if_neg h9,if_pos (by have:=of_decide_eq_true K2.out;omega)]);clear h7 h8 h9;by_cases t0:0<=p.off
            ·have T0:=Lib.hid (show decide (0<=p.off)=true by simpa using t0);by_cases t1:p.off<=4095
             ·have T1:=Lib.hid (show decide (p.off<=4095)=true by simpa using t1)
              go_wp2_with fail
              go_ret
              exact⟨by rw[HR.out,K1.out,K2.out,D3.out,A1.out,A2.out,DB.out,T0.out,T1.out];simp,hB4⟩
             ·have f1:decide (p.off<=4095)=false:=by simp;omega
              have T1:=Lib.hid f1;clear t1
              go_wp2_with fail
              go_ret
              exact⟨by rw[HR.out,K1.out,K2.out,D3.out,A1.out,A2.out,DB.out,T0.out,T1.out];simp,hB4⟩
            ·have f0:decide (0<=p.off)=false:=by simp;omega
             have T0:=Lib.hid f0;clear t0
             go_wp2_with fail
             go_ret
             exact⟨by rw[HR.out,K1.out,K2.out,D3.out,A1.out,A2.out,DB.out,T0.out];simp,hB4⟩
         ·have a1:decide (p.k<=7)=true:=by simp;omega
          have A1:=Lib.hid (show decide (7<p.k)=false by simp;omega);by_cases h6:p.k=7
          ·have a2:(p.k==7)=true:=by simp[h6]
           have A2:=Lib.hid a2;have n3:(p.k==3)=false:=by simp;omega
           have n8:(p.k==8)=false:=by simp;omega
           have n9:(p.k==9)=false:=by simp;omega
           have n10:(p.k==10)=false:=by simp;omega
           have DB:=Lib.hid (show dataB p=true by unfold dataB;rw[if_neg (by omega),if_neg (by omega),if_neg (by omega),if_neg (by omega)]);clear h6 h7
           go_wp2_with fail
           refine(N1.out _).mono ?_;rintro e w5 ⟨rfl,hb5⟩;have hh5:=(hb5.block _ (heap_lt hh4)).trans hh4;have hB5:=below_step hB4 hb5;clear hc4 hb5 hh4 hB4;have hc5:=op_cells hh5
           cases b1
           ·go_wp2_with fail
            go_ret
            exact⟨by rw[HR.out,K1.out,K2.out,D3.out,A1.out];simp,hB5⟩
           ·go_wp2_with fail
            refine(N2.out _).mono ?_;rintro e w6 ⟨rfl,hb6⟩;have hh6:=(hb6.block _ (heap_lt hh5)).trans hh5;have hB6:=below_step hB5 hb6;clear hc5 hb6 hh5 hB5;have hc6:=op_cells hh6
            cases b2
            ·go_wp2_with fail
             go_ret
             exact⟨by rw[HR.out,K1.out,K2.out,D3.out,A1.out,A2.out];simp,hB6⟩
            ·go_wp2_with fail
             go_ret
             exact⟨by rw[HR.out,K1.out,K2.out,D3.out,A1.out,A2.out,DB.out];simp,hB6⟩
          ·have a2:(p.k==7)=false:=by simp[h6]
           have A2:=Lib.hid a2;have n8:(p.k==8)=false:=by simp;omega
           have n9:(p.k==9)=false:=by simp;omega
           have n10:(p.k==10)=false:=by simp;omega
           by_cases h3:p.k=3
           ·have n3:(p.k==3)=true:=by simp[h3]
            have DB:=Lib.hid (show dataB p=(decide (1<=p.data.size)&&decide (p.data.size<=32)&& !hz) by unfold dataB;rw[if_pos h3,HZ.out]);clear h3 h6 h7
            go_wp2_with fail
            refine(N1.out _).mono ?_;rintro e w5 ⟨rfl,hb5⟩;have hh5:=(hb5.block _ (heap_lt hh4)).trans hh4;have hB5:=below_step hB4 hb5;clear hc4 hb5 hh4 hB4;have hc5:=op_cells hh5
            cases b1
            ·go_wp2_with fail
             go_ret
             exact⟨by rw[HR.out,K1.out,K2.out,D3.out,A1.out];simp,hB5⟩
            ·by_cases t0:1<=p.data.size
             ·have T0:=Lib.hid (show decide (1<=p.data.size)=true by simpa using t0);by_cases t1:p.data.size<=32
              ·have T1:=Lib.hid (show decide (p.data.size<=32)=true by simpa using t1)
               go_wp2_with fail
               refine(Z.out _).mono ?_;rintro e w6 ⟨rfl,hb6⟩;have hh6:=(hb6.block _ (heap_lt hh5)).trans hh5;have hB6:=below_step hB5 hb6;clear hc5 hb6 hh5 hB5;have hc6:=op_cells hh6
               cases hz
               all_goals
                go_wp2_with fail
                go_ret
                exact⟨by rw[HR.out,K1.out,K2.out,D3.out,A1.out,A2.out,DB.out,T0.out,T1.out];simp,hB6⟩
              ·have f1:decide ((p.data.size:Int)<=32)=false:=by simp;omega
               have T1:=Lib.hid (show decide (p.data.size<=32)=false by simpa using t1);clear t1
               go_wp2_with fail
               go_ret
               exact⟨by rw[HR.out,K1.out,K2.out,D3.out,A1.out,A2.out,DB.out,T0.out,T1.out];simp,hB5⟩
             ·have f0:decide (1<=(p.data.size:Int))=false:=by simp;omega
              have T0:=Lib.hid (show decide (1<=p.data.size)=false by simpa using t0);clear t0
              go_wp2_with fail
              go_ret
              exact⟨by rw[HR.out,K1.out,K2.out,D3.out,A1.out,A2.out,DB.out,T0.out];simp,hB5⟩
           ·have n3:(p.k==3)=false:=by simp[h3]
            have DB:=Lib.hid (show dataB p=true by unfold dataB;rw[if_neg (by omega),if_neg (by omega),if_neg (by omega),if_neg (by omega)]);clear h3 h6 h7
            go_wp2_with fail
            refine(N1.out _).mono ?_;rintro e w5 ⟨rfl,hb5⟩;have hh5:=(hb5.block _ (heap_lt hh4)).trans hh4;have hB5:=below_step hB4 hb5;clear hc4 hb5 hh4 hB4;have hc5:=op_cells hh5
            cases b1
            ·go_wp2_with fail
             go_ret
             exact⟨by rw[HR.out,K1.out,K2.out,D3.out,A1.out];simp,hB5⟩
            ·go_wp2_with fail
             go_ret
             exact⟨by rw[HR.out,K1.out,K2.out,D3.out,A1.out,A2.out,DB.out];simp,hB5⟩
  ·have d2:decide (10<o.k)=true:=by simp;omega
   have K2:=Lib.hid (show decide (o.k<=10)=false by simp;omega);refine wp_region_later (by kernel_rfl) (by kernel_rfl) ?_
   repeat(go_big_quiet_step (first|(with_reducible exact later_call (B.out _))|(with_reducible exact later_call (M0.out _))))
   refine wpQuiet_nil ?_;intro _ hw';obtain⟨y1,rfl⟩:=hw'
   go_wp2_with fail
   go_ret
   exact⟨by rw[HR.out,K2.out];simp,below_step hB0 (later_below w0 y1)⟩
 ·have d1:decide (o.k<1)=true:=by simp;omega
  have K1:=Lib.hid (show decide (1<=o.k)=false by simp;omega);refine wp_region_later (by kernel_rfl) (by kernel_rfl) ?_
  repeat(go_big_quiet_step (first|(with_reducible exact later_call (B.out _))|(with_reducible exact later_call (M0.out _))))
  refine wpQuiet_nil ?_;intro _ hw';obtain⟨y1,rfl⟩:=hw'
  go_wp2_with fail
  go_ret
  exact⟨by rw[HR.out,K1.out];simp,below_step hB0 (later_below w0 y1)⟩
theorem refOpMay(o:Opn)(hn:o.name.size<=9223372036854775807)(hm:o.new.size<=9223372036854775807)(hd:o.data.size<=9223372036854775807)(w:World):
  Calls Tryz.prog 79 #[.agg (opA o)] w fun e w'=>e=.returned (.bool (mayO o))/\Below w.heap.size w w':=
 mayCore o (bareO o) hd w (decide (bareO o=o)) (fun h=>of_decide_eq_true h) (mayB o.st o.sr) (mayB o.pt o.pr) (mayB o.it o.ir) (mayB o.tt o.tr) (nameB o.name) (nameB o.new) (hasB o.data 0) (mayO o) rfl rfl
  (fun W=>run_eqO (bareO o) o W) (fun W=>refBare o W) (fun W=>refMay o.st o.sr W) (fun W=>refMay o.pt o.pr W) (fun W=>refMay o.it o.ir W) (fun W=>refMay o.tt o.tr W)
  (fun W=>(refName o.name hn W).mono fun _ _ ⟨he,hw⟩=>⟨he,hw▸Below.refl _ _⟩) (fun W=>(refName o.new hm W).mono fun _ _ ⟨he,hw⟩=>⟨he,hw▸Below.refl _ _⟩) (fun W=>(refHas o.data 0 hd W).mono fun _ _ ⟨he,hw⟩=>⟨he,hw▸Below.refl _ _⟩)
end Go.Proofs.YtnnnkaobhkeocaaGreatDoor
namespace Go.Proofs.YtnnnkaobhkeocaaGreatDoor
open Go.RowKit StampMath
set_option maxHeartbeats 400000 in
theorem refLess(t r t' r':Int)(w:World):
  Calls Tryz.prog 42 #[.agg #[.int .i64 t,.int .i64 r],.agg #[.int .i64 t',.int .i64 r']] w fun e w'=>e=.returned (.bool (lessB t r t' r'))/\Below w.heap.size w w':=by
 have hcase:(t<t'/\lessB t r t' r'=true)\/(¬t<t'/\(t==t')=true/\lessB t r t' r'=decide (r<r'))\/(¬t<t'/\(t==t')=false/\lessB t r t' r'=false):=by
  by_cases h1:t<t'
  ·exact Or.inl ⟨h1,by simp[lessB,h1]⟩
  ·by_cases h2:t=t'
   ·exact Or.inr (Or.inl ⟨h1,by simp[h2],by simp[lessB,h2]⟩)
   ·exact Or.inr (Or.inr ⟨h1,by simp[h2],by simp[lessB,h1,h2]⟩)
 rcases hcase with ⟨h1,h⟩|⟨h1,h2,h⟩|⟨h1,h2,h⟩
 all_goals
  have H:=Lib.hid h;clear h
  go_enter Tryz.func42,Tryz.ntmps42
  go_wp2_with fail
  go_ret
  exact⟨by rw[H.out];rfl,((Below.refl _ _).alloc (Nat.le_refl _) _).alloc (by simp) _⟩
end Go.Proofs.YtnnnkaobhkeocaaGreatDoor
