/-
 The walk of the document's own May (operations).
-/
import Derived.Test.YtdobeghbkonimaaGreatDoorZ00
import Derived.Test.YtdobeghbkonimaaGreatDoorZX00
import Derived.Test.YtdobeghbkonimaaGreatDoorZX00
import Derived.Test.YtdobeghbkonimaaGreatDoorZ06
import Derived.Test.YtdobeghbkonimaaGreatDoorZX00
import Derived.Test.YtdobeghbkonimaaGreatDoorZ01
import Derived.Deep.DeepCutAuto
import Derived.Laws.StructEq
import Derived.RegionTactic
import Derived.Deep.LoopGhost
import Derived.Deep.Cut
import Derived.Deep.QuietTactic
import Derived.BigQuiet
namespace Go.Proofs.YtdobeghbkonimaaGreatDoor
open Go.RowKit OpMath StampMath PackMath

set_option maxRecDepth 100000 in
set_option maxHeartbeats 3200000 in
theorem mayCore (o p : Opn) (hds : o.data.size≤9223372036854775807) (w : World) (same : Bool) (hs : same = true→p = o) (m0 m1 m2 m3 b1 b2 hz : Bool) (r : Bool)
  (hr : r = (decide (1≤o.k) && decide (o.k≤10) && same && !(o.st == 0) && m0 && (m1 && m2 && m3 && (decide (7 < o.k) || b1) && (!(o.k == 7) || b2)) && dataB o)) (hhz : hz = hasB o.data 0)
  (EQ : Hid (∀ W : World,(Op.equalIn 10000 26 (.agg #[.int .i64 p.st,.int .i64 p.sr,.int .i64 p.k,.int .i64 p.pt,.int .i64 p.pr,.int .i64 p.it,.int .i64 p.ir,.int .i64 p.tt,.int .i64 p.tr,.string p.name,.string p.new,.int .i64 p.off,.string p.data]) (.agg #[.int .i64 o.st,.int .i64 o.sr,.int .i64 o.k,.int .i64 o.pt,.int .i64 o.pr,.int .i64 o.it,.int .i64 o.ir,.int .i64 o.tt,.int .i64 o.tr,.string o.name,.string o.new,.int .i64 o.off,.string o.data])).run Tryz.prog W = .ok same W))
  (B : Hid (∀ W : World,Calls Tryz.prog 72 #[.agg #[.int .i64 o.st,.int .i64 o.sr,.int .i64 o.k,.int .i64 o.pt,.int .i64 o.pr,.int .i64 o.it,.int .i64 o.ir,.int .i64 o.tt,.int .i64 o.tr,.string o.name,.string o.new,.int .i64 o.off,.string o.data]] W fun e w'=>e = .returned (.agg #[.int .i64 p.st,.int .i64 p.sr,.int .i64 p.k,.int .i64 p.pt,.int .i64 p.pr,.int .i64 p.it,.int .i64 p.ir,.int .i64 p.tt,.int .i64 p.tr,.string p.name,.string p.new,.int .i64 p.off,.string p.data])∧Below W.heap.size W w'))
  (M0 : Hid (∀ W : World,Calls Tryz.prog 73 #[.agg #[.int .i64 o.st,.int .i64 o.sr]] W fun e w'=>e = .returned (.bool m0)∧Below W.heap.size W w'))
  (M1 : Hid (∀ W : World,Calls Tryz.prog 73 #[.agg #[.int .i64 o.pt,.int .i64 o.pr]] W fun e w'=>e = .returned (.bool m1)∧Below W.heap.size W w'))
  (M2 : Hid (∀ W : World,Calls Tryz.prog 73 #[.agg #[.int .i64 o.it,.int .i64 o.ir]] W fun e w'=>e = .returned (.bool m2)∧Below W.heap.size W w'))
  (M3 : Hid (∀ W : World,Calls Tryz.prog 73 #[.agg #[.int .i64 o.tt,.int .i64 o.tr]] W fun e w'=>e = .returned (.bool m3)∧Below W.heap.size W w'))
  (N1 : Hid (∀ W : World,Calls Tryz.prog 74 #[.string o.name] W fun e w'=>e = .returned (.bool b1)∧Below W.heap.size W w'))
  (N2 : Hid (∀ W : World,Calls Tryz.prog 74 #[.string o.new] W fun e w'=>e = .returned (.bool b2)∧Below W.heap.size W w'))
  (Z : Hid (∀ W : World,Calls Tryz.prog 75 #[.string o.data,.int .u8 0] W fun e w'=>e = .returned (.bool hz)∧Below W.heap.size W w')) :
  Calls Tryz.prog 45 #[.agg #[.int .i64 o.st,.int .i64 o.sr,.int .i64 o.k,.int .i64 o.pt,.int .i64 o.pr,.int .i64 o.it,.int .i64 o.ir,.int .i64 o.tt,.int .i64 o.tr,.string o.name,.string o.new,.int .i64 o.off,.string o.data]] w fun e w'=>e = .returned (.bool r)∧Below w.heap.size w w':=by
 have HR:=Lib.hid hr
 have HZ:=Lib.hid hhz
 have HS:=Lib.hid hs
 clear hr hhz hs
 go_enter Tryz.func45,Tryz.ntmps45
 go_upto_region 1 with fail
 have hh0 : (w.alloc (.cells (opA o) 26)).heap[w.heap.size]? = some (.cells (opA o) 26 (0,0)):=heap_alloc_new w _
 have hB0 : Below w.heap.size w (w.alloc (.cells (opA o) 26)):=(Below.refl _ _).alloc (Nat.le_refl _) _
 change Code.wp _ _ _ _ (w.alloc (.cells (opA o) 26))
 generalize w.alloc (.cells (opA o) 26) = w0 at hh0 hB0 ⊢
 obtain ⟨l0,l1,l2,l3,l4,l5,l6,l7,l8,l9,l10,l11,l12⟩:=op_cells hh0
 have q0:=later_cell l0
 have q1:=later_cell l1
 have q2:=later_cell l2
 have q3:=later_cell l3
 have q4:=later_cell l4
 have q5:=later_cell l5
 have q6:=later_cell l6
 have q7:=later_cell l7
 have q8:=later_cell l8
 have q9:=later_cell l9
 have q10:=later_cell l10
 have q11:=later_cell l11
 have q12:=later_cell l12
 clear l0 l1 l2 l3 l4 l5 l6 l7 l8 l9 l10 l11 l12
 by_cases k1 : 1≤o.k
 ·have d1 : decide (o.k < 1) = false:=by simp; omega
  have K1:=Lib.hid (show decide (1≤o.k) = true by simp; omega)
  by_cases k2 : o.k≤10
  ·have d2 : decide (10 < o.k) = false:=by simp; omega
   have K2:=Lib.hid (show decide (o.k≤10) = true by simp; omega)
   have E:=EQ.out
   cases same
   ·refine wp_region_later (by kernel_rfl) (by kernel_rfl) ?_
    repeat (go_big_quiet_step (first | (with_reducible exact later_call (B.out _)) | (with_reducible exact later_call (M0.out _))))
    refine wpQuiet_nil ?_
    intro _ hw'
    obtain ⟨y1,rfl⟩:=hw'
    go_wp2_with fail
    go_ret
    exact ⟨by rw [HR.out]; simp,below_step hB0 (later_below w0 y1)⟩
   ·obtain rfl : p = o:=HS.out rfl
    clear k1 k2
    by_cases hst : p.st = 0
    ·have d3 : (p.st == 0) = true:=by simp [hst]
     have D3:=Lib.hid d3
     clear hst
     refine wp_region_later (by kernel_rfl) (by kernel_rfl) ?_
     repeat (go_big_quiet_step (first | (with_reducible exact later_call (B.out _)) | (with_reducible exact later_call (M0.out _))))
     refine wpQuiet_nil ?_
     intro _ hw'
     obtain ⟨y1,rfl⟩:=hw'
     go_wp2_with fail
     go_ret
     exact ⟨by rw [HR.out,D3.out]; simp,below_step hB0 (later_below w0 y1)⟩
    ·have d3 : (p.st == 0) = false:=by simp [hst]
     have D3:=Lib.hid d3
     clear hst
     cases m0
     ·refine wp_region_later (by kernel_rfl) (by kernel_rfl) ?_
      repeat (go_big_quiet_step (first | (with_reducible exact later_call (B.out _)) | (with_reducible exact later_call (M0.out _))))
      refine wpQuiet_nil ?_
      intro _ hw'
      obtain ⟨y1,rfl⟩:=hw'
      go_wp2_with fail
      go_ret
      exact ⟨by rw [HR.out]; simp,below_step hB0 (later_below w0 y1)⟩
     ·refine wp_region_later (by kernel_rfl) (by kernel_rfl) ?_
      repeat (go_big_quiet_step (first | (with_reducible exact later_call (B.out _)) | (with_reducible exact later_call (M0.out _))))
      refine wpQuiet_nil ?_
      intro _ hw'
      obtain ⟨y1,rfl⟩:=hw'
      clear E d1 d2 d3 q0 q1 q2 q3 q4 q5 q6 q7 q8 q9 q10 q11 q12
      have hh1 : (later w0 y1).heap[w.heap.size]? = some (.cells (opA p) 26 (0,0)):=((later_below w0 y1).block _ (heap_lt hh0)).trans hh0
      have hB1:=below_step hB0 (later_below w0 y1)
      generalize later w0 y1 = w1 at hh1 hB1 ⊢
      clear hh0 hB0
      have hc1:=op_cells hh1
      go_wp2_with fail
      refine (M1.out _).mono ?_
      rintro e w2 ⟨rfl,hb2⟩
      have hh2:=(hb2.block _ (heap_lt hh1)).trans hh1
      have hB2:=below_step hB1 hb2
      clear hc1 hb2 hh1 hB1
      have hc2:=op_cells hh2
      cases m1
      ·go_wp2_with fail
       go_ret
       exact ⟨by rw [HR.out]; simp,hB2⟩
      ·go_wp2_with fail
       refine (M2.out _).mono ?_
       rintro e w3 ⟨rfl,hb3⟩
       have hh3:=(hb3.block _ (heap_lt hh2)).trans hh2
       have hB3:=below_step hB2 hb3
       clear hc2 hb3 hh2 hB2
       have hc3:=op_cells hh3
       cases m2
       ·go_wp2_with fail
        go_ret
        exact ⟨by rw [HR.out]; simp,hB3⟩
       ·go_wp2_with fail
        refine (M3.out _).mono ?_
        rintro e w4 ⟨rfl,hb4⟩
        have hh4:=(hb4.block _ (heap_lt hh3)).trans hh3
        have hB4:=below_step hB3 hb4
        clear hc3 hb4 hh3 hB3
        have hc4:=op_cells hh4
        cases m3
        ·go_wp2_with fail
         go_ret
         exact ⟨by rw [HR.out]; simp,hB4⟩
        ·by_cases h7 : 7 < p.k
         ·have a1 : decide (p.k≤7) = false:=by simp; omega
          have a2 : (p.k == 7) = false:=by simp; omega
          have A1:=Lib.hid (show decide (7 < p.k) = true by simp; omega)
          have A2:=Lib.hid a2
          have n3 : (p.k == 3) = false:=by simp; omega
          by_cases h8 : p.k = 8
          ·have n8 : (p.k == 8) = true:=by simp [h8]
           have DB:=Lib.hid (show dataB p = (decide (0≤p.off) && decide (1≤p.data.size) && decide (p.data.size≤64) && decide (p.off≤64 - (p.data.size : Int))) by unfold dataB; rw [if_neg (by omega),if_pos h8])
           clear h7 h8
           by_cases t0 : 0≤p.off
           ·have T0:=Lib.hid (show decide (0≤p.off) = true by simpa using t0)
            by_cases t1 : 1≤p.data.size
            ·have T1:=Lib.hid (show decide (1≤p.data.size) = true by simpa using t1)
             by_cases t2 : p.data.size≤64
             ·have T2:=Lib.hid (show decide (p.data.size≤64) = true by simpa using t2)
              by_cases t3 : p.off≤64 - (p.data.size : Int)
              ·have T3:=Lib.hid (show decide (p.off≤64 - (p.data.size : Int)) = true by simpa using t3)
               go_wp2_with fail
               go_ret
               exact ⟨by rw [HR.out,K1.out,K2.out,D3.out,A1.out,A2.out,DB.out,T0.out,T1.out,T2.out,T3.out]; simp,hB4⟩
              ·have f3 : decide (p.off≤64 - (p.data.size : Int)) = false:=by simp; omega
               have T3:=Lib.hid (show decide (p.off≤64 - (p.data.size : Int)) = false by simpa using t3)
               clear t3
               go_wp2_with fail
               go_ret
               exact ⟨by rw [HR.out,K1.out,K2.out,D3.out,A1.out,A2.out,DB.out,T0.out,T1.out,T2.out,T3.out]; simp,hB4⟩
             ·have f2 : decide ((p.data.size : Int)≤64) = false:=by simp; omega
              have T2:=Lib.hid (show decide (p.data.size≤64) = false by simpa using t2)
              clear t2
              go_wp2_with fail
              go_ret
              exact ⟨by rw [HR.out,K1.out,K2.out,D3.out,A1.out,A2.out,DB.out,T0.out,T1.out,T2.out]; simp,hB4⟩
            ·have f1 : decide (1≤(p.data.size : Int)) = false:=by simp; omega
             have T1:=Lib.hid (show decide (1≤p.data.size) = false by simpa using t1)
             clear t1
             go_wp2_with fail
             go_ret
             exact ⟨by rw [HR.out,K1.out,K2.out,D3.out,A1.out,A2.out,DB.out,T0.out,T1.out]; simp,hB4⟩
           ·have f0 : decide (0≤p.off) = false:=by simp; omega
            have T0:=Lib.hid (show decide (0≤p.off) = false by simpa using t0)
            clear t0
            go_wp2_with fail
            go_ret
            exact ⟨by rw [HR.out,K1.out,K2.out,D3.out,A1.out,A2.out,DB.out,T0.out]; simp,hB4⟩
          ·have n8 : (p.k == 8) = false:=by simp [h8]
           by_cases h9 : p.k = 9
           ·have n9 : (p.k == 9) = true:=by simp [h9]
            have DB:=Lib.hid (show dataB p = (decide (0≤p.off) && decide (p.off≤64)) by unfold dataB; rw [if_neg (by omega),if_neg h8,if_pos h9])
            clear h7 h8 h9
            by_cases t0 : 0≤p.off
            ·have T0:=Lib.hid (show decide (0≤p.off) = true by simpa using t0)
             by_cases t1 : p.off≤64
             ·have T1:=Lib.hid (show decide (p.off≤64) = true by simpa using t1)
              go_wp2_with fail
              go_ret
              exact ⟨by rw [HR.out,K1.out,K2.out,D3.out,A1.out,A2.out,DB.out,T0.out,T1.out]; simp,hB4⟩
             ·have f1 : decide (p.off≤64) = false:=by simp; omega
              have T1:=Lib.hid f1
              clear t1
              go_wp2_with fail
              go_ret
              exact ⟨by rw [HR.out,K1.out,K2.out,D3.out,A1.out,A2.out,DB.out,T0.out,T1.out]; simp,hB4⟩
            ·have f0 : decide (0≤p.off) = false:=by simp; omega
             have T0:=Lib.hid f0
             clear t0
             go_wp2_with fail
             go_ret
             exact ⟨by rw [HR.out,K1.out,K2.out,D3.out,A1.out,A2.out,DB.out,T0.out]; simp,hB4⟩
           ·have n9 : (p.k == 9) = false:=by simp [h9]
            have n10 : (p.k == 10) = true:=by have:=of_decide_eq_true K2.out; simp; omega
            have DB:=Lib.hid (show dataB p = (decide (0≤p.off) && decide (p.off≤4095)) by unfold dataB; rw [if_neg (by omega),if_neg h8,if_neg h9,if_pos (by have:=of_decide_eq_true K2.out; omega)])
            clear h7 h8 h9
            by_cases t0 : 0≤p.off
            ·have T0:=Lib.hid (show decide (0≤p.off) = true by simpa using t0)
             by_cases t1 : p.off≤4095
             ·have T1:=Lib.hid (show decide (p.off≤4095) = true by simpa using t1)
              go_wp2_with fail
              go_ret
              exact ⟨by rw [HR.out,K1.out,K2.out,D3.out,A1.out,A2.out,DB.out,T0.out,T1.out]; simp,hB4⟩
             ·have f1 : decide (p.off≤4095) = false:=by simp; omega
              have T1:=Lib.hid f1
              clear t1
              go_wp2_with fail
              go_ret
              exact ⟨by rw [HR.out,K1.out,K2.out,D3.out,A1.out,A2.out,DB.out,T0.out,T1.out]; simp,hB4⟩
            ·have f0 : decide (0≤p.off) = false:=by simp; omega
             have T0:=Lib.hid f0
             clear t0
             go_wp2_with fail
             go_ret
             exact ⟨by rw [HR.out,K1.out,K2.out,D3.out,A1.out,A2.out,DB.out,T0.out]; simp,hB4⟩
         ·have a1 : decide (p.k≤7) = true:=by simp; omega
          have A1:=Lib.hid (show decide (7 < p.k) = false by simp; omega)
          by_cases h6 : p.k = 7
          ·have a2 : (p.k == 7) = true:=by simp [h6]
           have A2:=Lib.hid a2
           have n3 : (p.k == 3) = false:=by simp; omega
           have n8 : (p.k == 8) = false:=by simp; omega
           have n9 : (p.k == 9) = false:=by simp; omega
           have n10 : (p.k == 10) = false:=by simp; omega
           have DB:=Lib.hid (show dataB p = true by unfold dataB; rw [if_neg (by omega),if_neg (by omega),if_neg (by omega),if_neg (by omega)])
           clear h6 h7
           go_wp2_with fail
           refine (N1.out _).mono ?_
           rintro e w5 ⟨rfl,hb5⟩
           have hh5:=(hb5.block _ (heap_lt hh4)).trans hh4
           have hB5:=below_step hB4 hb5
           clear hc4 hb5 hh4 hB4
           have hc5:=op_cells hh5
           cases b1
           ·go_wp2_with fail
            go_ret
            exact ⟨by rw [HR.out,K1.out,K2.out,D3.out,A1.out]; simp,hB5⟩
           ·go_wp2_with fail
            refine (N2.out _).mono ?_
            rintro e w6 ⟨rfl,hb6⟩
            have hh6:=(hb6.block _ (heap_lt hh5)).trans hh5
            have hB6:=below_step hB5 hb6
            clear hc5 hb6 hh5 hB5
            have hc6:=op_cells hh6
            cases b2
            ·go_wp2_with fail
             go_ret
             exact ⟨by rw [HR.out,K1.out,K2.out,D3.out,A1.out,A2.out]; simp,hB6⟩
            ·go_wp2_with fail
             go_ret
             exact ⟨by rw [HR.out,K1.out,K2.out,D3.out,A1.out,A2.out,DB.out]; simp,hB6⟩
          ·have a2 : (p.k == 7) = false:=by simp [h6]
           have A2:=Lib.hid a2
           have n8 : (p.k == 8) = false:=by simp; omega
           have n9 : (p.k == 9) = false:=by simp; omega
           have n10 : (p.k == 10) = false:=by simp; omega
           by_cases h3 : p.k = 3
           ·have n3 : (p.k == 3) = true:=by simp [h3]
            have DB:=Lib.hid (show dataB p = (decide (1≤p.data.size) && decide (p.data.size≤32) && !hz) by unfold dataB; rw [if_pos h3,HZ.out])
            clear h3 h6 h7
            go_wp2_with fail
            refine (N1.out _).mono ?_
            rintro e w5 ⟨rfl,hb5⟩
            have hh5:=(hb5.block _ (heap_lt hh4)).trans hh4
            have hB5:=below_step hB4 hb5
            clear hc4 hb5 hh4 hB4
            have hc5:=op_cells hh5
            cases b1
            ·go_wp2_with fail
             go_ret
             exact ⟨by rw [HR.out,K1.out,K2.out,D3.out,A1.out]; simp,hB5⟩
            ·by_cases t0 : 1≤p.data.size
             ·have T0:=Lib.hid (show decide (1≤p.data.size) = true by simpa using t0)
              by_cases t1 : p.data.size≤32
              ·have T1:=Lib.hid (show decide (p.data.size≤32) = true by simpa using t1)
               go_wp2_with fail
               refine (Z.out _).mono ?_
               rintro e w6 ⟨rfl,hb6⟩
               have hh6:=(hb6.block _ (heap_lt hh5)).trans hh5
               have hB6:=below_step hB5 hb6
               clear hc5 hb6 hh5 hB5
               have hc6:=op_cells hh6
               cases hz
               all_goals
                go_wp2_with fail
                go_ret
                exact ⟨by rw [HR.out,K1.out,K2.out,D3.out,A1.out,A2.out,DB.out,T0.out,T1.out]; simp,hB6⟩
              ·have f1 : decide ((p.data.size : Int)≤32) = false:=by simp; omega
               have T1:=Lib.hid (show decide (p.data.size≤32) = false by simpa using t1)
               clear t1
               go_wp2_with fail
               go_ret
               exact ⟨by rw [HR.out,K1.out,K2.out,D3.out,A1.out,A2.out,DB.out,T0.out,T1.out]; simp,hB5⟩
             ·have f0 : decide (1≤(p.data.size : Int)) = false:=by simp; omega
              have T0:=Lib.hid (show decide (1≤p.data.size) = false by simpa using t0)
              clear t0
              go_wp2_with fail
              go_ret
              exact ⟨by rw [HR.out,K1.out,K2.out,D3.out,A1.out,A2.out,DB.out,T0.out]; simp,hB5⟩
           ·have n3 : (p.k == 3) = false:=by simp [h3]
            have DB:=Lib.hid (show dataB p = true by unfold dataB; rw [if_neg (by omega),if_neg (by omega),if_neg (by omega),if_neg (by omega)])
            clear h3 h6 h7
            go_wp2_with fail
            refine (N1.out _).mono ?_
            rintro e w5 ⟨rfl,hb5⟩
            have hh5:=(hb5.block _ (heap_lt hh4)).trans hh4
            have hB5:=below_step hB4 hb5
            clear hc4 hb5 hh4 hB4
            have hc5:=op_cells hh5
            cases b1
            ·go_wp2_with fail
             go_ret
             exact ⟨by rw [HR.out,K1.out,K2.out,D3.out,A1.out]; simp,hB5⟩
            ·go_wp2_with fail
             go_ret
             exact ⟨by rw [HR.out,K1.out,K2.out,D3.out,A1.out,A2.out,DB.out]; simp,hB5⟩
  ·have d2 : decide (10 < o.k) = true:=by simp; omega
   have K2:=Lib.hid (show decide (o.k≤10) = false by simp; omega)
   refine wp_region_later (by kernel_rfl) (by kernel_rfl) ?_
   repeat (go_big_quiet_step (first | (with_reducible exact later_call (B.out _)) | (with_reducible exact later_call (M0.out _))))
   refine wpQuiet_nil ?_
   intro _ hw'
   obtain ⟨y1,rfl⟩:=hw'
   go_wp2_with fail
   go_ret
   exact ⟨by rw [HR.out,K2.out]; simp,below_step hB0 (later_below w0 y1)⟩
 ·have d1 : decide (o.k < 1) = true:=by simp; omega
  have K1:=Lib.hid (show decide (1≤o.k) = false by simp; omega)
  refine wp_region_later (by kernel_rfl) (by kernel_rfl) ?_
  repeat (go_big_quiet_step (first | (with_reducible exact later_call (B.out _)) | (with_reducible exact later_call (M0.out _))))
  refine wpQuiet_nil ?_
  intro _ hw'
  obtain ⟨y1,rfl⟩:=hw'
  go_wp2_with fail
  go_ret
  exact ⟨by rw [HR.out,K1.out]; simp,below_step hB0 (later_below w0 y1)⟩

theorem refOpMay (o : Opn) (hn : o.name.size≤9223372036854775807) (hm : o.new.size≤9223372036854775807) (hd : o.data.size≤9223372036854775807) (w : World) :
  Calls Tryz.prog 45 #[.agg (opA o)] w fun e w'=>e = .returned (.bool (mayO o))∧Below w.heap.size w w' :=
 mayCore o (bareO o) hd w (decide (bareO o = o)) (fun h=>of_decide_eq_true h) (mayB o.st o.sr) (mayB o.pt o.pr) (mayB o.it o.ir) (mayB o.tt o.tr) (nameB o.name) (nameB o.new) (hasB o.data 0) (mayO o) rfl rfl
  (fun W=>run_eqO (bareO o) o W) (fun W=>refBare o W) (fun W=>refMay o.st o.sr W) (fun W=>refMay o.pt o.pr W) (fun W=>refMay o.it o.ir W) (fun W=>refMay o.tt o.tr W)
  (fun W=>(refName o.name hn W).mono fun _ _ ⟨he,hw⟩=>⟨he,hw ▸ Below.refl _ _⟩) (fun W=>(refName o.new hm W).mono fun _ _ ⟨he,hw⟩=>⟨he,hw ▸ Below.refl _ _⟩) (fun W=>(refHas o.data 0 hd W).mono fun _ _ ⟨he,hw⟩=>⟨he,hw ▸ Below.refl _ _⟩)

end Go.Proofs.YtdobeghbkonimaaGreatDoor

namespace Go.Proofs.YtdobeghbkonimaaGreatDoor
open Go.RowKit StampMath GraphMath OpMath PackMath

theorem less_put (a b : St) (W : World) : Calls Tryz.prog 46 #[.agg #[.int .i64 a.1,.int .i64 a.2],.agg #[.int .i64 b.1,.int .i64 b.2]] W fun e w'=>e = .returned (.bool (lessS a b))∧Below W.heap.size W w':=refLess a.1 a.2 b.1 b.2 W

def PutPost (R : List Opn × Nat × Bool) (w : World) (e : Ending) (w' : World) : Prop :=
 ∃ (B : Option Addr) (k : Nat),e = .returned (.tuple #[.slice B R.1.length k,.int .i64 (R.2.1 : Int),.bool R.2.2])∧OpsIn w' w'.heap.size B R.1.length R.1∧Below w.heap.size w w'

set_option maxRecDepth 100000 in
set_option maxHeartbeats 3200000 in
theorem refPut (A : Option Addr) (n c : Nat) (x : List Opn) (o : Opn) (hn : n≤1000) (hnc : n≤c) (hcm : c≤maxLen) (hd1 : A = none→c = 0) (ho : OpFit o) (hR : Rises x) (w : World) (h : OpsIn w w.heap.size A n x) :
  Calls Tryz.prog 14 #[.slice A n c,.agg (opA o)] w (PutPost (putO x o) w):=by
 obtain ⟨i0,hi0,hz0,hz1,hz2⟩:=info_parts op_infos
 have hl:=h.len
 have HR : Hid (putO x o = if mayO o = false then (x,0,false) else if hasO x (oSt o) = true then (x,placeO x (oSt o),false) else (putIn (beforeO (oSt o)) x o,placeO x (oSt o),true)):=rfl
 have HP : Hid (hasO x (oSt o) = true ↔ ∃ hp : placeO x (oSt o) < x.length,oSt (x[placeO x (oSt o)]) = oSt o):=place_has hR
 have HI : Hid (putIn (beforeO (oSt o)) x o = x.take (placeO x (oSt o)) ++ o :: x.drop (placeO x (oSt o))):=putIn_place
 have HPL : Hid (placeO x (oSt o) = (x.takeWhile (beforeO (oSt o))).length):=rfl
 generalize putO x o = R at HR ⊢
 have HX:=Lib.hid h
 have hH0 : Held w [(w.heap.size,.cells (opA o) 26)] (w.alloc (.cells (opA o) 26)):=(Held.refl w).alloc _ rfl
 clear h hR
 go_enter Tryz.func14,Tryz.ntmps14
 go_upto_region 1 with fail
 generalize w.alloc (.cells (opA o) 26) = w1 at hH0 ⊢
 obtain ⟨c0,c1,c2,c3,c4,c5,c6,c7,c8,c9,c10,c11,c12⟩:=op_cells (o:=o) (g:=w.heap.size) (hH0.at 0 rfl)
 have h1:=ho.name
 have h2:=ho.new
 have h3:=ho.data
 unfold maxLen at h1 h2 h3
 have HM:=Lib.hid (refOpMay o (by omega) (by omega) (by omega) w1)
 unfold opA at HM
 clear h1 h2 h3
 go_wp2_with fail
 refine HM.out.mono ?_
 rintro e w2 ⟨rfl,hb2⟩
 have hH2:=Lib.hid (hH0.step hb2)
 clear c0 c1 c2 c3 c4 c5 c6 c7 c8 c9 c10 c11 c12 hH0 hb2 HM
 cases hm : mayO o with
 | false =>
  have HR1 : Hid (R = (x,0,false)):=HR.out.trans (if_pos hm)
  clear hm
  go_wp2_with fail
  have hb:=hH2.out.below
  have e1 : x.length = n:=hl
  refine bodyPost_ret (v:=.tuple #[.slice A n c,.int .i64 0,.bool false]) (by simp [results,Tryz.results14,go_sem]) rfl ?_
  rw [HR1.out]
  exact ⟨A,c,by rw [e1]; rfl,by show OpsIn _ _ A x.length x; rw [e1]; exact (HX.out.below hb).more hb.size,hb⟩
 | true =>
  have HR1 : Hid (R = if hasO x (oSt o) = true then (x,placeO x (oSt o),false) else (putIn (beforeO (oSt o)) x o,placeO x (oSt o),true)):=HR.out.trans (if_neg (by rw [hm]; simp))
  clear hm HR
  go_wp2_with fail
  go_loopg [7] (n + 1) (fun gk i wr=>∃ k : Nat,i = .int .i64 (k : Int)∧gk + k = n + 1∧k≤n∧Hid (∀ j (h1 : j < x.length),j < k→beforeO (oSt o) x[j] = true)∧Hid (Held w [(w.heap.size,.cells (opA o) 26)] wr))
  case atStart=>exact ⟨0,rfl,by omega,by omega,fun _ _ hj=>absurd hj (by omega),hH2⟩
  case round =>
   obtain ⟨k,rfl,hgk,hk,hall,hH⟩:=hrel
   have HG:=Lib.hid hgk
   clear hgk hH2
   obtain ⟨c0,c1,_⟩:=op_cells (o:=o) (g:=w.heap.size) (hH.out.at 0 rfl)
   have l0:=later_cell c0
   have l1:=later_cell c1
   clear c0 c1
   by_cases hlt : k < n
   ·obtain ⟨gi,of,rfl,hg,hrow⟩:=HX.out.row (by omega)
    have lk : k < x.length:=by omega
    obtain ⟨e0,e1,_⟩:=(hrow k lk).below hH.out.below hg
    have HROW : Hid (∀ W,Below w.heap.size w W→OpAt W gi (of + k * 13) x[k]):=Lib.hid fun W hW=>(hrow k lk).below hW hg
    have k0:=later_cell e0
    have k1:=later_cell e1
    obtain ⟨a,ha⟩ : ∃ a,x[k] = a:=⟨_,rfl⟩
    rw [ha] at k0 k1
    obtain ⟨b,hb⟩ : ∃ b,b = lessS (oSt a) (oSt o):=⟨_,rfl⟩
    have HL : Hid (∀ y,Calls Tryz.prog 46 #[.agg #[.int .i64 a.st,.int .i64 a.sr],.agg #[.int .i64 o.st,.int .i64 o.sr]] (later wr y) fun e w'=>e = .returned (.bool b)∧∃ z,w' = later wr z):=Lib.hid fun y=>later_call (by rw [hb]; exact less_put (oSt a) (oSt o) _)
    have HB:=Lib.hid hb
    have HA:=Lib.hid ha
    have hi0' : (0 : Int)≤(k : Int):=by omega
    have hi1 : (k : Int) < (n : Int):=by omega
    clear hrow e0 e1 hb ha
    cases b with
    | true =>
     go_upto_region 4 with fail
     refine wp_region_later (by kernel_rfl) (by kernel_rfl) ?_
     repeat (go_big_quiet_step (first | (with_reducible exact HL.out _)))
     refine wpQuiet_nil ?_
     intro _ hw'
     obtain ⟨y,rfl⟩:=hw'
     have H2:=Lib.hid (hH.out.step (later_below wr y))
     clear l0 l1 k0 k1 HL hH
     go_wp2_with fail
     go_roundg (gk - 1)
     case measure=>have:=HG.out; omega
     case rel =>
      refine ⟨k + 1,by go_num,by have:=HG.out; omega,by omega,fun j h1 hj=>?_,H2⟩
      by_cases q : j = k
      ·subst q; rw [HA.out]; exact HB.out.symm
      ·exact hall.out j h1 (by omega)
    | false =>
     have hpl : placeO x (oSt o) = k:=by
      rw [HPL.out]
      exact while_is (by omega) hall.out fun h1=>by rw [HA.out]; exact HB.out.symm
     rw [hpl] at HR1 HP HI
     have hii : (hasO x (oSt o) = true) ↔ oSt a = oSt o:=HP.out.trans ⟨fun ⟨hp,e⟩=>by rw [← HA.out]; exact e,fun e=>⟨lk,by rw [HA.out]; exact e⟩⟩
     go_upto_region 4 with fail
     refine wp_region_later (by kernel_rfl) (by kernel_rfl) ?_
     repeat (go_big_quiet_step (first | (with_reducible exact HL.out _)))
     refine wpQuiet_nil ?_
     intro _ hw'
     obtain ⟨y,rfl⟩:=hw'
     have hH2:=hH.out.step (later_below wr y)
     generalize later wr y = w2 at hH2 ⊢
     clear l0 l1 k0 k1 HL hH HG hall HPL HP HB
     obtain ⟨c0,c1,_⟩:=op_cells (o:=o) (g:=w.heap.size) (hH2.at 0 rfl)
     obtain ⟨e0,e1,_⟩:=HROW.out _ hH2.below
     rw [HA.out] at e0 e1
     have l0:=later_cell c0
     have l1:=later_cell c1
     have k0:=later_cell e0
     have k1:=later_cell e1
     clear c0 c1 e0 e1 HROW
     obtain ⟨q,hq⟩ : ∃ q,q = decide (oSt a = oSt o):=⟨_,rfl⟩
     have hv : ∀ W : World,(Op.equalIn 10000 24 (.agg #[.int .i64 a.st,.int .i64 a.sr]) (.agg #[.int .i64 o.st,.int .i64 o.sr])).run Tryz.prog W = .ok q W:=fun W=>by rw [run_eqSt,hq]; rfl
     go_upto_region 6 with fail
     refine wp_region_later (by kernel_rfl) (by kernel_rfl) ?_
     cases q with
     | true =>
      have HR2 : Hid (R = (x,k,false)):=HR1.out.trans (if_pos (hii.2 (of_decide_eq_true hq.symm)))
      clear hq hii HR1 HI
      repeat (go_big_quiet_step (fail))
      refine wpQuiet_nil ?_
      intro _ hw'
      obtain ⟨y,rfl⟩:=hw'
      have hb:=below_step hH2.below (later_below w2 y)
      clear l0 l1 k0 k1 hv
      go_wp2_with fail
      have e1 : x.length = n:=hl
      refine bodyPost_ret (v:=.tuple #[.slice (some ⟨gi,of,none⟩) n c,.int .i64 (k : Int),.bool false]) (by simp [results,Tryz.results14,go_sem]) rfl ?_
      rw [HR2.out]
      exact ⟨_,c,by rw [e1],by show OpsIn _ _ _ x.length x; rw [e1]; exact (HX.out.below hb).more hb.size,hb⟩
     | false =>
      have HR2 : Hid (R = (x.take k ++ o :: x.drop k,k,true)):=HR1.out.trans ((if_neg fun q=>of_decide_eq_false hq.symm (hii.1 q)).trans (by rw [HI.out]))
      clear hq hii HR1 HI
      repeat (go_big_quiet_step (fail))
      refine wpQuiet_nil ?_
      intro _ hw'
      obtain ⟨y,rfl⟩:=hw'
      have hH3:=hH2.step (later_below w2 y)
      generalize later w2 y = w3 at hH3 ⊢
      clear l0 l1 k0 k1 hv hH2
      have hlow : w.heap.size < w3.heap.size:=heap_lt (hH3.at 0 rfl)
      have hT3:=(HX.out.below hH3.below).more hH3.below.size
      have hk1 : 0 + k≤maxLen:=by unfold maxLen; omega
      have hk2 : k + 1≤maxLen:=by unfold maxLen; omega
      have hk3 : k + 1 + (n - k)≤maxLen:=by unfold maxLen; omega
      have hTk:=TabIn.take (hT3.below ((Below.refl w3.heap.size w3).alloc (Nat.le_refl _) (.cells #[] 26))) hk
      rw [← List.map_take] at hTk
      go_upto_region 9 with (at_builtin; refine wpList_append_tab rfl (.tmp 45) (.tmp 48) 22 rfl (w.heap.size + 1) 26 i0 _ 13 128 Tryz.underlying22 hi0 hz0 hz1 hz2 rfl (by decide) _ 0 [] rfl (own_empty w3 _ _ _ (by omega)) _ k c w3.heap.size ((x.take k).map opA) rfl hTk hd1 (op_rows _).1 (op_rows _).2 hk1 (by omega) (by simp; omega) ?_; intro v4 w4 hown4 hg4)
      rw [List.nil_append,Nat.zero_add] at hown4
      have hH4:=(hH3.step ((Below.refl w3.heap.size w3).alloc (Nat.le_refl _) (.cells #[] 26))).grown (B:=w.heap.size + 1) hg4 (fun q hq=>((own_empty w3 (w.heap.size + 1) 26 13 (by omega)).lt q hq).1) (by intro p hp; simp at hp; subst hp; dsimp only; omega) (by omega)
      clear hT3 hTk hg4 hH3 hlow hk1
      have hlow : w.heap.size < w4.heap.size:=heap_lt (hH4.at 0 rfl)
      obtain ⟨c0,c1,c2,c3,c4,c5,c6,c7,c8,c9,c10,c11,c12⟩:=op_cells (o:=o) (g:=w.heap.size) (hH4.at 0 rfl)
      go_upto_region 10 with (at_builtin; refine wpList_append_own _ rfl (.tmp 50) (.tmp 52) 22 rfl (w.heap.size + 1) 26 i0 _ 13 128 Tryz.underlying22 hi0 hz0 hz1 hz2 rfl (by decide) _ _ _ rfl (hown4.alloc _) ⟨w4.heap.size,0,none⟩ 1 1 (opA o).toList rfl rfl (row_there w4 _ _) (op_cells1 o) hk2 (by omega) (by simp; omega) ?_; intro v5 w5 hown5 hg5 _)
      rw [flat_op] at hown5
      have hH5:=(hH4.step ((Below.refl w4.heap.size w4).alloc (Nat.le_refl _) (.cells (opA o) 26))).grown (B:=w.heap.size + 1) hg5 (fun q hq=>(hown4.lt q hq).1) (by intro p hp; simp at hp; subst hp; dsimp only; omega) (by omega)
      clear c0 c1 c2 c3 c4 c5 c6 c7 c8 c9 c10 c11 c12 hown4 hg5 hH4 hlow hk2
      have hlow : w.heap.size < w5.heap.size:=heap_lt (hH5.at 0 rfl)
      have hT5:=TabIn.drop (HX.out.below hH5.below) hk
      rw [← List.map_drop] at hT5
      go_upto_region 11 with (at_builtin; refine wpList_append_tab rfl (.tmp 54) (.tmp 57) 22 rfl (w.heap.size + 1) 26 i0 _ 13 128 Tryz.underlying22 hi0 hz0 hz1 hz2 rfl (by decide) _ _ _ rfl hown5 _ (n - k) _ w.heap.size ((x.drop k).map opA) rfl hT5 (fun h=>by cases h) (op_rows _).1 (op_rows _).2 hk3 (by omega) (by omega) ?_; intro v6 w6 hown6 hg6)
      have hH6:=hH5.grown (B:=w.heap.size + 1) hg6 (fun q hq=>(hown5.lt q hq).1) (by intro p hp; simp at hp; subst hp; dsimp only; omega) (by omega)
      have hlist : x.take k ++ [o] ++ (x.drop k) = x.take k ++ o :: x.drop k:=by rw [List.append_assoc]; rfl
      have hlen : k + 1 + (n - k) = (x.take k ++ o :: x.drop k).length:=by simp only [List.length_append,List.length_take,List.length_drop,List.length_cons]; omega
      rw [← List.map_append,hlist,hlen] at hown6
      obtain ⟨L,hL⟩ : ∃ L,L = x.take k ++ o :: x.drop k:=⟨_,rfl⟩
      rw [← hL] at hown6 HR2
      obtain ⟨B,cc,rfl,p1,_⟩:=ops_own rfl hown6
      have HF:=Lib.hid (And.intro p1 hH6.below)
      clear hown5 hg6 hH5 hH6 hlow hk3 hown6 p1 hlist hlen hL
      go_wp2_with fail
      refine bodyPost_ret (v:=.tuple #[.slice B L.length cc,.int .i64 ((k : Nat) : Int),.bool true]) (by simp [results,Tryz.results14,go_sem]) rfl ?_
      rw [HR2.out]
      exact ⟨B,cc,rfl,HF.out⟩
   ·have hkn : k = n:=by omega
    have hki : ¬ (k : Int) < (n : Int):=by omega
    have hpl : placeO x (oSt o) = k:=by
     rw [HPL.out]
     exact while_is (by omega) hall.out fun h1=>by omega
    rw [hpl] at HR1 HP HI
    have hno : ¬ hasO x (oSt o) = true:=fun q=>by
     obtain ⟨hp,_⟩:=HP.out.1 q
     omega
    have HR2 : Hid (R = (x.take k ++ o :: x.drop k,k,true)):=HR1.out.trans ((if_neg hno).trans (by rw [HI.out]))
    clear hno HP HI HR1 HPL hall HG hpl
    go_upto_region 4 with fail
    refine wp_region_later (by kernel_rfl) (by kernel_rfl) ?_
    repeat (go_big_quiet_step (fail))
    refine wpQuiet_nil ?_
    intro _ hw'
    obtain ⟨y,rfl⟩:=hw'
    have hH2:=hH.out.step (later_below wr y)
    generalize later wr y = w2 at hH2 ⊢
    clear l0 l1 hH
    go_upto_region 6 with fail
    refine wp_region_later (by kernel_rfl) (by kernel_rfl) ?_
    repeat (go_big_quiet_step (fail))
    refine wpQuiet_nil ?_
    intro _ hw'
    obtain ⟨y,rfl⟩:=hw'
    have hH3:=hH2.step (later_below w2 y)
    generalize later w2 y = w3 at hH3 ⊢
    clear hH2
    subst hkn
    cases A with
    | none =>
     obtain rfl : c = 0:=hd1 rfl
     obtain rfl : k = 0:=by omega
     have hlow : w.heap.size < w3.heap.size:=heap_lt (hH3.at 0 rfl)
     have hT3:=(HX.out.below hH3.below).more hH3.below.size
     have hk1 : 0 + 0≤maxLen:=by unfold maxLen; omega
     have hk2 : 0 + 1≤maxLen:=by unfold maxLen; omega
     have hk3 : 0 + 1 + 0≤maxLen:=by unfold maxLen; omega
     have hTk:=TabIn.take (hT3.below ((Below.refl w3.heap.size w3).alloc (Nat.le_refl _) (.cells #[] 26))) hk
     rw [← List.map_take] at hTk
     go_upto_region 9 with (at_builtin; refine wpList_append_tab rfl (.tmp 45) (.tmp 48) 22 rfl (w.heap.size + 1) 26 i0 _ 13 128 Tryz.underlying22 hi0 hz0 hz1 hz2 rfl (by decide) _ 0 [] rfl (own_empty w3 _ _ _ (by omega)) _ 0 0 w3.heap.size ((x.take 0).map opA) rfl hTk hd1 (op_rows _).1 (op_rows _).2 hk1 (by omega) (by simp; omega) ?_; intro v4 w4 hown4 hg4)
     rw [List.nil_append,Nat.zero_add] at hown4
     have hH4:=(hH3.step ((Below.refl w3.heap.size w3).alloc (Nat.le_refl _) (.cells #[] 26))).grown (B:=w.heap.size + 1) hg4 (fun q hq=>((own_empty w3 (w.heap.size + 1) 26 13 (by omega)).lt q hq).1) (by intro p hp; simp at hp; subst hp; dsimp only; omega) (by omega)
     clear hT3 hTk hg4 hH3 hlow hk1
     have hlow : w.heap.size < w4.heap.size:=heap_lt (hH4.at 0 rfl)
     obtain ⟨c0,c1,c2,c3,c4,c5,c6,c7,c8,c9,c10,c11,c12⟩:=op_cells (o:=o) (g:=w.heap.size) (hH4.at 0 rfl)
     go_upto_region 10 with (at_builtin; refine wpList_append_own _ rfl (.tmp 50) (.tmp 52) 22 rfl (w.heap.size + 1) 26 i0 _ 13 128 Tryz.underlying22 hi0 hz0 hz1 hz2 rfl (by decide) _ _ _ rfl (hown4.alloc _) ⟨w4.heap.size,0,none⟩ 1 1 (opA o).toList rfl rfl (row_there w4 _ _) (op_cells1 o) hk2 (by omega) (by simp; omega) ?_; intro v5 w5 hown5 hg5 _)
     rw [flat_op] at hown5
     have hH5:=(hH4.step ((Below.refl w4.heap.size w4).alloc (Nat.le_refl _) (.cells (opA o) 26))).grown (B:=w.heap.size + 1) hg5 (fun q hq=>(hown4.lt q hq).1) (by intro p hp; simp at hp; subst hp; dsimp only; omega) (by omega)
     clear c0 c1 c2 c3 c4 c5 c6 c7 c8 c9 c10 c11 c12 hown4 hg5 hH4 hlow hk2
     have hlow : w.heap.size < w5.heap.size:=heap_lt (hH5.at 0 rfl)
     go_upto_region 11 with (at_builtin; refine wpList_append_tab rfl (.tmp 54) (.tmp 57) 22 rfl (w.heap.size + 1) 26 i0 _ 13 128 Tryz.underlying22 hi0 hz0 hz1 hz2 rfl (by decide) _ _ _ rfl hown5 _ 0 _ w.heap.size (([] : List Opn).map opA) rfl (TabIn.nil 13 w5 w.heap.size _) (fun _=>rfl) (op_rows _).1 (op_rows _).2 hk3 (by omega) (by omega) ?_; intro v6 w6 hown6 hg6)
     have hH6:=hH5.grown (B:=w.heap.size + 1) hg6 (fun q hq=>(hown5.lt q hq).1) (by intro p hp; simp at hp; subst hp; dsimp only; omega) (by omega)
     have hlist : x.take 0 ++ [o] ++ ([] : List Opn) = x.take 0 ++ o :: x.drop 0:=by rw [List.drop_of_length_le (by omega),List.append_assoc]; rfl
     have hlen : 0 + 1 + 0 = (x.take 0 ++ o :: x.drop 0).length:=by simp only [List.length_append,List.length_take,List.length_drop,List.length_cons]; omega
     rw [← List.map_append,hlist,hlen] at hown6
     obtain ⟨L,hL⟩ : ∃ L,L = x.take 0 ++ o :: x.drop 0:=⟨_,rfl⟩
     rw [← hL] at hown6 HR2
     obtain ⟨B,cc,rfl,p1,_⟩:=ops_own rfl hown6
     have HF:=Lib.hid (And.intro p1 hH6.below)
     clear hown5 hg6 hH5 hH6 hlow hk3 hown6 p1 hlist hlen hL
     go_wp2_with fail
     refine bodyPost_ret (v:=.tuple #[.slice B L.length cc,.int .i64 ((0 : Nat) : Int),.bool true]) (by simp [results,Tryz.results14,go_sem]) rfl ?_
     rw [HR2.out]
     exact ⟨B,cc,rfl,HF.out⟩
    | some ad =>
     by_cases hdk : c = k
     ·subst hdk
      have hlow : w.heap.size < w3.heap.size:=heap_lt (hH3.at 0 rfl)
      have hT3:=(HX.out.below hH3.below).more hH3.below.size
      have hk1 : 0 + c≤maxLen:=by unfold maxLen; omega
      have hk2 : c + 1≤maxLen:=by unfold maxLen; omega
      have hk3 : c + 1 + 0≤maxLen:=by unfold maxLen; omega
      have hTk:=TabIn.take (hT3.below ((Below.refl w3.heap.size w3).alloc (Nat.le_refl _) (.cells #[] 26))) hk
      rw [← List.map_take] at hTk
      go_upto_region 9 with (at_builtin; refine wpList_append_tab rfl (.tmp 45) (.tmp 48) 22 rfl (w.heap.size + 1) 26 i0 _ 13 128 Tryz.underlying22 hi0 hz0 hz1 hz2 rfl (by decide) _ 0 [] rfl (own_empty w3 _ _ _ (by omega)) _ c c w3.heap.size ((x.take c).map opA) rfl hTk hd1 (op_rows _).1 (op_rows _).2 hk1 (by omega) (by simp; omega) ?_; intro v4 w4 hown4 hg4)
      rw [List.nil_append,Nat.zero_add] at hown4
      have hH4:=(hH3.step ((Below.refl w3.heap.size w3).alloc (Nat.le_refl _) (.cells #[] 26))).grown (B:=w.heap.size + 1) hg4 (fun q hq=>((own_empty w3 (w.heap.size + 1) 26 13 (by omega)).lt q hq).1) (by intro p hp; simp at hp; subst hp; dsimp only; omega) (by omega)
      clear hT3 hTk hg4 hH3 hlow hk1
      have hlow : w.heap.size < w4.heap.size:=heap_lt (hH4.at 0 rfl)
      obtain ⟨c0,c1,c2,c3,c4,c5,c6,c7,c8,c9,c10,c11,c12⟩:=op_cells (o:=o) (g:=w.heap.size) (hH4.at 0 rfl)
      go_upto_region 10 with (at_builtin; refine wpList_append_own _ rfl (.tmp 50) (.tmp 52) 22 rfl (w.heap.size + 1) 26 i0 _ 13 128 Tryz.underlying22 hi0 hz0 hz1 hz2 rfl (by decide) _ _ _ rfl (hown4.alloc _) ⟨w4.heap.size,0,none⟩ 1 1 (opA o).toList rfl rfl (row_there w4 _ _) (op_cells1 o) hk2 (by omega) (by simp; omega) ?_; intro v5 w5 hown5 hg5 _)
      rw [flat_op] at hown5
      have hH5:=(hH4.step ((Below.refl w4.heap.size w4).alloc (Nat.le_refl _) (.cells (opA o) 26))).grown (B:=w.heap.size + 1) hg5 (fun q hq=>(hown4.lt q hq).1) (by intro p hp; simp at hp; subst hp; dsimp only; omega) (by omega)
      clear c0 c1 c2 c3 c4 c5 c6 c7 c8 c9 c10 c11 c12 hown4 hg5 hH4 hlow hk2
      have hlow : w.heap.size < w5.heap.size:=heap_lt (hH5.at 0 rfl)
      go_upto_region 11 with (at_builtin; refine wpList_append_tab rfl (.tmp 54) (.tmp 57) 22 rfl (w.heap.size + 1) 26 i0 _ 13 128 Tryz.underlying22 hi0 hz0 hz1 hz2 rfl (by decide) _ _ _ rfl hown5 _ 0 _ w.heap.size (([] : List Opn).map opA) rfl (TabIn.nil 13 w5 w.heap.size _) (fun h=>by cases h) (op_rows _).1 (op_rows _).2 hk3 (by omega) (by omega) ?_; intro v6 w6 hown6 hg6)
      have hH6:=hH5.grown (B:=w.heap.size + 1) hg6 (fun q hq=>(hown5.lt q hq).1) (by intro p hp; simp at hp; subst hp; dsimp only; omega) (by omega)
      have hlist : x.take c ++ [o] ++ ([] : List Opn) = x.take c ++ o :: x.drop c:=by rw [List.drop_of_length_le (by omega),List.append_assoc]; rfl
      have hlen : c + 1 + 0 = (x.take c ++ o :: x.drop c).length:=by simp only [List.length_append,List.length_take,List.length_drop,List.length_cons]; omega
      rw [← List.map_append,hlist,hlen] at hown6
      obtain ⟨L,hL⟩ : ∃ L,L = x.take c ++ o :: x.drop c:=⟨_,rfl⟩
      rw [← hL] at hown6 HR2
      obtain ⟨B,cc,rfl,p1,_⟩:=ops_own rfl hown6
      have HF:=Lib.hid (And.intro p1 hH6.below)
      clear hown5 hg6 hH5 hH6 hlow hk3 hown6 p1 hlist hlen hL
      go_wp2_with fail
      refine bodyPost_ret (v:=.tuple #[.slice B L.length cc,.int .i64 ((c : Nat) : Int),.bool true]) (by simp [results,Tryz.results14,go_sem]) rfl ?_
      rw [HR2.out]
      exact ⟨B,cc,rfl,HF.out⟩
     ·have hck : k < c:=by omega
      have hlow : w.heap.size < w3.heap.size:=heap_lt (hH3.at 0 rfl)
      have hT3:=(HX.out.below hH3.below).more hH3.below.size
      have hk1 : 0 + k≤maxLen:=by unfold maxLen; omega
      have hk2 : k + 1≤maxLen:=by unfold maxLen; omega
      have hk3 : k + 1 + 0≤maxLen:=by unfold maxLen; omega
      have hTk:=TabIn.take (hT3.below ((Below.refl w3.heap.size w3).alloc (Nat.le_refl _) (.cells #[] 26))) hk
      rw [← List.map_take] at hTk
      go_upto_region 9 with (at_builtin; refine wpList_append_tab rfl (.tmp 45) (.tmp 48) 22 rfl (w.heap.size + 1) 26 i0 _ 13 128 Tryz.underlying22 hi0 hz0 hz1 hz2 rfl (by decide) _ 0 [] rfl (own_empty w3 _ _ _ (by omega)) _ k c w3.heap.size ((x.take k).map opA) rfl hTk hd1 (op_rows _).1 (op_rows _).2 hk1 (by omega) (by simp; omega) ?_; intro v4 w4 hown4 hg4)
      rw [List.nil_append,Nat.zero_add] at hown4
      have hH4:=(hH3.step ((Below.refl w3.heap.size w3).alloc (Nat.le_refl _) (.cells #[] 26))).grown (B:=w.heap.size + 1) hg4 (fun q hq=>((own_empty w3 (w.heap.size + 1) 26 13 (by omega)).lt q hq).1) (by intro p hp; simp at hp; subst hp; dsimp only; omega) (by omega)
      clear hT3 hTk hg4 hH3 hlow hk1
      have hlow : w.heap.size < w4.heap.size:=heap_lt (hH4.at 0 rfl)
      obtain ⟨c0,c1,c2,c3,c4,c5,c6,c7,c8,c9,c10,c11,c12⟩:=op_cells (o:=o) (g:=w.heap.size) (hH4.at 0 rfl)
      go_upto_region 10 with (at_builtin; refine wpList_append_own _ rfl (.tmp 50) (.tmp 52) 22 rfl (w.heap.size + 1) 26 i0 _ 13 128 Tryz.underlying22 hi0 hz0 hz1 hz2 rfl (by decide) _ _ _ rfl (hown4.alloc _) ⟨w4.heap.size,0,none⟩ 1 1 (opA o).toList rfl rfl (row_there w4 _ _) (op_cells1 o) hk2 (by omega) (by simp; omega) ?_; intro v5 w5 hown5 hg5 _)
      rw [flat_op] at hown5
      have hH5:=(hH4.step ((Below.refl w4.heap.size w4).alloc (Nat.le_refl _) (.cells (opA o) 26))).grown (B:=w.heap.size + 1) hg5 (fun q hq=>(hown4.lt q hq).1) (by intro p hp; simp at hp; subst hp; dsimp only; omega) (by omega)
      clear c0 c1 c2 c3 c4 c5 c6 c7 c8 c9 c10 c11 c12 hown4 hg5 hH4 hlow hk2
      have hlow : w.heap.size < w5.heap.size:=heap_lt (hH5.at 0 rfl)
      go_upto_region 11 with (at_builtin; refine wpList_append_tab rfl (.tmp 54) (.tmp 57) 22 rfl (w.heap.size + 1) 26 i0 _ 13 128 Tryz.underlying22 hi0 hz0 hz1 hz2 rfl (by decide) _ _ _ rfl hown5 _ 0 _ w.heap.size (([] : List Opn).map opA) rfl (TabIn.nil 13 w5 w.heap.size _) (fun h=>by cases h) (op_rows _).1 (op_rows _).2 hk3 (by omega) (by omega) ?_; intro v6 w6 hown6 hg6)
      have hH6:=hH5.grown (B:=w.heap.size + 1) hg6 (fun q hq=>(hown5.lt q hq).1) (by intro p hp; simp at hp; subst hp; dsimp only; omega) (by omega)
      have hlist : x.take k ++ [o] ++ ([] : List Opn) = x.take k ++ o :: x.drop k:=by rw [List.drop_of_length_le (by omega),List.append_assoc]; rfl
      have hlen : k + 1 + 0 = (x.take k ++ o :: x.drop k).length:=by simp only [List.length_append,List.length_take,List.length_drop,List.length_cons]; omega
      rw [← List.map_append,hlist,hlen] at hown6
      obtain ⟨L,hL⟩ : ∃ L,L = x.take k ++ o :: x.drop k:=⟨_,rfl⟩
      rw [← hL] at hown6 HR2
      obtain ⟨B,cc,rfl,p1,_⟩:=ops_own rfl hown6
      have HF:=Lib.hid (And.intro p1 hH6.below)
      clear hown5 hg6 hH5 hH6 hlow hk3 hown6 p1 hlist hlen hL
      go_wp2_with fail
      refine bodyPost_ret (v:=.tuple #[.slice B L.length cc,.int .i64 ((k : Nat) : Int),.bool true]) (by simp [results,Tryz.results14,go_sem]) rfl ?_
      rw [HR2.out]
      exact ⟨B,cc,rfl,HF.out⟩

end Go.Proofs.YtdobeghbkonimaaGreatDoor

namespace Go.Proofs.YtdobeghbkonimaaGreatDoor.GraphMath
open StampMath OpMath ExtentMath

def firstO (l : List Opn) (s : St) : Option Opn:=l.find? fun b=>mayO b && decide (oSt b = s)

theorem first_snoc (l : List Opn) (o : Opn) (s : St) : firstO (l ++ [o]) s = if (firstO l s).isSome then firstO l s else if mayO o = true∧oSt o = s then some o else none:=by
 unfold firstO
 rw [List.find?_append]
 cases h : l.find? (fun b=>mayO b && decide (oSt b = s)) with
 | some x=>rfl
 | none =>
  rw [Option.none_or]
  by_cases q : mayO o = true∧oSt o = s
  ·rw [if_neg (by simp),if_pos q,List.find?_cons_of_pos (by simp [q])]
  ·rw [if_neg (by simp),if_neg q,List.find?_cons_of_neg (by simpa using q),List.find?_nil]

theorem mem_sort {l : List Opn} {a : Opn} : a∈sortO l ↔ firstO l (oSt a) = some a:=by
 have key : ∀ k,k≤l.length→∀ a,a∈putsO [] (l.take k) ↔ firstO (l.take k) (oSt a) = some a:=by
  intro k
  induction k with
  | zero=>intro _ a; exact ⟨fun h=>(nomatch h),fun h=>by cases h⟩
  | succ k ih =>
   intro hk a
   have lk : k < l.length:=by omega
   have ih:=ih (by omega)
   have hh : ∀ s,hasO (putsO [] (l.take k)) s = (firstO (l.take k) s).isSome:=fun s=>by
    rw [Bool.eq_iff_iff,hasO_iff]
    constructor
    ·rintro ⟨b,hb,rfl⟩
     rw [(ih b).1 hb]; rfl
    ·intro h
     cases hf : firstO (l.take k) s with
     | none=>rw [hf] at h; cases h
     | some b =>
      have hb : oSt b = s:=by
       have:=List.find?_some hf
       simp only [Bool.and_eq_true,decide_eq_true_iff] at this
       exact this.2
      exact ⟨b,(ih b).2 (by rw [hb]; exact hf),hb⟩
   rw [puts_snoc [] lk,put_mem,List.take_succ_eq_append_getElem lk,first_snoc,hh,ih a]
   cases hf : firstO (l.take k) (oSt a) with
   | some b =>
    rw [if_pos (by rfl)]
    constructor
    ·rintro (q | ⟨rfl,_,q⟩)
     ·exact q
     ·rw [hf] at q; cases q
    ·exact Or.inl
   | none =>
    rw [if_neg (by simp)]
    constructor
    ·rintro (q | ⟨rfl,q,_⟩)
     ·cases q
     ·rw [if_pos ⟨q,rfl⟩]
    ·intro q
     by_cases c : mayO l[k] = true∧oSt l[k] = oSt a
     ·rw [if_pos c] at q
      injection q with q
      subst q
      exact Or.inr ⟨rfl,c.1,by rw [hf]; rfl⟩
     ·rw [if_neg c] at q; cases q
 have:=key l.length (Nat.le_refl _) a
 rwa [List.take_length] at this

theorem sort_stamp {l : List Opn} {b : Opn} (hb : b∈l) (hm : mayO b = true) : ∃ a∈sortO l,oSt a = oSt b:=by
 cases hf : firstO l (oSt b) with
 | none =>
  have:=List.find?_eq_none.1 hf b hb
  simp [hm] at this
 | some a =>
  have h:=List.find?_some hf
  simp only [Bool.and_eq_true,decide_eq_true_iff] at h
  exact ⟨a,mem_sort.2 (by rw [h.2]; exact hf),h.2⟩

def scanO (l : List Opn) (ok : Opn→Bool) : Nat→Option Nat
 | 0=>none
 | k + 1=>match l[k]?,scanO l ok k with
  | none,p=>p
  | some b,none=>if ok b then some k else none
  | some b,some p=>if ok b && lessS (oSt b) (((l[p]?).map oSt).getD (0,0)) then some k else some p

theorem scan_next (l : List Opn) (ok : Opn→Bool) {k : Nat} (h : k < l.length) : scanO l ok (k + 1) = match scanO l ok k with
  | none=>if ok l[k] then some k else none
  | some p=>if ok l[k] && lessS (oSt l[k]) (((l[p]?).map oSt).getD (0,0)) then some k else some p:=by
 show (match l[k]?,scanO l ok k with | none,p=>p | some b,none=>_ | some b,some p=>_) = _
 rw [List.getElem?_eq_getElem h]
 cases scanO l ok k <;> rfl

structure Scanned (l : List Opn) (ok : Opn→Bool) (k p : Nat) (hp : p < l.length) : Prop where
 lt : p < k
 is : ok l[p] = true
 least : ∀ i (h : i < l.length),i < k→ok l[i] = true→lessS (oSt l[i]) (oSt l[p]) = false
 first : ∀ i (h : i < l.length),i < p→ok l[i] = true→oSt l[i] ≠ oSt l[p]

theorem scan_is (l : List Opn) (ok : Opn→Bool) : ∀ k,k≤l.length→(scanO l ok k = none→∀ i (h : i < l.length),i < k→ok l[i] = false)∧∀ p,scanO l ok k = some p→∃ hp : p < l.length,Scanned l ok k p hp
 | 0,_=>⟨fun _ i _ h=>by omega,fun p h=>by cases h⟩
 | k + 1,hk=>by
  have lk : k < l.length:=by omega
  obtain ⟨h1,h2⟩:=scan_is l ok k (by omega)
  rw [scan_next l ok lk]
  cases hs : scanO l ok k with
  | none =>
   have h1:=h1 hs
   dsimp only
   by_cases c : ok l[k] = true
   ·rw [if_pos c]
    refine ⟨fun q=>by (cases q),fun p q=>?_⟩
    cases q
    refine ⟨lk,Nat.lt_succ_self _,c,fun i hi hik hc=>?_,fun i hi hik hc=>?_⟩
    ·by_cases e : i = k
     ·subst e; exact lessS_irrefl _
     ·rw [h1 i hi (by omega)] at hc; cases hc
    ·rw [h1 i hi hik] at hc; cases hc
   ·rw [if_neg c]
    refine ⟨fun _ i hi hik=>?_,fun p q=>by (cases q)⟩
    by_cases e : i = k
    ·subst e; cases h : ok l[i] <;> simp_all
    ·exact h1 i hi (by omega)
  | some p =>
   obtain ⟨hp,S⟩:=h2 p hs
   dsimp only
   rw [List.getElem?_eq_getElem hp]
   show (_→_)∧∀ q,(if ok l[k] && lessS (oSt l[k]) (oSt l[p]) then some k else some p) = some q→_
   by_cases c : (ok l[k] && lessS (oSt l[k]) (oSt l[p])) = true
   ·rw [if_pos (show (ok l[k] && lessS (oSt l[k]) (((some l[p]).map oSt).getD (0,0))) = true from c),if_pos c]
    rw [Bool.and_eq_true] at c
    refine ⟨fun q=>by (cases q),fun q e=>?_⟩
    cases e
    refine ⟨lk,Nat.lt_succ_self _,c.1,fun i hi hik hc=>?_,fun i hi hik hc e=>?_⟩
    ·by_cases e : i = k
     ·subst e; exact lessS_irrefl _
     ·rw [Bool.eq_false_iff]
      intro r
      have:=S.least i hi (by omega) hc
      rw [lessS_trans r c.2] at this
      cases this
    ·have:=S.least i hi hik hc
     rw [e,c.2] at this
     cases this
   ·rw [if_neg (show ¬ (ok l[k] && lessS (oSt l[k]) (((some l[p]).map oSt).getD (0,0))) = true from c),if_neg c]
    refine ⟨fun q=>by (cases q),fun q e=>?_⟩
    cases e
    refine ⟨hp,by have:=S.lt; omega,S.is,fun i hi hik hc=>?_,S.first⟩
    by_cases e : i = k
    ·subst e
     rw [hc,Bool.true_and] at c
     cases h : lessS (oSt l[i]) (oSt l[p]) <;> simp_all
    ·exact S.least i hi (by omega) hc

def leftO (out : List Opn) (a : Opn) : Bool:=mayO a && (match out.getLast? with | none=>true | some z=>lessS (oSt z) (oSt a))

theorem scan_sort {l : List Opn} {j : Nat} (hj : j≤(sortO l).length) :
  (scanO l (leftO ((sortO l).take j)) l.length = none→j = (sortO l).length) ∧
  ∀ p,scanO l (leftO ((sortO l).take j)) l.length = some p→∃ hp : p < l.length,∃ hs : j < (sortO l).length,l[p] = (sortO l)[j]:=by
 have hR:=sort_rises l
 have hlast : ∀ i (hi : i < (sortO l).length),leftO ((sortO l).take j) (sortO l)[i] = decide (j≤i):=fun i hi=>by
  unfold leftO
  rw [sort_may l _ (List.getElem_mem hi),Bool.true_and]
  cases j with
  | zero=>rw [List.take_zero]; simp
  | succ j =>
   have hj' : j < (sortO l).length:=by omega
   rw [List.take_succ_eq_append_getElem hj',List.getLast?_append,List.getLast?_singleton]
   show lessS (oSt (sortO l)[j]) (oSt (sortO l)[i]) = _
   rcases Nat.lt_trichotomy j i with q | q | q
   ·rw [List.pairwise_iff_getElem.1 hR j i hj' hi q,decide_eq_true (show j + 1≤i by omega)]
   ·subst q; rw [lessS_irrefl]; simp
   ·rw [lessS_le (List.pairwise_iff_getElem.1 hR i j hi hj' q)]; simp; omega
 have hst : ∀ a b : Opn,oSt a = oSt b→mayO a = true→mayO b = true→leftO ((sortO l).take j) a = leftO ((sortO l).take j) b:=fun a b e h1 h2=>by
  unfold leftO
  rw [e,h1,h2]
 obtain ⟨h1,h2⟩:=scan_is l (leftO ((sortO l).take j)) l.length (Nat.le_refl _)
 constructor
 ·intro hn
  refine Classical.byContradiction fun q=>?_
  have hs : j < (sortO l).length:=by omega
  obtain ⟨i,hi,e⟩:=List.getElem_of_mem (sort_sub _ (List.getElem_mem hs))
  have:=h1 hn i hi hi
  rw [e,hlast j hs] at this
  simp at this
 ·intro p hp
  obtain ⟨hpl,S⟩:=h2 p hp
  have hmp : mayO l[p] = true:=by
   have:=S.is
   unfold leftO at this
   rw [Bool.and_eq_true] at this
   exact this.1
  obtain ⟨a,ha,e⟩:=sort_stamp (List.getElem_mem hpl) hmp
  obtain ⟨i,hi,rfl⟩:=List.getElem_of_mem ha
  have hji : j≤i:=by
   have:=hst _ _ e (sort_may l _ ha) hmp
   rw [S.is,hlast i hi,decide_eq_true_iff] at this
   exact this
  have hs : j < (sortO l).length:=by omega
  refine ⟨hpl,hs,?_⟩
  have hij : i = j:=by
   refine Classical.byContradiction fun q=>?_
   have hlt:=List.pairwise_iff_getElem.1 hR j i hs hi (by omega)
   obtain ⟨r,hr,er⟩:=List.getElem_of_mem (sort_sub _ (List.getElem_mem hs))
   have:=S.least r hr hr (by rw [er,hlast j hs]; simp)
   rw [er,← e,hlt] at this
   cases this
  subst hij
  -- both are the first ones of their stamp
  have hf:=mem_sort.1 (List.getElem_mem hs)
  obtain ⟨r,hr,er⟩:=List.getElem_of_mem (sort_sub _ (List.getElem_mem hs))
  have hfp : firstO l (oSt (sortO l)[i]) = some l[p]:=by
   unfold firstO
   rw [List.find?_eq_some_iff_getElem]
   refine ⟨by simp [hmp,e],p,hpl,rfl,fun q hq=>?_⟩
   have hq' : q < l.length:=by omega
   by_cases hm : mayO l[q] = true
   ·have hne : oSt l[q] ≠ oSt (sortO l)[i]:=fun hx=>by
     have : leftO ((sortO l).take i) l[q] = true:=by rw [hst l[q] l[p] (hx.trans e) hm hmp]; exact S.is
     exact S.first q hq' hq this (hx.trans e)
    simp [hne]
   ·simp [hm]
  rw [hf] at hfp
  injection hfp with hfp
  exact hfp.symm

end Go.Proofs.YtdobeghbkonimaaGreatDoor.GraphMath
