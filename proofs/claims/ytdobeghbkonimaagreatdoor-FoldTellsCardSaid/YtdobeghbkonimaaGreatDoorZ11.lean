/-
 What the statements of layer 10 need of the landed audit: Check and Fine.
-/
import Derived.Test.YtdobeghbkonimaaGreatDoorZ10
import Derived.Test.YtdobeghbkonimaaGreatDoorZ10
import Derived.Test.YtdobeghbkonimaaGreatDoorZ10
import Derived.Deep.LoopGhost
import Derived.Laws.EntriesVeiled
import Derived.Test.YtdobeghbkonimaaGreatDoorZ08
import Derived.Test.YtdobeghbkonimaaGreatDoorZ09
import Derived.Test.YtdobeghbkonimaaGreatDoorZ09
import Derived.Test.YtdobeghbkonimaaGreatDoorZ01
import Derived.Test.YtdobeghbkonimaaGreatDoorZ04
import Derived.Test.YtdobeghbkonimaaGreatDoorZ00
import Derived.Test.YtdobeghbkonimaaGreatDoorZ00
import Derived.Lib.AppendZeros
import Derived.Lib.SliceRun
import Derived.WalkLawsBesides
import Derived.Deep.QuietTactic
import Derived.BigQuiet
namespace Go.Proofs.YtdobeghbkonimaaGreatDoor
open Go.RowKit StampMath GraphMath OpMath

section
variable (A A' : Option Addr) (n c m d bk bl : Nat) (N : List Ino) (E : List Ent) (w : World) (h : Given w A n N A' m E) (hL : Looked w bk bl N E)
include h hL

set_option maxRecDepth 100000 in
set_option maxHeartbeats 1600000 in
theorem apart_code : Calls Tryz.prog 96 #[.agg #[.slice A n c,.slice A' m d,.map (some bk),.map (some bl)]] w fun e w'=>e = .returned (.bool (badB (apartOk N E)))∧Below w.heap.size w w':=by
 obtain ⟨hb0,he0,hg0,hl0⟩:=box_held A A' n c m d bk bl N E w h hL
 obtain ⟨K,hk1,hk2⟩:=hL.kinds
 have HR : Hid (∀ W : World,Below w.heap.size w W→Calls Tryz.prog 152 #[.agg #[.slice A n c,.slice A' m d,.map (some bk),.map (some bl)]] W fun e w'=>∃ (A : Option Addr) (c : Nat) (F : List St),e = .returned (.slice A F.length c)∧F.Nodup∧(∀ s,s∈F ↔ Reached N E s)∧Below W.heap.size W w'):=fun W hW=>(reached_code A A' n c m d bk bl N E W (h.below hW) (hL.below hW)).mono fun _ _ ⟨v,F,q1,q2,q3,q4,q5⟩=>by
  obtain ⟨A,c,rfl,_⟩:=sts_own rfl q4
  exact ⟨A,c,F,q1,q2,q3,q5⟩
 have hlen : ∀ W : World,Below w.heap.size w W→(Builtin.len_ #[132] 3 #[.map (some bk)]).run Tryz.prog W = .ok (.int .i64 (K.length : Int)) W:=fun W hW=>(hk1.kept (hW.block _ hL.lt.1)).len Tryz.underlying132 _
 have HLen:=Lib.hid hlen
 have HK1:=Lib.hid hk1.keys
 have HK2:=Lib.hid hk2
 clear h hL hg0 hl0 hlen hk1 hk2
 go_enter Tryz.func96,Tryz.ntmps96
 go_upto_region 1 with fail
 change Code.wp _ _ _ _ (w.alloc (.cells (listsA A A' n c m d bk bl) 134))
 generalize w.alloc (.cells (listsA A A' n c m d bk bl) 134) = w1 at he0 hb0 ⊢
 obtain ⟨c0,c1,c2,c3⟩:=lists_cells he0
 have hl1:=HLen.out _ hb0
 have hl2:=HLen.out _ hb0.drew
 go_region_with (first
  | (go_at_call 152; (with_reducible refine (HR.out _ (by repeat (first | assumption | apply Below.drew | refine below_step ?_ (by assumption)))).mono ?_); rintro zz w2 ⟨A2,c2',F,rfl,hF1,hF2,hb2⟩; have HF1:=Lib.hid hF1; have HF2:=Lib.hid hF2; clear hF1 hF2; have c0:=cell_later hb2 c0; have c1:=cell_later hb2 c1; have c2:=cell_later hb2 c2; have c3:=cell_later hb2 c3; have hl3:=HLen.out w2 (below_step hb0.drew hb2); have HB2:=Lib.hid (below_step hb0.drew hb2)))
 all_goals
  go_wp2_with fail
  go_ret
  exact ⟨by rw [apart_bad HF1.out HF2.out HK1.out HK2.out,show decide ((F.length : Int) < (K.length : Int)) = decide (F.length < K.length) by simp]; rfl,HB2.out⟩

end

noncomputable def faultK (N : List Ino) (E : List Ent) (k : Nat) : Bool :=
 if k = 1 then badB (orderOk N E) else if k = 2 then badB (shapeOk N E) else if k = 3 then badB (lostOk N E) else if k = 4 then badB (countOk N E) else if k = 5 then badB (manyOk N E) else if k = 6 then badB (apartOk N E) else if k = 7 then badB (boundsOk N) else false

noncomputable def faultsL (N : List Ino) (E : List Ent) (k : Nat) : List Int:=((List.range k).filter (faultK N E)).map fun (j : Nat)=>(j : Int)

theorem faultsL_succ (N : List Ino) (E : List Ent) (k : Nat) : faultsL N E (k + 1) = faultsL N E k ++ if faultK N E k = true then [(k : Int)] else []:=by
 unfold faultsL
 rw [List.range_succ,List.filter_append,List.map_append]
 congr 1
 by_cases h : faultK N E k = true
 ·rw [if_pos h,List.filter_cons,if_pos h]
  rfl
 ·rw [if_neg h,List.filter_cons,if_neg h]
  rfl

theorem faultsL_len (N : List Ino) (E : List Ent) (k : Nat) : (faultsL N E k).length≤k:=by
 unfold faultsL
 rw [List.length_map]
 exact Nat.le_trans (List.length_filter_le _ _) (by simp)

theorem faultK_iff (N : List Ino) (E : List Ent) (k : Nat) : faultK N E k = true ↔ faultOf N E (k : Int):=by
 unfold faultOf faultK
 by_cases h : k≤7
 ·have h7 : k = 0∨k = 1∨k = 2∨k = 3∨k = 4∨k = 5∨k = 6∨k = 7:=by omega
  rcases h7 with rfl | rfl | rfl | rfl | rfl | rfl | rfl | rfl <;> simp [badB_iff]
 ·rw [if_neg (by omega),if_neg (by omega),if_neg (by omega),if_neg (by omega),if_neg (by omega),if_neg (by omega),if_neg (by omega)]
  constructor
  ·intro q; cases q
  ·rintro (⟨q,_⟩ | ⟨q,_⟩ | ⟨q,_⟩ | ⟨q,_⟩ | ⟨q,_⟩ | ⟨q,_⟩ | ⟨q,_⟩) <;> omega

theorem faults_check (N : List Ino) (E : List Ent) : IsCheck N E (faultsL N E 8):=by
 constructor
 ·unfold faultsL
  rw [List.pairwise_map]
  refine (List.Pairwise.filter _ List.pairwise_lt_range).imp fun h=>?_
  omega
 ·intro k
  unfold faultsL
  rw [List.mem_map]
  constructor
  ·rintro ⟨j,hj,rfl⟩
   exact (faultK_iff N E j).1 (List.mem_filter.1 hj).2
  ·intro h
   have hk : ∃ j : Nat,j < 8∧k = (j : Int):=by
    refine ⟨k.toNat,?_⟩
    rcases h with ⟨q,_⟩ | ⟨q,_⟩ | ⟨q,_⟩ | ⟨q,_⟩ | ⟨q,_⟩ | ⟨q,_⟩ | ⟨q,_⟩ <;> omega
   obtain ⟨j,hj,rfl⟩:=hk
   exact ⟨j,List.mem_filter.2 ⟨List.mem_range.2 hj,(faultK_iff N E j).2 h⟩,rfl⟩

theorem int_infos : (Tryz.prog.info? 3).map (fun i=>(i.zero,i.size,i.bytes)) = some (some (.int .i64 0),1,8):=by kernel_rfl

set_option maxRecDepth 100000 in
set_option maxHeartbeats 4000000 in
theorem check_code (A A' : Option Addr) (n c m d : Nat) (N : List Ino) (E : List Ent) (w : World) (h : Given w A n N A' m E) :
  Calls Tryz.prog 57 #[.slice A n c,.slice A' m d] w fun e w'=>∃ v : Value,e = .returned v∧w'.ownsRow w.heap.size 3 1 v (faultsL N E 8).length (intV (faultsL N E 8))∧Below w.heap.size w w':=by
 obtain ⟨i0,hi0,hz0,hz1,hz2⟩:=info_parts int_infos
 have HG:=Lib.hid h
 clear h
 go_enter Tryz.func57,Tryz.ntmps57
 go_upto_region 2 with fail
 have hb0 : Below w.heap.size w (w.alloc (.cells #[.nilFunc,.func (.func 91) #[] #[],.func (.func 92) #[] #[],.func (.func 93) #[] #[],.func (.func 94) #[] #[],.func (.func 95) #[] #[],.func (.func 96) #[] #[],.func (.func 97) #[] #[]] 135)):=(Below.refl _ _).alloc (Nat.le_refl _) _
 have he0:=heap_alloc_new w (.cells #[.nilFunc,.func (.func 91) #[] #[],.func (.func 92) #[] #[],.func (.func 93) #[] #[],.func (.func 94) #[] #[],.func (.func 95) #[] #[],.func (.func 96) #[] #[],.func (.func 97) #[] #[]] 135)
 obtain ⟨s,hs⟩ : ∃ s,s = w.heap.size:=⟨_,rfl⟩
 rw [← hs] at he0 ⊢
 generalize w.alloc (.cells #[.nilFunc,.func (.func 91) #[] #[],.func (.func 92) #[] #[],.func (.func 93) #[] #[],.func (.func 94) #[] #[],.func (.func 95) #[] #[],.func (.func 96) #[] #[],.func (.func 97) #[] #[]] 135) = w1 at he0 hb0 ⊢
 have HE0:=Lib.hid he0
 have HB0:=Lib.hid hb0
 clear hs he0 hb0
 go_wp2_with fail
 refine (auLook_code A A' n c m d N E w1 (HG.out.below HB0.out)).mono ?_
 rintro e w2 ⟨bk,bl,rfl,hL2,hb2⟩
 have he2:=(hb2.block _ (heap_lt HE0.out)).trans HE0.out
 have hB2:=below_step HB0.out hb2
 go_upto_region 3 with fail
 change Code.wp _ _ _ _ (w2.alloc (.cells (listsA A A' n c m d bk bl) 134))
 obtain ⟨u,hu⟩ : ∃ u,u = w2.heap.size:=⟨_,rfl⟩
 have hbA : Below w2.heap.size w2 (w2.alloc (.cells (listsA A A' n c m d bk bl) 134)):=(Below.refl _ _).alloc (Nat.le_refl _) _
 have hu3 : (w2.alloc (.cells (listsA A A' n c m d bk bl) 134)).heap[u]? = some (.cells (listsA A A' n c m d bk bl) 134 (0,0)):=by rw [hu]; exact heap_alloc_new _ _
 rw [← hu]
 generalize w2.alloc (.cells (listsA A A' n c m d bk bl) 134) = wb at hbA hu3 ⊢
 have he3:=(hbA.block _ (heap_lt he2)).trans he2
 have HL:=Lib.hid (hL2.below hbA)
 have HB:=Lib.hid (below_step hB2 hbA)
 have HG3:=Lib.hid (HG.out.below HB.out)
 have HE3:=Lib.hid he3
 have HU3:=Lib.hid hu3
 clear HE0 HB0 hL2 hb2 he2 hB2 hu hbA hu3 he3 HG
 go_wp2_with fail
 go_loopg [7,8] 10 (fun gk v i wr=>∃ k : Nat,i = .int .i64 (k : Int)∧gk + k = 11∧1≤k∧k≤8∧wr.ownsRow wb.heap.size 3 1 v (faultsL N E k).length (intV (faultsL N E k))∧Hid (Below wb.heap.size wb wr))
 case atStart=>exact ⟨1,rfl,rfl,by omega,by omega,World.ownsRow_nil _ _ _ _,Below.refl _ _⟩
 case round =>
  obtain ⟨k,rfl,hgk,hk1,hk8,hown,hB⟩:=hrel
  have hs:=hB.out.size
  by_cases hlt : k < 8
  ·have q0:=(hB.out.block _ (heap_lt HE3.out)).trans HE3.out
   have q1:=(hB.out.block _ (heap_lt HU3.out)).trans HU3.out
   have hBy : ∀ y,Below wb.heap.size wb (later wr y):=fun y=>hB.out.trans ((later_below wr y).mono hs)
   have H1:=Lib.hid fun (y : World)=>later_call (disordered_code A A' n c m d bk bl N E (later wr y) (HG3.out.below (hBy y)) (HL.out.below (hBy y)))
   have H2:=Lib.hid fun (y : World)=>later_call (misshapen_code A A' n c m d bk bl N E (later wr y) (HG3.out.below (hBy y)) (HL.out.below (hBy y)))
   have H3:=Lib.hid fun (y : World)=>later_call (lost_code A A' n c m d bk bl N E (later wr y) (HG3.out.below (hBy y)) (HL.out.below (hBy y)))
   have H4:=Lib.hid fun (y : World)=>later_call (miscounted_code A A' n c m d bk bl N E (later wr y) (HG3.out.below (hBy y)) (HL.out.below (hBy y)))
   have H5:=Lib.hid fun (y : World)=>later_call (mislinked_code A A' n c m d bk bl N E (later wr y) (HG3.out.below (hBy y)) (HL.out.below (hBy y)))
   have H6:=Lib.hid fun (y : World)=>later_call (apart_code A A' n c m d bk bl N E (later wr y) (HG3.out.below (hBy y)) (HL.out.below (hBy y)))
   have H7:=Lib.hid fun (y : World)=>later_call (unbounded_code A A' n c m d bk bl N E (later wr y) (HG3.out.below (hBy y)) (HL.out.below (hBy y)))
   obtain ⟨k2,hk2⟩ : ∃ k2,k2 = k + 1:=⟨_,rfl⟩
   have hnx:=faultsL_succ N E k
   rw [← hk2] at hnx
   have HK2:=Lib.hid hk2
   clear hk2
   have hln:=faultsL_len N E k
   obtain ⟨b,hb⟩ : ∃ b,b = faultK N E k:=⟨_,rfl⟩
   rw [← hb] at hnx
   generalize faultsL N E k = l at hnx hln hown
   have HNx:=Lib.hid hnx
   obtain ⟨c0,c1,c2,c3⟩:=lists_cells q1
   have l0:=later_cell c0
   have l1:=later_cell c1
   have l2:=later_cell c2
   have l3:=later_cell c3
   have a1:=later_cell (cell_of_row _ _ 1 _ _ (0,0) q0)
   have a2:=later_cell (cell_of_row _ _ 2 _ _ (0,0) q0)
   have a3:=later_cell (cell_of_row _ _ 3 _ _ (0,0) q0)
   have a4:=later_cell (cell_of_row _ _ 4 _ _ (0,0) q0)
   have a5:=later_cell (cell_of_row _ _ 5 _ _ (0,0) q0)
   have a6:=later_cell (cell_of_row _ _ 6 _ _ (0,0) q0)
   have a7:=later_cell (cell_of_row _ _ 7 _ _ (0,0) q0)
   clear hnx hBy q0 q1 c0 c1 c2 c3
   have h7 : k = 1∨k = 2∨k = 3∨k = 4∨k = 5∨k = 6∨k = 7:=by omega
   rcases h7 with rfl | rfl | rfl | rfl | rfl | rfl | rfl
   all_goals
    simp [faultK] at hb
    cases b
    ·have hb2:=hb.symm
     rw [if_neg (by decide),List.append_nil] at HNx
     try simp only [hb2] at H1
     try simp only [hb2] at H2
     try simp only [hb2] at H3
     try simp only [hb2] at H4
     try simp only [hb2] at H5
     try simp only [hb2] at H6
     try simp only [hb2] at H7
     clear hb hb2
     go_upto_region 7 with fail
     refine wp_region_later (by kernel_rfl) (by kernel_rfl) ?_
     repeat (go_big_quiet_step (first | (with_reducible exact H1.out _) | (with_reducible exact H2.out _) | (with_reducible exact H3.out _) | (with_reducible exact H4.out _) | (with_reducible exact H5.out _) | (with_reducible exact H6.out _) | (with_reducible exact H7.out _)))
     refine wpQuiet_nil ?_
     intro _ hw'
     obtain ⟨y,rfl⟩:=hw'
     have hB3:=Lib.hid (hB.out.trans ((later_below wr y).mono hs))
     have hown3:=own_call hown (later_below wr y)
     clear l0 l1 l2 l3 a1 a2 a3 a4 a5 a6 a7 H1 H2 H3 H4 H5 H6 H7 hown
     generalize later wr y = w3 at hB3 hown3 ⊢
     go_wp2_with fail
     go_roundg (gk - 1)
     case measure=>omega
     case rel =>
      have hk2:=HK2.out
      exact ⟨k2,by rw [hk2]; go_num,by omega,by omega,by omega,by rw [HNx.out]; exact hown3,hB3⟩
    ·have hb2:=hb.symm
     rw [if_pos rfl] at HNx
     try simp only [hb2] at H1
     try simp only [hb2] at H2
     try simp only [hb2] at H3
     try simp only [hb2] at H4
     try simp only [hb2] at H5
     try simp only [hb2] at H6
     try simp only [hb2] at H7
     clear hb hb2
     go_upto_region 7 with fail
     refine wp_region_later (by kernel_rfl) (by kernel_rfl) ?_
     repeat (go_big_quiet_step (first | (with_reducible exact H1.out _) | (with_reducible exact H2.out _) | (with_reducible exact H3.out _) | (with_reducible exact H4.out _) | (with_reducible exact H5.out _) | (with_reducible exact H6.out _) | (with_reducible exact H7.out _)))
     refine wpQuiet_nil ?_
     intro _ hw'
     obtain ⟨y,rfl⟩:=hw'
     have hB3:=hB.out.trans ((later_below wr y).mono hs)
     have hown3:=own_call hown (later_below wr y)
     clear l0 l1 l2 l3 a1 a2 a3 a4 a5 a6 a7 H1 H2 H3 H4 H5 H6 H7 hown
     generalize later wr y = w3 at hB3 hown3 ⊢
     have hs3:=hB3.size
     have hm1 : l.length + 1≤maxLen:=by unfold maxLen; omega
     go_wp2_with (at_builtin; refine wpList_append_own _ (by rfl) (.tmp 22) (.tmp 24) 92 (by rfl) wb.heap.size 3 i0 _ 1 8 Tryz.underlying92 hi0 hz0 hz1 hz2 (by rfl) (by decide) _ _ _ (by rfl) (hown3.alloc _) ⟨w3.heap.size,0,none⟩ 1 1 _ (by rfl) (by rfl) (int_there w3 3 _) (int_one _) hm1 (by omega) (by simp; omega) ?_; intro v2 w11 hown11 hg11 _)
     have hb11:=Lib.hid ((hB3.alloc hB3.size _).grown hg11 (hB3.alloc hB3.size _).size (fun q hq=>(hown3.lt q hq).1))
     go_roundg (gk - 1)
     case measure=>omega
     case rel =>
      have hk2:=HK2.out
      refine ⟨k2,by rw [hk2]; go_num,by omega,by omega,by omega,?_,hb11⟩
      rw [HNx.out,List.length_append,show ∀ x : Int,intV (l ++ [x]) = intV l ++ intV [x] from fun x=>by simp [intV]]
      exact hown11
  ·obtain rfl : k = 8:=by omega
   go_wp2_with fail
   go_ret
   exact ⟨_,rfl,own_lower hown HB.out.size,HB.out.trans (hB.out.mono HB.out.size)⟩

set_option maxRecDepth 100000 in
theorem fine_code (A A' : Option Addr) (n c m d : Nat) (N : List Ino) (E : List Ent) (w : World) (h : Given w A n N A' m E) :
  Calls Tryz.prog 30 #[.slice A n c,.slice A' m d] w fun e w'=>e = .returned (.bool (decide (faultsL N E 8 = [])))∧Below w.heap.size w w':=by
 have HC:=Lib.hid (check_code A A' n c m d N E w h)
 have hl8:=faultsL_len N E 8
 clear h
 generalize faultsL N E 8 = l at HC hl8 ⊢
 go_enter Tryz.func30,Tryz.ntmps30
 go_wp2_with fail
 refine HC.out.mono ?_
 rintro e w2 ⟨v,rfl,hown,hb2⟩
 obtain ⟨A2,c2,rfl,_⟩:=ints_own hown
 cases l with
 | nil =>
  go_wp2_with fail
  go_ret
  exact ⟨rfl,hb2⟩
 | cons x l =>
  go_wp2_with fail
  go_ret
  exact ⟨by simp; omega,hb2⟩

theorem auditAsk : AuditAsk where
 check:=fun A n c N A' m d E w h=>(check_code A A' n c m d N E w h).mono fun _ _ ⟨v,q1,q2,q3⟩=>⟨v,_,q1,faults_check N E,q2,q3⟩
 fine:=fun A n c N A' m d E w h=>(fine_code A A' n c m d N E w h).mono fun _ _ ⟨q1,q2⟩=>⟨_,q1,by rw [decide_eq_true_iff]; exact fineP_iff (faults_check N E),q2⟩

end Go.Proofs.YtdobeghbkonimaaGreatDoor

namespace Go.Proofs.YtdobeghbkonimaaGreatDoor
open Go.RowKit StampMath GraphMath OpMath PackMath ExtentMath

theorem applyHave : ApplyHave graphHave where
 why:=fun a S g o w _ h hf ho=>why_code graphHave a S g o w h hf.ok ho
 does:=fun a S g o w _ h _ hf ho=>(do_core graphHave extentHave (bare w) w _ a g o (bare_gx h hf.ok) hf ho).mono fun _ _ ⟨he,k⟩=>by
  obtain ⟨S',q⟩:=gx_bare k
  exact ⟨S',he,q⟩
 nilDo:=fun o w _ _=>do_nil o w
 may:=fun o w _ ho=>opMay_any o w ho.ok ho.name ho.new ho.data
 makes:=fun o w _ _=>makes_any o w
 fine:=auditAsk.fine

end Go.Proofs.YtdobeghbkonimaaGreatDoor

namespace Go.Proofs.YtdobeghbkonimaaGreatDoor
open Go.RowKit Go.Shelf Go.Sort StampMath GraphMath OpMath PackMath StableM

theorem stable_none (cap : Nat) (fv : Value) (w : World) : Calls Tryz.prog 67 #[.slice none 0 cap,.int .i64 0,fv] w fun r w'=>r = .returned (.tuple #[])∧w' = w:=by
 have HI : Hid (∀ W,Calls Tryz.prog 119 #[.slice none 0 cap,.int .i64 0,.int .i64 0,fv] W fun e w'=>e = .returned (.tuple #[])∧w' = W):=fun W=>AnyF.insertionSortCmpFunc_none Tryz.insOp none cap fv W
 go_enter Tryz.func67,Tryz.ntmps67
 go_wp2
 refine wp_loop_rounds 1 ?_
 rw [rounds_succ]
 go_wp2_with fail
 refine (HI.out _).mono ?_
 rintro e w1 ⟨rfl,rfl⟩
 go_wp2
 refine wp_loop_rounds 1 ?_
 rw [rounds_succ]
 go_wp2
 go_end0
 exact ⟨rfl,rfl⟩

theorem stable_own {w : World} {base : Nat} {e : TypeId} {v : Value} {n : Nat} {xs : List Opn} (hn : xs.length = n) (h : w.ownsRow base e 13 v n (flat (xs.map opA))) (hsz : n < 1000000000) :
  Calls Tryz.prog 38 #[v,.func (.func 39) #[] #[]] w fun r w'=>r = .returned (.tuple #[])∧∃ ys : List Opn,ys.length = n∧SameK oSt ys xs∧Up oSt lessS ys∧w'.ownsRow base e 13 v n (flat (ys.map opA))∧But (fun i=>v.ownBlock = some i) w w':=by
 obtain ⟨hl,h⟩:=h
 rcases h with ⟨rfl,h0⟩ | ⟨b,cap,cur,rfl,hb,hg,hc1,hc2,hcs,ht⟩
 ·subst h0
  have hx : xs = []:=List.length_eq_zero_iff.1 hn
  subst hx
  go_enter Tryz.func38,Tryz.ntmps38
  go_wp2_with fail
  refine (stable_none 0 _ _).mono ?_
  rintro r w1 ⟨rfl,rfl⟩
  go_wp2_with fail
  go_end0
  exact ⟨rfl,[],rfl,SameK.refl _,List.Pairwise.nil,⟨hl,Or.inl ⟨rfl,rfl⟩⟩,But.refl _ _⟩
 ·have HS:=Lib.hid (stable_some hn hb hg hc1 hc2 hcs ht hsz)
  clear hg hcs ht hl hc1 hc2
  go_enter Tryz.func38,Tryz.ntmps38
  go_wp2_with fail
  refine HS.out.mono ?_
  rintro r w1 ⟨rfl,ys,h1,h2,h3,h4,h5⟩
  have HF : Hid (∃ ys : List Opn,ys.length = n∧SameK oSt ys xs∧Up oSt lessS ys∧w1.ownsRow base e 13 (.slice (some ⟨b,0,none⟩) n cap) n (flat (ys.map opA))∧But (fun i=>(Value.slice (some ⟨b,0,none⟩) n cap).ownBlock = some i) w w1) :=
   ⟨ys,h1,h2,h3,h4,h5.mono fun i hi=>by rw [hi]; rfl⟩
  clear h1 h2 h3 h4 h5 HS
  go_wp2_with fail
  go_end0
  exact ⟨rfl,HF.out⟩

theorem compact_own {w : World} {base : Nat} {e : TypeId} {v : Value} {n : Nat} {xs : List Opn} (hn : xs.length = n) (h : w.ownsRow base e 13 v n (flat (xs.map opA))) (hsz : n < 1000000000) :
  Calls Tryz.prog 41 #[v,.func (.func 42) #[] #[]] w fun r w'=>∃ v',r = .returned v'∧w'.ownsRow base e 13 v' (adjK oSt none xs).length (flat ((adjK oSt none xs).map opA))∧But (fun i=>v.ownBlock = some i) w w':=by
 obtain ⟨hl,h⟩:=h
 rcases h with ⟨rfl,h0⟩ | ⟨b,cap,cur,rfl,hb,hg,hc1,hc2,hcs,ht⟩
 ·subst h0
  have hx : xs = []:=List.length_eq_zero_iff.1 hn
  subst hx
  go_enter Tryz.func41,Tryz.ntmps41
  go_wp2_with fail
  go_ret
  exact ⟨_,rfl,World.ownsRow_nil _ _ _ _,But.refl _ _⟩
 ·subst hn
  have R:=row_of_own hg ht
  have h:=compact_in (key:=oSt) comp_in opE noOpn (fun w=>by kernel_rfl) 42 (enters_of Tryz.func42 (by kernel_rfl) rfl)
   (fun W x y=>by rw [eq_first,eq_first]; exact (sort2_grown x y W).mono fun _ _ h=>⟨h.1,h.2.grow⟩) b 0 cap xs.toArray w R (by simpa using hsz) (by simpa using hc1) hc2 xs.length (by simp) w (SWK.start R.hH)
  refine h.mono ?_
  rintro r w' ⟨d',rfl,h1,h2,S⟩
  have hxs : xs.toArray.toList = xs:=by simp
  rw [hxs] at h2 ⊢
  have hal:=adj_len (key:=oSt) xs none
  have hd : d'.size≤cap:=by rw [h1,List.size_toArray]; exact hc1
  obtain ⟨q1,q2⟩:=own_of_row hb hg (Nat.le_trans hal hc1) hc2 hcs hd S h2 rfl
  exact ⟨_,rfl,q1,q2.mono fun i hi=>by rw [hi]; rfl⟩

set_option maxRecDepth 100000 in
set_option maxHeartbeats 3200000 in
theorem sort_new (A : Option Addr) (n c : Nat) (l : List Opn) (w : World) (T : Tab w) (hn : n≤1000) (hl : ∀ o∈l,OpFit o) (h : OpsIn w w.heap.size A n l) :
  Calls Tryz.prog 12 #[.slice A n c] w fun e w'=>∃ v,e = .returned v∧w'.ownsRow w.heap.size 26 13 v (sortO l).length (flat ((sortO l).map opA))∧Below w.heap.size w w':=by
 obtain ⟨i0,hi0,hz0,hz1,hz2⟩:=info_parts op_infos
 have hll:=h.len
 have HX:=Lib.hid h
 have HF:=Lib.hid hl
 have HT:=Lib.hid T
 clear h hl T
 go_enter Tryz.func12,Tryz.ntmps12
 go_wp2_with fail
 go_loopg [3,8] (n + 1) (fun gk out i wr=>∃ k : Nat,i = .int .i64 (k : Int)∧gk + k = n + 1∧k≤n∧wr.ownsRow w.heap.size 26 13 out ((l.take k).filter mayO).length (flat (((l.take k).filter mayO).map opA))∧Hid (Below w.heap.size w wr))
 case atStart=>exact ⟨0,by go_num,by omega,by omega,World.ownsRow_nil _ _ _ _,Below.refl _ _⟩
 case round =>
  obtain ⟨k,rfl,hgk,hk,hown,hB⟩:=hrel
  have hfl : ((l.take k).filter mayO).length≤k:=Nat.le_trans (List.length_filter_le ..) (List.length_take_le ..)
  by_cases hlt : k < n
  ·obtain ⟨gi,o,rfl,hg,hrow⟩:=HX.out.row (by omega)
   have lk : k < l.length:=by omega
   have hs : (l.take (k + 1)).filter mayO = (l.take k).filter mayO ++ (if mayO l[k] = true then [l[k]] else []):=by
    rw [List.take_succ_eq_append_getElem lk,List.filter_append]
    by_cases q : mayO l[k] = true <;> simp [q]
   have hca:=(hrow k lk).below hB.out hg
   have hfit:=HF.out _ (List.getElem_mem lk)
   obtain ⟨a,ha⟩ : ∃ a,l[k] = a:=⟨_,rfl⟩
   rw [ha] at hs hca hfit
   obtain ⟨d,hd⟩ : ∃ d,d = (l.take k).filter mayO:=⟨_,rfl⟩
   rw [← hd] at hown hs hfl
   have HOWN:=Lib.hid hown
   have HS:=Lib.hid hs
   have hi1 : (k : Int) < (n : Int):=by omega
   have hi0' : (0 : Int)≤(k : Int):=by omega
   have TA : Tab (wr.alloc (.cells (opA a) 26)):=tab_below HT.out (Nat.le_refl _) (hB.out.alloc hB.out.size _)
   have HM:=Lib.hid (applyHave.may a (wr.alloc (.cells (opA a) 26)) hfit)
   have hH0 : Held wr [(wr.heap.size,.cells (opA a) 26)] (wr.alloc (.cells (opA a) 26)):=(Held.refl wr).alloc _ rfl
   have H0:=Lib.hid hH0
   obtain ⟨c0,c1,c2,c3,c4,c5,c6,c7,c8,c9,c10,c11,c12⟩:=hca
   clear hown hs hd ha hrow hfit TA hH0
   unfold opA at HM
   go_wp2_with fail
   refine HM.out.mono ?_
   rintro e w2 ⟨rfl,hb2⟩
   have H2:=Lib.hid (H0.out.step hb2)
   have B2:=Lib.hid (below_step hB.out H2.out.below)
   have O2:=Lib.hid ((HOWN.out.kept (row:=none) ⟨H2.out.below.os,H2.out.below.tape,H2.out.below.output,H2.out.below.size,fun q hq _=>H2.out.below.block q hq⟩ (Classical.em _)))
   clear c0 c1 c2 c3 c4 c5 c6 c7 c8 c9 c10 c11 c12 HM hb2 H0 HOWN
   cases hm : mayO a with
   | false =>
    have HS2 : Hid ((l.take (k + 1)).filter mayO = d):=by
     have:=HS.out
     rw [hm,if_neg (by simp),List.append_nil] at this
     exact this
    clear hm HS
    go_wp2_with fail
    go_roundg (gk - 1)
    case measure=>omega
    case rel=>exact ⟨k + 1,by go_num,by omega,by omega,by rw [HS2.out]; exact O2.out,B2⟩
   | true =>
    have HS2 : Hid ((l.take (k + 1)).filter mayO = d ++ [a]):=by
     have:=HS.out
     rw [hm,if_pos rfl] at this
     exact this
    obtain ⟨c0,c1,c2,c3,c4,c5,c6,c7,c8,c9,c10,c11,c12⟩:=op_cells (o:=a) (g:=wr.heap.size) (H2.out.at 0 rfl)
    have hlow:=B2.out.size
    have hm9 : d.length + 1≤maxLen:=by unfold maxLen; omega
    clear hm HS hi1 hi0'
    go_wp2_with (at_builtin; refine wpList_append_own _ rfl (.tmp 14) (.tmp 16) 22 rfl w.heap.size 26 i0 _ 13 128 Tryz.underlying22 hi0 hz0 hz1 hz2 rfl (by decide) _ _ _ rfl (O2.out.alloc _) ⟨w2.heap.size,0,none⟩ 1 1 (opA a).toList rfl rfl (row_there w2 _ _) (op_cells1 a) hm9 (by omega) (by simp; omega) ?_; intro v2 w3 hown3 hg3 _)
    have hb3 : Below w.heap.size w w3:=(B2.out.alloc B2.out.size _).grown hg3 (by simp; omega) (fun q hq=>(O2.out.lt q hq).1)
    rw [flat_op] at hown3
    clear c0 c1 c2 c3 c4 c5 c6 c7 c8 c9 c10 c11 c12
    go_roundg (gk - 1)
    case measure=>omega
    case rel=>exact ⟨k + 1,by go_num,by omega,by omega,by rw [HS2.out,List.length_append]; exact hown3,hb3⟩
  ·have hkn : k = n:=by omega
   have hc : ¬ (k : Int) < (n : Int):=by omega
   rw [List.take_of_length_le (by omega)] at hown hfl
   have HO:=Lib.hid hown
   have hsz : (l.filter mayO).length < 1000000000:=by omega
   have HS:=Lib.hid (stable_own rfl hown hsz)
   have HROW : Hid (∀ i,_→w.heap.size≤i):=Lib.hid fun i hi=>(hown.lt i hi).1
   clear hown hkn hlt hk hgk
   go_wp2_with fail
   refine HS.out.mono ?_
   rintro e w2 ⟨rfl,ys,hy1,hy2,hy3,hown2,hbut2⟩
   have B2 : Hid (Below w.heap.size w w2):=Lib.hid (hB.out.trans (hbut2.below (fun i hi=>HROW.out i hi) hB.out.size))
   have HC:=Lib.hid (compact_own hy1 hown2 hsz)
   have hlt2:=hown2.lt
   have HROW2:=Lib.hid hlt2
   rw [sort_adj hy2 hy3] at HC
   clear hy1 hy2 hy3 hown2 hbut2 HS HO hlt2
   go_wp2_with fail
   refine HC.out.mono ?_
   rintro e w3 ⟨v3,rfl,hown3,hbut3⟩
   have B3 : Hid (Below w.heap.size w w3):=Lib.hid (B2.out.trans (hbut3.below (fun i hi=>(HROW2.out i hi).1) B2.out.size))
   have HO3:=Lib.hid hown3
   clear hown3 hbut3 HC
   go_wp2_with fail
   go_ret
   exact ⟨v3,rfl,HO3.out,B3.out⟩

theorem sort_code (A : Option Addr) (n c : Nat) (l : List Opn) (w : World) (T : Tab w) (hn : n≤1000) (hl : ∀ o∈l,OpFit o) (h : OpsIn w w.heap.size A n l) :
  Calls Tryz.prog 12 #[.slice A n c] w (OpsPost (sortO l) w):=by
 refine (sort_new A n c l w T hn hl h).mono ?_
 rintro e w' ⟨v,rfl,hown,hb⟩
 obtain ⟨B,cB,rfl,q1,q2,q3⟩:=ops_own rfl hown
 exact ⟨B,cB,rfl,q1,q2,q3.1,q3.2,hb⟩

end Go.Proofs.YtdobeghbkonimaaGreatDoor

namespace Go.Proofs.YtdobeghbkonimaaGreatDoor
open Go.RowKit StampMath GraphMath OpMath PackMath

theorem cmp_gt (a b : St) : decide (0 < cmp a.1 a.2 b.1 b.2) = lessS b a:=by
 have h:=cmp_lt b a
 have e:=cmp_turn a.1 a.2 b.1 b.2
 cases q : lessS b a with
 | true=>exact decide_eq_true (by have:=h.2 q; omega)
 | false=>exact decide_eq_false fun g=>by rw [h.1 (by omega)] at q; cases q

set_option maxRecDepth 100000 in
set_option maxHeartbeats 1600000 in
theorem below1_code (bl bs : Nat) (A : Option Addr) (n c : Nat) (x : List Opn) (s : St) (k : Nat) (hk : k < x.length) (W : World) (hl : W.heap[bl]? = some (.cells #[.slice A n c] 22 (0,0))) (hs : W.heap[bs]? = some (.cells #[.int .i64 s.1,.int .i64 s.2] 24 (0,0))) (h : OpsIn W W.heap.size A n x) :
  Calls Tryz.prog 50 #[.int .i64 k,.pointer (some ⟨bl,0,none⟩),.pointer (some ⟨bs,0,none⟩)] W fun e w'=>e = .returned (.bool (lessS s (oSt x[k])))∧Below W.heap.size W w':=by
 have hn:=h.len
 obtain ⟨gi,o,rfl,hg,hrow⟩:=h.row (by omega)
 obtain ⟨e0,e1,-⟩:=hrow k hk
 obtain ⟨d0,d1⟩:=two_cells hs
 have c0 : W.cell? ⟨bl,0,none⟩ = some (.slice (some ⟨gi,o,none⟩) n c):=cell_of_row _ _ 0 _ _ (0,0) hl
 generalize hx : x[k] = a at e0 e1 ⊢
 obtain ⟨v,hv⟩ : ∃ v,v = cmp a.st a.sr s.1 s.2:=⟨_,rfl⟩
 have hq : lessS s (oSt a) = decide (0 < v):=by rw [hv]; exact (cmp_gt (oSt a) s).symm
 have HL : Hid (∀ y,Calls Tryz.prog 40 #[.agg #[.int .i64 a.st,.int .i64 a.sr],.agg #[.int .i64 s.1,.int .i64 s.2]] (later W y) fun e w'=>e = .returned (.int .i64 v)∧∃ z,w' = later W z):=Lib.hid fun y=>later_call (by rw [hv]; exact (compare_grown _ _ _ _ _).mono fun _ _ h=>⟨h.1,h.2.1⟩)
 have k0 : (0 : Int)≤(k : Int):=by omega
 have k1 : (k : Int) < (n : Int):=by omega
 have l0:=later_cell e0
 have l1:=later_cell e1
 have m0:=later_cell d0
 have m1:=later_cell d1
 have q0:=later_cell c0
 rw [hq]
 have hp : ∃ b : Bool,b = decide (0 < v):=⟨_,rfl⟩
 obtain ⟨b,hb⟩:=hp
 rw [← hb]
 have hb':=hb.symm
 clear hq hv hx hrow e0 e1 d0 d1 c0 hl hs h hk hn hb
 go_enter Tryz.func50,Tryz.ntmps50
 go_upto_region 1 with fail
 refine wp_region_later (by kernel_rfl) (by kernel_rfl) ?_
 repeat (go_big_quiet_step (first | (with_reducible exact HL.out _)))
 refine wpQuiet_nil ?_
 intro _ hw'
 obtain ⟨y,rfl⟩:=hw'
 have HB:=Lib.hid (later_below W y)
 clear l0 l1 m0 m1 q0 HL
 go_wp2_with fail
 go_ret
 exact ⟨by first | rfl | rw [hb'],HB.out⟩

theorem search_any (n : Nat) (hn : n < 1000000000) (g : Nat) (cb : Array Value) (eg : ∀ args w,(callFunc g args).run Tryz.prog w = .ok (.enter g args) w) (p : Nat→Bool) (hmono : ∀ i j,i≤j→j < n→p i = true→p j = true) (w : World)
  (HC : ∀ (W : World) (h : Nat),Below w.heap.size w W→h < n→Calls Tryz.prog g (#[.int .i64 h] ++ cb) W fun e w'=>e = .returned (.bool (p h))∧Below W.heap.size W w') :
  Calls Tryz.prog 49 #[.int .i64 n,.func (.func g) #[] cb] w fun e w'=>∃ i : Nat,e = .returned (.int .i64 i)∧i≤n∧(∀ j,j < i→p j = false)∧(i < n→p i = true)∧Below w.heap.size w w':=by
 have HC':=Lib.hid HC
 have HM:=Lib.hid hmono
 clear HC hmono
 go_enter Tryz.func49,Tryz.ntmps49
 go_wp2_with fail
 go_loopg [5,6] n (fun kx s t wr=>∃ i j : Nat,s = .int .i64 i∧t = .int .i64 j∧i≤j∧j≤n∧j - i≤kx∧Hid (i = 0∨p (i - 1) = false)∧Hid (j = n∨p j = true)∧Hid (Below w.heap.size w wr))
 case atStart=>exact ⟨0,n,by go_num,by go_num,by omega,by omega,by omega,Or.inl rfl,Or.inl rfl,Below.refl _ _⟩
 case round =>
  obtain ⟨i,j,rfl,rfl,hij,hjn,hkx,HI,HJ,HB⟩:=hrel
  by_cases hlt : i < j
  ·have hltz : (i : Int) < (j : Int):=by omega
   obtain ⟨c,hc⟩ : ∃ c : Nat,c = (i + j) / 2:=⟨_,rfl⟩
   have hcz : ((i : Int) + (j : Int)) / 2 = (c : Int):=by omega
   have hic : i≤c:=by omega
   have hcj : c < j:=by omega
   have HE:=Lib.hid (HC'.out wr c HB.out (by omega))
   obtain ⟨b,hb⟩ : ∃ b,b = p c:=⟨_,rfl⟩
   rw [← hb] at HE
   have HBB:=Lib.hid hb
   clear hc hb
   go_wp2_with fail
   go_at_fn g
   refine Calls.mono HE.out ?_
   rintro e w2 ⟨rfl,hb2⟩
   have HB2:=Lib.hid (below_step HB.out hb2)
   clear hb2 HE hcz
   cases b with
   | true =>
    go_wp2_with fail
    go_roundg (c - i)
    case measure=>omega
    case rel=>exact ⟨i,c,rfl,by go_num,hic,by omega,Nat.le_refl _,HI,Or.inr HBB.out.symm,HB2⟩
   | false =>
    go_wp2_with fail
    go_roundg (j - (c + 1))
    case measure=>omega
    case rel=>exact ⟨c + 1,j,by go_num,rfl,by omega,hjn,Nat.le_refl _,Or.inr HBB.out.symm,HJ,HB2⟩
  ·have hltz : ¬ (i : Int) < (j : Int):=by omega
   have hin : i = j:=by omega
   have HF : Hid (i≤n∧(∀ j,j < i→p j = false)∧(i < n→p i = true)):=by
    refine ⟨by omega,fun t ht=>?_,fun h=>?_⟩
    ·rcases HI.out with q | q
     ·omega
     ·cases e : p t with
      | false=>rfl
      | true =>
       rw [HM.out t (i - 1) (by omega) (by omega) e] at q
       cases q
    ·rcases HJ.out with q | q
     ·omega
     ·rw [hin]; exact q
   clear hin HI HJ
   go_wp2_with fail
   go_ret
   exact ⟨i,rfl,HF.out.1,HF.out.2.1,HF.out.2.2,HB.out⟩

set_option maxRecDepth 100000 in
theorem below_code (A : Option Addr) (n c : Nat) (x : List Opn) (s : St) (w : World) (hn : n ≤ 1000) (hx : Rises x) (h : OpsIn w w.heap.size A n x) :
    Calls Tryz.prog 21 #[.slice A n c, .agg (stA s)] w fun e w' => e = .returned (.int .i64 (belowO x s : Int)) ∧ Below w.heap.size w w' := by
  have hl := h.len
  have hH : Held w [(w.heap.size + 1, .cells #[.int .i64 s.1, .int .i64 s.2] 24), (w.heap.size, .cells #[.slice A n c] 22)] ((w.alloc (.cells #[.slice A n c] 22)).alloc (.cells #[.int .i64 s.1, .int .i64 s.2] 24)) :=
    ((Held.refl w).alloc (.cells #[.slice A n c] 22) rfl).alloc (.cells #[.int .i64 s.1, .int .i64 s.2] 24) (by simp)
  have HX := Lib.hid h
  have HR := Lib.hid hx
  have HH := Lib.hid hH
  clear h hx hH
  unfold stA
  go_enter Tryz.func21, Tryz.ntmps21
  go_upto_region 1 with fail
  change Code.wp _ _ _ _ ((w.alloc (.cells #[.slice A n c] 22)).alloc (.cells #[.int .i64 s.1, .int .i64 s.2] 24))
  generalize (w.alloc (.cells #[.slice A n c] 22)).alloc (.cells #[.int .i64 s.1, .int .i64 s.2] 24) = w1 at HH ⊢
  have c0 : w1.cell? ⟨w.heap.size, 0, none⟩ = some (.slice A n c) := cell_of_row _ _ 0 _ _ (0, 0) (HH.out.at 1 rfl)
  have HS := Lib.hid (search_any n (by omega) 50 #[.pointer (some ⟨w.heap.size, 0, none⟩), .pointer (some ⟨w.heap.size + 1, 0, none⟩)] (enters_of Tryz.func50 (by kernel_rfl) rfl) (fun k => if h : k < x.length then lessS s (oSt x[k]) else false)
    (fun i j hij hj hi => by
      rw [dif_pos (show i < x.length by omega)] at hi
      rw [dif_pos (show j < x.length by omega)]
      by_cases q : i = j
      · subst q; exact hi
      · exact lessS_trans hi (List.pairwise_iff_getElem.1 HR.out i j (by omega) (by omega) (by omega)))
    w1 (fun W k hW hk => by
      rw [dif_pos (show k < x.length by omega)]
      have hHW := HH.out.step hW
      exact below1_code _ _ A n c x s k (by omega) W (hHW.at 1 rfl) (hHW.at 0 rfl) ((HX.out.below hHW.below).more hHW.below.size)))
  have HB := Lib.hid HH.out.below
  clear HH
  go_wp2_with fail
  refine HS.out.mono ?_
  rintro e w2 ⟨i, rfl, h1, h2, h3, hb⟩
  have HF : Hid (belowO x s = i) := by
    refine while_is (by omega) (fun j hj hji => ?_) fun hj => ?_
    · have := h2 j hji
      rw [dif_pos hj] at this
      rw [this]; rfl
    · have := h3 (by omega)
      rw [dif_pos hj] at this
      rw [this]; rfl
  clear h1 h2 h3 c0
  go_wp2_with fail
  go_ret
  exact ⟨by rw [HF.out]; rfl, below_step HB.out hb⟩

set_option maxRecDepth 100000 in
theorem clone_code (A : Option Addr) (n c : Nat) (x : List Opn) (w : World) (hn : n≤1000) (hd : A = none→c = 0) (h : OpsIn w w.heap.size A n x) :
  Calls Tryz.prog 43 #[.slice A n c] w (OpsPost x w):=by
 obtain ⟨i0,hi0,hz0,hz1,hz2⟩:=info_parts op_infos
 have hl:=h.len
 cases A with
 | none =>
  obtain rfl : c = 0:=hd rfl
  have hn0 : n = 0:=by
   rcases Nat.eq_zero_or_pos n with q | q
   ·exact q
   ·obtain ⟨g,o,e,_⟩:=h.2 q
    cases e
  subst hn0
  have hx : x = []:=List.length_eq_zero_iff.1 hl
  subst hx
  have he : ∀ W : World,(binOp .eql 22 (.slice none 0 0) (.slice none 0 0)).run Tryz.prog W = .ok (.bool true) W:=fun W=>Lib.run_eql_slice_nil W _ _ none 0 0 0 0 Tryz.underlying22
  go_enter Tryz.func43,Tryz.ntmps43
  go_wp2_with fail
  go_ret
  exact ⟨none,0,rfl,ops_none _,Nat.le_refl _,Nat.zero_le _,fun _=>rfl,Below.refl _ _⟩
 | some ad =>
  have HX:=Lib.hid h
  have hT:=h.below ((Below.refl w.heap.size w).alloc (Nat.le_refl _) (.cells #[] 26))
  have hk1 : 0 + n≤maxLen:=by unfold maxLen; omega
  clear h
  have he : ∀ W : World,(binOp .eql 22 (.slice (some ad) n c) (.slice none 0 0)).run Tryz.prog W = .ok (.bool false) W:=fun W=>Lib.run_eql_slice_nil W _ _ (some ad) n c 0 0 Tryz.underlying22
  go_enter Tryz.func43,Tryz.ntmps43
  go_wp2_with (at_builtin; refine wpList_append_tab rfl (.tmp 5) (.tmp 6) 22 rfl w.heap.size 26 i0 _ 13 128 Tryz.underlying22 hi0 hz0 hz1 hz2 rfl (by decide) _ 0 [] rfl (own_empty w w.heap.size _ _ (Nat.le_refl _)) (some ad) n c w.heap.size (x.map opA) rfl hT (fun h=>by cases h) (op_rows _).1 (op_rows _).2 hk1 (by omega) (by simp) ?_; intro v4 w4 hown4 hg4)
  rw [List.nil_append,Nat.zero_add] at hown4
  have hb : Below w.heap.size w w4:=((Below.refl w.heap.size w).alloc (Nat.le_refl _) (.cells #[] 26)).grown hg4 (by simp) (fun q hq=>((own_empty w w.heap.size 26 13 (Nat.le_refl _)).lt q hq).1)
  obtain ⟨B,cB,rfl,q1,q2,q3⟩:=ops_own hl hown4
  have HF : Hid (OpsIn w4 w4.heap.size B x.length x∧x.length≤cB∧cB≤maxLen∧(B = none→cB = 0)∧Below w.heap.size w w4):=by
   rw [hl]
   exact ⟨q1,q2,q3.1,q3.2,hb⟩
  clear hown4 hg4 hb q1 q2 q3 hT
  go_wp2_with fail
  go_ret
  exact ⟨B,cB,by rw [hl]; rfl,HF.out⟩

set_option maxRecDepth 100000 in
theorem grow_code (n : Nat) (h0 : 0 < n) (hn : n≤5000) (w : World) :
  Calls Tryz.prog 71 #[.slice none 0 0,.int .i64 n] w fun e w'=>∃ v,e = .returned v∧w'.ownsRow w.heap.size 26 13 v 0 (flat [])∧Below w.heap.size w w':=by
 obtain ⟨i0,hi0,hz0,hz1,hz2⟩:=info_parts op_infos
 have hr : ∀ ty,(Builtin.append_ #[22,3] ty #[.slice none 0 0,.int .i64 n]).run Tryz.prog w = _:=fun ty=>Lib.run_append_nil_zeros w 22 3 ty 26 i0 _ .i64 .i64 Tryz.underlying22 Tryz.underlying3 hi0 hz0 n h0 (by omega) (by omega) (by rw [hz2]; omega)
 have hcge:=grownCap_ge w n 0 26
 have hcle:=grownCap_le_maxLen w n 0 26 (by unfold maxLen; omega)
 have hown : Hid ((w.drew.alloc (.cells (Builtin.zeroCells (Value.agg #[.int .i64 0,.int .i64 0,.int .i64 0,.int .i64 0,.int .i64 0,.int .i64 0,.int .i64 0,.int .i64 0,.int .i64 0,.string ⟨#[]⟩,.string ⟨#[]⟩,.int .i64 0,.string ⟨#[]⟩]).cells n ++ Builtin.zeroCells (Value.agg #[.int .i64 0,.int .i64 0,.int .i64 0,.int .i64 0,.int .i64 0,.int .i64 0,.int .i64 0,.int .i64 0,.int .i64 0,.string ⟨#[]⟩,.string ⟨#[]⟩,.int .i64 0,.string ⟨#[]⟩]).cells (grownCap w n 0 26 - n)) 26)).ownsRow w.heap.size 26 13 (.slice (some ⟨w.heap.size,0,none⟩) 0 (grownCap w n 0 26)) 0 []∧Below w.heap.size w (w.drew.alloc (.cells (Builtin.zeroCells (Value.agg #[.int .i64 0,.int .i64 0,.int .i64 0,.int .i64 0,.int .i64 0,.int .i64 0,.int .i64 0,.int .i64 0,.int .i64 0,.string ⟨#[]⟩,.string ⟨#[]⟩,.int .i64 0,.string ⟨#[]⟩]).cells n ++ Builtin.zeroCells (Value.agg #[.int .i64 0,.int .i64 0,.int .i64 0,.int .i64 0,.int .i64 0,.int .i64 0,.int .i64 0,.int .i64 0,.int .i64 0,.string ⟨#[]⟩,.string ⟨#[]⟩,.int .i64 0,.string ⟨#[]⟩]).cells (grownCap w n 0 26 - n)) 26))):=by
  refine ⟨World.ownsRow_made w.drew _ _ (Nat.le_refl _) hcle ?_,((Below.refl _ w).drew).alloc (Nat.le_refl _) _⟩
  simp only [Array.size_append,size_zeroCells,Value.cells]
  rw [← Nat.add_mul]
  simp
  omega
 generalize w.drew.alloc (.cells (Builtin.zeroCells (Value.agg #[.int .i64 0,.int .i64 0,.int .i64 0,.int .i64 0,.int .i64 0,.int .i64 0,.int .i64 0,.int .i64 0,.int .i64 0,.string ⟨#[]⟩,.string ⟨#[]⟩,.int .i64 0,.string ⟨#[]⟩]).cells n ++ Builtin.zeroCells (Value.agg #[.int .i64 0,.int .i64 0,.int .i64 0,.int .i64 0,.int .i64 0,.int .i64 0,.int .i64 0,.int .i64 0,.int .i64 0,.string ⟨#[]⟩,.string ⟨#[]⟩,.int .i64 0,.string ⟨#[]⟩]).cells (grownCap w n 0 26 - n)) 26) = w1 at hr hown
 generalize grownCap w n 0 26 = cp at hr hcge hown
 have h0z : (0 : Int) < (n : Int):=by omega
 have HR:=Lib.hid hr
 clear hr hcle
 go_enter Tryz.func71,Tryz.ntmps71
 go_wp2_with (at_builtin; refine Lib.wpList_append_run _ rfl (.tmp 20) (.tmp 21) _ _ rfl _ _ rfl rfl _ _ (HR.out _) ?_)
 go_wp2_with fail
 go_ret
 exact ⟨_,rfl,hown.out.1,hown.out.2⟩

end Go.Proofs.YtdobeghbkonimaaGreatDoor

namespace Go.Proofs.YtdobeghbkonimaaGreatDoor
open Go.RowKit StampMath GraphMath OpMath PackMath

set_option maxRecDepth 100000 in
set_option maxHeartbeats 3200000 in
theorem concat_code (w : World) (g : Nat) (A1 : Option Addr) (n1 c1 : Nat) (x1 : List Opn) (A2 : Option Addr) (n2 c2 : Nat) (x2 : List Opn) (A3 : Option Addr) (n3 c3 : Nat) (x3 : List Opn)
  (h0 : w.cell? ⟨g,0,none⟩ = some (.slice A1 n1 c1)) (h1 : w.cell? ⟨g,1,none⟩ = some (.slice A2 n2 c2)) (h2 : w.cell? ⟨g,2,none⟩ = some (.slice A3 n3 c3))
  (o1 : OpsIn w w.heap.size A1 n1 x1) (o2 : OpsIn w w.heap.size A2 n2 x2) (o3 : OpsIn w w.heap.size A3 n3 x3) (d1 : A1 = none→c1 = 0) (d2 : A2 = none→c2 = 0) (d3 : A3 = none→c3 = 0) (hs : n1 + n2 + n3≤5000) (hp : 0 < n2) :
  Calls Tryz.prog 44 #[.slice (some ⟨g,0,none⟩) 3 3] w (OpsPost (x1 ++ x2 ++ x3) w):=by
 obtain ⟨i0,hi0,hz0,hz1,hz2⟩:=info_parts op_infos
 have hg:=World.block_lt_of_cell? _ _ h0
 have e0 : ∀ W,Below w.heap.size w W→W.cell? ⟨g,0,none⟩ = some (.slice A1 n1 c1):=fun W hW=>(hW.cell (p:=⟨g,0,none⟩) hg).trans h0
 have e1 : ∀ W,Below w.heap.size w W→W.cell? ⟨g,1,none⟩ = some (.slice A2 n2 c2):=fun W hW=>(hW.cell (p:=⟨g,1,none⟩) hg).trans h1
 have e2 : ∀ W,Below w.heap.size w W→W.cell? ⟨g,2,none⟩ = some (.slice A3 n3 c3):=fun W hW=>(hW.cell (p:=⟨g,2,none⟩) hg).trans h2
 have E0:=Lib.hid e0
 have E1:=Lib.hid e1
 have E2:=Lib.hid e2
 have O1:=Lib.hid o1
 have O2:=Lib.hid o2
 have O3:=Lib.hid o3
 have hz : ((n1 : Int) + (n2 : Int) + (n3 : Int)) = ((n1 + n2 + n3 : Nat) : Int):=by omega
 have HL : Hid (x1.length = n1∧x2.length = n2∧x3.length = n3):=⟨o1.len,o2.len,o3.len⟩
 have HG:=Lib.hid (grow_code (n1 + n2 + n3) (by omega) hs w)
 have s1 : ¬ (n1 : Int) < 0:=by omega
 have s2 : ¬ (n1 : Int) + (n2 : Int) < 0:=by omega
 have s3 : ¬ (n1 : Int) + (n2 : Int) + (n3 : Int) < 0:=by omega
 have hn1 : (n1 : Int)≤5000:=by omega
 have hn2 : (n2 : Int)≤5000:=by omega
 have hn3 : (n3 : Int)≤5000:=by omega
 rw [← hz] at HG
 clear e0 e1 e2 o1 o2 o3 hz
 go_enter Tryz.func44,Tryz.ntmps44
 go_wp2_with fail
 refine wp_loop_rounds 4 ?_
 rw [rounds_succ]
 go_wp2_with fail
 rw [rounds_succ]
 go_wp2_with fail
 rw [rounds_succ]
 go_wp2_with fail
 rw [rounds_succ]
 go_wp2_with fail
 refine HG.out.mono ?_
 rintro e w2 ⟨v2,rfl,hown2,hb2⟩
 have B2:=Lib.hid hb2
 have W2:=Lib.hid hown2
 clear hb2 hown2 h0 h1 h2 s1 s2 s3 HG
 have h0:=E0.out _ B2.out
 have t1:=O1.out.below B2.out
 have k1 : 0 + n1≤maxLen:=by unfold maxLen; omega
 have l2:=B2.out.size
 have T1:=Lib.hid t1
 clear t1
 go_wp2_with fail
 refine wp_loop_rounds 4 ?_
 rw [rounds_succ]
 go_wp2_with (at_builtin; refine wpList_append_tab rfl (.tmp 31) (.tmp 32) 22 rfl w.heap.size 26 i0 _ 13 128 Tryz.underlying22 hi0 hz0 hz1 hz2 rfl (by decide) _ 0 [] rfl W2.out A1 n1 c1 w.heap.size (x1.map opA) rfl T1.out d1 (op_rows _).1 (op_rows _).2 k1 (by omega) l2 ?_; intro v3 w3 hown3 hg3)
 rw [List.nil_append,Nat.zero_add] at hown3
 have B3:=Lib.hid (B2.out.grown hg3 l2 fun q hq=>(W2.out.lt q hq).1)
 have W3:=Lib.hid hown3
 clear hown3 hg3 W2 T1 k1 l2 h0
 have h1:=E1.out _ B3.out
 have T2:=Lib.hid (O2.out.below B3.out)
 have k2 : n1 + n2≤maxLen:=by unfold maxLen; omega
 have l3:=B3.out.size
 go_wp2_with fail
 rw [rounds_succ]
 go_wp2_with (at_builtin; refine wpList_append_tab rfl (.tmp 31) (.tmp 32) 22 rfl w.heap.size 26 i0 _ 13 128 Tryz.underlying22 hi0 hz0 hz1 hz2 rfl (by decide) _ _ _ rfl W3.out A2 n2 c2 w.heap.size (x2.map opA) rfl T2.out d2 (op_rows _).1 (op_rows _).2 k2 (by omega) l3 ?_; intro v4 w4 hown4 hg4)
 have B4:=Lib.hid (B3.out.grown hg4 l3 fun q hq=>(W3.out.lt q hq).1)
 have W4:=Lib.hid hown4
 clear hown4 hg4 W3 T2 k2 l3 h1
 have h2:=E2.out _ B4.out
 have T3:=Lib.hid (O3.out.below B4.out)
 have k3 : n1 + n2 + n3≤maxLen:=by unfold maxLen; omega
 have l4:=B4.out.size
 go_wp2_with fail
 rw [rounds_succ]
 go_wp2_with (at_builtin; refine wpList_append_tab rfl (.tmp 31) (.tmp 32) 22 rfl w.heap.size 26 i0 _ 13 128 Tryz.underlying22 hi0 hz0 hz1 hz2 rfl (by decide) _ _ _ rfl W4.out A3 n3 c3 w.heap.size (x3.map opA) rfl T3.out d3 (op_rows _).1 (op_rows _).2 k3 (by omega) l4 ?_; intro v5 w5 hown5 hg5)
 have B5:=Lib.hid (B4.out.grown hg5 l4 fun q hq=>(W4.out.lt q hq).1)
 rw [← List.map_append,← List.map_append] at hown5
 have hlen : (x1 ++ x2 ++ x3).length = n1 + n2 + n3:=by
  obtain ⟨q1,q2,q3⟩:=HL.out
  simp only [List.length_append]; omega
 obtain ⟨B,cB,rfl,q1,q2,q3⟩:=ops_own hlen hown5
 have HF : Hid (OpsIn w5 w5.heap.size B (x1 ++ x2 ++ x3).length (x1 ++ x2 ++ x3)∧(x1 ++ x2 ++ x3).length≤cB∧cB≤maxLen∧(B = none→cB = 0)∧Below w.heap.size w w5):=by
  rw [hlen]
  exact ⟨q1,q2,q3.1,q3.2,B5.out⟩
 have HN:=Lib.hid hlen
 clear hown5 hg5 W4 T3 k3 l4 h2 q1 q2 q3 hlen
 go_wp2_with fail
 rw [rounds_succ]
 go_wp2_with fail
 go_ret
 exact ⟨B,cB,by rw [HN.out]; rfl,HF.out⟩

end Go.Proofs.YtdobeghbkonimaaGreatDoor
