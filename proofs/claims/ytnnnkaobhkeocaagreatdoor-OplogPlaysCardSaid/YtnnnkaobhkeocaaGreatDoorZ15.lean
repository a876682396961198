/-
 The landed log: operations become part of the base.
-/
import Derived.Test.YtnnnkaobhkeocaaGreatDoorZ14
import Derived.Test.YtnnnkaobhkeocaaGreatDoorZ01
import Derived.Deep.Cut
import Derived.Deep.DeepCutAuto
import Derived.Test.YtnnnkaobhkeocaaGreatDoorZ11
import Derived.Test.YtnnnkaobhkeocaaGreatDoorZ12
import Derived.Test.YtnnnkaobhkeocaaGreatDoorZ00
import Derived.Test.YtnnnkaobhkeocaaGreatDoorRows
import Derived.ProofKit
import Derived.OpenShut
import Derived.Deep.Slices
import Derived.Deep.Strs
import Derived.ChangeSame
import Derived.Lib.SmallJoins
import Derived.SevenTiedAt
import Derived.LaidMore
import Derived.Stop.Joined
namespace Go.Proofs.YtnnnkaobhkeocaaGreatDoor
open Go.RowKit StampMath GraphMath OpMath PackMath
theorem LogSt.put03{H:GraphHave}{W:World}{g:Nat}{b b' c:Addr}{fl s:St}{Sb Sa R:Nat->Prop}{B γ:Gr}{ov rv:Value}{L:List Opn}{rs:List Rec}(hb:W.heap[g]?=some (.cells (logC b c fl ov rv) 76 (0,0)))(h:Parts H W g b' c Sb Sa R B γ ov L rv rs):
  LogSt H (((W.setCell ⟨g,0,none⟩ (.pointer (some b'))).setCell ⟨g,2,none⟩ (.int .i64 s.1)).setCell ⟨g,3,none⟩ (.int .i64 s.2)) g b' c s Sb Sa R B γ ov L rv rs:=by
 refine⟨?_,((h.box (but_set _ _ _ _)).box (but_set _ _ _ _)).box (but_set _ _ _ _)⟩;rw[heap_setCell_same _ _ _ _ _ _ (heap_setCell_same _ _ _ _ _ _ (heap_setCell_same _ _ _ _ _ _ hb))]
 rfl
theorem LogSt.put45{H:GraphHave}{W:World}{g:Nat}{b c:Addr}{fl:St}{Sb Sa R:Nat->Prop}{B γ:Gr}{ov ov' rv rv':Value}{L:List Opn}{rs:List Rec}(hb:W.heap[g]?=some (.cells (logC b c fl ov rv) 76 (0,0)))(h:Parts H W g b c Sb Sa R B γ ov' L rv' rs):
  LogSt H ((W.setCell ⟨g,4,none⟩ ov').setCell ⟨g,5,none⟩ rv') g b c fl Sb Sa R B γ ov' L rv' rs:=by
 refine⟨?_,(h.box (but_set _ _ _ _)).box (but_set _ _ _ _)⟩;rw[heap_setCell_same _ _ _ _ _ _ (heap_setCell_same _ _ _ _ _ _ hb)]
 rfl
theorem turned_base{g:Nat}{Sb Sa R Sb':Nat->Prop}{ov rv:Value}{W W':World}(h:Below W.heap.size W W')(hS:∀i,Sb' i->W.heap.size<=i):Turned g Sb Sa R ov rv W Sb' Sa R ov rv W':=by
 refine⟨fun i hi=>?_,fun _ h=>.inl h,But.of_below h⟩;rcases hi with q|q|q|q|q
 ·exact .inl (.inl q)
 ·exact .inr (hS i q)
 ·exact .inl (.inr (.inr (.inl q)))
 ·exact .inl (.inr (.inr (.inr (.inl q))))
 ·exact .inl (.inr (.inr (.inr (.inr q))))
theorem RecRow.dropped{R:Nat->Prop}{W:World}{rs:List Rec}{vs:List (Array Value)}{n:Nat}{rv':Value}(h1:vs.length=rs.length)(h3:∀v∈vs,v.size=5)(h4:∀(j:Nat)(r:Rec)(v:Array Value),rs[j]?=some r->vs[j]?=some v->RecAt R W (.agg v) r)(hown:W.ownsRow 0 81 5 rv' (rs.length-n) (flat (vs.drop n))):RecRow R W rv' (rs.drop n):=by
 refine⟨vs.drop n,by rw[List.length_drop,List.length_drop,h1],by rw[List.length_drop];exact hown,fun v hv=>h3 v (List.drop_subset _ _ hv),fun j r v hr hv=>?_⟩;rw[List.getElem?_drop] at hr hv;exact h4 _ r v hr hv
set_option maxRecDepth 100000 in
set_option maxHeartbeats 3200000 in
theorem log_compact{H:GraphHave}(P:FoldHave H){W:World}{g:Nat}{b c:Addr}{Sb Sa R:Nat->Prop}{ov rv:Value}{x:Lg}(h:LogSt H W g b c x.fl Sb Sa R x.B (graphL x) ov x.L rv (recL x.B x.L))(T:Tab W)(hT:¬Own5 g Sb Sa ov rv 0)(hx:x.ok)(hl:x.L.length<=900)(hf:∀o∈x.L,OpFit o)(s:St):
    Calls Tryz.prog 11 #[.pointer (some ⟨g,0,none⟩),.agg (stA s)] W (Done H g Sb Sa R ov rv W (compactL x s).1 (.int .i64 ((compactL x s).2:Int))):=by
  obtain⟨A4,p4,rfl,hi4,hc4,hm4,hd4⟩:=h.ops_in;obtain⟨u,hu⟩:∃u,u=W.heap.size:=⟨_,rfl⟩;have H0:Hid (Held W [(u,.cells #[.int .i64 s.1,.int .i64 s.2] 24)] (W.alloc (.cells #[.int .i64 s.1,.int .i64 s.2] 24))):=Lib.hid ((Held.refl W).alloc _ hu.symm);have DA:Hid (∀W',Below W.heap.size W W'->Calls Tryz.prog 37 #[.pointer (some ⟨g,0,none⟩),.agg #[.int .i64 s.1,.int .i64 s.2]] W' fun e w'=>e=.returned (.bool (lessS x.fl s))/\Below W'.heap.size W' w'):=Lib.hid fun W' hW=>(h.step hW).above s;have DB:Hid (∀W',Below W.heap.size W W'->Calls Tryz.prog 38 #[.slice A4 x.L.length p4,.agg #[.int .i64 s.1,.int .i64 s.2]] W' fun e w'=>e=.returned (.int .i64 (belowO x.L s:Int))/\Below W'.heap.size W' w'):=Lib.hid fun W' hW=>below_code A4 x.L.length p4 x.L s W' (by omega) hx.rises ((hi4.below hW).more hW.size);have HA:Hid (compactL x s=if mayB s.1 s.2=true/\lessS x.fl s=true then(⟨runG x.B (x.L.take (belowO x.L s)),s,x.L.drop (belowO x.L s)⟩,belowO x.L s) else(x,0)):=rfl;have hbl:=below_le x.L s;have HS:=Lib.hid h;have HT:=Lib.hid (And.intro T hT);have HX:=Lib.hid hx;have HFT:=Lib.hid hf;have hlt:=heap_lt h.box;have HBX:=Lib.hid h.box;have HI:=Lib.hid hi4;obtain⟨n,hn⟩:∃n,n=belowO x.L s:=⟨_,rfl⟩;rw[<-hn] at DB HA hbl;obtain⟨no,hno⟩:∃no,no=x.L.length:=⟨_,rfl⟩;rw[<-hno] at DB hbl HBX;have HNO:=Lib.hid hno;generalize compactL x s=Q at HA ⊢;obtain⟨lv,hlv⟩:∃lv,lv=lessS x.fl s:=⟨_,rfl⟩;obtain⟨mv,hmv⟩:∃mv,mv=mayB s.1 s.2:=⟨_,rfl⟩;rw[<-hlv,<-hmv] at HA;rw[<-hlv] at DA;have DM:Hid (∀W':World,Calls Tryz.prog 36 #[.agg #[.int .i64 s.1,.int .i64 s.2]] W' fun e w'=>e=.returned (.bool mv)/\Below W'.heap.size W' w'):=Lib.hid fun W'=>by rw[hmv];exact may_any s.1 s.2 W'
  rw[<-hno] at hc4;clear h T hT hx hf hi4 hn hno hlv hmv;unfold stA
  go_enter Tryz.func11,Tryz.ntmps11
  go_upto_region 1 with fail
  rw[<-hu];change Code.wp _ _ _ _ (W.alloc (.cells #[.int .i64 s.1,.int .i64 s.2] 24));generalize W.alloc (.cells #[.int .i64 s.1,.int .i64 s.2] 24)=W1 at H0 ⊢;clear hu;obtain⟨s0,s1⟩:=two_cells (H0.out.at 0 rfl);have D1:=Lib.hid (DM.out W1);clear DM
  go_wp2_with fail
  refine D1.out.mono ?_;rintro e w2 ⟨rfl,hb2⟩;have H2:=Lib.hid (H0.out.step hb2);clear D1 hb2 s0 s1 H0
  cases mv with
  |false=>
    have HR:Hid (Q=(x,0)):=HA.out.trans (if_neg fun q=>by cases q.1)
    go_wp2_with fail
    go_ret
    rw[HR.out];exact⟨rfl,turned_end (HS.out.step H2.out.below) (Turned.refl.step H2.out.below)⟩
  |true=>
  obtain⟨s0,s1⟩:=two_cells (H2.out.at 0 rfl);have D2:=Lib.hid (DA.out _ H2.out.below);clear DA
  go_wp2_with fail
  refine D2.out.mono ?_;rintro e w3 ⟨rfl,hb3⟩;have H3:=Lib.hid (H2.out.step hb3);clear D2 hb3 s0 s1 H2
  cases lv with
  |false=>
    have HR:Hid (Q=(x,0)):=HA.out.trans (if_neg fun q=>by cases q.2)
    go_wp2_with fail
    go_ret
    rw[HR.out];exact⟨rfl,turned_end (HS.out.step H3.out.below) (Turned.refl.step H3.out.below)⟩
  |true=>
  have HR:Hid (Q=(⟨runG x.B (x.L.take n),s,x.L.drop n⟩,n)):=HA.out.trans (if_pos (by simp));clear HA;obtain⟨s0,s1⟩:=two_cells (H3.out.at 0 rfl);obtain⟨-,-,-,-,d4,-⟩:=six_cells ((H3.out.below.block g hlt).trans HBX.out);have l0:=later_cell s0;have l1:=later_cell s1;have l4:=later_cell d4;have HL:Hid (∀y,Calls Tryz.prog 38 #[.slice A4 no p4,.agg #[.int .i64 s.1,.int .i64 s.2]] (later w3 y) fun e w'=>e=.returned (.int .i64 (n:Int))/\∃z,w'=later w3 z):=Lib.hid fun y=>later_call (DB.out _ (below_step H3.out.below (later_below w3 y)));clear s0 s1 d4 DB
  go_upto_region 3 with fail
  refine wp_region_later (by kernel_rfl) (by kernel_rfl) ?_
  repeat(go_big_quiet_step (first|(with_reducible exact HL.out _)))
  refine wpQuiet_nil ?_;intro _ hw';obtain⟨y,rfl⟩:=hw';have H4:=Lib.hid (H3.out.step (later_below w3 y));clear l0 l1 l4 HL H3;generalize later w3 y=w4 at H4 ⊢;have hS4:=HS.out.step H4.out.below;have T4:=tab_below HT.out.1 (Nat.le_refl _) H4.out.below;obtain⟨s0,s1⟩:=two_cells (H4.out.at 0 rfl);obtain⟨d0,-,d2,d3,d4,-⟩:=six_cells ((H4.out.below.block g hlt).trans HBX.out);have hbx4:=(H4.out.below.block g hlt).trans HBX.out;have hug:u≠g:=by
    intro e;have h1:=H4.out.at 0 rfl;dsimp only at h1;rw[e,hbx4] at h1;simp[logC] at h1
  have i1:(0:Int)<=(n:Int):=by omega
  have i2:(n:Int)<=(no:Int):=by omega
  have i3:(n:Int)<=(p4:Int):=by omega
  have DO:Hid (∀W',Below w4.heap.size w4 W'->Calls Tryz.prog 26 #[.pointer (some b),.slice A4 n p4] W' fun e w'=>∃b1 T,e=.returned (.pointer (some b1))/\H.rep w' T b1 (runG x.B (x.L.take n))/\(∀i,T i->W'.heap.size<=i)/\Below W'.heap.size W' w'):=Lib.hid fun W' hW=>by
    have:=tab_below T4 (Nat.le_refl _) hW;have hno:=HNO.out;have hB:=below_step H4.out.below hW;have q:=P.on b Sb x.B A4 n p4 (x.L.take n) W' (hS4.step hW).parts.base (fun q=>HT.out.2 (.inr (.inl q))) HX.out.base (by omega) (fun o ho=>HFT.out o (List.mem_of_mem_take ho)) (ops_take ((HI.out.below hB).more hB.size) (by omega))
    rwa[sort_self HX.out.rises.take fun a ha=>HX.out.may a (List.mem_of_mem_take ha)] at q
  have hgl:g<w4.heap.size:=heap_lt hbx4;have hul:u<w4.heap.size:=heap_lt (H4.out.at 0 rfl);have HS4:=Lib.hid hS4;have HT4:=Lib.hid T4;clear hS4 T4
  go_upto_region 4 with fail
  go_cut [41] from 25 to 42 (fun _ wx=>∃b' Sb',LogSt H wx g b' c s Sb' Sa R (runG x.B (x.L.take n)) (graphL x) (.slice A4 no p4) x.L rv (recL x.B x.L)/\Turned g Sb Sa R (.slice A4 no p4) rv w4 Sb' Sa R (.slice A4 no p4) rv wx)
  case first=>
    go_region_law
      (go_simp;go_at_call 26;(with_reducible refine(DO.out _ ?_).mono ?_);(with_reducible (first|exact Below.refl _ _|exact(Below.refl _ _).drew));rintro e w5 ⟨b1,T1,rfl,k1,k2,hb5⟩;have hB5:Below w4.heap.size w4 w5:=(by first|exact hb5|exact below_step ((Below.refl _ _).drew) hb5);have hbx5:=(hB5.block g hgl).trans hbx4;obtain⟨e0,-,e2,e3,-,-⟩:=six_cells hbx5;obtain⟨t0,t1⟩:=two_cells ((hB5.block u hul).trans (H4.out.at 0 rfl));have z0:=frozen_of_row _ _ 0 _ _ hbx5;have z2:=frozen_of_row _ _ 2 _ _ hbx5;have z3:=frozen_of_row _ _ 3 _ _ hbx5)
    all_goals
      have e9:=HNO.out;subst e9;have sd:w4.drew.heap.size=w4.heap.size:=rfl;have k3:∀i,T1 i->w4.heap.size<=i:=k2;have hp:=HS4.out.parts.setBase hB5 k1 k3;have h6:=LogSt.put03 (s:=s) hbx5 hp;have t6:=(((turned_base (g:=g) (Sb:=Sb) (Sa:=Sa) (R:=R) (ov:=.slice A4 x.L.length p4) (rv:=rv) hB5 k3).trans (turned_box (but_set w5 g 0 (.pointer (some b1))))).trans (turned_box (but_set _ g 2 (.int .i64 s.1)))).trans (turned_box (but_set _ g 3 (.int .i64 s.2)))
      go_wp2_with fail
      go_meet
      case rel=>exact⟨b1,T1,h6,t6⟩
  case rest=>
  obtain⟨b',Sb',h6,t6⟩:=hcut;generalize wc=w6 at h6 t6 ⊢;obtain⟨A5,p5,hrv,hc5,-,-⟩:=h6.recs_slice;obtain⟨vs,v1,v2,v3,v4⟩:=h6.parts.recs;have hnr:(recL x.B x.L).length=no:=by rw[recL_len];exact HNO.out.symm
  have hk4:∀r∈x.L.map opA,r.size=13:=fun r hr=>by obtain⟨o,_,rfl⟩:=List.mem_map.1 hr;rfl
  have hL:(x.L.map opA).length=no:=by rw[List.length_map];exact HNO.out.symm
  have hone:∀z∈flat (x.L.map opA),z.oneCell'=true:=fun z hz=>by
    obtain⟨r,hr,hz⟩:=List.mem_flatMap.1 hz;obtain⟨o,_,rfl⟩:=List.mem_map.1 hr;exact op_cells1 o z hz
  have hops:=h6.parts.ops;rw[<-HNO.out] at hops;rw[hnr] at v2 hrv;have D5:Hid (∀W',Below w6.heap.size w6 W'->Calls Tryz.prog 39 #[.slice A4 no p4,.int .i64 0,.int .i64 n] W' fun e w'=>∃(A':Option Addr)(c':Nat),e=.returned (.slice A' (no-n) c')/\w'.ownsRow 0 37 13 (.slice A' (no-n) c') (no-n) (flat ((x.L.drop n).map opA))/\(Value.slice A' (no-n) c').ownBlock=(Value.slice A4 no p4).ownBlock/\But (fun i=>(Value.slice A4 no p4).ownBlock=some i) W' w'):=Lib.hid fun W' hW=>by
    refine(delOp_code 0 (.slice A4 no p4) no n (x.L.map opA) hk4 hone hL hbl W' (own_call hops hW)).mono ?_;rintro e w' ⟨v,rfl,q1,q2,q3⟩;rw[<-List.map_drop] at q1;obtain⟨A',c',rfl,-⟩:=ops_own (by rw[List.length_drop,<-HNO.out]) q1;exact⟨A',c',rfl,q1,q2,q3⟩
  have D6:Hid (∀W':World,W'.ownsRow 0 81 5 (.slice A5 no p5) no (flat vs)->Calls Tryz.prog 40 #[.slice A5 no p5,.int .i64 0,.int .i64 n] W' fun e w'=>∃(A':Option Addr)(c':Nat),e=.returned (.slice A' (no-n) c')/\w'.ownsRow 0 81 5 (.slice A' (no-n) c') (no-n) (flat (vs.drop n))/\(Value.slice A' (no-n) c').ownBlock=(Value.slice A5 no p5).ownBlock/\But (fun i=>(Value.slice A5 no p5).ownBlock=some i) W' w'):=Lib.hid fun W' hW=>by
    refine(delRec_code 0 (.slice A5 no p5) no n vs v3 (recs_one v1 v4) (by rw[v1,hnr]) hbl W' hW).mono ?_;rintro e w' ⟨v,rfl,q1,q2,q3⟩;obtain⟨A',c',rfl,-⟩:=tab_own (fun r hr=>v3 r (List.drop_subset _ _ hr)) (by rw[List.length_drop,v1,hnr]) q1;exact⟨A',c',rfl,q1,q2,q3⟩
  subst hrv;have hbx6:=h6.box;obtain⟨-,-,-,-,r4,r5⟩:=six_cells hbx6;have H6:=Lib.hid h6;have T6:=Lib.hid t6;have HVS:=Lib.hid (And.intro v1 (And.intro v3 v4));have hg6:=heap_lt hbx6;have hno4:¬(Value.slice A4 no p4).ownBlock=some g:=h6.parts.box_other.2.1;have hno5:¬(Value.slice A5 no p5).ownBlock=some g:=h6.parts.box_other.2.2;have hsep:∀i,(Value.slice A5 no p5).ownBlock=some i->¬(Value.slice A4 no p4).ownBlock=some i:=fun i hi=>h6.parts.six.2 4 3 (by decide) i hi;have hlt5:∀i,(Value.slice A5 no p5).ownBlock=some i->i<w6.heap.size:=fun i hi=>h6.parts.six.1 4 i hi;clear h6 t6 v1 v3 v4 hk4 hL hone hops hc5 DO s0 s1 d0 d2 d3 d4 hbx4 hul hug hgl
  go_upto_region 5 with fail
  go_cut [60] from 43 to 60 (fun _ wx=>∃ov' rv',LogSt H wx g b' c s Sb' Sa R (runG x.B (x.L.take n)) (graphL x) ov' (x.L.drop n) rv' ((recL x.B x.L).drop n)/\Turned g Sb Sa R (.slice A4 no p4) (.slice A5 no p5) w4 Sb' Sa R ov' rv' wx)
  case first=>
    go_region_law
      (first
        |(go_simp;go_at_call 39;(with_reducible refine(D5.out _ ?_).mono ?_);(with_reducible (first|exact Below.refl _ _|exact(Below.refl _ _).drew));rintro e w7 ⟨A7,q7,rfl,o71,o72,o73⟩;have hB7:But (fun i=>(Value.slice A4 no p4).ownBlock=some i) w6 w7:=(by first|exact o73|exact but_drew o73);have hbx7:=(hB7.block g hg6 hno4).trans hbx6;have a5:=(six_cells hbx7).2.2.2.2.2;have own7:=own_same v2 (fun i hi=>hB7.block i (hlt5 i hi) (hsep i hi)))
        |(go_simp;go_at_call 40;(with_reducible refine(D6.out _ own7).mono ?_);rintro e w8 ⟨A8,q8,rfl,o81,o82,o83⟩;have hbx8:=(o83.block g (Nat.lt_of_lt_of_le hg6 hB7.size) hno5).trans hbx7;obtain⟨-,-,-,-,t4,t5⟩:=six_cells hbx8;have y4:=frozen_of_row _ _ 4 _ _ hbx8;have y5:=frozen_of_row _ _ 5 _ _ hbx8))
    all_goals
      obtain⟨v1,v3,v4⟩:=HVS.out;have hdl:(x.L.drop n).length=no-n:=by rw[List.length_drop,<-HNO.out]
      have hp7:=H6.out.parts.setOps (ov':=.slice A7 (no-n) q7) (L':=x.L.drop n) hB7 (by rw[hdl];exact o71) fun i hi=>.inl (o72▸hi);have hk8:∀i,R i->w8.heap[i]?=w6.heap[i]? :=fun i hi=>(o83.block i (Nat.lt_of_lt_of_le (H6.out.parts.six.1 5 i hi) hB7.size) fun e=>H6.out.parts.six.2 5 4 (by decide) i hi e).trans (hB7.block i (H6.out.parts.six.1 5 i hi) fun e=>H6.out.parts.six.2 5 3 (by decide) i hi e);have q8r:RecRow R w8 (.slice A8 (no-n) q8) ((recL x.B x.L).drop n):=RecRow.dropped v1 v3 (fun j r v hr hv=>(v4 j r v hr hv).keep (fun i hi _=>hk8 i hi) (Nat.le_trans hB7.size o83.size)) (by rw[hnr];exact o81);have hp8:=hp7.setRecs (rv':=.slice A8 (no-n) q8) o83 q8r fun i hi=>.inl (o82▸hi);have h9:=LogSt.put45 hbx8 hp8;have t9:=(((T6.out.trans (turned_ops hB7 fun i(hi:(Value.slice A7 (no-n) q7).ownBlock=some i)=>.inl (o72▸hi))).trans (turned_recs o83 fun i(hi:(Value.slice A8 (no-n) q8).ownBlock=some i)=>.inl (o82▸hi))).trans (turned_box (but_set w8 g 4 (.slice A7 (no-n) q7)))).trans (turned_box (but_set _ g 5 (.slice A8 (no-n) q8)))
      go_wp2_with fail
      go_meet
      case rel=>exact⟨_,_,h9,t9⟩
  case rest=>
  obtain⟨ov',rv',h9,t9⟩:=hcut;generalize wc=w9 at h9 t9 ⊢;have HF:Hid (LogSt H w9 g b' c s Sb' Sa R (runG x.B (x.L.take n)) (graphL ⟨runG x.B (x.L.take n),s,x.L.drop n⟩) ov' (x.L.drop n) rv' (recL (runG x.B (x.L.take n)) (x.L.drop n))):=by
    have e1:graphL ⟨runG x.B (x.L.take n),s,x.L.drop n⟩=graphL x:=by
      show runG (runG x.B _) _=runG x.B x.L;rw[<-run_append,List.take_append_drop]
    rw[e1,<-recL_drop];exact h9
  have hno9:=HNO.out;have T9:=Lib.hid ((Turned.refl.step H4.out.below).trans t9);clear h9 t9
  go_wp2_with fail
  go_ret
  rw[HR.out];subst hno9;exact⟨rfl,turned_end (x:=⟨runG x.B (x.L.take n),s,x.L.drop n⟩) HF.out T9.out⟩
set_option maxRecDepth 100000 in
theorem nil_add(o:Opn)(w:World):
  Calls Tryz.prog 13 #[.pointer none,.agg (opA o)] w fun e w'=>e=.returned (.bool false)/\Below w.heap.size w w':=by
 have HB:=Lib.hid ((Below.refl _ w).alloc (Nat.le_refl _) (.cells (opA o) 37))
 go_enter Tryz.func13,Tryz.ntmps13
 go_wp2_with fail
 go_ret
 exact⟨rfl,HB.out⟩
set_option maxRecDepth 100000 in
theorem nil_compact(s:St)(w:World):
  Calls Tryz.prog 11 #[.pointer none,.agg (stA s)] w fun e w'=>e=.returned (.int .i64 0)/\Below w.heap.size w w':=by
 have HB:=Lib.hid ((Below.refl _ w).alloc (Nat.le_refl _) (.cells (stA s) 24))
 go_enter Tryz.func11,Tryz.ntmps11
 go_wp2_with fail
 go_ret
 exact⟨rfl,HB.out⟩
set_option maxRecDepth 100000 in
theorem nil_graph(w:World):
  Calls Tryz.prog 16 #[.pointer none] w fun e w'=>e=.returned (.pointer none)/\Below w.heap.size w w':=by
 have HB:=Lib.hid (Below.refl w.heap.size w)
 go_enter Tryz.func16,Tryz.ntmps16
 go_wp2_with fail
 go_ret
 exact⟨rfl,HB.out⟩
set_option maxRecDepth 100000 in
theorem nil_has(s:St)(w:World):
  Calls Tryz.prog 22 #[.pointer none,.agg (stA s)] w fun e w'=>e=.returned (.bool false)/\Below w.heap.size w w':=by
 have HB:=Lib.hid ((Below.refl _ w).alloc (Nat.le_refl _) (.cells (stA s) 24))
 go_enter Tryz.func22,Tryz.ntmps22
 go_wp2_with fail
 go_ret
 exact⟨rfl,HB.out⟩
noncomputable def oplogHave:OplogHave graphHave where
 rep:=LogIn graphHave
 lt:=fun h i hi=>by
  obtain⟨g,b,c,Sb,Sa,ov,rv,rfl,rfl,h⟩:=h;exact h.lt i hi
 apart:=fun h i hi=>by
  obtain⟨g,b,c,Sb,Sa,ov,rv,rfl,rfl,h⟩:=h;exact h.apart i hi
 keep:=fun h hk hs=>by
  obtain⟨g,b,c,Sb,Sa,ov,rv,rfl,rfl,h⟩:=h;exact⟨g,b,c,Sb,Sa,ov,rv,rfl,rfl,h.keep hk hs⟩
 new:=fun w _=>(log_new undoHave w inferInstance).mono fun _ _ ⟨a,T,R,q⟩=>⟨a,T,R,q⟩
 made:=fun b S g fl A n c l w _ hr _ hg hfl hn hl hi=>(log_from undoHave b S g fl A n c l w inferInstance hr hg hfl hn hl hi).mono fun _ _ ⟨a,T,R,q⟩=>⟨a,T,R,q⟩
 nilMade:=fun fl A n c w=>log_from_nil fl A n c w
 add:=fun a S R x o w _ h hS hx hl hf ho=>by
  obtain⟨g,b,c,Sb,Sa,ov,rv,rfl,rfl,h⟩:=h;refine(log_add undoHave h inferInstance hS hx hl hf o ho).mono ?_;rintro e w' ⟨rfl,S',R',k⟩;exact⟨S',R',rfl,k⟩
 nilAdd:=nil_add
 compact:=fun a S R x s w _ h hS hx hl hf=>by
  obtain⟨g,b,c,Sb,Sa,ov,rv,rfl,rfl,h⟩:=h;refine(log_compact foldHave h inferInstance hS hx hl hf s).mono ?_;rintro e w' ⟨rfl,S',R',k⟩;exact⟨S',R',rfl,k⟩
 nilCompact:=nil_compact
 graph:=fun a S R x w h hx=>tell_graph h hx
 nilGraph:=nil_graph
 base:=fun a S R x w h hx=>tell_base h hx
 floor:=fun a S R x w h=>tell_floor h
 ops:=fun a S R x w h hl=>tell_ops h hl
 has:=fun a S R x s w h hx hl=>tell_has h hx hl s
 nilHas:=nil_has
 copy:=fun a S R x w h hx hl=>log_copy h hx hl
theorem sortOwn:SortOwn:=⟨fun A n c l w T hn hl h=>sort_new A n c l w T hn hl h⟩
theorem cmpHave:CmpHave:=⟨fun s t w=>(compare_grown s.1 s.2 t.1 t.2 w).mono fun _ _ h=>⟨h.1,h.2.1⟩⟩
end Go.Proofs.YtnnnkaobhkeocaaGreatDoor
namespace Go.Proofs.YtnnnkaobhkeocaaGreatDoor
open Go.ChangeShapes Go.WideShapes Go.RowKit StampMath GraphMath
variable {H:Type}{enc:TypeId×Value->H}
theorem st_trod{w:World}{n:Nat}{a b:Value}{y:DataW H×List MemPlace}(h:DataW.trod enc Tryz.prog w 0 (fun _=>true) true n 24 [a,b]=some y):∃s:St,a=.int .i64 s.1/\b=.int .i64 s.2:=by
 have h1:Tryz.prog.cellsOf 3=1:=by kernel_rfl
 have h2:Tryz.prog.cellsOf 2=1:=by kernel_rfl
 obtain⟨xs,m,_,_,_,hlen,hg⟩:=DataW.trod_struct Tryz.underlying24 h
 match xs,hlen with
 | [y0,y1],_=>
  have g0:DataW.trod enc Tryz.prog w 0 (fun _=>true) true m 2 (([a,b].drop 0).take (Tryz.prog.cellsOf 2))=some y0:=hg 0 _ rfl;have g1:DataW.trod enc Tryz.prog w 0 (fun _=>true) true m 3 (([a,b].drop 1).take (Tryz.prog.cellsOf 3))=some y1:=hg 1 _ rfl;rw[h2] at g0;rw[h1] at g1;obtain⟨t,e0,_,_⟩:=DataW.trod_int Tryz.underlying2 g0;obtain⟨r,e1,_,_⟩:=DataW.trod_int Tryz.underlying3 g1;simp at e0 e1;exact⟨(t,r),e0,e1⟩
set_option maxRecDepth 100000 in
theorem open_st{w:World}{v:Value}{d:DataW H}{p:List MemPlace}{r:Reach}{b0:Nat}(hv:Value.okWide Tryz.prog w r b0 24 v)(h:DataW.Trod enc Tryz.prog w 0 (fun _=>true) true 24 v d p):
  ∃s:St,v=.agg (stA s):=by
 have hC:Tryz.prog.cellsOf 24=2:=by kernel_rfl
 obtain⟨cs,rfl,hsz⟩:=okWide_struct Tryz.underlying24 hv;obtain⟨l⟩:=cs
 match l,hsz.trans hC with
 | [c0,c1],_=>
  obtain⟨fuel,hf⟩:=h;obtain⟨s,rfl,rfl⟩:=st_trod (a:=c0) (b:=c1) hf;exact⟨s,rfl⟩
theorem cell_spot{w:World}{g o:Nat}{s:Option Nat}{v:Value}(h:w.cell? ⟨g,o,s⟩=some v):s=none:=by
 unfold World.cell? at h
 cases hb:w.heap[g]? with
 |none=>simp[hb] at h
 |some x=>
  cases x<;>simp[hb] at h
  exact h.1
end Go.Proofs.YtnnnkaobhkeocaaGreatDoor
namespace Go.Proofs.YtnnnkaobhkeocaaGreatDoor
open Go.ChangeShapes Go.WideShapes Go.RowKit StampMath GraphMath
variable {H:Type}{enc:TypeId×Value->H}
set_option maxRecDepth 100000 in
theorem open_tab{α:Type}(encA:α->Array Value)(Good:α->Prop)(dflt:α){k:Nat}(hk:0<k)(hsz:∀x,(encA x).size=k){T E:TypeId}(hT:Tryz.prog.underlying T=some (.slice E))(hC:Tryz.prog.cellsOf E=k){w:World}
  (one:∀ {n:Nat}{cs:List Value}{y:DataW H×List MemPlace},cs.length=k->DataW.trod enc Tryz.prog w 0 (fun _=>true) true n E cs=some y->∃x,cs=(encA x).toList/\Good x)
  {v:Value}{d:DataW H}{p:List MemPlace}{r:Reach}{b0:Nat}(hv:Value.okWide Tryz.prog w r b0 T v)(h:DataW.Trod enc Tryz.prog w 0 (fun _=>true) true T v d p):
  ∃(A:Option Addr)(n c:Nat)(xs:List α),v=.slice A n c/\n<=c/\c<=maxLen/\(∀x∈xs,Good x)/\TabIn k w w.heap.size A n (xs.map encA)/\(A=Option.none->c=0):=by
 obtain⟨A,n,c,rfl⟩:=okWide_slice hT hv;obtain⟨fuel,hf⟩:=h;rcases Deep.open_slice hT hf with ⟨hcs,_⟩|⟨a,len,cap,m,kk,D,Pl,hcs,_,hlc,hcm,hm,hx,hi⟩
 ·simp only[Value.cells,List.cons.injEq,and_true,Value.slice.injEq] at hcs;obtain⟨rfl,rfl,rfl⟩:=hcs;exact⟨Option.none,0,0,[],rfl,by omega,by decide,(fun x hx=>by cases hx),TabIn.nil k w _ _,fun _=>rfl⟩
 ·simp only[Value.cells,List.cons.injEq,and_true,Value.slice.injEq] at hcs;obtain⟨rfl,rfl,rfl⟩:=hcs;have hmc:m=c:=by rw[hm];rfl
  subst hmc;rw[hC] at hi;have each:∀i,i<n->∃x:α,(∀j v,(encA x)[j]?=some v->w.cell? ((a.add (i*k)).add j)=some v)/\Good x:=by
   intro i hin;obtain⟨cs,hc,ht⟩:=hi i (by omega);obtain⟨_,hl,hat⟩:=World.cells?_some hc;obtain⟨x,he,hs⟩:=one hl ht;refine⟨x,fun j v hj=>?_,hs⟩;have hjk:j<k:=by rw[<-hsz x];exact(Array.getElem?_eq_some_iff.1 hj).1
   rw[hat j hjk,he]
   simpa using hj
  obtain⟨g,o,sp⟩:=a;have hsp:0<n->sp=Option.none:=fun hn=>by
   obtain⟨x,hc,_⟩:=each 0 hn;have h0:0<(encA x).size:=by rw[hsz];exact hk
   exact cell_spot (by simpa[Addr.add] using hc 0 _ (Array.getElem?_eq_getElem h0))
  refine⟨some ⟨g,o,sp⟩,n,m,(List.range n).map (fun i=>if h:i<n then Classical.choose (each i h) else dflt),rfl,hlc,hcm,fun x hx=>?_,⟨by simp,fun hn=>?_⟩,fun h=>by cases h⟩
  ·obtain⟨i,hi1,rfl⟩:=List.mem_map.1 hx;have hin:=List.mem_range.1 hi1;rw[dif_pos hin];exact(Classical.choose_spec (each i hin)).2
  ·have hs:=hsp hn;subst hs;obtain⟨x0,c0,_⟩:=each 0 hn;have h0:0<(encA x0).size:=by rw[hsz];exact hk
   refine⟨g,o,rfl,by have:=World.block_lt_of_cell? _ _ (c0 0 _ (Array.getElem?_eq_getElem h0));simpa[Addr.add] using this,fun j hj i v hv=>?_⟩;have hjn:j<n:=by simpa using hj
   have he:(((List.range n).map (fun i=>if h:i<n then Classical.choose (each i h) else dflt)).map encA)[j]'hj=encA (Classical.choose (each j hjn)):=by
    rw[List.getElem_map,List.getElem_map,List.getElem_range,dif_pos hjn]
   rw[he] at hv;have q:=(Classical.choose_spec (each j hjn)).1 i v hv;rw[tab_add,tab_add] at q;exact q
end Go.Proofs.YtnnnkaobhkeocaaGreatDoor
namespace Go.Proofs.YtnnnkaobhkeocaaGreatDoor
open Go.ChangeShapes Go.WideShapes Go.RowKit OpMath PackMath
variable {H:Type}{enc:TypeId×Value->H}
theorem stamp_trod{w:World}{n:Nat}{a b:Value}{y:DataW H×List MemPlace}(h:DataW.trod enc Tryz.prog w 0 (fun _=>true) true n 24 [a,b]=some y):
  ∃t r:Int,a=.int .i64 t/\b=.int .i64 r/\IsI64 t/\IsI64 r:=by
 have h1:Tryz.prog.cellsOf 3=1:=by kernel_rfl
 have h2:Tryz.prog.cellsOf 2=1:=by kernel_rfl
 obtain⟨xs,m,_,_,_,hlen,hg⟩:=DataW.trod_struct Tryz.underlying24 h
 match xs,hlen with
 | [y0,y1],_=>
  have g0:DataW.trod enc Tryz.prog w 0 (fun _=>true) true m 2 (([a,b].drop 0).take (Tryz.prog.cellsOf 2))=some y0:=hg 0 _ rfl;have g1:DataW.trod enc Tryz.prog w 0 (fun _=>true) true m 3 (([a,b].drop 1).take (Tryz.prog.cellsOf 3))=some y1:=hg 1 _ rfl;rw[h2] at g0;rw[h1] at g1;obtain⟨t,e0,_,w0⟩:=DataW.trod_int Tryz.underlying2 g0;obtain⟨r,e1,_,w1⟩:=DataW.trod_int Tryz.underlying3 g1;simp at e0 e1;exact⟨t,r,e0,e1,bounds_i64 w0,bounds_i64 w1⟩
set_option maxRecDepth 100000 in
theorem op_trod{w:World}{n:Nat}{c0 c1 c2 c3 c4 c5 c6 c7 c8 c9 c10 c11 c12:Value}{y:DataW H×List MemPlace}(h:DataW.trod enc Tryz.prog w 0 (fun _=>true) true n 37 [c0,c1,c2,c3,c4,c5,c6,c7,c8,c9,c10,c11,c12]=some y):
  ∃o:Opn,Value.agg #[c0,c1,c2,c3,c4,c5,c6,c7,c8,c9,c10,c11,c12]=.agg (opA o)/\Ok64 o/\o.name.size<=maxLen/\o.new.size<=maxLen/\o.data.size<=maxLen:=by
 have hC1:Tryz.prog.cellsOf 3=1:=by kernel_rfl
 have hC2:Tryz.prog.cellsOf 24=2:=by kernel_rfl
 have hC3:Tryz.prog.cellsOf 9=1:=by kernel_rfl
 obtain⟨xs,n,_,_,_,hlen,hg⟩:=DataW.trod_struct Tryz.underlying37 h
 match xs,hlen with
 | [y0,y1,y2,y3,y4,y5,y6,y7,y8],_=>
  have g0:DataW.trod enc Tryz.prog w 0 (fun _=>true) true n 24 (([c0,c1,c2,c3,c4,c5,c6,c7,c8,c9,c10,c11,c12].drop 0).take (Tryz.prog.cellsOf 24))=some y0:=hg 0 _ rfl;have g1:DataW.trod enc Tryz.prog w 0 (fun _=>true) true n 3 (([c0,c1,c2,c3,c4,c5,c6,c7,c8,c9,c10,c11,c12].drop 2).take (Tryz.prog.cellsOf 3))=some y1:=hg 1 _ rfl;have g2:DataW.trod enc Tryz.prog w 0 (fun _=>true) true n 24 (([c0,c1,c2,c3,c4,c5,c6,c7,c8,c9,c10,c11,c12].drop 3).take (Tryz.prog.cellsOf 24))=some y2:=hg 2 _ rfl;have g3:DataW.trod enc Tryz.prog w 0 (fun _=>true) true n 24 (([c0,c1,c2,c3,c4,c5,c6,c7,c8,c9,c10,c11,c12].drop 5).take (Tryz.prog.cellsOf 24))=some y3:=hg 3 _ rfl;have g4:DataW.trod enc Tryz.prog w 0 (fun _=>true) true n 24 (([c0,c1,c2,c3,c4,c5,c6,c7,c8,c9,c10,c11,c12].drop 7).take (Tryz.prog.cellsOf 24))=some y4:=hg 4 _ rfl;have g5:DataW.trod enc Tryz.prog w 0 (fun _=>true) true n 9 (([c0,c1,c2,c3,c4,c5,c6,c7,c8,c9,c10,c11,c12].drop 9).take (Tryz.prog.cellsOf 9))=some y5:=hg 5 _ rfl;have g6:DataW.trod enc Tryz.prog w 0 (fun _=>true) true n 9 (([c0,c1,c2,c3,c4,c5,c6,c7,c8,c9,c10,c11,c12].drop 10).take (Tryz.prog.cellsOf 9))=some y6:=hg 6 _ rfl;have g7:DataW.trod enc Tryz.prog w 0 (fun _=>true) true n 3 (([c0,c1,c2,c3,c4,c5,c6,c7,c8,c9,c10,c11,c12].drop 11).take (Tryz.prog.cellsOf 3))=some y7:=hg 7 _ rfl;have g8:DataW.trod enc Tryz.prog w 0 (fun _=>true) true n 9 (([c0,c1,c2,c3,c4,c5,c6,c7,c8,c9,c10,c11,c12].drop 12).take (Tryz.prog.cellsOf 9))=some y8:=hg 8 _ rfl;rw[hC2] at g0 g2 g3 g4;rw[hC1] at g1 g7;rw[hC3] at g5 g6 g8;obtain⟨st,sr,rfl,rfl,i0,i1⟩:=stamp_trod (a:=c0) (b:=c1) g0;obtain⟨k,e2,_,w2⟩:=DataW.trod_int Tryz.underlying3 g1;obtain⟨pt,pr,rfl,rfl,i3,i4⟩:=stamp_trod (a:=c3) (b:=c4) g2;obtain⟨it,ir,rfl,rfl,i5,i6⟩:=stamp_trod (a:=c5) (b:=c6) g3;obtain⟨tt,tr,rfl,rfl,i7,i8⟩:=stamp_trod (a:=c7) (b:=c8) g4;obtain⟨a,e9,_,w9⟩:=DataW.trod_string Tryz.underlying9 g5;obtain⟨b,e10,_,w10⟩:=DataW.trod_string Tryz.underlying9 g6;obtain⟨f,e11,_,w11⟩:=DataW.trod_int Tryz.underlying3 g7;obtain⟨c,e12,_,w12⟩:=DataW.trod_string Tryz.underlying9 g8;simp at e2 e9 e10 e11 e12;subst e2 e9 e10 e11 e12;exact⟨⟨st,sr,k,pt,pr,it,ir,tt,tr,a,b,f,c⟩,rfl,⟨i0,i1,bounds_i64 w2,i3,i4,i5,i6,i7,i8,bounds_i64 w11⟩,w9,w10,w12⟩
set_option maxRecDepth 100000 in
theorem open_op{w:World}{v:Value}{d:DataW H}{p:List MemPlace}{r:Reach}{b0:Nat}(hv:Value.okWide Tryz.prog w r b0 37 v)(h:DataW.Trod enc Tryz.prog w 0 (fun _=>true) true 37 v d p):
  ∃o:Opn,v=.agg (opA o)/\Ok64 o/\o.name.size<=maxLen/\o.new.size<=maxLen/\o.data.size<=maxLen:=by
 have hC:Tryz.prog.cellsOf 37=13:=by kernel_rfl
 obtain⟨cs,rfl,hsz⟩:=okWide_struct Tryz.underlying37 hv;obtain⟨l⟩:=cs
 match l,hsz.trans hC with
 | [c0,c1,c2,c3,c4,c5,c6,c7,c8,c9,c10,c11,c12],_=>
  obtain⟨fuel,hf⟩:=h;exact op_trod (c0:=c0) (c1:=c1) (c2:=c2) (c3:=c3) (c4:=c4) (c5:=c5) (c6:=c6) (c7:=c7) (c8:=c8) (c9:=c9) (c10:=c10) (c11:=c11) (c12:=c12) hf
end Go.Proofs.YtnnnkaobhkeocaaGreatDoor
namespace Go.Proofs.YtnnnkaobhkeocaaGreatDoor
open Go.ChangeShapes Go.WideShapes Go.RowKit StampMath GraphMath OpMath PackMath
variable {H:Type}{enc:TypeId×Value->H}
set_option maxRecDepth 100000 in
theorem open_ops{w:World}{v:Value}{d:DataW H}{p:List MemPlace}{r:Reach}{b0:Nat}(hv:Value.okWide Tryz.prog w r b0 32 v)(h:DataW.Trod enc Tryz.prog w 0 (fun _=>true) true 32 v d p):
  ∃(A:Option Addr)(n c:Nat)(l:List Opn),v=.slice A n c/\n<=c/\c<=maxLen/\(∀x∈l,OpFit x)/\OpsIn w w.heap.size A n l:=by
 obtain⟨A,n,c,l,h1,h2,h3,h4,h5,_⟩:=open_tab opA OpFit ⟨0,0,0,0,0,0,0,0,0,⟨#[]⟩,⟨#[]⟩,0,⟨#[]⟩⟩ (k:=13) (by omega) (fun _=>rfl) Tryz.underlying32 (by kernel_rfl) (fun{n cs y} hl ht=>by
  match cs,hl with
  | [c0,c1,c2,c3,c4,c5,c6,c7,c8,c9,c10,c11,c12],_=>
   obtain⟨o,he,q1,q2,q3,q4⟩:=op_trod (c0:=c0) (c1:=c1) (c2:=c2) (c3:=c3) (c4:=c4) (c5:=c5) (c6:=c6) (c7:=c7) (c8:=c8) (c9:=c9) (c10:=c10) (c11:=c11) (c12:=c12) ht;simp only[Value.agg.injEq] at he
   exact⟨o,by rw[<-he],⟨q1,q2,q3,q4⟩⟩) hv h
 exact⟨A,n,c,l,h1,h2,h3,h4,h5⟩
end Go.Proofs.YtnnnkaobhkeocaaGreatDoor
namespace Go.Proofs.YtnnnkaobhkeocaaGreatDoor
open Go.ChangeShapes Go.WideShapes Go.ChangeAt Go.RowKit
theorem tab_global:Tryz.prog.globalNamed "thimble/op.fields" =some 0:=by kernel_rfl
theorem tab_type:(Tryz.prog.globals[0]?).map (·.type)=some 201:=by kernel_rfl
theorem tab_met(os:Os)(args:Array Value):laidMetH Tryz.prog [("thimble/op.fields",Rows.laid_thimble_op_fields)] ((World.doorLaid Tryz.prog 400 os).forCall (fun _ _=>0) ⟨#[],args,[]⟩).memory:=
 laidMetH_of_parts3 (fuel:=8) (laidMet_of_run' 8 (by kernel_rfl) (by kernel_rfl)) (by kernel_rfl) (by kernel_rfl)
theorem tab_of_laid{W:World}(h:laidMetH Tryz.prog [("thimble/op.fields",Rows.laid_thimble_op_fields)] W):Tab W:=by
 rw[MakeChecks.laidMetH_plain _ _ _ (by kernel_rfl)] at h;obtain⟨ps,⟨g0,t0,cs0,f0,p0,q0,hg0,ht0,hv0,hd0,_⟩,_,_⟩:=h;obtain rfl:=Option.some.inj (tab_global.symm.trans hg0);obtain rfl:=Option.some.inj (tab_type.symm.trans ht0);obtain⟨xs,m,rfl,hx,hlen,hn,hel⟩:=DataW.trod_array Tryz.underlying201 hd0;have c1:Tryz.prog.cellsOf 3=1:=by kernel_rfl
 have hm:xs.map (·.1)=tabL.map fun n=>DataW.lit (.int .i64 n):=by
  have h2:=(Prod.mk.inj hx).1;exact(DataW.agg.inj h2).symm
 refine⟨Lib.hid fun i x hi=>?_⟩;have hl:i<11:=(List.getElem?_eq_some_iff.1 hi).1;have hE:=hel i hl;rw[c1,Nat.mul_one] at hE;have hy:(xs.map (·.1))[i]?=some (DataW.lit (.int .i64 x)):=by rw[hm,List.getElem?_map,hi];rfl
 rw[List.getElem?_map] at hy
 cases hxi:xs[i]? with
 |none=>rw[hxi] at hy;cases hy
 |some y=>
  rw[hxi] at hE hy;simp only[Option.map_some,Option.some.injEq] at hy;obtain⟨k,e1,e2,_⟩:=DataW.trod_int Tryz.underlying3 hE;rw[e2] at hy;simp only[DataW.lit.injEq,Lit.int.injEq,true_and] at hy;subst hy;have hc:=World.var?_cell hg0 hv0 i;rw[hc,<-Array.getElem?_toList];have h3:(cs0.toList.drop i).head?=some (.int .i64 k):=by
   cases hdr:cs0.toList.drop i with
   |nil=>rw[hdr] at e1;simp at e1
   |cons a r=>rw[hdr] at e1;simp at e1;rw[e1];rfl
  rw[List.head?_drop] at h3;exact h3
end Go.Proofs.YtnnnkaobhkeocaaGreatDoor
