/-
 The walk of the document's own Inodes (graphs).
-/
import Derived.Test.YtnnnkaobhkeocaaGreatDoorZ02
import Derived.RegionTactic
import Derived.ChangeAlike
import Derived.Deep.RegionWith
import Derived.Deep.DeepCutAuto
import Derived.Test.YtnnnkaobhkeocaaGreatDoorZ01
import Derived.Test.YtnnnkaobhkeocaaGreatDoorZX00
import Derived.Test.YtnnnkaobhkeocaaGreatDoorZ01
import Derived.Test.YtnnnkaobhkeocaaGreatDoorZ01
import Derived.Deep.RegionHeld3
import Derived.Deep.Cut
namespace Go.Proofs.YtnnnkaobhkeocaaGreatDoor
open Go.RowKit StampMath GraphMath
theorem inodesG_snoc(g:Gr)(k:Nat)(h:k<g.I.length):(g.I.take (k+1)).map (fun x=>(getG g x.id).getD noIno)=(g.I.take k).map (fun x=>(getG g x.id).getD noIno)++[(getG g g.I[k].id).getD noIno]:=by
 rw[List.take_succ_eq_append_getElem h,List.map_append]
 rfl
set_option maxRecDepth 100000 in
set_option maxHeartbeats 1600000 in
theorem refInodes(A A':Option Addr)(n c m d:Nat)(g:Gr)(hn:n<=1000)(hm:m<=1000)(w:World)(h:InosIn w w.heap.size A n g.I)(h':EntsIn w w.heap.size A' m g.E):
  Calls Tryz.prog 51 #[.agg #[.slice A n c,.slice A' m d]] w (InosPost (inodesG g) w):=by
 obtain⟨i0,hi0,hz0,hz1,hz2⟩:=info_parts ino_infos;have hl:=h.len;have HI:Hid (InosIn w w.heap.size A n g.I):=h;have HG:Hid (∀(id:St)(W:World),Below w.heap.size w W->Calls Tryz.prog 80 #[.agg #[.slice A n c,.slice A' m d],.agg #[.int .i64 id.1,.int .i64 id.2]] W fun e w'=>e=.returned (.tuple #[.agg (inoA ((getG g id).getD noIno)),.bool (getG g id).isSome])/\Below W.heap.size W w'):=fun id W hW=>
  refGet A A' n c m d g id hn hm W ((h.below hW).more hW.size) ((h'.below hW).more hW.size)
 clear h h';have hb0:Held w [(w.heap.size,.cells #[.slice A n c,.slice A' m d] 31)] (w.alloc (.cells #[.slice A n c,.slice A' m d] 31)):=
  (Held.refl w).alloc (.cells #[.slice A n c,.slice A' m d] 31) rfl
 go_enter Tryz.func51,Tryz.ntmps51
 go_wp2_with fail
 go_loopg [3,4] (n+1) (fun gk out i wr=>∃k:Nat,i=.int .i64 (k:Int)/\gk+k=n+1/\k<=n/\wr.ownsRow (w.heap.size+1) 102 6 out k (flat (((g.I.take k).map fun x=>(getG g x.id).getD noIno).map inoA))/\Held w [(w.heap.size,.cells #[.slice A n c,.slice A' m d] 31)] wr)
 case atStart=>exact⟨0,rfl,by omega,by omega,World.ownsRow_nil _ _ _ _,hb0⟩
 case round=>
  obtain⟨k,rfl,hgk,hk,hown,hH⟩:=hrel;clear hb0;obtain⟨c1,c2⟩:=two_cells (g:=w.heap.size) (hH.at 0 rfl);by_cases hlt:k<n
  ·obtain⟨gi,o,rfl,hg,hrow⟩:=HI.out.row (by omega);have hsn:=inodesG_snoc g k (by omega);have hrk:=(hrow k (by omega)).below hH.below hg;obtain⟨x,hx⟩:∃x,g.I[k]=x:=⟨_,rfl⟩;rw[hx] at hrk hsn;clear hrow hx;obtain⟨e0,e1,_⟩:=hrk.below (Below.refl _ wr) (B:=wr.heap.size) (by have:=hH.below.size;omega);have HGx:=Lib.hid (HG.out x.id);obtain⟨y,hy⟩:∃y,y=(getG g x.id).getD noIno:=⟨_,rfl⟩;obtain⟨is,his⟩:∃is,is=(getG g x.id).isSome:=⟨_,rfl⟩;rw[<-hy,<-his] at HGx;rw[<-hy] at hsn;have HS:=Lib.hid hsn;have HGy:Hid (∀W:World,Below w.heap.size w W->Calls Tryz.prog 80 #[.agg #[.slice (some ⟨gi,o,none⟩) n c,.slice A' m d],.agg #[.int .i64 x.id.1,.int .i64 x.id.2]] W fun e w'=>e=.returned (.tuple #[.agg #[.int .i64 y.id.1,.int .i64 y.id.2,.int .i64 y.kind,.int .i64 y.links,.int .i64 y.mode,.string y.data],.bool is])/\Below W.heap.size W w'):=HGx;clear hsn HGx HG hy his
   go_upto_region 5 with fail
   have hlow:w.heap.size<wr.heap.size:=heap_lt (hH.at 0 rfl);have hbA:Below w.heap.size w (wr.alloc (.cells #[.int .i64 0,.int .i64 0,.int .i64 0,.int .i64 0,.int .i64 0,.string ⟨#[]⟩] 102)).drew:=(hH.below.alloc hH.below.size _).drew;have hHA:=hH.step (((Below.refl _ wr).alloc (Nat.le_refl _) (.cells #[.int .i64 0,.int .i64 0,.int .i64 0,.int .i64 0,.int .i64 0,.string ⟨#[]⟩] 102)).drew);obtain⟨cA1,cA2⟩:=two_cells (g:=w.heap.size) (hHA.at 0 rfl);obtain⟨eA0,eA1,_⟩:=hrk.below (((Below.refl _ wr).alloc (Nat.le_refl _) (.cells #[.int .i64 0,.int .i64 0,.int .i64 0,.int .i64 0,.int .i64 0,.string ⟨#[]⟩] 102)).drew) (by omega)
   go_cut [5] (fun p wx=>∃u,p=.pointer (some ⟨u,0,none⟩)/\wx.heap[u]?=some (.cells (inoA y) 102 (0,0))/\Below wr.heap.size wr wx)
   case first=>
    go_region_with (first
     |(go_at_call 80;(with_reducible refine(HGy.out ((wr.alloc (.cells #[.int .i64 0,.int .i64 0,.int .i64 0,.int .i64 0,.int .i64 0,.string ⟨#[]⟩] 102)).drew) hbA).mono ?_);rintro e w9 ⟨rfl,hb9⟩;have hx9:w9.heap[wr.heap.size]?=some (.cells (inoA noIno) 102 (0,0)):=(new_behind hb9).1;have hf9:=ino_free hx9;obtain⟨hf90,hf91,hf92,hf93,hf94,hf95⟩:=hf9;have hc9:=ino_cells hx9;obtain⟨hc90,hc91,hc92,hc93,hc94,hc95⟩:=hc9)
     |(go_at_call 80;(with_reducible refine(HGy.out _ hH.below.drew).mono ?_);rintro e w9 ⟨rfl,hb9⟩))
    all_goals
     go_wp2_with fail
     go_meet
     case rel=>
      first
       |exact⟨_,rfl,ino_put hx9 y,below_six (new_behind hb9).2 (Nat.le_refl _) _ _ _ _ _ _⟩
       |exact⟨_,rfl,heap_alloc_new _ _,(below_step ((Below.refl _ wr).drew) hb9).alloc hb9.size _⟩
   case rest=>
    obtain⟨u,rfl,hu,hbc⟩:=hcut;have hHc:=hH.step hbc;have hownc:=hown.kept (row:=none) ⟨hbc.os,hbc.tape,hbc.output,hbc.size,fun q hq _=>hbc.block q hq⟩ (Classical.em _);have hlowc:w.heap.size<wc.heap.size:=heap_lt (hHc.at 0 rfl);have hm:k+1<=maxLen:=by unfold maxLen;omega
    clear cA1 cA2 eA0 eA1 hHA hbA hH hown c1 c2 e0 e1 hrk hbc;obtain⟨u0,u1,u2,u3,u4,u5⟩:=ino_cells hu
    go_wp2_with (at_builtin;refine wpList_append_own _ rfl (.tmp 25) (.tmp 27) 28 rfl (w.heap.size+1) 102 i0 _ 6 56 Tryz.underlying28 hi0 hz0 hz1 hz2 rfl (by decide) _ _ _ rfl (hownc.alloc _) ⟨wc.heap.size,0,none⟩ 1 1 (inoA y).toList rfl rfl (row_there wc _ _) (ino_one y) hm (by omega) (by simp;omega) ?_;intro v2 w3 hown3 hg3 _)
    have hb3:Held w [(w.heap.size,.cells #[.slice (some ⟨gi,o,none⟩) n c,.slice A' m d] 31)] w3:=
     (hHc.step ((Below.refl _ _).alloc (Nat.le_refl _) _)).grown hg3 (fun q hq=>(hownc.lt q hq).1) (by intro p hp;simp at hp;subst hp;dsimp only;omega)
    rw[flat_ino] at hown3
    go_roundg (gk-1)
    case measure=>omega
    case rel=>exact⟨k+1,by go_num,by omega,by omega,by rw[HS.out];exact hown3,hb3⟩
  ·have e1:k=n:=by omega
   subst e1;obtain⟨B,cc,rfl,q1,q2,q3⟩:=inos_own (by rw[List.length_map,List.length_take];omega) hown;rw[List.take_of_length_le (by omega)] at q1
   go_wp2_with fail
   go_ret
   have e2:(inodesG g).length=k:=by unfold inodesG;rw[List.length_map];exact hl
   unfold InosPost;rw[e2];exact⟨B,cc,rfl,q1,q2,q3.1,q3.2,hH.below⟩
end Go.Proofs.YtnnnkaobhkeocaaGreatDoor
namespace Go.Proofs.YtnnnkaobhkeocaaGreatDoor
open Go.RowKit StampMath GraphMath OpMath
set_option maxRecDepth 100000 in
set_option maxHeartbeats 1600000 in
theorem sameO_two(H:GraphHave)(a b:Addr)(S T:Nat->Prop)(g:Gr)(w:World)(h1:H.rep w S a g)(h2:H.rep w T b g)(hg:g.ok):
  Calls Tryz.prog 24 #[.pointer (some a),.pointer (some b)] w fun e w'=>e=.returned (.bool true)/\Below w.heap.size w w':=by
 have hin:(inodesG g).length<=1000:=by unfold inodesG;rw[List.length_map];exact Nat.le_trans hg.few (by decide)
 have hm:g.E.length<=1000:=Nat.le_trans hg.entsFew (by decide);have I1:Hid (∀W,Below w.heap.size w W->Calls Tryz.prog 33 #[.pointer (some a)] W (InosPost (inodesG g) W)):=fun W hW=>told_inos H h1 hg hW;have I2:Hid (∀W,Below w.heap.size w W->Calls Tryz.prog 33 #[.pointer (some b)] W (InosPost (inodesG g) W)):=fun W hW=>told_inos H h2 hg hW;have E1:Hid (∀W,Below w.heap.size w W->Calls Tryz.prog 53 #[.pointer (some a)] W (EntsPost g.E W)):=fun W hW=>told_ents H h1 hg hW;have E2:Hid (∀W,Below w.heap.size w W->Calls Tryz.prog 53 #[.pointer (some b)] W (EntsPost g.E W)):=fun W hW=>told_ents H h2 hg hW;have C9:Hid (∀(B B':Option Addr)(k k':Nat)(W:World),InosIn W W.heap.size B (inodesG g).length (inodesG g)->InosIn W W.heap.size B' (inodesG g).length (inodesG g)->Calls Tryz.prog 50 #[.slice B (inodesG g).length k,.slice B' (inodesG g).length k'] W fun e w'=>e=.returned (.bool true)/\Below W.heap.size W w'):=fun B B' k k' W q1 q2=>by
  have:=refNodes B B' _ k _ k' _ _ (by omega) (by omega) W q1 q2
  simpa using this
 have C15:Hid (∀(B B':Option Addr)(k k':Nat)(W:World),EntsIn W W.heap.size B g.E.length g.E->EntsIn W W.heap.size B' g.E.length g.E->Calls Tryz.prog 52 #[.slice B g.E.length k,.slice B' g.E.length k'] W fun e w'=>e=.returned (.bool true)/\Below W.heap.size W w'):=fun B B' k k' W q1 q2=>by
  have:=refEnts B B' _ k _ k' _ _ (by omega) (by omega) W q1 q2
  simpa using this
 generalize inodesG g=X at I1 I2 C9;generalize g.E=E at E1 E2 C15;clear h1 h2 hg hin hm
 go_enter Tryz.func24,Tryz.ntmps24
 go_wp2_with fail
 refine(I1.out _ (by repeat(first|exact Below.refl _ _|assumption|apply Below.drew|refine below_step ?_ (by assumption)))).mono ?_;rintro z w1 ⟨B1,k1,rfl,q1,_,_,_,hb⟩
 go_wp2_with fail
 refine(I2.out _ (by repeat(first|exact Below.refl _ _|assumption|apply Below.drew|refine below_step ?_ (by assumption)))).mono ?_;rintro z w1 ⟨B1,k1,rfl,q1,_,_,_,hb⟩
 go_wp2_with fail
 refine(C9.out _ _ _ _ _ (inos_later (by assumption) (by repeat(first|exact Below.refl _ _|assumption|apply Below.drew|refine below_step ?_ (by assumption)))) (by assumption)).mono ?_;rintro z w1 ⟨rfl,hb⟩
 go_wp2_with fail
 refine(E1.out _ (by repeat(first|exact Below.refl _ _|assumption|apply Below.drew|refine below_step ?_ (by assumption)))).mono ?_;rintro z w1 ⟨B1,k1,rfl,q1,_,_,_,hb⟩
 go_wp2_with fail
 refine(E2.out _ (by repeat(first|exact Below.refl _ _|assumption|apply Below.drew|refine below_step ?_ (by assumption)))).mono ?_;rintro z w1 ⟨B1,k1,rfl,q1,_,_,_,hb⟩
 go_wp2_with fail
 refine(C15.out _ _ _ _ _ (ents_later (by assumption) (by repeat(first|exact Below.refl _ _|assumption|apply Below.drew|refine below_step ?_ (by assumption)))) (by assumption)).mono ?_;rintro z w1 ⟨rfl,hb⟩
 go_wp2_with fail
 go_ret
 exact⟨rfl,by repeat(first|exact Below.refl _ _|assumption|apply Below.drew|refine below_step ?_ (by assumption))⟩
theorem kept_of{C:Prop}{V W:World}(h:C/\KeptFrom V W):Below V.heap.size V W:=h.2
theorem is_inos{N:Nat->Prop}{V:World}{X8:Option Addr}{n8 c8:Nat}{Y8:Option Addr}{m8 d8:Nat}{φ:Gr}(hok:φ.ok)(hxx:GrAt N V (.agg #[.slice X8 n8 c8,.slice Y8 m8 d8]) φ)(W:World)(hW:Below V.heap.size V W):Calls Tryz.prog 51 #[.agg #[.slice X8 n8 c8,.slice Y8 m8 d8]] W (InosPost (inodesG φ) W):=by
 have hn1:φ.I.length<=1000:=Nat.le_trans hok.few (by decide);have hm1:φ.E.length<=1000:=Nat.le_trans hok.entsFew (by decide);obtain⟨A1,n1,c1,A2,m2,d2,e,hI,_,hEE,_⟩:=hxx;simp only[Value.agg.injEq,Array.mk.injEq,List.cons.injEq,Value.slice.injEq,and_true] at e;obtain⟨⟨rfl,rfl,rfl⟩,rfl,rfl,rfl⟩:=e;have l1:=hI.len;have l2:=hEE.len;exact refInodes X8 Y8 n8 c8 m8 d8 φ (by omega) (by omega) W ((hI.below hW).more hW.size) ((hEE.below hW).more hW.size)
theorem is_nodes{φ:Gr}(hok:φ.ok)(B B':Option Addr)(k k':Nat)(W:World)(h1:InosIn W W.heap.size B (inodesG φ).length (inodesG φ))(h2:InosIn W W.heap.size B' (inodesG φ).length (inodesG φ)):Calls Tryz.prog 50 #[.slice B (inodesG φ).length k,.slice B' (inodesG φ).length k'] W fun e w'=>e=.returned (.bool true)/\Below W.heap.size W w':=by
 have hn1:φ.I.length<=1000:=Nat.le_trans hok.few (by decide);have hin:(inodesG φ).length=φ.I.length:=by unfold inodesG;rw[List.length_map]
 have:=refNodes B B' _ k _ k' _ _ (by omega) (by omega) W h1 h2
 simpa using this
theorem is_ents{N:Nat->Prop}{V:World}{X8:Option Addr}{n8 c8:Nat}{Y8:Option Addr}{m8 d8:Nat}{φ:Gr}(hok:φ.ok)(hxx:GrAt N V (.agg #[.slice X8 n8 c8,.slice Y8 m8 d8]) φ)(B:Option Addr)(k:Nat)(W:World)(hW:Below V.heap.size V W)(h1:EntsIn W W.heap.size B φ.E.length φ.E):Calls Tryz.prog 52 #[.slice B φ.E.length k,.slice Y8 m8 d8] W fun e w'=>e=.returned (.bool true)/\Below W.heap.size W w':=by
 have hm1:φ.E.length<=1000:=Nat.le_trans hok.entsFew (by decide);obtain⟨A1,n1,c1,A2,m2,d2,e,hI,_,hEE,_⟩:=hxx;simp only[Value.agg.injEq,Array.mk.injEq,List.cons.injEq,Value.slice.injEq,and_true] at e;obtain⟨⟨rfl,rfl,rfl⟩,rfl,rfl,rfl⟩:=e;have hl:=hEE.len;have:=refEnts B Y8 _ k m8 d8 _ _ (by omega) (by omega) W h1 ((hEE.below hW).more hW.size)
 simpa using this
set_option maxRecDepth 100000 in
set_option maxHeartbeats 3200000 in
theorem isO_two(H:GraphHave)(N:Nat->Prop)(a:Addr)(S:Nat->Prop)(γ:Gr)(v:Value)(w:World)(h:H.rep w S a γ)(hv:GrAt N w v γ)(hg:γ.ok):
    Calls Tryz.prog 15 #[.pointer (some a),v] w fun e w'=>e=.returned (.bool true)/\Below w.heap.size w w':=by
  obtain⟨X1,n1,c1,Y1,m1,d1,rfl⟩:=hv.form;obtain⟨u,hu⟩:∃u,u=w.heap.size:=⟨_,rfl⟩;have H0:Hid (Held w [(u,.cells #[.slice X1 n1 c1,.slice Y1 m1 d1] 31)] (w.alloc (.cells #[.slice X1 n1 c1,.slice Y1 m1 d1] 31))):=Lib.hid ((Held.refl w).alloc _ hu.symm);have HV:=Lib.hid hv;have HR:=Lib.hid h;clear h hv
  go_enter Tryz.func15,Tryz.ntmps15
  go_upto_region 1 with fail
  rw[<-hu];change Code.wp _ _ _ _ (w.alloc (.cells #[.slice X1 n1 c1,.slice Y1 m1 d1] 31));generalize w.alloc (.cells #[.slice X1 n1 c1,.slice Y1 m1 d1] 31)=V at H0 ⊢;clear hu;have r4:H.rep V S a γ:=H.keep HR.out fun i hi=>H0.out.below.block i (H.lt HR.out i hi);have x4:GrAt N V (.agg #[.slice X1 n1 c1,.slice Y1 m1 d1]) γ:=HV.out.step H0.out.below fun i hi=>hi;have C6:Hid (∀W,Below V.heap.size V W->Calls Tryz.prog 33 #[.pointer (some a)] W (InosPost (inodesG γ) W)):=Lib.hid fun W hW=>told_inos H r4 hg hW;have C12:Hid (∀W,Below V.heap.size V W->Calls Tryz.prog 53 #[.pointer (some a)] W (EntsPost γ.E W)):=Lib.hid fun W hW=>told_ents H r4 hg hW;have C8:=Lib.hid (is_inos hg x4);have C9:=Lib.hid (is_nodes hg);have C15:=Lib.hid (is_ents hg x4);obtain⟨x0,x1⟩:=two_cells (H0.out.at 0 rfl);have HS:Hid (∀W,Below V.heap.size V W->(W.cell? ⟨u,0,none⟩=some (.slice X1 n1 c1)/\W.cell? ⟨u,1,none⟩=some (.slice Y1 m1 d1))/\KeptFrom V W):=Lib.hid fun W hW=>⟨⟨cell_later hW x0,cell_later hW x1⟩,hW⟩;have hS0:=HS.out _ (Below.refl _ _);have hSd:=HS.out _ (Below.refl _ _).drew;unfold InosPost at C6 C8;unfold EntsPost at C12;have B0:=Lib.hid H0.out.below;clear x0 x1 r4 x4 HV HR hg H0
  go_region_held3 (fun W=>(W.cell? ⟨u,0,none⟩=some (.slice X1 n1 c1)/\W.cell? ⟨u,1,none⟩=some (.slice Y1 m1 d1))/\KeptFrom V W)
    (first|(with_reducible assumption))
    (first
      |(go_at_call 33;(with_reducible refine(C6.out _ (kept_of (by assumption))).mono ?_);rintro z w21 ⟨B1,k1,rfl,q1,_,_,_,hb⟩;have hS:=HS.out _ (below_step (kept_of (by assumption)) hb))
      |(go_at_call 51;(with_reducible refine(C8.out _ (kept_of (by assumption))).mono ?_);rintro z w22 ⟨B1,k1,rfl,q1,_,_,_,hb⟩;have hS:=HS.out _ (below_step (kept_of (by assumption)) hb))
      |(go_at_call 50;(with_reducible refine(C9.out _ _ _ _ _ (inos_later (by assumption) (by repeat(first|exact Below.refl _ _|assumption|apply Below.drew|refine below_step ?_ (by assumption)))) (inos_later (by assumption) (by repeat(first|exact Below.refl _ _|assumption|apply Below.drew|refine below_step ?_ (by assumption))))).mono ?_);rintro z w23 ⟨rfl,hb⟩;have hS:=HS.out _ (below_step (kept_of (by assumption)) hb))
      |(go_at_call 53;(with_reducible refine(C12.out _ (kept_of (by assumption))).mono ?_);rintro z w24 ⟨B1,k1,rfl,q1,_,_,_,hb⟩;have hS:=HS.out _ (below_step (kept_of (by assumption)) hb))
      |(go_at_call 52;(with_reducible refine(C15.out _ _ _ (kept_of (by assumption)) (ents_later (by assumption) (by repeat(first|exact Below.refl _ _|assumption|apply Below.drew|refine below_step ?_ (by assumption))))).mono ?_);rintro z w25 ⟨rfl,hb⟩;have hS:=HS.out _ (below_step (kept_of (by assumption)) hb)))
  all_goals
    have HF:=Lib.hid (below_step B0.out (kept_of hS));clear HS hS0 hSd hS
    go_wp2_with fail
    go_ret
    exact⟨rfl,HF.out⟩
end Go.Proofs.YtnnnkaobhkeocaaGreatDoor
