/-
 The walk of the document's own Inodes (graphs).
-/
import Derived.Test.YtnnnkaobhkeocaaGreatDoorZ02
import Derived.RegionTactic
import Derived.ChangeAlike
import Derived.Deep.RegionWith
import Derived.Deep.DeepCutAuto
namespace Go.Proofs.YtnnnkaobhkeocaaGreatDoor
open Go.RowKit StampMath GraphMath
theorem inodesG_snoc(g:Gr)(k:Nat)(h:k<g.I.length):(g.I.take (k+1)).map (fun x=>(getG g x.id).getD noIno)=(g.I.take k).map (fun x=>(getG g x.id).getD noIno)++[(getG g g.I[k].id).getD noIno]:=by
 rw[List.take_succ_eq_append_getElem h,List.map_append]
 rfl
set_option maxRecDepth 100000 in
set_option maxHeartbeats 1600000 in
theorem refInodes(A A':Option Addr)(n c m d:Nat)(g:Gr)(hn:n<=1000)(hm:m<=1000)(w:World)(h:InosIn w w.heap.size A n g.I)(h':EntsIn w w.heap.size A' m g.E):
  Calls Tryz.prog 51 #[.agg #[.slice A n c,.slice A' m d]] w (InosPost (inodesG g) w):=by
 obtain⟨i0,hi0,hz0,hz1,hz2⟩:=info_parts ino_infos;have hl:=h.len;have HI:Hid (InosIn w w.heap.size A n g.I):=h;have HG:Hid (∀(id:St)(W:World),Below w.heap.size w W->Calls Tryz.prog 80 #[.agg #[.slice A n c,.slice A' m d],.agg #[.int .i64 id.1,.int .i64 id.2]] W fun e w'=>e=.returned (.tuple #[.agg (inoA ((getG g id).getD noIno)),.bool (getG g id).isSome])/\Below W.heap.size W w'):=fun id W hW=>
  refGet A A' n c m d g id hn hm W ((h.below hW).more hW.size) ((h'.below hW).more hW.size)
 clear h h';have hb0:Held w [(w.heap.size,.cells #[.slice A n c,.slice A' m d] 31)] (w.alloc (.cells #[.slice A n c,.slice A' m d] 31)):=
  (Held.refl w).alloc (.cells #[.slice A n c,.slice A' m d] 31) rfl
 go_enter Tryz.func51,Tryz.ntmps51
 go_wp2_with fail
 go_loopg [3,4] (n+1) (fun gk out i wr=>∃k:Nat,i=.int .i64 (k:Int)/\gk+k=n+1/\k<=n/\wr.ownsRow (w.heap.size+1) 102 6 out k (flat (((g.I.take k).map fun x=>(getG g x.id).getD noIno).map inoA))/\Held w [(w.heap.size,.cells #[.slice A n c,.slice A' m d] 31)] wr)
 case atStart=>exact⟨0,rfl,by omega,by omega,World.ownsRow_nil _ _ _ _,hb0⟩
 case round=>
  obtain⟨k,rfl,hgk,hk,hown,hH⟩:=hrel;clear hb0;obtain⟨c1,c2⟩:=two_cells (g:=w.heap.size) (hH.at 0 rfl);by_cases hlt:k<n
  ·obtain⟨gi,o,rfl,hg,hrow⟩:=HI.out.row (by omega);have hsn:=inodesG_snoc g k (by omega);have hrk:=(hrow k (by omega)).below hH.below hg;obtain⟨x,hx⟩:∃x,g.I[k]=x:=⟨_,rfl⟩;rw[hx] at hrk hsn;clear hrow hx;obtain⟨e0,e1,_⟩:=hrk.below (Below.refl _ wr) (B:=wr.heap.size) (by have:=hH.below.size;omega);have HGx:=Lib.hid (HG.out x.id);obtain⟨y,hy⟩:∃y,y=(getG g x.id).getD noIno:=⟨_,rfl⟩;obtain⟨is,his⟩:∃is,is=(getG g x.id).isSome:=⟨_,rfl⟩;rw[<-hy,<-his] at HGx;rw[<-hy] at hsn;have HS:=Lib.hid hsn;have HGy:Hid (∀W:World,Below w.heap.size w W->Calls Tryz.prog 80 #[.agg #[.slice (some ⟨gi,o,none⟩) n c,.slice A' m d],.agg #[.int .i64 x.id.1,.int .i64 x.id.2]] W fun e w'=>e=.returned (.tuple #[.agg #[.int .i64 y.id.1,.int .i64 y.id.2,.int .i64 y.kind,.int .i64 y.links,.int .i64 y.mode,.string y.data],.bool is])/\Below W.heap.size W w'):=HGx;clear hsn HGx HG hy his
   go_upto_region 5 with fail
   have hlow:w.heap.size<wr.heap.size:=heap_lt (hH.at 0 rfl);have hbA:Below w.heap.size w (wr.alloc (.cells #[.int .i64 0,.int .i64 0,.int .i64 0,.int .i64 0,.int .i64 0,.string ⟨#[]⟩] 102)).drew:=(hH.below.alloc hH.below.size _).drew;have hHA:=hH.step (((Below.refl _ wr).alloc (Nat.le_refl _) (.cells #[.int .i64 0,.int .i64 0,.int .i64 0,.int .i64 0,.int .i64 0,.string ⟨#[]⟩] 102)).drew);obtain⟨cA1,cA2⟩:=two_cells (g:=w.heap.size) (hHA.at 0 rfl);obtain⟨eA0,eA1,_⟩:=hrk.below (((Below.refl _ wr).alloc (Nat.le_refl _) (.cells #[.int .i64 0,.int .i64 0,.int .i64 0,.int .i64 0,.int .i64 0,.string ⟨#[]⟩] 102)).drew) (by omega)
   go_cut [5] (fun p wx=>∃u,p=.pointer (some ⟨u,0,none⟩)/\wx.heap[u]?=some (.cells (inoA y) 102 (0,0))/\Below wr.heap.size wr wx)
   case first=>
    go_region_with (first
     |(go_at_call 80;(with_reducible refine(HGy.out ((wr.alloc (.cells #[.int .i64 0,.int .i64 0,.int .i64 0,.int .i64 0,.int .i64 0,.string ⟨#[]⟩] 102)).drew) hbA).mono ?_);rintro e w9 ⟨rfl,hb9⟩;have hx9:w9.heap[wr.heap.size]?=some (.cells (inoA noIno) 102 (0,0)):=(new_behind hb9).1;have hf9:=ino_free hx9;obtain⟨hf90,hf91,hf92,hf93,hf94,hf95⟩:=hf9;have hc9:=ino_cells hx9;obtain⟨hc90,hc91,hc92,hc93,hc94,hc95⟩:=hc9)
     |(go_at_call 80;(with_reducible refine(HGy.out _ hH.below.drew).mono ?_);rintro e w9 ⟨rfl,hb9⟩))
    all_goals
     go_wp2_with fail
     go_meet
     case rel=>
      first
       |exact⟨_,rfl,ino_put hx9 y,below_six (new_behind hb9).2 (Nat.le_refl _) _ _ _ _ _ _⟩
       |exact⟨_,rfl,heap_alloc_new _ _,(below_step ((Below.refl _ wr).drew) hb9).alloc hb9.size _⟩
   case rest=>
    obtain⟨u,rfl,hu,hbc⟩:=hcut;have hHc:=hH.step hbc;have hownc:=hown.kept (row:=none) ⟨hbc.os,hbc.tape,hbc.output,hbc.size,fun q hq _=>hbc.block q hq⟩ (Classical.em _);have hlowc:w.heap.size<wc.heap.size:=heap_lt (hHc.at 0 rfl);have hm:k+1<=maxLen:=by unfold maxLen;omega
    clear cA1 cA2 eA0 eA1 hHA hbA hH hown c1 c2 e0 e1 hrk hbc;obtain⟨u0,u1,u2,u3,u4,u5⟩:=ino_cells hu
    go_wp2_with (at_builtin;refine wpList_append_own _ rfl (.tmp 25) (.tmp 27) 28 rfl (w.heap.size+1) 102 i0 _ 6 56 Tryz.underlying28 hi0 hz0 hz1 hz2 rfl (by decide) _ _ _ rfl (hownc.alloc _) ⟨wc.heap.size,0,none⟩ 1 1 (inoA y).toList rfl rfl (row_there wc _ _) (ino_one y) hm (by omega) (by simp;omega) ?_;intro v2 w3 hown3 hg3 _)
    have hb3:Held w [(w.heap.size,.cells #[.slice (some ⟨gi,o,none⟩) n c,.slice A' m d] 31)] w3:=
     (hHc.step ((Below.refl _ _).alloc (Nat.le_refl _) _)).grown hg3 (fun q hq=>(hownc.lt q hq).1) (by intro p hp;simp at hp;subst hp;dsimp only;omega)
    rw[flat_ino] at hown3
    go_roundg (gk-1)
    case measure=>omega
    case rel=>exact⟨k+1,by go_num,by omega,by omega,by rw[HS.out];exact hown3,hb3⟩
  ·have e1:k=n:=by omega
   subst e1;obtain⟨B,cc,rfl,q1,q2,q3⟩:=inos_own (by rw[List.length_map,List.length_take];omega) hown;rw[List.take_of_length_le (by omega)] at q1
   go_wp2_with fail
   go_ret
   have e2:(inodesG g).length=k:=by unfold inodesG;rw[List.length_map];exact hl
   unfold InosPost;rw[e2];exact⟨B,cc,rfl,q1,q2,q3.1,q3.2,hH.below⟩
end Go.Proofs.YtnnnkaobhkeocaaGreatDoor
