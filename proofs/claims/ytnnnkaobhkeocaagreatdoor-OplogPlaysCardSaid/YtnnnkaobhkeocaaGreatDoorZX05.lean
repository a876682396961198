/-
 The walk of the document's own Tie (graphs).
-/
import Derived.Test.YtnnnkaobhkeocaaGreatDoorZX04
namespace Go.Proofs.YtnnnkaobhkeocaaGreatDoor
open Go.RowKit StampMath GraphMath OpMath
theorem ent_sizes{E:List Ent}:∀r∈E.map entA,r.size=5:=fun r hr=>by obtain⟨e,_,rfl⟩:=List.mem_map.1 hr;rfl
theorem ent_ones{E:List Ent}:∀r∈E.map entA,∀u∈r.toList,u.oneCell'=true:=fun r hr=>by obtain⟨e,_,rfl⟩:=List.mem_map.1 hr;exact ent_one e
theorem ents_in{W:World}{base:Nat}{B:Option Addr}{n cc:Nat}{E:List Ent}(h:W.ownsRow base 126 5 (.slice B E.length cc) n (flat (E.map entA))):
  EntsIn W W.heap.size B E.length E/\Cap (fun i=>base<=i) B E.length cc:=by
 have hn:n=E.length:=by
  have:=h.1;rw[flat_len ent_sizes,List.length_map] at this;omega
 subst hn;obtain⟨B',c',he,q1,q2,q3⟩:=ents_own rfl h;simp only[Value.slice.injEq,true_and] at he;obtain⟨rfl,rfl⟩:=he;exact⟨q1,q2,q3.1,q3.2,fun _ p hp=>(h.lt p.block (by rw[hp];rfl)).1⟩
set_option maxRecDepth 100000 in
set_option maxHeartbeats 3200000 in
theorem refTie(N:Nat->Prop)(v:Value)(g:Gr)(e:Ent)(hn:g.I.length<=1000)(hm:g.E.length<=1000)(hs:e.name.size<=9223372036854775807)(w:World)(hv:GrAt N w v g):
  Calls Tryz.prog 140 #[v,.agg (entA e)] w (GrPost N (tieG (nameB e.name) g e) w):=by
 obtain⟨i0,hi0,hz0,hz1,hz2⟩:=info_parts ent_infos;have HV:=Lib.hid hv;have hwhy:Hid (∀W:World,Below w.heap.size w W->Calls Tryz.prog 180 #[v,.agg #[.int .i64 e.dir.1,.int .i64 e.dir.2,.string e.name,.int .i64 e.ino.1,.int .i64 e.ino.2]] W fun x w'=>x=.returned (.int .i64 (whyG (nameB e.name) g e))/\Below W.heap.size W w'):=fun W hW=>refWhy v g e hn hm hs W (hv.step hW);obtain⟨A,n,c,A',m,d,rfl,hI,hc1,hE,hc2⟩:=hv;have hl':=hE.len;have HE:Hid (EntsIn w w.heap.size A' m g.E):=hE;have htie:tieG (nameB e.name) g e=if whyG (nameB e.name) g e=0 then(⟨g.I,putIn (fun a=>aheadE a e) g.E e⟩,0) else(g,whyG (nameB e.name) g e):=rfl;obtain⟨wv,hwv⟩:∃wv,wv=whyG (nameB e.name) g e:=⟨_,rfl⟩;rw[<-hwv] at hwhy htie;obtain⟨R,hR⟩:∃R,R=tieG (nameB e.name) g e:=⟨_,rfl⟩;rw[<-hR] at htie ⊢;have HR:=Lib.hid htie;clear htie hwv hR;have hd1:A'=none->d=0:=hc2.2.2.1;have hd2:m<=d:=hc2.1;have hd3:d<=maxLen:=hc2.2.1;have HI:Hid (InosIn w w.heap.size A n g.I/\Cap N A n c):=⟨hI,hc1⟩;clear hI hc1 hE hc2;have hb0:Held w [(w.heap.size+1+1,.cells #[.slice none 0 0,.slice none 0 0] 31),(w.heap.size+1,.cells (entA e) 126),(w.heap.size,.cells #[.slice A n c,.slice A' m d] 31)]
  (((w.alloc (.cells #[.slice A n c,.slice A' m d] 31)).alloc (.cells (entA e) 126)).alloc (.cells #[.slice none 0 0,.slice none 0 0] 31)):=
  (((Held.refl w).alloc (.cells #[.slice A n c,.slice A' m d] 31) rfl).alloc (.cells (entA e) 126) (by simp)).alloc (.cells #[.slice none 0 0,.slice none 0 0] 31) (by simp)
 unfold entA
 go_enter Tryz.func140,Tryz.ntmps140
 go_upto_region 1 with fail
 change Code.wp _ _ _ _ (((w.alloc (.cells #[.slice A n c,.slice A' m d] 31)).alloc (.cells (entA e) 126)).alloc (.cells #[.slice none 0 0,.slice none 0 0] 31));generalize ((w.alloc (.cells #[.slice A n c,.slice A' m d] 31)).alloc (.cells (entA e) 126)).alloc (.cells #[.slice none 0 0,.slice none 0 0] 31)=w0 at hb0 ⊢;obtain⟨c1,c2⟩:=two_cells (g:=w.heap.size) (hb0.at 2 rfl);obtain⟨e0,e1,e2,e3,e4⟩:=ent_cells (g:=w.heap.size+1) (hb0.at 1 rfl)
 go_wp2_with fail
 refine(hwhy.out _ hb0.below).mono ?_;rintro z w1 ⟨rfl,hb1⟩;have hH1:=hb0.step hb1;clear hb0 hb1 c1 c2 e0 e1 e2 e3 e4;obtain⟨c1,c2⟩:=two_cells (g:=w.heap.size) (hH1.at 2 rfl);obtain⟨m0,m1⟩:=two_cells (g:=w.heap.size+1+1) (hH1.at 0 rfl);obtain⟨f0,f1⟩:=two_free (g:=w.heap.size+1+1) (hH1.at 0 rfl);by_cases hw0:wv=0
 ·have HR0:Hid (R=(⟨g.I,putIn (fun a=>aheadE a e) g.E e⟩,0)):=HR.out.trans (if_pos hw0);subst hw0;clear HR HV
  go_wp2_with fail
  go_loopg [7] (m+1) (fun gk i wr=>∃k:Nat,i=.int .i64 (k:Int)/\gk+k=m+1/\k<=m/\Hid (∀j(h:j<g.E.length),j<k->aheadE g.E[j] e=true)/\Held w [(w.heap.size+1+1,.cells #[.slice none 0 0,.slice none 0 0] 31),(w.heap.size+1,.cells (entA e) 126),(w.heap.size,.cells #[.slice A n c,.slice A' m d] 31)] wr)
  case atStart=>exact⟨0,rfl,by omega,by omega,fun _ _ hj=>absurd hj (by omega),hH1⟩
  case round=>
   obtain⟨k,rfl,hgk,hk,hall,hH⟩:=hrel;clear hH1 c1 c2 m0 m1 f0 f1;have c2:=(two_cells (g:=w.heap.size) (hH.at 2 rfl)).2;obtain⟨e0,e1,e2,e3,e4⟩:=ent_cells (g:=w.heap.size+1) (hH.at 1 rfl);have qc2:=later_cell c2;have q0:=later_cell e0;have q1:=later_cell e1;have q2:=later_cell e2;have q3:=later_cell e3;have q4:=later_cell e4;clear e0 e1 e2 e3 e4;by_cases hlt:k<m
   ·obtain⟨gi,o,rfl,hg,hrow⟩:=HE.out.row (by omega);have hrk:=(hrow k (by omega)).below hH.below hg;have hA:=fun W=>refAhead g.E[k] e W;obtain⟨b,hb⟩:∃b,b=aheadE g.E[k] e:=⟨_,rfl⟩;rw[<-hb] at hA;obtain⟨x,hx⟩:∃x,g.E[k]=x:=⟨_,rfl⟩;rw[hx] at hrk hA;obtain⟨r0,r1,r2,r3,r4⟩:=hrk;have s0:=later_cell r0;have s1:=later_cell r1;have s2:=later_cell r2;have s3:=later_cell r3;have s4:=later_cell r4;clear r0 r1 r2 r3 r4 hrow;have HA:Hid (∀W:World,Calls Tryz.prog 181 #[.agg #[.int .i64 x.dir.1,.int .i64 x.dir.2,.string x.name,.int .i64 x.ino.1,.int .i64 x.ino.2],.agg #[.int .i64 e.dir.1,.int .i64 e.dir.2,.string e.name,.int .i64 e.ino.1,.int .i64 e.ino.2]] W fun x w'=>x=.returned (.bool b)/\Below W.heap.size W w'):=hA;clear hA
    cases b
    ·have HT:Hid (g.E.take k=g.E.takeWhile (fun a=>aheadE a e)/\g.E.drop k=g.E.dropWhile (fun a=>aheadE a e)):=take_while_at (by omega) hall.out fun _=>hb.symm;clear hb hx hall
     go_upto_region 5 with fail
     refine wp_region_later (by kernel_rfl) (by kernel_rfl) ?_
     repeat(go_big_quiet_step (first|(with_reducible exact later_call (HA.out _))))
     refine wpQuiet_nil ?_;intro _ hw';obtain⟨y,rfl⟩:=hw';have hH2:=hH.step (later_below wr y);generalize later wr y=w2 at hH2 ⊢;clear qc2 q0 q1 q2 q3 q4 s0 s1 s2 s3 s4 hH HA;have hlow:w.heap.size+1+1<w2.heap.size:=heap_lt (hH2.at 0 rfl);clear c2;have c2:=(two_cells (g:=w.heap.size) ((hH2.alloc (.cells #[] 126) rfl).at 3 rfl)).2;have hT2:=(HE.out.below hH2.below).more hH2.below.size;have hk1:0+k<=maxLen:=by unfold maxLen;omega
     have hk2:k+1<=maxLen:=by unfold maxLen;omega
     have hk3:k+1+(m-k)<=maxLen:=by unfold maxLen;omega
     have hTk:=TabIn.take (hT2.below ((Below.refl w2.heap.size w2).alloc (Nat.le_refl _) (.cells #[] 126))) hk;rw[<-List.map_take] at hTk
     go_upto_region 8 with (at_builtin;refine wpList_append_tab rfl (.tmp 32) (.tmp 36) 29 rfl (w.heap.size+3) 126 i0 _ 5 48 Tryz.underlying29 hi0 hz0 hz1 hz2 rfl (by decide) _ 0 [] rfl (own_empty w2 _ _ _ (by omega)) _ k d w2.heap.size ((g.E.take k).map entA) rfl hTk hd1 ent_sizes ent_ones hk1 (by omega) (by simp;omega) ?_;intro v3 w3 hown3 hg3)
     rw[List.nil_append,Nat.zero_add] at hown3;have hH3:=(hH2.step ((Below.refl w2.heap.size w2).alloc (Nat.le_refl _) (.cells #[] 126))).grown (B:=w.heap.size+3) hg3 (fun q hq=>((own_empty w2 (w.heap.size+3) 126 5 (by omega)).lt q hq).1) (by intro p hp;simp at hp;rcases hp with rfl|rfl|rfl<;>(dsimp only;omega)) (by omega);clear c2 hT2 hTk hg3 hH2 hlow hk1;have hlow:w.heap.size+1+1<w3.heap.size:=heap_lt (hH3.at 0 rfl);obtain⟨e0,e1,e2,e3,e4⟩:=ent_cells (g:=w.heap.size+1) (hH3.at 1 rfl)
     go_upto_region 9 with (at_builtin;refine wpList_append_own _ rfl (.tmp 38) (.tmp 40) 29 rfl (w.heap.size+3) 126 i0 _ 5 48 Tryz.underlying29 hi0 hz0 hz1 hz2 rfl (by decide) _ _ _ rfl (hown3.alloc _) ⟨w3.heap.size,0,none⟩ 1 1 (entA e).toList rfl rfl (row_there w3 _ _) (ent_one e) hk2 (by omega) (by simp;omega) ?_;intro v4 w4 hown4 hg4 _)
     rw[flat_ent] at hown4;have hH4:=(hH3.step ((Below.refl w3.heap.size w3).alloc (Nat.le_refl _) (.cells (entA e) 126))).grown (B:=w.heap.size+3) hg4 (fun q hq=>(hown3.lt q hq).1) (by intro p hp;simp at hp;rcases hp with rfl|rfl|rfl<;>(dsimp only;omega)) (by omega);clear e0 e1 e2 e3 e4 hown3 hg4 hH3 hlow hk2;have hlow:w.heap.size+1+1<w4.heap.size:=heap_lt (hH4.at 0 rfl);have c2:=(two_cells (g:=w.heap.size) (hH4.at 2 rfl)).2;have hT4:=TabIn.drop (HE.out.below hH4.below) hk;rw[<-List.map_drop] at hT4
     go_upto_region 10 with (at_builtin;refine wpList_append_tab rfl (.tmp 42) (.tmp 46) 29 rfl (w.heap.size+3) 126 i0 _ 5 48 Tryz.underlying29 hi0 hz0 hz1 hz2 rfl (by decide) _ _ _ rfl hown4 _ (m-k) _ w.heap.size ((g.E.drop k).map entA) rfl hT4 (fun h=>by cases h) ent_sizes ent_ones hk3 (by omega) (by omega) ?_;intro v5 w5 hown5 hg5)
     have hH5:=hH4.grown (B:=w.heap.size+3) hg5 (fun q hq=>(hown4.lt q hq).1) (by intro p hp;simp at hp;rcases hp with rfl|rfl|rfl<;>(dsimp only;omega)) (by omega);clear c2 hown4 hg5 hH4 hlow hk3;have c1:=(two_cells (g:=w.heap.size) (hH5.at 2 rfl)).1;obtain⟨m0,m1⟩:=two_cells (g:=w.heap.size+1+1) (hH5.at 0 rfl);obtain⟨f0,f1⟩:=two_free (g:=w.heap.size+1+1) (hH5.at 0 rfl);have hlist:g.E.take k++[e]++(g.E.drop k)=putIn (fun a=>aheadE a e) g.E e:=by unfold putIn;rw[<-HT.out.1,<-HT.out.2,List.append_assoc];rfl
     have hlen:k+1+(m-k)=(putIn (fun a=>aheadE a e) g.E e).length:=by rw[<-hlist];simp only[List.length_append,List.length_take,List.length_drop,List.length_cons,List.length_nil];omega
     rw[<-List.map_append,hlist,hlen] at hown5;obtain⟨B,cc,rfl,-⟩:=ents_own rfl hown5;have hown6:=own_set2 hown5 (b:=w.heap.size+1+1) (by omega) (.slice A n c) (.slice B (putIn (fun a=>aheadE a e) g.E e).length cc);obtain⟨q1,q2⟩:=ents_in hown6;have hB6:Below w.heap.size w ((w5.setCell ⟨w.heap.size+1+1,0,none⟩ (.slice A n c)).setCell ⟨w.heap.size+1+1,1,none⟩ (.slice B (putIn (fun a=>aheadE a e) g.E e).length cc)):=(hH5.below.setCell (by dsimp only;omega) _).setCell (by dsimp only;omega) _;have HF:=Lib.hid (And.intro (And.intro q1 q2) hB6);clear hown5 hown6 q1 q2 hB6 hlist hlen
     go_wp2_with fail
     exact bodyPost_ret (v:=.tuple #[.agg #[.slice A n c,.slice B (putIn (fun a=>aheadE a e) g.E e).length cc],.int .i64 0]) (by simp[results,Tryz.results140,go_sem,m0,m1]) rfl ⟨_,by rw[HR0.out],by rw[HR0.out];exact⟨A,n,c,B,_,cc,rfl,(HI.out.1.below HF.out.2).more HF.out.2.size,HI.out.2.to,HF.out.1.1,HF.out.1.2.to⟩,HF.out.2⟩
    ·have HN:Hid (∀j(h:j<g.E.length),j<k+1->aheadE g.E[j] e=true):=fun j h hj=>by
      by_cases hjk:j=k
      ·subst hjk;exact hb.symm
      ·exact hall.out j h (by omega)
     clear hb hx hall
     go_upto_region 5 with fail
     refine wp_region_later (by kernel_rfl) (by kernel_rfl) ?_
     repeat(go_big_quiet_step (first|(with_reducible exact later_call (HA.out _))))
     refine wpQuiet_nil ?_;intro _ hw';obtain⟨y,rfl⟩:=hw';have hH2:=hH.step (later_below wr y)
     go_wp2_with fail
     go_roundg (gk-1)
     case measure=>omega
     case rel=>exact⟨k+1,by go_num,by omega,by omega,HN.out,hH2⟩
   ·have HT:Hid (g.E.take k=g.E.takeWhile (fun a=>aheadE a e)/\g.E.drop k=g.E.dropWhile (fun a=>aheadE a e)):=take_while_at (by omega) hall.out fun h=>absurd h (by omega);clear hall
    go_upto_region 5 with fail
    refine wp_region_later (by kernel_rfl) (by kernel_rfl) ?_
    repeat(go_big_quiet_step (fail))
    refine wpQuiet_nil ?_;intro _ hw';obtain⟨y,rfl⟩:=hw';have hH2:=hH.step (later_below wr y);generalize later wr y=w2 at hH2 ⊢;clear qc2 q0 q1 q2 q3 q4 hH;have hkm:k=m:=by omega
    subst hkm
    cases A' with
    |none=>
     obtain rfl:d=0:=hd1 rfl;obtain rfl:k=0:=by omega
     have hlow:w.heap.size+1+1<w2.heap.size:=heap_lt (hH2.at 0 rfl);clear c2;have c2:=(two_cells (g:=w.heap.size) ((hH2.alloc (.cells #[] 126) rfl).at 3 rfl)).2;have hT2:=(HE.out.below hH2.below).more hH2.below.size;have hk1:0+0<=maxLen:=by unfold maxLen;omega
     have hk2:0+1<=maxLen:=by unfold maxLen;omega
     have hk3:0+1+0<=maxLen:=by unfold maxLen;omega
     have hTk:=TabIn.take (hT2.below ((Below.refl w2.heap.size w2).alloc (Nat.le_refl _) (.cells #[] 126))) hk;rw[<-List.map_take] at hTk
     go_upto_region 8 with (at_builtin;refine wpList_append_tab rfl (.tmp 32) (.tmp 36) 29 rfl (w.heap.size+3) 126 i0 _ 5 48 Tryz.underlying29 hi0 hz0 hz1 hz2 rfl (by decide) _ 0 [] rfl (own_empty w2 _ _ _ (by omega)) _ 0 0 w2.heap.size ((g.E.take 0).map entA) rfl hTk hd1 ent_sizes ent_ones hk1 (by omega) (by simp;omega) ?_;intro v3 w3 hown3 hg3)
     rw[List.nil_append,Nat.zero_add] at hown3;have hH3:=(hH2.step ((Below.refl w2.heap.size w2).alloc (Nat.le_refl _) (.cells #[] 126))).grown (B:=w.heap.size+3) hg3 (fun q hq=>((own_empty w2 (w.heap.size+3) 126 5 (by omega)).lt q hq).1) (by intro p hp;simp at hp;rcases hp with rfl|rfl|rfl<;>(dsimp only;omega)) (by omega);clear c2 hT2 hTk hg3 hH2 hlow hk1;have hlow:w.heap.size+1+1<w3.heap.size:=heap_lt (hH3.at 0 rfl);obtain⟨e0,e1,e2,e3,e4⟩:=ent_cells (g:=w.heap.size+1) (hH3.at 1 rfl)
     go_upto_region 9 with (at_builtin;refine wpList_append_own _ rfl (.tmp 38) (.tmp 40) 29 rfl (w.heap.size+3) 126 i0 _ 5 48 Tryz.underlying29 hi0 hz0 hz1 hz2 rfl (by decide) _ _ _ rfl (hown3.alloc _) ⟨w3.heap.size,0,none⟩ 1 1 (entA e).toList rfl rfl (row_there w3 _ _) (ent_one e) hk2 (by omega) (by simp;omega) ?_;intro v4 w4 hown4 hg4 _)
     rw[flat_ent] at hown4;have hH4:=(hH3.step ((Below.refl w3.heap.size w3).alloc (Nat.le_refl _) (.cells (entA e) 126))).grown (B:=w.heap.size+3) hg4 (fun q hq=>(hown3.lt q hq).1) (by intro p hp;simp at hp;rcases hp with rfl|rfl|rfl<;>(dsimp only;omega)) (by omega);clear e0 e1 e2 e3 e4 hown3 hg4 hH3 hlow hk2;have hlow:w.heap.size+1+1<w4.heap.size:=heap_lt (hH4.at 0 rfl);have c2:=(two_cells (g:=w.heap.size) (hH4.at 2 rfl)).2
     go_upto_region 10 with (at_builtin;refine wpList_append_tab rfl (.tmp 42) (.tmp 46) 29 rfl (w.heap.size+3) 126 i0 _ 5 48 Tryz.underlying29 hi0 hz0 hz1 hz2 rfl (by decide) _ _ _ rfl hown4 _ 0 _ w.heap.size (([]:List Ent).map entA) rfl (TabIn.nil 5 w4 w.heap.size _) (fun _=>rfl) ent_sizes ent_ones hk3 (by omega) (by omega) ?_;intro v5 w5 hown5 hg5)
     have hH5:=hH4.grown (B:=w.heap.size+3) hg5 (fun q hq=>(hown4.lt q hq).1) (by intro p hp;simp at hp;rcases hp with rfl|rfl|rfl<;>(dsimp only;omega)) (by omega);clear c2 hown4 hg5 hH4 hlow hk3;have c1:=(two_cells (g:=w.heap.size) (hH5.at 2 rfl)).1;obtain⟨m0,m1⟩:=two_cells (g:=w.heap.size+1+1) (hH5.at 0 rfl);obtain⟨f0,f1⟩:=two_free (g:=w.heap.size+1+1) (hH5.at 0 rfl);have hlist:g.E.take 0++[e]++([]:List Ent)=putIn (fun a=>aheadE a e) g.E e:=by unfold putIn;rw[<-HT.out.1,<-HT.out.2,List.append_assoc];rw[List.drop_of_length_le (by omega)];rfl
     have hlen:0+1+0=(putIn (fun a=>aheadE a e) g.E e).length:=by rw[<-hlist];simp only[List.length_append,List.length_take,List.length_cons,List.length_nil];omega
     rw[<-List.map_append,hlist,hlen] at hown5;obtain⟨B,cc,rfl,-⟩:=ents_own rfl hown5;have hown6:=own_set2 hown5 (b:=w.heap.size+1+1) (by omega) (.slice A n c) (.slice B (putIn (fun a=>aheadE a e) g.E e).length cc);obtain⟨q1,q2⟩:=ents_in hown6;have hB6:Below w.heap.size w ((w5.setCell ⟨w.heap.size+1+1,0,none⟩ (.slice A n c)).setCell ⟨w.heap.size+1+1,1,none⟩ (.slice B (putIn (fun a=>aheadE a e) g.E e).length cc)):=(hH5.below.setCell (by dsimp only;omega) _).setCell (by dsimp only;omega) _;have HF:=Lib.hid (And.intro (And.intro q1 q2) hB6);clear hown5 hown6 q1 q2 hB6 hlist hlen
     go_wp2_with fail
     exact bodyPost_ret (v:=.tuple #[.agg #[.slice A n c,.slice B (putIn (fun a=>aheadE a e) g.E e).length cc],.int .i64 0]) (by simp[results,Tryz.results140,go_sem,m0,m1]) rfl ⟨_,by rw[HR0.out],by rw[HR0.out];exact⟨A,n,c,B,_,cc,rfl,(HI.out.1.below HF.out.2).more HF.out.2.size,HI.out.2.to,HF.out.1.1,HF.out.1.2.to⟩,HF.out.2⟩
    |some ad=>
     by_cases hdk:d=k
     ·subst hdk;have hlow:w.heap.size+1+1<w2.heap.size:=heap_lt (hH2.at 0 rfl);clear c2;have c2:=(two_cells (g:=w.heap.size) ((hH2.alloc (.cells #[] 126) rfl).at 3 rfl)).2;have hT2:=(HE.out.below hH2.below).more hH2.below.size;have hk1:0+d<=maxLen:=by unfold maxLen;omega
      have hk2:d+1<=maxLen:=by unfold maxLen;omega
      have hk3:d+1+0<=maxLen:=by unfold maxLen;omega
      have hTk:=TabIn.take (hT2.below ((Below.refl w2.heap.size w2).alloc (Nat.le_refl _) (.cells #[] 126))) hk;rw[<-List.map_take] at hTk
      go_upto_region 8 with (at_builtin;refine wpList_append_tab rfl (.tmp 32) (.tmp 36) 29 rfl (w.heap.size+3) 126 i0 _ 5 48 Tryz.underlying29 hi0 hz0 hz1 hz2 rfl (by decide) _ 0 [] rfl (own_empty w2 _ _ _ (by omega)) _ d d w2.heap.size ((g.E.take d).map entA) rfl hTk hd1 ent_sizes ent_ones hk1 (by omega) (by simp;omega) ?_;intro v3 w3 hown3 hg3)
      rw[List.nil_append,Nat.zero_add] at hown3;have hH3:=(hH2.step ((Below.refl w2.heap.size w2).alloc (Nat.le_refl _) (.cells #[] 126))).grown (B:=w.heap.size+3) hg3 (fun q hq=>((own_empty w2 (w.heap.size+3) 126 5 (by omega)).lt q hq).1) (by intro p hp;simp at hp;rcases hp with rfl|rfl|rfl<;>(dsimp only;omega)) (by omega);clear c2 hT2 hTk hg3 hH2 hlow hk1;have hlow:w.heap.size+1+1<w3.heap.size:=heap_lt (hH3.at 0 rfl);obtain⟨e0,e1,e2,e3,e4⟩:=ent_cells (g:=w.heap.size+1) (hH3.at 1 rfl)
      go_upto_region 9 with (at_builtin;refine wpList_append_own _ rfl (.tmp 38) (.tmp 40) 29 rfl (w.heap.size+3) 126 i0 _ 5 48 Tryz.underlying29 hi0 hz0 hz1 hz2 rfl (by decide) _ _ _ rfl (hown3.alloc _) ⟨w3.heap.size,0,none⟩ 1 1 (entA e).toList rfl rfl (row_there w3 _ _) (ent_one e) hk2 (by omega) (by simp;omega) ?_;intro v4 w4 hown4 hg4 _)
      rw[flat_ent] at hown4;have hH4:=(hH3.step ((Below.refl w3.heap.size w3).alloc (Nat.le_refl _) (.cells (entA e) 126))).grown (B:=w.heap.size+3) hg4 (fun q hq=>(hown3.lt q hq).1) (by intro p hp;simp at hp;rcases hp with rfl|rfl|rfl<;>(dsimp only;omega)) (by omega);clear e0 e1 e2 e3 e4 hown3 hg4 hH3 hlow hk2;have hlow:w.heap.size+1+1<w4.heap.size:=heap_lt (hH4.at 0 rfl);have c2:=(two_cells (g:=w.heap.size) (hH4.at 2 rfl)).2
      go_upto_region 10 with (at_builtin;refine wpList_append_tab rfl (.tmp 42) (.tmp 46) 29 rfl (w.heap.size+3) 126 i0 _ 5 48 Tryz.underlying29 hi0 hz0 hz1 hz2 rfl (by decide) _ _ _ rfl hown4 _ 0 _ w.heap.size (([]:List Ent).map entA) rfl (TabIn.nil 5 w4 w.heap.size _) (fun h=>by cases h) ent_sizes ent_ones hk3 (by omega) (by omega) ?_;intro v5 w5 hown5 hg5)
      have hH5:=hH4.grown (B:=w.heap.size+3) hg5 (fun q hq=>(hown4.lt q hq).1) (by intro p hp;simp at hp;rcases hp with rfl|rfl|rfl<;>(dsimp only;omega)) (by omega);clear c2 hown4 hg5 hH4 hlow hk3;have c1:=(two_cells (g:=w.heap.size) (hH5.at 2 rfl)).1;obtain⟨m0,m1⟩:=two_cells (g:=w.heap.size+1+1) (hH5.at 0 rfl);obtain⟨f0,f1⟩:=two_free (g:=w.heap.size+1+1) (hH5.at 0 rfl);have hlist:g.E.take d++[e]++([]:List Ent)=putIn (fun a=>aheadE a e) g.E e:=by unfold putIn;rw[<-HT.out.1,<-HT.out.2,List.append_assoc];rw[List.drop_of_length_le (by omega)];rfl
      have hlen:d+1+0=(putIn (fun a=>aheadE a e) g.E e).length:=by rw[<-hlist];simp only[List.length_append,List.length_take,List.length_cons,List.length_nil];omega
      rw[<-List.map_append,hlist,hlen] at hown5;obtain⟨B,cc,rfl,-⟩:=ents_own rfl hown5;have hown6:=own_set2 hown5 (b:=w.heap.size+1+1) (by omega) (.slice A n c) (.slice B (putIn (fun a=>aheadE a e) g.E e).length cc);obtain⟨q1,q2⟩:=ents_in hown6;have hB6:Below w.heap.size w ((w5.setCell ⟨w.heap.size+1+1,0,none⟩ (.slice A n c)).setCell ⟨w.heap.size+1+1,1,none⟩ (.slice B (putIn (fun a=>aheadE a e) g.E e).length cc)):=(hH5.below.setCell (by dsimp only;omega) _).setCell (by dsimp only;omega) _;have HF:=Lib.hid (And.intro (And.intro q1 q2) hB6);clear hown5 hown6 q1 q2 hB6 hlist hlen
      go_wp2_with fail
      exact bodyPost_ret (v:=.tuple #[.agg #[.slice A n c,.slice B (putIn (fun a=>aheadE a e) g.E e).length cc],.int .i64 0]) (by simp[results,Tryz.results140,go_sem,m0,m1]) rfl ⟨_,by rw[HR0.out],by rw[HR0.out];exact⟨A,n,c,B,_,cc,rfl,(HI.out.1.below HF.out.2).more HF.out.2.size,HI.out.2.to,HF.out.1.1,HF.out.1.2.to⟩,HF.out.2⟩
     ·have hdk2:¬k=d:=fun q=>hdk q.symm;have hlow:w.heap.size+1+1<w2.heap.size:=heap_lt (hH2.at 0 rfl);clear c2;have c2:=(two_cells (g:=w.heap.size) ((hH2.alloc (.cells #[] 126) rfl).at 3 rfl)).2;have hT2:=(HE.out.below hH2.below).more hH2.below.size;have hk1:0+k<=maxLen:=by unfold maxLen;omega
      have hk2:k+1<=maxLen:=by unfold maxLen;omega
      have hk3:k+1+0<=maxLen:=by unfold maxLen;omega
      have hTk:=TabIn.take (hT2.below ((Below.refl w2.heap.size w2).alloc (Nat.le_refl _) (.cells #[] 126))) hk;rw[<-List.map_take] at hTk
      go_upto_region 8 with (at_builtin;refine wpList_append_tab rfl (.tmp 32) (.tmp 36) 29 rfl (w.heap.size+3) 126 i0 _ 5 48 Tryz.underlying29 hi0 hz0 hz1 hz2 rfl (by decide) _ 0 [] rfl (own_empty w2 _ _ _ (by omega)) _ k d w2.heap.size ((g.E.take k).map entA) rfl hTk hd1 ent_sizes ent_ones hk1 (by omega) (by simp;omega) ?_;intro v3 w3 hown3 hg3)
      rw[List.nil_append,Nat.zero_add] at hown3;have hH3:=(hH2.step ((Below.refl w2.heap.size w2).alloc (Nat.le_refl _) (.cells #[] 126))).grown (B:=w.heap.size+3) hg3 (fun q hq=>((own_empty w2 (w.heap.size+3) 126 5 (by omega)).lt q hq).1) (by intro p hp;simp at hp;rcases hp with rfl|rfl|rfl<;>(dsimp only;omega)) (by omega);clear c2 hT2 hTk hg3 hH2 hlow hk1;have hlow:w.heap.size+1+1<w3.heap.size:=heap_lt (hH3.at 0 rfl);obtain⟨e0,e1,e2,e3,e4⟩:=ent_cells (g:=w.heap.size+1) (hH3.at 1 rfl)
      go_upto_region 9 with (at_builtin;refine wpList_append_own _ rfl (.tmp 38) (.tmp 40) 29 rfl (w.heap.size+3) 126 i0 _ 5 48 Tryz.underlying29 hi0 hz0 hz1 hz2 rfl (by decide) _ _ _ rfl (hown3.alloc _) ⟨w3.heap.size,0,none⟩ 1 1 (entA e).toList rfl rfl (row_there w3 _ _) (ent_one e) hk2 (by omega) (by simp;omega) ?_;intro v4 w4 hown4 hg4 _)
      rw[flat_ent] at hown4;have hH4:=(hH3.step ((Below.refl w3.heap.size w3).alloc (Nat.le_refl _) (.cells (entA e) 126))).grown (B:=w.heap.size+3) hg4 (fun q hq=>(hown3.lt q hq).1) (by intro p hp;simp at hp;rcases hp with rfl|rfl|rfl<;>(dsimp only;omega)) (by omega);clear e0 e1 e2 e3 e4 hown3 hg4 hH3 hlow hk2;have hlow:w.heap.size+1+1<w4.heap.size:=heap_lt (hH4.at 0 rfl);have c2:=(two_cells (g:=w.heap.size) (hH4.at 2 rfl)).2
      go_upto_region 10 with (at_builtin;refine wpList_append_tab rfl (.tmp 42) (.tmp 46) 29 rfl (w.heap.size+3) 126 i0 _ 5 48 Tryz.underlying29 hi0 hz0 hz1 hz2 rfl (by decide) _ _ _ rfl hown4 _ 0 _ w.heap.size (([]:List Ent).map entA) rfl (TabIn.nil 5 w4 w.heap.size _) (fun h=>by cases h) ent_sizes ent_ones hk3 (by omega) (by omega) ?_;intro v5 w5 hown5 hg5)
      have hH5:=hH4.grown (B:=w.heap.size+3) hg5 (fun q hq=>(hown4.lt q hq).1) (by intro p hp;simp at hp;rcases hp with rfl|rfl|rfl<;>(dsimp only;omega)) (by omega);clear c2 hown4 hg5 hH4 hlow hk3;have c1:=(two_cells (g:=w.heap.size) (hH5.at 2 rfl)).1;obtain⟨m0,m1⟩:=two_cells (g:=w.heap.size+1+1) (hH5.at 0 rfl);obtain⟨f0,f1⟩:=two_free (g:=w.heap.size+1+1) (hH5.at 0 rfl);have hlist:g.E.take k++[e]++([]:List Ent)=putIn (fun a=>aheadE a e) g.E e:=by unfold putIn;rw[<-HT.out.1,<-HT.out.2,List.append_assoc];rw[List.drop_of_length_le (by omega)];rfl
      have hlen:k+1+0=(putIn (fun a=>aheadE a e) g.E e).length:=by rw[<-hlist];simp only[List.length_append,List.length_take,List.length_cons,List.length_nil];omega
      rw[<-List.map_append,hlist,hlen] at hown5;obtain⟨B,cc,rfl,-⟩:=ents_own rfl hown5;have hown6:=own_set2 hown5 (b:=w.heap.size+1+1) (by omega) (.slice A n c) (.slice B (putIn (fun a=>aheadE a e) g.E e).length cc);obtain⟨q1,q2⟩:=ents_in hown6;have hB6:Below w.heap.size w ((w5.setCell ⟨w.heap.size+1+1,0,none⟩ (.slice A n c)).setCell ⟨w.heap.size+1+1,1,none⟩ (.slice B (putIn (fun a=>aheadE a e) g.E e).length cc)):=(hH5.below.setCell (by dsimp only;omega) _).setCell (by dsimp only;omega) _;have HF:=Lib.hid (And.intro (And.intro q1 q2) hB6);clear hown5 hown6 q1 q2 hB6 hlist hlen
      go_wp2_with fail
      exact bodyPost_ret (v:=.tuple #[.agg #[.slice A n c,.slice B (putIn (fun a=>aheadE a e) g.E e).length cc],.int .i64 0]) (by simp[results,Tryz.results140,go_sem,m0,m1]) rfl ⟨_,by rw[HR0.out],by rw[HR0.out];exact⟨A,n,c,B,_,cc,rfl,(HI.out.1.below HF.out.2).more HF.out.2.size,HI.out.2.to,HF.out.1.1,HF.out.1.2.to⟩,HF.out.2⟩
 ·have hw1:(wv==0)=false:=beq_eq_false_iff_ne.2 hw0;have HR0:Hid (R=(g,wv)):=HR.out.trans (if_neg hw0);clear hw0 HR
  go_wp2_with fail
  exact bodyPost_ret (v:=.tuple #[.agg #[.slice A n c,.slice A' m d],.int .i64 wv]) (by simp[results,Tryz.results140,go_sem,m0,m1]) rfl ⟨_,by rw[HR0.out],by rw[HR0.out];exact HV.out.step ((hH1.below.setCell (by dsimp only;omega) _).setCell (by dsimp only;omega) _),(hH1.below.setCell (by dsimp only;omega) _).setCell (by dsimp only;omega) _⟩
theorem ino_sizes{I:List Ino}:∀r∈I.map inoA,r.size=6:=fun r hr=>by obtain⟨e,_,rfl⟩:=List.mem_map.1 hr;rfl
theorem ino_ones{I:List Ino}:∀r∈I.map inoA,∀u∈r.toList,u.oneCell'=true:=fun r hr=>by obtain⟨e,_,rfl⟩:=List.mem_map.1 hr;exact ino_one e
theorem inos_in{W:World}{base:Nat}{B:Option Addr}{n cc:Nat}{I:List Ino}(h:W.ownsRow base 102 6 (.slice B I.length cc) n (flat (I.map inoA))):
  InosIn W W.heap.size B I.length I/\Cap (fun i=>base<=i) B I.length cc:=by
 have hn:n=I.length:=by
  have:=h.1;rw[flat_len ino_sizes,List.length_map] at this;omega
 subst hn;obtain⟨B',c',he,q1,q2,q3⟩:=inos_own rfl h;simp only[Value.slice.injEq,true_and] at he;obtain⟨rfl,rfl⟩:=he;exact⟨q1,q2,q3.1,q3.2,fun _ p hp=>(h.lt p.block (by rw[hp];rfl)).1⟩
def freshIno(id:St)(kind:Int):Ino:=⟨id,kind,0,0,⟨#[]⟩⟩
set_option maxRecDepth 100000 in
set_option maxHeartbeats 3200000 in
theorem refMake(N:Nat->Prop)(v:Value)(g:Gr)(id:St)(kind:Int)(hn:g.I.length<=1000)(hm:g.E.length<=1000)(w:World)(hv:GrAt N w v g):
  Calls Tryz.prog 98 #[v,.agg (stA id),.int .i64 kind] w (GrPost N (makeG g id kind) w):=by
 obtain⟨i0,hi0,hz0,hz1,hz2⟩:=info_parts ino_infos;have HV:=Lib.hid hv;obtain⟨A,n,c,A',m,d,rfl,hI,hc1,hE,hc2⟩:=hv;have hl':=hI.len;obtain⟨x,hx⟩:∃x,x=(getG g id).getD noIno:=⟨_,rfl⟩;obtain⟨is,his⟩:∃is,is=(getG g id).isSome:=⟨_,rfl⟩;obtain⟨my,hmy⟩:∃my,my=mayB id.1 id.2:=⟨_,rfl⟩;have HG:Hid (∀W:World,Below w.heap.size w W->Calls Tryz.prog 80 #[.agg #[.slice A n c,.slice A' m d],.agg #[.int .i64 id.1,.int .i64 id.2]] W fun z w'=>z=.returned (.tuple #[.agg #[.int .i64 x.id.1,.int .i64 x.id.2,.int .i64 x.kind,.int .i64 x.links,.int .i64 x.mode,.string x.data],.bool is])/\Below W.heap.size W w'):=fun W hW=>by
  rw[hx,his];exact refGet A A' n c m d g id (by have:=hI.len;omega) (by have:=hE.len;omega) W ((hI.below hW).more hW.size) ((hE.below hW).more hW.size)
 have HM:Hid (∀W:World,Calls Tryz.prog 41 #[.agg #[.int .i64 id.1,.int .i64 id.2]] W fun e w'=>e=.returned (.bool my)/\Below W.heap.size W w'):=fun W=>by rw[hmy];exact refMay id.1 id.2 W
 obtain⟨R,hR⟩:∃R,R=makeG g id kind:=⟨_,rfl⟩;have hmake:R=if my=false\/kind<1\/3<kind then(g,1) else if is=true then(g,4) else if 40<=g.I.length then(g,13) else(⟨putIn (fun x=>lessS x.id id) g.I (freshIno id kind),g.E⟩,0):=by rw[hR,hmy,his];rfl
 rw[<-hR];have HI:Hid (InosIn w w.heap.size A n g.I):=hI;have HE:Hid (EntsIn w w.heap.size A' m g.E/\Cap N A' m d):=⟨hE,hc2⟩;have hd1:A=none->c=0:=hc1.2.2.1;have hd2:n<=c:=hc1.1;have hd3:c<=maxLen:=hc1.2.1;have HR:=Lib.hid hmake;clear hI hE hc1 hc2 hx his hmy hR hmake;have hb0:Held w [(w.heap.size+1+1,.cells #[.slice none 0 0,.slice none 0 0] 31),(w.heap.size+1,.cells (stA id) 24),(w.heap.size,.cells #[.slice A n c,.slice A' m d] 31)]
  (((w.alloc (.cells #[.slice A n c,.slice A' m d] 31)).alloc (.cells (stA id) 24)).alloc (.cells #[.slice none 0 0,.slice none 0 0] 31)):=
  (((Held.refl w).alloc (.cells #[.slice A n c,.slice A' m d] 31) rfl).alloc (.cells (stA id) 24) (by simp)).alloc (.cells #[.slice none 0 0,.slice none 0 0] 31) (by simp)
 unfold stA
 go_enter Tryz.func98,Tryz.ntmps98
 go_upto_region 1 with fail
 change Code.wp _ _ _ _ (((w.alloc (.cells #[.slice A n c,.slice A' m d] 31)).alloc (.cells (stA id) 24)).alloc (.cells #[.slice none 0 0,.slice none 0 0] 31));generalize ((w.alloc (.cells #[.slice A n c,.slice A' m d] 31)).alloc (.cells (stA id) 24)).alloc (.cells #[.slice none 0 0,.slice none 0 0] 31)=w0 at hb0 ⊢;obtain⟨e0,e1⟩:=two_cells (g:=w.heap.size+1) (hb0.at 1 rfl)
 go_wp2_with fail
 refine(HM.out _).mono ?_;rintro z w1 ⟨rfl,hb1⟩;have hH1:=hb0.step hb1;clear hb0 hb1 e0 e1;obtain⟨c1,c2⟩:=two_cells (g:=w.heap.size) (hH1.at 2 rfl);obtain⟨e0,e1⟩:=two_cells (g:=w.heap.size+1) (hH1.at 1 rfl);obtain⟨m0,m1⟩:=two_cells (g:=w.heap.size+1+1) (hH1.at 0 rfl);obtain⟨f0,f1⟩:=two_free (g:=w.heap.size+1+1) (hH1.at 0 rfl);have hcase:(my=true/\1<=kind/\kind<=3)\/(R=(g,1)/\(my=false\/(my=true/\kind<1)\/(my=true/\¬kind<1/\3<kind))):=by
  by_cases h:my=false\/kind<1\/3<kind
  ·refine Or.inr ⟨HR.out.trans (if_pos h),?_⟩
   cases my
   ·exact Or.inl rfl
   ·by_cases h1:kind<1
    ·exact Or.inr (Or.inl ⟨rfl,h1⟩)
    ·exact Or.inr (Or.inr ⟨rfl,h1,by rcases h with h|h|h;exact absurd h (by decide);exact absurd h h1;exact h⟩)
  ·cases my
   ·exact absurd (Or.inl rfl) h
   ·exact Or.inl ⟨rfl,by omega,by omega⟩
 rcases hcase with ⟨rfl,hk1,hk2⟩|⟨hR1,hcase⟩
 ·have HR0:Hid (R=if is=true then(g,4) else if 40<=g.I.length then(g,13) else(⟨putIn (fun x=>lessS x.id id) g.I (freshIno id kind),g.E⟩,0)):=HR.out.trans (if_neg (by rintro(h|h|h);cases h;omega;omega));clear HR
  go_wp2_with fail
  refine(HG.out _ hH1.below).mono ?_;rintro z w2 ⟨rfl,hb2⟩;have hH2:=hH1.step hb2;clear hb2 hH1 c1 c2 e0 e1 m0 m1 f0 f1
  go_upto_region 4 with fail
  change Code.wp _ _ _ _ (w2.alloc (.cells (inoA x) 102));have hH3:=(hH2.alloc (.cells (inoA x) 102) rfl).tail;obtain⟨ux,hux⟩:∃u,u=w2.heap.size:=⟨_,rfl⟩;rw[<-hux];generalize w2.alloc (.cells (inoA x) 102)=w3 at hH3 ⊢;clear hH2 hux;obtain⟨c1,c2⟩:=two_cells (g:=w.heap.size) (hH3.at 2 rfl);obtain⟨m0,m1⟩:=two_cells (g:=w.heap.size+1+1) (hH3.at 0 rfl);obtain⟨f0,f1⟩:=two_free (g:=w.heap.size+1+1) (hH3.at 0 rfl)
  cases is
  ·by_cases h40:40<=g.I.length
   ·have HR1:Hid (R=(g,13)):=HR0.out.trans ((if_neg (by decide)).trans (if_pos h40));have hge:¬(n:Int)<40:=by omega
    have hge2:(40:Int)<=(n:Int):=by omega
    go_wp2_with fail
    exact bodyPost_ret (v:=.tuple #[.agg #[.slice A n c,.slice A' m d],.int .i64 13]) (by simp[results,Tryz.results98,go_sem,m0,m1]) rfl ⟨_,by rw[HR1.out],by rw[HR1.out];exact HV.out.step ((hH3.below.setCell (by dsimp only;omega) _).setCell (by dsimp only;omega) _),(hH3.below.setCell (by dsimp only;omega) _).setCell (by dsimp only;omega) _⟩
   ·have HR1:Hid (R=(⟨putIn (fun x=>lessS x.id id) g.I (freshIno id kind),g.E⟩,0)):=HR0.out.trans ((if_neg (by decide)).trans (if_neg h40));have hlt40:¬(40:Int)<=(n:Int):=by omega
    clear HR0 HV
    go_wp2_with fail
    go_loopg [10] (n+1) (fun gk i wr=>∃k:Nat,i=.int .i64 (k:Int)/\gk+k=n+1/\k<=n/\Hid (∀j(h:j<g.I.length),j<k->lessS g.I[j].id id=true)/\Held w [(w.heap.size+1+1,.cells #[.slice none 0 0,.slice none 0 0] 31),(w.heap.size+1,.cells (stA id) 24),(w.heap.size,.cells #[.slice A n c,.slice A' m d] 31)] wr)
    case atStart=>exact⟨0,rfl,by omega,by omega,fun _ _ hj=>absurd hj (by omega),hH3⟩
    case round=>
     obtain⟨k,rfl,hgk,hk,hall,hH⟩:=hrel;clear hH3 c1 c2 m0 m1 f0 f1;have c1:=(two_cells (g:=w.heap.size) (hH.at 2 rfl)).1;obtain⟨e0,e1⟩:=two_cells (g:=w.heap.size+1) (hH.at 1 rfl);have qc1:=later_cell c1;have q0:=later_cell e0;have q1:=later_cell e1;clear e0 e1;by_cases hlt:k<n
     ·obtain⟨gi,o,rfl,hg,hrow⟩:=HI.out.row (by omega);have hrk:=(hrow k (by omega)).below hH.below hg;have hA:=fun W=>refLess g.I[k].id.1 g.I[k].id.2 id.1 id.2 W;obtain⟨b,hb⟩:∃b,b=lessS g.I[k].id id:=⟨_,rfl⟩;rw[show lessB g.I[k].id.1 g.I[k].id.2 id.1 id.2=b from hb.symm] at hA;obtain⟨y0,hy⟩:∃x,g.I[k]=x:=⟨_,rfl⟩;rw[hy] at hrk hA;obtain⟨r0,r1,_⟩:=hrk;have s0:=later_cell r0;have s1:=later_cell r1;clear r0 r1 hrow;have HA:Hid (∀W:World,Calls Tryz.prog 42 #[.agg #[.int .i64 y0.id.1,.int .i64 y0.id.2],.agg #[.int .i64 id.1,.int .i64 id.2]] W fun x w'=>x=.returned (.bool b)/\Below W.heap.size W w'):=hA;clear hA
      cases b
      ·have HT:Hid (g.I.take k=g.I.takeWhile (fun x=>lessS x.id id)/\g.I.drop k=g.I.dropWhile (fun x=>lessS x.id id)):=take_while_at (by omega) hall.out fun _=>hb.symm;clear hb hy hall
       go_upto_region 9 with fail
       refine wp_region_later (by kernel_rfl) (by kernel_rfl) ?_
       repeat(go_big_quiet_step (first|(with_reducible exact later_call (HA.out _))))
       refine wpQuiet_nil ?_;intro _ hw';obtain⟨y,rfl⟩:=hw';have hH2:=hH.step (later_below wr y);generalize later wr y=w2 at hH2 ⊢;clear qc1 q0 q1 s0 s1 hH HA;have hlow:w.heap.size+1+1<w2.heap.size:=heap_lt (hH2.at 0 rfl);clear c1;have c1:=(two_cells (g:=w.heap.size) ((hH2.alloc (.cells #[] 102) rfl).at 3 rfl)).1;have hT2:=(HI.out.below hH2.below).more hH2.below.size;have hk1:0+k<=maxLen:=by unfold maxLen;omega
       have hk2:k+1<=maxLen:=by unfold maxLen;omega
       have hk3:k+1+(n-k)<=maxLen:=by unfold maxLen;omega
       have hTk:=TabIn.take (hT2.below ((Below.refl w2.heap.size w2).alloc (Nat.le_refl _) (.cells #[] 102))) hk;rw[<-List.map_take] at hTk
       go_upto_region 12 with (at_builtin;refine wpList_append_tab rfl (.tmp 54) (.tmp 58) 28 rfl (w.heap.size+3) 102 i0 _ 6 56 Tryz.underlying28 hi0 hz0 hz1 hz2 rfl (by decide) _ 0 [] rfl (own_empty w2 _ _ _ (by omega)) _ k c w2.heap.size ((g.I.take k).map inoA) rfl hTk hd1 ino_sizes ino_ones hk1 (by omega) (by simp;omega) ?_;intro v3 w3 hown3 hg3)
       rw[List.nil_append,Nat.zero_add] at hown3;have hH3:=(hH2.step ((Below.refl w2.heap.size w2).alloc (Nat.le_refl _) (.cells #[] 102))).grown (B:=w.heap.size+3) hg3 (fun q hq=>((own_empty w2 (w.heap.size+3) 102 6 (by omega)).lt q hq).1) (by intro p hp;simp at hp;rcases hp with rfl|rfl|rfl<;>(dsimp only;omega)) (by omega);clear c1 hT2 hTk hg3 hH2 hlow hk1;have hlow:w.heap.size+1+1<w3.heap.size:=heap_lt (hH3.at 0 rfl);obtain⟨e0,e1⟩:=two_cells (g:=w.heap.size+1) (hH3.at 1 rfl)
       go_upto_region 13 with (at_builtin;refine wpList_append_own _ rfl (.tmp 60) (.tmp 64) 28 rfl (w.heap.size+3) 102 i0 _ 6 56 Tryz.underlying28 hi0 hz0 hz1 hz2 rfl (by decide) _ _ _ rfl (hown3.alloc _) ⟨w3.heap.size,0,none⟩ 1 1 (inoA (freshIno id kind)).toList rfl rfl (row_there w3 _ _) (ino_one _) hk2 (by omega) (by simp;omega) ?_;intro v4 w4 hown4 hg4 _)
       rw[flat_ino] at hown4;have hH4:=(hH3.step ((Below.refl w3.heap.size w3).alloc (Nat.le_refl _) (.cells (inoA (freshIno id kind)) 102))).grown (B:=w.heap.size+3) hg4 (fun q hq=>(hown3.lt q hq).1) (by intro p hp;simp at hp;rcases hp with rfl|rfl|rfl<;>(dsimp only;omega)) (by omega);clear e0 e1 hown3 hg4 hH3 hlow hk2;have hlow:w.heap.size+1+1<w4.heap.size:=heap_lt (hH4.at 0 rfl);have c1:=(two_cells (g:=w.heap.size) (hH4.at 2 rfl)).1;have hT4:=TabIn.drop (HI.out.below hH4.below) hk;rw[<-List.map_drop] at hT4
       go_upto_region 14 with (at_builtin;refine wpList_append_tab rfl (.tmp 66) (.tmp 70) 28 rfl (w.heap.size+3) 102 i0 _ 6 56 Tryz.underlying28 hi0 hz0 hz1 hz2 rfl (by decide) _ _ _ rfl hown4 _ (n-k) _ w.heap.size ((g.I.drop k).map inoA) rfl hT4 (fun h=>by cases h) ino_sizes ino_ones hk3 (by omega) (by omega) ?_;intro v5 w5 hown5 hg5)
       have hH5:=hH4.grown (B:=w.heap.size+3) hg5 (fun q hq=>(hown4.lt q hq).1) (by intro p hp;simp at hp;rcases hp with rfl|rfl|rfl<;>(dsimp only;omega)) (by omega);clear c1 hown4 hg5 hH4 hlow hk3;have c2:=(two_cells (g:=w.heap.size) (hH5.at 2 rfl)).2;obtain⟨m0,m1⟩:=two_cells (g:=w.heap.size+1+1) (hH5.at 0 rfl);obtain⟨f0,f1⟩:=two_free (g:=w.heap.size+1+1) (hH5.at 0 rfl);have hlist:g.I.take k++[freshIno id kind]++(g.I.drop k)=putIn (fun x=>lessS x.id id) g.I (freshIno id kind):=by unfold putIn;rw[<-HT.out.1,<-HT.out.2,List.append_assoc];rfl
       have hlen:k+1+(n-k)=(putIn (fun x=>lessS x.id id) g.I (freshIno id kind)).length:=by rw[<-hlist];simp only[List.length_append,List.length_take,List.length_drop,List.length_cons,List.length_nil];omega
       rw[<-List.map_append,hlist,hlen] at hown5;obtain⟨L,hL⟩:∃L,L=putIn (fun x=>lessS x.id id) g.I (freshIno id kind):=⟨_,rfl⟩;rw[<-hL] at hown5 HR1;obtain⟨B,cc,rfl,-⟩:=inos_own rfl hown5;have hown6:=own_set2 hown5 (b:=w.heap.size+1+1) (by omega) (.slice B L.length cc) (.slice A' m d);obtain⟨p1,p2⟩:=inos_in hown6;have hB6:Below w.heap.size w ((w5.setCell ⟨w.heap.size+1+1,0,none⟩ (.slice B L.length cc)).setCell ⟨w.heap.size+1+1,1,none⟩ (.slice A' m d)):=(hH5.below.setCell (by dsimp only;omega) _).setCell (by dsimp only;omega) _;have HF:=Lib.hid (And.intro (And.intro p1 p2) hB6);clear hown5 hown6 p1 p2 hB6 hlist hlen hL
       go_wp2_with fail
       exact bodyPost_ret (v:=.tuple #[.agg #[.slice B L.length cc,.slice A' m d],.int .i64 0]) (by simp[results,Tryz.results98,go_sem,m0,m1]) rfl ⟨_,by rw[HR1.out],by rw[HR1.out];exact⟨B,_,cc,A',m,d,rfl,HF.out.1.1,HF.out.1.2.to,(HE.out.1.below HF.out.2).more HF.out.2.size,HE.out.2.to⟩,HF.out.2⟩
      ·have HN:Hid (∀j(h:j<g.I.length),j<k+1->lessS g.I[j].id id=true):=fun j h hj=>by
        by_cases hjk:j=k
        ·subst hjk;exact hb.symm
        ·exact hall.out j h (by omega)
       clear hb hy hall
       go_upto_region 9 with fail
       refine wp_region_later (by kernel_rfl) (by kernel_rfl) ?_
       repeat(go_big_quiet_step (first|(with_reducible exact later_call (HA.out _))))
       refine wpQuiet_nil ?_;intro _ hw';obtain⟨y,rfl⟩:=hw';have hH2:=hH.step (later_below wr y)
       go_wp2_with fail
       go_roundg (gk-1)
       case measure=>omega
       case rel=>exact⟨k+1,by go_num,by omega,by omega,HN.out,hH2⟩
     ·have HT:Hid (g.I.take k=g.I.takeWhile (fun x=>lessS x.id id)/\g.I.drop k=g.I.dropWhile (fun x=>lessS x.id id)):=take_while_at (by omega) hall.out fun h=>absurd h (by omega);clear hall
      go_upto_region 9 with fail
      refine wp_region_later (by kernel_rfl) (by kernel_rfl) ?_
      repeat(go_big_quiet_step (fail))
      refine wpQuiet_nil ?_;intro _ hw';obtain⟨y,rfl⟩:=hw';have hH2:=hH.step (later_below wr y);generalize later wr y=w2 at hH2 ⊢;clear qc1 q0 q1 hH;have hkm:k=n:=by omega
      subst hkm
      cases A with
      |none=>
       obtain rfl:c=0:=hd1 rfl;obtain rfl:k=0:=by omega
       have hlow:w.heap.size+1+1<w2.heap.size:=heap_lt (hH2.at 0 rfl);clear c1;have c1:=(two_cells (g:=w.heap.size) ((hH2.alloc (.cells #[] 102) rfl).at 3 rfl)).1;have hT2:=(HI.out.below hH2.below).more hH2.below.size;have hk1:0+0<=maxLen:=by unfold maxLen;omega
       have hk2:0+1<=maxLen:=by unfold maxLen;omega
       have hk3:0+1+0<=maxLen:=by unfold maxLen;omega
       have hTk:=TabIn.take (hT2.below ((Below.refl w2.heap.size w2).alloc (Nat.le_refl _) (.cells #[] 102))) hk;rw[<-List.map_take] at hTk
       go_upto_region 12 with (at_builtin;refine wpList_append_tab rfl (.tmp 54) (.tmp 58) 28 rfl (w.heap.size+3) 102 i0 _ 6 56 Tryz.underlying28 hi0 hz0 hz1 hz2 rfl (by decide) _ 0 [] rfl (own_empty w2 _ _ _ (by omega)) _ 0 0 w2.heap.size ((g.I.take 0).map inoA) rfl hTk hd1 ino_sizes ino_ones hk1 (by omega) (by simp;omega) ?_;intro v3 w3 hown3 hg3)
       rw[List.nil_append,Nat.zero_add] at hown3;have hH3:=(hH2.step ((Below.refl w2.heap.size w2).alloc (Nat.le_refl _) (.cells #[] 102))).grown (B:=w.heap.size+3) hg3 (fun q hq=>((own_empty w2 (w.heap.size+3) 102 6 (by omega)).lt q hq).1) (by intro p hp;simp at hp;rcases hp with rfl|rfl|rfl<;>(dsimp only;omega)) (by omega);clear c1 hT2 hTk hg3 hH2 hlow hk1;have hlow:w.heap.size+1+1<w3.heap.size:=heap_lt (hH3.at 0 rfl);obtain⟨e0,e1⟩:=two_cells (g:=w.heap.size+1) (hH3.at 1 rfl)
       go_upto_region 13 with (at_builtin;refine wpList_append_own _ rfl (.tmp 60) (.tmp 64) 28 rfl (w.heap.size+3) 102 i0 _ 6 56 Tryz.underlying28 hi0 hz0 hz1 hz2 rfl (by decide) _ _ _ rfl (hown3.alloc _) ⟨w3.heap.size,0,none⟩ 1 1 (inoA (freshIno id kind)).toList rfl rfl (row_there w3 _ _) (ino_one _) hk2 (by omega) (by simp;omega) ?_;intro v4 w4 hown4 hg4 _)
       rw[flat_ino] at hown4;have hH4:=(hH3.step ((Below.refl w3.heap.size w3).alloc (Nat.le_refl _) (.cells (inoA (freshIno id kind)) 102))).grown (B:=w.heap.size+3) hg4 (fun q hq=>(hown3.lt q hq).1) (by intro p hp;simp at hp;rcases hp with rfl|rfl|rfl<;>(dsimp only;omega)) (by omega);clear e0 e1 hown3 hg4 hH3 hlow hk2;have hlow:w.heap.size+1+1<w4.heap.size:=heap_lt (hH4.at 0 rfl);have c1:=(two_cells (g:=w.heap.size) (hH4.at 2 rfl)).1
       go_upto_region 14 with (at_builtin;refine wpList_append_tab rfl (.tmp 66) (.tmp 70) 28 rfl (w.heap.size+3) 102 i0 _ 6 56 Tryz.underlying28 hi0 hz0 hz1 hz2 rfl (by decide) _ _ _ rfl hown4 _ 0 _ w.heap.size (([]:List Ino).map inoA) rfl (TabIn.nil 6 w4 w.heap.size _) (fun _=>rfl) ino_sizes ino_ones hk3 (by omega) (by omega) ?_;intro v5 w5 hown5 hg5)
       have hH5:=hH4.grown (B:=w.heap.size+3) hg5 (fun q hq=>(hown4.lt q hq).1) (by intro p hp;simp at hp;rcases hp with rfl|rfl|rfl<;>(dsimp only;omega)) (by omega);clear c1 hown4 hg5 hH4 hlow hk3;have c2:=(two_cells (g:=w.heap.size) (hH5.at 2 rfl)).2;obtain⟨m0,m1⟩:=two_cells (g:=w.heap.size+1+1) (hH5.at 0 rfl);obtain⟨f0,f1⟩:=two_free (g:=w.heap.size+1+1) (hH5.at 0 rfl);have hlist:g.I.take 0++[freshIno id kind]++([]:List Ino)=putIn (fun x=>lessS x.id id) g.I (freshIno id kind):=by unfold putIn;rw[<-HT.out.1,<-HT.out.2,List.append_assoc];rw[List.drop_of_length_le (by omega)];rfl
       have hlen:0+1+0=(putIn (fun x=>lessS x.id id) g.I (freshIno id kind)).length:=by rw[<-hlist];simp only[List.length_append,List.length_take,List.length_cons,List.length_nil];omega
       rw[<-List.map_append,hlist,hlen] at hown5;obtain⟨L,hL⟩:∃L,L=putIn (fun x=>lessS x.id id) g.I (freshIno id kind):=⟨_,rfl⟩;rw[<-hL] at hown5 HR1;obtain⟨B,cc,rfl,-⟩:=inos_own rfl hown5;have hown6:=own_set2 hown5 (b:=w.heap.size+1+1) (by omega) (.slice B L.length cc) (.slice A' m d);obtain⟨p1,p2⟩:=inos_in hown6;have hB6:Below w.heap.size w ((w5.setCell ⟨w.heap.size+1+1,0,none⟩ (.slice B L.length cc)).setCell ⟨w.heap.size+1+1,1,none⟩ (.slice A' m d)):=(hH5.below.setCell (by dsimp only;omega) _).setCell (by dsimp only;omega) _;have HF:=Lib.hid (And.intro (And.intro p1 p2) hB6);clear hown5 hown6 p1 p2 hB6 hlist hlen hL
       go_wp2_with fail
       exact bodyPost_ret (v:=.tuple #[.agg #[.slice B L.length cc,.slice A' m d],.int .i64 0]) (by simp[results,Tryz.results98,go_sem,m0,m1]) rfl ⟨_,by rw[HR1.out],by rw[HR1.out];exact⟨B,_,cc,A',m,d,rfl,HF.out.1.1,HF.out.1.2.to,(HE.out.1.below HF.out.2).more HF.out.2.size,HE.out.2.to⟩,HF.out.2⟩
      |some ad=>
       by_cases hdk:c=k
       ·subst hdk;have hlow:w.heap.size+1+1<w2.heap.size:=heap_lt (hH2.at 0 rfl);clear c1;have c1:=(two_cells (g:=w.heap.size) ((hH2.alloc (.cells #[] 102) rfl).at 3 rfl)).1;have hT2:=(HI.out.below hH2.below).more hH2.below.size;have hk1:0+c<=maxLen:=by unfold maxLen;omega
        have hk2:c+1<=maxLen:=by unfold maxLen;omega
        have hk3:c+1+0<=maxLen:=by unfold maxLen;omega
        have hTk:=TabIn.take (hT2.below ((Below.refl w2.heap.size w2).alloc (Nat.le_refl _) (.cells #[] 102))) hk;rw[<-List.map_take] at hTk
        go_upto_region 12 with (at_builtin;refine wpList_append_tab rfl (.tmp 54) (.tmp 58) 28 rfl (w.heap.size+3) 102 i0 _ 6 56 Tryz.underlying28 hi0 hz0 hz1 hz2 rfl (by decide) _ 0 [] rfl (own_empty w2 _ _ _ (by omega)) _ c c w2.heap.size ((g.I.take c).map inoA) rfl hTk hd1 ino_sizes ino_ones hk1 (by omega) (by simp;omega) ?_;intro v3 w3 hown3 hg3)
        rw[List.nil_append,Nat.zero_add] at hown3;have hH3:=(hH2.step ((Below.refl w2.heap.size w2).alloc (Nat.le_refl _) (.cells #[] 102))).grown (B:=w.heap.size+3) hg3 (fun q hq=>((own_empty w2 (w.heap.size+3) 102 6 (by omega)).lt q hq).1) (by intro p hp;simp at hp;rcases hp with rfl|rfl|rfl<;>(dsimp only;omega)) (by omega);clear c1 hT2 hTk hg3 hH2 hlow hk1;have hlow:w.heap.size+1+1<w3.heap.size:=heap_lt (hH3.at 0 rfl);obtain⟨e0,e1⟩:=two_cells (g:=w.heap.size+1) (hH3.at 1 rfl)
        go_upto_region 13 with (at_builtin;refine wpList_append_own _ rfl (.tmp 60) (.tmp 64) 28 rfl (w.heap.size+3) 102 i0 _ 6 56 Tryz.underlying28 hi0 hz0 hz1 hz2 rfl (by decide) _ _ _ rfl (hown3.alloc _) ⟨w3.heap.size,0,none⟩ 1 1 (inoA (freshIno id kind)).toList rfl rfl (row_there w3 _ _) (ino_one _) hk2 (by omega) (by simp;omega) ?_;intro v4 w4 hown4 hg4 _)
        rw[flat_ino] at hown4;have hH4:=(hH3.step ((Below.refl w3.heap.size w3).alloc (Nat.le_refl _) (.cells (inoA (freshIno id kind)) 102))).grown (B:=w.heap.size+3) hg4 (fun q hq=>(hown3.lt q hq).1) (by intro p hp;simp at hp;rcases hp with rfl|rfl|rfl<;>(dsimp only;omega)) (by omega);clear e0 e1 hown3 hg4 hH3 hlow hk2;have hlow:w.heap.size+1+1<w4.heap.size:=heap_lt (hH4.at 0 rfl);have c1:=(two_cells (g:=w.heap.size) (hH4.at 2 rfl)).1
        go_upto_region 14 with (at_builtin;refine wpList_append_tab rfl (.tmp 66) (.tmp 70) 28 rfl (w.heap.size+3) 102 i0 _ 6 56 Tryz.underlying28 hi0 hz0 hz1 hz2 rfl (by decide) _ _ _ rfl hown4 _ 0 _ w.heap.size (([]:List Ino).map inoA) rfl (TabIn.nil 6 w4 w.heap.size _) (fun h=>by cases h) ino_sizes ino_ones hk3 (by omega) (by omega) ?_;intro v5 w5 hown5 hg5)
        have hH5:=hH4.grown (B:=w.heap.size+3) hg5 (fun q hq=>(hown4.lt q hq).1) (by intro p hp;simp at hp;rcases hp with rfl|rfl|rfl<;>(dsimp only;omega)) (by omega);clear c1 hown4 hg5 hH4 hlow hk3;have c2:=(two_cells (g:=w.heap.size) (hH5.at 2 rfl)).2;obtain⟨m0,m1⟩:=two_cells (g:=w.heap.size+1+1) (hH5.at 0 rfl);obtain⟨f0,f1⟩:=two_free (g:=w.heap.size+1+1) (hH5.at 0 rfl);have hlist:g.I.take c++[freshIno id kind]++([]:List Ino)=putIn (fun x=>lessS x.id id) g.I (freshIno id kind):=by unfold putIn;rw[<-HT.out.1,<-HT.out.2,List.append_assoc];rw[List.drop_of_length_le (by omega)];rfl
        have hlen:c+1+0=(putIn (fun x=>lessS x.id id) g.I (freshIno id kind)).length:=by rw[<-hlist];simp only[List.length_append,List.length_take,List.length_cons,List.length_nil];omega
        rw[<-List.map_append,hlist,hlen] at hown5;obtain⟨L,hL⟩:∃L,L=putIn (fun x=>lessS x.id id) g.I (freshIno id kind):=⟨_,rfl⟩;rw[<-hL] at hown5 HR1;obtain⟨B,cc,rfl,-⟩:=inos_own rfl hown5;have hown6:=own_set2 hown5 (b:=w.heap.size+1+1) (by omega) (.slice B L.length cc) (.slice A' m d);obtain⟨p1,p2⟩:=inos_in hown6;have hB6:Below w.heap.size w ((w5.setCell ⟨w.heap.size+1+1,0,none⟩ (.slice B L.length cc)).setCell ⟨w.heap.size+1+1,1,none⟩ (.slice A' m d)):=(hH5.below.setCell (by dsimp only;omega) _).setCell (by dsimp only;omega) _;have HF:=Lib.hid (And.intro (And.intro p1 p2) hB6);clear hown5 hown6 p1 p2 hB6 hlist hlen hL
        go_wp2_with fail
        exact bodyPost_ret (v:=.tuple #[.agg #[.slice B L.length cc,.slice A' m d],.int .i64 0]) (by simp[results,Tryz.results98,go_sem,m0,m1]) rfl ⟨_,by rw[HR1.out],by rw[HR1.out];exact⟨B,_,cc,A',m,d,rfl,HF.out.1.1,HF.out.1.2.to,(HE.out.1.below HF.out.2).more HF.out.2.size,HE.out.2.to⟩,HF.out.2⟩
       ·have hdk2:¬k=c:=fun q=>hdk q.symm;have hlow:w.heap.size+1+1<w2.heap.size:=heap_lt (hH2.at 0 rfl);clear c1;have c1:=(two_cells (g:=w.heap.size) ((hH2.alloc (.cells #[] 102) rfl).at 3 rfl)).1;have hT2:=(HI.out.below hH2.below).more hH2.below.size;have hk1:0+k<=maxLen:=by unfold maxLen;omega
        have hk2:k+1<=maxLen:=by unfold maxLen;omega
        have hk3:k+1+0<=maxLen:=by unfold maxLen;omega
        have hTk:=TabIn.take (hT2.below ((Below.refl w2.heap.size w2).alloc (Nat.le_refl _) (.cells #[] 102))) hk;rw[<-List.map_take] at hTk
        go_upto_region 12 with (at_builtin;refine wpList_append_tab rfl (.tmp 54) (.tmp 58) 28 rfl (w.heap.size+3) 102 i0 _ 6 56 Tryz.underlying28 hi0 hz0 hz1 hz2 rfl (by decide) _ 0 [] rfl (own_empty w2 _ _ _ (by omega)) _ k c w2.heap.size ((g.I.take k).map inoA) rfl hTk hd1 ino_sizes ino_ones hk1 (by omega) (by simp;omega) ?_;intro v3 w3 hown3 hg3)
        rw[List.nil_append,Nat.zero_add] at hown3;have hH3:=(hH2.step ((Below.refl w2.heap.size w2).alloc (Nat.le_refl _) (.cells #[] 102))).grown (B:=w.heap.size+3) hg3 (fun q hq=>((own_empty w2 (w.heap.size+3) 102 6 (by omega)).lt q hq).1) (by intro p hp;simp at hp;rcases hp with rfl|rfl|rfl<;>(dsimp only;omega)) (by omega);clear c1 hT2 hTk hg3 hH2 hlow hk1;have hlow:w.heap.size+1+1<w3.heap.size:=heap_lt (hH3.at 0 rfl);obtain⟨e0,e1⟩:=two_cells (g:=w.heap.size+1) (hH3.at 1 rfl)
        go_upto_region 13 with (at_builtin;refine wpList_append_own _ rfl (.tmp 60) (.tmp 64) 28 rfl (w.heap.size+3) 102 i0 _ 6 56 Tryz.underlying28 hi0 hz0 hz1 hz2 rfl (by decide) _ _ _ rfl (hown3.alloc _) ⟨w3.heap.size,0,none⟩ 1 1 (inoA (freshIno id kind)).toList rfl rfl (row_there w3 _ _) (ino_one _) hk2 (by omega) (by simp;omega) ?_;intro v4 w4 hown4 hg4 _)
        rw[flat_ino] at hown4;have hH4:=(hH3.step ((Below.refl w3.heap.size w3).alloc (Nat.le_refl _) (.cells (inoA (freshIno id kind)) 102))).grown (B:=w.heap.size+3) hg4 (fun q hq=>(hown3.lt q hq).1) (by intro p hp;simp at hp;rcases hp with rfl|rfl|rfl<;>(dsimp only;omega)) (by omega);clear e0 e1 hown3 hg4 hH3 hlow hk2;have hlow:w.heap.size+1+1<w4.heap.size:=heap_lt (hH4.at 0 rfl);have c1:=(two_cells (g:=w.heap.size) (hH4.at 2 rfl)).1
        go_upto_region 14 with (at_builtin;refine wpList_append_tab rfl (.tmp 66) (.tmp 70) 28 rfl (w.heap.size+3) 102 i0 _ 6 56 Tryz.underlying28 hi0 hz0 hz1 hz2 rfl (by decide) _ _ _ rfl hown4 _ 0 _ w.heap.size (([]:List Ino).map inoA) rfl (TabIn.nil 6 w4 w.heap.size _) (fun h=>by cases h) ino_sizes ino_ones hk3 (by omega) (by omega) ?_;intro v5 w5 hown5 hg5)
        have hH5:=hH4.grown (B:=w.heap.size+3) hg5 (fun q hq=>(hown4.lt q hq).1) (by intro p hp;simp at hp;rcases hp with rfl|rfl|rfl<;>(dsimp only;omega)) (by omega);clear c1 hown4 hg5 hH4 hlow hk3;have c2:=(two_cells (g:=w.heap.size) (hH5.at 2 rfl)).2;obtain⟨m0,m1⟩:=two_cells (g:=w.heap.size+1+1) (hH5.at 0 rfl);obtain⟨f0,f1⟩:=two_free (g:=w.heap.size+1+1) (hH5.at 0 rfl);have hlist:g.I.take k++[freshIno id kind]++([]:List Ino)=putIn (fun x=>lessS x.id id) g.I (freshIno id kind):=by unfold putIn;rw[<-HT.out.1,<-HT.out.2,List.append_assoc];rw[List.drop_of_length_le (by omega)];rfl
        have hlen:k+1+0=(putIn (fun x=>lessS x.id id) g.I (freshIno id kind)).length:=by rw[<-hlist];simp only[List.length_append,List.length_take,List.length_cons,List.length_nil];omega
        rw[<-List.map_append,hlist,hlen] at hown5;obtain⟨L,hL⟩:∃L,L=putIn (fun x=>lessS x.id id) g.I (freshIno id kind):=⟨_,rfl⟩;rw[<-hL] at hown5 HR1;obtain⟨B,cc,rfl,-⟩:=inos_own rfl hown5;have hown6:=own_set2 hown5 (b:=w.heap.size+1+1) (by omega) (.slice B L.length cc) (.slice A' m d);obtain⟨p1,p2⟩:=inos_in hown6;have hB6:Below w.heap.size w ((w5.setCell ⟨w.heap.size+1+1,0,none⟩ (.slice B L.length cc)).setCell ⟨w.heap.size+1+1,1,none⟩ (.slice A' m d)):=(hH5.below.setCell (by dsimp only;omega) _).setCell (by dsimp only;omega) _;have HF:=Lib.hid (And.intro (And.intro p1 p2) hB6);clear hown5 hown6 p1 p2 hB6 hlist hlen hL
        go_wp2_with fail
        exact bodyPost_ret (v:=.tuple #[.agg #[.slice B L.length cc,.slice A' m d],.int .i64 0]) (by simp[results,Tryz.results98,go_sem,m0,m1]) rfl ⟨_,by rw[HR1.out],by rw[HR1.out];exact⟨B,_,cc,A',m,d,rfl,HF.out.1.1,HF.out.1.2.to,(HE.out.1.below HF.out.2).more HF.out.2.size,HE.out.2.to⟩,HF.out.2⟩
  ·have HR1:Hid (R=(g,4)):=HR0.out.trans (if_pos rfl)
   go_wp2_with fail
   exact bodyPost_ret (v:=.tuple #[.agg #[.slice A n c,.slice A' m d],.int .i64 4]) (by simp[results,Tryz.results98,go_sem,m0,m1]) rfl ⟨_,by rw[HR1.out],by rw[HR1.out];exact HV.out.step ((hH3.below.setCell (by dsimp only;omega) _).setCell (by dsimp only;omega) _),(hH3.below.setCell (by dsimp only;omega) _).setCell (by dsimp only;omega) _⟩
 ·have HR1:=Lib.hid hR1;clear hR1 HR;rcases hcase with rfl|⟨rfl,h1⟩|⟨rfl,h1,h2⟩
  all_goals
   go_wp2_with fail
   exact bodyPost_ret (v:=.tuple #[.agg #[.slice A n c,.slice A' m d],.int .i64 1]) (by simp[results,Tryz.results98,go_sem,m0,m1]) rfl ⟨_,by rw[HR1.out],by rw[HR1.out];exact HV.out.step ((hH1.below.setCell (by dsimp only;omega) _).setCell (by dsimp only;omega) _),(hH1.below.setCell (by dsimp only;omega) _).setCell (by dsimp only;omega) _⟩
end Go.Proofs.YtnnnkaobhkeocaaGreatDoor
