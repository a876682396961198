/-
 The walk of the document's own Make (graphs).
-/
import Derived.Test.YtdobeghbkonimaaGreatDoorZX02
import Derived.Deep.RegionLaw
import Derived.Deep.AppendLies
namespace Go.Proofs.YtdobeghbkonimaaGreatDoor
open Go.RowKit StampMath GraphMath OpMath

theorem ino_sizes {I : List Ino} : ∀ r∈I.map inoA,r.size = 6:=fun r hr=>by obtain ⟨e,_,rfl⟩:=List.mem_map.1 hr; rfl
theorem ino_ones {I : List Ino} : ∀ r∈I.map inoA,∀ u∈r.toList,u.oneCell' = true:=fun r hr=>by obtain ⟨e,_,rfl⟩:=List.mem_map.1 hr; exact ino_one e

theorem inos_in {W : World} {base : Nat} {B : Option Addr} {n cc : Nat} {I : List Ino} (h : W.ownsRow base 59 6 (.slice B I.length cc) n (flat (I.map inoA))) :
  InosIn W W.heap.size B I.length I∧Cap (fun i=>base≤i) B I.length cc:=by
 have hn : n = I.length:=by
  have:=h.1
  rw [flat_len ino_sizes,List.length_map] at this
  omega
 subst hn
 obtain ⟨B',c',he,q1,q2,q3⟩:=inos_own rfl h
 simp only [Value.slice.injEq,true_and] at he
 obtain ⟨rfl,rfl⟩:=he
 exact ⟨q1,q2,q3.1,q3.2,fun _ p hp=>(h.lt p.block (by rw [hp]; rfl)).1⟩

def freshIno (id : St) (kind : Int) : Ino:=⟨id,kind,0,0,⟨#[]⟩⟩

set_option maxRecDepth 100000 in
set_option maxHeartbeats 3200000 in
theorem refMake (N : Nat→Prop) (v : Value) (g : Gr) (id : St) (kind : Int) (hn : g.I.length≤1000) (hm : g.E.length≤1000) (w : World) (hv : GrAt N w v g) :
  Calls Tryz.prog 77 #[v,.agg (stA id),.int .i64 kind] w (GrPost N (makeG g id kind) w):=by
 obtain ⟨i0,hi0,hz0,hz1,hz2⟩:=info_parts ino_infos
 have HV:=Lib.hid hv
 obtain ⟨A,n,c,A',m,d,rfl,hI,hc1,hE,hc2⟩:=hv
 have hl':=hI.len
 obtain ⟨x,hx⟩ : ∃ x,x = (getG g id).getD noIno:=⟨_,rfl⟩
 obtain ⟨is,his⟩ : ∃ is,is = (getG g id).isSome:=⟨_,rfl⟩
 obtain ⟨my,hmy⟩ : ∃ my,my = mayB id.1 id.2:=⟨_,rfl⟩
 have HG : Hid (∀ W : World,Below w.heap.size w W→Calls Tryz.prog 54 #[.agg #[.slice A n c,.slice A' m d],.agg #[.int .i64 id.1,.int .i64 id.2]] W fun z w'=>z = .returned (.tuple #[.agg #[.int .i64 x.id.1,.int .i64 x.id.2,.int .i64 x.kind,.int .i64 x.links,.int .i64 x.mode,.string x.data],.bool is])∧Below W.heap.size W w'):=fun W hW=>by
  rw [hx,his]; exact refGet A A' n c m d g id (by have:=hI.len; omega) (by have:=hE.len; omega) W ((hI.below hW).more hW.size) ((hE.below hW).more hW.size)
 have HM : Hid (∀ W : World,Calls Tryz.prog 73 #[.agg #[.int .i64 id.1,.int .i64 id.2]] W fun e w'=>e = .returned (.bool my)∧Below W.heap.size W w'):=fun W=>by rw [hmy]; exact refMay id.1 id.2 W
 obtain ⟨R,hR⟩ : ∃ R,R = makeG g id kind:=⟨_,rfl⟩
 have hmake : R = if my = false∨kind < 1∨3 < kind then (g,1) else if is = true then (g,4) else if 40≤g.I.length then (g,13) else (⟨putIn (fun x=>lessS x.id id) g.I (freshIno id kind),g.E⟩,0):=by rw [hR,hmy,his]; rfl
 rw [← hR]
 have HI : Hid (InosIn w w.heap.size A n g.I):=hI
 have HE : Hid (EntsIn w w.heap.size A' m g.E∧Cap N A' m d):=⟨hE,hc2⟩
 have hd1 : A = none→c = 0:=hc1.2.2.1
 have hd2 : n≤c:=hc1.1
 have hd3 : c≤maxLen:=hc1.2.1
 have HR:=Lib.hid hmake
 clear hI hE hc1 hc2 hx his hmy hR hmake
 have hb0 : Held w [(w.heap.size + 1 + 1,.cells #[.slice none 0 0,.slice none 0 0] 37),(w.heap.size + 1,.cells (stA id) 24),(w.heap.size,.cells #[.slice A n c,.slice A' m d] 37)]
  (((w.alloc (.cells #[.slice A n c,.slice A' m d] 37)).alloc (.cells (stA id) 24)).alloc (.cells #[.slice none 0 0,.slice none 0 0] 37)) :=
  (((Held.refl w).alloc (.cells #[.slice A n c,.slice A' m d] 37) rfl).alloc (.cells (stA id) 24) (by simp)).alloc (.cells #[.slice none 0 0,.slice none 0 0] 37) (by simp)
 unfold stA
 go_enter Tryz.func77,Tryz.ntmps77
 go_upto_region 1 with fail
 change Code.wp _ _ _ _ (((w.alloc (.cells #[.slice A n c,.slice A' m d] 37)).alloc (.cells (stA id) 24)).alloc (.cells #[.slice none 0 0,.slice none 0 0] 37))
 generalize ((w.alloc (.cells #[.slice A n c,.slice A' m d] 37)).alloc (.cells (stA id) 24)).alloc (.cells #[.slice none 0 0,.slice none 0 0] 37) = w0 at hb0 ⊢
 obtain ⟨e0,e1⟩:=two_cells (g:=w.heap.size + 1) (hb0.at 1 rfl)
 go_wp2_with fail
 refine (HM.out _).mono ?_
 rintro z w1 ⟨rfl,hb1⟩
 have hH1:=hb0.step hb1
 clear hb0 hb1 e0 e1
 obtain ⟨c1,c2⟩:=two_cells (g:=w.heap.size) (hH1.at 2 rfl)
 obtain ⟨e0,e1⟩:=two_cells (g:=w.heap.size + 1) (hH1.at 1 rfl)
 obtain ⟨m0,m1⟩:=two_cells (g:=w.heap.size + 1 + 1) (hH1.at 0 rfl)
 obtain ⟨f0,f1⟩:=two_free (g:=w.heap.size + 1 + 1) (hH1.at 0 rfl)
 have hcase : (my = true∧1≤kind∧kind≤3)∨(R = (g,1)∧(my = false∨(my = true∧kind < 1)∨(my = true∧¬ kind < 1∧3 < kind))):=by
  by_cases h : my = false∨kind < 1∨3 < kind
  ·refine Or.inr ⟨HR.out.trans (if_pos h),?_⟩
   cases my
   ·exact Or.inl rfl
   ·by_cases h1 : kind < 1
    ·exact Or.inr (Or.inl ⟨rfl,h1⟩)
    ·exact Or.inr (Or.inr ⟨rfl,h1,by rcases h with h | h | h; exact absurd h (by decide); exact absurd h h1; exact h⟩)
  ·cases my
   ·exact absurd (Or.inl rfl) h
   ·exact Or.inl ⟨rfl,by omega,by omega⟩
 rcases hcase with ⟨rfl,hk1,hk2⟩ | ⟨hR1,hcase⟩
 ·have HR0 : Hid (R = if is = true then (g,4) else if 40≤g.I.length then (g,13) else (⟨putIn (fun x=>lessS x.id id) g.I (freshIno id kind),g.E⟩,0)):=HR.out.trans (if_neg (by rintro (h | h | h); cases h; omega; omega))
  clear HR
  go_wp2_with fail
  refine (HG.out _ hH1.below).mono ?_
  rintro z w2 ⟨rfl,hb2⟩
  have hH2:=hH1.step hb2
  clear hb2 hH1 c1 c2 e0 e1 m0 m1 f0 f1
  go_upto_region 4 with fail
  change Code.wp _ _ _ _ (w2.alloc (.cells (inoA x) 59))
  have hH3:=(hH2.alloc (.cells (inoA x) 59) rfl).tail
  obtain ⟨ux,hux⟩ : ∃ u,u = w2.heap.size:=⟨_,rfl⟩
  rw [← hux]
  generalize w2.alloc (.cells (inoA x) 59) = w3 at hH3 ⊢
  clear hH2 hux
  obtain ⟨c1,c2⟩:=two_cells (g:=w.heap.size) (hH3.at 2 rfl)
  obtain ⟨m0,m1⟩:=two_cells (g:=w.heap.size + 1 + 1) (hH3.at 0 rfl)
  obtain ⟨f0,f1⟩:=two_free (g:=w.heap.size + 1 + 1) (hH3.at 0 rfl)
  cases is
  ·by_cases h40 : 40≤g.I.length
   ·have HR1 : Hid (R = (g,13)):=HR0.out.trans ((if_neg (by decide)).trans (if_pos h40))
    have hge : ¬ (n : Int) < 40:=by omega
    have hge2 : (40 : Int)≤(n : Int):=by omega
    go_wp2_with fail
    exact bodyPost_ret (v:=.tuple #[.agg #[.slice A n c,.slice A' m d],.int .i64 13]) (by simp [results,Tryz.results77,go_sem,m0,m1]) rfl ⟨_,by rw [HR1.out],by rw [HR1.out]; exact HV.out.step ((hH3.below.setCell (by dsimp only; omega) _).setCell (by dsimp only; omega) _),(hH3.below.setCell (by dsimp only; omega) _).setCell (by dsimp only; omega) _⟩
   ·have HR1 : Hid (R = (⟨putIn (fun x=>lessS x.id id) g.I (freshIno id kind),g.E⟩,0)):=HR0.out.trans ((if_neg (by decide)).trans (if_neg h40))
    have hlt40 : ¬ (40 : Int)≤(n : Int):=by omega
    clear HR0 HV
    go_wp2_with fail
    go_loopg [10] (n + 1) (fun gk i wr=>∃ k : Nat,i = .int .i64 (k : Int)∧gk + k = n + 1∧k≤n∧Hid (∀ j (h : j < g.I.length),j < k→lessS g.I[j].id id = true)∧Held w [(w.heap.size + 1 + 1,.cells #[.slice none 0 0,.slice none 0 0] 37),(w.heap.size + 1,.cells (stA id) 24),(w.heap.size,.cells #[.slice A n c,.slice A' m d] 37)] wr)
    case atStart=>exact ⟨0,rfl,by omega,by omega,fun _ _ hj=>absurd hj (by omega),hH3⟩
    case round =>
     obtain ⟨k,rfl,hgk,hk,hall,hH⟩:=hrel
     clear hH3 c1 c2 m0 m1 f0 f1
     have c1:=(two_cells (g:=w.heap.size) (hH.at 2 rfl)).1
     obtain ⟨e0,e1⟩:=two_cells (g:=w.heap.size + 1) (hH.at 1 rfl)
     have qc1:=later_cell c1
     have q0:=later_cell e0
     have q1:=later_cell e1
     clear e0 e1
     by_cases hlt : k < n
     ·obtain ⟨gi,o,rfl,hg,hrow⟩:=HI.out.row (by omega)
      have hrk:=(hrow k (by omega)).below hH.below hg
      have hA:=fun W=>refLess g.I[k].id.1 g.I[k].id.2 id.1 id.2 W
      obtain ⟨b,hb⟩ : ∃ b,b = lessS g.I[k].id id:=⟨_,rfl⟩
      rw [show lessB g.I[k].id.1 g.I[k].id.2 id.1 id.2 = b from hb.symm] at hA
      obtain ⟨y0,hy⟩ : ∃ x,g.I[k] = x:=⟨_,rfl⟩
      rw [hy] at hrk hA
      obtain ⟨r0,r1,_⟩:=hrk
      have s0:=later_cell r0
      have s1:=later_cell r1
      clear r0 r1 hrow
      have HA : Hid (∀ W : World,Calls Tryz.prog 46 #[.agg #[.int .i64 y0.id.1,.int .i64 y0.id.2],.agg #[.int .i64 id.1,.int .i64 id.2]] W fun x w'=>x = .returned (.bool b)∧Below W.heap.size W w'):=hA
      clear hA
      cases b
      ·have HT : Hid (g.I.take k = g.I.takeWhile (fun x=>lessS x.id id)∧g.I.drop k = g.I.dropWhile (fun x=>lessS x.id id)):=take_while_at (by omega) hall.out fun _=>hb.symm
       clear hb hy hall
       go_upto_region 9 with fail
       refine wp_region_later (by kernel_rfl) (by kernel_rfl) ?_
       repeat (go_big_quiet_step (first | (with_reducible exact later_call (HA.out _))))
       refine wpQuiet_nil ?_
       intro _ hw'
       obtain ⟨y,rfl⟩:=hw'
       have hH2:=hH.step (later_below wr y)
       generalize later wr y = w2 at hH2 ⊢
       clear qc1 q0 q1 s0 s1 hH HA
       have hlow : w.heap.size + 1 + 1 < w2.heap.size:=heap_lt (hH2.at 0 rfl)
       clear c1
       have c1:=(two_cells (g:=w.heap.size) ((hH2.alloc (.cells #[] 59) rfl).at 3 rfl)).1
       have hT2:=(HI.out.below hH2.below).more hH2.below.size
       have hk1 : 0 + k≤maxLen:=by unfold maxLen; omega
       have hk2 : k + 1≤maxLen:=by unfold maxLen; omega
       have hk3 : k + 1 + (n - k)≤maxLen:=by unfold maxLen; omega
       have hTk:=TabIn.take (hT2.below ((Below.refl w2.heap.size w2).alloc (Nat.le_refl _) (.cells #[] 59))) hk
       rw [← List.map_take] at hTk
       go_upto_region 12 with (at_builtin; refine wpList_append_tab rfl (.tmp 54) (.tmp 58) 34 rfl (w.heap.size + 3) 59 i0 _ 6 56 Tryz.underlying34 hi0 hz0 hz1 hz2 rfl (by decide) _ 0 [] rfl (own_empty w2 _ _ _ (by omega)) _ k c w2.heap.size ((g.I.take k).map inoA) rfl hTk hd1 ino_sizes ino_ones hk1 (by omega) (by simp; omega) ?_; intro v3 w3 hown3 hg3)
       rw [List.nil_append,Nat.zero_add] at hown3
       have hH3:=(hH2.step ((Below.refl w2.heap.size w2).alloc (Nat.le_refl _) (.cells #[] 59))).grown (B:=w.heap.size + 3) hg3 (fun q hq=>((own_empty w2 (w.heap.size + 3) 59 6 (by omega)).lt q hq).1) (by intro p hp; simp at hp; rcases hp with rfl | rfl | rfl <;> (dsimp only; omega)) (by omega)
       clear c1 hT2 hTk hg3 hH2 hlow hk1
       have hlow : w.heap.size + 1 + 1 < w3.heap.size:=heap_lt (hH3.at 0 rfl)
       obtain ⟨e0,e1⟩:=two_cells (g:=w.heap.size + 1) (hH3.at 1 rfl)
       go_upto_region 13 with (at_builtin; refine wpList_append_own _ rfl (.tmp 60) (.tmp 64) 34 rfl (w.heap.size + 3) 59 i0 _ 6 56 Tryz.underlying34 hi0 hz0 hz1 hz2 rfl (by decide) _ _ _ rfl (hown3.alloc _) ⟨w3.heap.size,0,none⟩ 1 1 (inoA (freshIno id kind)).toList rfl rfl (row_there w3 _ _) (ino_one _) hk2 (by omega) (by simp; omega) ?_; intro v4 w4 hown4 hg4 _)
       rw [flat_ino] at hown4
       have hH4:=(hH3.step ((Below.refl w3.heap.size w3).alloc (Nat.le_refl _) (.cells (inoA (freshIno id kind)) 59))).grown (B:=w.heap.size + 3) hg4 (fun q hq=>(hown3.lt q hq).1) (by intro p hp; simp at hp; rcases hp with rfl | rfl | rfl <;> (dsimp only; omega)) (by omega)
       clear e0 e1 hown3 hg4 hH3 hlow hk2
       have hlow : w.heap.size + 1 + 1 < w4.heap.size:=heap_lt (hH4.at 0 rfl)
       have c1:=(two_cells (g:=w.heap.size) (hH4.at 2 rfl)).1
       have hT4:=TabIn.drop (HI.out.below hH4.below) hk
       rw [← List.map_drop] at hT4
       go_upto_region 14 with (at_builtin; refine wpList_append_tab rfl (.tmp 66) (.tmp 70) 34 rfl (w.heap.size + 3) 59 i0 _ 6 56 Tryz.underlying34 hi0 hz0 hz1 hz2 rfl (by decide) _ _ _ rfl hown4 _ (n - k) _ w.heap.size ((g.I.drop k).map inoA) rfl hT4 (fun h=>by cases h) ino_sizes ino_ones hk3 (by omega) (by omega) ?_; intro v5 w5 hown5 hg5)
       have hH5:=hH4.grown (B:=w.heap.size + 3) hg5 (fun q hq=>(hown4.lt q hq).1) (by intro p hp; simp at hp; rcases hp with rfl | rfl | rfl <;> (dsimp only; omega)) (by omega)
       clear c1 hown4 hg5 hH4 hlow hk3
       have c2:=(two_cells (g:=w.heap.size) (hH5.at 2 rfl)).2
       obtain ⟨m0,m1⟩:=two_cells (g:=w.heap.size + 1 + 1) (hH5.at 0 rfl)
       obtain ⟨f0,f1⟩:=two_free (g:=w.heap.size + 1 + 1) (hH5.at 0 rfl)
       have hlist : g.I.take k ++ [freshIno id kind] ++ (g.I.drop k) = putIn (fun x=>lessS x.id id) g.I (freshIno id kind):=by unfold putIn; rw [← HT.out.1,← HT.out.2,List.append_assoc]; rfl
       have hlen : k + 1 + (n - k) = (putIn (fun x=>lessS x.id id) g.I (freshIno id kind)).length:=by rw [← hlist]; simp only [List.length_append,List.length_take,List.length_drop,List.length_cons,List.length_nil]; omega
       rw [← List.map_append,hlist,hlen] at hown5
       obtain ⟨L,hL⟩ : ∃ L,L = putIn (fun x=>lessS x.id id) g.I (freshIno id kind):=⟨_,rfl⟩
       rw [← hL] at hown5 HR1
       obtain ⟨B,cc,rfl,-⟩:=inos_own rfl hown5
       have hown6:=own_set2 hown5 (b:=w.heap.size + 1 + 1) (by omega) (.slice B L.length cc) (.slice A' m d)
       obtain ⟨p1,p2⟩:=inos_in hown6
       have hB6 : Below w.heap.size w ((w5.setCell ⟨w.heap.size + 1 + 1,0,none⟩ (.slice B L.length cc)).setCell ⟨w.heap.size + 1 + 1,1,none⟩ (.slice A' m d)):=(hH5.below.setCell (by dsimp only; omega) _).setCell (by dsimp only; omega) _
       have HF:=Lib.hid (And.intro (And.intro p1 p2) hB6)
       clear hown5 hown6 p1 p2 hB6 hlist hlen hL
       go_wp2_with fail
       exact bodyPost_ret (v:=.tuple #[.agg #[.slice B L.length cc,.slice A' m d],.int .i64 0]) (by simp [results,Tryz.results77,go_sem,m0,m1]) rfl ⟨_,by rw [HR1.out],by rw [HR1.out]; exact ⟨B,_,cc,A',m,d,rfl,HF.out.1.1,HF.out.1.2.to,(HE.out.1.below HF.out.2).more HF.out.2.size,HE.out.2.to⟩,HF.out.2⟩
      ·have HN : Hid (∀ j (h : j < g.I.length),j < k + 1→lessS g.I[j].id id = true):=fun j h hj=>by
        by_cases hjk : j = k
        ·subst hjk; exact hb.symm
        ·exact hall.out j h (by omega)
       clear hb hy hall
       go_upto_region 9 with fail
       refine wp_region_later (by kernel_rfl) (by kernel_rfl) ?_
       repeat (go_big_quiet_step (first | (with_reducible exact later_call (HA.out _))))
       refine wpQuiet_nil ?_
       intro _ hw'
       obtain ⟨y,rfl⟩:=hw'
       have hH2:=hH.step (later_below wr y)
       go_wp2_with fail
       go_roundg (gk - 1)
       case measure=>omega
       case rel=>exact ⟨k + 1,by go_num,by omega,by omega,HN.out,hH2⟩
     ·have HT : Hid (g.I.take k = g.I.takeWhile (fun x=>lessS x.id id)∧g.I.drop k = g.I.dropWhile (fun x=>lessS x.id id)):=take_while_at (by omega) hall.out fun h=>absurd h (by omega)
      clear hall
      go_upto_region 9 with fail
      refine wp_region_later (by kernel_rfl) (by kernel_rfl) ?_
      repeat (go_big_quiet_step (fail))
      refine wpQuiet_nil ?_
      intro _ hw'
      obtain ⟨y,rfl⟩:=hw'
      have hH2:=hH.step (later_below wr y)
      generalize later wr y = w2 at hH2 ⊢
      clear qc1 q0 q1 hH
      have hkm : k = n:=by omega
      subst hkm
      cases A with
      | none =>
       obtain rfl : c = 0:=hd1 rfl
       obtain rfl : k = 0:=by omega
       have hlow : w.heap.size + 1 + 1 < w2.heap.size:=heap_lt (hH2.at 0 rfl)
       clear c1
       have c1:=(two_cells (g:=w.heap.size) ((hH2.alloc (.cells #[] 59) rfl).at 3 rfl)).1
       have hT2:=(HI.out.below hH2.below).more hH2.below.size
       have hk1 : 0 + 0≤maxLen:=by unfold maxLen; omega
       have hk2 : 0 + 1≤maxLen:=by unfold maxLen; omega
       have hk3 : 0 + 1 + 0≤maxLen:=by unfold maxLen; omega
       have hTk:=TabIn.take (hT2.below ((Below.refl w2.heap.size w2).alloc (Nat.le_refl _) (.cells #[] 59))) hk
       rw [← List.map_take] at hTk
       go_upto_region 12 with (at_builtin; refine wpList_append_tab rfl (.tmp 54) (.tmp 58) 34 rfl (w.heap.size + 3) 59 i0 _ 6 56 Tryz.underlying34 hi0 hz0 hz1 hz2 rfl (by decide) _ 0 [] rfl (own_empty w2 _ _ _ (by omega)) _ 0 0 w2.heap.size ((g.I.take 0).map inoA) rfl hTk hd1 ino_sizes ino_ones hk1 (by omega) (by simp; omega) ?_; intro v3 w3 hown3 hg3)
       rw [List.nil_append,Nat.zero_add] at hown3
       have hH3:=(hH2.step ((Below.refl w2.heap.size w2).alloc (Nat.le_refl _) (.cells #[] 59))).grown (B:=w.heap.size + 3) hg3 (fun q hq=>((own_empty w2 (w.heap.size + 3) 59 6 (by omega)).lt q hq).1) (by intro p hp; simp at hp; rcases hp with rfl | rfl | rfl <;> (dsimp only; omega)) (by omega)
       clear c1 hT2 hTk hg3 hH2 hlow hk1
       have hlow : w.heap.size + 1 + 1 < w3.heap.size:=heap_lt (hH3.at 0 rfl)
       obtain ⟨e0,e1⟩:=two_cells (g:=w.heap.size + 1) (hH3.at 1 rfl)
       go_upto_region 13 with (at_builtin; refine wpList_append_own _ rfl (.tmp 60) (.tmp 64) 34 rfl (w.heap.size + 3) 59 i0 _ 6 56 Tryz.underlying34 hi0 hz0 hz1 hz2 rfl (by decide) _ _ _ rfl (hown3.alloc _) ⟨w3.heap.size,0,none⟩ 1 1 (inoA (freshIno id kind)).toList rfl rfl (row_there w3 _ _) (ino_one _) hk2 (by omega) (by simp; omega) ?_; intro v4 w4 hown4 hg4 _)
       rw [flat_ino] at hown4
       have hH4:=(hH3.step ((Below.refl w3.heap.size w3).alloc (Nat.le_refl _) (.cells (inoA (freshIno id kind)) 59))).grown (B:=w.heap.size + 3) hg4 (fun q hq=>(hown3.lt q hq).1) (by intro p hp; simp at hp; rcases hp with rfl | rfl | rfl <;> (dsimp only; omega)) (by omega)
       clear e0 e1 hown3 hg4 hH3 hlow hk2
       have hlow : w.heap.size + 1 + 1 < w4.heap.size:=heap_lt (hH4.at 0 rfl)
       have c1:=(two_cells (g:=w.heap.size) (hH4.at 2 rfl)).1
       go_upto_region 14 with (at_builtin; refine wpList_append_tab rfl (.tmp 66) (.tmp 70) 34 rfl (w.heap.size + 3) 59 i0 _ 6 56 Tryz.underlying34 hi0 hz0 hz1 hz2 rfl (by decide) _ _ _ rfl hown4 _ 0 _ w.heap.size (([] : List Ino).map inoA) rfl (TabIn.nil 6 w4 w.heap.size _) (fun _=>rfl) ino_sizes ino_ones hk3 (by omega) (by omega) ?_; intro v5 w5 hown5 hg5)
       have hH5:=hH4.grown (B:=w.heap.size + 3) hg5 (fun q hq=>(hown4.lt q hq).1) (by intro p hp; simp at hp; rcases hp with rfl | rfl | rfl <;> (dsimp only; omega)) (by omega)
       clear c1 hown4 hg5 hH4 hlow hk3
       have c2:=(two_cells (g:=w.heap.size) (hH5.at 2 rfl)).2
       obtain ⟨m0,m1⟩:=two_cells (g:=w.heap.size + 1 + 1) (hH5.at 0 rfl)
       obtain ⟨f0,f1⟩:=two_free (g:=w.heap.size + 1 + 1) (hH5.at 0 rfl)
       have hlist : g.I.take 0 ++ [freshIno id kind] ++ ([] : List Ino) = putIn (fun x=>lessS x.id id) g.I (freshIno id kind):=by unfold putIn; rw [← HT.out.1,← HT.out.2,List.append_assoc]; rw [List.drop_of_length_le (by omega)]; rfl
       have hlen : 0 + 1 + 0 = (putIn (fun x=>lessS x.id id) g.I (freshIno id kind)).length:=by rw [← hlist]; simp only [List.length_append,List.length_take,List.length_cons,List.length_nil]; omega
       rw [← List.map_append,hlist,hlen] at hown5
       obtain ⟨L,hL⟩ : ∃ L,L = putIn (fun x=>lessS x.id id) g.I (freshIno id kind):=⟨_,rfl⟩
       rw [← hL] at hown5 HR1
       obtain ⟨B,cc,rfl,-⟩:=inos_own rfl hown5
       have hown6:=own_set2 hown5 (b:=w.heap.size + 1 + 1) (by omega) (.slice B L.length cc) (.slice A' m d)
       obtain ⟨p1,p2⟩:=inos_in hown6
       have hB6 : Below w.heap.size w ((w5.setCell ⟨w.heap.size + 1 + 1,0,none⟩ (.slice B L.length cc)).setCell ⟨w.heap.size + 1 + 1,1,none⟩ (.slice A' m d)):=(hH5.below.setCell (by dsimp only; omega) _).setCell (by dsimp only; omega) _
       have HF:=Lib.hid (And.intro (And.intro p1 p2) hB6)
       clear hown5 hown6 p1 p2 hB6 hlist hlen hL
       go_wp2_with fail
       exact bodyPost_ret (v:=.tuple #[.agg #[.slice B L.length cc,.slice A' m d],.int .i64 0]) (by simp [results,Tryz.results77,go_sem,m0,m1]) rfl ⟨_,by rw [HR1.out],by rw [HR1.out]; exact ⟨B,_,cc,A',m,d,rfl,HF.out.1.1,HF.out.1.2.to,(HE.out.1.below HF.out.2).more HF.out.2.size,HE.out.2.to⟩,HF.out.2⟩
      | some ad =>
       by_cases hdk : c = k
       ·subst hdk
        have hlow : w.heap.size + 1 + 1 < w2.heap.size:=heap_lt (hH2.at 0 rfl)
        clear c1
        have c1:=(two_cells (g:=w.heap.size) ((hH2.alloc (.cells #[] 59) rfl).at 3 rfl)).1
        have hT2:=(HI.out.below hH2.below).more hH2.below.size
        have hk1 : 0 + c≤maxLen:=by unfold maxLen; omega
        have hk2 : c + 1≤maxLen:=by unfold maxLen; omega
        have hk3 : c + 1 + 0≤maxLen:=by unfold maxLen; omega
        have hTk:=TabIn.take (hT2.below ((Below.refl w2.heap.size w2).alloc (Nat.le_refl _) (.cells #[] 59))) hk
        rw [← List.map_take] at hTk
        go_upto_region 12 with (at_builtin; refine wpList_append_tab rfl (.tmp 54) (.tmp 58) 34 rfl (w.heap.size + 3) 59 i0 _ 6 56 Tryz.underlying34 hi0 hz0 hz1 hz2 rfl (by decide) _ 0 [] rfl (own_empty w2 _ _ _ (by omega)) _ c c w2.heap.size ((g.I.take c).map inoA) rfl hTk hd1 ino_sizes ino_ones hk1 (by omega) (by simp; omega) ?_; intro v3 w3 hown3 hg3)
        rw [List.nil_append,Nat.zero_add] at hown3
        have hH3:=(hH2.step ((Below.refl w2.heap.size w2).alloc (Nat.le_refl _) (.cells #[] 59))).grown (B:=w.heap.size + 3) hg3 (fun q hq=>((own_empty w2 (w.heap.size + 3) 59 6 (by omega)).lt q hq).1) (by intro p hp; simp at hp; rcases hp with rfl | rfl | rfl <;> (dsimp only; omega)) (by omega)
        clear c1 hT2 hTk hg3 hH2 hlow hk1
        have hlow : w.heap.size + 1 + 1 < w3.heap.size:=heap_lt (hH3.at 0 rfl)
        obtain ⟨e0,e1⟩:=two_cells (g:=w.heap.size + 1) (hH3.at 1 rfl)
        go_upto_region 13 with (at_builtin; refine wpList_append_own _ rfl (.tmp 60) (.tmp 64) 34 rfl (w.heap.size + 3) 59 i0 _ 6 56 Tryz.underlying34 hi0 hz0 hz1 hz2 rfl (by decide) _ _ _ rfl (hown3.alloc _) ⟨w3.heap.size,0,none⟩ 1 1 (inoA (freshIno id kind)).toList rfl rfl (row_there w3 _ _) (ino_one _) hk2 (by omega) (by simp; omega) ?_; intro v4 w4 hown4 hg4 _)
        rw [flat_ino] at hown4
        have hH4:=(hH3.step ((Below.refl w3.heap.size w3).alloc (Nat.le_refl _) (.cells (inoA (freshIno id kind)) 59))).grown (B:=w.heap.size + 3) hg4 (fun q hq=>(hown3.lt q hq).1) (by intro p hp; simp at hp; rcases hp with rfl | rfl | rfl <;> (dsimp only; omega)) (by omega)
        clear e0 e1 hown3 hg4 hH3 hlow hk2
        have hlow : w.heap.size + 1 + 1 < w4.heap.size:=heap_lt (hH4.at 0 rfl)
        have c1:=(two_cells (g:=w.heap.size) (hH4.at 2 rfl)).1
        go_upto_region 14 with (at_builtin; refine wpList_append_tab rfl (.tmp 66) (.tmp 70) 34 rfl (w.heap.size + 3) 59 i0 _ 6 56 Tryz.underlying34 hi0 hz0 hz1 hz2 rfl (by decide) _ _ _ rfl hown4 _ 0 _ w.heap.size (([] : List Ino).map inoA) rfl (TabIn.nil 6 w4 w.heap.size _) (fun h=>by cases h) ino_sizes ino_ones hk3 (by omega) (by omega) ?_; intro v5 w5 hown5 hg5)
        have hH5:=hH4.grown (B:=w.heap.size + 3) hg5 (fun q hq=>(hown4.lt q hq).1) (by intro p hp; simp at hp; rcases hp with rfl | rfl | rfl <;> (dsimp only; omega)) (by omega)
        clear c1 hown4 hg5 hH4 hlow hk3
        have c2:=(two_cells (g:=w.heap.size) (hH5.at 2 rfl)).2
        obtain ⟨m0,m1⟩:=two_cells (g:=w.heap.size + 1 + 1) (hH5.at 0 rfl)
        obtain ⟨f0,f1⟩:=two_free (g:=w.heap.size + 1 + 1) (hH5.at 0 rfl)
        have hlist : g.I.take c ++ [freshIno id kind] ++ ([] : List Ino) = putIn (fun x=>lessS x.id id) g.I (freshIno id kind):=by unfold putIn; rw [← HT.out.1,← HT.out.2,List.append_assoc]; rw [List.drop_of_length_le (by omega)]; rfl
        have hlen : c + 1 + 0 = (putIn (fun x=>lessS x.id id) g.I (freshIno id kind)).length:=by rw [← hlist]; simp only [List.length_append,List.length_take,List.length_cons,List.length_nil]; omega
        rw [← List.map_append,hlist,hlen] at hown5
        obtain ⟨L,hL⟩ : ∃ L,L = putIn (fun x=>lessS x.id id) g.I (freshIno id kind):=⟨_,rfl⟩
        rw [← hL] at hown5 HR1
        obtain ⟨B,cc,rfl,-⟩:=inos_own rfl hown5
        have hown6:=own_set2 hown5 (b:=w.heap.size + 1 + 1) (by omega) (.slice B L.length cc) (.slice A' m d)
        obtain ⟨p1,p2⟩:=inos_in hown6
        have hB6 : Below w.heap.size w ((w5.setCell ⟨w.heap.size + 1 + 1,0,none⟩ (.slice B L.length cc)).setCell ⟨w.heap.size + 1 + 1,1,none⟩ (.slice A' m d)):=(hH5.below.setCell (by dsimp only; omega) _).setCell (by dsimp only; omega) _
        have HF:=Lib.hid (And.intro (And.intro p1 p2) hB6)
        clear hown5 hown6 p1 p2 hB6 hlist hlen hL
        go_wp2_with fail
        exact bodyPost_ret (v:=.tuple #[.agg #[.slice B L.length cc,.slice A' m d],.int .i64 0]) (by simp [results,Tryz.results77,go_sem,m0,m1]) rfl ⟨_,by rw [HR1.out],by rw [HR1.out]; exact ⟨B,_,cc,A',m,d,rfl,HF.out.1.1,HF.out.1.2.to,(HE.out.1.below HF.out.2).more HF.out.2.size,HE.out.2.to⟩,HF.out.2⟩
       ·have hdk2 : ¬ k = c:=fun q=>hdk q.symm
        have hlow : w.heap.size + 1 + 1 < w2.heap.size:=heap_lt (hH2.at 0 rfl)
        clear c1
        have c1:=(two_cells (g:=w.heap.size) ((hH2.alloc (.cells #[] 59) rfl).at 3 rfl)).1
        have hT2:=(HI.out.below hH2.below).more hH2.below.size
        have hk1 : 0 + k≤maxLen:=by unfold maxLen; omega
        have hk2 : k + 1≤maxLen:=by unfold maxLen; omega
        have hk3 : k + 1 + 0≤maxLen:=by unfold maxLen; omega
        have hTk:=TabIn.take (hT2.below ((Below.refl w2.heap.size w2).alloc (Nat.le_refl _) (.cells #[] 59))) hk
        rw [← List.map_take] at hTk
        go_upto_region 12 with (at_builtin; refine wpList_append_tab rfl (.tmp 54) (.tmp 58) 34 rfl (w.heap.size + 3) 59 i0 _ 6 56 Tryz.underlying34 hi0 hz0 hz1 hz2 rfl (by decide) _ 0 [] rfl (own_empty w2 _ _ _ (by omega)) _ k c w2.heap.size ((g.I.take k).map inoA) rfl hTk hd1 ino_sizes ino_ones hk1 (by omega) (by simp; omega) ?_; intro v3 w3 hown3 hg3)
        rw [List.nil_append,Nat.zero_add] at hown3
        have hH3:=(hH2.step ((Below.refl w2.heap.size w2).alloc (Nat.le_refl _) (.cells #[] 59))).grown (B:=w.heap.size + 3) hg3 (fun q hq=>((own_empty w2 (w.heap.size + 3) 59 6 (by omega)).lt q hq).1) (by intro p hp; simp at hp; rcases hp with rfl | rfl | rfl <;> (dsimp only; omega)) (by omega)
        clear c1 hT2 hTk hg3 hH2 hlow hk1
        have hlow : w.heap.size + 1 + 1 < w3.heap.size:=heap_lt (hH3.at 0 rfl)
        obtain ⟨e0,e1⟩:=two_cells (g:=w.heap.size + 1) (hH3.at 1 rfl)
        go_upto_region 13 with (at_builtin; refine wpList_append_own _ rfl (.tmp 60) (.tmp 64) 34 rfl (w.heap.size + 3) 59 i0 _ 6 56 Tryz.underlying34 hi0 hz0 hz1 hz2 rfl (by decide) _ _ _ rfl (hown3.alloc _) ⟨w3.heap.size,0,none⟩ 1 1 (inoA (freshIno id kind)).toList rfl rfl (row_there w3 _ _) (ino_one _) hk2 (by omega) (by simp; omega) ?_; intro v4 w4 hown4 hg4 _)
        rw [flat_ino] at hown4
        have hH4:=(hH3.step ((Below.refl w3.heap.size w3).alloc (Nat.le_refl _) (.cells (inoA (freshIno id kind)) 59))).grown (B:=w.heap.size + 3) hg4 (fun q hq=>(hown3.lt q hq).1) (by intro p hp; simp at hp; rcases hp with rfl | rfl | rfl <;> (dsimp only; omega)) (by omega)
        clear e0 e1 hown3 hg4 hH3 hlow hk2
        have hlow : w.heap.size + 1 + 1 < w4.heap.size:=heap_lt (hH4.at 0 rfl)
        have c1:=(two_cells (g:=w.heap.size) (hH4.at 2 rfl)).1
        go_upto_region 14 with (at_builtin; refine wpList_append_tab rfl (.tmp 66) (.tmp 70) 34 rfl (w.heap.size + 3) 59 i0 _ 6 56 Tryz.underlying34 hi0 hz0 hz1 hz2 rfl (by decide) _ _ _ rfl hown4 _ 0 _ w.heap.size (([] : List Ino).map inoA) rfl (TabIn.nil 6 w4 w.heap.size _) (fun h=>by cases h) ino_sizes ino_ones hk3 (by omega) (by omega) ?_; intro v5 w5 hown5 hg5)
        have hH5:=hH4.grown (B:=w.heap.size + 3) hg5 (fun q hq=>(hown4.lt q hq).1) (by intro p hp; simp at hp; rcases hp with rfl | rfl | rfl <;> (dsimp only; omega)) (by omega)
        clear c1 hown4 hg5 hH4 hlow hk3
        have c2:=(two_cells (g:=w.heap.size) (hH5.at 2 rfl)).2
        obtain ⟨m0,m1⟩:=two_cells (g:=w.heap.size + 1 + 1) (hH5.at 0 rfl)
        obtain ⟨f0,f1⟩:=two_free (g:=w.heap.size + 1 + 1) (hH5.at 0 rfl)
        have hlist : g.I.take k ++ [freshIno id kind] ++ ([] : List Ino) = putIn (fun x=>lessS x.id id) g.I (freshIno id kind):=by unfold putIn; rw [← HT.out.1,← HT.out.2,List.append_assoc]; rw [List.drop_of_length_le (by omega)]; rfl
        have hlen : k + 1 + 0 = (putIn (fun x=>lessS x.id id) g.I (freshIno id kind)).length:=by rw [← hlist]; simp only [List.length_append,List.length_take,List.length_cons,List.length_nil]; omega
        rw [← List.map_append,hlist,hlen] at hown5
        obtain ⟨L,hL⟩ : ∃ L,L = putIn (fun x=>lessS x.id id) g.I (freshIno id kind):=⟨_,rfl⟩
        rw [← hL] at hown5 HR1
        obtain ⟨B,cc,rfl,-⟩:=inos_own rfl hown5
        have hown6:=own_set2 hown5 (b:=w.heap.size + 1 + 1) (by omega) (.slice B L.length cc) (.slice A' m d)
        obtain ⟨p1,p2⟩:=inos_in hown6
        have hB6 : Below w.heap.size w ((w5.setCell ⟨w.heap.size + 1 + 1,0,none⟩ (.slice B L.length cc)).setCell ⟨w.heap.size + 1 + 1,1,none⟩ (.slice A' m d)):=(hH5.below.setCell (by dsimp only; omega) _).setCell (by dsimp only; omega) _
        have HF:=Lib.hid (And.intro (And.intro p1 p2) hB6)
        clear hown5 hown6 p1 p2 hB6 hlist hlen hL
        go_wp2_with fail
        exact bodyPost_ret (v:=.tuple #[.agg #[.slice B L.length cc,.slice A' m d],.int .i64 0]) (by simp [results,Tryz.results77,go_sem,m0,m1]) rfl ⟨_,by rw [HR1.out],by rw [HR1.out]; exact ⟨B,_,cc,A',m,d,rfl,HF.out.1.1,HF.out.1.2.to,(HE.out.1.below HF.out.2).more HF.out.2.size,HE.out.2.to⟩,HF.out.2⟩
  ·have HR1 : Hid (R = (g,4)):=HR0.out.trans (if_pos rfl)
   go_wp2_with fail
   exact bodyPost_ret (v:=.tuple #[.agg #[.slice A n c,.slice A' m d],.int .i64 4]) (by simp [results,Tryz.results77,go_sem,m0,m1]) rfl ⟨_,by rw [HR1.out],by rw [HR1.out]; exact HV.out.step ((hH3.below.setCell (by dsimp only; omega) _).setCell (by dsimp only; omega) _),(hH3.below.setCell (by dsimp only; omega) _).setCell (by dsimp only; omega) _⟩
 ·have HR1:=Lib.hid hR1
  clear hR1 HR
  rcases hcase with rfl | ⟨rfl,h1⟩ | ⟨rfl,h1,h2⟩
  all_goals
   go_wp2_with fail
   exact bodyPost_ret (v:=.tuple #[.agg #[.slice A n c,.slice A' m d],.int .i64 1]) (by simp [results,Tryz.results77,go_sem,m0,m1]) rfl ⟨_,by rw [HR1.out],by rw [HR1.out]; exact HV.out.step ((hH1.below.setCell (by dsimp only; omega) _).setCell (by dsimp only; omega) _),(hH1.below.setCell (by dsimp only; omega) _).setCell (by dsimp only; omega) _⟩

end Go.Proofs.YtdobeghbkonimaaGreatDoor

namespace Go.Proofs.YtdobeghbkonimaaGreatDoor
open Go.RowKit StampMath GraphMath OpMath

theorem filter_snoc {α : Type} (f : α→Bool) (l : List α) (k : Nat) (h : k < l.length) : (l.take (k + 1)).filter f = if f l[k] then (l.take k).filter f ++ [l[k]] else (l.take k).filter f:=by
 rw [List.take_succ_eq_append_getElem h,List.filter_append]
 cases hf : f l[k] <;> simp [hf]

theorem dropG_eq (g : Gr) (id : St) : dropG g id = if (getG g id).isSome = false then (g,3) else if id = (0,0) then (g,8) else if 0 < ((getG g id).getD noIno).links∨0 < (listE g.E id).length then (g,7) else (⟨g.I.filter fun x=>!decide (x.id = id),g.E⟩,0):=by
 unfold dropG
 cases h : getG g id with
 | none=>simp
 | some x=>simp

set_option maxRecDepth 100000 in
set_option maxHeartbeats 3200000 in
theorem refDrop (N : Nat → Prop) (v : Value) (g : Gr) (id : St) (hn : g.I.length ≤ 1000) (hm : g.E.length ≤ 1000) (w : World) (hv : GrAt N w v g) :
    Calls Tryz.prog 130 #[v, .agg (stA id)] w (GrPost N (dropG g id) w) := by
  obtain ⟨i0, hi0, hz0, hz1, hz2⟩ := info_parts ino_infos
  have HV := Lib.hid hv
  obtain ⟨A, n, c, A', m, d, rfl, hI, hc1, hE, hc2⟩ := hv
  have hl' := hI.len
  obtain ⟨x, hx⟩ : ∃ x, x = (getG g id).getD noIno := ⟨_, rfl⟩
  obtain ⟨is, his⟩ : ∃ is, is = (getG g id).isSome := ⟨_, rfl⟩
  have HG : Hid (∀ W : World, Below w.heap.size w W → Calls Tryz.prog 54 #[.agg #[.slice A n c, .slice A' m d], .agg #[.int .i64 id.1, .int .i64 id.2]] W fun z w' => z = .returned (.tuple #[.agg #[.int .i64 x.id.1, .int .i64 x.id.2, .int .i64 x.kind, .int .i64 x.links, .int .i64 x.mode, .string x.data], .bool is]) ∧ Below W.heap.size W w') := fun W hW => by
    rw [hx, his]; exact refGet A A' n c m d g id (by have := hI.len; omega) (by have := hE.len; omega) W ((hI.below hW).more hW.size) ((hE.below hW).more hW.size)
  obtain ⟨ll, hll⟩ : ∃ ll, ll = (listE g.E id).length := ⟨_, rfl⟩
  have HL : Hid (∀ W : World, Below w.heap.size w W → Calls Tryz.prog 127 #[.agg #[.slice A n c, .slice A' m d], .agg #[.int .i64 id.1, .int .i64 id.2]] W fun z w' => ∃ LA lc, z = .returned (.slice LA ll lc) ∧ Below W.heap.size W w') := fun W hW => by
    rw [hll]
    refine (refList (.slice A n c) A' m d g.E id (by have := hE.len; omega) W ((hE.below hW).more hW.size)).mono ?_
    rintro z w' ⟨LA, lc, hz, -, -, -, -, hb⟩
    exact ⟨LA, lc, hz, hb⟩
  have hll2 : ll ≤ 1000 := by have := listE_le g.E id; omega
  obtain ⟨R, hR⟩ : ∃ R, R = dropG g id := ⟨_, rfl⟩
  have hdrop := dropG_eq g id
  rw [← hR, ← hx, ← his, ← hll] at hdrop
  rw [← hR]
  have HI : Hid (InosIn w w.heap.size A n g.I) := hI
  have HE : Hid (EntsIn w w.heap.size A' m g.E ∧ Cap N A' m d) := ⟨hE, hc2⟩
  have HR := Lib.hid hdrop
  clear hI hE hc1 hc2 hx his hR hdrop hll
  have hb0 : Held w [(w.heap.size + 1 + 1, .cells #[.slice none 0 0, .slice none 0 0] 37), (w.heap.size + 1, .cells (stA id) 24), (w.heap.size, .cells #[.slice A n c, .slice A' m d] 37)]
    (((w.alloc (.cells #[.slice A n c, .slice A' m d] 37)).alloc (.cells (stA id) 24)).alloc (.cells #[.slice none 0 0, .slice none 0 0] 37)) :=
    (((Held.refl w).alloc (.cells #[.slice A n c, .slice A' m d] 37) rfl).alloc (.cells (stA id) 24) (by simp)).alloc (.cells #[.slice none 0 0, .slice none 0 0] 37) (by simp)
  unfold stA
  go_enter Tryz.func130, Tryz.ntmps130
  go_upto_region 1 with fail
  change Code.wp _ _ _ _ (((w.alloc (.cells #[.slice A n c, .slice A' m d] 37)).alloc (.cells (stA id) 24)).alloc (.cells #[.slice none 0 0, .slice none 0 0] 37))
  generalize ((w.alloc (.cells #[.slice A n c, .slice A' m d] 37)).alloc (.cells (stA id) 24)).alloc (.cells #[.slice none 0 0, .slice none 0 0] 37) = w0 at hb0 ⊢
  obtain ⟨c1, c2⟩ := two_cells (g := w.heap.size) (hb0.at 2 rfl)
  obtain ⟨e0, e1⟩ := two_cells (g := w.heap.size + 1) (hb0.at 1 rfl)
  go_wp2_with fail
  refine (HG.out _ hb0.below).mono ?_
  rintro z w2 ⟨rfl, hb2⟩
  have hH2 := hb0.step hb2
  clear hb0 hb2 c1 c2 e0 e1
  go_upto_region 2 with fail
  change Code.wp _ _ _ _ (w2.alloc (.cells (inoA x) 59))
  obtain ⟨ux, hux⟩ : ∃ u, u = w2.heap.size := ⟨_, rfl⟩
  have hlx : w.heap.size + 1 + 1 < ux := by rw [hux]; exact heap_lt (hH2.at 0 rfl)
  have hH3 := hH2.alloc (.cells (inoA x) 59) hux.symm
  rw [← hux]
  generalize w2.alloc (.cells (inoA x) 59) = w3 at hH3 ⊢
  clear hH2 hux
  obtain ⟨c1, c2⟩ := two_cells (g := w.heap.size) (hH3.at 3 rfl)
  obtain ⟨e0, e1⟩ := two_cells (g := w.heap.size + 1) (hH3.at 2 rfl)
  obtain ⟨m0, m1⟩ := two_cells (g := w.heap.size + 1 + 1) (hH3.at 1 rfl)
  obtain ⟨f0, f1⟩ := two_free (g := w.heap.size + 1 + 1) (hH3.at 1 rfl)
  have lx := (ino_cells (g := ux) (hH3.at 0 rfl)).2.2.2.1
  cases is
  · have HR1 : Hid (R = (g, 3)) := HR.out.trans (if_pos rfl)
    clear HR
    go_wp2_with fail
    exact bodyPost_ret (v := .tuple #[.agg #[.slice A n c, .slice A' m d], .int .i64 3]) (by simp [results, Tryz.results130, go_sem, m0, m1]) rfl ⟨_, by rw [HR1.out], by rw [HR1.out]; exact HV.out.step ((hH3.below.setCell (by dsimp only; omega) _).setCell (by dsimp only; omega) _), (hH3.below.setCell (by dsimp only; omega) _).setCell (by dsimp only; omega) _⟩
  have HR0 : Hid (R = if id = (0, 0) then (g, 8) else if 0 < x.links ∨ 0 < ll then (g, 7) else (⟨g.I.filter fun x => !decide (x.id = id), g.E⟩, 0)) := HR.out.trans (if_neg (by decide))
  clear HR
  have hcase : (R = (g, 8) ∧ (id.1 == 0) = true ∧ (id.2 == 0) = true) ∨ ((id.1 == 0) = false ∧ ¬ id = (0, 0)) ∨ ((id.1 == 0) = true ∧ (id.2 == 0) = false ∧ ¬ id = (0, 0)) := by
    by_cases h1 : id.1 = 0
    · by_cases h2 : id.2 = 0
      · exact Or.inl ⟨HR0.out.trans (if_pos (Prod.ext h1 h2)), beq_iff_eq.2 h1, beq_iff_eq.2 h2⟩
      · exact Or.inr (Or.inr ⟨beq_iff_eq.2 h1, beq_eq_false_iff_ne.2 h2, fun e => h2 (congrArg Prod.snd e)⟩)
    · exact Or.inr (Or.inl ⟨beq_eq_false_iff_ne.2 h1, fun e => h1 (congrArg Prod.fst e)⟩)
  rcases hcase with ⟨hR8, r1, r2⟩ | hcase
  · have HR1 := Lib.hid hR8
    clear HR0 hR8
    go_wp2_with fail
    exact bodyPost_ret (v := .tuple #[.agg #[.slice A n c, .slice A' m d], .int .i64 8]) (by simp [results, Tryz.results130, go_sem, m0, m1]) rfl ⟨_, by rw [HR1.out], by rw [HR1.out]; exact HV.out.step ((hH3.below.setCell (by dsimp only; omega) _).setCell (by dsimp only; omega) _), (hH3.below.setCell (by dsimp only; omega) _).setCell (by dsimp only; omega) _⟩
  have hne : ¬ id = (0, 0) := by rcases hcase with h | h; exact h.2; exact h.2.2
  have HR1 : Hid (R = if 0 < x.links ∨ 0 < ll then (g, 7) else (⟨g.I.filter fun x => !decide (x.id = id), g.E⟩, 0)) := HR0.out.trans (if_neg hne)
  have hroot : (id.1 == 0) = false ∨ ((id.1 == 0) = true ∧ (id.2 == 0) = false) := by rcases hcase with h | h; exact Or.inl h.1; exact Or.inr ⟨h.1, h.2.1⟩
  clear hcase hne HR0
  by_cases hx0 : 0 < x.links
  · have HR2 : Hid (R = (g, 7)) := HR1.out.trans (if_pos (Or.inl hx0))
    clear HR1
    rcases hroot with r1 | ⟨r1, r2⟩
    all_goals
      go_wp2_with fail
      exact bodyPost_ret (v := .tuple #[.agg #[.slice A n c, .slice A' m d], .int .i64 7]) (by simp [results, Tryz.results130, go_sem, m0, m1]) rfl ⟨_, by rw [HR2.out], by rw [HR2.out]; exact HV.out.step ((hH3.below.setCell (by dsimp only; omega) _).setCell (by dsimp only; omega) _), (hH3.below.setCell (by dsimp only; omega) _).setCell (by dsimp only; omega) _⟩
  rcases hroot with r1 | ⟨r1, r2⟩
  all_goals
    go_wp2_with fail
    refine (HL.out _ hH3.below).mono ?_
    rintro z w4 ⟨LA, lc, rfl, hb4⟩
    have hH4 := hH3.step hb4
    clear hH3 hb4 c1 c2 e0 e1 m0 m1 f0 f1 lx
    obtain ⟨c1, c2⟩ := two_cells (g := w.heap.size) (hH4.at 3 rfl)
    obtain ⟨m0, m1⟩ := two_cells (g := w.heap.size + 1 + 1) (hH4.at 1 rfl)
    obtain ⟨f0, f1⟩ := two_free (g := w.heap.size + 1 + 1) (hH4.at 1 rfl)
    by_cases hl0 : 0 < ll
    · have HR2 : Hid (R = (g, 7)) := HR1.out.trans (if_pos (Or.inr hl0))
      go_wp2_with fail
      exact bodyPost_ret (v := .tuple #[.agg #[.slice A n c, .slice A' m d], .int .i64 7]) (by simp [results, Tryz.results130, go_sem, m0, m1]) rfl ⟨_, by rw [HR2.out], by rw [HR2.out]; exact HV.out.step ((hH4.below.setCell (by dsimp only; omega) _).setCell (by dsimp only; omega) _), (hH4.below.setCell (by dsimp only; omega) _).setCell (by dsimp only; omega) _⟩
    have HR2 : Hid (R = (⟨g.I.filter fun x => !decide (x.id = id), g.E⟩, 0)) := HR1.out.trans (if_neg (by omega))
    obtain rfl : ll = 0 := by omega
    clear HR1 hl0 hll2
    go_upto_region 9 with fail
    change Code.wp _ _ _ _ (w4.alloc (.cells #[.slice none 0 0, .slice A' m d] 37))
    obtain ⟨uo, huo⟩ : ∃ u, u = w4.heap.size := ⟨_, rfl⟩
    have hlo : ux < uo := by rw [huo]; exact heap_lt (hH4.at 0 rfl)
    have ho0 : (w4.alloc (.cells #[.slice none 0 0, .slice A' m d] 37)).heap[uo]? = some (.cells #[.slice none 0 0, .slice A' m d] 37 (0, 0)) := by rw [huo]; exact heap_alloc_new _ _
    have hH5 := (hH4.step ((Below.refl w4.heap.size w4).alloc (Nat.le_refl _) (.cells #[.slice none 0 0, .slice A' m d] 37))).tail
    rw [← huo]
    generalize w4.alloc (.cells #[.slice none 0 0, .slice A' m d] 37) = w5 at hH5 ho0 ⊢
    clear hH4 huo c1 c2 m0 m1 f0 f1
    go_wp2_with fail
    go_loopg [9] (n + 1) (fun gk i wr => ∃ (k : Nat) (out : Value), i = .int .i64 (k : Int) ∧ gk + k = n + 1 ∧ k ≤ n ∧ wr.heap[uo]? = some (.cells #[out, .slice A' m d] 37 (0, 0)) ∧ wr.ownsRow (uo + 1) 59 6 out ((g.I.take k).filter fun x => !decide (x.id = id)).length (flat (((g.I.take k).filter fun x => !decide (x.id = id)).map inoA)) ∧
      Held w [(w.heap.size + 1 + 1, .cells #[.slice none 0 0, .slice none 0 0] 37), (w.heap.size + 1, .cells (stA id) 24), (w.heap.size, .cells #[.slice A n c, .slice A' m d] 37)] wr)
    case atStart => exact ⟨0, _, rfl, by omega, by omega, ho0, World.ownsRow_nil _ _ _ _, hH5⟩
    case round =>
      obtain ⟨k, out, rfl, hgk, hk, ho, hown, hH⟩ := hrel
      clear hH5 ho0
      have c1 := (two_cells (g := w.heap.size) (hH.at 2 rfl)).1
      obtain ⟨e0, e1⟩ := two_cells (g := w.heap.size + 1) (hH.at 1 rfl)
      by_cases hlt : k < n
      · obtain ⟨gi, o, rfl, hg, hrow⟩ := HI.out.row (by omega)
        have hsn := filter_snoc (fun x : Ino => !decide (x.id = id)) g.I k (by omega)
        have hle : ((g.I.take k).filter fun x => !decide (x.id = id)).length ≤ 1000 := by have := List.length_filter_le (fun x : Ino => !decide (x.id = id)) (g.I.take k); rw [List.length_take] at this; omega
        have hrk := fun W hb => (hrow k (by omega)).below (B := w.heap.size) (W' := W) hb hg
        obtain ⟨y, hy⟩ : ∃ x, g.I[k] = x := ⟨_, rfl⟩
        rw [hy] at hrk hsn
        clear hrow hy
        obtain ⟨p0, p1, _⟩ := hrk wr hH.below
        have HRow := Lib.hid hrk
        clear hrk
        by_cases hq : y.id = id
        · have hv := eqSt_yes hq
          rw [if_neg (by simp [hq])] at hsn
          have HS := Lib.hid hsn
          clear hsn
          go_wp2_with fail
          go_quiet (fail)
          go_wp2_with fail
          go_roundg (gk - 1)
          case measure => omega
          case rel => exact ⟨k + 1, out, by go_num, by omega, by omega, ho, by rw [HS.out]; exact hown, hH.drewN _⟩
        · have hv := eqSt_no hq
          rw [if_pos (by simp [hq])] at hsn
          have HS := Lib.hid hsn
          clear hsn
          go_upto_region 12 with fail
          go_quiet (fail)
          have hH2 := hH.drewN nq
          have hown2 : (wr.drewN nq).ownsRow (uo + 1) 59 6 out ((g.I.take k).filter fun x => !decide (x.id = id)).length (flat (((g.I.take k).filter fun x => !decide (x.id = id)).map inoA)) := hown
          have ho2 : (wr.drewN nq).heap[uo]? = some (.cells #[out, .slice A' m d] 37 (0, 0)) := ho
          generalize wr.drewN nq = w6 at hH2 hown2 ho2 ⊢
          clear c1 e0 e1 p0 p1 hH hown ho hv hq
          have c1 := (two_cells (g := w.heap.size) (hH2.at 2 rfl)).1
          have o0 := (two_cells ho2).1
          have f0 := (two_free ho2).1
          obtain ⟨p0, p1, p2, p3, p4, p5⟩ := HRow.out w6 hH2.below
          have hm1 : ((g.I.take k).filter fun x => !decide (x.id = id)).length + 1 ≤ maxLen := by unfold maxLen; omega
          have hi0' : (0 : Int) ≤ (k : Int) := Int.natCast_nonneg _
          have hi1 : (k : Int) < (n : Int) := by omega
          have no : out.ownBlock ≠ some uo := fun e => by have := (hown2.lt uo e).1; omega
          have ns : out.ownBlock ≠ some w.heap.size := fun e => by have := (hown2.lt _ e).1; omega
          have ng : out.ownBlock ≠ some gi := fun e => by have := (hown2.lt _ e).1; omega
          have lo := heap_lt ho2
          have ho3 : ((w6.alloc (.cells (inoA y) 59)).drew).heap[uo]? = some (.cells #[out, .slice A' m d] 37 (0, 0)) := (heap_alloc_old w6 _ lo).trans ho2
          have hfa := (two_free ho3).1
          have o3 : ((w6.alloc (.cells #[.int .i64 y.id.1, .int .i64 y.id.2, .int .i64 y.kind, .int .i64 y.links, .int .i64 y.mode, .string y.data] 59)).drew).cell? ⟨uo, 0, none⟩ = some out := (two_cells ho3).1
          have ls : w.heap.size < w6.heap.size := heap_lt (hH2.at 2 rfl)
          go_upto_region 13 with fail
          go_region_law
            ((refine step_append_lies _ (by rfl) (.tmp 58) (.tmp 64) _ (by rfl) (uo + 1) 59 i0 _ 6 56 Tryz.underlying34 hi0 hz0 hz1 hz2 rfl (by decide) out _ _ (by rfl) ((hown2.alloc _).drew)
                    ⟨w6.heap.size, 0, none⟩ 1 1 (inoA y).toList (by rfl) (by rfl) (World.news_of_block (cs := inoA y) (t := 59) (fr := (0, 0)) (heap_alloc_new w6 _)) (ino_one y)
                    (by omega) hm1 (by omega) (by simp; omega) (w6.heap.size + 1) (by simp) ?_; intro gg cap w7 hown7 hgrow hat hlt7; have hf7 : w7.frozen? ⟨uo, 0, none⟩ = false := (hgrow.frozen_far ⟨uo, 0, none⟩ (by simp; omega) (Ne.symm no)).trans hfa; have hc7 : w7.cell? ⟨uo, 0, none⟩ = some out := (hgrow.cell_far ⟨uo, 0, none⟩ (by simp; omega) (Ne.symm no)).trans o3))
          all_goals
            have hH7 := (hH2.step (((Below.refl w6.heap.size w6).alloc (Nat.le_refl _) (.cells (inoA y) 59)).drew)).grown (B := uo + 1) hgrow (fun q hq => (hown2.lt q hq).1) (by intro p hp; simp at hp; rcases hp with rfl | rfl | rfl <;> (dsimp only; omega)) (by omega)
            have ho7 := (hgrow.block uo (by simp; omega) (Ne.symm no)).trans ho3
            rw [flat_ino] at hown7
            have hown8 := hown7.kept (grownBy_set w7 uo 0 (.slice (some ⟨gg, 0, none⟩) (((g.I.take k).filter fun x => !decide (x.id = id)).length + 1) cap)) (Or.inr fun e => by have := (hown7.lt uo e).1; omega)
            have ho8 := heap_setCell_same w7 uo 0 _ _ (.slice (some ⟨gg, 0, none⟩) (((g.I.take k).filter fun x => !decide (x.id = id)).length + 1) cap) ho7
            go_wp2_with fail
            go_roundg (gk - 1)
            case measure => omega
            case rel => exact ⟨k + 1, _, by go_num, by omega, by omega, ho8, by rw [HS.out, List.length_append]; exact hown8, hH7.set (by intro p hp; simp at hp; rcases hp with rfl | rfl | rfl <;> (dsimp only; omega)) (by omega) _ _⟩
      · have hk2 : (g.I.take k) = g.I := List.take_of_length_le (by omega)
        rw [hk2] at hown
        obtain ⟨L, hL⟩ : ∃ L, L = g.I.filter fun x => !decide (x.id = id) := ⟨_, rfl⟩
        rw [← hL] at hown HR2
        obtain ⟨B, cc, rfl, -⟩ := inos_own rfl hown
        have hown6 := own_set2 hown (b := w.heap.size + 1 + 1) (by omega) (.slice B L.length cc) (.slice A' m d)
        obtain ⟨p1, p2⟩ := inos_in hown6
        have hB6 : Below w.heap.size w ((wr.setCell ⟨w.heap.size + 1 + 1, 0, none⟩ (.slice B L.length cc)).setCell ⟨w.heap.size + 1 + 1, 1, none⟩ (.slice A' m d)) := (hH.below.setCell (by dsimp only; omega) _).setCell (by dsimp only; omega) _
        have HF := Lib.hid (And.intro (And.intro p1 p2) hB6)
        clear hown hown6 p1 p2 hB6 hL hk2
        obtain ⟨o0, o1⟩ := two_cells ho
        obtain ⟨m0, m1⟩ := two_cells (g := w.heap.size + 1 + 1) (hH.at 0 rfl)
        obtain ⟨f0, f1⟩ := two_free (g := w.heap.size + 1 + 1) (hH.at 0 rfl)
        go_wp2_with fail
        exact bodyPost_ret (v := .tuple #[.agg #[.slice B L.length cc, .slice A' m d], .int .i64 0]) (by simp [results, Tryz.results130, go_sem, m0, m1]) rfl ⟨_, by rw [HR2.out], by rw [HR2.out]; exact ⟨B, _, cc, A', m, d, rfl, HF.out.1.1, HF.out.1.2.to, (HE.out.1.below HF.out.2).more HF.out.2.size, HE.out.2.to⟩, HF.out.2⟩

end Go.Proofs.YtdobeghbkonimaaGreatDoor

namespace Go.Proofs.YtdobeghbkonimaaGreatDoor
open Go.RowKit StampMath GraphMath OpMath

def setI (id : St) (mode : Int) (data : ByteArray) (x : Ino) : Ino:=if x.id = id then { x with mode:=mode,data:=data } else x

theorem setG_eq (g : Gr) (id : St) (mode : Int) (data : ByteArray) : setG g id mode data = if (getG g id).isSome = false then (g,3) else (⟨g.I.map (setI id mode data),g.E⟩,0):=by
 unfold setG
 cases h : getG g id with
 | none=>simp
 | some x=>rfl

def setK (id : St) (mode : Int) (data : ByteArray) (I : List Ino) (k : Nat) : List Ino:=(I.take k).map (setI id mode data) ++ I.drop k

theorem setK_zero (id : St) (mode : Int) (data : ByteArray) (I : List Ino) : setK id mode data I 0 = I:=by simp [setK]
theorem setK_all (id : St) (mode : Int) (data : ByteArray) (I : List Ino) (k : Nat) (h : I.length≤k) : setK id mode data I k = I.map (setI id mode data):=by
 unfold setK
 rw [List.take_of_length_le h,List.drop_of_length_le h,List.append_nil]
theorem setK_len (id : St) (mode : Int) (data : ByteArray) (I : List Ino) (k : Nat) : (setK id mode data I k).length = I.length:=by
 unfold setK
 rw [List.length_append,List.length_map,← List.length_append,List.take_append_drop]
theorem setK_at (id : St) (mode : Int) (data : ByteArray) (I : List Ino) (k : Nat) (h : k < I.length) : (setK id mode data I k)[k]? = some I[k]:=by
 unfold setK
 rw [List.getElem?_append_right (by rw [List.length_map,List.length_take]; omega),List.length_map,List.length_take,show k - min k I.length = 0 by omega,List.getElem?_drop,Nat.add_zero]
 exact List.getElem?_eq_getElem h
theorem setK_succ (id : St) (mode : Int) (data : ByteArray) (I : List Ino) (k : Nat) (h : k < I.length) : setK id mode data I (k + 1) = (setK id mode data I k).set k (setI id mode data I[k]):=by
 unfold setK
 rw [List.take_succ_eq_append_getElem h,List.map_append]
 have hl : ((I.take k).map (setI id mode data)).length = k:=by rw [List.length_map,List.length_take]; omega
 rw [List.set_append_right _ _ (by omega),hl,Nat.sub_self,List.drop_eq_getElem_cons h,List.set_cons_zero,List.append_assoc]
 rfl

theorem flat_set (I : List Ino) (k : Nat) (h : k < I.length) (mode : Int) (data : ByteArray) (x : Ino) (hx : I[k] = x) :
  ((flat (I.map inoA)).set (k * 6 + 4) (.int .i64 mode)).set (k * 6 + 5) (.string data) = flat ((I.set k { x with mode:=mode,data:=data }).map inoA):=by
 apply List.ext_getElem?
 intro p
 have hl : (flat (I.map inoA)).length = I.length * 6:=by rw [flat_len ino_sizes,List.length_map]
 have hl2 : (flat ((I.set k { x with mode:=mode,data:=data }).map inoA)).length = I.length * 6:=by rw [flat_len ino_sizes,List.length_map,List.length_set]
 by_cases hp : p < I.length * 6
 ·have hj : p / 6 < I.length:=by omega
  have hi : p % 6 < 6:=Nat.mod_lt _ (by decide)
  have hpe : p = p / 6 * 6 + p % 6:=by omega
  obtain ⟨j,hjd⟩ : ∃ j,j = p / 6:=⟨_,rfl⟩
  obtain ⟨i,hid⟩ : ∃ i,i = p % 6:=⟨_,rfl⟩
  rw [← hjd,← hid] at hpe
  rw [← hjd] at hj
  rw [← hid] at hi
  subst hpe
  have f1:=flat_at (k:=6) (ino_sizes (I:=I)) j (by rw [List.length_map]; exact hj) i hi
  have f2:=flat_at (k:=6) (ino_sizes (I:=I.set k { x with mode:=mode,data:=data })) j (by rw [List.length_map,List.length_set]; exact hj) i hi
  rw [f2]
  rw [List.getElem?_set,List.getElem?_set,f1,List.length_set,hl]
  by_cases hjk : j = k
  ·subst hjk
   have hi6 : i = 0∨i = 1∨i = 2∨i = 3∨i = 4∨i = 5:=by omega
   rcases hi6 with rfl | rfl | rfl | rfl | rfl | rfl <;> simp [inoA,hx] <;> omega
  ·rw [if_neg (by omega),if_neg (by omega)]
   simp [Ne.symm hjk]
 ·rw [List.getElem?_eq_none (by simp; omega),List.getElem?_eq_none (by omega)]

theorem own_write {W : World} {base u : Nat} {n cap : Nat} {I : List Ino} (h : W.ownsRow base 59 6 (.slice (some ⟨u,0,none⟩) n cap) n (flat (I.map inoA))) {k : Nat} (hk : k < I.length) (mode : Int) (data : ByteArray) :
  ((W.setCell ⟨u,k * 6 + 4,none⟩ (.int .i64 mode)).setCell ⟨u,k * 6 + 5,none⟩ (.string data)).ownsRow base 59 6 (.slice (some ⟨u,0,none⟩) n cap) n (flat ((I.set k { I[k] with mode:=mode,data:=data }).map inoA)):=by
 obtain ⟨h1,h2⟩:=h
 rcases h2 with ⟨h0,_⟩ | ⟨g,cap',cur,he,hb,hg,hnc,hcm,hsz,htk⟩
 ·cases h0
 ·injection he with e1 e2 e3
  injection e1 with e1
  injection e1 with e1
  subst e1 e3
  refine ⟨by rw [← flat_set I k hk mode data I[k] rfl,List.length_set,List.length_set]; exact h1,Or.inr ⟨u,cap,_,rfl,hb,heap_setCell_same _ _ _ _ _ _ (heap_setCell_same _ _ _ _ _ _ hg),hnc,hcm,by simp [hsz],?_⟩⟩
  rw [← flat_set I k hk mode data I[k] rfl,← htk,Array.toList_setIfInBounds,Array.toList_setIfInBounds]
  rw [List.take_set,List.take_set]

end Go.Proofs.YtdobeghbkonimaaGreatDoor
