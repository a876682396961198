/-
 The walk of the document's own Set (graphs).
-/
import Derived.Test.YtnnnkaobhkeocaaGreatDoorZX06
import Derived.Test.YtnnnkaobhkeocaaGreatDoorZ04
import Derived.Deep.DeepCutAuto
namespace Go.Proofs.YtnnnkaobhkeocaaGreatDoor
open Go.RowKit StampMath GraphMath OpMath
theorem own_row{W:World}{base u:Nat}{n cap:Nat}{I:List Ino}(h:W.ownsRow base 102 6 (.slice (some ⟨u,0,none⟩) n cap) n (flat (I.map inoA))){k:Nat}(hk:k<I.length):
  W.cell? ⟨u,k*6,none⟩=some (.int .i64 I[k].id.1)/\W.cell? ⟨u,k*6+1,none⟩=some (.int .i64 I[k].id.2)/\W.cell? ⟨u,k*6+2,none⟩=some (.int .i64 I[k].kind)/\W.cell? ⟨u,k*6+3,none⟩=some (.int .i64 I[k].links)/\W.cell? ⟨u,k*6+4,none⟩=some (.int .i64 I[k].mode)/\W.cell? ⟨u,k*6+5,none⟩=some (.string I[k].data)/\
   W.frozen? ⟨u,k*6+4,none⟩=false/\W.frozen? ⟨u,k*6+5,none⟩=false:=by
 have hn:I.length=n:=by
  have:=h.1;rw[flat_len ino_sizes,List.length_map] at this;omega
 obtain⟨A,c',he,hI,_⟩:=inos_own hn h
 injection he with he1 _ he2
 subst he1;obtain⟨g',o',ho,_,hr⟩:=hI.row (by omega)
 injection ho with ho
 injection ho with ho1 ho2
 subst ho1 ho2;obtain⟨r0,r1,r2,r3,r4,r5⟩:=hr k hk;rw[Nat.zero_add] at r0 r1 r2 r3 r4 r5;have hheap:∃cur,W.heap[u]?=some (.cells cur 102 (0,0)):=by
  rcases h.2 with ⟨q,_⟩|⟨g,_,cur,q,_,hg,_⟩
  ·cases q
  ·injection q with q1
   injection q1 with q1
   injection q1 with q1
   subst q1;exact⟨cur,hg⟩
 obtain⟨cur,hcur⟩:=hheap;exact⟨r0,r1,r2,r3,r4,r5,frozen_of_row _ _ _ _ _ hcur,frozen_of_row _ _ _ _ _ hcur⟩
theorem own_put2{W:World}{base:Nat}{e:TypeId}{k:Nat}{v:Value}{n:Nat}{xs:List Value}(h:W.ownsRow base e k v n xs){b:Nat}(hb:v.ownBlock≠some b)(x y:Value):((W.setCell ⟨b,0,none⟩ x).setCell ⟨b,1,none⟩ y).ownsRow base e k v n xs:=
 (h.kept (grownBy_set W b 0 x) (Or.inr hb)).kept (grownBy_set _ b 1 y) (Or.inr hb)
set_option maxRecDepth 100000 in
set_option maxHeartbeats 6400000 in
theorem refSet(N:Nat->Prop)(v:Value)(g:Gr)(id:St)(mode:Int)(data:ByteArray)(h0:0<g.I.length)(hn:g.I.length<=1000)(hm:g.E.length<=1000)(w:World)(hv:GrAt N w v g):
    Calls Tryz.prog 141 #[v,.agg (stA id),.int .i64 mode,.string data] w (GrPost N (setG g id mode data) w):=by
  obtain⟨i0,hi0,hz0,hz1,hz2⟩:=info_parts ino_infos;have HV:=Lib.hid hv;obtain⟨A,n,c,A',m,d,rfl,hI,hc1,hE,hc2⟩:=hv;have hl':=hI.len;obtain⟨x,hx⟩:∃x,x=(getG g id).getD noIno:=⟨_,rfl⟩;obtain⟨is,his⟩:∃is,is=(getG g id).isSome:=⟨_,rfl⟩;have HG:Hid (∀W:World,Below w.heap.size w W->Calls Tryz.prog 80 #[.agg #[.slice A n c,.slice A' m d],.agg #[.int .i64 id.1,.int .i64 id.2]] W fun z w'=>z=.returned (.tuple #[.agg #[.int .i64 x.id.1,.int .i64 x.id.2,.int .i64 x.kind,.int .i64 x.links,.int .i64 x.mode,.string x.data],.bool is])/\Below W.heap.size W w'):=fun W hW=>by
    rw[hx,his];exact refGet A A' n c m d g id (by have:=hI.len;omega) (by have:=hE.len;omega) W ((hI.below hW).more hW.size) ((hE.below hW).more hW.size)
  obtain⟨R,hR⟩:∃R,R=setG g id mode data:=⟨_,rfl⟩;have hset:=setG_eq g id mode data;rw[<-hR,<-his] at hset;rw[<-hR];have HI:Hid (InosIn w w.heap.size A n g.I):=hI;have HE:Hid (EntsIn w w.heap.size A' m g.E/\Cap N A' m d):=⟨hE,hc2⟩;have HR:=Lib.hid hset;clear hI hE hc1 hc2 hx his hR hset;have hb0:Held w [(w.heap.size+1+1,.cells #[.slice none 0 0,.slice none 0 0] 31),(w.heap.size+1,.cells (stA id) 24),(w.heap.size,.cells #[.slice A n c,.slice A' m d] 31)]
    (((w.alloc (.cells #[.slice A n c,.slice A' m d] 31)).alloc (.cells (stA id) 24)).alloc (.cells #[.slice none 0 0,.slice none 0 0] 31)):=
    (((Held.refl w).alloc (.cells #[.slice A n c,.slice A' m d] 31) rfl).alloc (.cells (stA id) 24) (by simp)).alloc (.cells #[.slice none 0 0,.slice none 0 0] 31) (by simp)
  unfold stA
  go_enter Tryz.func141,Tryz.ntmps141
  go_upto_region 1 with fail
  change Code.wp _ _ _ _ (((w.alloc (.cells #[.slice A n c,.slice A' m d] 31)).alloc (.cells (stA id) 24)).alloc (.cells #[.slice none 0 0,.slice none 0 0] 31));generalize ((w.alloc (.cells #[.slice A n c,.slice A' m d] 31)).alloc (.cells (stA id) 24)).alloc (.cells #[.slice none 0 0,.slice none 0 0] 31)=w0 at hb0 ⊢;obtain⟨c1,c2⟩:=two_cells (g:=w.heap.size) (hb0.at 2 rfl);obtain⟨e0,e1⟩:=two_cells (g:=w.heap.size+1) (hb0.at 1 rfl)
  go_wp2_with fail
  refine(HG.out _ hb0.below).mono ?_;rintro z w2 ⟨rfl,hb2⟩;have hH2:=hb0.step hb2;clear hb0 hb2 c1 c2 e0 e1
  go_upto_region 2 with fail
  change Code.wp _ _ _ _ (w2.alloc (.cells (inoA x) 102));obtain⟨ux,hux⟩:∃u,u=w2.heap.size:=⟨_,rfl⟩;have hH3:=(hH2.alloc (.cells (inoA x) 102) rfl).tail;rw[<-hux];generalize w2.alloc (.cells (inoA x) 102)=w3 at hH3 ⊢;clear hH2 hux;obtain⟨c1,c2⟩:=two_cells (g:=w.heap.size) (hH3.at 2 rfl)
  cases is
  · have HR1:Hid (R=(g,3)):=HR.out.trans (if_pos rfl)
    clear HR;obtain⟨m0,m1⟩:=two_cells (g:=w.heap.size+1+1) (hH3.at 0 rfl);obtain⟨f0,f1⟩:=two_free (g:=w.heap.size+1+1) (hH3.at 0 rfl)
    go_wp2_with fail
    exact bodyPost_ret (v:=.tuple #[.agg #[.slice A n c,.slice A' m d],.int .i64 3]) (by simp[results,Tryz.results141,go_sem,m0,m1]) rfl ⟨_,by rw[HR1.out],by rw[HR1.out];exact HV.out.step ((hH3.below.setCell (by dsimp only;omega) _).setCell (by dsimp only;omega) _),(hH3.below.setCell (by dsimp only;omega) _).setCell (by dsimp only;omega) _⟩
  have HR2:Hid (R=(⟨g.I.map (setI id mode data),g.E⟩,0)):=HR.out.trans (if_neg (by decide));clear HR HV;obtain⟨gi,o,rfl,hg,_⟩:=HI.out.row (by omega);have ls:w.heap.size+1+1<w3.heap.size:=heap_lt (hH3.at 0 rfl)
  go_upto_region 4 with fail
  go_cut [12] (fun p wx=>∃uo gg cap,p=.pointer (some ⟨uo,0,none⟩)/\wx.heap[uo]?=some (.cells #[.slice (some ⟨gg,0,none⟩) n cap,.slice A' m d] 31 (0,0))/\wx.ownsRow (w.heap.size+3) 102 6 (.slice (some ⟨gg,0,none⟩) n cap) n (flat (g.I.map inoA))/\gg≠uo/\w.heap.size+3<=uo/\
    Held w [(w.heap.size+1+1,.cells #[.slice none 0 0,.slice none 0 0] 31),(w.heap.size+1,.cells (stA id) 24),(w.heap.size,.cells #[.slice (some ⟨gi,o,none⟩) n c,.slice A' m d] 31)] wx)
  case first=>
    have hHa:=(hH3.step ((Below.refl w3.heap.size w3).alloc (Nat.le_refl _) (.cells #[] 102))).drew;have hHz:=(hH3.step ((Below.refl w3.heap.size w3).alloc (Nat.le_refl _) (.cells #[.slice none 0 0,.slice none 0 0] 31))).drew;have hHb:=((hH3.step ((Below.refl w3.heap.size w3).alloc (Nat.le_refl _) (.cells #[.slice none 0 0,.slice none 0 0] 31))).step ((Below.refl _ _).alloc (Nat.le_refl _) (.cells #[] 102))).drew;have hHc:=((hH3.step ((Below.refl w3.heap.size w3).alloc (Nat.le_refl _) (.cells #[] 102))).step ((Below.refl _ _).alloc (Nat.le_refl _) (.cells #[.slice none 0 0,.slice none 0 0] 31))).drew;obtain⟨a1,a2⟩:=two_cells (g:=w.heap.size) (hHa.at 2 rfl);obtain⟨z1,z2⟩:=two_cells (g:=w.heap.size) (hHz.at 2 rfl);obtain⟨b1,b2⟩:=two_cells (g:=w.heap.size) (hHb.at 2 rfl);obtain⟨d1,d2⟩:=two_cells (g:=w.heap.size) (hHc.at 2 rfl);have hnews:∀W:World,Below w.heap.size w W->∀j u,(flat (g.I.map inoA))[j]?=some u->W.cell? (Addr.add ⟨gi,o,none⟩ j)=some u:=fun W hW j u hu=>by
      obtain⟨jj,i',hj,rfl,hv⟩:=flat_out ino_sizes hu;obtain⟨g',o',e',_,hc⟩:=(HI.out.below hW).2 (by omega)
      injection e' with e'
      injection e' with e1 e2
      subst e1 e2;rw[tab_add,<-Nat.add_assoc];exact hc jj hj i' u hv
    have hlen:(flat (g.I.map inoA)).length=n*6:=by rw[flat_len ino_sizes,List.length_map,hl']
    have hones:=flat_cells (ino_ones (I:=g.I));have hmx:0+n<=maxLen:=by unfold maxLen;omega
    have oa:((w3.alloc (.cells #[] 102)).drew).ownsRow (w.heap.size+3) 102 6 (.slice (some ⟨w3.heap.size,0,none⟩) 0 0) 0 (flat []):=own_empty w3 (w.heap.size+3) 102 6 (by omega);have ob:(((w3.alloc (.cells #[.slice none 0 0,.slice none 0 0] 31)).alloc (.cells #[] 102)).drew).ownsRow (w.heap.size+3) 102 6 (.slice (some ⟨w3.heap.size+1,0,none⟩) 0 0) 0 (flat []):=by
      have h:=own_empty (w3.alloc (.cells #[.slice none 0 0,.slice none 0 0] 31)) (w.heap.size+3) 102 6 (by simp;omega);rw[World.size_alloc] at h;exact h
    have oc:(((w3.alloc (.cells #[] 102)).alloc (.cells #[.slice none 0 0,.slice none 0 0] 31)).drew).ownsRow (w.heap.size+3) 102 6 (.slice (some ⟨w3.heap.size,0,none⟩) 0 0) 0 (flat []):=(own_empty w3 (w.heap.size+3) 102 6 (by omega)).alloc _;have ub:(((w3.alloc (.cells #[.slice none 0 0,.slice none 0 0] 31)).alloc (.cells #[] 102)).drew).heap[w3.heap.size]?=some (.cells #[.slice none 0 0,.slice none 0 0] 31 (0,0)):=(heap_alloc_old _ _ (by simp)).trans (heap_alloc_new w3 _);have uc:(((w3.alloc (.cells #[] 102)).alloc (.cells #[.slice none 0 0,.slice none 0 0] 31)).drew).heap[w3.heap.size+1]?=some (.cells #[.slice none 0 0,.slice none 0 0] 31 (0,0)):=by
      have h:=heap_alloc_new (w3.alloc (.cells #[] 102)) (.cells #[.slice none 0 0,.slice none 0 0] 31);rw[World.size_alloc] at h;exact h
    have HN:=Lib.hid hnews;clear hnews
    go_region_law
      (first
        | ((refine step_append_lies _ (by rfl) (.tmp 23) (.tmp 25) _ (by rfl) (w.heap.size+3) 102 i0 _ 6 56 Tryz.underlying28 hi0 hz0 hz1 hz2 rfl (by decide) _ 0 (flat []) (by rfl) oa
              ⟨gi,o,none⟩ n c (flat (g.I.map inoA)) (by rfl) hlen (HN.out _ hHa.below) hones (by omega) hmx (by omega) (by simp;omega) (w3.heap.size+1) (by simp) ?_;intro gg cap w7 hown7 hgrow hat hlt7;have hH7:=hHa.grown (B:=w.heap.size+3) hgrow (fun q hq=>(oa.lt q hq).1) (by intro p hp;simp at hp;rcases hp with rfl|rfl|rfl<;>(dsimp only;omega)) (by omega);have e7:=(two_cells (g:=w.heap.size) (hH7.at 2 rfl)).2;have e7a:(w7.alloc (.cells #[.slice none 0 0,.slice none 0 0] 31)).cell? ⟨w.heap.size,1,none⟩=some (.slice A' m d):=(two_cells (g:=w.heap.size) ((hH7.alloc (.cells #[.slice none 0 0,.slice none 0 0] 31) rfl).at 3 rfl)).2))
        | ((refine step_append_lies _ (by rfl) (.tmp 23) (.tmp 25) _ (by rfl) (w.heap.size+3) 102 i0 _ 6 56 Tryz.underlying28 hi0 hz0 hz1 hz2 rfl (by decide) _ 0 (flat []) (by rfl) ob
              ⟨gi,o,none⟩ n c (flat (g.I.map inoA)) (by rfl) hlen (HN.out _ hHb.below) hones (by omega) hmx (by omega) (by simp;omega) (w3.heap.size+2) (by simp) ?_;intro gg cap w7 hown7 hgrow hat hlt7;have hH7:=hHb.grown (B:=w.heap.size+3) hgrow (fun q hq=>(ob.lt q hq).1) (by intro p hp;simp at hp;rcases hp with rfl|rfl|rfl<;>(dsimp only;omega)) (by omega);have e7:=(two_cells (g:=w.heap.size) (hH7.at 2 rfl)).2;have ho7:w7.heap[w3.heap.size]?=some (.cells #[.slice none 0 0,.slice none 0 0] 31 (0,0)):=(hgrow.block (w3.heap.size) (by simp;try omega) (by intro q;simp[Value.ownBlock] at q;try omega)).trans ub;have x7:=two_cells ho7;have y7:=two_free ho7;obtain⟨x70,x71⟩:=x7;obtain⟨y70,y71⟩:=y7))
        | ((refine step_append_lies _ (by rfl) (.tmp 23) (.tmp 25) _ (by rfl) (w.heap.size+3) 102 i0 _ 6 56 Tryz.underlying28 hi0 hz0 hz1 hz2 rfl (by decide) _ 0 (flat []) (by rfl) oc
              ⟨gi,o,none⟩ n c (flat (g.I.map inoA)) (by rfl) hlen (HN.out _ hHc.below) hones (by omega) hmx (by omega) (by simp;omega) (w3.heap.size+2) (by simp) ?_;intro gg cap w7 hown7 hgrow hat hlt7;have hH7:=hHc.grown (B:=w.heap.size+3) hgrow (fun q hq=>(oc.lt q hq).1) (by intro p hp;simp at hp;rcases hp with rfl|rfl|rfl<;>(dsimp only;omega)) (by omega);have e7:=(two_cells (g:=w.heap.size) (hH7.at 2 rfl)).2;have ho7:w7.heap[w3.heap.size+1]?=some (.cells #[.slice none 0 0,.slice none 0 0] 31 (0,0)):=(hgrow.block (w3.heap.size+1) (by simp;try omega) (by intro q;simp[Value.ownBlock] at q;try omega)).trans uc;have x7:=two_cells ho7;have y7:=two_free ho7;obtain⟨x70,x71⟩:=x7;obtain⟨y70,y71⟩:=y7)))
    all_goals
      have hown8:w7.ownsRow (w.heap.size+3) 102 6 (.slice (some ⟨gg,0,none⟩) n cap) n (flat (g.I.map inoA)):=by
        have h:=hown7;rw[Nat.zero_add,flat_nil,List.nil_append] at h;exact h
      have l7:=heap_lt (hH7.at 0 rfl);dsimp only at l7
      go_wp2_with fail
      go_meet
      case rel=>
        first
          |exact⟨_,_,_,rfl,heap_alloc_new w7 _,hown8.alloc _,by omega,by omega,(hH7.alloc _ rfl).tail⟩
          |exact⟨_,_,_,rfl,heap_alloc_new w7 _,hown8.alloc _,by omega,by omega,(hH7.alloc _ rfl).tail.drew⟩
          |exact⟨_,_,_,rfl,box_set ho7,own_put2 hown8 (by rcases hat with h|h;(simp[Value.ownBlock] at h;simp[Value.ownBlock];omega);(simp[Value.ownBlock];omega)) _ _,by rcases hat with h|h;(simp[Value.ownBlock] at h;omega);omega,by omega,((hH7.set (b:=w3.heap.size) (by intro p hp;simp at hp;rcases hp with rfl|rfl|rfl<;>(dsimp only;omega)) (by omega) 0 _).set (b:=w3.heap.size) (by intro p hp;simp at hp;rcases hp with rfl|rfl|rfl<;>(dsimp only;omega)) (by omega) 1 _)⟩
          |exact⟨_,_,_,rfl,box_set ho7,own_put2 hown8 (by rcases hat with h|h;(simp[Value.ownBlock] at h;simp[Value.ownBlock];omega);(simp[Value.ownBlock];omega)) _ _,by rcases hat with h|h;(simp[Value.ownBlock] at h;omega);omega,by omega,((hH7.set (b:=w3.heap.size) (by intro p hp;simp at hp;rcases hp with rfl|rfl|rfl<;>(dsimp only;omega)) (by omega) 0 _).set (b:=w3.heap.size) (by intro p hp;simp at hp;rcases hp with rfl|rfl|rfl<;>(dsimp only;omega)) (by omega) 1 _).drew⟩
          |exact⟨_,_,_,rfl,box_set ho7,own_put2 hown8 (by rcases hat with h|h;(simp[Value.ownBlock] at h;simp[Value.ownBlock];omega);(simp[Value.ownBlock];omega)) _ _,by rcases hat with h|h;(simp[Value.ownBlock] at h;omega);omega,by omega,((hH7.set (b:=w3.heap.size+1) (by intro p hp;simp at hp;rcases hp with rfl|rfl|rfl<;>(dsimp only;omega)) (by omega) 0 _).set (b:=w3.heap.size+1) (by intro p hp;simp at hp;rcases hp with rfl|rfl|rfl<;>(dsimp only;omega)) (by omega) 1 _)⟩
          |exact⟨_,_,_,rfl,box_set ho7,own_put2 hown8 (by rcases hat with h|h;(simp[Value.ownBlock] at h;simp[Value.ownBlock];omega);(simp[Value.ownBlock];omega)) _ _,by rcases hat with h|h;(simp[Value.ownBlock] at h;omega);omega,by omega,((hH7.set (b:=w3.heap.size+1) (by intro p hp;simp at hp;rcases hp with rfl|rfl|rfl<;>(dsimp only;omega)) (by omega) 0 _).set (b:=w3.heap.size+1) (by intro p hp;simp at hp;rcases hp with rfl|rfl|rfl<;>(dsimp only;omega)) (by omega) 1 _).drew⟩
  case rest=>
    obtain⟨uo,gg,cap,rfl,huo,hown,hne,hge,hH⟩:=hcut;clear hH3 c1 c2
    go_wp2_with fail
    go_loopg [13] (n+1) (fun gk i wr=>∃k:Nat,i=.int .i64 (k:Int)/\gk+k=n+1/\k<=n/\wr.heap[uo]?=some (.cells #[.slice (some ⟨gg,0,none⟩) n cap,.slice A' m d] 31 (0,0))/\wr.ownsRow (w.heap.size+3) 102 6 (.slice (some ⟨gg,0,none⟩) n cap) n (flat ((setK id mode data g.I k).map inoA))/\
      Held w [(w.heap.size+1+1,.cells #[.slice none 0 0,.slice none 0 0] 31),(w.heap.size+1,.cells (stA id) 24),(w.heap.size,.cells #[.slice (some ⟨gi,o,none⟩) n c,.slice A' m d] 31)] wr)
    case atStart=>exact⟨0,rfl,by omega,by omega,huo,by rw[setK_zero];exact hown,hH⟩
    case round=>
      obtain⟨k,rfl,hgk,hk,hu,hrow,hHr⟩:=hrel;clear huo hown hH;obtain⟨e0,e1⟩:=two_cells (g:=w.heap.size+1) (hHr.at 1 rfl);obtain⟨o0,o1⟩:=two_cells hu;by_cases hlt:k<n
      · have hlk:k<(setK id mode data g.I k).length:=by rw[setK_len];omega
        have hat:=setK_at id mode data g.I k (by omega);have hat2:(setK id mode data g.I k)[k]=g.I[k]:=by
          rw[List.getElem?_eq_getElem hlk] at hat;exact Option.some.inj hat
        have hsucc:=setK_succ id mode data g.I k (by omega);have hcells:=fun(W:World)(h:W.ownsRow (w.heap.size+3) 102 6 (.slice (some ⟨gg,0,none⟩) n cap) n (flat ((setK id mode data g.I k).map inoA)))=>own_row h hlk;rw[hat2] at hcells;have hwrite:=fun(W:World)(h:W.ownsRow (w.heap.size+3) 102 6 (.slice (some ⟨gg,0,none⟩) n cap) n (flat ((setK id mode data g.I k).map inoA)))=>own_write h hlk mode data;obtain⟨y,hy⟩:∃y,g.I[k]=y:=⟨_,rfl⟩;simp only[hat2] at hwrite;rw[hy] at hsucc hcells hwrite;have HC:=Lib.hid hcells;have HWr:=Lib.hid hwrite;have HY:=Lib.hid hy;clear hcells hwrite hat hat2 hy hlk;obtain⟨p0,p1,_,_,_,_,_,_⟩:=HC.out wr hrow;by_cases hq:y.id=id
        · have hv:=eqSt_yes hq
          have hS:Hid (setK id mode data g.I (k+1)=(setK id mode data g.I k).set k {y with mode:=mode,data:=data}):=by
            show _=_;rw[hsucc];unfold setI;rw[if_pos hq]
          clear hsucc
          go_wp2_with fail
          go_quiet (fail)
          have hH2:=hHr.drewN nq;have hrow2:(wr.drewN nq).ownsRow (w.heap.size+3) 102 6 (.slice (some ⟨gg,0,none⟩) n cap) n (flat ((setK id mode data g.I k).map inoA)):=hrow;have hu2:(wr.drewN nq).heap[uo]?=some (.cells #[.slice (some ⟨gg,0,none⟩) n cap,.slice A' m d] 31 (0,0)):=hu;generalize wr.drewN nq=w6 at hH2 hrow2 hu2 ⊢;clear e0 e1 o0 o1 p0 p1 hHr hrow hu hv hq;obtain⟨o0,o1⟩:=two_cells hu2;obtain⟨p0,p1,p2,p3,p4,p5,f4,f5⟩:=HC.out w6 hrow2;have hne2:¬uo=gg:=fun q=>hne q.symm
          go_wp2_with fail
          go_roundg (gk-1)
          case measure=>omega
          case rel=>
            refine⟨k+1,by go_num,by omega,by omega,?_,by rw[hS.out];exact HWr.out w6 hrow2,(hH2.set (b:=gg) ?_ ?_ _ _).set (b:=gg) ?_ ?_ _ _⟩
            · exact(heap_setCell_other _ _ _ _ (by dsimp only;omega)).trans ((heap_setCell_other _ _ _ _ (by dsimp only;omega)).trans hu2)
            all_goals have hgg:=(hrow2.lt gg rfl).1
            all_goals first|omega|(intro p hp;simp at hp;rcases hp with rfl|rfl|rfl<;>(dsimp only;omega))
        · have hv:=eqSt_no hq
          have hS:Hid (flat ((setK id mode data g.I (k+1)).map inoA)=flat ((setK id mode data g.I k).map inoA)):=by
            show _=_;rw[hsucc];unfold setI;rw[if_neg hq]
            congr 2
            apply List.ext_getElem?;intro j;rw[List.getElem?_set];by_cases hjk:k=j
            · subst hjk
              rw[if_pos rfl];have h1:=setK_at id mode data g.I k (by omega);rw[if_pos (by rw[setK_len];omega),h1];exact congrArg some HY.out.symm
            · rw[if_neg hjk]
          clear hsucc
          go_wp2_with fail
          go_quiet (fail)
          go_wp2_with fail
          go_roundg (gk-1)
          case measure=>omega
          case rel=>exact⟨k+1,by go_num,by omega,by omega,hu,by rw[hS.out];exact hrow,hHr.drewN _⟩
      · rw[setK_all id mode data g.I k (by omega)] at hrow
        have hll:n=(g.I.map (setI id mode data)).length:=by rw[List.length_map];exact hl'.symm
        obtain⟨L,hL⟩:∃L,L=g.I.map (setI id mode data):=⟨_,rfl⟩;rw[<-hL] at hrow HR2 hll;have hown6:=own_set2 hrow (b:=w.heap.size+1+1) (by omega) (.slice (some ⟨gg,0,none⟩) n cap) (.slice A' m d);have hB6:Below w.heap.size w ((wr.setCell ⟨w.heap.size+1+1,0,none⟩ (.slice (some ⟨gg,0,none⟩) n cap)).setCell ⟨w.heap.size+1+1,1,none⟩ (.slice A' m d)):=(hHr.below.setCell (by dsimp only;omega) _).setCell (by dsimp only;omega) _;have hF:InosIn ((wr.setCell ⟨w.heap.size+1+1,0,none⟩ (.slice (some ⟨gg,0,none⟩) n cap)).setCell ⟨w.heap.size+1+1,1,none⟩ (.slice A' m d)) ((wr.setCell ⟨w.heap.size+1+1,0,none⟩ (.slice (some ⟨gg,0,none⟩) n cap)).setCell ⟨w.heap.size+1+1,1,none⟩ (.slice A' m d)).heap.size (some ⟨gg,0,none⟩) n L/\Cap (fun i=>w.heap.size+3<=i) (some ⟨gg,0,none⟩) n cap:=by
          have h:=hown6;rw[hll] at h;have q:=inos_in h;rw[<-hll] at q;exact q
        have HF:=Lib.hid (And.intro hF hB6);clear hown6 hF hB6 hL hll hrow;obtain⟨m0,m1⟩:=two_cells (g:=w.heap.size+1+1) (hHr.at 0 rfl);obtain⟨f0,f1⟩:=two_free (g:=w.heap.size+1+1) (hHr.at 0 rfl)
        go_wp2_with fail
        exact bodyPost_ret (v:=.tuple #[.agg #[.slice (some ⟨gg,0,none⟩) n cap,.slice A' m d],.int .i64 0]) (by simp[results,Tryz.results141,go_sem,m0,m1]) rfl ⟨_,by rw[HR2.out],by rw[HR2.out];exact⟨some ⟨gg,0,none⟩,n,cap,A',m,d,rfl,HF.out.1.1,HF.out.1.2.to,(HE.out.1.below HF.out.2).more HF.out.2.size,HE.out.2.to⟩,HF.out.2⟩
end Go.Proofs.YtnnnkaobhkeocaaGreatDoor
