/-
 The landed log: what is asked of it; an operation done behind all others.
-/
import Derived.Test.YtnnnkaobhkeocaaGreatDoorZ11
import Derived.Test.YtnnnkaobhkeocaaGreatDoorZ12
import Derived.Test.YtnnnkaobhkeocaaGreatDoorZ01
import Derived.Deep.LoopGhost
import Derived.Deep.QuietTactic
import Derived.BigQuiet
import Derived.Deep.RegionHeld3
import Derived.Deep.RegionLaw
import Derived.Deep.AppendLies
import Derived.Deep.Cut
import Derived.Deep.DeepCutAuto
import Derived.StillTailTactics
namespace Go.Proofs.YtnnnkaobhkeocaaGreatDoor
open Go.RowKit StampMath GraphMath OpMath PackMath
theorem tab_but{S:Nat->Prop}{W W':World}(T:Tab W)(h:But S W W')(hS:¬S 0):Tab W':=
 ⟨Lib.hid fun i _ hx=>(h.cell (p:=⟨0,i,none⟩) (T.at i hx) hS)⟩
set_option maxRecDepth 100000 in
set_option maxHeartbeats 1600000 in
theorem above_code(g:Nat)(p q:Value)(fl:St)(ov rv:Value)(s:St)(W:World)(h:W.heap[g]?=some (.cells #[p,q,.int .i64 fl.1,.int .i64 fl.2,ov,rv] 76 (0,0))):
  Calls Tryz.prog 37 #[.pointer (some ⟨g,0,none⟩),.agg (stA s)] W fun e w'=>e=.returned (.bool (lessS fl s))/\Below W.heap.size W w':=by
 obtain⟨u,hu⟩:∃u,u=W.heap.size:=⟨_,rfl⟩;have H0:Hid (Held W [(u,.cells #[.int .i64 s.1,.int .i64 s.2] 24)] (W.alloc (.cells #[.int .i64 s.1,.int .i64 s.2] 24))):=Lib.hid ((Held.refl W).alloc _ hu.symm);have hlt:=heap_lt h;obtain⟨v,hv⟩:∃v,v=cmp s.1 s.2 fl.1 fl.2:=⟨_,rfl⟩;have hq:lessS fl s=decide (0<v):=by rw[hv];exact(cmp_gt s fl).symm
 have HL:Hid (∀W y,Calls Tryz.prog 25 #[.agg #[.int .i64 s.1,.int .i64 s.2],.agg #[.int .i64 fl.1,.int .i64 fl.2]] (later W y) fun e w'=>e=.returned (.int .i64 v)/\∃z,w'=later W z):=Lib.hid fun W y=>later_call (by rw[hv];exact(compare_grown _ _ _ _ _).mono fun _ _ h=>⟨h.1,h.2.1⟩);rw[hq];obtain⟨b,hb⟩:∃b:Bool,b=decide (0<v):=⟨_,rfl⟩;rw[<-hb];have hb':=hb.symm;have HB:=Lib.hid h;clear hq hv hb h;unfold stA
 go_enter Tryz.func37,Tryz.ntmps37
 go_upto_region 1 with fail
 rw[<-hu];change Code.wp _ _ _ _ (W.alloc (.cells #[.int .i64 s.1,.int .i64 s.2] 24));generalize W.alloc (.cells #[.int .i64 s.1,.int .i64 s.2] 24)=W1 at H0 ⊢;clear hu;obtain⟨s0,s1⟩:=two_cells (H0.out.at 0 rfl);obtain⟨-,-,d2,d3,-,-⟩:=six_cells ((H0.out.below.block g hlt).trans HB.out);have m0:=later_cell s0;have m1:=later_cell s1;have q2:=later_cell d2;have q3:=later_cell d3;clear s0 s1 d2 d3 HB hlt;refine wp_region_later (by kernel_rfl) (by kernel_rfl) ?_
 repeat(go_big_quiet_step (first|(with_reducible exact HL.out _ _)))
 refine wpQuiet_nil ?_;intro _ hw';obtain⟨y,rfl⟩:=hw';have HE:=Lib.hid (below_step H0.out.below (later_below W1 y));clear m0 m1 q2 q3 HL H0
 go_wp2_with fail
 go_ret
 exact⟨by first|rfl|rw[hb'],HE.out⟩
section
variable {H:GraphHave}{W W':World}{g:Nat}{b c:Addr}{fl:St}{Sb Sa R:Nat->Prop}{B γ:Gr}{ov:Value}{L:List Opn}{rv:Value}{rs:List Rec}
theorem LogSt.above(h:LogSt H W g b c fl Sb Sa R B γ ov L rv rs)(s:St):
  Calls Tryz.prog 37 #[.pointer (some ⟨g,0,none⟩),.agg (stA s)] W fun e w'=>e=.returned (.bool (lessS fl s))/\Below W.heap.size W w':=
 above_code g _ _ fl _ _ s W h.box
def Turned(g:Nat)(Sb Sa R:Nat->Prop)(ov rv:Value)(W:World)(Sb' Sa' R':Nat->Prop)(ov' rv':Value)(w':World):Prop:=
 (∀i,Own5 g Sb' Sa' ov' rv' i->Own5 g Sb Sa ov rv i\/W.heap.size<=i)/\(∀i,R' i->R i\/W.heap.size<=i)/\But (Own5 g Sb Sa ov rv) W w'
theorem Turned.refl:Turned g Sb Sa R ov rv W Sb Sa R ov rv W:=⟨fun _ h=>.inl h,fun _ h=>.inl h,But.refl _ _⟩
theorem Turned.trans{Sb1 Sa1 R1:Nat->Prop}{ov1 rv1:Value}{w1:World}{Sb2 Sa2 R2:Nat->Prop}{ov2 rv2:Value}{w2:World}(h:Turned g Sb Sa R ov rv W Sb1 Sa1 R1 ov1 rv1 w1)(k:Turned g Sb1 Sa1 R1 ov1 rv1 w1 Sb2 Sa2 R2 ov2 rv2 w2):Turned g Sb Sa R ov rv W Sb2 Sa2 R2 ov2 rv2 w2:=by
 obtain⟨h1,h2,h3⟩:=h;obtain⟨k1,k2,k3⟩:=k;refine⟨fun i hi=>?_,fun i hi=>?_,h3.trans k3 fun i hi hl=>?_⟩
 ·rcases k1 i hi with q|q
  ·exact h1 i q
  ·exact .inr (Nat.le_trans h3.size q)
 ·rcases k2 i hi with q|q
  ·exact h2 i q
  ·exact .inr (Nat.le_trans h3.size q)
 ·rcases h1 i hi with q|q
  ·exact q
  ·omega
theorem Turned.step{Sb1 Sa1 R1:Nat->Prop}{ov1 rv1:Value}{w1 w2:World}(h:Turned g Sb Sa R ov rv W Sb1 Sa1 R1 ov1 rv1 w1)(k:Below w1.heap.size w1 w2):Turned g Sb Sa R ov rv W Sb1 Sa1 R1 ov1 rv1 w2:=
 h.trans ⟨fun _ h=>.inl h,fun _ h=>.inl h,But.of_below k⟩
theorem turned_box:But (fun i=>i=g) W W'->Turned g Sb Sa R ov rv W Sb Sa R ov rv W':=fun h=>⟨fun _ h=>.inl h,fun _ h=>.inl h,h.mono fun _ e=>.inl e⟩
theorem turned_ops{ov':Value}(h:But (fun i=>ov.ownBlock=some i) W W')(hat:∀i,ov'.ownBlock=some i->ov.ownBlock=some i\/W.heap.size<=i):Turned g Sb Sa R ov rv W Sb Sa R ov' rv W':=by
 refine⟨fun i hi=>?_,fun _ h=>.inl h,h.mono fun _ e=>.inr (.inr (.inr (.inl e)))⟩;rcases hi with q|q|q|q|q
 ·exact .inl (.inl q)
 ·exact .inl (.inr (.inl q))
 ·exact .inl (.inr (.inr (.inl q)))
 ·exact(hat i q).imp (fun r=>.inr (.inr (.inr (.inl r)))) id
 ·exact .inl (.inr (.inr (.inr (.inr q))))
theorem turned_recs{rv':Value}(h:But (fun i=>rv.ownBlock=some i) W W')(hat:∀i,rv'.ownBlock=some i->rv.ownBlock=some i\/W.heap.size<=i):Turned g Sb Sa R ov rv W Sb Sa R ov rv' W':=by
 refine⟨fun i hi=>?_,fun _ h=>.inl h,h.mono fun _ e=>.inr (.inr (.inr (.inr e)))⟩;rcases hi with q|q|q|q|q
 ·exact .inl (.inl q)
 ·exact .inl (.inr (.inl q))
 ·exact .inl (.inr (.inr (.inl q)))
 ·exact .inl (.inr (.inr (.inr (.inl q))))
 ·exact(hat i q).imp (fun r=>.inr (.inr (.inr (.inr r)))) id
theorem turned_all{Sa' R':Nat->Prop}(h:But Sa W W')(hS:∀i,Sa' i->Sa i\/W.heap.size<=i)(hR:∀i,R' i->R i\/W.heap.size<=i):Turned g Sb Sa R ov rv W Sb Sa' R' ov rv W':=by
 refine⟨fun i hi=>?_,hR,h.mono fun _ e=>.inr (.inr (.inl e))⟩;rcases hi with q|q|q|q|q
 ·exact .inl (.inl q)
 ·exact .inl (.inr (.inl q))
 ·exact(hS i q).imp (fun r=>.inr (.inr (.inl r))) id
 ·exact .inl (.inr (.inr (.inr (.inl q))))
 ·exact .inl (.inr (.inr (.inr (.inr q))))
theorem but_grown{row:Option Nat}(h:W.grownBy W' row):But (fun i=>row=some i) W W':=⟨h.os,h.tape,h.output,h.size,fun k hk hn=>h.block k hk fun e=>hn e.symm⟩
theorem but_drew{S:Nat->Prop}(h:But S W.drew W'):But S W W':=⟨h.os,h.tape,h.output,h.size,h.block⟩
theorem but_set(w:World)(g o:Nat)(v:Value):But (fun i=>i=g) w (w.setCell ⟨g,o,none⟩ v):=(But.refl (fun i=>i=g) w).setCell (p:=⟨g,o,none⟩) (.inl rfl) v
theorem LogSt.put4{ov':Value}(hb:W.heap[g]?=some (.cells (logC b c fl ov rv) 76 (0,0)))(h:Parts H W g b c Sb Sa R B γ ov' L rv rs):LogSt H (W.setCell ⟨g,4,none⟩ ov') g b c fl Sb Sa R B γ ov' L rv rs:=
 ⟨by rw[heap_setCell_same _ _ _ _ _ _ hb];rfl,h.box (but_set _ _ _ _)⟩
theorem LogSt.put5{rv':Value}(hb:W.heap[g]?=some (.cells (logC b c fl ov rv) 76 (0,0)))(h:Parts H W g b c Sb Sa R B γ ov L rv' rs):LogSt H (W.setCell ⟨g,5,none⟩ rv') g b c fl Sb Sa R B γ ov L rv' rs:=
 ⟨by rw[heap_setCell_same _ _ _ _ _ _ hb];rfl,h.box (but_set _ _ _ _)⟩
theorem Parts.box_other(h:Parts H W g b c Sb Sa R B γ ov L rv rs):¬Sa g/\ov.ownBlock≠some g/\rv.ownBlock≠some g:=
 ⟨fun q=>h.six.2 0 2 (by decide) g rfl q,fun q=>h.six.2 0 3 (by decide) g rfl q,fun q=>h.six.2 0 4 (by decide) g rfl q⟩
end
set_option maxRecDepth 100000 in
set_option maxHeartbeats 3200000 in
theorem do_code{H:GraphHave}(U:UndoHave H){W:World}{g:Nat}{b c:Addr}{fl:St}{Sb Sa R:Nat->Prop}{B γ:Gr}{ov:Value}{L:List Opn}{rv:Value}{rs:List Rec}(h:LogSt H W g b c fl Sb Sa R B γ ov L rv rs)(T:Tab W)(hT:¬Own5 g Sb Sa ov rv 0)(hγ:γ.fine)(o:Opn)(ho:OpFit o)(hl:L.length<=5000)(hr:rs.length<=5000):
    Calls Tryz.prog 48 #[.pointer (some ⟨g,0,none⟩),.agg (opA o)] W fun e w'=>∃Sa' R' ov' rv',e=.returned (.tuple #[])/\LogSt H w' g b c fl Sb Sa' R' B (doA γ o).1 ov' (L++[o]) rv' (rs++[doR γ o])/\Turned g Sb Sa R ov rv W Sb Sa' R' ov' rv' w':=by
  obtain⟨i0,hi0,hz0,hz1,hz2⟩:=info_parts op_infos;obtain⟨i1,hi1,hy0,hy1,hy2⟩:=info_parts delRec_infos;obtain⟨w0,hw0⟩:∃w0,w0=W.alloc (.cells (opA o) 37):=⟨_,rfl⟩;obtain⟨u,hu⟩:∃u,u=W.heap.size:=⟨_,rfl⟩;have hb0:Below W.heap.size W w0:=by rw[hw0];exact(Below.refl _ W).alloc (Nat.le_refl _) _
  have hx0:w0.heap[u]?=some (.cells (opA o) 37 (0,0)):=by rw[hw0,hu];exact heap_alloc_new W _
  have hs0:w0.heap.size=u+1:=by rw[hw0,hu];simp
  have h0:=h.step hb0;have hgu:g<u:=by rw[hu];exact heap_lt h.box
  have HT:=Lib.hid (And.intro T hT);have H0:=Lib.hid (And.intro h0 (And.intro hb0 hx0));have HG:=Lib.hid hγ;have HO:=Lib.hid ho;have HV:Hid (∀i,ov.ownBlock=some i->i<u):=Lib.hid fun i hi=>by have:=(h.parts.ops.lt i hi).2;omega
  have HVR:Hid (some u≠rv.ownBlock):=Lib.hid fun q=>by have:=h.parts.six.1 4 u q.symm;omega
  have HVA:Hid (¬Sa u):=Lib.hid fun q=>by have:=h.parts.six.1 2 u q;omega
  have HU:Hid (u=W.heap.size/\w0.heap.size=u+1/\g<u):=⟨hu,hs0,hgu⟩;have hg0:g<w0.heap.size:=by omega
  clear h hb0 T hT hγ ho hs0 hgu
  go_enter Tryz.func48,Tryz.ntmps48
  go_upto_region 1 with fail
  rw[<-hu];change Code.wp _ _ _ _ (W.alloc (.cells (opA o) 37));rw[<-hw0];clear hw0 hu;obtain⟨-,-,-,-,d4,-⟩:=six_cells h0.box;obtain⟨c0,c1,c2,c3,c4,c5,c6,c7,c8,c9,c10,c11,c12⟩:=op_cells (o:=o) hx0;have hown:=h0.parts.ops;have hno:=h0.parts.box_other.2.1;have hm1:L.length+1<=maxLen:=by unfold maxLen;omega
  have hbx1:((w0.alloc (.cells (opA o) 37)).drew).heap[g]?=some (.cells (logC b c fl ov rv) 76 (0,0)):=(heap_alloc_old w0 _ (heap_lt h0.box)).trans h0.box;have hfz:((w0.alloc (.cells (opA o) 37)).drew).frozen? ⟨g,4,none⟩=false:=frozen_of_row _ _ _ _ _ hbx1;have hc4:((w0.alloc (.cells (opA o) 37)).drew).cell? ⟨g,4,none⟩=some ov:=(six_cells hbx1).2.2.2.2.1;clear h0 hx0
  go_cut [11] from 4 to 13 (fun _ wx=>∃ov',LogSt H wx g b c fl Sb Sa R B γ ov' (L++[o]) rv rs/\Turned g Sb Sa R ov rv W Sb Sa R ov' rv wx/\wx.heap[u]?=some (.cells (opA o) 37 (0,0)))
  case first=>
    go_region_law
      ((refine step_append_lies _ (by rfl) (.tmp 8) (.tmp 10) _ (by rfl) 0 37 i0 _ 13 128 Tryz.underlying32 hi0 hz0 hz1 hz2 rfl (by decide) ov _ _ (by rfl) ((hown.alloc _).drew)
              ⟨w0.heap.size,0,none⟩ 1 1 (opA o).toList (by rfl) (by rfl) (World.news_of_block (cs:=opA o) (t:=37) (fr:=(0,0)) (heap_alloc_new w0 _)) (op_cells1 o)
              (by omega) hm1 (by omega) (by simp) (w0.heap.size+1) (by simp) ?_;intro gg cap w2 hown2 hgrow hat hlt2;have hf2:w2.frozen? ⟨g,4,none⟩=false:=(hgrow.frozen_far ⟨g,4,none⟩ (by simp;omega) (Ne.symm hno)).trans hfz;have hc2:w2.cell? ⟨g,4,none⟩=some ov:=(hgrow.cell_far ⟨g,4,none⟩ (by simp;omega) (Ne.symm hno)).trans hc4))
    all_goals
      have hgrow:((w0.alloc (.cells (opA o) 37)).drew).grownBy w2 ov.ownBlock:=hgrow;have hbA:Below w0.heap.size w0 ((w0.alloc (.cells (opA o) 37)).drew):=((Below.refl _ w0).alloc (Nat.le_refl _) _).drew;have hA:=H0.out.1.step hbA;have hB:=but_grown hgrow;have hsA:((w0.alloc (.cells (opA o) 37)).drew).heap.size=w0.heap.size+1:=by show(w0.alloc _).heap.size=_;simp
      have hat':∀i,(Value.slice (some ⟨gg,0,none⟩) (L.length+1) cap).ownBlock=some i->ov.ownBlock=some i\/((w0.alloc (.cells (opA o) 37)).drew).heap.size<=i:=fun i hi=>by
        have e:gg=i:=by simpa[Value.ownBlock] using hi
        subst e;rcases hat with q|q
        · exact .inl q
        · exact .inr (by omega)
      rw[flat_op] at hown2;have hp2:=hA.parts.setOps (ov':=.slice (some ⟨gg,0,none⟩) (L.length+1) cap) (L':=L++[o]) hB (by rw[List.length_append];exact hown2) hat';have hbx2:=(hgrow.block g (by omega) (Ne.symm hno)).trans hbx1;have h3:=LogSt.put4 hbx2 hp2;have t3:Turned g Sb Sa R ov rv W Sb Sa R (.slice (some ⟨gg,0,none⟩) (L.length+1) cap) rv (w2.setCell ⟨g,4,none⟩ (.slice (some ⟨gg,0,none⟩) (L.length+1) cap)):=
        ((Turned.refl.step (below_step H0.out.2.1 hbA)).trans (turned_ops hB hat')).trans (turned_box (but_set _ _ _ _))
      have hu3:(w2.setCell ⟨g,4,none⟩ (.slice (some ⟨gg,0,none⟩) (L.length+1) cap)).heap[u]?=some (.cells (opA o) 37 (0,0)):=by
        rw[heap_setCell_other _ _ _ _ (show u≠g by have:=HU.out;omega)];refine(hgrow.block u (by have:=HU.out;omega) fun e=>?_).trans ((heap_alloc_old w0 _ (heap_lt H0.out.2.2)).trans H0.out.2.2);have:=HV.out u e.symm;omega
      go_wp2_with fail
      go_meet
      case rel=>exact⟨_,h3,t3,hu3⟩
  case rest=>
    obtain⟨ov',h3,t3,hu3⟩:=hcut;generalize wc=w3 at h3 t3 hu3 ⊢;clear hown hbx1 hfz hc4 hno hm1 hg0 c0 c1 c2 c3 c4 c5 c6 c7 c8 c9 c10 c11 c12 d4;have T3:=tab_but HT.out.1 t3.2.2 HT.out.2;have hT3:¬Own5 g Sb Sa ov' rv 0:=fun q=>by
      rcases t3.1 _ q with q|q
      · exact HT.out.2 q
      · have:=World.block_lt_of_cell? _ _ (HT.out.1.at 0 rfl)
        dsimp only at this;omega
    have HH:=Lib.hid (And.intro h3 (And.intro t3 hu3));have HT3:=Lib.hid (And.intro T3 hT3);clear h3 t3 hu3 T3 hT3 H0 HT HU HV;have h3:=HH.out.1;have hx3:=HH.out.2.2;have hugl:u≠g/\g<w3.heap.size/\u<w3.heap.size:=⟨fun e=>by
      have:=h3.box;rw[e,this] at hx3
      simp[logC,opA] at hx3,heap_lt h3.box,heap_lt hx3⟩
    have hug:=hugl.1;have hgl:=hugl.2.1;have hul:=hugl.2.2;have hR3:=h3.parts.recs;have hnr:=h3.parts.box_other.2.2;have DU:Hid (∀W',Below w3.heap.size w3 W'->Calls Tryz.prog 78 #[.pointer (some c),.agg #[.int .i64 o.st,.int .i64 o.sr,.int .i64 o.k,.int .i64 o.pt,.int .i64 o.pr,.int .i64 o.it,.int .i64 o.ir,.int .i64 o.tt,.int .i64 o.tr,.string o.name,.string o.new,.int .i64 o.off,.string o.data]] W' fun e w'=>
        ∃(S' T:Nat->Prop)(A1:Option Addr)(n1 c1:Nat)(A2:Option Addr)(n2 c2:Nat)(A3:Option Addr)(n3 c3:Nat)(A4:Option Addr)(n4 c4:Nat)(er:Int),e=.returned (.agg #[.slice A1 n1 c1,.slice A2 n2 c2,.slice A3 n3 c3,.slice A4 n4 c4,.int .i64 er])/\H.rep w' S' c (doA γ o).1/\(∀i,S' i->Sa i\/W'.heap.size<=i)/\But Sa W' w'/\RecAt T w' (.agg #[.slice A1 n1 c1,.slice A2 n2 c2,.slice A3 n3 c3,.slice A4 n4 c4,.int .i64 er]) (doR γ o)/\(∀i,T i->W'.heap.size<=i/\¬S' i)):=Lib.hid fun W' hW=>by
      have:=tab_step (T:=HT3.out.1) hW;refine(U.does c Sa γ o W' (HH.out.1.step hW).parts.all (fun q=>HT3.out.2 (.inr (.inr (.inl q)))) HG.out HO.out).mono ?_;rintro e w' ⟨S',T,v,rfl,k1,k2,k3,k4,k5⟩;have k6:=k4;obtain⟨A1,n1,c1,A2,n2,c2,A3,n3,c3,A4,n4,c4,rfl,_⟩:=k6;exact⟨S',T,A1,n1,c1,A2,n2,c2,A3,n3,c3,A4,n4,c4,_,rfl,k1,k2,k3,k4,k5⟩
    obtain⟨vs,v1,v2,v3,v4⟩:=hR3;have hnsa:¬Sa g:=h3.parts.box_other.1;have hnsv:∀i,rv.ownBlock=some i->¬Sa i:=fun i hi=>h3.parts.six.2 4 2 (by decide) i hi;have hsd:w3.drew.heap.size=w3.heap.size:=rfl;have hm1:rs.length+1<=maxLen:=by unfold maxLen;omega
    have hbx3:=h3.box;have hgr:some g≠rv.ownBlock:=Ne.symm hnr;clear h3;obtain⟨-,d1,-,-,-,d5⟩:=six_cells hbx3;obtain⟨z0,z1,z2,z3,z4,z5,z6,z7,z8,z9,z10,z11,z12⟩:=op_cells (o:=o) hx3
    go_upto_region 2 with fail
    go_region_law
      (first
        |(go_simp;go_at_call 78;(with_reducible refine(DU.out _ ?_).mono ?_);(with_reducible (first|exact Below.refl _ _|exact(Below.refl _ _).drew));rintro e w4 ⟨S',T',A1,n1,c1,A2,n2,c2,A3,n3,c3,A4,n4,c4,er,rfl,k1,k2,k3,k4,k5⟩;have hx4:=(k3.block u (by exact hul) HVA.out).trans hx3;have hbx4:=(k3.block g (by exact hgl) hnsa).trans hbx3;have f5:=(six_cells hbx4).2.2.2.2.2;have hg4:=heap_lt hbx4;have own4:=own_same v2 (fun i hi=>k3.block i (by have:=HH.out.1.parts.six.1 4 i hi;exact this) (hnsv i hi)))
        |(refine step_append_lies _ (by rfl) (.tmp 18) (.tmp 25) _ (by rfl) 0 81 i1 _ 5 104 Tryz.underlying74 hi1 hy0 hy1 hy2 rfl (by decide) rv _ _ (by rfl) (own4.alloc _) ⟨w4.heap.size,0,none⟩ 1 1 [.slice A1 n1 c1,.slice A2 n2 c2,.slice A3 n3 c3,.slice A4 n4 c4,.int .i64 er] (by rfl) (by rfl) (World.news_of_block (cs:= #[.slice A1 n1 c1,.slice A2 n2 c2,.slice A3 n3 c3,.slice A4 n4 c4,.int .i64 er]) (t:=81) (fr:=(0,0)) (heap_alloc_new w4 _)) (by intro v hv;simp at hv;rcases hv with rfl|rfl|rfl|rfl|rfl<;>rfl) (by omega) hm1 (by omega) (by simp) (w4.heap.size+1) (by simp) ?_;intro gr cq w6 hown6 hgrow6 hat6 hlt6;have hbx6:=(hgrow6.block g (by simp;omega) hgr).trans ((heap_alloc_old w4 _ hg4).trans hbx4);have f6:=(six_cells hbx6).2.2.2.2.2;have z6:=frozen_of_row _ _ 5 _ _ hbx6))
    all_goals
      have k3':But Sa w3 w4:=but_drew k3;have hsd:w3.drew.heap.size=w3.heap.size:=rfl;have hB6:But (fun i=>rv.ownBlock=some i) w4 w6:=((But.refl _ w4).alloc _).trans (but_grown hgrow6) (fun _ h _=>h);have hat':∀i,(Value.slice (some ⟨gr,0,none⟩) (rs.length+1) cq).ownBlock=some i->rv.ownBlock=some i\/w4.heap.size<=i:=fun i hi=>by
        have e:gr=i:=by simpa[Value.ownBlock] using hi
        subst e;rcases hat6 with q|q
        · exact .inl q
        · exact .inr (by omega)
      have h3:=HH.out.1;have hs34:=k3'.size;have hR2:∀i,(R i\/(T' i/\i<w4.heap.size))->R i\/w3.heap.size<=i:=fun i hi=>hi.imp id fun q=>(k5 i q.1).1;have hp4:=h3.parts.setAll (R':=fun i=>R i\/(T' i/\i<w4.heap.size)) k3' k1 k2 (fun i hi=>.inl hi) (fun i hi=>by
        rcases hi with q|q
        · exact⟨.inl q,Nat.lt_of_lt_of_le (h3.parts.six.1 5 i q) hs34⟩
        · exact⟨.inr (k5 i q.1),q.2⟩)
      have hk6:∀i,(R i\/(T' i/\i<w4.heap.size))->w6.heap[i]?=w4.heap[i]? :=fun i hi=>hB6.block i (hp4.six.1 5 i hi) fun e=>hp4.six.2 5 4 (by decide) i hi e;have q6:RecRow (fun i=>R i\/(T' i/\i<w4.heap.size)) w6 (.slice (some ⟨gr,0,none⟩) (rs.length+1) cq) (rs++[doR γ o]):=by
        refine RecRow.push v1 v3 (fun j r v hr hv=>?_) (v:= #[.slice A1 n1 c1,.slice A2 n2 c2,.slice A3 n3 c3,.slice A4 n4 c4,.int .i64 er]) rfl ((k4.mono fun i hi hl=>Or.inr ⟨hi,hl⟩).keep (fun i hi _=>hk6 i hi) hB6.size) hown6;refine(((v4 j r v hr hv).keep (fun i hi hl=>k3'.block i hl fun e=>h3.parts.six.2 5 2 (by decide) i hi e) hs34).mono fun i hi _=>Or.inl hi).keep (fun i hi _=>hk6 i hi) hB6.size
      have hp6:=hp4.setRecs hB6 q6 hat';have h7:=LogSt.put5 hbx6 hp6;have t7:=((HH.out.2.1.trans (turned_all k3' k2 hR2)).trans (turned_recs hB6 hat')).trans (turned_box (but_set w6 g 5 (.slice (some ⟨gr,0,none⟩) (rs.length+1) cq)));have HF:=Lib.hid (And.intro h7 t7)
      go_wp2_with fail
      exact bodyPost_end (results_none rfl _ _ _) rfl ⟨_,_,_,_,rfl,HF.out.1,HF.out.2⟩
theorem op_at_same{W W':World}{g o:Nat}{d:Opn}(h:OpAt W g o d)(hb:W'.heap[g]?=W.heap[g]?):OpAt W' g o d:=by
 have k:∀ {i:Nat}{v:Value},W.cell? ⟨g,i,none⟩=some v->W'.cell? ⟨g,i,none⟩=some v:=fun{i v} q=>(World.cell?_of_block (a:=⟨g,i,none⟩) hb).trans q;obtain⟨h0,h1,h2,h3,h4,h5,h6,h7,h8,h9,h10,h11,h12⟩:=h;exact⟨k h0,k h1,k h2,k h3,k h4,k h5,k h6,k h7,k h8,k h9,k h10,k h11,k h12⟩
theorem slice_block(A:Option Addr)(n c m d:Nat):(Value.slice A n c).ownBlock=(Value.slice A m d).ownBlock:=by cases A<;>rfl
def LogLeft(H:GraphHave)(g:Nat)(b c:Addr)(fl:St)(Sb Sa R:Nat->Prop)(ov rv:Value)(W:World)(B γ:Gr)(L:List Opn)(rs:List Rec)(e:Ending)(w':World):Prop:=
 ∃Sa' R' ov' rv',e=.returned (.tuple #[])/\LogSt H w' g b c fl Sb Sa' R' B γ ov' L rv' rs/\Turned g Sb Sa R ov rv W Sb Sa' R' ov' rv' w'
set_option maxRecDepth 100000 in
set_option maxHeartbeats 3200000 in
theorem each_code{H:GraphHave}(U:UndoHave H){W:World}{g:Nat}{b c:Addr}{fl:St}{Sb Sa R:Nat->Prop}{B γ:Gr}{ov:Value}{L:List Opn}{rv:Value}{rs:List Rec}(h:LogSt H W g b c fl Sb Sa R B γ ov L rv rs)(T:Tab W)(hT:¬Own5 g Sb Sa ov rv 0)(hγ:γ.fine)(A:Option Addr)(n cp:Nat)(l:List Opn)(hf:∀o∈l,OpFit o)(hn:n<=1001)(hl:L.length<=2000)(hr:rs.length<=2000)
  (hi:OpsIn W W.heap.size A n l)(hA:0<n->∀p,A=some p->¬Own5 g Sb Sa ov rv p.block):
  Calls Tryz.prog 47 #[.slice A n cp,.func (.func 48) #[.pointer (some ⟨g,0,none⟩)] #[]] W (LogLeft H g b c fl Sb Sa R ov rv W B (runG γ l) (L++l) (rs++recL γ l)):=by
 have hlen:=hi.len;have HI:=Lib.hid hi;have HA:=Lib.hid hA;have HT:=Lib.hid (And.intro T hT);have HG:=Lib.hid hγ;have HFT:=Lib.hid hf;have h0:LogSt H W g b c fl Sb Sa R B (runG γ (l.take 0)) ov (L++l.take 0) rv (rs++recL γ (l.take 0)):=by
  rw[List.take_zero,List.append_nil,show recL γ []= [] from rfl,List.append_nil];exact h
 have HL:=Lib.hid h0;have HTF:Hid (0<W.heap.size):=World.block_lt_of_cell? _ _ (T.at 0 rfl);clear h h0 hi hA T hT hγ hf
 go_enter Tryz.func47,Tryz.ntmps47
 go_wp2_with fail
 go_loopg [8] (n+1) (fun gk i wr=>∃(k:Nat)(Sa' R':Nat->Prop)(ov' rv':Value),i=.int .i64 (k:Int)/\gk+k=n+1/\k<=n/\Hid (LogSt H wr g b c fl Sb Sa' R' B (runG γ (l.take k)) ov' (L++l.take k) rv' (rs++recL γ (l.take k)))/\Hid (Turned g Sb Sa R ov rv W Sb Sa' R' ov' rv' wr))
 case atStart=>exact⟨0,Sa,R,ov,rv,by go_num,by omega,by omega,HL,Turned.refl⟩
 case round=>
  clear HL;obtain⟨k,Sa1,R1,ov1,rv1,rfl,hgk,hk,HL,HTU⟩:=hrel;have HGK:=Lib.hid hgk;clear hgk;by_cases hlt:k<n
  ·obtain⟨gi,o,rfl,hg,hrow⟩:=HI.out.row (by omega);have hkl:k<l.length:=by omega
   have hca:=op_at_same (hrow k hkl) (HTU.out.2.2.block gi hg (HA.out (by omega) ⟨gi,o,none⟩ rfl));have HFK:=Lib.hid (HFT.out _ (List.getElem_mem hkl));have hn1:=runG_next γ (l:=l) (k:=k) hkl;have hn2:l.take (k+1)=l.take k++[l[k]]:=List.take_succ_eq_append_getElem hkl;have hn3:recL γ (l.take (k+1))=recL γ (l.take k)++[doR (runG γ (l.take k)) l[k]]:=by rw[hn2,recL_snoc]
   have HN:=Lib.hid (And.intro hn1 (And.intro hn2 hn3));clear hn1 hn2 hn3;generalize l[k]=d at hca HFK HN;have hTU:=HTU.out;have TR:=tab_but HT.out.1 hTU.2.2 HT.out.2;have hT1:¬Own5 g Sb Sa1 ov1 rv1 0:=fun q=>by
    rcases hTU.1 _ q with q|q
    ·exact HT.out.2 q
    ·have:=HTF.out;omega
   have hbA:Below wr.heap.size wr (wr.alloc (.cells (opA d) 37)):=(Below.refl _ wr).alloc (Nat.le_refl _) _;have hlt1:(L++l.take k).length<=5000:=by rw[List.length_append,List.length_take];omega
   have hrt1:(rs++recL γ (l.take k)).length<=5000:=by rw[List.length_append,recL_len,List.length_take];omega
   have TA:=tab_step (T:=TR) hbA;have DD:=Lib.hid (do_code U (HL.out.step hbA) TA hT1 (runG_fine HG.out _) d HFK.out hlt1 hrt1);have HBA:=Lib.hid hbA;have hi1:(k:Int)<(n:Int):=by omega
   have hi0:(0:Int)<=(k:Int):=by omega
   obtain⟨c0,c1,c2,c3,c4,c5,c6,c7,c8,c9,c10,c11,c12⟩:=hca;clear hrow hg TR hT1 hbA hlt1 hrt1 TA hTU HL;unfold opA at DD
   go_wp2_with fail
   refine DD.out.mono ?_;rintro e w5 ⟨Sa2,R2,ov2,rv2,rfl,h5,t5⟩;have L5:=Lib.hid h5;have T5:=Lib.hid ((HTU.out.step HBA.out).trans t5);clear h5 t5 DD HTU c0 c1 c2 c3 c4 c5 c6 c7 c8 c9 c10 c11 c12
   go_wp2_with fail
   go_roundg (gk-1)
   case measure=>have:=HGK.out;omega
   case rel=>
    refine⟨k+1,Sa2,R2,ov2,rv2,by go_num,by have:=HGK.out;omega,by omega,?_,T5⟩;obtain⟨e1,e2,e3⟩:=HN.out;rw[e1,e3,e2,<-List.append_assoc,<-List.append_assoc];exact L5
  ·have hc:¬(k:Int)<(n:Int):=by omega
   have h2:=HL.out;rw[List.take_of_length_le (by omega)] at h2;have HF2:=Lib.hid h2;clear h2 HL
   go_wp2_with fail
   exact bodyPost_end (results_none rfl _ _ _) rfl ⟨_,_,_,_,rfl,HF2.out,HTU.out⟩
set_option maxRecDepth 100000 in
set_option maxHeartbeats 3200000 in
theorem back_code{H:GraphHave}(U:UndoHave H){W:World}{g:Nat}{b c:Addr}{fl:St}{Sb Sa R:Nat->Prop}{B:Gr}{ov:Value}{L:List Opn}{rv:Value}(h:LogSt H W g b c fl Sb Sa R B (runG B L) ov L rv (recL B L))(hB:B.fine)(hf:∀o∈L,OpFit o)(hl:L.length<=2000)(n:Nat)(hn:n<=L.length):
  Calls Tryz.prog 46 #[.pointer (some ⟨g,0,none⟩),.int .i64 n] W (LogLeft H g b c fl Sb Sa R ov rv W B (runG B (L.take n)) (L.take n) (recL B (L.take n))):=by
 obtain⟨A4,p4,hov,-,h41,h42,h43⟩:=h.ops_in;obtain⟨A5,p5,hrv,h51,h52,h53⟩:=h.recs_slice;rw[recL_len] at hrv h51;have h0:LogSt H W g b c fl Sb Sa R B (runG B (L.take L.length)) ov L rv (recL B L):=by rw[List.take_length];exact h
 have HB:=Lib.hid hB;have HFT:=Lib.hid hf;have HL:=Lib.hid h0;obtain⟨-,-,-,-,d4,-⟩:=six_cells h.box;have HOV:=Lib.hid (And.intro hov hrv);rw[hov] at d4;clear h h0 hB hf hov hrv
 go_enter Tryz.func46,Tryz.ntmps46
 go_wp2_with fail
 clear d4
 go_loopg [4] (L.length+1) (fun gk i wr=>∃(j:Nat)(v:Int)(Sa':Nat->Prop),i=.int .i64 v/\v=(j:Int)-1/\gk=j+1/\n<=j/\j<=L.length/\Hid (LogSt H wr g b c fl Sb Sa' R B (runG B (L.take j)) ov L rv (recL B L))/\Hid (Turned g Sb Sa R ov rv W Sb Sa' R ov rv wr))
 case atStart=>exact⟨L.length,(L.length:Int)-1,Sa,by go_num,rfl,rfl,hn,Nat.le_refl _,HL,Turned.refl⟩
 case round=>
  clear HL;obtain⟨j,v,Sa1,rfl,hv,hgk,hnj,hjl,HL,HTU⟩:=hrel;have HGK:=Lib.hid hgk;clear hgk;by_cases hlt:n<j
  ·obtain⟨f,rfl⟩:∃f,j=f+1:=⟨j-1,by omega⟩;obtain rfl:v=(f:Int):=by omega
   have hfl:f<L.length:=by omega
   obtain⟨vs,v1,v2,v3,v4⟩:=HL.out.parts.recs;have hvf:f<vs.length:=by rw[v1,recL_len];exact hfl
   have hrec:=v4 f _ vs[f] (recL_at L f hfl B) (List.getElem?_eq_getElem hvf);have htab:=tab_own v3 v1 v2;rw[recL_len] at htab;obtain⟨A6,p6,e6,ht6,-⟩:=htab;obtain⟨gr,ro,hA6,hgr,hrow⟩:=ht6.2 (by omega);have hrow1:=hrow f hvf;generalize vs[f]=vf at hrec hrow1;have hrec2:=hrec;obtain⟨B1,n1,c1,B2,n2,c2,B3,n3,c3,B4,n4,c4,evf,-⟩:=hrec2
   injection evf with evf
   subst evf;have z0:wr.cell? ⟨gr,ro+f*5,none⟩=some (.slice B1 n1 c1):=hrow1 0 _ rfl;have z1:wr.cell? ⟨gr,ro+f*5+1,none⟩=some (.slice B2 n2 c2):=hrow1 1 _ rfl;have z2:wr.cell? ⟨gr,ro+f*5+2,none⟩=some (.slice B3 n3 c3):=hrow1 2 _ rfl;have z3:wr.cell? ⟨gr,ro+f*5+3,none⟩=some (.slice B4 n4 c4):=hrow1 3 _ rfl;have z4:wr.cell? ⟨gr,ro+f*5+4,none⟩=some (.int .i64 _):=hrow1 4 _ rfl;generalize (doR (runG B (L.take f)) L[f]).err=er at z4 hrec;obtain⟨-,d1,-,-,-,d5⟩:=six_cells HL.out.box;have e7:rv=.slice (some ⟨gr,ro,none⟩) L.length p6:=by rw[e6,hA6]
   rw[e7] at d5;have hall:=HL.out.parts.all;rw[runG_next B hfl] at hall;have D:=Lib.hid (U.back c Sa1 R (runG B (L.take f)) L[f] _ wr.drew (H.keep hall fun _ _=>rfl) (runG_fine HB.out _) (HFT.out _ (List.getElem_mem hfl)) (hrec.step (Below.refl _ _).drew) fun i hi=>HL.out.parts.six.2 5 2 (by decide) i hi);have i1:(n:Int)<=(f:Int):=by omega
   have i2:(f:Int)<(L.length:Int):=by omega
   have i3:(0:Int)<=(f:Int):=by omega
   have HFL:=Lib.hid hfl;have hfb:f<=2000:=by omega
   have HNF:Hid (n<=f):=by show _<=_;omega
   clear hv hvf hrow hrow1 hall ht6 hA6 e6 e7 v1 v2 v3 v4 hrec hfl hjl hlt hnj
   go_upto_region 3 with fail
   go_still_tail 11,(by kernel_rfl)
   change wpList _ _ _ _ _ wr.drew
   go_wp2_with fail
   refine D.out.mono ?_;rintro e w5 ⟨Sa2,rfl,k1,k2,k3⟩;have k4:=but_drew k3;have hs:=k4.size;have L5:Hid (LogSt H w5 g b c fl Sb Sa2 R B (runG B (L.take f)) ov L rv (recL B L)):=
    ⟨(k4.block g (heap_lt HL.out.box) HL.out.parts.box_other.1).trans HL.out.box,HL.out.parts.setAll k4 k1 k2 (fun _ h=>h) fun i hi=>⟨.inl hi,Nat.lt_of_lt_of_le (HL.out.parts.six.1 5 i hi) hs⟩⟩
   have T5:=Lib.hid (HTU.out.trans (turned_all k4 k2 fun _ h=>.inl h));clear k1 k2 k3 k4 hs D HL HTU z0 z1 z2 z3 z4 d1 d5 i1 i2 i3
   go_wp2_with fail
   go_roundg (gk-1)
   case measure=>have:=HGK.out;omega
   case rel=>exact⟨f,(f:Int)-1,Sa2,by go_num,rfl,by have:=HGK.out;omega,HNF.out,Nat.le_of_lt HFL.out,L5,T5⟩
  ·obtain rfl:j=n:=by omega
   have hc:¬(j:Int)<=v:=by omega
   have HL2:=HL.out.step (Below.refl _ wr).drew;have HTU2:=HTU.out.step (Below.refl _ wr).drew;have hk4:∀r∈L.map opA,r.size=13:=fun r hr=>by obtain⟨o,_,rfl⟩:=List.mem_map.1 hr;rfl
   have hlt4:(L.take j).length=j:=by rw[List.length_take];omega
   have o4:wr.drew.ownsRow 0 37 13 (.slice A4 j p4) (L.take j).length (flat ((L.take j).map opA)):=by
    have q:=HL2.parts.ops;rw[HOV.out.1] at q;have q2:=own_take hk4 q hjl;rw[<-List.map_take] at q2;rw[hlt4];exact q2
   have hp1:=HL2.parts.setOps (But.refl _ _) o4 fun i hi=>.inl (by rw[HOV.out.1];exact(slice_block _ _ _ _ _).trans hi);have h1:=LogSt.put4 HL2.box hp1;have o5:RecRow R (wr.drew.setCell ⟨g,4,none⟩ (.slice A4 j p4)) (.slice A5 j p5) (recL B (L.take j)):=by
    have q:=h1.parts.recs;rw[HOV.out.2] at q;have e9:(recL B L).length=L.length:=recL_len L B;rw[<-recL_take];refine RecRow.take ?_ (by rw[e9];exact hjl);rw[e9];exact q
   have hp2:=h1.parts.setRecs (But.refl _ _) o5 fun i hi=>.inl (by rw[HOV.out.2];exact(slice_block _ _ _ _ _).trans hi);have h2:=LogSt.put5 h1.box hp2;have t2:=((((HTU2.trans (turned_ops (But.refl _ _) fun i(hi:(Value.slice A4 j p4).ownBlock=some i)=>.inl (by rw[HOV.out.1];exact(slice_block _ _ _ _ _).trans hi))).trans (turned_box (but_set wr.drew g 4 (.slice A4 j p4)))).trans (turned_recs (But.refl _ _) fun i(hi:(Value.slice A5 j p5).ownBlock=some i)=>.inl (by rw[HOV.out.2];exact(slice_block _ _ _ _ _).trans hi))).trans (turned_box (but_set (wr.drew.setCell ⟨g,4,none⟩ (.slice A4 j p4)) g 5 (.slice A5 j p5))));have HF:=Lib.hid (And.intro h2 t2);have hbx:=HL2.box;rw[HOV.out.1,HOV.out.2] at hbx;have hbx:wr.heap[g]?=_:=hbx;obtain⟨-,-,-,-,d4,d5⟩:=six_cells hbx;have f4:=frozen_of_row _ _ 4 _ _ hbx;have hbx1:(wr.setCell ⟨g,4,none⟩ (.slice A4 j p4)).heap[g]?=some (.cells #[.pointer (some b),.pointer (some c),.int .i64 fl.1,.int .i64 fl.2,.slice A4 j p4,.slice A5 L.length p5] 76 (0,0)):=by
    rw[heap_setCell_same wr g 4 _ _ (.slice A4 j p4) hbx]
    rfl
   have g5:=(six_cells hbx1).2.2.2.2.2;have f5:=frozen_of_row _ _ 5 _ _ hbx1;have i1:(0:Int)<=(j:Int):=by omega
   have i2:(j:Int)<=(p4:Int):=by omega
   have i3:(j:Int)<=(p5:Int):=by omega
   clear h2 t2 hp2 o5 h1 hp1 o4 hlt4 hk4 HL2 HTU2 hbx hbx1 HL HTU
   go_upto_region 4 with fail
   go_region
   all_goals
    go_wp2_with fail
    exact bodyPost_end (results_none rfl _ _ _) rfl ⟨_,_,_,_,rfl,HF.out.1,HF.out.2⟩
end Go.Proofs.YtnnnkaobhkeocaaGreatDoor
