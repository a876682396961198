/-
 Whatever is added and compacted, each answer, the graph, the floor, the base and the operations are the document's: for all lists of deeds (the first 60 are done) and all stamps. (Made by gen_oplogplays.py.)
-/
import Derived.Test.YtnnnkaobhkeocaaGreatDoorZX01
import Derived.Test.YtnnnkaobhkeocaaGreatDoorZX12
import Derived.Deep.CutBlock
namespace Go.Proofs.YtnnnkaobhkeocaaGreatDoor.lawOplogPlays
open Go.RowKit StampMath GraphMath OpMath PackMath
def GrTold(γ:Gr)(w:World)(e:Ending)(w':World):Prop:=
 ∃(X:Option Addr)(n c:Nat)(Y:Option Addr)(m d:Nat),e=.returned (.agg #[.slice X n c,.slice Y m d])/\(∃N,GrAt N w' (.agg #[.slice X n c,.slice Y m d]) γ)/\Below w.heap.size w w'
theorem ref_graph{N:Nat->Prop}{v:Value}{x:Lg}(hx:x.ok)(hn:x.L.length<=60)(hfit:∀o∈x.L,OpFit o){w:World}(hv:LgAt N w v x):Calls Tryz.prog 17 #[v] w (GrTold (graphL x) w):=by
 refine(refLogGraph N v x hx hn hfit w hv).mono ?_;rintro e w' ⟨v',rfl,h1,h2⟩;obtain⟨X,n,c,Y,m,d,rfl⟩:=h1.form;exact⟨X,n,c,Y,m,d,rfl,⟨_,h1⟩,h2⟩
theorem is_there{H:GraphHave}{γ:Gr}(hg:γ.ok)(b:Addr)(X:Option Addr)(n c:Nat)(Y:Option Addr)(m d:Nat)(W0 W1 W2 W:World)(h1:FX H W0 W1 (fun _=>False) b γ)(hb1:Below W1.heap.size W1 W)(h2:∃N,GrAt N W2 (.agg #[.slice X n c,.slice Y m d]) γ)(hb2:Below W2.heap.size W2 W):
  Calls Tryz.prog 15 #[.pointer (some b),.agg #[.slice X n c,.slice Y m d]] W fun e w'=>e=.returned (.bool true)/\Below W.heap.size W w':=by
 obtain⟨N,h2⟩:=h2;obtain⟨S,r,_⟩:=(h1.step hb1).gx.at';exact isO_two H N b S γ _ W r (h2.step hb2 fun i hi=>hi) hg
theorem ops_told{H:GraphHave}{O:OplogHave H}{w W:World}{N:Nat->Prop}{k:Nat}{a:Addr}{x:Lg}(h:LX O w W N k a x)(hk:k<=900){m:Nat}(hm:m=x.L.length):
  Calls Tryz.prog 21 #[.pointer (some a)] W fun e w'=>∃(X:Option Addr)(c:Nat),e=.returned (.slice X m c)/\OpsIn w' w'.heap.size X m x.L/\Below W.heap.size W w':=by
 refine(h.ops hk).mono ?_;rintro e w' ⟨v,rfl,ho,hb⟩;obtain⟨X,c,rfl,hi,-⟩:=ops_own rfl ho;rw[<-hm] at hi;rw[<-hm];exact⟨X,c,rfl,hi,hb⟩
set_option maxRecDepth 100000 in
set_option maxHeartbeats 12800000 in
theorem core{H:GraphHave}(O:OplogHave H)(A:Option Addr)(n c:Nat)(l:List (Opn×Bool))(s:St)(hl:∀x∈l,OpFit x.1)(w:World)(T:Tab w)(h:DdoIn w w.heap.size A n l):
    Calls Tryz.prog 3 #[.slice A n c,.agg (stA s)] w fun e w'=>e=.returned (.bool true)/\Below w.heap.size w w':=by
  obtain⟨u,hu⟩:∃u,u=w.heap.size:=⟨_,rfl⟩;have H0:Hid (Held w [(u,.cells #[.int .i64 s.1,.int .i64 s.2] 24)] (w.alloc (.cells #[.int .i64 s.1,.int .i64 s.2] 24))):=Lib.hid ((Held.refl w).alloc _ hu.symm);have HX:=Lib.hid h;have HF:=Lib.hid hl;have HT:=Lib.hid T;have hll:=h.len;clear h hl T;unfold stA
  go_enter Tryz.func3,Tryz.ntmps3
  go_upto_region 1 with fail
  rw[<-hu];change Code.wp _ _ _ _ (w.alloc (.cells #[.int .i64 s.1,.int .i64 s.2] 24));generalize w.alloc (.cells #[.int .i64 s.1,.int .i64 s.2] 24)=w0 at H0 ⊢;clear hu;have D0:=Lib.hid (OplogHave.shown O w0 (tab_below HT.out (Nat.le_refl _) H0.out.below))
  go_wp2_with fail
  refine D0.out.mono ?_;rintro e w1 ⟨rfl,hb1⟩;have H1:=Lib.hid (H0.out.step hb1);have T1:=Lib.hid (tab_below HT.out (Nat.le_refl _) H1.out.below);have HC:Hid (∀W,Below w1.heap.size w1 W->W.cell? ⟨u,0,none⟩=some (.int .i64 s.1)/\W.cell? ⟨u,1,none⟩=some (.int .i64 s.2)):=Lib.hid fun W hW=>two_cells ((H1.out.step hW).at 0 rfl);have HX1:Hid (∀W,Below w1.heap.size w1 W->DdoIn W w.heap.size A n l):=Lib.hid fun W hW=>HX.out.below (below_step H1.out.below hW);have B1:=Lib.hid H1.out.below;clear hb1 D0 H0 H1 HX HT
  go_wp2_with fail
  refine(LX.new O T1.out (Below.refl w1.heap.size w1) (fun _=>False) (fun _ h=>h.elim)).mono ?_;rintro e w2 ⟨a,rfl,h2,_⟩;have L2:=Lib.hid h2;clear h2
  go_wp2_with fail
  refine(refLogNew _).mono ?_;rintro e w3 ⟨v,rfl,x3,hb3⟩;obtain⟨X0,n0,c0,Y0,m0,d0,B0,j0,e0,rfl⟩:=x3.form;have Q3:=Lib.hid (And.intro x3 hb3);clear x3 hb3
  go_upto_block 0 with fail
  have P0:Hid (∃N,PlayL O w1 (w3.alloc (.cells #[.slice X0 n0 c0,.slice Y0 m0 d0,.int .i64 newL.fl.1,.int .i64 newL.fl.2,.slice B0 j0 e0] 34)) 0 a w3.heap.size newL X0 n0 c0 Y0 m0 d0 B0 j0 e0 N):=by
    obtain⟨x3,hb3⟩:=Q3.out;have hA:=(Below.refl w3.heap.size w3).alloc (Nat.le_refl _) (.cells #[.slice X0 n0 c0,.slice Y0 m0 d0,.int .i64 newL.fl.1,.int .i64 newL.fl.2,.slice B0 j0 e0] 34);have h1:=below_step hb3 hA;have g1:=L2.out.grow h1;have hs:=hb3.size;have hs2:=L2.out.below.size;refine Lib.hid ⟨_,g1,(x3.live.step hA fun i hi=>?_),.inr ⟨hs,by simp⟩,by omega,heap_alloc_new w3 _⟩;exact⟨.inr ⟨hi.1,by simp;omega⟩,by omega⟩
  clear Q3 L2;change Code.wp _ _ _ _ (w3.alloc (.cells #[.slice X0 n0 c0,.slice Y0 m0 d0,.int .i64 newL.fl.1,.int .i64 newL.fl.2,.slice B0 j0 e0] 34));obtain⟨bx,hbx⟩:∃b,b=w3.heap.size:=⟨_,rfl⟩;rw[<-hbx] at P0 ⊢;generalize w3.alloc (.cells #[.slice X0 n0 c0,.slice Y0 m0 d0,.int .i64 newL.fl.1,.int .i64 newL.fl.2,.slice B0 j0 e0] 34)=w4 at P0 ⊢;clear hbx
  go_cut [8,9,10,11,12,13,14] from 18 to 89 (fun _ _ _ _ _ _ _ wx=>∃(x:Lg)(X:Option Addr)(n1 c1:Nat)(Y:Option Addr)(m1 d1:Nat)(B:Option Addr)(j1 e1:Nat),Hid (∃N,PlayL O w1 wx 60 a bx x X n1 c1 Y m1 d1 B j1 e1 N))
  case first=>
    go_wp2_with fail
    go_loopg [8] 61 (fun gk i wr=>∃(k:Nat)(x:Lg)(X:Option Addr)(n1 c1:Nat)(Y:Option Addr)(m1 d1:Nat)(B:Option Addr)(j1 e1:Nat),i=.int .i64 (k:Int)/\gk+k=61/\k<=60/\k<=n/\Hid (∃N,PlayL O w1 wr k a bx x X n1 c1 Y m1 d1 B j1 e1 N))
    case atStart=>exact⟨0,newL,X0,n0,c0,Y0,m0,d0,B0,j0,e0,by go_num,by omega,by omega,by omega,P0⟩
    case round=>
      clear P0;obtain⟨k,x,Xa,na,ca,Ya,ma,da,Ba,ja,ea,rfl,hgk,hk,hkn,hP⟩:=hrel;have HG:=Lib.hid hgk;clear hgk;by_cases hlt:k<n/\k<60
      · obtain⟨g1,g2⟩:=hlt
        obtain⟨N,hP⟩:=hP.out;have PP:=Lib.hid hP;obtain⟨gi,oo,rfl,hg,hrow⟩:=(HX1.out wr hP.lx.below).row (by omega);have lk:k<l.length:=by omega
        have HFT:=Lib.hid (HF.out _ (List.getElem_mem lk));have HROW:Hid (∀W,Below w1.heap.size w1 W->OpAt W gi (oo+k*14) l[k].1/\W.cell? ⟨gi,oo+k*14+13,none⟩=some (.bool l[k].2)):=Lib.hid fun W hW=>by
          obtain⟨gi',oo',e',_,hr⟩:=(HX1.out W hW).row (by omega)
          injection e' with e'
          injection e' with e1 e2
          subst e1 e2;exact hr k lk
        have HOK:=Lib.hid hP.lx.ok;have HFI:=Lib.hid hP.lx.fit;have hfewx:x.L.length<=60:=Nat.le_trans hP.lx.few hk;generalize l[k]=dd at HFT HROW;obtain⟨d,cp⟩:=dd;dsimp only at HFT HROW;obtain⟨⟨z0,z1,z2,z3,z4,z5,z6,z7,z8,z9,z10,z11,z12⟩,cc⟩:=HROW.out wr hP.lx.below;have k1:(k:Int)<(n:Int):=by omega
        have k2:(k:Int)<60:=by omega
        have k4:(0:Int)<=(k:Int):=by omega
        clear hrow hg lk hP
        cases cp with
        |true=>
          have D6:=Lib.hid (PP.out.lx.compact T1.out (by omega) (oSt d));unfold stA at D6
          go_wp2_with fail
          refine D6.out.mono ?_;rintro e w6 ⟨rfl,h6,s6⟩;have L6:=Lib.hid h6;have P6:=Lib.hid (PP.out.doc s6);have R:Hid (∀W,Below w6.heap.size w6 W->Calls Tryz.prog 12 #[.agg #[.slice Xa na ca,.slice Ya ma da,.int .i64 x.fl.1,.int .i64 x.fl.2,.slice Ba ja ea],.agg #[.int .i64 d.st,.int .i64 d.sr]] W fun e w'=>
              ∃(X:Option Addr)(n1 c1:Nat)(Y:Option Addr)(m1 d1:Nat)(B1:Option Addr)(j1 e1:Nat),e=.returned (.tuple #[.agg #[.slice X n1 c1,.slice Y m1 d1,.int .i64 (compactL x (oSt d)).1.fl.1,.int .i64 (compactL x (oSt d)).1.fl.2,.slice B1 j1 e1],.int .i64 ((compactL x (oSt d)).2:Int)])/\LgAt (MoreN (fun i=>N i/\i≠bx) W) w' (.agg #[.slice X n1 c1,.slice Y m1 d1,.int .i64 (compactL x (oSt d)).1.fl.1,.int .i64 (compactL x (oSt d)).1.fl.2,.slice B1 j1 e1]) (compactL x (oSt d)).1/\Below W.heap.size W w'):=Lib.hid fun W hW=>by
            refine(refLogCompact (fun i=>N i/\i≠bx) _ x (oSt d) HOK.out (by omega) HFI.out W (P6.out.v.step hW fun i hi=>hi)).mono ?_;rintro e w' ⟨v,rfl,q1,q2⟩;obtain⟨X,n1,c1,Y,m1,d1,B1,j1,e1,rfl⟩:=q1.form;exact⟨X,n1,c1,Y,m1,d1,B1,j1,e1,rfl,q1,q2⟩
          clear D6 h6 s6 PP z0 z1 z2 z3 z4 z5 z6 z7 z8 z9 z10 z11 z12 cc;generalize (compactL x (oSt d)).1=x7 at L6 R;generalize (compactL x (oSt d)).2=r7 at R;obtain⟨⟨z0,z1,z2,z3,z4,z5,z6,z7,z8,z9,z10,z11,z12⟩,-⟩:=HROW.out _ L6.out.below;obtain⟨x0,x1,x2,x3,x4⟩:=five_cells P6.out.box
          go_upto_region 9 with fail
          go_cut [10,11] from 41 to 51 (fun v1 v2 wx=>ToldL (fun i=>N i/\i≠bx) w6 x7 (.int .i64 (r7:Int)) v1 v2 wx)
          case first=>
            have zb:=heap_lt P6.out.box;have zg:gi<w6.heap.size:=World.block_lt_of_cell? _ _ z0
            go_region_with (first
              |(go_at_call 12;(with_reducible refine(R.out ((w6.alloc (.cells #[.slice none 0 0,.slice none 0 0,.int .i64 0,.int .i64 0,.slice none 0 0] 34)).drew) (by repeat(first|exact Below.refl _ _|assumption|apply Below.drew|exact(Below.refl _ _).alloc (Nat.le_refl _) _))).mono ?_);rintro e w8 ⟨X8,n8,c8,Y8,m8,d8,B8,j8,e8,rfl,q8,hb8⟩;have hx8:=box_behind5 hb8;obtain⟨y0,y1,y2,y3,y4⟩:=five_cells hx8;obtain⟨y5,y6,y7,y8,y9⟩:=five_free hx8)
              |(go_at_call 12;(with_reducible refine(R.out _ (by repeat(first|exact Below.refl _ _|assumption|apply Below.drew|exact(Below.refl _ _).alloc (Nat.le_refl _) _))).mono ?_);rintro e w8 ⟨X8,n8,c8,Y8,m8,d8,B8,j8,e8,rfl,q8,hb8⟩))
            all_goals
              go_wp2_with fail
              go_meet
            all_goals(case rel=>first|with_reducible exact toldL_after (by repeat(first|exact Below.refl _ _|assumption|apply Below.drew)) q8 hb8|with_reducible exact toldL_before (fun i hi=>L6.out.lt i hi.1) hx8 q8 hb8)
          case rest=>
            obtain⟨bn,X8,n8,c8,Y8,m8,d8,B8,j8,e8,rfl,rfl,hB8,hge8,hbox8,q8⟩:=hcut;generalize wc=w9 at hB8 hbox8 q8 ⊢;have P9:Hid (∃N',PlayL O w1 (put5 w9 bx (.slice X8 n8 c8) (.slice Y8 m8 d8) (.int .i64 x7.fl.1) (.int .i64 x7.fl.2) (.slice B8 j8 e8)) k a bx x7 X8 n8 c8 Y8 m8 d8 B8 j8 e8 N'):=
              Lib.hid (playL_end L6.out P6.out.here P6.out.ge P6.out.box hB8 q8 (Below.refl _ _))
            have hx9:=(hB8.block _ (heap_lt P6.out.box)).trans P6.out.box;clear x0 x1 x2 x3 x4 z0 z1 z2 z3 z4 z5 z6 z7 z8 z9 z10 z11 z12 q8 hB8 hge8 R;obtain⟨x0,x1,x2,x3,x4⟩:=five_cells hx9;obtain⟨y0,y1,y2,y3,y4⟩:=five_cells hbox8;obtain⟨p0,p1,p2,p3,p4⟩:=five_free hx9;clear hx9 hbox8 P6 L6
            go_upto_region 18 with fail
            change Code.wp _ _ _ _ (put5 w9 bx (.slice X8 n8 c8) (.slice Y8 m8 d8) (.int .i64 x7.fl.1) (.int .i64 x7.fl.2) (.slice B8 j8 e8));generalize put5 w9 bx (.slice X8 n8 c8) (.slice Y8 m8 d8) (.int .i64 x7.fl.1) (.int .i64 x7.fl.2) (.slice B8 j8 e8)=w10 at P9 ⊢;clear x0 x1 x2 x3 x4 y0 y1 y2 y3 y4 p0 p1 p2 p3 p4;obtain⟨N10,p10⟩:=P9.out;have hfew:x7.L.length<=60:=Nat.le_trans p10.lx.few (by omega);have P10:=Lib.hid p10;have HS:Hid (∀W,Below w10.heap.size w10 W->(W.cell? ⟨bx,0,none⟩=some (.slice X8 n8 c8)/\W.cell? ⟨bx,1,none⟩=some (.slice Y8 m8 d8)/\W.cell? ⟨bx,2,none⟩=some (.int .i64 x7.fl.1)/\W.cell? ⟨bx,3,none⟩=some (.int .i64 x7.fl.2)/\W.cell? ⟨bx,4,none⟩=some (.slice B8 j8 e8))/\KeptFrom w10 W):=Lib.hid fun W hW=>⟨five_cells (P10.out.step hW).box,hW⟩;have hS0:=HS.out _ (Below.refl _ _);have hSd:=HS.out _ (Below.refl _ _).drew;have hok:(graphL x7).ok:=(runG_fine p10.lx.ok.base _).ok;have C1:Hid (∀W,Below w10.heap.size w10 W->Calls Tryz.prog 16 #[.pointer (some a)] W fun e w'=>∃b,e=.returned (.pointer (some b))/\FX H W w' (fun _=>False) b (graphL x7)/\Below W.heap.size W w'):=Lib.hid fun W hW=>(P10.out.lx.step hW).graph;have C2:Hid (∀W,Below w10.heap.size w10 W->Calls Tryz.prog 17 #[.agg #[.slice X8 n8 c8,.slice Y8 m8 d8,.int .i64 x7.fl.1,.int .i64 x7.fl.2,.slice B8 j8 e8]] W (GrTold (graphL x7) W)):=Lib.hid fun W hW=>ref_graph P10.out.lx.ok hfew P10.out.lx.fit (P10.out.step hW).v;have C3:=Lib.hid (is_there (H:=H) hok);have C4:Hid (∀W,Below w10.heap.size w10 W->Calls Tryz.prog 18 #[.pointer (some a)] W fun e w'=>e=.returned (.agg #[.int .i64 x7.fl.1,.int .i64 x7.fl.2])/\Below W.heap.size W w'):=Lib.hid fun W hW=>(P10.out.lx.step hW).floor;have hv:∀W:World,(Op.equalIn 10000 24 (.agg #[.int .i64 x7.fl.1,.int .i64 x7.fl.2]) (.agg #[.int .i64 x7.fl.1,.int .i64 x7.fl.2])).run Tryz.prog W=.ok true W:=fun W=>eqSt_yes rfl W;unfold GrTold at C2;generalize graphL x7=γ at C1 C2 C3 hok;clear p10 P9
            go_region_held3 (fun W=>(W.cell? ⟨bx,0,none⟩=some (.slice X8 n8 c8)/\W.cell? ⟨bx,1,none⟩=some (.slice Y8 m8 d8)/\W.cell? ⟨bx,2,none⟩=some (.int .i64 x7.fl.1)/\W.cell? ⟨bx,3,none⟩=some (.int .i64 x7.fl.2)/\W.cell? ⟨bx,4,none⟩=some (.slice B8 j8 e8))/\KeptFrom w10 W)
              (first|(with_reducible assumption))
              (first
                |(go_at_call 16;(with_reducible refine(C1.out _ (kept_of (by assumption))).mono ?_);rintro z w21 ⟨b1,rfl,q1,hb⟩;have hS:=HS.out _ (below_step (kept_of (by assumption)) hb))
                |(go_at_call 17;(with_reducible refine(C2.out _ (kept_of (by assumption))).mono ?_);rintro z w22 ⟨X1,n1,c1,Y1,m1,d1,rfl,q2,hb⟩;have hS:=HS.out _ (below_step (kept_of (by assumption)) hb))
                |(go_at_call 15;(with_reducible refine(C3.out _ _ _ _ _ _ _ _ _ _ _ (by assumption) (by repeat(first|exact Below.refl _ _|assumption|apply Below.drew|refine below_step ?_ (by assumption))) (by assumption) (by repeat(first|exact Below.refl _ _|assumption|apply Below.drew|refine below_step ?_ (by assumption)))).mono ?_);rintro z w23 ⟨rfl,hb⟩;have hS:=HS.out _ (below_step (kept_of (by assumption)) hb))
                |(go_at_call 18;(with_reducible refine(C4.out _ (kept_of (by assumption))).mono ?_);rintro z w24 ⟨rfl,hb⟩;have hS:=HS.out _ (below_step (kept_of (by assumption)) hb)))
            all_goals
              have HF:Hid (∃N,PlayL O w1 _ k a bx x7 X8 n8 c8 Y8 m8 d8 B8 j8 e8 N):=Lib.hid ⟨_,P10.out.step (kept_of hS)⟩;clear HS hS0 hSd hS C1 C2 C3 C4 P10
              go_wp2_with fail
              go_roundg (gk-1)
              case measure=>have:=HG.out;omega
              case rel=>exact⟨k+1,x7,X8,n8,c8,Y8,m8,d8,B8,j8,e8,by go_num,by have:=HG.out;omega,by omega,by omega,Lib.hid (HF.out.imp fun N h=>h.more (Nat.le_succ k))⟩
        |false=>
          have D6:=Lib.hid (PP.out.lx.add T1.out (by omega) d HFT.out);unfold opA at D6
          go_wp2_with fail
          refine D6.out.mono ?_;rintro e w6 ⟨rfl,h6,s6⟩;have L6:=Lib.hid h6;have P6:=Lib.hid (PP.out.doc s6);have R:Hid (∀W,Below w6.heap.size w6 W->Calls Tryz.prog 14 #[.agg #[.slice Xa na ca,.slice Ya ma da,.int .i64 x.fl.1,.int .i64 x.fl.2,.slice Ba ja ea],.agg (opA d)] W fun e w'=>
              ∃(X:Option Addr)(n1 c1:Nat)(Y:Option Addr)(m1 d1:Nat)(B1:Option Addr)(j1 e1:Nat),e=.returned (.tuple #[.agg #[.slice X n1 c1,.slice Y m1 d1,.int .i64 (addL x d).1.fl.1,.int .i64 (addL x d).1.fl.2,.slice B1 j1 e1],.bool (addL x d).2])/\LgAt (MoreN (fun i=>N i/\i≠bx) W) w' (.agg #[.slice X n1 c1,.slice Y m1 d1,.int .i64 (addL x d).1.fl.1,.int .i64 (addL x d).1.fl.2,.slice B1 j1 e1]) (addL x d).1/\Below W.heap.size W w'):=Lib.hid fun W hW=>by
            refine(refLogAdd (fun i=>N i/\i≠bx) _ x d HOK.out (by omega) HFT.out W (P6.out.v.step hW fun i hi=>hi)).mono ?_;rintro e w' ⟨v,rfl,q1,q2⟩;obtain⟨X,n1,c1,Y,m1,d1,B1,j1,e1,rfl⟩:=q1.form;exact⟨X,n1,c1,Y,m1,d1,B1,j1,e1,rfl,q1,q2⟩
          unfold opA at R;clear D6 h6 s6 PP z0 z1 z2 z3 z4 z5 z6 z7 z8 z9 z10 z11 z12 cc;generalize (addL x d).1=x7 at L6 R;generalize (addL x d).2=r7 at R;obtain⟨⟨z0,z1,z2,z3,z4,z5,z6,z7,z8,z9,z10,z11,z12⟩,-⟩:=HROW.out _ L6.out.below;obtain⟨x0,x1,x2,x3,x4⟩:=five_cells P6.out.box
          go_upto_region 14 with fail
          go_cut [13,14] from 63 to 72 (fun v1 v2 wx=>ToldL (fun i=>N i/\i≠bx) w6 x7 (.bool r7) v1 v2 wx)
          case first=>
            have zb:=heap_lt P6.out.box;have zg:gi<w6.heap.size:=World.block_lt_of_cell? _ _ z0
            go_region_with (first
              |(go_at_call 14;(with_reducible refine(R.out ((w6.alloc (.cells #[.slice none 0 0,.slice none 0 0,.int .i64 0,.int .i64 0,.slice none 0 0] 34)).drew) (by repeat(first|exact Below.refl _ _|assumption|apply Below.drew|exact(Below.refl _ _).alloc (Nat.le_refl _) _))).mono ?_);rintro e w8 ⟨X8,n8,c8,Y8,m8,d8,B8,j8,e8,rfl,q8,hb8⟩;have hx8:=box_behind5 hb8;obtain⟨y0,y1,y2,y3,y4⟩:=five_cells hx8;obtain⟨y5,y6,y7,y8,y9⟩:=five_free hx8)
              |(go_at_call 14;(with_reducible refine(R.out _ (by repeat(first|exact Below.refl _ _|assumption|apply Below.drew|exact(Below.refl _ _).alloc (Nat.le_refl _) _))).mono ?_);rintro e w8 ⟨X8,n8,c8,Y8,m8,d8,B8,j8,e8,rfl,q8,hb8⟩))
            all_goals
              go_wp2_with fail
              go_meet
            all_goals(case rel=>first|with_reducible exact toldL_after (by repeat(first|exact Below.refl _ _|assumption|apply Below.drew)) q8 hb8|with_reducible exact toldL_before (fun i hi=>L6.out.lt i hi.1) hx8 q8 hb8)
          case rest=>
            obtain⟨bn,X8,n8,c8,Y8,m8,d8,B8,j8,e8,rfl,rfl,hB8,hge8,hbox8,q8⟩:=hcut;generalize wc=w9 at hB8 hbox8 q8 ⊢;have P9:Hid (∃N',PlayL O w1 (put5 w9 bx (.slice X8 n8 c8) (.slice Y8 m8 d8) (.int .i64 x7.fl.1) (.int .i64 x7.fl.2) (.slice B8 j8 e8)) (k+1) a bx x7 X8 n8 c8 Y8 m8 d8 B8 j8 e8 N'):=
              Lib.hid (playL_end L6.out P6.out.here P6.out.ge P6.out.box hB8 q8 (Below.refl _ _))
            have hx9:=(hB8.block _ (heap_lt P6.out.box)).trans P6.out.box;clear x0 x1 x2 x3 x4 z0 z1 z2 z3 z4 z5 z6 z7 z8 z9 z10 z11 z12 q8 hB8 hge8 R;obtain⟨x0,x1,x2,x3,x4⟩:=five_cells hx9;obtain⟨y0,y1,y2,y3,y4⟩:=five_cells hbox8;obtain⟨p0,p1,p2,p3,p4⟩:=five_free hx9;clear hx9 hbox8 P6 L6
            go_upto_region 18 with fail
            change Code.wp _ _ _ _ (put5 w9 bx (.slice X8 n8 c8) (.slice Y8 m8 d8) (.int .i64 x7.fl.1) (.int .i64 x7.fl.2) (.slice B8 j8 e8));generalize put5 w9 bx (.slice X8 n8 c8) (.slice Y8 m8 d8) (.int .i64 x7.fl.1) (.int .i64 x7.fl.2) (.slice B8 j8 e8)=w10 at P9 ⊢;clear x0 x1 x2 x3 x4 y0 y1 y2 y3 y4 p0 p1 p2 p3 p4;obtain⟨N10,p10⟩:=P9.out;have hfew:x7.L.length<=60:=Nat.le_trans p10.lx.few (by omega);have P10:=Lib.hid p10;have HS:Hid (∀W,Below w10.heap.size w10 W->(W.cell? ⟨bx,0,none⟩=some (.slice X8 n8 c8)/\W.cell? ⟨bx,1,none⟩=some (.slice Y8 m8 d8)/\W.cell? ⟨bx,2,none⟩=some (.int .i64 x7.fl.1)/\W.cell? ⟨bx,3,none⟩=some (.int .i64 x7.fl.2)/\W.cell? ⟨bx,4,none⟩=some (.slice B8 j8 e8))/\KeptFrom w10 W):=Lib.hid fun W hW=>⟨five_cells (P10.out.step hW).box,hW⟩;have hS0:=HS.out _ (Below.refl _ _);have hSd:=HS.out _ (Below.refl _ _).drew;have hok:(graphL x7).ok:=(runG_fine p10.lx.ok.base _).ok;have C1:Hid (∀W,Below w10.heap.size w10 W->Calls Tryz.prog 16 #[.pointer (some a)] W fun e w'=>∃b,e=.returned (.pointer (some b))/\FX H W w' (fun _=>False) b (graphL x7)/\Below W.heap.size W w'):=Lib.hid fun W hW=>(P10.out.lx.step hW).graph;have C2:Hid (∀W,Below w10.heap.size w10 W->Calls Tryz.prog 17 #[.agg #[.slice X8 n8 c8,.slice Y8 m8 d8,.int .i64 x7.fl.1,.int .i64 x7.fl.2,.slice B8 j8 e8]] W (GrTold (graphL x7) W)):=Lib.hid fun W hW=>ref_graph P10.out.lx.ok hfew P10.out.lx.fit (P10.out.step hW).v;have C3:=Lib.hid (is_there (H:=H) hok);have C4:Hid (∀W,Below w10.heap.size w10 W->Calls Tryz.prog 18 #[.pointer (some a)] W fun e w'=>e=.returned (.agg #[.int .i64 x7.fl.1,.int .i64 x7.fl.2])/\Below W.heap.size W w'):=Lib.hid fun W hW=>(P10.out.lx.step hW).floor;have hv:∀W:World,(Op.equalIn 10000 24 (.agg #[.int .i64 x7.fl.1,.int .i64 x7.fl.2]) (.agg #[.int .i64 x7.fl.1,.int .i64 x7.fl.2])).run Tryz.prog W=.ok true W:=fun W=>eqSt_yes rfl W;unfold GrTold at C2;generalize graphL x7=γ at C1 C2 C3 hok;clear p10 P9
            go_region_held3 (fun W=>(W.cell? ⟨bx,0,none⟩=some (.slice X8 n8 c8)/\W.cell? ⟨bx,1,none⟩=some (.slice Y8 m8 d8)/\W.cell? ⟨bx,2,none⟩=some (.int .i64 x7.fl.1)/\W.cell? ⟨bx,3,none⟩=some (.int .i64 x7.fl.2)/\W.cell? ⟨bx,4,none⟩=some (.slice B8 j8 e8))/\KeptFrom w10 W)
              (first|(with_reducible assumption))
              (first
                |(go_at_call 16;(with_reducible refine(C1.out _ (kept_of (by assumption))).mono ?_);rintro z w21 ⟨b1,rfl,q1,hb⟩;have hS:=HS.out _ (below_step (kept_of (by assumption)) hb))
                |(go_at_call 17;(with_reducible refine(C2.out _ (kept_of (by assumption))).mono ?_);rintro z w22 ⟨X1,n1,c1,Y1,m1,d1,rfl,q2,hb⟩;have hS:=HS.out _ (below_step (kept_of (by assumption)) hb))
                |(go_at_call 15;(with_reducible refine(C3.out _ _ _ _ _ _ _ _ _ _ _ (by assumption) (by repeat(first|exact Below.refl _ _|assumption|apply Below.drew|refine below_step ?_ (by assumption))) (by assumption) (by repeat(first|exact Below.refl _ _|assumption|apply Below.drew|refine below_step ?_ (by assumption)))).mono ?_);rintro z w23 ⟨rfl,hb⟩;have hS:=HS.out _ (below_step (kept_of (by assumption)) hb))
                |(go_at_call 18;(with_reducible refine(C4.out _ (kept_of (by assumption))).mono ?_);rintro z w24 ⟨rfl,hb⟩;have hS:=HS.out _ (below_step (kept_of (by assumption)) hb)))
            all_goals
              have HF:Hid (∃N,PlayL O w1 _ (k+1) a bx x7 X8 n8 c8 Y8 m8 d8 B8 j8 e8 N):=Lib.hid ⟨_,P10.out.step (kept_of hS)⟩;clear HS hS0 hSd hS C1 C2 C3 C4 P10
              go_wp2_with fail
              go_roundg (gk-1)
              case measure=>have:=HG.out;omega
              case rel=>exact⟨k+1,x7,X8,n8,c8,Y8,m8,d8,B8,j8,e8,by go_num,by have:=HG.out;omega,by omega,by omega,HF⟩
      · have h3:¬(k:Int)<(n:Int)\/((k:Int)<(n:Int)/\¬(k:Int)<60):=by omega
        have HP':Hid (∃N,PlayL O w1 wr 60 a bx x Xa na ca Ya ma da Ba ja ea N):=Lib.hid (hP.out.imp fun N h=>h.more hk);clear hlt hP;rcases h3 with h3|⟨h1,h3⟩
        all_goals
          go_wp2_with fail
          go_meet
          case rel=>exact⟨x,Xa,na,ca,Ya,ma,da,Ba,ja,ea,HP'⟩
  case rest=>
    obtain⟨x,Xa,na,ca,Ya,ma,da,Ba,ja,ea,hP⟩:=hcut;generalize wc=w5 at hP ⊢;clear P0;obtain⟨N,p5⟩:=hP.out;have P5:=Lib.hid p5;have hfew:x.L.length<=60:=p5.lx.few;obtain⟨gB,hO⟩:=p5.v.parts;have HGB:=Lib.hid gB;have HOP:=Lib.hid hO;have hja:ja=x.L.length:=hO.len.symm;have HJ:=Lib.hid hja;have hj60:ja<=60:=by omega
    have HS:Hid (∀W,Below w5.heap.size w5 W->((W.cell? ⟨bx,0,none⟩=some (.slice Xa na ca)/\W.cell? ⟨bx,1,none⟩=some (.slice Ya ma da)/\W.cell? ⟨bx,2,none⟩=some (.int .i64 x.fl.1)/\W.cell? ⟨bx,3,none⟩=some (.int .i64 x.fl.2)/\W.cell? ⟨bx,4,none⟩=some (.slice Ba ja ea))/\(W.cell? ⟨u,0,none⟩=some (.int .i64 s.1)/\W.cell? ⟨u,1,none⟩=some (.int .i64 s.2)))/\KeptFrom w5 W):=Lib.hid fun W hW=>⟨⟨five_cells (P5.out.step hW).box,HC.out W (below_step P5.out.lx.below hW)⟩,hW⟩;have hS0:=HS.out _ (Below.refl _ _);have hSd:=HS.out _ (Below.refl _ _).drew;have C1:Hid (∀W,Below w5.heap.size w5 W->Calls Tryz.prog 19 #[.pointer (some a)] W fun e w'=>∃b,e=.returned (.pointer (some b))/\FX H W w' (fun _=>False) b x.B/\Below W.heap.size W w'):=Lib.hid fun W hW=>(P5.out.lx.step hW).base;have C3:Hid (∀(b:Addr)(W0 W1 W:World),FX H W0 W1 (fun _=>False) b x.B->Below W1.heap.size W1 W->Below w5.heap.size w5 W->Calls Tryz.prog 15 #[.pointer (some b),.agg #[.slice Xa na ca,.slice Ya ma da]] W fun e w'=>e=.returned (.bool true)/\Below W.heap.size W w'):=Lib.hid fun b W0 W1 W h1 hb1 hb2=>is_there (H:=H) P5.out.lx.ok.base.ok b Xa na ca Ya ma da W0 W1 w5 W h1 hb1 ⟨_,HGB.out⟩ hb2;have C5:Hid (∀W,Below w5.heap.size w5 W->Calls Tryz.prog 21 #[.pointer (some a)] W fun e w'=>∃(X:Option Addr)(c:Nat),e=.returned (.slice X ja c)/\OpsIn w' w'.heap.size X ja x.L/\Below W.heap.size W w'):=Lib.hid fun W hW=>ops_told (P5.out.lx.step hW) (by omega) HJ.out;have C6:Hid (∀(X:Option Addr)(c:Nat)(W1 W:World),OpsIn W1 W1.heap.size X ja x.L->Below W1.heap.size W1 W->Below w5.heap.size w5 W->Calls Tryz.prog 20 #[.slice X ja c,.slice Ba ja ea] W fun e w'=>e=.returned (.bool true)/\Below W.heap.size W w'):=Lib.hid fun X c W1 W h1 hb1 hb2=>by
      have:=refOps X Ba ja c ja ea x.L x.L (by omega) (by omega) W ((h1.below hb1).more hb1.size) ((HOP.out.below hb2).more hb2.size);rw[decide_eq_true rfl] at this;exact this
    obtain⟨r,hr⟩:∃r,r=hasL x s:=⟨_,rfl⟩;have C7:Hid (∀W,Below w5.heap.size w5 W->Calls Tryz.prog 22 #[.pointer (some a),.agg #[.int .i64 s.1,.int .i64 s.2]] W fun e w'=>e=.returned (.bool r)/\Below W.heap.size W w'):=Lib.hid fun W hW=>by rw[hr];exact(P5.out.lx.step hW).has (by omega) s
    have C8:Hid (∀W,Below w5.heap.size w5 W->Calls Tryz.prog 23 #[.agg #[.slice Xa na ca,.slice Ya ma da,.int .i64 x.fl.1,.int .i64 x.fl.2,.slice Ba ja ea],.agg #[.int .i64 s.1,.int .i64 s.2]] W fun e w'=>e=.returned (.bool r)/\Below W.heap.size W w'):=Lib.hid fun W hW=>by rw[hr];exact refLogHas _ _ x s (by omega) W (P5.out.step hW).v
    clear p5 hP gB hO hr hja hj60 hfew
    go_upto_region 20 with fail
    go_region_held3 (fun W=>((W.cell? ⟨bx,0,none⟩=some (.slice Xa na ca)/\W.cell? ⟨bx,1,none⟩=some (.slice Ya ma da)/\W.cell? ⟨bx,2,none⟩=some (.int .i64 x.fl.1)/\W.cell? ⟨bx,3,none⟩=some (.int .i64 x.fl.2)/\W.cell? ⟨bx,4,none⟩=some (.slice Ba ja ea))/\(W.cell? ⟨u,0,none⟩=some (.int .i64 s.1)/\W.cell? ⟨u,1,none⟩=some (.int .i64 s.2)))/\KeptFrom w5 W)
      (first|(with_reducible assumption))
      (first
        |(go_at_call 19;(with_reducible refine(C1.out _ (kept_of (by assumption))).mono ?_);rintro z w21 ⟨b1,rfl,q1,hb⟩;have hS:=HS.out _ (below_step (kept_of (by assumption)) hb))
        |(go_at_call 15;(with_reducible refine(C3.out _ _ _ _ (by assumption) (by repeat(first|exact Below.refl _ _|assumption|apply Below.drew|refine below_step ?_ (by assumption))) (kept_of (by assumption))).mono ?_);rintro z w23 ⟨rfl,hb⟩;have hS:=HS.out _ (below_step (kept_of (by assumption)) hb))
        |(go_at_call 21;(with_reducible refine(C5.out _ (kept_of (by assumption))).mono ?_);rintro z w24 ⟨X9,c9,rfl,q2,hb⟩;have hS:=HS.out _ (below_step (kept_of (by assumption)) hb))
        |(go_at_call 20;(with_reducible refine(C6.out _ _ _ _ (by assumption) (by repeat(first|exact Below.refl _ _|assumption|apply Below.drew|refine below_step ?_ (by assumption))) (kept_of (by assumption))).mono ?_);rintro z w25 ⟨rfl,hb⟩;have hS:=HS.out _ (below_step (kept_of (by assumption)) hb))
        |(go_at_call 22;(with_reducible refine(C7.out _ (kept_of (by assumption))).mono ?_);rintro z w26 ⟨rfl,hb⟩;have hS:=HS.out _ (below_step (kept_of (by assumption)) hb))
        |(go_at_call 23;(with_reducible refine(C8.out _ (kept_of (by assumption))).mono ?_);rintro z w27 ⟨rfl,hb⟩;have hS:=HS.out _ (below_step (kept_of (by assumption)) hb)))
    all_goals
      have HF:=Lib.hid (below_step B1.out (below_step P5.out.lx.below (kept_of hS)));clear HS hS0 hSd hS C1 C3 C5 C6 C7 C8
      go_wp2_with fail
      go_ret
      exact⟨rfl,HF.out⟩
theorem walk0{H:GraphHave}(O:OplogHave H)(a0A:Option Addr)(a0n:Nat)(a0c:Nat)(a0x:List (Opn×Bool))(a1:St)(w:World)[T:Tab w](_:a0n<=a0c)(_:a0c<=maxLen)(w0x:∀x∈a0x,OpFit x.1)(w0d:DdoIn w w.heap.size a0A a0n a0x):
  Calls Tryz.prog 3 #[.slice a0A a0n a0c,.agg (stA a1)] w fun e w'=>e=.returned (.bool true)/\Below w.heap.size w w':=
 core O a0A a0n a0c a0x a1 w0x w T w0d
end Go.Proofs.YtnnnkaobhkeocaaGreatDoor.lawOplogPlays
