/-
 The landed log: what it tells.
-/
import Derived.Test.YtnnnkaobhkeocaaGreatDoorZ13
import Derived.Test.YtnnnkaobhkeocaaGreatDoorZ05
import Derived.Test.YtnnnkaobhkeocaaGreatDoorZ02
namespace Go.Proofs.YtnnnkaobhkeocaaGreatDoor
open Go.RowKit StampMath GraphMath OpMath PackMath
section
variable {H:GraphHave}{W:World}{S R:Nat->Prop}{a:Addr}{x:Lg}
set_option maxRecDepth 100000 in
theorem tell_graph(h:LogIn H W S R a x)(hx:x.ok):
  Calls Tryz.prog 16 #[.pointer (some a)] W fun e w'=>∃b T,e=.returned (.pointer (some b))/\H.rep w' T b (graphL x)/\(∀i,T i->W.heap.size<=i)/\Below W.heap.size W w':=by
 obtain⟨g,b,c,Sb,Sa,ov,rv,rfl,-,h⟩:=h;obtain⟨-,d1,-⟩:=six_cells h.box;have D:=Lib.hid (H.copy c Sa (graphL x) W h.parts.all (runG_fine hx.base _).ok);clear h hx
 go_enter Tryz.func16,Tryz.ntmps16
 go_wp2_with fail
 refine D.out.mono ?_;rintro e w1 ⟨b1,T,rfl,k1,k2,k3⟩;have HF:=Lib.hid (And.intro k1 (And.intro k2 k3));clear k1 k2 k3 d1 D
 go_wp2_with fail
 go_ret
 exact⟨b1,T,rfl,HF.out⟩
set_option maxRecDepth 100000 in
theorem tell_base(h:LogIn H W S R a x)(hx:x.ok):
  Calls Tryz.prog 19 #[.pointer (some a)] W fun e w'=>∃b T,e=.returned (.pointer (some b))/\H.rep w' T b x.B/\(∀i,T i->W.heap.size<=i)/\Below W.heap.size W w':=by
 obtain⟨g,b,c,Sb,Sa,ov,rv,rfl,-,h⟩:=h;obtain⟨d0,-⟩:=six_cells h.box;have D:=Lib.hid (H.copy b Sb x.B W h.parts.base hx.base.ok);clear h hx
 go_enter Tryz.func19,Tryz.ntmps19
 go_wp2_with fail
 refine D.out.mono ?_;rintro e w1 ⟨b1,T,rfl,k1,k2,k3⟩;have HF:=Lib.hid (And.intro k1 (And.intro k2 k3));clear k1 k2 k3 d0 D
 go_wp2_with fail
 go_ret
 exact⟨b1,T,rfl,HF.out⟩
set_option maxRecDepth 100000 in
theorem tell_floor(h:LogIn H W S R a x):
  Calls Tryz.prog 18 #[.pointer (some a)] W fun e w'=>e=.returned (.agg (stA x.fl))/\Below W.heap.size W w':=by
 obtain⟨g,b,c,Sb,Sa,ov,rv,rfl,-,h⟩:=h;have hbx:=h.box;clear h;generalize x.fl=fl at hbx ⊢;have hlt:=heap_lt hbx;obtain⟨u,hu⟩:∃u,u=W.heap.size:=⟨_,rfl⟩;have H0:Hid (Held W [(u,.cells #[.int .i64 0,.int .i64 0] 24)] (W.alloc (.cells #[.int .i64 0,.int .i64 0] 24))):=Lib.hid ((Held.refl W).alloc _ hu.symm);have HU:Hid (u=W.heap.size):=hu;unfold stA
 go_enter Tryz.func18,Tryz.ntmps18
 go_upto_region 1 with fail
 rw[<-hu];change Code.wp _ _ _ _ (W.alloc (.cells #[.int .i64 0,.int .i64 0] 24));generalize W.alloc (.cells #[.int .i64 0,.int .i64 0] 24)=W1 at H0 ⊢;clear hu;obtain⟨-,-,d2,d3,-,-⟩:=six_cells ((H0.out.below.block g hlt).trans hbx);have hr:=H0.out.at 0 rfl;obtain⟨r0,r1⟩:=two_cells hr;obtain⟨f0,f1⟩:=two_free hr;have E:Hid (((W1.setCell ⟨u,0,none⟩ (.int .i64 fl.1)).setCell ⟨u,1,none⟩ (.int .i64 fl.2)).heap[u]?=some (.cells #[.int .i64 fl.1,.int .i64 fl.2] 24 (0,0))):=by
  unfold Hid;rw[heap_setCell_same _ _ _ _ _ _ (heap_setCell_same _ _ _ _ _ _ hr)]
  rfl
 have F:Hid (Below W.heap.size W ((W1.setCell ⟨u,0,none⟩ (.int .i64 fl.1)).setCell ⟨u,1,none⟩ (.int .i64 fl.2))):=(H0.out.below.setCell (p:=⟨u,0,none⟩) (Nat.le_of_eq HU.out.symm) _).setCell (p:=⟨u,1,none⟩) (Nat.le_of_eq HU.out.symm) _;clear hr hbx hlt H0
 go_wp2_with fail
 obtain⟨p0,p1⟩:=two_cells E.out;exact bodyPost_ret (v:=.agg #[.int .i64 fl.1,.int .i64 fl.2]) (by simp[results,Tryz.results18,go_sem,p0,p1]) rfl ⟨rfl,F.out⟩
set_option maxRecDepth 100000 in
theorem tell_ops(h:LogIn H W S R a x)(hl:x.L.length<=900):
  Calls Tryz.prog 21 #[.pointer (some a)] W (OpsNew x.L W):=by
 obtain⟨g,b,c,Sb,Sa,ov,rv,rfl,-,h⟩:=h;obtain⟨A,cp,rfl,hi,-,-,hd⟩:=h.ops_in;obtain⟨-,-,-,-,d4,-⟩:=six_cells h.box;have D:=Lib.hid (clone_code A x.L.length cp x.L W (by omega) hd hi);unfold OpsMade at D;clear h hi;generalize x.L=L at D d4 ⊢
 go_enter Tryz.func21,Tryz.ntmps21
 go_wp2_with fail
 refine D.out.mono ?_;rintro e w1 ⟨B,k,rfl,-,-,-,q,hb⟩;have HF:=Lib.hid (And.intro q.2 hb);clear q hb d4 D
 go_wp2_with fail
 go_ret
 exact⟨_,rfl,HF.out.1,HF.out.2⟩
theorem has_below{x:List Opn}(h:Rises x)(s:St)(n:Nat)(hn:n=belowO x s):hasO x s=true↔0<n/\∃q:n-1<x.length,oSt x[n-1]=s:=by
 constructor
 ·intro q;have hp:=place_below h s;rw[if_pos q] at hp;obtain⟨hpl,e⟩:=(place_has h).1 q;obtain⟨i,hi⟩:∃i,i=n-1:=⟨_,rfl⟩;have hip:i=placeO x s:=by omega
  rw[<-hi];subst hip;exact⟨by omega,hpl,e⟩
 ·rintro⟨_,q,e⟩;exact hasO_iff.2 ⟨_,List.getElem_mem q,e⟩
set_option maxRecDepth 100000 in
set_option maxHeartbeats 3200000 in
theorem tell_has(h:LogIn H W S R a x)(hx:x.ok)(hl:x.L.length<=900)(s:St):
  Calls Tryz.prog 22 #[.pointer (some a),.agg (stA s)] W fun e w'=>e=.returned (.bool (hasL x s))/\Below W.heap.size W w':=by
 obtain⟨g,b,c,Sb,Sa,ov,rv,rfl,-,h⟩:=h;obtain⟨A,cp,rfl,hi,-,-,-⟩:=h.ops_in;have HV:Hid (hasL x s=(!lessS x.fl s||hasO x.L s)):=rfl;obtain⟨n,hn⟩:∃n,n=belowO x.L s:=⟨_,rfl⟩;have HB:=Lib.hid (has_below hx.rises s n hn);have hble:=below_le x.L s;have hlt:=heap_lt h.box;obtain⟨u,hu⟩:∃u,u=W.heap.size:=⟨_,rfl⟩;have H0:Hid (Held W [(u,.cells #[.int .i64 s.1,.int .i64 s.2] 24)] (W.alloc (.cells #[.int .i64 s.1,.int .i64 s.2] 24))):=Lib.hid ((Held.refl W).alloc _ hu.symm);have DA:Hid (∀W',Below W.heap.size W W'->Calls Tryz.prog 37 #[.pointer (some ⟨g,0,none⟩),.agg #[.int .i64 s.1,.int .i64 s.2]] W' fun e w'=>e=.returned (.bool (lessS x.fl s))/\Below W'.heap.size W' w'):=Lib.hid fun W' hW=>(h.step hW).above s;have DB:Hid (∀W',Below W.heap.size W W'->Calls Tryz.prog 38 #[.slice A x.L.length cp,.agg #[.int .i64 s.1,.int .i64 s.2]] W' fun e w'=>e=.returned (.int .i64 (belowO x.L s:Int))/\Below W'.heap.size W' w'):=Lib.hid fun W' hW=>below_code A x.L.length cp x.L s W' (by omega) hx.rises ((hi.below hW).more hW.size);have HI:=Lib.hid hi;have HBX:=Lib.hid h.box;rw[<-hn] at DB hble;clear h hi hx hn;generalize hasL x s=r at HV ⊢;generalize hasO x.L s=ho at HV HB;generalize lessS x.fl s=q at HV DA;generalize x.fl=fl at HBX;generalize x.L=L at HB hble DB HI HBX hl;unfold stA
 go_enter Tryz.func22,Tryz.ntmps22
 go_upto_region 1 with fail
 rw[<-hu];change Code.wp _ _ _ _ (W.alloc (.cells #[.int .i64 s.1,.int .i64 s.2] 24));generalize W.alloc (.cells #[.int .i64 s.1,.int .i64 s.2] 24)=W1 at H0 ⊢;clear hu;obtain⟨s0,s1⟩:=two_cells (H0.out.at 0 rfl);have D1:=Lib.hid (DA.out _ H0.out.below);clear DA
 go_wp2_with fail
 refine D1.out.mono ?_;rintro e w2 ⟨rfl,hb2⟩;have H2:=Lib.hid (H0.out.step hb2);clear D1 hb2 s0 s1 H0
 cases q with
 |false=>
  have HR:Hid (r=true):=HV.out
  go_wp2_with fail
  go_ret
  exact⟨by rw[HR.out];rfl,H2.out.below⟩
 |true=>
  have HR:Hid (r=ho):=HV.out;obtain⟨s0,s1⟩:=two_cells (H2.out.at 0 rfl);obtain⟨-,-,-,-,d4,-⟩:=six_cells ((H2.out.below.block g hlt).trans HBX.out);have l0:=later_cell s0;have l1:=later_cell s1;have l4:=later_cell d4;have HL:Hid (∀y,Calls Tryz.prog 38 #[.slice A L.length cp,.agg #[.int .i64 s.1,.int .i64 s.2]] (later w2 y) fun e w'=>e=.returned (.int .i64 (n:Int))/\∃z,w'=later w2 z):=Lib.hid fun y=>later_call (DB.out _ (below_step H2.out.below (later_below w2 y)));clear HV s0 s1 d4
  go_upto_region 5 with fail
  refine wp_region_later (by kernel_rfl) (by kernel_rfl) ?_
  repeat(go_big_quiet_step (first|(with_reducible exact HL.out _)))
  refine wpQuiet_nil ?_;intro _ hw';obtain⟨y,rfl⟩:=hw';have H3:=Lib.hid (H2.out.step (later_below w2 y));clear l0 l1 l4 HL H2 DB;generalize later w2 y=w3 at H3 ⊢;obtain⟨s0,s1⟩:=two_cells (H3.out.at 0 rfl);obtain⟨-,-,-,-,d4,-⟩:=six_cells ((H3.out.below.block g hlt).trans HBX.out);by_cases hn0:0<n
  ·obtain⟨f,hf⟩:∃f,f=n-1:=⟨_,rfl⟩;have hnz:(n:Int)-1=(f:Int):=by omega
   have hfl:f<L.length:=by omega
   obtain⟨gi,o,hAe,hg,hrow⟩:=HI.out.row (by omega);subst hAe;obtain⟨e0,e1,-⟩:=(hrow f hfl).below H3.out.below hg;obtain⟨av,ha⟩:∃av,L[f]=av:=⟨_,rfl⟩;have HQ:Hid (ho=decide (oSt av=s)):=Lib.hid (by
    have hb:=HB.out;subst hf;rw[<-ha]
    cases hq:ho with
    |true=>
     obtain⟨_,q,e⟩:=hb.1 hq;exact(decide_eq_true e).symm
    |false=>
     refine(decide_eq_false fun e=>?_).symm;have:=hb.2 ⟨hn0,hfl,e⟩;rw[hq] at this
     cases this)
   rw[ha] at e0 e1;have hv:∀W:World,(Op.equalIn 10000 24 (.agg #[.int .i64 av.st,.int .i64 av.sr]) (.agg #[.int .i64 s.1,.int .i64 s.2])).run Tryz.prog W=.ok (decide (oSt av=s)) W:=fun W=>run_eqSt _ _ _ _ W;obtain⟨bq,hbq⟩:∃bq,bq=decide (oSt av=s):=⟨_,rfl⟩;rw[<-hbq] at hv HQ;have k0:=later_cell e0;have k1:=later_cell e1;have l0:=later_cell s0;have l1:=later_cell s1;have l4:=later_cell d4;have g1:decide (0<n)=true:=decide_eq_true hn0;have g2:(0:Int)<(n:Int):=by omega
   have g3:(0:Int)<=(f:Int):=by omega
   have g4:(f:Int)<(L.length:Int):=by omega
   clear hrow e0 e1 s0 s1 d4 ha hbq hf hfl hg HB
   go_upto_region 6 with fail
   refine wp_region_later (by kernel_rfl) (by kernel_rfl) ?_
   repeat(go_big_quiet_step (fail))
   refine wpQuiet_nil ?_;intro _ hw';obtain⟨y2,rfl⟩:=hw';have H4:=Lib.hid (H3.out.step (later_below w3 y2));clear k0 k1 l0 l1 l4 hv g1 g2 g3 g4
   go_wp2_with fail
   go_ret
   exact⟨by rw[HR.out,HQ.out];rfl,H4.out.below⟩
  ·have hn1:n=0:=by omega
   have HQ:Hid (ho=false):=Lib.hid (by
    cases hq:ho with
    |true=>exact absurd (HB.out.1 hq).1 hn0
    |false=>rfl)
   subst hn1;clear HB hble hn0
   go_upto_region 6 with fail
   refine wp_region_later (by kernel_rfl) (by kernel_rfl) ?_
   repeat(go_big_quiet_step (fail))
   refine wpQuiet_nil ?_;intro _ hw';obtain⟨y2,rfl⟩:=hw';have H4:=Lib.hid (H3.out.step (later_below w3 y2))
   go_wp2_with fail
   go_ret
   exact⟨by rw[HR.out,HQ.out];rfl,H4.out.below⟩
end
theorem mono_of{s:Nat->Nat}(h:∀m,s m<=s (m+1)):∀m n,m<=n->s m<=s n:=by
 intro m n hmn
 induction hmn with
 |refl=>exact Nat.le_refl _
 |step _ ih=>exact Nat.le_trans ih (h _)
theorem six_iv{B:Nat}{K:Nat->Nat->Prop}(s r:Nat->Nat)(hs:∀m,s m<=s (m+1))(hB:∀m,s m<=B)(hr:∀j k,j<6->k<6->r j=r k->j=k)(h:∀j i,K j i->j<6/\s (r j)<=i/\i<s (r j+1)):Six B K:=by
 refine⟨fun j i hi=>Nat.lt_of_lt_of_le (h j i hi).2.2 (hB _),fun j k hjk i hi hk=>?_⟩;obtain⟨h1,h2,h3⟩:=h j i hi;obtain⟨k1,k2,k3⟩:=h k i hk;rcases Nat.lt_trichotomy (r j) (r k) with q|q|q
 ·have:=mono_of hs (r j+1) (r k) q;omega
 ·exact hjk (hr j k h1 k1 q)
 ·have:=mono_of hs (r k+1) (r j) q;omega
def rank6:Nat->Nat
 |0=>5
 |1=>1
 |2=>2
 |3=>3
 |4=>4
 |_=>0
def step6(a b c d e:Nat):Nat->Nat
 |0=>0
 |1=>a
 |2=>b
 |3=>c
 |4=>d
 |5=>e
 |_=>e+1
theorem rank6_one:∀j k,j<6->k<6->rank6 j=rank6 k->j=k:=fun j k hj hk h=>by
 have q:∀a b:Fin 6,rank6 a.1=rank6 b.1->a=b:=by decide
 exact congrArg Fin.val (q ⟨j,hj⟩ ⟨k,hk⟩ h)
theorem six_made{B a b c d e:Nat}(hab:a<=b)(hbc:b<=c)(hcd:c<=d)(hde:d<=e)(heB:e<B){Sb Sa R:Nat->Prop}{ov rv:Value}(h1:∀i,Sb i->a<=i/\i<b)(h2:∀i,Sa i->b<=i/\i<c)(h3:∀i,ov.ownBlock=some i->c<=i/\i<d)(h4:∀i,rv.ownBlock=some i->d<=i/\i<e)(h5:∀i,R i->i<a):Six B (sixK e Sb Sa ov rv R):=by
 refine six_iv (step6 a b c d e) rank6 (fun m=>?_) (fun m=>?_) rank6_one fun j i hi=>?_
 ·match m with
  |0=>exact Nat.zero_le _
  |1=>exact hab
  |2=>exact hbc
  |3=>exact hcd
  |4=>exact hde
  |5=>exact Nat.le_succ _
  |_+6=>exact Nat.le_refl _
 ·match m with
  |0=>exact Nat.zero_le _
  |1=>show a<=B;omega
  |2=>show b<=B;omega
  |3=>show c<=B;omega
  |4=>show d<=B;omega
  |5=>show e<=B;omega
  |_+6=>exact heB
 ·match j,hi with
  |0,hi=>exact⟨by decide,Nat.le_of_eq (show e=i from hi.symm),by show i<e+1;have:i=e:=hi;omega⟩
  |1,hi=>exact⟨by decide,h1 i hi⟩
  |2,hi=>exact⟨by decide,h2 i hi⟩
  |3,hi=>exact⟨by decide,h3 i hi⟩
  |4,hi=>exact⟨by decide,h4 i hi⟩
  |5,hi=>exact⟨by decide,Nat.zero_le _,h5 i hi⟩
set_option maxRecDepth 100000 in
theorem cloneRec_code(A:Option Addr)(n c:Nat)(vs:List (Array Value))(w:World)(hn:n<=2000)(hd:A=none->c=0)(h5:∀v∈vs,v.size=5)(h1:∀u∈flat vs,u.oneCell'=true)(h:TabIn 5 w w.heap.size A n vs):
  Calls Tryz.prog 66 #[.slice A n c] w fun e w'=>∃v,e=.returned v/\w'.ownsRow w.heap.size 81 5 v n (flat vs)/\Below w.heap.size w w':=by
 obtain⟨i0,hi0,hz0,hz1,hz2⟩:=info_parts delRec_infos;have hl:=h.1
 cases A with
 |none=>
  obtain rfl:c=0:=hd rfl;have hn0:n=0:=by
   rcases Nat.eq_zero_or_pos n with q|q
   ·exact q
   ·obtain⟨g,o,e,_⟩:=h.2 q
    cases e
  subst hn0;have hx:vs= []:=List.length_eq_zero_iff.1 hl;subst hx;have he:∀W:World,(binOp .eql 74 (.slice none 0 0) (.slice none 0 0)).run Tryz.prog W=.ok (.bool true) W:=fun W=>Lib.run_eql_slice_nil W _ _ none 0 0 0 0 Tryz.underlying74
  go_enter Tryz.func66,Tryz.ntmps66
  go_wp2_with fail
  go_ret
  exact⟨_,rfl,World.ownsRow_nil _ _ _ _,Below.refl _ _⟩
 |some ad=>
  have hT:=h.below ((Below.refl w.heap.size w).alloc (Nat.le_refl _) (.cells #[] 81));have hk1:0+n<=maxLen:=by unfold maxLen;omega
  have hone:∀r∈vs,∀u∈r.toList,u.oneCell'=true:=fun r hr u hu=>h1 u (List.mem_flatMap.2 ⟨r,hr,hu⟩);clear h;have he:∀W:World,(binOp .eql 74 (.slice (some ad) n c) (.slice none 0 0)).run Tryz.prog W=.ok (.bool false) W:=fun W=>Lib.run_eql_slice_nil W _ _ (some ad) n c 0 0 Tryz.underlying74
  go_enter Tryz.func66,Tryz.ntmps66
  go_wp2_with (at_builtin;refine wpList_append_tab rfl (.tmp 5) (.tmp 6) 74 rfl w.heap.size 81 i0 _ 5 104 Tryz.underlying74 hi0 hz0 hz1 hz2 rfl (by decide) _ 0 [] rfl (own_empty w w.heap.size _ _ (Nat.le_refl _)) (some ad) n c w.heap.size vs rfl hT (fun h=>by cases h) h5 hone hk1 (by omega) (by simp) ?_;intro v4 w4 hown4 hg4)
  rw[List.nil_append,Nat.zero_add] at hown4;have hb:Below w.heap.size w w4:=((Below.refl w.heap.size w).alloc (Nat.le_refl _) (.cells #[] 81)).grown hg4 (by simp) (fun q hq=>((own_empty w w.heap.size 81 5 (Nat.le_refl _)).lt q hq).1);have HF:=Lib.hid (And.intro hown4 hb);clear hown4 hg4 hb hT
  go_wp2_with fail
  go_ret
  exact⟨_,rfl,HF.out.1,HF.out.2⟩
abbrev CopyS(g:Nat)(b c:Addr)(fl:St)(ov rv:Value)(W:World):Prop:=
 W.cell? ⟨g,0,none⟩=some (.pointer (some b))/\W.cell? ⟨g,1,none⟩=some (.pointer (some c))/\W.cell? ⟨g,2,none⟩=some (.int .i64 fl.1)/\W.cell? ⟨g,3,none⟩=some (.int .i64 fl.2)/\W.cell? ⟨g,4,none⟩=some ov/\W.cell? ⟨g,5,none⟩=some rv
theorem copy_s{g:Nat}{b c:Addr}{fl:St}{ov rv:Value}{W:World}(h:W.heap[g]?=some (.cells (logC b c fl ov rv) 76 (0,0))):CopyS g b c fl ov rv W:=six_cells h
theorem copy_step{g:Nat}{b c:Addr}{fl:St}{ov rv:Value}{W W':World}(h:CopyS g b c fl ov rv W)(hb:Below W.heap.size W W'):CopyS g b c fl ov rv W':=by
 have k:∀ {p:Addr}{v:Value},W.cell? p=some v->W'.cell? p=some v:=fun h=>(hb.cell (World.block_lt_of_cell? _ _ h)).trans h;exact⟨k h.1,k h.2.1,k h.2.2.1,k h.2.2.2.1,k h.2.2.2.2.1,k h.2.2.2.2.2⟩
theorem copy_alloc{g:Nat}{b c:Addr}{fl:St}{ov rv:Value}{W:World}(h:CopyS g b c fl ov rv W)(x:Obj):CopyS g b c fl ov rv (W.alloc x):=copy_step h ((Below.refl _ W).alloc (Nat.le_refl _) x)
theorem copy_drew{g:Nat}{b c:Addr}{fl:St}{ov rv:Value}{W:World}(h:CopyS g b c fl ov rv W):CopyS g b c fl ov rv W.drew:=h
set_option maxRecDepth 100000 in
set_option maxHeartbeats 3200000 in
theorem log_copy{H:GraphHave}{W:World}{S R:Nat->Prop}{a:Addr}{x:Lg}(h:LogIn H W S R a x)(hx:x.ok)(hl:x.L.length<=900):
    Calls Tryz.prog 31 #[.pointer (some a)] W fun e w'=>∃b T,e=.returned (.pointer (some b))/\LogIn H w' T R b x/\(∀i,T i->W.heap.size<=i)/\Below W.heap.size W w':=by
  obtain⟨g,b,c,Sb,Sa,ov,rv,rfl,-,h⟩:=h;obtain⟨A4,p4,rfl,hi4,-,-,hd4⟩:=h.ops_in;obtain⟨vs,v1,v2,v3,v4⟩:=h.parts.recs;obtain⟨A5,p5,rfl,hi5,-,-,hd5⟩:=tab_own v3 v1 v2;have hrl:=recL_len x.L x.B;have D1:Hid (∀W',Below W.heap.size W W'->Calls Tryz.prog 54 #[.pointer (some b)] W' fun e w'=>∃b1 T,e=.returned (.pointer (some b1))/\H.rep w' T b1 x.B/\(∀i,T i->W'.heap.size<=i)/\Below W'.heap.size W' w'):=Lib.hid fun W' hW=>H.copy b Sb x.B W' (h.step hW).parts.base hx.base.ok;have D2:Hid (∀W',Below W.heap.size W W'->Calls Tryz.prog 54 #[.pointer (some c)] W' fun e w'=>∃b1 T,e=.returned (.pointer (some b1))/\H.rep w' T b1 (graphL x)/\(∀i,T i->W'.heap.size<=i)/\Below W'.heap.size W' w'):=Lib.hid fun W' hW=>H.copy c Sa (graphL x) W' (h.step hW).parts.all (runG_fine hx.base _).ok;have D3:Hid (∀W',Below W.heap.size W W'->Calls Tryz.prog 55 #[.slice A4 x.L.length p4] W' fun e w'=>∃(A:Option Addr)(q:Nat),e=.returned (.slice A x.L.length q)/\w'.ownsRow W'.heap.size 37 13 (.slice A x.L.length q) x.L.length (flat (x.L.map opA))/\Below W'.heap.size W' w'):=Lib.hid fun W' hW=>(clone_code A4 x.L.length p4 x.L W' (by omega) hd4 ((hi4.below hW).more hW.size)).mono fun _ _ ⟨A,c,e,_,_,_,q,hb⟩=>⟨A,c,e,q.2,hb⟩;have D4:Hid (∀W',Below W.heap.size W W'->Calls Tryz.prog 66 #[.slice A5 (recL x.B x.L).length p5] W' fun e w'=>∃(A:Option Addr)(q:Nat),e=.returned (.slice A (recL x.B x.L).length q)/\w'.ownsRow W'.heap.size 81 5 (.slice A (recL x.B x.L).length q) (recL x.B x.L).length (flat vs)/\Below W'.heap.size W' w'):=Lib.hid fun W' hW=>(cloneRec_code A5 (recL x.B x.L).length p5 vs W' (by omega) hd5 v3 (recs_one v1 v4) ((hi5.below hW).more hW.size)).mono fun _ _ ⟨v,e,q,hb⟩=>by
    obtain⟨A,cq,rfl,-⟩:=tab_own v3 v1 q;exact⟨A,cq,e,q,hb⟩
  have HS0:=copy_s h.box;have HV:=Lib.hid (And.intro v1 (And.intro v3 v4));have HRL:Hid (∀i,R i->i<W.heap.size):=fun i hi=>h.parts.six.1 5 i hi;clear h v1 v2 v3 v4 hi4 hi5 hx;obtain⟨nr,hnr⟩:∃nr,nr=(recL x.B x.L).length:=⟨_,rfl⟩;obtain⟨no,hno⟩:∃no,no=x.L.length:=⟨_,rfl⟩;rw[<-hno] at D3 HS0;rw[<-hnr] at D4 HS0;have HN:=Lib.hid (And.intro hno hnr);clear hno hnr hrl hl hd4 hd5;have HS1:=copy_drew HS0
  go_enter Tryz.func31,Tryz.ntmps31
  go_upto_region 3 with fail
  unfold CopyS at HS0 HS1
  go_region_held3 (fun W=>W.cell? ⟨g,0,none⟩=some (.pointer (some b))/\W.cell? ⟨g,1,none⟩=some (.pointer (some c))/\W.cell? ⟨g,2,none⟩=some (.int .i64 x.fl.1)/\W.cell? ⟨g,3,none⟩=some (.int .i64 x.fl.2)/\W.cell? ⟨g,4,none⟩=some (.slice A4 no p4)/\W.cell? ⟨g,5,none⟩=some (.slice A5 nr p5))
    (first|(with_reducible assumption)|(with_reducible exact copy_drew (by assumption))|(with_reducible exact copy_alloc (by assumption) _)|(with_reducible exact copy_drew (copy_alloc (by assumption) _)))
    (first
      |(go_at_call 54;(with_reducible refine(D1.out _ ?_).mono ?_);(with_reducible (first|exact Below.refl _ _|exact(Below.refl _ _).drew));rintro e w1 ⟨b1,T1,rfl,k11,k12,hb1⟩;have hB1:Below W.heap.size W w1:=(by first|exact hb1|exact below_step ((Below.refl _ _).drew) hb1);have hS1:=copy_step HS0 hB1;unfold CopyS at hS1)
      |(go_at_call 54;(with_reducible refine(D2.out _ ?_).mono ?_);(with_reducible (first|exact hB1|exact hB1.drew));rintro e w2 ⟨b2,T2,rfl,k21,k22,hb2⟩;have hC2:Below w1.heap.size w1 w2:=(by first|exact hb2|exact below_step ((Below.refl _ _).drew) hb2);have hB2:=below_step hB1 hC2;have hS2:=copy_step HS0 hB2;unfold CopyS at hS2)
      |(go_at_call 55;(with_reducible refine(D3.out _ ?_).mono ?_);(with_reducible (first|exact hB2|exact hB2.drew));rintro e w3 ⟨E3,q3,rfl,k31,hb3⟩;have hC3:Below w2.heap.size w2 w3:=(by first|exact hb3|exact below_step ((Below.refl _ _).drew) hb3);have hB3:=below_step hB2 hC3;have hS3:=copy_step HS0 hB3;unfold CopyS at hS3)
      |(go_at_call 66;(with_reducible refine(D4.out _ ?_).mono ?_);(with_reducible (first|exact hB3|exact hB3.drew));rintro e w4 ⟨E4,q4,rfl,k41,hb4⟩;have hC4:Below w3.heap.size w3 w4:=(by first|exact hb4|exact below_step ((Below.refl _ _).drew) hb4);have hB4:=below_step hB3 hC4;have hS4:=copy_step HS0 hB4;unfold CopyS at hS4))
  all_goals
    have HF:Hid (∃b T,Ending.returned (.pointer (some ⟨w4.heap.size,0,none⟩))=.returned (.pointer (some b))/\LogIn H (w4.alloc (.cells (logC b1 b2 x.fl (.slice E3 no q3) (.slice E4 nr q4)) 76)) T R b x/\(∀i,T i->W.heap.size<=i)/\Below W.heap.size W (w4.alloc (.cells (logC b1 b2 x.fl (.slice E3 no q3) (.slice E4 nr q4)) 76))):=by
      obtain⟨e1,e2⟩:=HN.out;obtain⟨y1,y3,y4⟩:=HV.out;have sW:W.drew.heap.size=W.heap.size:=rfl;have s1:w1.drew.heap.size=w1.heap.size:=rfl;have s2:w2.drew.heap.size=w2.heap.size:=rfl;have s3:w3.drew.heap.size=w3.heap.size:=rfl;have hbA:Below w4.heap.size w4 (w4.alloc (.cells (logC b1 b2 x.fl (.slice E3 no q3) (.slice E4 nr q4)) 76)):=(Below.refl _ w4).alloc (Nat.le_refl _) _;have sA:(w4.alloc (.cells (logC b1 b2 x.fl (.slice E3 no q3) (.slice E4 nr q4)) 76)).heap.size=w4.heap.size+1:=by simp
      have l1:∀i,T1 i->W.heap.size<=i/\i<w1.heap.size:=fun i hi=>⟨k12 i hi,H.lt k11 i hi⟩;have l2:∀i,T2 i->w1.heap.size<=i/\i<w2.heap.size:=fun i hi=>⟨k22 i hi,H.lt k21 i hi⟩;have l3:∀i,(Value.slice E3 no q3).ownBlock=some i->w2.heap.size<=i/\i<w3.heap.size:=k31.lt;have l4:∀i,(Value.slice E4 nr q4).ownBlock=some i->w3.heap.size<=i/\i<w4.heap.size:=k41.lt;have m1:=hB1.size;have m2:=hC2.size;have m3:=hC3.size;have m4:=hC4.size;have c2:=below_step hC2 (below_step hC3 (below_step hC4 hbA));have c3:=below_step hC3 (below_step hC4 hbA);have c4:=below_step hC4 hbA;have hp:Parts H (w4.alloc (.cells (logC b1 b2 x.fl (.slice E3 no q3) (.slice E4 nr q4)) 76)) w4.heap.size b1 b2 T1 T2 R x.B (graphL x) (.slice E3 no q3) x.L (.slice E4 nr q4) (recL x.B x.L):=by
        refine⟨H.keep k11 fun i hi=>c2.block i (l1 i hi).2,H.keep k21 fun i hi=>c3.block i (l2 i hi).2,?_,⟨vs,y1,?_,y3,fun j r v hr hv=>(y4 j r v hr hv).step (below_step hB4 hbA)⟩,six_made (a:=W.heap.size) (b:=w1.heap.size) (c:=w2.heap.size) (d:=w3.heap.size) m1 m2 m3 m4 (by omega) l1 l2 l3 l4 HRL.out⟩
        · rw[<-e1]
          exact own_lower (own_call k31 c4) (Nat.zero_le _)
        · rw[<-e2]
          exact own_lower (own_call k41 hbA) (Nat.zero_le _)
      refine⟨⟨w4.heap.size,0,none⟩,Own5 w4.heap.size T1 T2 (.slice E3 no q3) (.slice E4 nr q4),rfl,⟨w4.heap.size,b1,b2,T1,T2,(.slice E3 no q3),(.slice E4 nr q4),rfl,rfl,heap_alloc_new w4 _,hp⟩,fun i hi=>?_,below_step hB4 hbA⟩;rcases hi with q|q|q|q|q
      · omega
      · exact(l1 i q).1
      · have:=(l2 i q).1;omega
      · have:=(l3 i q).1;omega
      · have:=(l4 i q).1;omega
    clear HS0 HS1 hS1 hS2 hS3 hS4 k11 k12 k21 k22 k31 k41 hb1 hb2 hb3 hb4
    go_wp2_with fail
    go_ret
    exact HF.out
theorem fl_step{u:Nat}{fl:St}{W W':World}(h:W.cell? ⟨u,0,none⟩=some (.int .i64 fl.1)/\W.cell? ⟨u,1,none⟩=some (.int .i64 fl.2))(hb:Below W.heap.size W W'):W'.cell? ⟨u,0,none⟩=some (.int .i64 fl.1)/\W'.cell? ⟨u,1,none⟩=some (.int .i64 fl.2):=
 ⟨(hb.cell (World.block_lt_of_cell? _ _ h.1)).trans h.1,(hb.cell (World.block_lt_of_cell? _ _ h.2)).trans h.2⟩
theorem fl_alloc{u:Nat}{fl:St}{W:World}(h:W.cell? ⟨u,0,none⟩=some (.int .i64 fl.1)/\W.cell? ⟨u,1,none⟩=some (.int .i64 fl.2))(x:Obj):(W.alloc x).cell? ⟨u,0,none⟩=some (.int .i64 fl.1)/\(W.alloc x).cell? ⟨u,1,none⟩=some (.int .i64 fl.2):=fl_step h ((Below.refl _ W).alloc (Nat.le_refl _) x)
theorem fl_drew{u:Nat}{fl:St}{W:World}(h:W.cell? ⟨u,0,none⟩=some (.int .i64 fl.1)/\W.cell? ⟨u,1,none⟩=some (.int .i64 fl.2)):W.drew.cell? ⟨u,0,none⟩=some (.int .i64 fl.1)/\W.drew.cell? ⟨u,1,none⟩=some (.int .i64 fl.2):=h
set_option maxRecDepth 100000 in
set_option maxHeartbeats 3200000 in
theorem log_from{H:GraphHave}(U:UndoHave H)(b:Addr)(S:Nat->Prop)(g:Gr)(fl:St)(A:Option Addr)(n c:Nat)(l:List Opn)(W:World)(T:Tab W)(hr:H.rep W S b g)(hg:g.fine)(hfl:mayB fl.1 fl.2=true)(hn:n<=1000)(hl:∀o∈l,OpFit o)(hi:OpsIn W W.heap.size A n l):
    Calls Tryz.prog 29 #[.pointer (some b),.agg (stA fl),.slice A n c] W fun e w'=>∃a T R,e=.returned (.pointer (some a))/\LogIn H w' T R a (fromL g fl l)/\(∀i,T i\/R i->W.heap.size<=i)/\Below W.heap.size W w':=by
  obtain⟨u,hu⟩:∃u,u=W.heap.size:=⟨_,rfl⟩;have H0:Hid (Held W [(u,.cells #[.int .i64 fl.1,.int .i64 fl.2] 24)] (W.alloc (.cells #[.int .i64 fl.1,.int .i64 fl.2] 24))):=Lib.hid ((Held.refl W).alloc _ hu.symm);have HT:=Lib.hid T;have HGF:=Lib.hid hg;have HFD0:=Lib.hid hl;have HI:=Lib.hid hi;have DC:Hid (∀W',Below W.heap.size W W'->Calls Tryz.prog 54 #[.pointer (some b)] W' fun e w'=>∃b1 T,e=.returned (.pointer (some b1))/\H.rep w' T b1 g/\(∀i,T i->W'.heap.size<=i)/\Below W'.heap.size W' w'):=Lib.hid fun W' hW=>H.copy b S g W' (H.keep hr fun i hi=>hW.block i (H.lt hr i hi)) hg.ok;have HFL:Hid (mayB fl.1 fl.2=true):=hfl;have hll:=hi.len;have hsl:=sort_len l;clear T hr hg hl hi hfl;unfold stA
  go_enter Tryz.func29,Tryz.ntmps29
  go_upto_region 1 with fail
  rw[<-hu];change Code.wp _ _ _ _ (W.alloc (.cells #[.int .i64 fl.1,.int .i64 fl.2] 24));generalize W.alloc (.cells #[.int .i64 fl.1,.int .i64 fl.2] 24)=W0 at H0 ⊢;have HUW:Hid (u=W.heap.size):=hu;clear hu;obtain⟨s0,s1⟩:=two_cells (H0.out.at 0 rfl);have DM:=Lib.hid (may_any fl.1 fl.2 W0);rw[HFL.out] at DM
  go_wp2_with fail
  refine DM.out.mono ?_;rintro e W1 ⟨rfl,hb1⟩;have H1:=Lib.hid (H0.out.step hb1);clear s0 s1 DM hb1 H0 HFL;have hS0:=two_cells (H1.out.at 0 rfl);have hS1:=fl_drew hS0;have B1:=H1.out.below
  go_upto_region 3 with fail
  go_region_held3 (fun W=>W.cell? ⟨u,0,none⟩=some (.int .i64 fl.1)/\W.cell? ⟨u,1,none⟩=some (.int .i64 fl.2))
    (first|(with_reducible assumption)|(with_reducible exact fl_drew (by assumption))|(with_reducible exact fl_alloc (by assumption) _)|(with_reducible exact fl_drew (fl_alloc (by assumption) _)))
    (first
      |(go_at_call 54;(fail_if_success (have:=hB3));(with_reducible refine(DC.out _ ?_).mono ?_);(with_reducible (first|exact B1|exact B1.drew));rintro e w3 ⟨b1,T1,rfl,k31,k32,hb3⟩;have hB3:Below W1.heap.size W1 w3:=(by first|exact hb3|exact below_step ((Below.refl _ _).drew) hb3);have hS3:=fl_step hS0 hB3;have B3:=below_step B1 hB3)
      |(go_at_call 54;(with_reducible refine(DC.out _ ?_).mono ?_);(with_reducible (first|exact B3|exact B3.drew));rintro e w4 ⟨b2,T2,rfl,k41,k42,hb4⟩;have hB4:Below w3.heap.size w3 w4:=(by first|exact hb4|exact below_step ((Below.refl _ _).drew) hb4);have hS4:=fl_step hS3 hB4;have B4:=below_step B3 hB4))
  all_goals
    obtain⟨g5,hg5⟩:∃g5,g5=w4.heap.size:=⟨_,rfl⟩;have hbA:Below w4.heap.size w4 (w4.alloc (.cells (logC b1 b2 fl (.slice none 0 0) (.slice none 0 0)) 76)):=(Below.refl _ w4).alloc (Nat.le_refl _) _;have sW:W1.drew.heap.size=W1.heap.size:=rfl;have s3:w3.drew.heap.size=w3.heap.size:=rfl;have L5:Hid (LogSt H (w4.alloc (.cells (logC b1 b2 fl (.slice none 0 0) (.slice none 0 0)) 76)) g5 b1 b2 fl T1 T2 (fun _=>False) g g (.slice none 0 0) [] (.slice none 0 0) []):=by
      have l1:∀i,T1 i->W1.heap.size<=i/\i<w3.heap.size:=fun i hi=>⟨k32 i hi,H.lt k31 i hi⟩;have l2:∀i,T2 i->w3.heap.size<=i/\i<w4.heap.size:=fun i hi=>⟨k42 i hi,H.lt k41 i hi⟩;have c3:=below_step hB4 hbA;subst hg5;refine⟨heap_alloc_new w4 _,H.keep k31 fun i hi=>c3.block i (l1 i hi).2,H.keep k41 fun i hi=>hbA.block i (l2 i hi).2,World.ownsRow_nil _ _ _ _,⟨[],rfl,World.ownsRow_nil _ _ _ _,(fun _ h=>nomatch h),fun j r v h=>by simp at h⟩,six_made (a:=W1.heap.size) (b:=w3.heap.size) (c:=w4.heap.size) (d:=w4.heap.size) hB3.size hB4.size (Nat.le_refl _) (Nat.le_refl _) (by simp) l1 l2 (fun i h=>by simp[Value.ownBlock] at h) (fun i h=>by simp[Value.ownBlock] at h) fun i h=>h.elim⟩
    have G5:Hid (∀i,Own5 g5 T1 T2 (.slice none 0 0) (.slice none 0 0) i->W.heap.size<=i):=Lib.hid fun i hi=>by
      have q1:=B1.size;have q3:=hB3.size;have q4:=hB4.size;rcases hi with q|q|q|q|q
      · omega
      · have:=k32 i q;omega
      · have:=k42 i q;omega
      · simp[Value.ownBlock] at q
      · simp[Value.ownBlock] at q
    have B5:=Lib.hid (below_step B4 hbA);have S5:=Lib.hid (fl_step hS4 hbA);have E5:Hid (∀i,Own5 g5 T1 T2 (.slice none 0 0) (.slice none 0 0) i->i<(w4.alloc (.cells (logC b1 b2 fl (.slice none 0 0) (.slice none 0 0)) 76)).heap.size):=Lib.hid fun i hi=>L5.out.lt i (.inl hi);clear hS0 hS1 hS3 hS4 k31 k32 k41 k42 hb3 hb4 hB3 hB4 B3 B4 B1 hbA sW s3 H1 DC
    go_upto_region 4 with fail
    rw[<-hg5];clear hg5;change Code.wp _ _ _ _ (w4.alloc (.cells (logC b1 b2 fl (.slice none 0 0) (.slice none 0 0)) 76));generalize w4.alloc (.cells (logC b1 b2 fl (.slice none 0 0) (.slice none 0 0)) 76)=w5 at L5 B5 S5 E5 ⊢;have DS:=Lib.hid (sort_new A n c l w5 (tab_below HT.out (Nat.le_refl _) B5.out) hn HFD0.out ((HI.out.below B5.out).more B5.out.size))
    go_wp2_with fail
    refine DS.out.mono ?_;rintro e w6 ⟨v6,rfl,ho6,hb6⟩;have B6:=Lib.hid (below_step B5.out hb6);have S6:=fl_step S5.out hb6;have L6:=Lib.hid (L5.out.step hb6);obtain⟨A6,q6,rfl,hi6,hc6,hm6,hd6⟩:=ops_own rfl ho6;have HOW:=Lib.hid ho6;have HBL:Hid (∀p,A6=some p->w5.heap.size<=p.block):=Lib.hid fun p hp=>by
      subst hp;exact(ho6.lt p.block rfl).1
    have DB:=Lib.hid (below_code A6 (sortO l).length q6 (sortO l) fl w6 (by omega) (sort_rises l) hi6);have HI6:=Lib.hid hi6;have hkl:=below_le (sortO l) fl;obtain⟨k,hk⟩:∃k,k=belowO (sortO l) fl:=⟨_,rfl⟩;rw[<-hk] at DB hkl;have HK:Hid (k=belowO (sortO l) fl):=hk;have HFD:Hid (∀o∈(sortO l).drop k,OpFit o):=Lib.hid fun o ho=>HFD0.out o (sort_sub o (List.drop_subset _ _ ho));have HLN:Hid ((sortO l).length<=1000):=by show _<=_;omega
    obtain⟨m,hm⟩:∃m,m=(sortO l).length:=⟨_,rfl⟩;have HM:Hid (m=(sortO l).length):=hm;rw[<-hm] at DB hkl HI6 hc6 HLN ⊢;obtain⟨s0,s1⟩:=S6;clear hb6 ho6 hi6 hk hm DS S5 L5 B5 hsl
    go_wp2_with fail
    refine DB.out.mono ?_;rintro e w7 ⟨rfl,hb7⟩;have B7:=Lib.hid (below_step B6.out hb7);have L7:=Lib.hid (L6.out.step hb7);have HI7:=Lib.hid ((HI6.out.below hb7).more hb7.size);have TT:Hid (Tab w7/\¬Own5 g5 T1 T2 (.slice none 0 0) (.slice none 0 0) 0):=⟨tab_below HT.out (Nat.le_refl _) B7.out,fun q=>by
      have h1:=G5.out _ q;have h2:=World.block_lt_of_cell? _ _ (HT.out.at 0 rfl);dsimp only at h2
      omega⟩
    have T6:=hb7;clear hb7 s0 s1 DB L6 B6 HI6 hll;have i1:(0:Int)<=(k:Int):=by omega
    have i2:(k:Int)<=(m:Int):=by omega
    have i3:(k:Int)<=(q6:Int):=by omega
    cases A6 with
    |none=>
      obtain rfl:q6=0:=hd6 rfl;obtain rfl:m=0:=by omega
      obtain rfl:k=0:=by omega
      have DD:=Lib.hid (each_code U L7.out TT.out.1 TT.out.2 HGF.out none 0 0 ((sortO l).drop 0) HFD.out (by have:=HLN.out;omega) (Nat.zero_le _) (Nat.zero_le _) (by rw[List.drop_of_length_le (by have:=HM.out;omega)];exact ops_none _) (fun h=>absurd h (Nat.lt_irrefl 0)));unfold LogLeft at DD;clear T6 HOW
      go_wp2_with fail
      refine DD.out.mono ?_;rintro e w8 ⟨Sa8,R8,ov8,rv8,rfl,h8,t8⟩;rw[List.nil_append,List.nil_append] at h8;have HF:Hid (∃T R,LogIn H w8 T R ⟨g5,0,none⟩ (fromL g fl l)/\(∀i,T i\/R i->W.heap.size<=i)/\Below W.heap.size W w8):=by
        rw[from_cut];have hk:=HK.out;rw[<-hk];refine⟨_,R8,⟨g5,b1,b2,T1,Sa8,ov8,rv8,rfl,rfl,h8⟩,fun i hi=>?_,B7.out.trans (t8.2.2.below (fun i hi=>G5.out i hi) B7.out.size)⟩;rcases hi with q|q
        · rcases t8.1 i q with r|r
          · exact G5.out i r
          · exact Nat.le_trans B7.out.size r
        · rcases t8.2.1 i q with r|r
          · exact r.elim
          · exact Nat.le_trans B7.out.size r
      clear h8 t8 DD
      go_wp2_with fail
      go_ret
      obtain⟨T,R,q⟩:=HF.out;exact⟨⟨g5,0,none⟩,T,R,rfl,q⟩
    |some ad=>
      obtain⟨A',hA',hO',hP'⟩:∃A':Option Addr,(if q6=k then some ad else some (ad.add (k*13)))=A'/\Hid (OpsIn w7 w7.heap.size A' (m-k) ((sortO l).drop k))/\Hid (0<m-k->∀p,A'=some p->¬Own5 g5 T1 T2 (.slice none 0 0) (.slice none 0 0) p.block):=by
        by_cases hz:k<m
        · obtain⟨g9,o9,e9,hg9,_⟩:=HI7.out.2 (by omega)
          injection e9 with e9
          subst e9;have hq:¬q6=k:=by omega
          have hd:=ops_drop HI7.out (k:=k) (by omega);refine⟨some ⟨g9,o9+k*13,none⟩,by rw[if_neg hq,Addr.add_lit],hd,fun _ p hp q=>?_⟩
          injection hp with hp
          subst hp;have h1:=E5.out _ q;have h2:=HBL.out ⟨g9,o9,none⟩ rfl;dsimp only at h1 h2;omega
        · refine⟨_,rfl,?_,fun h=>absurd h (by omega)⟩
          rw[List.drop_of_length_le (by have:=HM.out;omega),show m-k=0 by omega];exact ops_none _
      have DD:=Lib.hid (each_code U L7.out TT.out.1 TT.out.2 HGF.out A' (m-k) (q6-k) ((sortO l).drop k) HFD.out (by have:=HLN.out;omega) (Nat.zero_le _) (Nat.zero_le _) hO'.out hP'.out);unfold LogLeft at DD;clear T6 HOW
      go_wp2_with fail
      refine DD.out.mono ?_;rintro e w8 ⟨Sa8,R8,ov8,rv8,rfl,h8,t8⟩;rw[List.nil_append,List.nil_append] at h8;have HF:Hid (∃T R,LogIn H w8 T R ⟨g5,0,none⟩ (fromL g fl l)/\(∀i,T i\/R i->W.heap.size<=i)/\Below W.heap.size W w8):=by
        rw[from_cut];have hk:=HK.out;rw[<-hk];refine⟨_,R8,⟨g5,b1,b2,T1,Sa8,ov8,rv8,rfl,rfl,h8⟩,fun i hi=>?_,B7.out.trans (t8.2.2.below (fun i hi=>G5.out i hi) B7.out.size)⟩;rcases hi with q|q
        · rcases t8.1 i q with r|r
          · exact G5.out i r
          · exact Nat.le_trans B7.out.size r
        · rcases t8.2.1 i q with r|r
          · exact r.elim
          · exact Nat.le_trans B7.out.size r
      clear h8 t8 DD
      go_wp2_with fail
      go_ret
      obtain⟨T,R,q⟩:=HF.out;exact⟨⟨g5,0,none⟩,T,R,rfl,q⟩
set_option maxRecDepth 100000 in
theorem log_from_nil(fl:St)(A:Option Addr)(n c:Nat)(W:World):
  Calls Tryz.prog 29 #[.pointer none,.agg (stA fl),.slice A n c] W fun e w'=>e=.returned (.pointer none)/\Below W.heap.size W w':=by
 have hb:Below W.heap.size W (W.alloc (.cells #[.int .i64 fl.1,.int .i64 fl.2] 24)):=(Below.refl _ W).alloc (Nat.le_refl _) _;have HB:=Lib.hid hb;clear hb;unfold stA
 go_enter Tryz.func29,Tryz.ntmps29
 go_wp2_with fail
 go_ret
 exact⟨rfl,HB.out⟩
theorem from_none:fromL newG (0,0) []=newL:=rfl
set_option maxRecDepth 100000 in
theorem log_new{H:GraphHave}(U:UndoHave H)(W:World)(T:Tab W):
  Calls Tryz.prog 9 #[] W fun e w'=>∃a T R,e=.returned (.pointer (some a))/\LogIn H w' T R a newL/\(∀i,T i\/R i->W.heap.size<=i)/\Below W.heap.size W w':=by
 have HT:=Lib.hid T;clear T
 go_enter Tryz.func9,Tryz.ntmps9
 go_wp2_with fail
 refine(H.new _).mono ?_;rintro e w1 ⟨b,S,rfl,h1,h2,hb1⟩;have D:=Lib.hid (log_from U b S newG (0,0) none 0 0 [] w1 (tab_below HT.out (Nat.le_refl _) hb1) h1 new_fine (by decide) (by omega) (fun _ h=>nomatch h) (ops_none _));rw[from_none] at D;have B1:=Lib.hid hb1;unfold stA at D;clear h1 h2 hb1
 go_wp2_with fail
 refine D.out.mono ?_;rintro e w2 ⟨a,T,R,rfl,k1,k2,hb2⟩;have HF:Hid (∃T R,LogIn H w2 T R a newL/\(∀i,T i\/R i->W.heap.size<=i)/\Below W.heap.size W w2):=⟨T,R,k1,fun i hi=>Nat.le_trans B1.out.size (k2 i hi),below_step B1.out hb2⟩;clear k1 k2 hb2 D
 go_wp2_with fail
 go_ret
 obtain⟨T,R,q⟩:=HF.out;exact⟨a,T,R,rfl,q⟩
theorem put_parts{x:List Opn}{o:Opn}(h:(GraphMath.putO x o).2.2=true):(GraphMath.putO x o).2.1<=x.length/\(GraphMath.putO x o).1=x.take (GraphMath.putO x o).2.1++o::x.drop (GraphMath.putO x o).2.1:=by
 unfold GraphMath.putO at h ⊢;by_cases hm:mayO o=false
 ·rw[if_pos hm] at h;cases h
 rw[if_neg hm] at h ⊢;by_cases hh:hasO x (oSt o)=true
 ·rw[if_pos hh] at h;cases h
 rw[if_neg hh];exact⟨place_le x (oSt o),putIn_place⟩
abbrev AddS(g u:Nat)(o:Opn)(v:Value)(W:World):Prop:=
 W.cell? ⟨g,4,none⟩=some v/\W.cell? ⟨u,0,none⟩=some (.int .i64 o.st)/\W.cell? ⟨u,1,none⟩=some (.int .i64 o.sr)/\W.cell? ⟨u,2,none⟩=some (.int .i64 o.k)/\W.cell? ⟨u,3,none⟩=some (.int .i64 o.pt)/\W.cell? ⟨u,4,none⟩=some (.int .i64 o.pr)/\W.cell? ⟨u,5,none⟩=some (.int .i64 o.it)/\W.cell? ⟨u,6,none⟩=some (.int .i64 o.ir)/\W.cell? ⟨u,7,none⟩=some (.int .i64 o.tt)/\W.cell? ⟨u,8,none⟩=some (.int .i64 o.tr)/\W.cell? ⟨u,9,none⟩=some (.string o.name)/\W.cell? ⟨u,10,none⟩=some (.string o.new)/\W.cell? ⟨u,11,none⟩=some (.int .i64 o.off)/\W.cell? ⟨u,12,none⟩=some (.string o.data)
theorem add_drew{g u:Nat}{o:Opn}{v:Value}{W:World}(h:AddS g u o v W):AddS g u o v W.drew:=h
theorem add_step{g u:Nat}{o:Opn}{v:Value}{W W':World}(h:AddS g u o v W)(hb:Below W.heap.size W W'):AddS g u o v W':=by
 have k:∀ {p:Addr}{v:Value},W.cell? p=some v->W'.cell? p=some v:=fun h=>(hb.cell (World.block_lt_of_cell? _ _ h)).trans h;obtain⟨h1,h2,h3,h4,h5,h6,h7,h8,h9,h10,h11,h12,h13,h14⟩:=h;exact⟨k h1,k h2,k h3,k h4,k h5,k h6,k h7,k h8,k h9,k h10,k h11,k h12,k h13,k h14⟩
theorem turned_end{H:GraphHave}{W w':World}{g:Nat}{b c:Addr}{Sb Sa R Sb' Sa' R':Nat->Prop}{ov rv ov' rv':Value}{x:Lg}(h:LogSt H w' g b c x.fl Sb' Sa' R' x.B (graphL x) ov' x.L rv' (recL x.B x.L))(t:Turned g Sb Sa R ov rv W Sb' Sa' R' ov' rv' w'):
  ∃S' R',LogIn H w' S' R' ⟨g,0,none⟩ x/\(∀i,S' i->Own5 g Sb Sa ov rv i\/W.heap.size<=i)/\(∀i,R' i->R i\/W.heap.size<=i)/\But (Own5 g Sb Sa ov rv) W w':=
 ⟨_,R',⟨g,b,c,Sb',Sa',ov',rv',rfl,rfl,h⟩,t.1,t.2.1,t.2.2⟩
def Done(H:GraphHave)(g:Nat)(Sb Sa R:Nat->Prop)(ov rv:Value)(W:World)(x:Lg)(v:Value)(e:Ending)(w':World):Prop:=
 e=.returned v/\∃S' R',LogIn H w' S' R' ⟨g,0,none⟩ x/\(∀i,S' i->Own5 g Sb Sa ov rv i\/W.heap.size<=i)/\(∀i,R' i->R i\/W.heap.size<=i)/\But (Own5 g Sb Sa ov rv) W w'
set_option maxRecDepth 100000 in
set_option maxHeartbeats 3200000 in
theorem log_add{H:GraphHave}(U:UndoHave H){W:World}{g:Nat}{b c:Addr}{Sb Sa R:Nat->Prop}{ov rv:Value}{x:Lg}(h:LogSt H W g b c x.fl Sb Sa R x.B (graphL x) ov x.L rv (recL x.B x.L))(T:Tab W)(hT:¬Own5 g Sb Sa ov rv 0)(hx:x.ok)(hl:x.L.length<=900)(hf:∀o∈x.L,OpFit o)(o:Opn)(ho:OpFit o):
    Calls Tryz.prog 13 #[.pointer (some ⟨g,0,none⟩),.agg (opA o)] W (Done H g Sb Sa R ov rv W (addL x o).1 (.bool (addL x o).2)):=by
  obtain⟨A4,p4,hov,hi4,hc4,hm4,hd4⟩:=h.ops_in;obtain⟨u,hu⟩:∃u,u=W.heap.size:=⟨_,rfl⟩;have H0:Hid (Held W [(u,.cells (opA o) 37)] (W.alloc (.cells (opA o) 37))):=Lib.hid ((Held.refl W).alloc _ hu.symm);have DA:Hid (∀W',Below W.heap.size W W'->Calls Tryz.prog 37 #[.pointer (some ⟨g,0,none⟩),.agg #[.int .i64 o.st,.int .i64 o.sr]] W' fun e w'=>e=.returned (.bool (lessS x.fl (oSt o)))/\Below W'.heap.size W' w'):=Lib.hid fun W' hW=>(h.step hW).above (oSt o);have DP:Hid (∀W',Below W.heap.size W W'->Calls Tryz.prog 45 #[.slice A4 x.L.length p4,.agg #[.int .i64 o.st,.int .i64 o.sr,.int .i64 o.k,.int .i64 o.pt,.int .i64 o.pr,.int .i64 o.it,.int .i64 o.ir,.int .i64 o.tt,.int .i64 o.tr,.string o.name,.string o.new,.int .i64 o.off,.string o.data]] W' fun e w'=>∃(B:Option Addr)(k:Nat),e=.returned (.tuple #[.slice B (GraphMath.putO x.L o).1.length k,.int .i64 ((GraphMath.putO x.L o).2.1:Int),.bool (GraphMath.putO x.L o).2.2])/\OpsIn w' w'.heap.size B (GraphMath.putO x.L o).1.length (GraphMath.putO x.L o).1/\(GraphMath.putO x.L o).1.length<=k/\k<=maxLen/\Made W'.heap.size w' B k (GraphMath.putO x.L o).1/\Below W'.heap.size W' w'):=Lib.hid fun W' hW=>
    put_code A4 x.L.length p4 x.L o W' (tab_below T (Nat.le_refl _) hW) (by omega) hc4 hm4 hd4 ho hx.rises ((hi4.below hW).more hW.size)
  have HA:Hid (addL x o=if lessS x.fl (oSt o)=true then(⟨x.B,x.fl,(GraphMath.putO x.L o).1⟩,(GraphMath.putO x.L o).2.2) else(x,false)):=rfl;have HNO:Hid ((GraphMath.putO x.L o).2.2=false->(GraphMath.putO x.L o).1=x.L):=put_no;have HYE:Hid ((GraphMath.putO x.L o).2.2=true->(GraphMath.putO x.L o).2.1<=x.L.length/\(GraphMath.putO x.L o).1=x.L.take (GraphMath.putO x.L o).2.1++o::x.L.drop (GraphMath.putO x.L o).2.1):=put_parts;have HS:=Lib.hid h;have HT:=Lib.hid (And.intro T hT);have HX:=Lib.hid hx;have HFT:=Lib.hid (And.intro hf ho);have HOV:=Lib.hid hov;have hug:∀W',Below W.heap.size W W'->W'.cell? ⟨g,4,none⟩=some (.slice A4 x.L.length p4):=fun W' hW=>by
    have:=(six_cells (h.step hW).box).2.2.2.2.1;rw[hov] at this;exact this
  have HUG:=Lib.hid hug;generalize addL x o=Q at HA ⊢;generalize GraphMath.putO x.L o=P at DP HA HNO HYE;obtain⟨P1,P2,P3⟩:=P;dsimp only at HA HNO HYE DP;obtain⟨lv,hlv⟩:∃lv,lv=lessS x.fl (oSt o):=⟨_,rfl⟩;rw[<-hlv] at DA HA;clear h T hT hx hf ho hug hov hi4 hlv;unfold opA
  go_enter Tryz.func13,Tryz.ntmps13
  go_upto_region 1 with fail
  rw[<-hu];change Code.wp _ _ _ _ (W.alloc (.cells (opA o) 37));generalize W.alloc (.cells (opA o) 37)=W1 at H0 ⊢;clear hu;obtain⟨c0,c1,-⟩:=op_cells (o:=o) (g:=u) (H0.out.at 0 rfl);have D1:=Lib.hid (DA.out _ H0.out.below);clear DA
  go_wp2_with fail
  refine D1.out.mono ?_;rintro e w2 ⟨rfl,hb2⟩;have H2:=Lib.hid (H0.out.step hb2);clear D1 hb2 c0 c1 H0
  cases lv with
  |false=>
    have HR:Hid (Q=(x,false)):=HA.out
    go_wp2_with fail
    go_ret
    rw[HR.out];exact⟨rfl,turned_end (HS.out.step H2.out.below) (Turned.refl.step H2.out.below)⟩
  |true=>
    have HR:Hid (Q=(⟨x.B,x.fl,P1⟩,P3)):=HA.out;have hS0:AddS g u o (.slice A4 x.L.length p4) w2:=⟨HUG.out _ H2.out.below,op_cells (H2.out.at 0 rfl)⟩;have hS1:=add_drew hS0;have B2:=H2.out.below;obtain⟨no,hno⟩:∃no,no=x.L.length:=⟨_,rfl⟩;rw[<-hno] at hS0 hS1 DP;have HN:=Lib.hid hno;clear HA hno;unfold AddS at hS0 hS1
    go_upto_region 3 with fail
    go_region_held3 (fun W=>W.cell? ⟨g,4,none⟩=some (.slice A4 no p4)/\W.cell? ⟨u,0,none⟩=some (.int .i64 o.st)/\W.cell? ⟨u,1,none⟩=some (.int .i64 o.sr)/\W.cell? ⟨u,2,none⟩=some (.int .i64 o.k)/\W.cell? ⟨u,3,none⟩=some (.int .i64 o.pt)/\W.cell? ⟨u,4,none⟩=some (.int .i64 o.pr)/\W.cell? ⟨u,5,none⟩=some (.int .i64 o.it)/\W.cell? ⟨u,6,none⟩=some (.int .i64 o.ir)/\W.cell? ⟨u,7,none⟩=some (.int .i64 o.tt)/\W.cell? ⟨u,8,none⟩=some (.int .i64 o.tr)/\W.cell? ⟨u,9,none⟩=some (.string o.name)/\W.cell? ⟨u,10,none⟩=some (.string o.new)/\W.cell? ⟨u,11,none⟩=some (.int .i64 o.off)/\W.cell? ⟨u,12,none⟩=some (.string o.data))
      (first|(with_reducible assumption)|(with_reducible exact add_drew (by assumption)))
      (first
        |(go_at_call 45;(with_reducible refine(DP.out _ ?_).mono ?_);(with_reducible (first|exact B2|exact B2.drew));rintro e w3 ⟨B3,k3,rfl,p1,p2,p3,p5,hb3⟩;have hB3:Below w2.heap.size w2 w3:=(by first|exact hb3|exact below_step ((Below.refl _ _).drew) hb3);have hS3:=add_step hS0 hB3;unfold AddS at hS3))
    have B3':=below_step B2 hB3;have L3:=Lib.hid (HS.out.step B3');have T3:=Lib.hid (Turned.refl (g:=g) (Sb:=Sb) (Sa:=Sa) (R:=R) (ov:=ov) (rv:=rv)|>.step B3');have TB3:=Lib.hid (tab_below HT.out.1 (Nat.le_refl _) B3');clear hS0 hS1 hS3 DP B2
    cases P3 with
    |false=>
      have HR2:Hid (Q=(x,false)):=by
        unfold Hid;rw[HR.out,HNO.out rfl]
      clear hb3 p1 p2 p3 p5
      go_wp2_with fail
      go_ret
      rw[HR2.out];exact⟨rfl,turned_end L3.out T3.out⟩
    |true=>
      obtain⟨hpl,hP1⟩:=HYE.out rfl;have hP1l:P1.length=x.L.length+1:=by
        rw[hP1,List.length_append,List.length_cons,List.length_take,List.length_drop];omega
      have hdrop:P1.drop P2=o::x.L.drop P2:=by
        rw[hP1];exact List.drop_left' (by rw[List.length_take];omega)
      have hjoin:x.L.take P2++P1.drop P2=P1:=by rw[hdrop,<-hP1]
      obtain⟨g9,o9,hB9,hg9,_⟩:=p1.2 (by omega);have hnew:W.heap.size<=g9:=by
        have h5:=(p5.2.lt g9 (by rw[hB9];rfl)).1;have s2:=H2.out.below.size;have sd:w2.drew.heap.size=w2.heap.size:=rfl;omega
      subst hB9;have DBK:=Lib.hid (back_code U L3.out HX.out.base HFT.out.1 (by omega) P2 hpl);have HP:=Lib.hid (And.intro p1 (And.intro hg9 hnew));have HJ:=Lib.hid (And.intro hjoin (And.intro hP1l hdrop));have HPL:=Lib.hid hpl;have hpk:¬k3=P2:=by omega
      have i1:(0:Int)<=(P2:Int):=by omega
      have i2:(P2:Int)<=(P1.length:Int):=by omega
      have i3:(P2:Int)<=(k3:Int):=by omega
      have hm3:P1.length<=k3:=p2;unfold LogLeft at DBK;clear p1 p2 p3 p5 hb3 hB3 B3' hpl hP1 hP1l hdrop hjoin hg9 hnew HNO HYE
      go_wp2_with fail
      refine DBK.out.mono ?_;rintro e w4 ⟨Sa4,R4,ov4,rv4,rfl,h4,t4⟩;have hown:∀i,Own5 g Sb Sa4 ov4 rv4 i->Own5 g Sb Sa ov rv i\/w3.heap.size<=i:=t4.1;have hlt5:∀i,Own5 g Sb Sa ov rv i->i<W.heap.size:=fun i hi=>HS.out.lt i (.inl hi);have hn9:¬Own5 g Sb Sa ov rv g9:=fun q=>by
        have h1:=hlt5 _ q;have h2:=HP.out.2.2;omega
      have hkeep:w4.heap[g9]?=w3.heap[g9]? :=t4.2.2.block g9 HP.out.2.1 hn9;have hO4:OpsIn w4 w4.heap.size (some ⟨g9,o9,none⟩) P1.length P1:=TabIn.keep HP.out.1 (fun _ p hp=>by
        injection hp with hp
        subst hp
        exact hkeep) t4.2.2.size
      have hO5:=ops_drop hO4 (k:=P2) (by have:=HJ.out.2.1;have:=HPL.out;omega);have hn94:¬Own5 g Sb Sa4 ov4 rv4 g9:=fun q=>by
        rcases hown _ q with q|q
        · exact hn9 q
        · have:=HP.out.2.1;omega
      have TB4:=tab_but TB3.out t4.2.2 HT.out.2;have hT4:¬Own5 g Sb Sa4 ov4 rv4 0:=fun q=>by
        rcases hown _ q with q|q
        · exact HT.out.2 q
        · have:=World.block_lt_of_cell? _ _ (TB3.out.at 0 rfl)
          dsimp only at this;omega
      have hfd:∀a∈P1.drop P2,OpFit a:=fun a ha=>by
        rw[HJ.out.2.2] at ha;rcases List.mem_cons.1 ha with rfl|ha
        · exact HFT.out.2
        · exact HFT.out.1 a (List.drop_subset _ _ ha)
      have DE:=Lib.hid (each_code U h4 TB4 hT4 (runG_fine HX.out.base _) (some ⟨g9,o9+P2*13,none⟩) (P1.length-P2) (k3-P2) (P1.drop P2) hfd (by have:=HJ.out.2.1;omega) (by rw[List.length_take];omega) (by rw[recL_len,List.length_take];omega) hO5 fun _ p hp=>by
        injection hp with hp
        subst hp
        exact hn94)
      rw[HJ.out.1,<-run_append,HJ.out.1,<-recL_append,HJ.out.1] at DE;have T4:=Lib.hid (T3.out.trans t4);unfold LogLeft at DE;clear h4 t4 hown hlt5 hn9 hkeep hO4 hO5 hn94 TB4 hT4 hfd DBK
      go_wp2_with fail
      refine DE.out.mono ?_;rintro e w5 ⟨Sa5,R5,ov5,rv5,rfl,h5,t5⟩;have HF:Hid (LogSt H w5 g b c x.fl Sb Sa5 R5 x.B (graphL ⟨x.B,x.fl,P1⟩) ov5 P1 rv5 (recL x.B P1)):=h5;have T5:=Lib.hid (T4.out.trans t5);clear h5 t5 DE
      go_wp2_with fail
      go_ret
      rw[HR.out];exact⟨rfl,turned_end (x:=⟨x.B,x.fl,P1⟩) HF.out T5.out⟩
end Go.Proofs.YtnnnkaobhkeocaaGreatDoor
