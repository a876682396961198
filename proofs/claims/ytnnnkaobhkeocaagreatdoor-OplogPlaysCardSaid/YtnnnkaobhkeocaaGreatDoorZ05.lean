/-
 The landed apply: why an entry can't be gone, and an inode not have other contents, or another mode.
-/
import Derived.Test.YtnnnkaobhkeocaaGreatDoorZ04
import Derived.Test.YtnnnkaobhkeocaaGreatDoorZ00
import Derived.Laws.EntriesVeiled
import Derived.Test.YtnnnkaobhkeocaaGreatDoorRows
import Derived.Lib.Bytealg
import Derived.Deep.DeepCutAuto
namespace Go.Proofs.YtnnnkaobhkeocaaGreatDoor
open Go.RowKit StampMath GraphMath OpMath PackMath
set_option maxRecDepth 100000 in
set_option maxHeartbeats 3200000 in
theorem whyUnlink_code(H:GraphHave)(a:Addr)(S:Nat->Prop)(g:Gr)(o:Opn)(w:World)(h:H.rep w S a g)(hg:g.ok)(hm:mayO o=true)(hk:o.k=5)(hn:o.name.size<=maxLen):
  Calls Tryz.prog 158 #[.agg (deedA a o)] w fun e w'=>e=.returned (.int .i64 (whyA g o))/\Below w.heap.size w w':=by
 obtain⟨r,hr⟩:∃r,r=whyA g o:=⟨_,rfl⟩;rw[<-hr];obtain⟨x,hx⟩:∃x,x=(namedG g o).getD noIno:=⟨_,rfl⟩;obtain⟨b,hb⟩:∃b,b=(namedG g o).isSome:=⟨_,rfl⟩;obtain⟨kd,hkd⟩:∃kd,kd=(x.kind==1):=⟨_,rfl⟩;have NA:Hid (∀W:World,Below w.heap.size w W->Calls Tryz.prog 195 #[.agg #[.pointer (some a),.int .i64 o.st,.int .i64 o.sr,.int .i64 o.k,.int .i64 o.pt,.int .i64 o.pr,.int .i64 o.it,.int .i64 o.ir,.int .i64 o.tt,.int .i64 o.tr,.string o.name,.string o.new,.int .i64 o.off,.string o.data]] W fun e w'=>e=.returned (.tuple #[.agg #[.int .i64 x.id.1,.int .i64 x.id.2,.int .i64 x.kind,.int .i64 x.links,.int .i64 x.mode,.string x.data],.bool b])/\Below W.heap.size W w'):=Lib.hid fun W hW=>by
  rw[hx,hb];exact named_code H a S g o W (rep_below h hW) hg hn
 have DX:Hid (∀W:World,Below w.heap.size w W->Calls Tryz.prog 194 #[.agg #[.int .i64 x.id.1,.int .i64 x.id.2,.int .i64 x.kind,.int .i64 x.links,.int .i64 x.mode,.string x.data]] W fun e w'=>e=.returned (.bool kd)/\Below W.heap.size W w'):=Lib.hid fun W hW=>by
  rw[hkd];exact dirQ_code x W
 have hr2:r=if b=false then 3 else if kd=true then 5 else 0:=by
  rw[hr,unlink_why hg hm hk,<-hx,<-hb,hkd];unfold unlinkB;simp
 have HR:=Lib.hid hr2;have hH0:Held w [(w.heap.size,.cells (deedA a o) 133)] (w.alloc (.cells (deedA a o) 133)):=(Held.refl w).alloc (.cells (deedA a o) 133) rfl;clear h hr hr2 hx hb hkd hg hm hk hn
 go_enter Tryz.func158,Tryz.ntmps158
 go_upto_region 1 with fail
 change Code.wp _ _ _ _ (w.alloc (.cells (deedA a o) 133));generalize w.alloc (.cells (deedA a o) 133)=v0 at hH0 ⊢;obtain⟨d0,d1,d2,d3,d4,d5,d6,d7,d8,d9,d10,d11,d12,d13⟩:=deed_cells (g:=w.heap.size) (hH0.at 0 rfl)
 go_wp2_with fail
 refine(NA.out _ hH0.below).mono ?_;rintro e y0 ⟨rfl,hb0⟩;have hH1:=hH0.step hb0;clear hH0 hb0 d0 d1 d2 d3 d4 d5 d6 d7 d8 d9 d10 d11 d12 d13 NA
 go_upto_region 2 with fail
 obtain⟨u0,hu0⟩:∃u,u=y0.heap.size:=⟨_,rfl⟩;have hl0:w.heap.size<u0:=by rw[hu0];exact heap_lt (hH1.at 0 rfl)
 have hH2:=hH1.alloc (.cells (inoA x) 102) hu0.symm;change Code.wp _ _ _ _ (y0.alloc (.cells (inoA x) 102));rw[<-hu0];generalize y0.alloc (.cells (inoA x) 102)=v1 at hH2 ⊢;clear hH1 hu0;have O:=Lib.hid (fun y=>deed_cells (g:=w.heap.size) (((later_below v1 y).block _ (heap_lt (hH2.at 1 rfl))).trans (hH2.at 1 rfl)));have d0:=fun y=>(O.out y).1;have d1:=fun y=>(O.out y).2.1;have d2:=fun y=>(O.out y).2.2.1;have d3:=fun y=>(O.out y).2.2.2.1;have d4:=fun y=>(O.out y).2.2.2.2.1;have d5:=fun y=>(O.out y).2.2.2.2.2.1;have d6:=fun y=>(O.out y).2.2.2.2.2.2.1;have d7:=fun y=>(O.out y).2.2.2.2.2.2.2.1;have d8:=fun y=>(O.out y).2.2.2.2.2.2.2.2.1;have d9:=fun y=>(O.out y).2.2.2.2.2.2.2.2.2.1;have d10:=fun y=>(O.out y).2.2.2.2.2.2.2.2.2.2.1;have d11:=fun y=>(O.out y).2.2.2.2.2.2.2.2.2.2.2.1;have d12:=fun y=>(O.out y).2.2.2.2.2.2.2.2.2.2.2.2.1;have d13:=fun y=>(O.out y).2.2.2.2.2.2.2.2.2.2.2.2.2;have X0:=Lib.hid (fun y=>ino_cells (g:=u0) (((later_below v1 y).block _ (heap_lt (hH2.at 0 rfl))).trans (hH2.at 0 rfl)));have x00:=fun y=>(X0.out y).1;have x01:=fun y=>(X0.out y).2.1;have x02:=fun y=>(X0.out y).2.2.1;have x03:=fun y=>(X0.out y).2.2.2.1;have x04:=fun y=>(X0.out y).2.2.2.2.1;have x05:=fun y=>(X0.out y).2.2.2.2.2;clear X0;have HB:=Lib.hid hH2.below;have DX':Hid (∀y,Calls Tryz.prog 194 #[.agg #[.int .i64 x.id.1,.int .i64 x.id.2,.int .i64 x.kind,.int .i64 x.links,.int .i64 x.mode,.string x.data]] (later v1 y) fun e w'=>e=.returned (.bool kd)/\∃z,w'=later v1 z):=Lib.hid fun y=>later_call (DX.out _ (below_step HB.out (later_below v1 y)));rw[show v1=later v1 v1 from(later_of (Below.refl _ _)).symm];clear hH2 O DX
 go_wp2_with fail
 iterate 3
  all_goals first
   |((fail_if_success (go_at_call 194));go_ret;exact⟨by rw[HR.out];clear d0 d1 d2 d3 d4 d5 d6 d7 d8 d9 d10 d11 d12 d13 x00 x01 x02 x03 x04 x05 DX' HB HR;simp_all,below_step HB.out (later_below v1 _)⟩)
   |(go_at_call 194;(with_reducible refine(DX'.out _).mono ?_);rintro z w5 ⟨rfl,y5,rfl⟩;go_wp2_with fail)
   |skip
set_option maxRecDepth 100000 in
set_option maxHeartbeats 3200000 in
theorem whyRmdir_code(H:GraphHave)(a:Addr)(S:Nat->Prop)(g:Gr)(o:Opn)(w:World)(h:H.rep w S a g)(hg:g.ok)(hm:mayO o=true)(hk:o.k=6)(hn:o.name.size<=maxLen):
  Calls Tryz.prog 159 #[.agg (deedA a o)] w fun e w'=>e=.returned (.int .i64 (whyA g o))/\Below w.heap.size w w':=by
 obtain⟨r,hr⟩:∃r,r=whyA g o:=⟨_,rfl⟩;rw[<-hr];obtain⟨x,hx⟩:∃x,x=(namedG g o).getD noIno:=⟨_,rfl⟩;obtain⟨b,hb⟩:∃b,b=(namedG g o).isSome:=⟨_,rfl⟩;obtain⟨kd,hkd⟩:∃kd,kd=(x.kind==1):=⟨_,rfl⟩;obtain⟨fu,hfu⟩:∃fu,fu=decide (0<(listE g.E x.id).length):=⟨_,rfl⟩;have NA:Hid (∀W:World,Below w.heap.size w W->Calls Tryz.prog 195 #[.agg #[.pointer (some a),.int .i64 o.st,.int .i64 o.sr,.int .i64 o.k,.int .i64 o.pt,.int .i64 o.pr,.int .i64 o.it,.int .i64 o.ir,.int .i64 o.tt,.int .i64 o.tr,.string o.name,.string o.new,.int .i64 o.off,.string o.data]] W fun e w'=>e=.returned (.tuple #[.agg #[.int .i64 x.id.1,.int .i64 x.id.2,.int .i64 x.kind,.int .i64 x.links,.int .i64 x.mode,.string x.data],.bool b])/\Below W.heap.size W w'):=Lib.hid fun W hW=>by
  rw[hx,hb];exact named_code H a S g o W (rep_below h hW) hg hn
 have DX:Hid (∀W:World,Below w.heap.size w W->Calls Tryz.prog 194 #[.agg #[.int .i64 x.id.1,.int .i64 x.id.2,.int .i64 x.kind,.int .i64 x.links,.int .i64 x.mode,.string x.data]] W fun e w'=>e=.returned (.bool kd)/\Below W.heap.size W w'):=Lib.hid fun W hW=>by
  rw[hkd];exact dirQ_code x W
 have FU:Hid (∀W:World,Below w.heap.size w W->Calls Tryz.prog 196 #[.agg #[.pointer (some a),.int .i64 o.st,.int .i64 o.sr,.int .i64 o.k,.int .i64 o.pt,.int .i64 o.pr,.int .i64 o.it,.int .i64 o.ir,.int .i64 o.tt,.int .i64 o.tr,.string o.name,.string o.new,.int .i64 o.off,.string o.data],.agg #[.int .i64 x.id.1,.int .i64 x.id.2]] W fun e w'=>e=.returned (.bool fu)/\Below W.heap.size W w'):=Lib.hid fun W hW=>by
  rw[hfu];exact fullQ_code H a S g o x.id W (rep_below h hW) hg
 have hr2:r=if b=false then 3 else if kd=false then 6 else if fu=true then 7 else 0:=by
  rw[hr,rmdir_why hg hm hk,<-hx,<-hb,hkd,hfu];unfold rmdirB
  cases hq:namedG g o with
  |none=>
   rw[hq] at hb;rw[hb];simp
  |some y=>
   rw[hq] at hx;rw[hx,Option.getD_some,(named_some hg hq).2.2.1];simp
 have HR:=Lib.hid hr2;have hH0:Held w [(w.heap.size,.cells (deedA a o) 133)] (w.alloc (.cells (deedA a o) 133)):=(Held.refl w).alloc (.cells (deedA a o) 133) rfl;clear h hr hr2 hx hb hkd hfu hg hm hk hn
 go_enter Tryz.func159,Tryz.ntmps159
 go_upto_region 1 with fail
 change Code.wp _ _ _ _ (w.alloc (.cells (deedA a o) 133));generalize w.alloc (.cells (deedA a o) 133)=v0 at hH0 ⊢;obtain⟨d0,d1,d2,d3,d4,d5,d6,d7,d8,d9,d10,d11,d12,d13⟩:=deed_cells (g:=w.heap.size) (hH0.at 0 rfl)
 go_wp2_with fail
 refine(NA.out _ hH0.below).mono ?_;rintro e y0 ⟨rfl,hb0⟩;have hH1:=hH0.step hb0;clear hH0 hb0 d0 d1 d2 d3 d4 d5 d6 d7 d8 d9 d10 d11 d12 d13 NA
 go_upto_region 2 with fail
 obtain⟨u0,hu0⟩:∃u,u=y0.heap.size:=⟨_,rfl⟩;have hl0:w.heap.size<u0:=by rw[hu0];exact heap_lt (hH1.at 0 rfl)
 have hH2:=hH1.alloc (.cells (inoA x) 102) hu0.symm;change Code.wp _ _ _ _ (y0.alloc (.cells (inoA x) 102));rw[<-hu0];generalize y0.alloc (.cells (inoA x) 102)=v1 at hH2 ⊢;clear hH1 hu0;have O:=Lib.hid (fun y=>deed_cells (g:=w.heap.size) (((later_below v1 y).block _ (heap_lt (hH2.at 1 rfl))).trans (hH2.at 1 rfl)));have d0:=fun y=>(O.out y).1;have d1:=fun y=>(O.out y).2.1;have d2:=fun y=>(O.out y).2.2.1;have d3:=fun y=>(O.out y).2.2.2.1;have d4:=fun y=>(O.out y).2.2.2.2.1;have d5:=fun y=>(O.out y).2.2.2.2.2.1;have d6:=fun y=>(O.out y).2.2.2.2.2.2.1;have d7:=fun y=>(O.out y).2.2.2.2.2.2.2.1;have d8:=fun y=>(O.out y).2.2.2.2.2.2.2.2.1;have d9:=fun y=>(O.out y).2.2.2.2.2.2.2.2.2.1;have d10:=fun y=>(O.out y).2.2.2.2.2.2.2.2.2.2.1;have d11:=fun y=>(O.out y).2.2.2.2.2.2.2.2.2.2.2.1;have d12:=fun y=>(O.out y).2.2.2.2.2.2.2.2.2.2.2.2.1;have d13:=fun y=>(O.out y).2.2.2.2.2.2.2.2.2.2.2.2.2;have X0:=Lib.hid (fun y=>ino_cells (g:=u0) (((later_below v1 y).block _ (heap_lt (hH2.at 0 rfl))).trans (hH2.at 0 rfl)));have x00:=fun y=>(X0.out y).1;have x01:=fun y=>(X0.out y).2.1;have x02:=fun y=>(X0.out y).2.2.1;have x03:=fun y=>(X0.out y).2.2.2.1;have x04:=fun y=>(X0.out y).2.2.2.2.1;have x05:=fun y=>(X0.out y).2.2.2.2.2;clear X0;have HB:=Lib.hid hH2.below;have DX':Hid (∀y,Calls Tryz.prog 194 #[.agg #[.int .i64 x.id.1,.int .i64 x.id.2,.int .i64 x.kind,.int .i64 x.links,.int .i64 x.mode,.string x.data]] (later v1 y) fun e w'=>e=.returned (.bool kd)/\∃z,w'=later v1 z):=Lib.hid fun y=>later_call (DX.out _ (below_step HB.out (later_below v1 y)));have FU':Hid (∀y,Calls Tryz.prog 196 #[.agg #[.pointer (some a),.int .i64 o.st,.int .i64 o.sr,.int .i64 o.k,.int .i64 o.pt,.int .i64 o.pr,.int .i64 o.it,.int .i64 o.ir,.int .i64 o.tt,.int .i64 o.tr,.string o.name,.string o.new,.int .i64 o.off,.string o.data],.agg #[.int .i64 x.id.1,.int .i64 x.id.2]] (later v1 y) fun e w'=>e=.returned (.bool fu)/\∃z,w'=later v1 z):=Lib.hid fun y=>later_call (FU.out _ (below_step HB.out (later_below v1 y)));rw[show v1=later v1 v1 from(later_of (Below.refl _ _)).symm];clear hH2 O DX FU
 go_wp2_with fail
 iterate 4
  all_goals first
   |((fail_if_success (go_at_call 194));(fail_if_success (go_at_call 196));go_ret;exact⟨by rw[HR.out];clear d0 d1 d2 d3 d4 d5 d6 d7 d8 d9 d10 d11 d12 d13 x00 x01 x02 x03 x04 x05 DX' FU' HB HR;simp_all,below_step HB.out (later_below v1 _)⟩)
   |(go_at_call 194;(with_reducible refine(DX'.out _).mono ?_);rintro z w5 ⟨rfl,y5,rfl⟩;go_wp2_with fail)
   |(go_at_call 196;(with_reducible refine(FU'.out _).mono ?_);rintro z w5 ⟨rfl,y5,rfl⟩;go_wp2_with fail)
   |skip
set_option maxRecDepth 100000 in
set_option maxHeartbeats 3200000 in
theorem whyFill_code(H:GraphHave)(a:Addr)(S:Nat->Prop)(g:Gr)(o:Opn)(w:World)(h:H.rep w S a g)(hg:g.ok)(hm:mayO o=true)(hk:o.k=8\/o.k=9):
  Calls Tryz.prog 161 #[.agg (deedA a o)] w fun e w'=>e=.returned (.int .i64 (whyA g o))/\Below w.heap.size w w':=by
 obtain⟨r,hr⟩:∃r,r=whyA g o:=⟨_,rfl⟩;rw[<-hr];obtain⟨x,hx⟩:∃x,x=(getG g (oIno o)).getD noIno:=⟨_,rfl⟩;obtain⟨b,hb⟩:∃b,b=(getG g (oIno o)).isSome:=⟨_,rfl⟩;obtain⟨kd,hkd⟩:∃kd,kd=(x.kind==1):=⟨_,rfl⟩;have GI:Hid (∀W:World,Below w.heap.size w W->Calls Tryz.prog 67 #[.pointer (some a),.agg #[.int .i64 o.it,.int .i64 o.ir]] W fun e w'=>e=.returned (.tuple #[.agg #[.int .i64 x.id.1,.int .i64 x.id.2,.int .i64 x.kind,.int .i64 x.links,.int .i64 x.mode,.string x.data],.bool b])/\Below W.heap.size W w'):=Lib.hid fun W hW=>by
  rw[hx,hb];exact H.get a S g (oIno o) W (rep_below h hW) hg
 have DX:Hid (∀W:World,Below w.heap.size w W->Calls Tryz.prog 194 #[.agg #[.int .i64 x.id.1,.int .i64 x.id.2,.int .i64 x.kind,.int .i64 x.links,.int .i64 x.mode,.string x.data]] W fun e w'=>e=.returned (.bool kd)/\Below W.heap.size W w'):=Lib.hid fun W hW=>by
  rw[hkd];exact dirQ_code x W
 have hr2:r=if b=false then 3 else if kd=true then 5 else if x.kind=3 then 8 else 0:=by
  rw[hr,fill_why hg hm hk,<-hx,<-hb,hkd];unfold fillB;simp
 have HR:=Lib.hid hr2;have hH0:Held w [(w.heap.size,.cells (deedA a o) 133)] (w.alloc (.cells (deedA a o) 133)):=(Held.refl w).alloc (.cells (deedA a o) 133) rfl;clear h hr hr2 hx hb hkd hg hm hk
 go_enter Tryz.func161,Tryz.ntmps161
 go_upto_region 1 with fail
 change Code.wp _ _ _ _ (w.alloc (.cells (deedA a o) 133));generalize w.alloc (.cells (deedA a o) 133)=v0 at hH0 ⊢;obtain⟨d0,d1,d2,d3,d4,d5,d6,d7,d8,d9,d10,d11,d12,d13⟩:=deed_cells (g:=w.heap.size) (hH0.at 0 rfl)
 go_wp2_with fail
 refine(GI.out _ hH0.below).mono ?_;rintro e y0 ⟨rfl,hb0⟩;have hH1:=hH0.step hb0;clear hH0 hb0 d0 d1 d2 d3 d4 d5 d6 d7 d8 d9 d10 d11 d12 d13 GI
 go_upto_region 2 with fail
 obtain⟨u0,hu0⟩:∃u,u=y0.heap.size:=⟨_,rfl⟩;have hl0:w.heap.size<u0:=by rw[hu0];exact heap_lt (hH1.at 0 rfl)
 have hH2:=hH1.alloc (.cells (inoA x) 102) hu0.symm;change Code.wp _ _ _ _ (y0.alloc (.cells (inoA x) 102));rw[<-hu0];generalize y0.alloc (.cells (inoA x) 102)=v1 at hH2 ⊢;clear hH1 hu0;have O:=Lib.hid (fun y=>deed_cells (g:=w.heap.size) (((later_below v1 y).block _ (heap_lt (hH2.at 1 rfl))).trans (hH2.at 1 rfl)));have d0:=fun y=>(O.out y).1;have d1:=fun y=>(O.out y).2.1;have d2:=fun y=>(O.out y).2.2.1;have d3:=fun y=>(O.out y).2.2.2.1;have d4:=fun y=>(O.out y).2.2.2.2.1;have d5:=fun y=>(O.out y).2.2.2.2.2.1;have d6:=fun y=>(O.out y).2.2.2.2.2.2.1;have d7:=fun y=>(O.out y).2.2.2.2.2.2.2.1;have d8:=fun y=>(O.out y).2.2.2.2.2.2.2.2.1;have d9:=fun y=>(O.out y).2.2.2.2.2.2.2.2.2.1;have d10:=fun y=>(O.out y).2.2.2.2.2.2.2.2.2.2.1;have d11:=fun y=>(O.out y).2.2.2.2.2.2.2.2.2.2.2.1;have d12:=fun y=>(O.out y).2.2.2.2.2.2.2.2.2.2.2.2.1;have d13:=fun y=>(O.out y).2.2.2.2.2.2.2.2.2.2.2.2.2;have X0:=Lib.hid (fun y=>ino_cells (g:=u0) (((later_below v1 y).block _ (heap_lt (hH2.at 0 rfl))).trans (hH2.at 0 rfl)));have x00:=fun y=>(X0.out y).1;have x01:=fun y=>(X0.out y).2.1;have x02:=fun y=>(X0.out y).2.2.1;have x03:=fun y=>(X0.out y).2.2.2.1;have x04:=fun y=>(X0.out y).2.2.2.2.1;have x05:=fun y=>(X0.out y).2.2.2.2.2;clear X0;have HB:=Lib.hid hH2.below;have DX':Hid (∀y,Calls Tryz.prog 194 #[.agg #[.int .i64 x.id.1,.int .i64 x.id.2,.int .i64 x.kind,.int .i64 x.links,.int .i64 x.mode,.string x.data]] (later v1 y) fun e w'=>e=.returned (.bool kd)/\∃z,w'=later v1 z):=Lib.hid fun y=>later_call (DX.out _ (below_step HB.out (later_below v1 y)));rw[show v1=later v1 v1 from(later_of (Below.refl _ _)).symm];clear hH2 O DX
 go_wp2_with fail
 iterate 3
  all_goals first
   |((fail_if_success (go_at_call 194));go_ret;exact⟨by rw[HR.out];clear d0 d1 d2 d3 d4 d5 d6 d7 d8 d9 d10 d11 d12 d13 x00 x01 x02 x03 x04 x05 DX' HB HR;simp_all,below_step HB.out (later_below v1 _)⟩)
   |(go_at_call 194;(with_reducible refine(DX'.out _).mono ?_);rintro z w5 ⟨rfl,y5,rfl⟩;go_wp2_with fail)
   |skip
set_option maxRecDepth 100000 in
set_option maxHeartbeats 3200000 in
theorem whySet_code(H:GraphHave)(a:Addr)(S:Nat->Prop)(g:Gr)(o:Opn)(w:World)(h:H.rep w S a g)(hg:g.ok)(hm:mayO o=true)(hk:o.k=10):
  Calls Tryz.prog 162 #[.agg (deedA a o)] w fun e w'=>e=.returned (.int .i64 (whyA g o))/\Below w.heap.size w w':=by
 obtain⟨r,hr⟩:∃r,r=whyA g o:=⟨_,rfl⟩;rw[<-hr];obtain⟨x,hx⟩:∃x,x=(getG g (oIno o)).getD noIno:=⟨_,rfl⟩;obtain⟨b,hb⟩:∃b,b=(getG g (oIno o)).isSome:=⟨_,rfl⟩;have GI:Hid (∀W:World,Below w.heap.size w W->Calls Tryz.prog 67 #[.pointer (some a),.agg #[.int .i64 o.it,.int .i64 o.ir]] W fun e w'=>e=.returned (.tuple #[.agg #[.int .i64 x.id.1,.int .i64 x.id.2,.int .i64 x.kind,.int .i64 x.links,.int .i64 x.mode,.string x.data],.bool b])/\Below W.heap.size W w'):=Lib.hid fun W hW=>by
  rw[hx,hb];exact H.get a S g (oIno o) W (rep_below h hW) hg
 have hr2:r=if b=false then 3 else 0:=by
  rw[hr,set_why hg hm hk,<-hb]
  rfl
 have HR:=Lib.hid hr2;have hH0:Held w [(w.heap.size,.cells (deedA a o) 133)] (w.alloc (.cells (deedA a o) 133)):=(Held.refl w).alloc (.cells (deedA a o) 133) rfl;clear h hr hr2 hx hb hg hm hk
 go_enter Tryz.func162,Tryz.ntmps162
 go_upto_region 1 with fail
 change Code.wp _ _ _ _ (w.alloc (.cells (deedA a o) 133));generalize w.alloc (.cells (deedA a o) 133)=v0 at hH0 ⊢;obtain⟨d0,d1,d2,d3,d4,d5,d6,d7,d8,d9,d10,d11,d12,d13⟩:=deed_cells (g:=w.heap.size) (hH0.at 0 rfl)
 go_wp2_with fail
 refine(GI.out _ hH0.below).mono ?_;rintro e y0 ⟨rfl,hb0⟩;have hH1:=hH0.step hb0;clear hH0 hb0 d0 d1 d2 d3 d4 d5 d6 d7 d8 d9 d10 d11 d12 d13 GI
 go_upto_region 2 with fail
 obtain⟨u0,hu0⟩:∃u,u=y0.heap.size:=⟨_,rfl⟩;have hl0:w.heap.size<u0:=by rw[hu0];exact heap_lt (hH1.at 0 rfl)
 have hH2:=hH1.alloc (.cells (inoA x) 102) hu0.symm;change Code.wp _ _ _ _ (y0.alloc (.cells (inoA x) 102));rw[<-hu0];generalize y0.alloc (.cells (inoA x) 102)=v1 at hH2 ⊢;clear hH1 hu0;have O:=Lib.hid (fun y=>deed_cells (g:=w.heap.size) (((later_below v1 y).block _ (heap_lt (hH2.at 1 rfl))).trans (hH2.at 1 rfl)));have d0:=fun y=>(O.out y).1;have d1:=fun y=>(O.out y).2.1;have d2:=fun y=>(O.out y).2.2.1;have d3:=fun y=>(O.out y).2.2.2.1;have d4:=fun y=>(O.out y).2.2.2.2.1;have d5:=fun y=>(O.out y).2.2.2.2.2.1;have d6:=fun y=>(O.out y).2.2.2.2.2.2.1;have d7:=fun y=>(O.out y).2.2.2.2.2.2.2.1;have d8:=fun y=>(O.out y).2.2.2.2.2.2.2.2.1;have d9:=fun y=>(O.out y).2.2.2.2.2.2.2.2.2.1;have d10:=fun y=>(O.out y).2.2.2.2.2.2.2.2.2.2.1;have d11:=fun y=>(O.out y).2.2.2.2.2.2.2.2.2.2.2.1;have d12:=fun y=>(O.out y).2.2.2.2.2.2.2.2.2.2.2.2.1;have d13:=fun y=>(O.out y).2.2.2.2.2.2.2.2.2.2.2.2.2;have X0:=Lib.hid (fun y=>ino_cells (g:=u0) (((later_below v1 y).block _ (heap_lt (hH2.at 0 rfl))).trans (hH2.at 0 rfl)));have x00:=fun y=>(X0.out y).1;have x01:=fun y=>(X0.out y).2.1;have x02:=fun y=>(X0.out y).2.2.1;have x03:=fun y=>(X0.out y).2.2.2.1;have x04:=fun y=>(X0.out y).2.2.2.2.1;have x05:=fun y=>(X0.out y).2.2.2.2.2;clear X0;have HB:=Lib.hid hH2.below;rw[show v1=later v1 v1 from(later_of (Below.refl _ _)).symm];clear hH2 O
 go_wp2_with fail
 all_goals(go_ret;exact⟨by rw[HR.out];clear d0 d1 d2 d3 d4 d5 d6 d7 d8 d9 d10 d11 d12 d13 x00 x01 x02 x03 x04 x05 HB HR;simp_all,below_step HB.out (later_below v1 _)⟩)
set_option maxRecDepth 100000 in
set_option maxHeartbeats 1600000 in
theorem target_code(H:GraphHave)(a:Addr)(S:Nat->Prop)(g:Gr)(o:Opn)(w:World)(h:H.rep w S a g)(hg:g.ok)(hn:o.new.size<=maxLen):
  Calls Tryz.prog 164 #[.agg (deedA a o)] w fun e w'=>e=.returned (.tuple #[.agg (inoA ((aimG g o).getD noIno)),.bool (aimG g o).isSome])/\Below w.heap.size w w':=by
 obtain⟨t,ht⟩:∃t,t=(lookE g.E (oTo o) o.new).getD (0,0):=⟨_,rfl⟩;obtain⟨b,hb⟩:∃b,b=(lookE g.E (oTo o) o.new).isSome:=⟨_,rfl⟩;obtain⟨x,hx⟩:∃x,x=(getG g t).getD noIno:=⟨_,rfl⟩;obtain⟨xi,hxi⟩:∃xi,xi=(getG g t).isSome:=⟨_,rfl⟩;have LK:Hid (∀W:World,Below w.heap.size w W->Calls Tryz.prog 34 #[.pointer (some a),.agg #[.int .i64 o.tt,.int .i64 o.tr],.string o.new] W fun e w'=>e=.returned (.tuple #[.agg #[.int .i64 t.1,.int .i64 t.2],.bool b])/\Below W.heap.size W w'):=Lib.hid fun W hW=>by
  rw[ht,hb];exact H.look a S g (oTo o) o.new W (rep_below h hW) hg hn
 have GT:Hid (∀W:World,Below w.heap.size w W->Calls Tryz.prog 67 #[.pointer (some a),.agg #[.int .i64 t.1,.int .i64 t.2]] W fun e w'=>e=.returned (.tuple #[.agg #[.int .i64 x.id.1,.int .i64 x.id.2,.int .i64 x.kind,.int .i64 x.links,.int .i64 x.mode,.string x.data],.bool xi])/\Below W.heap.size W w'):=Lib.hid fun W hW=>by
  rw[hx,hxi];exact H.get a S g t W (rep_below h hW) hg
 have hcase:(b=false/\aimG g o=none)\/(b=true/\(aimG g o).getD noIno=x/\(aimG g o).isSome=xi):=by
  unfold aimG targetG
  cases hq:lookE g.E (oTo o) o.new with
  |none=>
   rw[hq] at hb;exact Or.inl ⟨hb,rfl⟩
  |some s=>
   rw[hq] at hb ht;have ht':t=s:=ht;exact Or.inr ⟨hb,by rw[hx,ht'];rfl,by rw[hxi,ht'];rfl⟩
 obtain⟨r,hr0⟩:∃r,r=(aimG g o).getD noIno:=⟨_,rfl⟩;obtain⟨ri,hri⟩:∃ri,ri=(aimG g o).isSome:=⟨_,rfl⟩;rw[<-hr0,<-hri];have hcase:(b=false/\r=noIno/\ri=false)\/(b=true/\r=x/\ri=xi):=by
  rcases hcase with ⟨q1,q2⟩|⟨q1,q2,q3⟩
  ·exact Or.inl ⟨q1,by rw[hr0,q2];rfl,by rw[hri,q2];rfl⟩
  ·exact Or.inr ⟨q1,by rw[hr0,q2],by rw[hri,q3]⟩
 clear ht hb hx hxi h hg hn hr0 hri;have hb0:Held w [(w.heap.size+1,.cells (inoA noIno) 102),(w.heap.size,.cells (deedA a o) 133)] ((w.alloc (.cells (deedA a o) 133)).alloc (.cells (inoA noIno) 102)):=
  ((Held.refl w).alloc (.cells (deedA a o) 133) rfl).alloc (.cells (inoA noIno) 102) (by simp)
 have HC:=Lib.hid hcase;clear hcase
 go_enter Tryz.func164,Tryz.ntmps164
 go_upto_region 1 with fail
 change Code.wp _ _ _ _ ((w.alloc (.cells (deedA a o) 133)).alloc (.cells (inoA noIno) 102));generalize (w.alloc (.cells (deedA a o) 133)).alloc (.cells (inoA noIno) 102)=w0 at hb0 ⊢;obtain⟨d0,d1,d2,d3,d4,d5,d6,d7,d8,d9,d10,d11,d12,d13⟩:=deed_cells (g:=w.heap.size) (hb0.at 1 rfl)
 go_wp2_with fail
 refine(LK.out _ hb0.below).mono ?_;rintro e w1 ⟨rfl,hb1⟩;have hH1:=hb0.step hb1;clear hb0 hb1 d0 d1 d2 d3 d4 d5 d6 d7 d8 d9 d10 d11 d12 d13 LK
 go_upto_region 2 with fail
 obtain⟨u,hu⟩:∃u,u=w1.heap.size:=⟨_,rfl⟩;have hlu:w.heap.size+1<u:=by rw[hu];exact heap_lt (hH1.at 0 rfl)
 have hH2:=hH1.alloc (.cells (stA t) 24) hu.symm;change Code.wp _ _ _ _ (w1.alloc (.cells (stA t) 24));rw[<-hu];generalize w1.alloc (.cells (stA t) 24)=w2 at hH2 ⊢;clear hH1 hu;obtain⟨d0,d1,d2,d3,d4,d5,d6,d7,d8,d9,d10,d11,d12,d13⟩:=deed_cells (g:=w.heap.size) (hH2.at 2 rfl);obtain⟨s0,s1⟩:=two_cells (g:=u) (hH2.at 0 rfl);obtain⟨i0,i1,i2,i3,i4,i5⟩:=ino_cells (g:=w.heap.size+1) (hH2.at 1 rfl);obtain⟨f0,f1,f2,f3,f4,f5⟩:=ino_free (g:=w.heap.size+1) (hH2.at 1 rfl);have P:=Lib.hid (ino_put (g:=w.heap.size+1) (hH2.at 1 rfl));have HB:=Lib.hid hH2.below;rcases HC.out with ⟨rfl,hnm,hni⟩|⟨rfl,hnm,hni⟩
 ·have HN:=Lib.hid hnm;have HI:=Lib.hid hni;clear hH2 HC hnm hni GT;obtain⟨z0,z1,z2,z3,z4,z5⟩:=ino_cells (P.out noIno);have HBB:=Lib.hid (below_six HB.out (g:=w.heap.size+1) (by omega) (.int .i64 noIno.id.1) (.int .i64 noIno.id.2) (.int .i64 noIno.kind) (.int .i64 noIno.links) (.int .i64 noIno.mode) (.string noIno.data));simp only[noIno] at i0 i1 i2 i3 i4 i5 z0 z1 z2 z3 z4 z5
  go_wp2_with fail
  exact bodyPost_ret (v:=.tuple #[.agg (inoA noIno),.bool false]) (by simp[results,Tryz.results164,go_sem,inoA,noIno,z0,z1,z2,z3,z4,z5]) rfl ⟨by rw[HN.out,HI.out],HBB.out⟩
 ·have HN:=Lib.hid hnm;have HI:=Lib.hid hni;clear HC hnm hni P HB i0 i1 i2 i3 i4 i5 f0 f1 f2 f3 f4 f5;have HH2:=Lib.hid hH2;clear hH2
  go_wp2_with fail
  refine(GT.out _ HH2.out.below).mono ?_;rintro e w3 ⟨rfl,hb3⟩;have hH3:=HH2.out.step hb3;obtain⟨i0,i1,i2,i3,i4,i5⟩:=ino_cells (g:=w.heap.size+1) (hH3.at 1 rfl);obtain⟨f0,f1,f2,f3,f4,f5⟩:=ino_free (g:=w.heap.size+1) (hH3.at 1 rfl);have P:=Lib.hid (ino_put (g:=w.heap.size+1) (hH3.at 1 rfl) x);have HBB:=Lib.hid (below_six hH3.below (g:=w.heap.size+1) (by omega) (.int .i64 x.id.1) (.int .i64 x.id.2) (.int .i64 x.kind) (.int .i64 x.links) (.int .i64 x.mode) (.string x.data));clear HH2 hb3 hH3 GT d0 d1 d2 d3 d4 d5 d6 d7 d8 d9 d10 d11 d12 d13 s0 s1;obtain⟨z0,z1,z2,z3,z4,z5⟩:=ino_cells P.out
  go_wp2_with fail
  exact bodyPost_ret (v:=.tuple #[.agg (inoA x),.bool xi]) (by simp[results,Tryz.results164,go_sem,inoA,z0,z1,z2,z3,z4,z5]) rfl ⟨by rw[HN.out,HI.out],HBB.out⟩
set_option maxRecDepth 100000 in
set_option maxHeartbeats 1600000 in
theorem replace_code(H:GraphHave)(a:Addr)(S:Nat->Prop)(g:Gr)(o:Opn)(x t:Ino)(w:World)(h:H.rep w S a g)(hg:g.ok):
  Calls Tryz.prog 197 #[.agg (deedA a o),.agg (inoA x),.agg (inoA t)] w fun e w'=>e=.returned (.int .i64 (replaceB x.kind t.kind ((listE g.E t.id).length:Int)))/\Below w.heap.size w w':=by
 have FU:Hid (∀W:World,Below w.heap.size w W->Calls Tryz.prog 196 #[.agg (deedA a o),.agg #[.int .i64 t.id.1,.int .i64 t.id.2]] W fun e w'=>e=.returned (.bool (decide (0<(listE g.E t.id).length)))/\Below W.heap.size W w'):=Lib.hid fun W hW=>fullQ_code H a S g o t.id W (rep_below h hW) hg;have DX:Hid (∀W:World,Calls Tryz.prog 194 #[.agg #[.int .i64 x.id.1,.int .i64 x.id.2,.int .i64 x.kind,.int .i64 x.links,.int .i64 x.mode,.string x.data]] W fun e w'=>e=.returned (.bool (x.kind==1))/\Below W.heap.size W w'):=Lib.hid (dirQ_code x);have DT:Hid (∀W:World,Calls Tryz.prog 194 #[.agg #[.int .i64 t.id.1,.int .i64 t.id.2,.int .i64 t.kind,.int .i64 t.links,.int .i64 t.mode,.string t.data]] W fun e w'=>e=.returned (.bool (t.kind==1))/\Below W.heap.size W w'):=Lib.hid (dirQ_code t);obtain⟨fu,hfu⟩:∃fu,fu=decide (0<(listE g.E t.id).length):=⟨_,rfl⟩;obtain⟨kx,hkx⟩:∃kx,kx=(x.kind==1):=⟨_,rfl⟩;obtain⟨kt,hkt⟩:∃kt,kt=(t.kind==1):=⟨_,rfl⟩;rw[<-hfu] at FU;rw[<-hkx] at DX;rw[<-hkt] at DT;have hr:replaceB x.kind t.kind ((listE g.E t.id).length:Int)=if kt=true/\kx=false then 5 else if kx=true/\kt=false then 6 else if fu=true then 7 else 0:=by
  unfold replaceB;rw[hfu,hkx,hkt];simp
 obtain⟨r,hr'⟩:∃r,r=replaceB x.kind t.kind ((listE g.E t.id).length:Int):=⟨_,rfl⟩;rw[<-hr'] at hr ⊢;have HR:=Lib.hid hr;have hb0:Held w [(w.heap.size+2,.cells (inoA t) 102),(w.heap.size+1,.cells (inoA x) 102),(w.heap.size,.cells (deedA a o) 133)] (((w.alloc (.cells (deedA a o) 133)).alloc (.cells (inoA x) 102)).alloc (.cells (inoA t) 102)):=
  (((Held.refl w).alloc (.cells (deedA a o) 133) rfl).alloc (.cells (inoA x) 102) (by simp)).alloc (.cells (inoA t) 102) (by simp)
 have HH:=Lib.hid hb0;clear h hg hfu hkx hkt hr hr' hb0
 go_enter Tryz.func197,Tryz.ntmps197
 go_upto_region 1 with fail
 change Code.wp _ _ _ _ (((w.alloc (.cells (deedA a o) 133)).alloc (.cells (inoA x) 102)).alloc (.cells (inoA t) 102));generalize ((w.alloc (.cells (deedA a o) 133)).alloc (.cells (inoA x) 102)).alloc (.cells (inoA t) 102)=w0 at HH ⊢;have O:=Lib.hid (fun y=>deed_cells (g:=w.heap.size) (((later_below w0 y).block _ (heap_lt (HH.out.at 2 rfl))).trans (HH.out.at 2 rfl)));have d0:=fun y=>(O.out y).1;have d1:=fun y=>(O.out y).2.1;have d2:=fun y=>(O.out y).2.2.1;have d3:=fun y=>(O.out y).2.2.2.1;have d4:=fun y=>(O.out y).2.2.2.2.1;have d5:=fun y=>(O.out y).2.2.2.2.2.1;have d6:=fun y=>(O.out y).2.2.2.2.2.2.1;have d7:=fun y=>(O.out y).2.2.2.2.2.2.2.1;have d8:=fun y=>(O.out y).2.2.2.2.2.2.2.2.1;have d9:=fun y=>(O.out y).2.2.2.2.2.2.2.2.2.1;have d10:=fun y=>(O.out y).2.2.2.2.2.2.2.2.2.2.1;have d11:=fun y=>(O.out y).2.2.2.2.2.2.2.2.2.2.2.1;have d12:=fun y=>(O.out y).2.2.2.2.2.2.2.2.2.2.2.2.1;have d13:=fun y=>(O.out y).2.2.2.2.2.2.2.2.2.2.2.2.2;have IX:=Lib.hid (fun y=>ino_cells (g:=w.heap.size+1) (((later_below w0 y).block _ (heap_lt (HH.out.at 1 rfl))).trans (HH.out.at 1 rfl)));have IT:=Lib.hid (fun y=>ino_cells (g:=w.heap.size+2) (((later_below w0 y).block _ (heap_lt (HH.out.at 0 rfl))).trans (HH.out.at 0 rfl)));have x0:=fun y=>(IX.out y).1;have x1:=fun y=>(IX.out y).2.1;have x2:=fun y=>(IX.out y).2.2.1;have x3:=fun y=>(IX.out y).2.2.2.1;have x4:=fun y=>(IX.out y).2.2.2.2.1;have x5:=fun y=>(IX.out y).2.2.2.2.2;have t0:=fun y=>(IT.out y).1;have t1:=fun y=>(IT.out y).2.1;have t2:=fun y=>(IT.out y).2.2.1;have t3:=fun y=>(IT.out y).2.2.2.1;have t4:=fun y=>(IT.out y).2.2.2.2.1;have t5:=fun y=>(IT.out y).2.2.2.2.2;have HB:=Lib.hid HH.out.below;have FU':Hid (∀y,Calls Tryz.prog 196 #[.agg #[.pointer (some a),.int .i64 o.st,.int .i64 o.sr,.int .i64 o.k,.int .i64 o.pt,.int .i64 o.pr,.int .i64 o.it,.int .i64 o.ir,.int .i64 o.tt,.int .i64 o.tr,.string o.name,.string o.new,.int .i64 o.off,.string o.data],.agg #[.int .i64 t.id.1,.int .i64 t.id.2]] (later w0 y) fun e w''=>e=.returned (.bool fu)/\∃z,w''=later w0 z):=Lib.hid fun y=>later_call (FU.out _ (below_step HB.out (later_below w0 y)));have DX':Hid (∀y,Calls Tryz.prog 194 #[.agg #[.int .i64 x.id.1,.int .i64 x.id.2,.int .i64 x.kind,.int .i64 x.links,.int .i64 x.mode,.string x.data]] (later w0 y) fun e w''=>e=.returned (.bool kx)/\∃z,w''=later w0 z):=Lib.hid fun y=>later_call (DX.out _);have DT':Hid (∀y,Calls Tryz.prog 194 #[.agg #[.int .i64 t.id.1,.int .i64 t.id.2,.int .i64 t.kind,.int .i64 t.links,.int .i64 t.mode,.string t.data]] (later w0 y) fun e w''=>e=.returned (.bool kt)/\∃z,w''=later w0 z):=Lib.hid fun y=>later_call (DT.out _);rw[show w0=later w0 w0 from(later_of (Below.refl _ _)).symm];clear HH O IX IT FU DX DT
 go_wp2_with fail
 iterate 6
  all_goals first
   |((fail_if_success (go_at_call 196));(fail_if_success (go_at_call 194));go_ret;exact⟨by rw[HR.out];simp,below_step HB.out (later_below w0 _)⟩)
   |(go_at_call 196;(with_reducible refine(FU'.out _).mono ?_);rintro z w5 ⟨rfl,y5,rfl⟩;cases fu<;>go_wp2_with fail)
   |(go_at_call 194;(with_reducible refine(DX'.out _).mono ?_);rintro z w5 ⟨rfl,y5,rfl⟩;(first|(cases kx<;>go_wp2_with fail)|go_wp2_with fail))
   |(go_at_call 194;(with_reducible refine(DT'.out _).mono ?_);rintro z w5 ⟨rfl,y5,rfl⟩;(first|(cases kt<;>go_wp2_with fail)|go_wp2_with fail))
   |skip
set_option maxRecDepth 100000 in
set_option maxHeartbeats 3200000 in
theorem whyRename_code(H:GraphHave)(a:Addr)(S:Nat->Prop)(g:Gr)(o:Opn)(w:World)(h:H.rep w S a g)(hg:g.ok)(hm:mayO o=true)(hk:o.k=7)(hn:o.name.size<=maxLen)(hn2:o.new.size<=maxLen):
  Calls Tryz.prog 160 #[.agg (deedA a o)] w fun e w'=>e=.returned (.int .i64 (whyA g o))/\Below w.heap.size w w':=by
 obtain⟨r,hr⟩:∃r,r=whyA g o:=⟨_,rfl⟩;rw[<-hr];obtain⟨x,hx⟩:∃x,x=(namedG g o).getD noIno:=⟨_,rfl⟩;obtain⟨b,hb⟩:∃b,b=(namedG g o).isSome:=⟨_,rfl⟩;obtain⟨tw,htw⟩:∃tw,tw=(getG g (oTo o)).getD noIno:=⟨_,rfl⟩;obtain⟨bt,hbt⟩:∃bt,bt=(getG g (oTo o)).isSome:=⟨_,rfl⟩;obtain⟨tg,htg⟩:∃tg,tg=(aimG g o).getD noIno:=⟨_,rfl⟩;obtain⟨bg,hbg⟩:∃bg,bg=(aimG g o).isSome:=⟨_,rfl⟩;obtain⟨kt,hkt⟩:∃kt,kt=(tw.kind==1):=⟨_,rfl⟩;obtain⟨kd,hkd⟩:∃kd,kd=(x.kind==1):=⟨_,rfl⟩;obtain⟨un,hun⟩:∃un,un=underG g tw.id x.id:=⟨_,rfl⟩;obtain⟨rr,hrr⟩:∃rr,rr=replaceB x.kind tg.kind ((listE g.E tg.id).length:Int):=⟨_,rfl⟩;have NA:Hid (∀W:World,Below w.heap.size w W->Calls Tryz.prog 195 #[.agg #[.pointer (some a),.int .i64 o.st,.int .i64 o.sr,.int .i64 o.k,.int .i64 o.pt,.int .i64 o.pr,.int .i64 o.it,.int .i64 o.ir,.int .i64 o.tt,.int .i64 o.tr,.string o.name,.string o.new,.int .i64 o.off,.string o.data]] W fun e w'=>e=.returned (.tuple #[.agg #[.int .i64 x.id.1,.int .i64 x.id.2,.int .i64 x.kind,.int .i64 x.links,.int .i64 x.mode,.string x.data],.bool b])/\Below W.heap.size W w'):=Lib.hid fun W hW=>by
  rw[hx,hb];exact named_code H a S g o W (rep_below h hW) hg hn
 have GT:Hid (∀W:World,Below w.heap.size w W->Calls Tryz.prog 67 #[.pointer (some a),.agg #[.int .i64 o.tt,.int .i64 o.tr]] W fun e w'=>e=.returned (.tuple #[.agg #[.int .i64 tw.id.1,.int .i64 tw.id.2,.int .i64 tw.kind,.int .i64 tw.links,.int .i64 tw.mode,.string tw.data],.bool bt])/\Below W.heap.size W w'):=Lib.hid fun W hW=>by
  rw[htw,hbt];exact H.get a S g (oTo o) W (rep_below h hW) hg
 have TG:Hid (∀W:World,Below w.heap.size w W->Calls Tryz.prog 164 #[.agg #[.pointer (some a),.int .i64 o.st,.int .i64 o.sr,.int .i64 o.k,.int .i64 o.pt,.int .i64 o.pr,.int .i64 o.it,.int .i64 o.ir,.int .i64 o.tt,.int .i64 o.tr,.string o.name,.string o.new,.int .i64 o.off,.string o.data]] W fun e w'=>e=.returned (.tuple #[.agg #[.int .i64 tg.id.1,.int .i64 tg.id.2,.int .i64 tg.kind,.int .i64 tg.links,.int .i64 tg.mode,.string tg.data],.bool bg])/\Below W.heap.size W w'):=Lib.hid fun W hW=>by
  rw[htg,hbg];exact target_code H a S g o W (rep_below h hW) hg hn2
 have DT:Hid (∀W:World,Below w.heap.size w W->Calls Tryz.prog 194 #[.agg #[.int .i64 tw.id.1,.int .i64 tw.id.2,.int .i64 tw.kind,.int .i64 tw.links,.int .i64 tw.mode,.string tw.data]] W fun e w'=>e=.returned (.bool kt)/\Below W.heap.size W w'):=Lib.hid fun W hW=>by
  rw[hkt];exact dirQ_code tw W
 have DX:Hid (∀W:World,Below w.heap.size w W->Calls Tryz.prog 194 #[.agg #[.int .i64 x.id.1,.int .i64 x.id.2,.int .i64 x.kind,.int .i64 x.links,.int .i64 x.mode,.string x.data]] W fun e w'=>e=.returned (.bool kd)/\Below W.heap.size W w'):=Lib.hid fun W hW=>by
  rw[hkd];exact dirQ_code x W
 have UN:Hid (∀W:World,Below w.heap.size w W->Calls Tryz.prog 183 #[.pointer (some a),.agg #[.int .i64 tw.id.1,.int .i64 tw.id.2],.agg #[.int .i64 x.id.1,.int .i64 x.id.2]] W fun e w'=>e=.returned (.bool un)/\Below W.heap.size W w'):=Lib.hid fun W hW=>by
  rw[hun];exact H.under a S g tw.id x.id W (rep_below h hW) hg
 have RP:Hid (∀W:World,Below w.heap.size w W->Calls Tryz.prog 197 #[.agg #[.pointer (some a),.int .i64 o.st,.int .i64 o.sr,.int .i64 o.k,.int .i64 o.pt,.int .i64 o.pr,.int .i64 o.it,.int .i64 o.ir,.int .i64 o.tt,.int .i64 o.tr,.string o.name,.string o.new,.int .i64 o.off,.string o.data],.agg #[.int .i64 x.id.1,.int .i64 x.id.2,.int .i64 x.kind,.int .i64 x.links,.int .i64 x.mode,.string x.data],.agg #[.int .i64 tg.id.1,.int .i64 tg.id.2,.int .i64 tg.kind,.int .i64 tg.links,.int .i64 tg.mode,.string tg.data]] W fun e w'=>e=.returned (.int .i64 rr)/\Below W.heap.size W w'):=Lib.hid fun W hW=>by
  rw[hrr];exact replace_code H a S g o x tg W (rep_below h hW) hg
 have hr2:r=if b=false\/bt=false then 3 else if kt=false then 6 else if bg=true/\(tg.id.1==x.id.1)=true/\(tg.id.2==x.id.2)=true then 0 else if kd=true/\un=true then 8 else if bg=true then rr else 0:=by
  cases hq:namedG g o with
  |none=>rw[hr,rename_none hg hm hk (Or.inl hq),hb,hq];rfl
  |some y=>
   cases hq2:getG g (oTo o) with
   |none=>rw[hr,rename_none hg hm hk (Or.inr hq2),hbt,hq2];simp
   |some z=>
    obtain rfl:x=y:=by rw[hx,hq];rfl
    obtain rfl:tw=z:=by rw[htw,hq2];rfl
    have i1:=(named_some hg hq).2.2.1;have i2:=(kind_is hg hq2).2.1;rw[hr,rename_why hg hm hk hq hq2,hb,hbt,hq,hq2,hkt,hkd,hun,i1,i2];unfold renameB
    cases hq3:aimG g o with
    |none=>rw[hbg,hq3];simp
    |some v=>
     obtain rfl:tg=v:=by rw[htg,hq3];rfl
     rw[hbg,hq3,hrr];have e:(decide (tg.id=oIno o)=true)=((tg.id.1==(oIno o).1)=true/\(tg.id.2==(oIno o).2)=true):=by
      rw[decide_eq_true_iff,beq_iff_eq,beq_iff_eq,Prod.ext_iff]
     simp only[e];simp
 obtain⟨r1,hr1⟩:∃r1,(tg.id.1==x.id.1)=r1:=⟨_,rfl⟩;obtain⟨r3,hr3⟩:∃r3,(tg.id.2==x.id.2)=r3:=⟨_,rfl⟩;rw[hr1,hr3] at hr2;have HR:=Lib.hid hr2;have hH0:Held w [(w.heap.size,.cells (deedA a o) 133)] (w.alloc (.cells (deedA a o) 133)):=(Held.refl w).alloc (.cells (deedA a o) 133) rfl;clear h hr hr2 hx hb htw hbt htg hbg hkt hkd hun hrr hg hm hk hn hn2
 go_enter Tryz.func160,Tryz.ntmps160
 go_upto_region 1 with fail
 change Code.wp _ _ _ _ (w.alloc (.cells (deedA a o) 133));generalize w.alloc (.cells (deedA a o) 133)=v0 at hH0 ⊢;obtain⟨d0,d1,d2,d3,d4,d5,d6,d7,d8,d9,d10,d11,d12,d13⟩:=deed_cells (g:=w.heap.size) (hH0.at 0 rfl)
 go_wp2_with fail
 refine(NA.out _ hH0.below).mono ?_;rintro e y0 ⟨rfl,hb0⟩;have hH1:=hH0.step hb0;clear hH0 hb0 d0 d1 d2 d3 d4 d5 d6 d7 d8 d9 d10 d11 d12 d13 NA
 go_upto_region 2 with fail
 obtain⟨u0,hu0⟩:∃u,u=y0.heap.size:=⟨_,rfl⟩;have hl0:w.heap.size<u0:=by rw[hu0];exact heap_lt (hH1.at 0 rfl)
 have hH2:=hH1.alloc (.cells (inoA x) 102) hu0.symm;change Code.wp _ _ _ _ (y0.alloc (.cells (inoA x) 102));rw[<-hu0];generalize y0.alloc (.cells (inoA x) 102)=v1 at hH2 ⊢;clear hH1 hu0;obtain⟨d0,d1,d2,d3,d4,d5,d6,d7,d8,d9,d10,d11,d12,d13⟩:=deed_cells (g:=w.heap.size) (hH2.at 1 rfl)
 go_wp2_with fail
 refine(GT.out _ hH2.below).mono ?_;rintro e y1 ⟨rfl,hb1⟩;have hH3:=hH2.step hb1;clear hH2 hb1 d0 d1 d2 d3 d4 d5 d6 d7 d8 d9 d10 d11 d12 d13 GT
 go_upto_region 3 with fail
 obtain⟨u1,hu1⟩:∃u,u=y1.heap.size:=⟨_,rfl⟩;have hl1:w.heap.size<u1:=by rw[hu1];exact heap_lt (hH3.at 1 rfl)
 have hH4:=hH3.alloc (.cells (inoA tw) 102) hu1.symm;change Code.wp _ _ _ _ (y1.alloc (.cells (inoA tw) 102));rw[<-hu1];generalize y1.alloc (.cells (inoA tw) 102)=v2 at hH4 ⊢;clear hH3 hu1;obtain⟨d0,d1,d2,d3,d4,d5,d6,d7,d8,d9,d10,d11,d12,d13⟩:=deed_cells (g:=w.heap.size) (hH4.at 2 rfl)
 go_wp2_with fail
 refine(TG.out _ hH4.below).mono ?_;rintro e y2 ⟨rfl,hb2⟩;have hH5:=hH4.step hb2;clear hH4 hb2 d0 d1 d2 d3 d4 d5 d6 d7 d8 d9 d10 d11 d12 d13 TG
 go_upto_region 4 with fail
 obtain⟨u2,hu2⟩:∃u,u=y2.heap.size:=⟨_,rfl⟩;have hl2:w.heap.size<u2:=by rw[hu2];exact heap_lt (hH5.at 2 rfl)
 have hH6:=hH5.alloc (.cells (inoA tg) 102) hu2.symm;change Code.wp _ _ _ _ (y2.alloc (.cells (inoA tg) 102));rw[<-hu2];generalize y2.alloc (.cells (inoA tg) 102)=v3 at hH6 ⊢;clear hH5 hu2;have O:=Lib.hid (fun y=>deed_cells (g:=w.heap.size) (((later_below v3 y).block _ (heap_lt (hH6.at 3 rfl))).trans (hH6.at 3 rfl)));have d0:=fun y=>(O.out y).1;have d1:=fun y=>(O.out y).2.1;have d2:=fun y=>(O.out y).2.2.1;have d3:=fun y=>(O.out y).2.2.2.1;have d4:=fun y=>(O.out y).2.2.2.2.1;have d5:=fun y=>(O.out y).2.2.2.2.2.1;have d6:=fun y=>(O.out y).2.2.2.2.2.2.1;have d7:=fun y=>(O.out y).2.2.2.2.2.2.2.1;have d8:=fun y=>(O.out y).2.2.2.2.2.2.2.2.1;have d9:=fun y=>(O.out y).2.2.2.2.2.2.2.2.2.1;have d10:=fun y=>(O.out y).2.2.2.2.2.2.2.2.2.2.1;have d11:=fun y=>(O.out y).2.2.2.2.2.2.2.2.2.2.2.1;have d12:=fun y=>(O.out y).2.2.2.2.2.2.2.2.2.2.2.2.1;have d13:=fun y=>(O.out y).2.2.2.2.2.2.2.2.2.2.2.2.2;have X0:=Lib.hid (fun y=>ino_cells (g:=u0) (((later_below v3 y).block _ (heap_lt (hH6.at 2 rfl))).trans (hH6.at 2 rfl)));have x00:=fun y=>(X0.out y).1;have x01:=fun y=>(X0.out y).2.1;have x02:=fun y=>(X0.out y).2.2.1;have x03:=fun y=>(X0.out y).2.2.2.1;have x04:=fun y=>(X0.out y).2.2.2.2.1;have x05:=fun y=>(X0.out y).2.2.2.2.2;clear X0;have X1:=Lib.hid (fun y=>ino_cells (g:=u1) (((later_below v3 y).block _ (heap_lt (hH6.at 1 rfl))).trans (hH6.at 1 rfl)));have x10:=fun y=>(X1.out y).1;have x11:=fun y=>(X1.out y).2.1;have x12:=fun y=>(X1.out y).2.2.1;have x13:=fun y=>(X1.out y).2.2.2.1;have x14:=fun y=>(X1.out y).2.2.2.2.1;have x15:=fun y=>(X1.out y).2.2.2.2.2;clear X1;have X2:=Lib.hid (fun y=>ino_cells (g:=u2) (((later_below v3 y).block _ (heap_lt (hH6.at 0 rfl))).trans (hH6.at 0 rfl)));have x20:=fun y=>(X2.out y).1;have x21:=fun y=>(X2.out y).2.1;have x22:=fun y=>(X2.out y).2.2.1;have x23:=fun y=>(X2.out y).2.2.2.1;have x24:=fun y=>(X2.out y).2.2.2.2.1;have x25:=fun y=>(X2.out y).2.2.2.2.2;clear X2;have HB:=Lib.hid hH6.below;have DT':Hid (∀y,Calls Tryz.prog 194 #[.agg #[.int .i64 tw.id.1,.int .i64 tw.id.2,.int .i64 tw.kind,.int .i64 tw.links,.int .i64 tw.mode,.string tw.data]] (later v3 y) fun e w'=>e=.returned (.bool kt)/\∃z,w'=later v3 z):=Lib.hid fun y=>later_call (DT.out _ (below_step HB.out (later_below v3 y)));have DX':Hid (∀y,Calls Tryz.prog 194 #[.agg #[.int .i64 x.id.1,.int .i64 x.id.2,.int .i64 x.kind,.int .i64 x.links,.int .i64 x.mode,.string x.data]] (later v3 y) fun e w'=>e=.returned (.bool kd)/\∃z,w'=later v3 z):=Lib.hid fun y=>later_call (DX.out _ (below_step HB.out (later_below v3 y)));have UN':Hid (∀y,Calls Tryz.prog 183 #[.pointer (some a),.agg #[.int .i64 tw.id.1,.int .i64 tw.id.2],.agg #[.int .i64 x.id.1,.int .i64 x.id.2]] (later v3 y) fun e w'=>e=.returned (.bool un)/\∃z,w'=later v3 z):=Lib.hid fun y=>later_call (UN.out _ (below_step HB.out (later_below v3 y)));have RP':Hid (∀y,Calls Tryz.prog 197 #[.agg #[.pointer (some a),.int .i64 o.st,.int .i64 o.sr,.int .i64 o.k,.int .i64 o.pt,.int .i64 o.pr,.int .i64 o.it,.int .i64 o.ir,.int .i64 o.tt,.int .i64 o.tr,.string o.name,.string o.new,.int .i64 o.off,.string o.data],.agg #[.int .i64 x.id.1,.int .i64 x.id.2,.int .i64 x.kind,.int .i64 x.links,.int .i64 x.mode,.string x.data],.agg #[.int .i64 tg.id.1,.int .i64 tg.id.2,.int .i64 tg.kind,.int .i64 tg.links,.int .i64 tg.mode,.string tg.data]] (later v3 y) fun e w'=>e=.returned (.int .i64 rr)/\∃z,w'=later v3 z):=Lib.hid fun y=>later_call (RP.out _ (below_step HB.out (later_below v3 y)));rw[show v3=later v3 v3 from(later_of (Below.refl _ _)).symm];clear hH6 O DT DX UN RP
 go_wp2_with fail
 iterate 8
  all_goals first
   |((fail_if_success (go_at_call 194));(fail_if_success (go_at_call 183));(fail_if_success (go_at_call 197));go_ret;exact⟨by rw[HR.out];clear d0 d1 d2 d3 d4 d5 d6 d7 d8 d9 d10 d11 d12 d13 x00 x01 x02 x03 x04 x05 x10 x11 x12 x13 x14 x15 x20 x21 x22 x23 x24 x25 DT' DX' UN' RP' HB HR hr1 hr3;simp_all,below_step HB.out (later_below v3 _)⟩)
   |(go_at_call 194;(with_reducible refine(DT'.out _).mono ?_);rintro z w5 ⟨rfl,y5,rfl⟩;go_wp2_with fail)
   |(go_at_call 194;(with_reducible refine(DX'.out _).mono ?_);rintro z w5 ⟨rfl,y5,rfl⟩;go_wp2_with fail)
   |(go_at_call 183;(with_reducible refine(UN'.out _).mono ?_);rintro z w5 ⟨rfl,y5,rfl⟩;go_wp2_with fail)
   |(go_at_call 197;(with_reducible refine(RP'.out _).mono ?_);rintro z w5 ⟨rfl,y5,rfl⟩;go_wp2_with fail)
   |skip
end Go.Proofs.YtnnnkaobhkeocaaGreatDoor
namespace Go.Proofs.YtnnnkaobhkeocaaGreatDoor
open Go.RowKit
def inV(x:Int):Value:=.int .i64 x
def fnV(f:FuncId):Value:=.func (.func f) #[] #[]
theorem findNow_int(q:IntKind)(x:Int):∀(es:List MapEntry)(i:Nat),(∀e∈es,∃y,e.key=inV y)->
  (Instr.findNow (.int q) (inV x) es i=some none/\∀e∈es,e.key≠inV x)\/∃j e,Instr.findNow (.int q) (inV x) es i=some (some (i+j,e.val))/\es[j]?=some e/\e.key=inV x
 | [],i,_=>Or.inl ⟨by simp[Instr.findNow],by simp⟩
 |e::es,i,hall=>by
  obtain⟨y,hy⟩:=hall e (by simp);have hs:Instr.sameNow (.int q) (inV x) e.key=some (x==y):=by rw[hy];simp[Instr.sameNow,inV]
  by_cases hxy:x=y
  ·right
   rw[beq_iff_eq.2 hxy] at hs;exact⟨0,e,by simp[Instr.findNow,hs],rfl,by rw[hy,hxy]⟩
  ·rw[beq_eq_false_iff_ne.2 hxy] at hs;rcases findNow_int q x es (i+1) (fun z hz=>hall z (by simp[hz])) with ⟨h1,h2⟩|⟨j,e',h1,h2,h3⟩
   ·left
    refine⟨by simp[Instr.findNow,hs,h1],fun z hz=>?_⟩;rcases List.mem_cons.1 hz with rfl|hz
    ·rw[hy];intro e2;simp[inV] at e2;exact hxy e2.symm
    ·exact h2 z hz
   ·right
    exact⟨j+1,e',by simp[Instr.findNow,hs,h1,Nat.add_assoc,Nat.add_comm 1 j],by simpa using h2,h3⟩
theorem KShape.of_int{P:Program}{k:TypeId}{q:IntKind}(hu:P.underlying k=some (.int q)):KShape P k inV where
 inj:=fun x y h=>by simp[inV] at h;exact h
 check:=fun w em x=>checkKey_int hu w em 9999 x
 find:=fun w x es hall=>by
  rcases findNow_int q x es 0 hall with ⟨h1,h2⟩|⟨j,e,h1,h2,h3⟩
  ·exact Or.inl ⟨MapKept.run_findKey hu h1,h2⟩
  ·exact Or.inr ⟨j,e,by rw[Nat.zero_add] at h1;exact MapKept.run_findKey hu h1,h2,h3⟩
 stays:=fun w x=>by simp[Instr.keyThatStays,inV,Instr.sameBits]
section
variable {K V:Type}{ek:K->Value}{ev:V->Value}{P:Program}{k e:TypeId}
theorem wpList_k_insert[DecidableEq K](S:KShape P k ek){w:World}{ops:Array Oper}{rest:List Oper}{o:Oper}{a:Act}{Q:Exit->Act->World->Prop}(hg:o.guard=none)(m x v:Operand)(t:TypeId)
  (hop:o.op=Op.insert t m x v)(ht:P.underlying t=some (.map k e))(b:Nat)(L:List (K×V))(hm:a.eval m=.map (some b))(h:KMap ek ev w b L)(key:K)(hx:a.eval x=ek key)(val:V)(hv:a.eval v=ev val)
  (hK:∀w',Hid (KMap ek ev w' b ((key,val)::offL L key))->Hid (But (fun i=>i=b) w w')->Hid (w'.heap.size=w.heap.size)->wpList P ops Q rest (a.put o.dst undef) w'):wpList P ops Q (o::rest) a w:=by
 refine wpList_plain hg fun K' hK'=>?_;obtain⟨w',hrun,r1,r2,r3⟩:=h.store S ht key val;unfold Oper.wp;simp[execOp,hop,hm,hx,hv,hrun,Result.andThen];exact hK' _ _ (hK w' r1 r2 r3)
theorem wpList_k_insert_new[DecidableEq K](S:KShape P k ek){w:World}{ops:Array Oper}{rest:List Oper}{o:Oper}{a:Act}{Q:Exit->Act->World->Prop}(hg:o.guard=none)(m x v:Operand)(t:TypeId)
  (hop:o.op=Op.insert t m x v)(ht:P.underlying t=some (.map k e))(b:Nat)(L:List (K×V))(hm:a.eval m=.map (some b))(h:KMap ek ev w b L)(key:K)(hx:a.eval x=ek key)(val:V)(hv:a.eval v=ev val)
  (hn:offL L key=L)
  (hK:∀w',Hid (KMap ek ev w' b ((key,val)::L))->Hid (But (fun i=>i=b) w w')->Hid (w'.heap.size=w.heap.size)->wpList P ops Q rest (a.put o.dst undef) w'):wpList P ops Q (o::rest) a w:=
 wpList_k_insert S hg m x v t hop ht b L hm h key hx val hv fun w' h1 h2 h3=>hK w' (by rw[hn] at h1;exact h1) h2 h3
end
end Go.Proofs.YtnnnkaobhkeocaaGreatDoor
namespace Go.Proofs.YtnnnkaobhkeocaaGreatDoor
open Go.RowKit OpMath
set_option maxRecDepth 100000 in
theorem code_index(s:ByteArray)(c:Int)(w:World):
  Calls Tryz.prog 198 #[.string s,.int .u8 c] w fun e w'=>e=.returned (.int .i64 (Lib.indexByte s.data.toList c.toNat.toUInt8))/\w=w':=by
 go_enter Tryz.func198,Tryz.ntmps198
 go_wp2
 rw[run_callFunc_extern Tryz.func210 (by kernel_rfl) (by kernel_rfl) (by kernel_rfl) (e:=Extern.BytealgIndexByte.indexByte) (by kernel_rfl),Lib.run_indexByteString];simp only[Result.andThen];rw[Oper.upon_value]
 go_wp2
 go_ret
 exact⟨rfl,rfl⟩
theorem code_index2(s:ByteArray)(c:Int)(w:World):
  Calls Tryz.prog 167 #[.string s,.int .u8 c] w fun e w'=>e=.returned (.int .i64 (Lib.indexByte s.data.toList c.toNat.toUInt8))/\w=w':=by
 go_enter Tryz.func167,Tryz.ntmps167
 go_wp2_with fail
 refine(code_index _ _ _).mono ?_;rintro e w' ⟨rfl,rfl⟩
 go_wp2_with fail
 go_ret
 exact⟨rfl,rfl⟩
theorem index_any(l:List UInt8)(c:UInt8):decide (0<=Lib.indexByte l c)=l.any (· ==c):=by
 induction l with
 |nil=>rfl
 |cons b l ih=>
  unfold Lib.indexByte;rw[List.any_cons];by_cases hb:(b==c)=true
  ·rw[if_pos hb,hb];rfl
  ·rw[if_neg hb,Bool.eq_false_iff.2 hb,Bool.false_or,<-ih];have hge:=Lib.indexByte_ge l c;by_cases h:(Lib.indexByte l c== -1)=true
   ·rw[if_pos h];rw[beq_iff_eq.1 h]
   ·rw[if_neg h];have hne:Lib.indexByte l c≠ -1:=fun e=>h (by rw[e];rfl);rw[decide_eq_decide];omega
theorem hasByte_any(s:ByteArray)(c:Int)(w:World):
  Calls Tryz.prog 129 #[.string s,.int .u8 c] w fun e w'=>e=.returned (.bool (hasB s c.toNat.toUInt8))/\w=w':=by
 go_enter Tryz.func129,Tryz.ntmps129
 go_wp2_with fail
 refine(code_index2 _ _ _).mono ?_;rintro e w' ⟨rfl,rfl⟩
 go_wp2_with fail
 go_ret
 exact⟨congrArg (fun b=>Ending.returned (.bool b)) (index_any s.data.toList c.toNat.toUInt8),rfl⟩
theorem name_any(s:ByteArray)(hs:s.size<=maxLen)(w:World):
  Calls Tryz.prog 127 #[.string s] w fun e w'=>e=.returned (.bool (nameB s))/\w=w':=by
 have hs':s.size<=9223372036854775807:=by unfold maxLen at hs;omega
 clear hs;have HZ:Hid (∀W:World,Calls Tryz.prog 129 #[.string s,.int .u8 0] W fun e w'=>e=.returned (.bool (hasB s 0))/\W=w'):=fun W=>hasByte_any s 0 W;have HL:Hid (∀W:World,Calls Tryz.prog 129 #[.string s,.int .u8 47] W fun e w'=>e=.returned (.bool (hasB s 47))/\W=w'):=fun W=>hasByte_any s 47 W;have HN:Hid (nameB s=(decide (1<=s.size)&&decide (s.size<=8)&& !(s.toList== [46])&& !(s.toList== [46,46])&& !hasB s 47&& !hasB s 0)):=rfl;generalize hasB s 0=z at HZ HN;generalize hasB s 47=l at HL HN;by_cases h1:(s.toList== [46])=true
 ·have H1:=Lib.hid h1
  go_enter Tryz.func127,Tryz.ntmps127
  go_wp2_with fail
  go_ret
  exact⟨by rw[HN.out,H1.out];simp,rfl⟩
 ·have h1:(s.toList== [46])=false:=by simpa using h1
  by_cases h2:(s.toList== [46,46])=true
  ·have H2:=Lib.hid h2
   go_enter Tryz.func127,Tryz.ntmps127
   go_wp2_with fail
   go_ret
   exact⟨by rw[HN.out,H2.out];simp,rfl⟩
  ·have h2:(s.toList== [46,46])=false:=by simpa using h2
   have H1:=Lib.hid h1;have H2:=Lib.hid h2
   cases z
   ·cases l
    ·by_cases h3:1<=s.size
     ·by_cases h4:s.size<=8
      ·have H3:=Lib.hid (show decide (1<=s.size)=true by simpa using h3);have H4:=Lib.hid (show decide (s.size<=8)=true by simpa using h4);have d4:decide ((s.size:Int)<=8)=true:=by simp;omega
       clear h4
       go_enter Tryz.func127,Tryz.ntmps127
       go_wp2_with fail
       refine(HZ.out _).mono ?_;rintro e w' ⟨rfl,rfl⟩
       go_wp2_with fail
       refine(HL.out _).mono ?_;rintro e w' ⟨rfl,rfl⟩
       go_wp2_with fail
       go_ret
       exact⟨by rw[HN.out,H1.out,H2.out,H3.out,H4.out];rfl,rfl⟩
      ·have d4:decide ((s.size:Int)<=8)=false:=by simp;omega
       have H3:=Lib.hid (show decide (1<=s.size)=true by simpa using h3);have H4:=Lib.hid (show decide (s.size<=8)=false by simpa using h4);clear h4
       go_enter Tryz.func127,Tryz.ntmps127
       go_wp2_with fail
       refine(HZ.out _).mono ?_;rintro e w' ⟨rfl,rfl⟩
       go_wp2_with fail
       refine(HL.out _).mono ?_;rintro e w' ⟨rfl,rfl⟩
       go_wp2_with fail
       go_ret
       exact⟨by rw[HN.out,H3.out,H4.out];rfl,rfl⟩
     ·have d3:decide (1<=(s.size:Int))=false:=by simp;omega
      have H3:=Lib.hid (show decide (1<=s.size)=false by simpa using h3);clear h3
      go_enter Tryz.func127,Tryz.ntmps127
      go_wp2_with fail
      refine(HZ.out _).mono ?_;rintro e w' ⟨rfl,rfl⟩
      go_wp2_with fail
      refine(HL.out _).mono ?_;rintro e w' ⟨rfl,rfl⟩
      go_wp2_with fail
      go_ret
      exact⟨by rw[HN.out,H3.out];rfl,rfl⟩
    ·go_enter Tryz.func127,Tryz.ntmps127
     go_wp2_with fail
     refine(HZ.out _).mono ?_;rintro e w' ⟨rfl,rfl⟩
     go_wp2_with fail
     refine(HL.out _).mono ?_;rintro e w' ⟨rfl,rfl⟩
     go_wp2_with fail
     go_ret
     exact⟨by rw[HN.out];simp,rfl⟩
   ·go_enter Tryz.func127,Tryz.ntmps127
    go_wp2_with fail
    refine(HZ.out _).mono ?_;rintro e w' ⟨rfl,rfl⟩
    go_wp2_with fail
    go_ret
    exact⟨by rw[HN.out];simp,rfl⟩
def hasF(k f:Int):Bool:=
 if f=1 then decide (1<=k/\k<=7)
 else if f=2 then decide (4<=k/\k<=10)
 else if f=4 then decide (k=7)
 else if f=8 then decide (1<=k/\k<=7)
 else if f=16 then decide (k=7)
 else if f=32 then decide (8<=k/\k<=10)
 else decide (k=3\/k=8)
end Go.Proofs.YtnnnkaobhkeocaaGreatDoor
namespace Go.Proofs.YtnnnkaobhkeocaaGreatDoor
open Go.RowKit StampMath PackMath
theorem isRep_any(r:Int)(w:World):
  Calls Tryz.prog 71 #[.int .i64 r] w fun e w'=>e=.returned (.bool (decide (0<=r)&&decide (r<8)))/\w=w':=by
 have hcase:(decide (0<=r)=false)\/0<=r:=by
  by_cases h:0<=r
  ·exact Or.inr h
  ·exact Or.inl (by simp;omega)
 rcases hcase with h|h
 all_goals
  go_enter Tryz.func71,Tryz.ntmps71
  go_wp2_with fail
  go_ret
  exact⟨by simp[h],rfl⟩
set_option maxHeartbeats 400000 in
theorem may_any(t r:Int)(w:World):
  Calls Tryz.prog 36 #[.agg #[.int .i64 t,.int .i64 r]] w fun e w'=>e=.returned (.bool (mayB t r))/\Below w.heap.size w w':=by
 have hcase:((t==0)=true/\mayB t r=(r==0))\/((t==0)=false/\decide (0<t)=false/\mayB t r=false)\/((t==0)=false/\0<t/\decide (t<=1073741824)=false/\mayB t r=false)\/
   ((t==0)=false/\0<t/\t<=1073741824/\mayB t r=(decide (0<=r)&&decide (r<8))):=by
  unfold mayB;by_cases h0:t=0
  ·exact Or.inl ⟨by simp[h0],by rw[if_pos h0]⟩
  ·rw[if_neg h0];by_cases h1:0<t
   ·by_cases h2:t<=1073741824
    ·refine Or.inr (Or.inr (Or.inr ⟨by simp[h0],h1,h2,?_⟩));have e1:decide (1<=t)=true:=by simp;omega
     have e2:decide (r<=7)=decide (r<8):=by rw[decide_eq_decide];omega
     rw[e1,e2];simp[h2]
    ·exact Or.inr (Or.inr (Or.inl ⟨by simp[h0],h1,by simp;omega,by simp[h2]⟩))
   ·exact Or.inr (Or.inl ⟨by simp[h0],by simp;omega,by simp;omega⟩)
 rcases hcase with ⟨h0,h⟩|⟨h0,h1,h⟩|⟨h0,h1,h2,h⟩|⟨h0,h1,h2,h⟩
 ·have H:=Lib.hid h;clear h
  go_enter Tryz.func36,Tryz.ntmps36
  go_wp2_with fail
  go_ret
  exact⟨by rw[H.out];rfl,(Below.refl _ _).alloc (Nat.le_refl _) _⟩
 ·have H:=Lib.hid h;clear h
  go_enter Tryz.func36,Tryz.ntmps36
  go_wp2_with fail
  go_ret
  exact⟨by rw[H.out];rfl,(Below.refl _ _).alloc (Nat.le_refl _) _⟩
 ·have H:=Lib.hid h;clear h
  go_enter Tryz.func36,Tryz.ntmps36
  go_wp2_with fail
  go_ret
  exact⟨by rw[H.out];rfl,(Below.refl _ _).alloc (Nat.le_refl _) _⟩
 ·have H:=Lib.hid h;clear h
  go_enter Tryz.func36,Tryz.ntmps36
  go_wp2_with fail
  refine(isRep_any _ _).mono ?_;rintro e w' ⟨rfl,rfl⟩
  go_wp2_with fail
  go_ret
  exact⟨by rw[H.out];rfl,(Below.refl _ _).alloc (Nat.le_refl _) _⟩
end Go.Proofs.YtnnnkaobhkeocaaGreatDoor
