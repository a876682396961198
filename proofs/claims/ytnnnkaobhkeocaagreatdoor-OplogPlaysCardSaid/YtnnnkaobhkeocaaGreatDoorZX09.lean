/-
 The walk of the document's own Why: why an operation can't be done.
-/
import Derived.Test.YtnnnkaobhkeocaaGreatDoorZX08
import Derived.Test.YtnnnkaobhkeocaaGreatDoorZX03
import Derived.Test.YtnnnkaobhkeocaaGreatDoorZ01
import Derived.Test.YtnnnkaobhkeocaaGreatDoorZ10
import Derived.Test.YtnnnkaobhkeocaaGreatDoorZ00
import Derived.Deep.DeepCutAuto
import Derived.Test.YtnnnkaobhkeocaaGreatDoorZX05
import Derived.Test.YtnnnkaobhkeocaaGreatDoorZ04
import Derived.Deep.RegionHeld3
import Derived.Deep.Cut
namespace Go.Proofs.YtnnnkaobhkeocaaGreatDoor
open Go.RowKit StampMath GraphMath OpMath
def wB(may:Bool)(k mk rn:Int)(hs:Bool)(ki ln:Int):Int:=
 if may=false then 1 else if k<=4 then mk else if k=7 then rn else if(k<=6/\hs=false)\/ki=0 then 3 else if(k=5\/k=8\/k=9)/\ki=1 then 5 else if k=6/\ki≠1 then 6 else if k=6/\0<ln then 7 else if(k=8\/k=9)/\ki=3 then 8 else 0
theorem whyA_eq(g:Gr)(o:Opn):whyA g o=wB (mayO o) o.k (makesW g o) (renamesW g o) (decide (lookE g.E (oAt o) o.name=some (oIno o))) (kindG g (oIno o)) ((listE g.E (oIno o)).length:Int):=by
 unfold whyA wB;have e0:∀n:Nat,(0<n)=((0:Int)<(n:Int)):=fun n=>propext (by omega);simp only[e0,ne_eq,decide_eq_false_iff_not]
set_option maxRecDepth 100000 in
set_option maxHeartbeats 3200000 in
theorem GrV.why{w:World}{A:Option Addr}{n c:Nat}{A':Option Addr}{m d:Nat}{g:Gr}(h:GrV w A n c A' m d g)(o:Opn)(z1:o.name.size<=9223372036854775807)(z2:o.new.size<=9223372036854775807)(z3:o.data.size<=9223372036854775807):
  Calls Tryz.prog 97 #[.agg #[.slice A n c,.slice A' m d],.agg (opA o)] w fun e w'=>e=.returned (.int .i64 (whyA g o))/\Below w.heap.size w w':=by
 have hM:=whyA_eq g o;have MY:Hid (∀W:World,Calls Tryz.prog 79 #[.agg (opA o)] W fun e w'=>e=.returned (.bool (mayO o))/\Below W.heap.size W w'):=fun W=>refOpMay o z1 z2 z3 W;have KI:Hid (∀W:World,Below w.heap.size w W->Calls Tryz.prog 135 #[.agg #[.slice A n c,.slice A' m d],.agg #[.int .i64 o.it,.int .i64 o.ir]] W fun e w'=>e=.returned (.int .i64 (kindG g (oIno o)))/\Below W.heap.size W w'):=fun W hW=>(h.step hW).kind (oIno o);have MK:Hid (∀W:World,Below w.heap.size w W->Calls Tryz.prog 136 #[.agg #[.slice A n c,.slice A' m d],.agg (opA o)] W fun e w'=>e=.returned (.int .i64 (makesW g o))/\Below W.heap.size W w'):=fun W hW=>(h.step hW).makes o;have RN:Hid (∀W:World,Below w.heap.size w W->Calls Tryz.prog 137 #[.agg #[.slice A n c,.slice A' m d],.agg (opA o)] W fun e w'=>e=.returned (.int .i64 (renamesW g o))/\Below W.heap.size W w'):=fun W hW=>(h.step hW).renames o;have HS:Hid (∀W:World,Below w.heap.size w W->Calls Tryz.prog 138 #[.agg #[.slice A n c,.slice A' m d],.agg #[.int .i64 o.pt,.int .i64 o.pr],.string o.name,.agg #[.int .i64 o.it,.int .i64 o.ir]] W fun e w'=>e=.returned (.bool (decide (lookE g.E (oAt o) o.name=some (oIno o))))/\Below W.heap.size W w'):=fun W hW=>(h.step hW).has (oAt o) o.name (oIno o);have LI:Hid (∀W:World,Below w.heap.size w W->Calls Tryz.prog 139 #[.agg #[.slice A n c,.slice A' m d],.agg #[.int .i64 o.it,.int .i64 o.ir]] W fun e w'=>∃B k,e=.returned (.slice B (listE g.E (oIno o)).length k)/\Below W.heap.size W w'):=fun W hW=>((h.step hW).list (oIno o)).mono fun _ _ ⟨B,k,he,_,_,_,_,hb⟩=>⟨B,k,he,hb⟩;generalize decide (lookE g.E (oAt o) o.name=some (oIno o))=hs at HS hM;generalize kindG g (oIno o)=ki at KI hM;generalize (listE g.E (oIno o)).length=ln at LI hM;generalize makesW g o=mk at MK hM;generalize renamesW g o=rn at RN hM;generalize mayO o=may at MY hM;generalize whyA g o=r at hM ⊢;have HM:=Lib.hid hM;have hb0:Held w [(w.heap.size+1,.cells (opA o) 37),(w.heap.size,.cells #[.slice A n c,.slice A' m d] 31)]
  ((w.alloc (.cells #[.slice A n c,.slice A' m d] 31)).alloc (.cells (opA o) 37)):=
  ((Held.refl w).alloc (.cells #[.slice A n c,.slice A' m d] 31) rfl).alloc (.cells (opA o) 37) (by simp)
 clear h hM z1 z2 z3;unfold opA at MY MK RN ⊢
 go_enter Tryz.func97,Tryz.ntmps97
 go_upto_region 1 with fail
 change Code.wp _ _ _ _ ((w.alloc (.cells #[.slice A n c,.slice A' m d] 31)).alloc (.cells (opA o) 37));generalize (w.alloc (.cells #[.slice A n c,.slice A' m d] 31)).alloc (.cells (opA o) 37)=w2 at hb0 ⊢;have d1:=fun y=>later_cell (two_cells (g:=w.heap.size) (hb0.at 1 rfl)).1 y;have d2:=fun y=>later_cell (two_cells (g:=w.heap.size) (hb0.at 1 rfl)).2 y;have O:=Lib.hid (op_later (hb0.at 0 rfl));have f0:=fun y=>(O.out y).1;have f1:=fun y=>(O.out y).2.1;have f2:=fun y=>(O.out y).2.2.1;have f3:=fun y=>(O.out y).2.2.2.1;have f4:=fun y=>(O.out y).2.2.2.2.1;have f5:=fun y=>(O.out y).2.2.2.2.2.1;have f6:=fun y=>(O.out y).2.2.2.2.2.2.1;have f7:=fun y=>(O.out y).2.2.2.2.2.2.2.1;have f8:=fun y=>(O.out y).2.2.2.2.2.2.2.2.1;have f9:=fun y=>(O.out y).2.2.2.2.2.2.2.2.2.1;have f10:=fun y=>(O.out y).2.2.2.2.2.2.2.2.2.2.1;have f11:=fun y=>(O.out y).2.2.2.2.2.2.2.2.2.2.2.1;have f12:=fun y=>(O.out y).2.2.2.2.2.2.2.2.2.2.2.2;have HB:=Lib.hid hb0.below;have MY':Hid (∀y,Calls Tryz.prog 79 #[.agg #[.int .i64 o.st,.int .i64 o.sr,.int .i64 o.k,.int .i64 o.pt,.int .i64 o.pr,.int .i64 o.it,.int .i64 o.ir,.int .i64 o.tt,.int .i64 o.tr,.string o.name,.string o.new,.int .i64 o.off,.string o.data]] (later w2 y) fun e w''=>e=.returned (.bool may)/\∃z,w''=later w2 z):=fun y=>later_call (MY.out _);have KI':Hid (∀y,Calls Tryz.prog 135 #[.agg #[.slice A n c,.slice A' m d],.agg #[.int .i64 o.it,.int .i64 o.ir]] (later w2 y) fun e w''=>e=.returned (.int .i64 ki)/\∃z,w''=later w2 z):=fun y=>later_call (KI.out _ (below_step HB.out (later_below w2 y)));have MK':Hid (∀y,Calls Tryz.prog 136 #[.agg #[.slice A n c,.slice A' m d],.agg #[.int .i64 o.st,.int .i64 o.sr,.int .i64 o.k,.int .i64 o.pt,.int .i64 o.pr,.int .i64 o.it,.int .i64 o.ir,.int .i64 o.tt,.int .i64 o.tr,.string o.name,.string o.new,.int .i64 o.off,.string o.data]] (later w2 y) fun e w''=>e=.returned (.int .i64 mk)/\∃z,w''=later w2 z):=fun y=>later_call (MK.out _ (below_step HB.out (later_below w2 y)));have RN':Hid (∀y,Calls Tryz.prog 137 #[.agg #[.slice A n c,.slice A' m d],.agg #[.int .i64 o.st,.int .i64 o.sr,.int .i64 o.k,.int .i64 o.pt,.int .i64 o.pr,.int .i64 o.it,.int .i64 o.ir,.int .i64 o.tt,.int .i64 o.tr,.string o.name,.string o.new,.int .i64 o.off,.string o.data]] (later w2 y) fun e w''=>e=.returned (.int .i64 rn)/\∃z,w''=later w2 z):=fun y=>later_call (RN.out _ (below_step HB.out (later_below w2 y)));have HS':Hid (∀y,Calls Tryz.prog 138 #[.agg #[.slice A n c,.slice A' m d],.agg #[.int .i64 o.pt,.int .i64 o.pr],.string o.name,.agg #[.int .i64 o.it,.int .i64 o.ir]] (later w2 y) fun e w''=>e=.returned (.bool hs)/\∃z,w''=later w2 z):=fun y=>later_call (HS.out _ (below_step HB.out (later_below w2 y)));have LI':Hid (∀y,Calls Tryz.prog 139 #[.agg #[.slice A n c,.slice A' m d],.agg #[.int .i64 o.it,.int .i64 o.ir]] (later w2 y) fun e w''=>∃B k,e=.returned (.slice B ln k)/\∃z,w''=later w2 z):=fun y=>(LI.out _ (below_step HB.out (later_below w2 y))).mono fun _ w' ⟨B,k,he,hb⟩=>⟨B,k,he,w',(later_of (below_step (later_below w2 y) hb)).symm⟩;rw[show w2=later w2 w2 from(later_of (Below.refl _ _)).symm];clear hb0 MY KI MK RN HS LI O
 go_wp2_with fail
 iterate 8
  all_goals first
   |((fail_if_success (go_at_call 79));(fail_if_success (go_at_call 135));(fail_if_success (go_at_call 136));(fail_if_success (go_at_call 137));(fail_if_success (go_at_call 138));(fail_if_success (go_at_call 139));go_ret;exact⟨by rw[HM.out];clear d1 d2 f0 f1 f2 f3 f4 f5 f6 f7 f8 f9 f10 f11 f12 MY' KI' MK' RN' HS' LI' HM HB;first|(simp_all[wB];done)|(simp_all[wB];omega)|(unfold wB;split<;>simp_all<;>omega),below_step HB.out (later_below w2 _)⟩)
   |(go_at_call 79;(with_reducible refine(MY'.out _).mono ?_);rintro z w5 ⟨rfl,y5,rfl⟩;go_wp2_with fail)
   |(go_at_call 135;(with_reducible refine(KI'.out _).mono ?_);rintro z w5 ⟨rfl,y5,rfl⟩;go_wp2_with fail)
   |(go_at_call 136;(with_reducible refine(MK'.out _).mono ?_);rintro z w5 ⟨rfl,y5,rfl⟩;go_wp2_with fail)
   |(go_at_call 137;(with_reducible refine(RN'.out _).mono ?_);rintro z w5 ⟨rfl,y5,rfl⟩;go_wp2_with fail)
   |(go_at_call 138;(with_reducible refine(HS'.out _).mono ?_);rintro z w5 ⟨rfl,y5,rfl⟩;go_wp2_with fail)
   |(go_at_call 139;(with_reducible refine(LI'.out _).mono ?_);rintro z w5 ⟨B,k,rfl,y5,rfl⟩;go_wp2_with fail)
end Go.Proofs.YtnnnkaobhkeocaaGreatDoor
namespace Go.Proofs.YtnnnkaobhkeocaaGreatDoor
open Go.RowKit ExtentMath PackMath
def Built(w:World)(T:TypeId)(f:Nat->UInt8)(k:Nat)(v:Value)(wr:World):Prop:=
 wr.ownsRow w.heap.size T 1 v k ((bld f k).map bcell)/\Below w.heap.size w wr/\(k=0->v=.slice none 0 0)
theorem built_step{w w1:World}{T:TypeId}{f:Nat->UInt8}{k:Nat}{v:Value}(h:w1.ownsRow w.heap.size T 1 v (k+1) ((bld f k).map bcell++[.int .u8 ((f k).toNat:Int)]))(hb:Below w.heap.size w w1):Built w T f (k+1) v w1:=by
 refine⟨?_,hb,fun h=>by omega⟩;rw[bld_succ,List.map_append];exact h
theorem conv_none(W:World):(convert 61 9 (.slice none 0 0)).run Tryz.prog W=.ok (.string ⟨#[]⟩) W:=by
 kernel_rfl
theorem at_any(d:ByteArray)(i:Nat)(_hd:d.size<=2000)(_hi:i<=4000)(w:World):
  Calls Tryz.prog 143 #[.string d,.int .i64 (i:Int)] w fun e w'=>e=.returned (.int .u8 ((bAt d.data.toList i).toNat:Int))/\w=w':=by
 by_cases h:i<d.size
 ·have e:bAt d.data.toList i=d[i]:=by rw[bAt_lt (by simpa using h)];exact data_get h
  have E:=Lib.hid e;clear e
  go_enter Tryz.func143,Tryz.ntmps143
  go_wp2_with fail
  go_ret
  exact⟨by rw[E.out];rfl,rfl⟩
 ·have e:bAt d.data.toList i=0:=bAt_ge (by simpa using h);have E:=Lib.hid e;have f1:decide (i<d.size)=false:=by simpa using h
  clear e h
  go_enter Tryz.func143,Tryz.ntmps143
  go_wp2_with fail
  go_ret
  exact⟨by rw[E.out];rfl,rfl⟩
set_option maxRecDepth 100000 in
set_option maxHeartbeats 800000 in
theorem refTrunc(d:ByteArray)(n:Int)(hd:d.size<=2000)(w:World):
  Calls Tryz.prog 105 #[.string d,.int .i64 n] w fun e w'=>e=.returned (.tuple #[.string (tR d n).1,.int .i64 (tR d n).2])/\Below w.heap.size w w':=by
 by_cases h0:n<0
 ·rw[show tR d n=(d,1) by unfold tR;rw[if_pos h0]]
  go_enter Tryz.func105,Tryz.ntmps105
  go_wp2_with fail
  go_ret2
  exact⟨rfl,Below.refl _ _⟩
 by_cases h1:64<n
 ·rw[show tR d n=(d,11) by unfold tR;rw[if_neg h0,if_pos (Or.inl h1)]]
  go_enter Tryz.func105,Tryz.ntmps105
  go_wp2_with fail
  go_ret2
  exact⟨rfl,Below.refl _ _⟩
 by_cases h2:64<d.size
 ·rw[show tR d n=(d,11) by unfold tR;rw[if_neg h0,if_pos (Or.inr h2)]]
  go_enter Tryz.func105,Tryz.ntmps105
  go_wp2_with fail
  go_ret2
  exact⟨rfl,Below.refl _ _⟩
 obtain⟨m,rfl⟩:∃m:Nat,n=(m:Int):=⟨n.toNat,by omega⟩;have hm64:m<=64:=by omega
 rw[show tR d (m:Int)=(⟨(bld (bAt d.data.toList) m).toArray⟩,0) by unfold tR;rw[if_neg h0,if_neg (by omega)];rfl];clear h0 h1;obtain⟨i0,hi0,hz0,hz1,hz2⟩:=info_parts u8_info;have CA:Hid (∀(k:Nat)(W:World),k<=4000->Calls Tryz.prog 143 #[.string d,.int .i64 (k:Int)] W fun e w'=>e=.returned (.int .u8 ((bAt d.data.toList k).toNat:Int))/\W=w'):=fun k W hk=>at_any d k hd hk W;obtain⟨f,hf⟩:∃f,f=bAt d.data.toList:=⟨_,rfl⟩;rw[<-hf] at CA ⊢;clear hf
 go_enter Tryz.func105,Tryz.ntmps105
 go_wp2_with fail
 go_loopw [6,7] (fun b i wr=>∃k:Nat,i=.int .i64 (k:Int)/\k<=m/\Hid (Built w 5 f k b wr)) (fun _ i _=>m-(intOf i).toNat)
 case atStart=>exact⟨0,rfl,by omega,⟨World.ownsRow_nil _ _ _ _,Below.refl _ _,fun _=>rfl⟩⟩
 case round=>
  obtain⟨k,rfl,hk,hB⟩:=hrel;by_cases hlt:k<m
  ·have hb:=hB.out.2.1;have hm:k+1<=maxLen:=by unfold maxLen;omega
   go_wp2_with fail
   refine(CA.out k _ (by omega)).mono ?_;rintro e w' ⟨rfl,rfl⟩
   go_wp2_with (at_builtin;refine wpList_append_own _ rfl (.tmp 24) (.tmp 28) 61 rfl w.heap.size 5 i0 _ 1 1 Tryz.underlying61 hi0 hz0 hz1 hz2 rfl (by decide) _ _ _ rfl (hB.out.1.alloc _) ⟨wr.heap.size,0,none⟩ 1 1 [.int .u8 ((f k).toNat:Int)] rfl rfl (cell_one_new _ _ _) (one_cell _ _) hm (by omega) (by simp;exact Nat.le_succ_of_le hb.size) ?_;intro v1 w1 hown1 hg1 _)
   go_roundw
   case rel=>exact⟨k+1,by go_num,by omega,built_step hown1 ((hb.alloc hb.size _).grown hg1 (by simp;exact Nat.le_succ_of_le hb.size) (fun q hq=>(hB.out.1.lt q hq).1))⟩
   case measure=>simp[intOf];omega
  ·obtain rfl:k=m:=by omega
   have hb:=hB.out.2.1;by_cases h0:k=0
   ·have hv:=hB.out.2.2 h0;subst h0;subst hv;have hcv:=conv_none wr
    go_wp2_with fail
    go_ret2
    exact⟨rfl,hb⟩
   ·have hcv:=conv_own hB.out.1 (by omega)
    go_wp2_with fail
    go_ret2
    exact⟨rfl,hb⟩
set_option maxRecDepth 100000 in
set_option maxHeartbeats 1600000 in
theorem refWrite(d:ByteArray)(off:Int)(s:ByteArray)(hd:d.size<=2000)(hs:s.size<=2000)(ho:IsI64 off)(w:World):
  Calls Tryz.prog 104 #[.string d,.int .i64 off,.string s] w fun e w'=>e=.returned (.tuple #[.string (wR d off s).1,.int .i64 (wR d off s).2])/\Below w.heap.size w w':=by
 have hes:(s.toList== [])=decide (s.size=0):=by
  rw[ByteArray.toList_eq];have e2:s.data.toList.length=s.size:=by simp
  cases hl:s.data.toList with
  |nil=>rw[hl] at e2;rw[decide_eq_true (by simpa using e2.symm)];rfl
  |cons a l=>rw[hl,List.length_cons] at e2;rw[decide_eq_false (by omega)];rfl
 by_cases h0:off<0
 ·rw[show wR d off s=(d,1) by unfold wR;rw[if_pos (Or.inl h0)]]
  go_enter Tryz.func104,Tryz.ntmps104
  go_wp2_with fail
  go_ret2
  exact⟨rfl,Below.refl _ _⟩
 by_cases hs0:s.size=0
 ·rw[show wR d off s=(d,1) by unfold wR;rw[if_pos (Or.inr hs0)]];rw[decide_eq_true hs0] at hes
  go_enter Tryz.func104,Tryz.ntmps104
  go_wp2_with fail
  go_ret2
  exact⟨rfl,Below.refl _ _⟩
 rw[decide_eq_false hs0] at hes;by_cases h1:64<off
 ·rw[show wR d off s=(d,11) by unfold wR;rw[if_neg (by omega),if_pos (Or.inl h1)]]
  go_enter Tryz.func104,Tryz.ntmps104
  go_wp2_with fail
  go_ret2
  exact⟨rfl,Below.refl _ _⟩
 by_cases h2:64<s.size
 ·rw[show wR d off s=(d,11) by unfold wR;rw[if_neg (by omega),if_pos (Or.inr (Or.inl h2))]]
  go_enter Tryz.func104,Tryz.ntmps104
  go_wp2_with fail
  go_ret2
  exact⟨rfl,Below.refl _ _⟩
 by_cases h3:64<d.size
 ·rw[show wR d off s=(d,11) by unfold wR;rw[if_neg (by omega),if_pos (Or.inr (Or.inr (Or.inl h3)))]]
  go_enter Tryz.func104,Tryz.ntmps104
  go_wp2_with fail
  go_ret2
  exact⟨rfl,Below.refl _ _⟩
 obtain⟨o,rfl⟩:∃o:Nat,off=(o:Int):=⟨off.toNat,by omega⟩;by_cases h4:64<o+s.size
 ·rw[show wR d (o:Int) s=(d,11) by unfold wR;rw[if_neg (by omega),if_pos (Or.inr (Or.inr (Or.inr (by omega))))]];have h4':(64:Int)<(o:Int)+(s.size:Int):=by omega
  go_enter Tryz.func104,Tryz.ntmps104
  go_wp2_with fail
  go_ret2
  exact⟨rfl,Below.refl _ _⟩
 obtain⟨n,hn⟩:∃n,n=max d.size (o+s.size):=⟨_,rfl⟩;have hR:wR d (o:Int) s=(⟨(bld (wF d.data.toList s.data.toList o) n).toArray⟩,0):=by
  unfold wR;rw[if_neg (by omega),if_neg (by omega),hn];unfold wL;simp
 rw[hR];have h4':¬(64:Int)<(o:Int)+(s.size:Int):=by omega
 clear h0 hR ho h1;obtain⟨i0,hi0,hz0,hz1,hz2⟩:=info_parts u8_info;have CA:Hid (∀(k:Nat)(W:World),k<=4000->Calls Tryz.prog 143 #[.string d,.int .i64 (k:Int)] W fun e w'=>e=.returned (.int .u8 ((bAt d.data.toList k).toNat:Int))/\W=w'):=fun k W hk=>at_any d k hd hk W;obtain⟨f,hf⟩:∃f,f=wF d.data.toList s.data.toList o:=⟨_,rfl⟩;have hF1:Hid (∀k(h:k-o<s.size),o<=k->f k=s[k-o]):=fun k h hk=>by
  rw[hf];unfold wF;have e:s.data.toList.length=s.size:=by simp
  rw[if_pos (by omega),bAt_lt (by omega)];exact data_get h
 have hF2:Hid (∀k,¬(o<=k/\k<o+s.size)->f k=bAt d.data.toList k):=fun k h=>by
  rw[hf];unfold wF;have e:s.data.toList.length=s.size:=by simp
  rw[if_neg (by omega)]
 rw[<-hf];have HN:=Lib.hid hn;clear hf hn
 go_enter Tryz.func104,Tryz.ntmps104
 go_wp2_with fail
 go_loopw [8,9] (fun b i wr=>∃k:Nat,i=.int .i64 (k:Int)/\k<=n/\Hid (Built w 5 f k b wr)) (fun _ i _=>n-(intOf i).toNat)
 case atStart=>exact⟨0,rfl,by omega,⟨World.ownsRow_nil _ _ _ _,Below.refl _ _,fun _=>rfl⟩⟩
 case round=>
  obtain⟨k,rfl,hk,hB⟩:=hrel;have hb:=hB.out.2.1;have hm:k+1<=maxLen:=by have:=HN.out;unfold maxLen;omega
  have hcase:(k<d.size/\o<=k/\k<o+s.size)\/(¬k<d.size/\o<=k/\k<o+s.size)\/(k<d.size/\¬o<=k)\/(k<d.size/\o<=k/\¬k<o+s.size)\/(¬k<d.size/\k<o+s.size/\¬o<=k)\/(¬k<d.size/\¬k<o+s.size):=by omega
  rcases hcase with ⟨c0,c1,c2⟩|⟨c0,c1,c2⟩|⟨c0,c1⟩|⟨c0,c1,c2⟩|⟨c0,c2,c1⟩|⟨c0,c2⟩
  ·have c2':(k:Int)<(o:Int)+(s.size:Int):=by omega
   have hq:k-o<s.size:=by omega
   have e:f k=s[k-o]:=hF1.out k hq c1;have E:=Lib.hid e;have hsub:(k:Int)-(o:Int)=((k-o:Nat):Int):=by omega
   clear e
   go_wp2_with (at_builtin;refine wpList_append_own _ rfl (.tmp 62) (.tmp 68) 61 rfl w.heap.size 5 i0 _ 1 1 Tryz.underlying61 hi0 hz0 hz1 hz2 rfl (by decide) _ _ _ rfl (hB.out.1.alloc _) ⟨wr.heap.size,0,none⟩ 1 1 [.int .u8 (s[k-o].toNat:Int)] rfl rfl (cell_one_new _ _ _) (one_cell _ _) hm (by omega) (by simp;exact Nat.le_succ_of_le hb.size) ?_;intro v1 w1 hown1 hg1 _)
   go_roundw
   case rel=>exact⟨k+1,by go_num,by have:=HN.out;omega,built_step (by rw[E.out];exact hown1) ((hb.alloc hb.size _).grown hg1 (by simp;exact Nat.le_succ_of_le hb.size) (fun q hq=>(hB.out.1.lt q hq).1))⟩
   case measure=>have:=HN.out;simp[intOf];omega
  ·have c2':(k:Int)<(o:Int)+(s.size:Int):=by omega
   have hq:k-o<s.size:=by omega
   have e:f k=s[k-o]:=hF1.out k hq c1;have E:=Lib.hid e;have hsub:(k:Int)-(o:Int)=((k-o:Nat):Int):=by omega
   clear e
   go_wp2_with (at_builtin;refine wpList_append_own _ rfl (.tmp 62) (.tmp 68) 61 rfl w.heap.size 5 i0 _ 1 1 Tryz.underlying61 hi0 hz0 hz1 hz2 rfl (by decide) _ _ _ rfl (hB.out.1.alloc _) ⟨wr.heap.size,0,none⟩ 1 1 [.int .u8 (s[k-o].toNat:Int)] rfl rfl (cell_one_new _ _ _) (one_cell _ _) hm (by omega) (by simp;exact Nat.le_succ_of_le hb.size) ?_;intro v1 w1 hown1 hg1 _)
   go_roundw
   case rel=>exact⟨k+1,by go_num,by have:=HN.out;omega,built_step (by rw[E.out];exact hown1) ((hb.alloc hb.size _).grown hg1 (by simp;exact Nat.le_succ_of_le hb.size) (fun q hq=>(hB.out.1.lt q hq).1))⟩
   case measure=>have:=HN.out;simp[intOf];omega
  ·have c1':decide (o<=k)=false:=by simpa using c1
   have E:=Lib.hid (hF2.out k (by omega))
   go_wp2_with fail
   refine(CA.out k _ (by have:=HN.out;omega)).mono ?_;rintro e w' ⟨rfl,rfl⟩
   go_wp2_with (at_builtin;refine wpList_append_own _ rfl (.tmp 70) (.tmp 74) 61 rfl w.heap.size 5 i0 _ 1 1 Tryz.underlying61 hi0 hz0 hz1 hz2 rfl (by decide) _ _ _ rfl (hB.out.1.alloc _) ⟨wr.heap.size,0,none⟩ 1 1 [.int .u8 ((bAt d.data.toList k).toNat:Int)] rfl rfl (cell_one_new _ _ _) (one_cell _ _) hm (by omega) (by simp;exact Nat.le_succ_of_le hb.size) ?_;intro v1 w1 hown1 hg1 _)
   go_roundw
   case rel=>exact⟨k+1,by go_num,by have:=HN.out;omega,built_step (by rw[E.out];exact hown1) ((hb.alloc hb.size _).grown hg1 (by simp;exact Nat.le_succ_of_le hb.size) (fun q hq=>(hB.out.1.lt q hq).1))⟩
   case measure=>have:=HN.out;simp[intOf];omega
  ·have c2':¬(k:Int)<(o:Int)+(s.size:Int):=by omega
   have E:=Lib.hid (hF2.out k (by omega))
   go_wp2_with fail
   refine(CA.out k _ (by have:=HN.out;omega)).mono ?_;rintro e w' ⟨rfl,rfl⟩
   go_wp2_with (at_builtin;refine wpList_append_own _ rfl (.tmp 70) (.tmp 74) 61 rfl w.heap.size 5 i0 _ 1 1 Tryz.underlying61 hi0 hz0 hz1 hz2 rfl (by decide) _ _ _ rfl (hB.out.1.alloc _) ⟨wr.heap.size,0,none⟩ 1 1 [.int .u8 ((bAt d.data.toList k).toNat:Int)] rfl rfl (cell_one_new _ _ _) (one_cell _ _) hm (by omega) (by simp;exact Nat.le_succ_of_le hb.size) ?_;intro v1 w1 hown1 hg1 _)
   go_roundw
   case rel=>exact⟨k+1,by go_num,by have:=HN.out;omega,built_step (by rw[E.out];exact hown1) ((hb.alloc hb.size _).grown hg1 (by simp;exact Nat.le_succ_of_le hb.size) (fun q hq=>(hB.out.1.lt q hq).1))⟩
   case measure=>have:=HN.out;simp[intOf];omega
  ·have c2':(k:Int)<(o:Int)+(s.size:Int):=by omega
   have c1':decide (o<=k)=false:=by simpa using c1
   have E:=Lib.hid (hF2.out k (by omega))
   go_wp2_with fail
   refine(CA.out k _ (by have:=HN.out;omega)).mono ?_;rintro e w' ⟨rfl,rfl⟩
   go_wp2_with (at_builtin;refine wpList_append_own _ rfl (.tmp 70) (.tmp 74) 61 rfl w.heap.size 5 i0 _ 1 1 Tryz.underlying61 hi0 hz0 hz1 hz2 rfl (by decide) _ _ _ rfl (hB.out.1.alloc _) ⟨wr.heap.size,0,none⟩ 1 1 [.int .u8 ((bAt d.data.toList k).toNat:Int)] rfl rfl (cell_one_new _ _ _) (one_cell _ _) hm (by omega) (by simp;exact Nat.le_succ_of_le hb.size) ?_;intro v1 w1 hown1 hg1 _)
   go_roundw
   case rel=>exact⟨k+1,by go_num,by have:=HN.out;omega,built_step (by rw[E.out];exact hown1) ((hb.alloc hb.size _).grown hg1 (by simp;exact Nat.le_succ_of_le hb.size) (fun q hq=>(hB.out.1.lt q hq).1))⟩
   case measure=>have:=HN.out;simp[intOf];omega
  ·have c2':¬(k:Int)<(o:Int)+(s.size:Int):=by omega
   obtain rfl:k=n:=by have:=HN.out;omega
   have hcv:=conv_own hB.out.1 (by have:=HN.out;omega)
   go_wp2_with fail
   go_ret2
   exact⟨rfl,hb⟩
end Go.Proofs.YtnnnkaobhkeocaaGreatDoor
namespace Go.Proofs.YtnnnkaobhkeocaaGreatDoor
open Go.RowKit StampMath GraphMath OpMath PackMath ExtentMath
def Clear(N:Nat->Prop)(w:World)(b:Nat):Nat->Prop:=fun i=>(N i/\i<w.heap.size)\/b<=i
theorem GrAt.clear{N:Nat->Prop}{w W w':World}{b:Nat}{v:Value}{g:Gr}(hb:b<=W.heap.size)(h:GrAt (MoreN (Clear N w b) W) w' v g):GrAt (Clear N w b) w' v g:=
 h.keep (fun _ _=>rfl) (Nat.le_refl _) fun _ hi=>hi.elim id fun q=>.inr (Nat.le_trans hb q)
theorem GrAt.clear_step{N:Nat->Prop}{w W w':World}{b:Nat}{v:Value}{g:Gr}(h:GrAt (Clear N w b) W v g)(hb:Below W.heap.size W w'):GrAt (Clear N w b) w' v g:=h.step hb
theorem clear_end{N:Nat->Prop}{w W:World}{b res:Nat}{v:Value}{g:Gr}(h:GrAt (Clear N w b) W v g)(hB:Below w.heap.size w W)(h1:w.heap.size<=res)(h2:res<b)(x y:Value):
  GrAt (MoreN N w) ((W.setCell ⟨res,0,none⟩ x).setCell ⟨res,1,none⟩ y) v g/\Below w.heap.size w ((W.setCell ⟨res,0,none⟩ x).setCell ⟨res,1,none⟩ y):=by
 refine⟨h.keep (fun i hi=>?_) (by simp) (fun i hi=>?_),(hB.setCell (p:=⟨res,0,none⟩) h1 _).setCell (p:=⟨res,1,none⟩) h1 _⟩
 ·have hne:i≠res:=by
   rcases hi with hi|hi
   ·have:=hi.2;omega
   ·omega
  rw[heap_setCell_other _ _ _ _ hne,heap_setCell_other _ _ _ _ hne]
 ·rcases hi with hi|hi
  ·exact .inl hi.1
  ·exact .inr (by omega)
set_option maxRecDepth 100000 in
set_option maxHeartbeats 1600000 in
theorem refDoBad(N:Nat->Prop)(v:Value)(g:Gr)(o:Opn)(hg:g.ok)(hw:whyA g o≠0)(z1:o.name.size<=9223372036854775807)(z2:o.new.size<=9223372036854775807)(z3:o.data.size<=9223372036854775807)(w:World)(hv:GrAt N w v g):
  Calls Tryz.prog 75 #[v,.agg (opA o)] w (GrPost N (doA g o) w):=by
 have hdo:doA g o=(g,whyA g o):=by unfold doA;rw[if_neg hw]
 rw[hdo];obtain⟨A,n,c,A',m,d,rfl,hV⟩:=hv.few hg.lenI hg.lenE;have hH0:Held w [(w.heap.size+1+1,.cells #[.slice none 0 0,.slice none 0 0] 31),(w.heap.size+1,.cells (opA o) 37),(w.heap.size,.cells #[.slice A n c,.slice A' m d] 31)]
  (((w.alloc (.cells #[.slice A n c,.slice A' m d] 31)).alloc (.cells (opA o) 37)).alloc (.cells #[.slice none 0 0,.slice none 0 0] 31)):=
  (((Held.refl w).alloc (.cells #[.slice A n c,.slice A' m d] 31) rfl).alloc (.cells (opA o) 37) (by simp)).alloc (.cells #[.slice none 0 0,.slice none 0 0] 31) (by simp)
 have hv0:=hv.live.step (N':=Clear N w (w.heap.size+1+1+1)) hH0.below fun i hi=>.inl hi;have HW:Hid (∀W:World,Below w.heap.size w W->Calls Tryz.prog 97 #[.agg #[.slice A n c,.slice A' m d],.agg (opA o)] W fun e w'=>e=.returned (.int .i64 (whyA g o))/\Below W.heap.size W w'):=fun W hW=>(hV.step hW).why o z1 z2 z3;have hz:(whyA g o==0)=false:=beq_eq_false_iff_ne.2 hw;generalize whyA g o=bad at HW hz hw ⊢;have H0:=Lib.hid hH0;have V0:=Lib.hid hv0;clear hH0 hv0 hv hw hdo hV;unfold opA at HW H0 V0 ⊢;unfold GrPost
 go_enter Tryz.func75,Tryz.ntmps75
 go_wp2_with fail
 refine(HW.out _ H0.out.below).mono ?_;rintro e w1 ⟨rfl,hb1⟩;have hH1:=H0.out.step hb1;have hv1:=V0.out.clear_step hb1;have q2:=clear_end hv1 hH1.below (res:=w.heap.size+1+1) (by omega) (by omega) (.slice A n c) (.slice A' m d);obtain⟨r0,r1⟩:=two_cells (g:=w.heap.size+1+1) (hH1.at 0 rfl);obtain⟨s0,s1⟩:=two_free (g:=w.heap.size+1+1) (hH1.at 0 rfl);obtain⟨g0,g1⟩:=two_cells (g:=w.heap.size) (hH1.at 2 rfl);have Q2:=Lib.hid q2;clear hH1 hv1 hb1 H0 V0 HW q2
 go_wp2_with fail
 exact bodyPost_ret (v:=.tuple #[.agg #[.slice A n c,.slice A' m d],.int .i64 bad]) (by simp[results,Tryz.results75,go_sem,r0,r1]) rfl ⟨_,rfl,Q2.out⟩
theorem mk_s{W:World}{ub go:Nat}{x y:Value}{o:Opn}{T T':TypeId}(h1:W.heap[ub]?=some (.cells #[x,y] T (0,0)))(h2:W.heap[go]?=some (.cells (opA o) T' (0,0))):
  (W.heap[ub]?=some (.cells #[x,y] T (0,0))/\W.heap[go]?=some (.cells (opA o) T' (0,0)))/\(W.cell? ⟨ub,0,none⟩=some (x)/\W.cell? ⟨ub,1,none⟩=some (y))/\W.cell? ⟨go,0,none⟩=some (.int .i64 o.st)/\W.cell? ⟨go,1,none⟩=some (.int .i64 o.sr)/\W.cell? ⟨go,2,none⟩=some (.int .i64 o.k)/\W.cell? ⟨go,3,none⟩=some (.int .i64 o.pt)/\W.cell? ⟨go,4,none⟩=some (.int .i64 o.pr)/\W.cell? ⟨go,5,none⟩=some (.int .i64 o.it)/\W.cell? ⟨go,6,none⟩=some (.int .i64 o.ir)/\W.cell? ⟨go,7,none⟩=some (.int .i64 o.tt)/\W.cell? ⟨go,8,none⟩=some (.int .i64 o.tr)/\W.cell? ⟨go,9,none⟩=some (.string o.name)/\W.cell? ⟨go,10,none⟩=some (.string o.new)/\W.cell? ⟨go,11,none⟩=some (.int .i64 o.off)/\W.cell? ⟨go,12,none⟩=some (.string o.data):=
 And.intro (And.intro h1 h2) (And.intro (two_cells h1) (op_cells h2))
theorem mk_step{W W':World}{ub go:Nat}{x y:Value}{o:Opn}{T T':TypeId}{R:Prop}(hb:Below W.heap.size W W')(h:(W.heap[ub]?=some (.cells #[x,y] T (0,0))/\W.heap[go]?=some (.cells (opA o) T' (0,0)))/\R):
  (W'.heap[ub]?=some (.cells #[x,y] T (0,0))/\W'.heap[go]?=some (.cells (opA o) T' (0,0)))/\(W'.cell? ⟨ub,0,none⟩=some (x)/\W'.cell? ⟨ub,1,none⟩=some (y))/\W'.cell? ⟨go,0,none⟩=some (.int .i64 o.st)/\W'.cell? ⟨go,1,none⟩=some (.int .i64 o.sr)/\W'.cell? ⟨go,2,none⟩=some (.int .i64 o.k)/\W'.cell? ⟨go,3,none⟩=some (.int .i64 o.pt)/\W'.cell? ⟨go,4,none⟩=some (.int .i64 o.pr)/\W'.cell? ⟨go,5,none⟩=some (.int .i64 o.it)/\W'.cell? ⟨go,6,none⟩=some (.int .i64 o.ir)/\W'.cell? ⟨go,7,none⟩=some (.int .i64 o.tt)/\W'.cell? ⟨go,8,none⟩=some (.int .i64 o.tr)/\W'.cell? ⟨go,9,none⟩=some (.string o.name)/\W'.cell? ⟨go,10,none⟩=some (.string o.new)/\W'.cell? ⟨go,11,none⟩=some (.int .i64 o.off)/\W'.cell? ⟨go,12,none⟩=some (.string o.data):=
 mk_s ((hb.block _ (heap_lt h.1.1)).trans h.1.1) ((hb.block _ (heap_lt h.1.2)).trans h.1.2)
theorem mk_store{W:World}{ub go g:Nat}{x y:Value}{o:Opn}{T T':TypeId}{R:Prop}(a b:Value)(hu:ub≠g)(ho:go≠g)(h:(W.heap[ub]?=some (.cells #[x,y] T (0,0))/\W.heap[go]?=some (.cells (opA o) T' (0,0)))/\R):
  (((W.setCell ⟨g,0,none⟩ a).setCell ⟨g,1,none⟩ b).heap[ub]?=some (.cells #[x,y] T (0,0))/\((W.setCell ⟨g,0,none⟩ a).setCell ⟨g,1,none⟩ b).heap[go]?=some (.cells (opA o) T' (0,0)))/\(((W.setCell ⟨g,0,none⟩ a).setCell ⟨g,1,none⟩ b).cell? ⟨ub,0,none⟩=some (x)/\((W.setCell ⟨g,0,none⟩ a).setCell ⟨g,1,none⟩ b).cell? ⟨ub,1,none⟩=some (y))/\((W.setCell ⟨g,0,none⟩ a).setCell ⟨g,1,none⟩ b).cell? ⟨go,0,none⟩=some (.int .i64 o.st)/\((W.setCell ⟨g,0,none⟩ a).setCell ⟨g,1,none⟩ b).cell? ⟨go,1,none⟩=some (.int .i64 o.sr)/\((W.setCell ⟨g,0,none⟩ a).setCell ⟨g,1,none⟩ b).cell? ⟨go,2,none⟩=some (.int .i64 o.k)/\((W.setCell ⟨g,0,none⟩ a).setCell ⟨g,1,none⟩ b).cell? ⟨go,3,none⟩=some (.int .i64 o.pt)/\((W.setCell ⟨g,0,none⟩ a).setCell ⟨g,1,none⟩ b).cell? ⟨go,4,none⟩=some (.int .i64 o.pr)/\((W.setCell ⟨g,0,none⟩ a).setCell ⟨g,1,none⟩ b).cell? ⟨go,5,none⟩=some (.int .i64 o.it)/\((W.setCell ⟨g,0,none⟩ a).setCell ⟨g,1,none⟩ b).cell? ⟨go,6,none⟩=some (.int .i64 o.ir)/\((W.setCell ⟨g,0,none⟩ a).setCell ⟨g,1,none⟩ b).cell? ⟨go,7,none⟩=some (.int .i64 o.tt)/\((W.setCell ⟨g,0,none⟩ a).setCell ⟨g,1,none⟩ b).cell? ⟨go,8,none⟩=some (.int .i64 o.tr)/\((W.setCell ⟨g,0,none⟩ a).setCell ⟨g,1,none⟩ b).cell? ⟨go,9,none⟩=some (.string o.name)/\((W.setCell ⟨g,0,none⟩ a).setCell ⟨g,1,none⟩ b).cell? ⟨go,10,none⟩=some (.string o.new)/\((W.setCell ⟨g,0,none⟩ a).setCell ⟨g,1,none⟩ b).cell? ⟨go,11,none⟩=some (.int .i64 o.off)/\((W.setCell ⟨g,0,none⟩ a).setCell ⟨g,1,none⟩ b).cell? ⟨go,12,none⟩=some (.string o.data):=
 mk_s (W:=(W.setCell ⟨g,0,none⟩ a).setCell ⟨g,1,none⟩ b) ((heap_setCell_other _ _ _ _ hu).trans ((heap_setCell_other _ _ _ _ hu).trans h.1.1)) ((heap_setCell_other _ _ _ _ ho).trans ((heap_setCell_other _ _ _ _ ho).trans h.1.2))
set_option maxRecDepth 100000 in
set_option maxHeartbeats 3200000 in
theorem refDoMake(N:Nat->Prop)(v:Value)(g:Gr)(o:Opn)(hf:g.fine)(hw:whyA g o=0)(hk:o.k<=3)(z1:o.name.size<=9223372036854775807)(z2:o.new.size<=9223372036854775807)(z3:o.data.size<=9223372036854775807)(ok:Ok64 o)(w:World)(hv:GrAt N w v g):
    Calls Tryz.prog 75 #[v,.agg (opA o)] w (GrPost N (doA g o) w):=by
  have hg:=hf.ok;have hdo:doA g o=(madeA g o,0):=by unfold doA;rw[if_pos hw]
  rw[hdo];have hm:=whyA_may hw;obtain⟨p1,p2,_,_,_,_,_,p8⟩:=mayO_parts hm;obtain⟨A,n,c,A',m,d,rfl,hV⟩:=hv.few hg.lenI hg.lenE;have hH0:Held w [(w.heap.size+1+1,.cells #[.slice none 0 0,.slice none 0 0] 31),(w.heap.size+1,.cells (opA o) 37),(w.heap.size,.cells #[.slice A n c,.slice A' m d] 31)]
    (((w.alloc (.cells #[.slice A n c,.slice A' m d] 31)).alloc (.cells (opA o) 37)).alloc (.cells #[.slice none 0 0,.slice none 0 0] 31)):=
    (((Held.refl w).alloc (.cells #[.slice A n c,.slice A' m d] 31) rfl).alloc (.cells (opA o) 37) (by simp)).alloc (.cells #[.slice none 0 0,.slice none 0 0] 31) (by simp)
  have hv0:=hv.live.step (N':=Clear N w (w.heap.size+1+1+1)) hH0.below fun i hi=>.inl hi;have HW:Hid (∀W:World,Below w.heap.size w W->Calls Tryz.prog 97 #[.agg #[.slice A n c,.slice A' m d],.agg (opA o)] W fun e w'=>e=.returned (.int .i64 0)/\Below W.heap.size W w'):=fun W hW=>by rw[<-hw];exact(hV.step hW).why o z1 z2 z3
  have HGt:Hid (∀W:World,Below w.heap.size w W->Calls Tryz.prog 80 #[.agg #[.slice A n c,.slice A' m d],.agg #[.int .i64 o.it,.int .i64 o.ir]] W fun e w'=>e=.returned (.tuple #[.agg (inoA (inoG g (oIno o))),.bool (getG g (oIno o)).isSome])/\Below W.heap.size W w'):=fun W hW=>(hV.step hW).get (oIno o);generalize (getG g (oIno o)).isSome=xi at HGt;obtain⟨x,hx⟩:∃x,x=inoG g (oIno o):=⟨_,rfl⟩;rw[<-hx] at HGt;have H0:=Lib.hid hH0;have V0:=Lib.hid hv0;have HX:=Lib.hid hx;clear hH0 hv0 hv hdo hV hx;have HP:=Lib.hid (And.intro hf (And.intro hw (And.intro z1 (And.intro z2 (And.intro z3 (And.intro ok (And.intro hm p8)))))));clear hf hw z1 z2 z3 ok hm p8 hg;unfold opA at HW H0 V0 ⊢;unfold inoA at HGt;unfold GrPost
  go_enter Tryz.func75,Tryz.ntmps75
  go_wp2_with fail
  refine(HW.out _ H0.out.below).mono ?_;rintro e w1 ⟨rfl,hb1⟩;have hH1:=H0.out.step hb1;have hv1:=V0.out.clear_step hb1;obtain⟨g0,g1⟩:=two_cells (g:=w.heap.size) (hH1.at 2 rfl);obtain⟨e0,e1,e2,e3,e4,e5,e6,e7,e8,e9,e10,e11,e12⟩:=op_cells (o:=o) (g:=w.heap.size+1) (hH1.at 1 rfl);have H1:=Lib.hid hH1;have V1:=Lib.hid hv1;clear hH1 hv1 hb1 H0 V0 HW
  go_wp2_with fail
  refine(HGt.out _ H1.out.below).mono ?_;rintro e w2 ⟨rfl,hb2⟩;have hH2:=H1.out.step hb2;have hv2:=V1.out.clear_step hb2;clear H1 V1 HGt hb2 g0 g1 e0 e1 e2 e3 e4 e5 e6 e7 e8 e9 e10 e11 e12
  go_upto_region 5 with fail
  obtain⟨ux,hux⟩:∃u,u=w2.heap.size:=⟨_,rfl⟩;have hlx:w.heap.size+1+1<ux:=by rw[hux];exact heap_lt (hH2.at 0 rfl)
  have hH3:=hH2.alloc (.cells (inoA x) 102) hux.symm;have hv3:=hv2.clear_step ((Below.refl w2.heap.size w2).alloc (Nat.le_refl _) (.cells (inoA x) 102));have hs3:ux<(w2.alloc (.cells (inoA x) 102)).heap.size:=by rw[hux];simp
  change Code.wp _ _ _ _ (w2.alloc (.cells (inoA x) 102));rw[<-hux];generalize w2.alloc (.cells (inoA x) 102)=w3 at hH3 hv3 hs3 ⊢;clear hH2 hv2 hux;obtain⟨g0,g1⟩:=two_cells (g:=w.heap.size) (hH3.at 3 rfl);obtain⟨e0,e1,e2,e3,e4,e5,e6,e7,e8,e9,e10,e11,e12⟩:=op_cells (o:=o) (g:=w.heap.size+1) (hH3.at 2 rfl);obtain⟨r0,r1⟩:=two_cells (g:=w.heap.size+1+1) (hH3.at 1 rfl);obtain⟨s0,s1⟩:=two_free (g:=w.heap.size+1+1) (hH3.at 1 rfl);obtain⟨x0,x1,x2,x3,x4,x5⟩:=ino_cells (g:=ux) (hH3.at 0 rfl);have H3:=Lib.hid hH3;have V3:=Lib.hid hv3;clear hH3 hv3;have HE:Hid (madeA g o=tie1 (setG (makeG g (oSt o) o.k).1 (oSt o) 0 o.data).1 (oAt o) o.name (oSt o)):=Lib.hid (by unfold madeA;rw[if_pos hk]);have hb:((o.k==1)=true)\/((o.k==1)=false/\(o.k==2)=true)\/((o.k==1)=false/\(o.k==2)=false/\(o.k==3)=true):=by simp;omega
  obtain⟨hf,hw,z1,z2,z3,ok,hm,p8⟩:=HP.out;have hM:=refMake _ _ g (oSt o) o.k hf.ok.lenI hf.ok.lenE w3 V3.out;have hok:=hf.ok.make (oSt o) o.k;unfold GrPost at hM;generalize (makeG g (oSt o) o.k).1=u at hM hok HE;generalize (makeG g (oSt o) o.k).2=er at hM;have hok2:=hok.set (oSt o) 0 o.data;have HT1:Hid (∀(V:World)(C:Option Addr)(j p:Nat)(C':Option Addr)(j' p':Nat),GrAt (Clear N w (w.heap.size+1+1+1)) V (.agg #[.slice C j p,.slice C' j' p']) u->w.heap.size+1+1+1<=V.heap.size->∀W:World,Below V.heap.size V W->Calls Tryz.prog 100 #[.agg #[.slice C j p,.slice C' j' p'],.agg #[.int .i64 o.st,.int .i64 o.sr],.int .i64 0,.string o.data] W fun e w'=>∃(A:Option Addr)(n c:Nat)(A':Option Addr)(m d:Nat),e=.returned (.agg #[.slice A n c,.slice A' m d])/\GrAt (Clear N w (w.heap.size+1+1+1)) w' (.agg #[.slice A n c,.slice A' m d]) (setG u (oSt o) 0 o.data).1/\Below W.heap.size W w'):=fun V C j p C' j' p' h hs W hW=>
    (refSet1 _ _ u (oSt o) 0 o.data hok W (h.clear_step hW)).mono fun e w' ⟨A,n,c,A',m,d,q1,q2,q3⟩=>⟨A,n,c,A',m,d,q1,q2.clear (Nat.le_trans hs hW.size),q3⟩
  generalize (setG u (oSt o) 0 o.data).1=t at HE hok2 HT1;have HT2:Hid (∀(W:World)(C:Option Addr)(j p:Nat)(C':Option Addr)(j' p':Nat),GrAt (Clear N w (w.heap.size+1+1+1)) W (.agg #[.slice C j p,.slice C' j' p']) t->w.heap.size+1+1+1<=W.heap.size->Calls Tryz.prog 99 #[.agg #[.slice C j p,.slice C' j' p'],.agg #[.int .i64 o.pt,.int .i64 o.pr],.string o.name,.agg #[.int .i64 o.st,.int .i64 o.sr]] W fun e w'=>∃(A:Option Addr)(n c:Nat)(A':Option Addr)(m d:Nat),e=.returned (.agg #[.slice A n c,.slice A' m d])/\GrAt (Clear N w (w.heap.size+1+1+1)) w' (.agg #[.slice A n c,.slice A' m d]) (tie1 t (oAt o) o.name (oSt o))/\Below W.heap.size W w'):=fun W C j p C' j' p' h hs=>
    (refTie1 _ _ t (oAt o) o.name (oSt o) hok2 z1 W h).mono fun e w' ⟨A,n,c,A',m,d,q1,q2,q3⟩=>⟨A,n,c,A',m,d,q1,q2.clear hs,q3⟩
  have HMk:=Lib.hid hM;unfold stA oSt at HMk;clear hf hw z1 z2 z3 ok hm p8 hk p1 p2 hM hok hok2 HP HX;rcases hb with b1|⟨b1,b2⟩|⟨b1,b2,b3⟩
  all_goals
    go_wp2_with fail
    refine HMk.out.mono ?_;rintro e w4 ⟨v4,rfl,q4,hb4⟩;obtain⟨C,j,p,C',j',p',rfl⟩:=q4.form;have hH4:=H3.out.step hb4;have hs4:=hb4.size;have v4:=q4.clear (b:=w.heap.size+1+1+1) (by omega);clear q4 hb4 H3 V3 HMk g0 g1 e0 e1 e2 e3 e4 e5 e6 e7 e8 e9 e10 e11 e12 r0 r1 s0 s1 x0 x1 x2 x3 x4 x5
    go_upto_region 10 with fail
    obtain⟨ub,hub⟩:∃u,u=w4.heap.size:=⟨_,rfl⟩;have hu1:w.heap.size+1+1<ub:=by rw[hub];exact heap_lt (hH4.at 1 rfl)
    have hH5:=hH4.alloc (.cells #[.slice C j p,.slice C' j' p'] 31) hub.symm;have v5:=v4.clear_step ((Below.refl w4.heap.size w4).alloc (Nat.le_refl _) (.cells #[.slice C j p,.slice C' j' p'] 31));change Code.wp _ _ _ _ (w4.alloc (.cells #[.slice C j p,.slice C' j' p'] 31));rw[<-hub];have hs5:w.heap.size+1+1+1<=(w4.alloc (.cells #[.slice C j p,.slice C' j' p'] 31)).heap.size:=by simp only[World.size_alloc];omega
    generalize w4.alloc (.cells #[.slice C j p,.slice C' j' p'] 31)=V at hH5 v5 hs5 ⊢;clear hH4 v4 hs4 hub;have hS:=mk_s (hH5.at 0 rfl) (hH5.at 3 rfl);have hSd:=mk_step ((Below.refl V.heap.size V).drew) hS;have hn1:ub≠w.heap.size+1+1:=by omega
    have hn2:w.heap.size+1≠w.heap.size+1+1:=by omega
    have HK:=Lib.hid hH5;have HT1':=Lib.hid fun W hW=>HT1.out V C j p C' j' p' v5 hs5 W hW;clear hH5 v5
    go_region_held3 (fun W=>(W.heap[ub]?=some (.cells #[.slice C j p,.slice C' j' p'] 31 (0,0))/\W.heap[w.heap.size+1]?=some (.cells (opA o) 37 (0,0)))/\(W.cell? ⟨ub,0,none⟩=some (.slice C j p)/\W.cell? ⟨ub,1,none⟩=some (.slice C' j' p'))/\W.cell? ⟨w.heap.size+1,0,none⟩=some (.int .i64 o.st)/\W.cell? ⟨w.heap.size+1,1,none⟩=some (.int .i64 o.sr)/\W.cell? ⟨w.heap.size+1,2,none⟩=some (.int .i64 o.k)/\W.cell? ⟨w.heap.size+1,3,none⟩=some (.int .i64 o.pt)/\W.cell? ⟨w.heap.size+1,4,none⟩=some (.int .i64 o.pr)/\W.cell? ⟨w.heap.size+1,5,none⟩=some (.int .i64 o.it)/\W.cell? ⟨w.heap.size+1,6,none⟩=some (.int .i64 o.ir)/\W.cell? ⟨w.heap.size+1,7,none⟩=some (.int .i64 o.tt)/\W.cell? ⟨w.heap.size+1,8,none⟩=some (.int .i64 o.tr)/\W.cell? ⟨w.heap.size+1,9,none⟩=some (.string o.name)/\W.cell? ⟨w.heap.size+1,10,none⟩=some (.string o.new)/\W.cell? ⟨w.heap.size+1,11,none⟩=some (.int .i64 o.off)/\W.cell? ⟨w.heap.size+1,12,none⟩=some (.string o.data))
      (first|(with_reducible assumption)|exact mk_store _ _ hn1 hn2 (by with_reducible assumption))
      (first
        |(go_at_call 100;(with_reducible refine(HT1'.out _ (by repeat(first|exact Below.refl _ _|assumption|apply Below.drew))).mono ?_);rintro e w6 ⟨D,j2,p2,D',j2',p2',rfl,q6,hb6⟩;have hS6:=mk_step hb6 (by assumption);have hV6:=below_step (by repeat(first|exact Below.refl V.heap.size _|apply Below.drew)) hb6)
        |(go_at_call 99;(with_reducible refine(HT2.out _ _ _ _ _ _ _ q6 (Nat.le_trans hs5 hV6.size)).mono ?_);rintro e w7 ⟨C8,j8,p8,C9,j9,p9,rfl,q7,hb7⟩;have hS7:=mk_step hb7 (by assumption);have hV7:=below_step hV6 hb7;have hr7:=two_cells ((HK.out.step hV7).at 2 rfl);obtain⟨r0,r1⟩:=hr7;have hs7:=two_free ((HK.out.step hV7).at 2 rfl);obtain⟨s0,s1⟩:=hs7))
    have Q2:=Lib.hid (clear_end (res:=w.heap.size+1+1) q7 (HK.out.step hV7).below (by omega) (by omega) (.slice C8 j8 p8) (.slice C9 j9 p9))
    go_wp2_with fail
    exact bodyPost_ret (v:=.tuple #[.agg #[.slice C8 j8 p8,.slice C9 j9 p9],.int .i64 0]) (by simp[results,Tryz.results75,go_sem,r0,r1]) rfl ⟨_,rfl,by rw[HE.out];exact Q2.out⟩
end Go.Proofs.YtnnnkaobhkeocaaGreatDoor
