/-
 The walk of the document's own May (stamps).
-/
import Derived.Test.YtdobeghbkonimaaGreatDoorZ00
import Derived.Test.YtdobeghbkonimaaGreatDoorRows
import Derived.Test.YtdobeghbkonimaaGreatDoorZ01
import Derived.Test.YtdobeghbkonimaaGreatDoorZ01
import Derived.Test.YtdobeghbkonimaaGreatDoorZ06
import Derived.Test.YtdobeghbkonimaaGreatDoorZ01
import Derived.Test.YtdobeghbkonimaaGreatDoorZ01
import Derived.Test.YtdobeghbkonimaaGreatDoorZ01
import Derived.Deep.LoopGhost
import Derived.Deep.QuietTactic
import Derived.BigQuiet
namespace Go.Proofs.YtdobeghbkonimaaGreatDoor
open Go.RowKit StampMath

set_option maxHeartbeats 400000 in
theorem refMay (t r : Int) (w : World) :
  Calls Tryz.prog 73 #[.agg #[.int .i64 t,.int .i64 r]] w fun e w'=>e = .returned (.bool (mayB t r))∧Below w.heap.size w w':=by
 have hcase : ((t == 0) = true∧mayB t r = (r == 0))∨((t == 0) = false∧decide (1≤t) = false∧mayB t r = false)∨((t == 0) = false∧1≤t∧decide (t≤1073741824) = false∧mayB t r = false) ∨
   ((t == 0) = false∧1≤t∧t≤1073741824∧decide (0≤r) = false∧mayB t r = false)∨((t == 0) = false∧1≤t∧t≤1073741824∧0≤r∧mayB t r = decide (r≤7)):=by
  unfold mayB
  by_cases h0 : t = 0
  ·exact Or.inl ⟨by simp [h0],by rw [if_pos h0]⟩
  ·rw [if_neg h0]
   by_cases h1 : 1≤t
   ·by_cases h2 : t≤1073741824
    ·by_cases h3 : 0≤r
     ·exact Or.inr (Or.inr (Or.inr (Or.inr ⟨by simp [h0],h1,h2,h3,by simp [h1,h2,h3]⟩)))
     ·exact Or.inr (Or.inr (Or.inr (Or.inl ⟨by simp [h0],h1,h2,by simp; omega,by simp [h3]⟩)))
    ·exact Or.inr (Or.inr (Or.inl ⟨by simp [h0],h1,by simp; omega,by simp [h2]⟩))
   ·exact Or.inr (Or.inl ⟨by simp [h0],by simp; omega,by simp [h1]⟩)
 rcases hcase with ⟨h0,h⟩ | ⟨h0,h1,h⟩ | ⟨h0,h1,h2,h⟩ | ⟨h0,h1,h2,h3,h⟩ | ⟨h0,h1,h2,h3,h⟩
 all_goals
  have H:=Lib.hid h
  clear h
  go_enter Tryz.func73,Tryz.ntmps73
  go_wp2_with fail
  go_ret
  exact ⟨by rw [H.out]; rfl,(Below.refl _ _).alloc (Nat.le_refl _) _⟩

end Go.Proofs.YtdobeghbkonimaaGreatDoor

namespace Go.Proofs.YtdobeghbkonimaaGreatDoor
open Go.RowKit StampMath

set_option maxHeartbeats 400000 in
theorem refLess (t r t' r' : Int) (w : World) :
  Calls Tryz.prog 46 #[.agg #[.int .i64 t,.int .i64 r],.agg #[.int .i64 t',.int .i64 r']] w fun e w'=>e = .returned (.bool (lessB t r t' r'))∧Below w.heap.size w w':=by
 have hcase : (t < t'∧lessB t r t' r' = true)∨(¬ t < t'∧(t == t') = true∧lessB t r t' r' = decide (r < r'))∨(¬ t < t'∧(t == t') = false∧lessB t r t' r' = false):=by
  by_cases h1 : t < t'
  ·exact Or.inl ⟨h1,by simp [lessB,h1]⟩
  ·by_cases h2 : t = t'
   ·exact Or.inr (Or.inl ⟨h1,by simp [h2],by simp [lessB,h2]⟩)
   ·exact Or.inr (Or.inr ⟨h1,by simp [h2],by simp [lessB,h1,h2]⟩)
 rcases hcase with ⟨h1,h⟩ | ⟨h1,h2,h⟩ | ⟨h1,h2,h⟩
 all_goals
  have H:=Lib.hid h
  clear h
  go_enter Tryz.func46,Tryz.ntmps46
  go_wp2_with fail
  go_ret
  exact ⟨by rw [H.out]; rfl,((Below.refl _ _).alloc (Nat.le_refl _) _).alloc (by simp) _⟩

end Go.Proofs.YtdobeghbkonimaaGreatDoor

namespace Go.Proofs.YtdobeghbkonimaaGreatDoor
open Go.RowKit StampMath GraphMath OpMath PackMath

set_option maxRecDepth 100000 in
set_option maxHeartbeats 1600000 in
theorem refOps (A A' : Option Addr) (n c m d : Nat) (X Y : List Opn) (hn : n≤1000) (hm : m≤1000) (w : World) (h : OpsIn w w.heap.size A n X) (h' : OpsIn w w.heap.size A' m Y) :
  Calls Tryz.prog 20 #[.slice A n c,.slice A' m d] w fun e w'=>e = .returned (.bool (decide (X = Y)))∧Below w.heap.size w w':=by
 have hl:=h.len
 have hl':=h'.len
 have HX : Hid (OpsIn w w.heap.size A n X):=h
 have HY : Hid (OpsIn w w.heap.size A' m Y):=h'
 clear h h'
 by_cases hnm : n = m
 ·subst hnm
  go_enter Tryz.func20,Tryz.ntmps20
  go_wp2_with fail
  go_loopg [5] (n + 1) (fun gk i wr=>∃ k : Nat,i = .int .i64 (k : Int)∧gk + k = n + 1∧k≤n∧Hid (∀ j (h1 : j < X.length) (h2 : j < Y.length),j < k→X[j] = Y[j])∧Below w.heap.size w wr)
  case atStart=>exact ⟨0,rfl,by omega,by omega,fun _ _ _ hj=>absurd hj (by omega),Below.refl _ _⟩
  case round =>
   obtain ⟨k,rfl,hgk,hk,hall,hB⟩:=hrel
   by_cases hlt : k < n
   ·obtain ⟨gi,o,rfl,hg,hrow⟩:=HX.out.row (by omega)
    obtain ⟨gi',o',rfl,hg',hrow'⟩:=HY.out.row (by omega)
    obtain ⟨e0,e1,e2,e3,e4,e5,e6,e7,e8,e9,e10,e11,e12⟩:=(hrow k (by omega)).below hB hg
    obtain ⟨d0,d1,d2,d3,d4,d5,d6,d7,d8,d9,d10,d11,d12⟩:=(hrow' k (by omega)).below hB hg'
    have hr:=run_eqO X[k] Y[k]
    unfold opA at hr
    clear hrow hrow'
    by_cases hq : X[k] = Y[k]
    ·rw [decide_eq_true hq] at hr
     have HA : Hid (∀ j (h1 : j < X.length) (h2 : j < Y.length),j < k + 1→X[j] = Y[j]):=fun j h1 h2 hj=>by
      by_cases e : j = k
      ·subst e; exact hq
      ·exact hall.out j h1 h2 (by omega)
     clear hq hall
     go_wp2_with fail
     go_quiet (fail)
     go_wp2_with fail
     go_roundg (gk - 1)
     case measure=>omega
     case rel=>exact ⟨k + 1,by go_num,by omega,by omega,HA.out,below_drewN' hB _⟩
    ·rw [decide_eq_false hq] at hr
     have HA : Hid (decide (X = Y) = false):=same_no (by omega) (by omega) hq
     clear hq hall
     go_wp2_with fail
     go_quiet (fail)
     go_wp2_with fail
     go_ret
     exact ⟨by rw [HA.out]; rfl,below_drewN' hB _⟩
   ·have HA : Hid (decide (X = Y) = true):=same_yes (by omega) fun j h1 h2=>hall.out j h1 h2 (by omega)
    go_wp2_with fail
    go_ret
    exact ⟨by rw [HA.out]; rfl,hB⟩
 ·have HA : Hid (decide (X = Y) = false):=same_no_len (by omega)
  have hnm' : ¬ (n : Int) = (m : Int):=by omega
  go_enter Tryz.func20,Tryz.ntmps20
  go_wp2_with fail
  go_ret
  exact ⟨by rw [HA.out]; rfl,Below.refl _ _⟩

theorem less_at (a b : St) (W : World) : Calls Tryz.prog 46 #[.agg #[.int .i64 a.1,.int .i64 a.2],.agg #[.int .i64 b.1,.int .i64 b.2]] W fun e w'=>e = .returned (.bool (lessS a b))∧Below W.heap.size W w':=refLess a.1 a.2 b.1 b.2 W

set_option maxRecDepth 100000 in
set_option maxHeartbeats 1600000 in
theorem refBelow (A : Option Addr) (n c : Nat) (x : List Opn) (s : St) (hn : n≤1000) (w : World) (h : OpsIn w w.heap.size A n x) :
  Calls Tryz.prog 22 #[.slice A n c,.agg (stA s)] w fun e w'=>e = .returned (.int .i64 (belowO x s : Int))∧Below w.heap.size w w':=by
 have hl:=h.len
 have HX:=Lib.hid h
 obtain ⟨v,hv⟩ : ∃ v,v = belowO x s:=⟨_,rfl⟩
 have HV:=Lib.hid hv
 rw [← hv]
 have hH0 : Held w [(w.heap.size,.cells (stA s) 24)] (w.alloc (.cells (stA s) 24)):=(Held.refl w).alloc _ rfl
 clear h hv
 unfold stA at hH0 ⊢
 go_enter Tryz.func22,Tryz.ntmps22
 go_wp2_with fail
 go_loopg [5] (n + 1) (fun gk i wr=>∃ k : Nat,i = .int .i64 (k : Int)∧gk + k = n + 1∧k≤n∧Hid (∀ j (h1 : j < x.length),j < k→(!lessS s (oSt x[j])) = true)∧Hid (Held w [(w.heap.size,.cells #[.int .i64 s.1,.int .i64 s.2] 24)] wr))
 case atStart=>exact ⟨0,rfl,by omega,by omega,fun _ _ hj=>absurd hj (by omega),hH0⟩
 case round =>
  obtain ⟨k,rfl,hgk,hk,hall,hH⟩:=hrel
  have HG:=Lib.hid hgk
  clear hgk hH0
  obtain ⟨c0,c1⟩:=two_cells (g:=w.heap.size) (hH.out.at 0 rfl)
  have l0:=later_cell c0
  have l1:=later_cell c1
  by_cases hlt : k < n
  ·obtain ⟨gi,o,rfl,hg,hrow⟩:=HX.out.row (by omega)
   have lk : k < x.length:=by omega
   obtain ⟨e0,e1,_⟩:=(hrow k lk).below hH.out.below hg
   have k0:=later_cell e0
   have k1:=later_cell e1
   obtain ⟨a,ha⟩ : ∃ a,x[k] = a:=⟨_,rfl⟩
   rw [ha] at k0 k1
   obtain ⟨b,hb⟩ : ∃ b,b = lessS s (oSt a):=⟨_,rfl⟩
   have HL : Hid (∀ y,Calls Tryz.prog 46 #[.agg #[.int .i64 s.1,.int .i64 s.2],.agg #[.int .i64 a.st,.int .i64 a.sr]] (later wr y) fun e w'=>e = .returned (.bool b)∧∃ z,w' = later wr z):=Lib.hid fun y=>later_call (by rw [hb]; exact less_at s (oSt a) _)
   have HB:=Lib.hid hb
   have HA:=Lib.hid ha
   have hi0 : (0 : Int)≤(k : Int):=by omega
   have hi1 : (k : Int) < (n : Int):=by omega
   clear hrow e0 e1 c0 c1 hb ha hlt
   cases b with
   | false =>
    have HL2:=HL
    go_upto_region 2 with fail
    refine wp_region_later (by kernel_rfl) (by kernel_rfl) ?_
    repeat (go_big_quiet_step (first | (with_reducible exact HL.out _)))
    refine wpQuiet_nil ?_
    intro _ hw'
    obtain ⟨y,rfl⟩:=hw'
    have H2:=Lib.hid (hH.out.step (later_below wr y))
    clear l0 l1 k0 k1 HL HL2 hH
    go_wp2_with fail
    go_roundg (gk - 1)
    case measure=>have:=HG.out; omega
    case rel =>
     refine ⟨k + 1,by go_num,by have:=HG.out; omega,by omega,fun j h1 hj=>?_,H2⟩
     by_cases q : j = k
     ·subst q; rw [HA.out,← HB.out]; rfl
     ·exact hall.out j h1 (by omega)
   | true =>
    have HE : Hid (v = k):=Lib.hid (by
     rw [HV.out]
     refine while_is (by omega) hall.out fun h1=>?_
     rw [HA.out,← HB.out]; rfl)
    go_upto_region 2 with fail
    refine wp_region_later (by kernel_rfl) (by kernel_rfl) ?_
    repeat (go_big_quiet_step (first | (with_reducible exact HL.out _)))
    refine wpQuiet_nil ?_
    intro _ hw'
    obtain ⟨y,rfl⟩:=hw'
    have H2:=Lib.hid (hH.out.step (later_below wr y))
    clear l0 l1 k0 k1 HL hH
    go_wp2_with fail
    go_ret
    exact ⟨by rw [HE.out]; rfl,H2.out.below⟩
  ·have hkn : k = n:=by omega
   have HE : Hid (v = k):=Lib.hid (by
    rw [HV.out]
    exact while_is (by omega) hall.out fun h1=>by omega)
   have hi1 : ¬ (k : Int) < (n : Int):=by omega
   clear c0 c1 hlt hkn
   go_upto_region 2 with fail
   refine wp_region_later (by kernel_rfl) (by kernel_rfl) ?_
   repeat (go_big_quiet_step (fail))
   refine wpQuiet_nil ?_
   intro _ hw'
   obtain ⟨y,rfl⟩:=hw'
   have H2:=Lib.hid (hH.out.step (later_below wr y))
   clear l0 l1 hH
   go_wp2_with fail
   go_ret
   exact ⟨by rw [HE.out]; rfl,H2.out.below⟩

end Go.Proofs.YtdobeghbkonimaaGreatDoor

namespace Go.Proofs.YtdobeghbkonimaaGreatDoor
open Go.RowKit OpMath

set_option maxRecDepth 100000 in
set_option maxHeartbeats 1600000 in
theorem refBare (o : Opn) (w : World) :
  Calls Tryz.prog 72 #[.agg #[.int .i64 o.st,.int .i64 o.sr,.int .i64 o.k,.int .i64 o.pt,.int .i64 o.pr,.int .i64 o.it,.int .i64 o.ir,.int .i64 o.tt,.int .i64 o.tr,.string o.name,.string o.new,.int .i64 o.off,.string o.data]] w fun e w'=>e = .returned (.agg (opA (bareO o)))∧Below w.heap.size w w':=by
 have hcase : (o.k≤2∧(o.k == 7) = false∧(o.k == 3) = false∧(o.k == 8) = false)∨((o.k == 3) = true∧(o.k == 7) = false∧o.k = 3)∨(4≤o.k∧o.k≤6∧(o.k == 7) = false∧(o.k == 3) = false∧(o.k == 8) = false) ∨
   ((o.k == 7) = true∧(o.k == 3) = false∧(o.k == 8) = false∧o.k = 7)∨((o.k == 7) = false∧(o.k == 3) = false∧(o.k == 8) = true∧o.k = 8)∨(9≤o.k∧(o.k == 7) = false∧(o.k == 3) = false∧(o.k == 8) = false):=by
  simp only [beq_iff_eq,beq_eq_false_iff_ne]
  omega
 rcases hcase with ⟨h1,h2,h3,h4⟩ | ⟨h1,h2,h3⟩ | ⟨h1,h2,h3,h4,h5⟩ | ⟨h1,h2,h3,h4⟩ | ⟨h1,h2,h3,h4⟩ | ⟨h1,h2,h3,h4⟩
 ·have HB : Hid (opA (bareO o) = #[.int .i64 o.st,.int .i64 o.sr,.int .i64 o.k,.int .i64 o.pt,.int .i64 o.pr,.int .i64 0,.int .i64 0,.int .i64 0,.int .i64 0,.string o.name,.string ⟨#[]⟩,.int .i64 0,.string ⟨#[]⟩]):=by
   show opA (bareO o) = _
   simp [opA,bareO,show o.k≤7 by omega,show ¬ 4≤o.k by omega,show ¬ o.k = 7 by omega,show ¬ 8≤o.k by omega,show ¬ o.k = 3 by omega,show ¬ o.k = 8 by omega]
  go_enter Tryz.func72,Tryz.ntmps72
  go_wp2_with fail
  refine bodyPost_ret ?_ rfl ⟨by rw [HB.out],(((Below.refl _ _).alloc (Nat.le_refl _) _).alloc (by simp) _).alloc (by simp; omega) _⟩
  simp [results,Tryz.results72,go_sem]
 ·have HB : Hid (opA (bareO o) = #[.int .i64 o.st,.int .i64 o.sr,.int .i64 o.k,.int .i64 o.pt,.int .i64 o.pr,.int .i64 0,.int .i64 0,.int .i64 0,.int .i64 0,.string o.name,.string ⟨#[]⟩,.int .i64 0,.string o.data]):=by
   show opA (bareO o) = _
   simp [opA,bareO,h3]
  have hu : o.k≤3:=by omega
  have hl : 3≤o.k:=by omega
  clear h3
  go_enter Tryz.func72,Tryz.ntmps72
  go_wp2_with fail
  refine bodyPost_ret ?_ rfl ⟨by rw [HB.out],(((Below.refl _ _).alloc (Nat.le_refl _) _).alloc (by simp) _).alloc (by simp; omega) _⟩
  simp [results,Tryz.results72,go_sem]
 ·have HB : Hid (opA (bareO o) = #[.int .i64 o.st,.int .i64 o.sr,.int .i64 o.k,.int .i64 o.pt,.int .i64 o.pr,.int .i64 o.it,.int .i64 o.ir,.int .i64 0,.int .i64 0,.string o.name,.string ⟨#[]⟩,.int .i64 0,.string ⟨#[]⟩]):=by
   show opA (bareO o) = _
   simp [opA,bareO,show o.k≤7 by omega,show 4≤o.k by omega,show ¬ o.k = 7 by omega,show ¬ 8≤o.k by omega,show ¬ o.k = 3 by omega,show ¬ o.k = 8 by omega]
  go_enter Tryz.func72,Tryz.ntmps72
  go_wp2_with fail
  refine bodyPost_ret ?_ rfl ⟨by rw [HB.out],(((Below.refl _ _).alloc (Nat.le_refl _) _).alloc (by simp) _).alloc (by simp; omega) _⟩
  simp [results,Tryz.results72,go_sem]
 ·have HB : Hid (opA (bareO o) = #[.int .i64 o.st,.int .i64 o.sr,.int .i64 o.k,.int .i64 o.pt,.int .i64 o.pr,.int .i64 o.it,.int .i64 o.ir,.int .i64 o.tt,.int .i64 o.tr,.string o.name,.string o.new,.int .i64 0,.string ⟨#[]⟩]):=by
   show opA (bareO o) = _
   simp [opA,bareO,h4]
  have hu : o.k≤7:=by omega
  have hl : 7≤o.k:=by omega
  clear h4
  go_enter Tryz.func72,Tryz.ntmps72
  go_wp2_with fail
  refine bodyPost_ret ?_ rfl ⟨by rw [HB.out],(((Below.refl _ _).alloc (Nat.le_refl _) _).alloc (by simp) _).alloc (by simp; omega) _⟩
  simp [results,Tryz.results72,go_sem]
 ·have HB : Hid (opA (bareO o) = #[.int .i64 o.st,.int .i64 o.sr,.int .i64 o.k,.int .i64 0,.int .i64 0,.int .i64 o.it,.int .i64 o.ir,.int .i64 0,.int .i64 0,.string ⟨#[]⟩,.string ⟨#[]⟩,.int .i64 o.off,.string o.data]):=by
   show opA (bareO o) = _
   simp [opA,bareO,h4]
  have hu : o.k≤8:=by omega
  have hl : 8≤o.k:=by omega
  clear h4
  go_enter Tryz.func72,Tryz.ntmps72
  go_wp2_with fail
  refine bodyPost_ret ?_ rfl ⟨by rw [HB.out],(((Below.refl _ _).alloc (Nat.le_refl _) _).alloc (by simp) _).alloc (by simp; omega) _⟩
  simp [results,Tryz.results72,go_sem]
 ·have HB : Hid (opA (bareO o) = #[.int .i64 o.st,.int .i64 o.sr,.int .i64 o.k,.int .i64 0,.int .i64 0,.int .i64 o.it,.int .i64 o.ir,.int .i64 0,.int .i64 0,.string ⟨#[]⟩,.string ⟨#[]⟩,.int .i64 o.off,.string ⟨#[]⟩]):=by
   show opA (bareO o) = _
   simp [opA,bareO,show ¬ o.k≤7 by omega,show 4≤o.k by omega,show ¬ o.k = 7 by omega,show 8≤o.k by omega,show ¬ o.k = 3 by omega,show ¬ o.k = 8 by omega]
  go_enter Tryz.func72,Tryz.ntmps72
  go_wp2_with fail
  refine bodyPost_ret ?_ rfl ⟨by rw [HB.out],(((Below.refl _ _).alloc (Nat.le_refl _) _).alloc (by simp) _).alloc (by simp; omega) _⟩
  simp [results,Tryz.results72,go_sem]

end Go.Proofs.YtdobeghbkonimaaGreatDoor

namespace Go.Proofs.YtdobeghbkonimaaGreatDoor
open Go.RowKit OpMath

set_option maxRecDepth 100000 in
set_option maxHeartbeats 800000 in
theorem refHas (s : ByteArray) (c : UInt8) (hs : s.size≤9223372036854775807) (w : World) :
  Calls Tryz.prog 75 #[.string s,.int .u8 (c.toNat : Int)] w fun e w'=>e = .returned (.bool (hasB s c))∧w = w':=by
 go_enter Tryz.func75,Tryz.ntmps75
 go_wp2_with fail
 go_loop [5] (fun i=>∃ k : Nat,i = .int .i64 (k : Int)∧k≤s.size∧Hid ((s.data.toList.take k).any (· == c) = false)) (fun i=>s.size - (intOf i).toNat)
 case atStart=>exact ⟨0,rfl,by omega,rfl⟩
 case round =>
  obtain ⟨k,rfl,hk,hno⟩:=hrel
  by_cases hlt : k < s.size
  ·have hN:=any_next s c k hlt
   rw [hno.out,Bool.false_or] at hN
   by_cases hc : s[k] = c
   ·have hd : ((s[k].toNat : Int) == (c.toNat : Int)) = true:=by rw [hc]; exact beq_self_eq_true _
    have HY:=Lib.hid (any_some s c k hlt hc)
    clear hN hc
    go_wp2_with fail
    go_ret
    exact ⟨by rw [HY.out]; rfl,rfl⟩
   ·have hd : ((s[k].toNat : Int) == (c.toNat : Int)) = false:=by
     rw [beq_eq_false_iff_ne]
     intro e
     exact hc (UInt8.toNat_inj.1 (by omega))
    rw [beq_eq_false_iff_ne.2 hc] at hN
    have HN:=Lib.hid hN
    clear hN hc
    go_wp2_with fail
    exact ⟨⟨k + 1,by go_num,by omega,HN⟩,by simp [intOf]; omega⟩
  ·have hE:=any_all s c k (by omega)
   rw [hno.out] at hE
   have HE:=Lib.hid hE
   clear hE
   go_wp2_with fail
   go_ret
   exact ⟨by rw [← HE.out]; rfl,rfl⟩

set_option maxRecDepth 100000 in
set_option maxHeartbeats 800000 in
theorem refName (s : ByteArray) (hs : s.size≤9223372036854775807) (w : World) :
  Calls Tryz.prog 74 #[.string s] w fun e w'=>e = .returned (.bool (nameB s))∧w = w':=by
 obtain ⟨b1,h1⟩ : ∃ b,b = (s.toList == [46]):=⟨_,rfl⟩
 obtain ⟨b2,h2⟩ : ∃ b,b = (s.toList == [46,46]):=⟨_,rfl⟩
 obtain ⟨b3,h3⟩ : ∃ b,b = hasB s 47:=⟨_,rfl⟩
 obtain ⟨b4,h4⟩ : ∃ b,b = hasB s 0:=⟨_,rfl⟩
 have H3 : s.size≤8→Hid (∀ W : World,Calls Tryz.prog 75 #[.string s,.int .u8 47] W fun e w'=>e = .returned (.bool b3)∧W = w'):=fun h8 W=>by rw [h3]; exact refHas s 47 (by omega) W
 have H4 : s.size≤8→Hid (∀ W : World,Calls Tryz.prog 75 #[.string s,.int .u8 0] W fun e w'=>e = .returned (.bool b4)∧W = w'):=fun h8 W=>by rw [h4]; exact refHas s 0 (by omega) W
 have hN : nameB s = (decide (1≤s.size) && decide (s.size≤8) && !b1 && !b2 && !b3 && !b4):=by rw [h1,h2,h3,h4]; rfl
 have HN:=Lib.hid hN
 have q1:=h1.symm
 have q2:=h2.symm
 clear hN h1 h2 h3 h4
 by_cases hA : 1≤s.size
 ·by_cases hB : s.size≤8
  ·have H3:=H3 hB
   have H4:=H4 hB
   cases b1
   ·cases b2
    ·cases b3
     ·go_enter Tryz.func74,Tryz.ntmps74
      go_wp2_with fail
      refine (H3.out _).mono ?_
      rintro e w' ⟨rfl,rfl⟩
      go_wp2_with fail
      refine (H4.out _).mono ?_
      rintro e w' ⟨rfl,rfl⟩
      go_wp2_with fail
      go_ret
      exact ⟨by rw [HN.out]; simp [hA,hB],rfl⟩
     ·go_enter Tryz.func74,Tryz.ntmps74
      go_wp2_with fail
      refine (H3.out _).mono ?_
      rintro e w' ⟨rfl,rfl⟩
      go_wp2_with fail
      go_ret
      exact ⟨by rw [HN.out]; simp [hA,hB],rfl⟩
    ·go_enter Tryz.func74,Tryz.ntmps74
     go_wp2_with fail
     go_ret
     exact ⟨by rw [HN.out]; simp [hA,hB],rfl⟩
   ·go_enter Tryz.func74,Tryz.ntmps74
    go_wp2_with fail
    go_ret
    exact ⟨by rw [HN.out]; simp [hA,hB],rfl⟩
  ·have hd : decide ((s.size : Int)≤8) = false:=by simp; omega
   clear H3 H4
   go_enter Tryz.func74,Tryz.ntmps74
   go_wp2_with fail
   go_ret
   exact ⟨by rw [HN.out]; simp [hB],rfl⟩
 ·have hd : decide (1≤(s.size : Int)) = false:=by simp; omega
  clear H3 H4
  go_enter Tryz.func74,Tryz.ntmps74
  go_wp2_with fail
  go_ret
  exact ⟨by rw [HN.out]; simp [hA],rfl⟩

end Go.Proofs.YtdobeghbkonimaaGreatDoor
