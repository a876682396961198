/-
 The library's symMerge, where one of the two pieces is one element, at elements of k cells (made by gen_stable.py).
-/
import Derived.Test.YtdobeghbkonimaaGreatDoorZ01
namespace Go.Proofs.YtdobeghbkonimaaGreatDoor
open Go.RowKit Go.Shelf Go.Sort Go.Lib StableM

section
variable {P : Program} {k : Nat} {α κ : Type} [Inhabited α] [DecidableEq κ] {key : α→κ} {lt : κ→κ→Bool}

def Merged (enc : α→List Value) (k : Nat) (w0 : World) (blk off size : Nat) (key : α→κ) (lt : κ→κ→Bool) (p l r z : List α) (e : Ending) (w' : World) : Prop :=
 e = .returned (.tuple #[])∧∃ (d' : Array α) (q : List α),d'.size = size∧d'.toList = p ++ q ++ z∧q.length = l.length + r.length∧SameK key q (l ++ r)∧Up key lt q∧SWK enc k w0 blk off d' w'

omit [DecidableEq κ] in
theorem at_l {d : Array α} {p l r z : List α} (h : d.toList = p ++ l ++ r ++ z) {i : Nat} (hi : i < l.length) : d[p.length + i]! = l[i]:=by
 rw [get_list d h _ (by simp; omega)]
 simp [List.getElem_append_left,List.getElem_append_right,hi]

omit [DecidableEq κ] in
theorem at_r {d : Array α} {p l r z : List α} (h : d.toList = p ++ l ++ r ++ z) {i : Nat} (hi : i < r.length) : d[p.length + l.length + i]! = r[i]:=by
 rw [get_list d h _ (by simp; omega)]
 rw [List.getElem_append_left (by simp; omega),List.getElem_append_right (by simp)]
 congr 1
 simp

omit [Inhabited α] in
theorem take_lt (Ln : Lin lt) {x : List α} (h : Up key lt x) {c : Nat} {s : κ} (hc : c = 0∨∃ q : c - 1 < x.length,lt (key x[c - 1]) s = true) : ∀ a∈x.take c,lt (key a) s = true:=by
 intro a ha
 obtain ⟨i,hi,rfl⟩:=List.getElem_of_mem ha
 rw [List.length_take] at hi
 rw [List.getElem_take]
 obtain rfl | ⟨q,hq⟩:=hc
 ·omega
 ·by_cases e : i = c - 1
  ·subst e; exact hq
  ·exact Ln.le_lt (List.pairwise_iff_getElem.1 h i (c - 1) (by omega) q (by omega)) hq

omit [Inhabited α] in
theorem take_le (Ln : Lin lt) {x : List α} (h : Up key lt x) {c : Nat} {s : κ} (hc : c = 0∨∃ q : c - 1 < x.length,lt s (key x[c - 1]) = false) : ∀ a∈x.take c,lt s (key a) = false:=by
 intro a ha
 obtain ⟨i,hi,rfl⟩:=List.getElem_of_mem ha
 rw [List.length_take] at hi
 rw [List.getElem_take]
 obtain rfl | ⟨q,hq⟩:=hc
 ·omega
 ·by_cases e : i = c - 1
  ·subst e; exact hq
  ·exact Ln.ntrans (List.pairwise_iff_getElem.1 h i (c - 1) (by omega) q (by omega)) hq

omit [Inhabited α] in
theorem drop_ge (Ln : Lin lt) {x : List α} (h : Up key lt x) {c : Nat} {s : κ} (hc : x.length≤c∨∃ q : c < x.length,lt (key x[c]) s = false) : ∀ a∈x.drop c,lt (key a) s = false:=by
 intro a ha
 obtain ⟨i,hi,rfl⟩:=List.getElem_of_mem ha
 rw [List.length_drop] at hi
 rw [List.getElem_drop]
 obtain q | ⟨q,hq⟩:=hc
 ·omega
 ·by_cases e : i = 0
  ·subst e; exact hq
  ·exact Ln.ntrans hq (List.pairwise_iff_getElem.1 h c (c + i) q (by omega) (by omega))

omit [Inhabited α] in
theorem drop_gt (Ln : Lin lt) {x : List α} (h : Up key lt x) {c : Nat} {s : κ} (hc : x.length≤c∨∃ q : c < x.length,lt s (key x[c]) = true) : ∀ a∈x.drop c,lt s (key a) = true:=by
 intro a ha
 obtain ⟨i,hi,rfl⟩:=List.getElem_of_mem ha
 rw [List.length_drop] at hi
 rw [List.getElem_drop]
 obtain q | ⟨q,hq⟩:=hc
 ·omega
 ·by_cases e : i = 0
  ·subst e; exact hq
  ·exact Ln.lt_le hq (List.pairwise_iff_getElem.1 h c (c + i) q (by omega) (by omega))

set_option maxHeartbeats 8000000 in
set_option maxRecDepth 1000000 in
theorem merge_left_in (L : SortIn P k) (Ln : Lin lt) (enc : α→List Value) (cf : α→α→Int) (hcf : ∀ x y,ltOf cf x y = lt (key x) (key y)) (g : Nat) (cb : Array Value) (eg : ∀ args w,(callFunc g args).run P w = .ok (.enter g args) w) (blk off cap : Nat) (d0 : Array α) (w0 : World) (hC : CmpLays P g cb enc k cf blk off d0.size w0) (R : RowK enc k w0 blk off d0) (hsz : d0.size < 4611686018427387904)
  (d : Array α) (w : World) (a m b : Nat) (p l r z : List α) (hs : d.size = d0.size) (S : SWK enc k w0 blk off d w) (hd : d.toList = p ++ l ++ r ++ z) (ha : a = p.length) (hm : m = p.length + l.length) (hb : b = p.length + l.length + r.length) (hl1 : l.length = 1) (hr0 : 0 < r.length) (hur : Up key lt r) :
  Calls P 120 #[.slice (some ⟨blk,off,none⟩) d0.size cap,.int .i64 a,.int .i64 m,.int .i64 b,.func (.func g) #[] cb] w (Merged enc k w0 blk off d0.size key lt p l r z):=by
 obtain ⟨mixed,fSwap,fRot,fMerge,fStable,aE,zE,t0,a0,z0,v0,t3,a3,z3,v3,t4,a4,z4,v4,t22,a22,z22,v22,t124,a124,z124,v124,t68,a68,z68,v68⟩:=L
 have S0 : Aside (SWK enc k w0 blk off d w):=S
 have HC : Aside (CmpLays P g cb enc k cf blk off d0.size w0):=hC
 have hds : p.length + l.length + r.length + z.length = d0.size:=by
  have:=congrArg List.length hd
  simp only [List.length_append,Array.length_toList] at this
  omega
 have HE : Aside (a = p.length∧m = p.length + l.length∧b = p.length + l.length + r.length∧d.size = d0.size∧l.length = 1∧d.toList = p ++ l ++ r ++ z):=⟨ha,hm,hb,hs,hl1,hd⟩
 have hma : (m : Int) - (a : Int) = 1:=by omega
 have hmb : m≤b:=by omega
 have hbd : b≤d0.size:=by omega
 have hbl : b < 4611686018427387904:=by omega
 have HK : Aside (d.size = d0.size):=hs
 have HU : Aside (Up key lt r):=hur
 have HF : Aside (∀ x y,ltOf cf x y = lt (key x) (key y)):=hcf
 clear S hC hd ha hm hb hs hl1 hds hur hcf
 go_enter fMerge,Tryz.ntmps120
 go_wp2
 go_loopg [10,11] (b - m) (fun kx s t wr=>∃ (i j : Nat),s = .int .i64 i∧t = .int .i64 j∧m≤i∧i≤j∧j≤b∧j - i≤kx∧Aside (i = m∨ltOf cf d[i - 1]! d[a]! = true)∧Aside (j = b∨ltOf cf d[j]! d[a]! = false)∧Aside (SWK enc k w0 blk off d wr))
 case atStart=>exact ⟨m,b,by go_num,by go_num,by omega,by omega,by omega,by omega,Or.inl rfl,Or.inl rfl,S0⟩
 case round =>
  clear S0
  obtain ⟨i,j,rfl,rfl,hmi,hij,hjb,hkx,HI,HJ,S1⟩:=hrel
  by_cases hlt : i < j
  ·have hltz : (i : Int) < (j : Int):=by omega
   go_wp2_with fail
   obtain ⟨c,hc⟩ : ∃ c : Nat,c = (i + j) / 2:=⟨_,rfl⟩
   have hcz : ((i : Int) + (j : Int)) / 2 = (c : Int):=by omega
   have hic : i≤c:=by omega
   have hcj : c < j:=by omega
   have hd:=HK.out
   have ham : a < m:=by omega
   simp only [hcz]
   clear hcz hc hma
   cases hL : ltOf cf d[c]! d[a]! with
   | true =>
    have HL : Aside (ltOf cf d[c]! d[a]! = true):=hL
    have ea1 : ((c : Int)).toNat = c:=by omega
    have pa1 : (0 : Int)≤(c : Int):=by omega
    have ba1 : (c : Int) < (d0.size : Int):=by omega
    have ra1 : IntKind.i64.wrap ((c : Int)) = (c : Int):=by rw [IntKind.wrap_i64]; omega
    have ec1 : ((a : Int)).toNat = a:=by omega
    have pc1 : (0 : Int)≤(a : Int):=by omega
    have bc1 : (a : Int) < (d0.size : Int):=by omega
    have rc1 : IntKind.i64.wrap ((a : Int)) = (a : Int):=by rw [IntKind.wrap_i64]; omega
    obtain ⟨x1,hx1⟩ : ∃ x,x = d[c]!:=⟨_,rfl⟩
    obtain ⟨y1,hy1⟩ : ∃ x,x = d[a]!:=⟨_,rfl⟩
    have la1:=S1.out.ld R (by omega) P (c) (by omega)
    have lb1:=S1.out.ld R (by omega) P (a) (by omega)
    rw [← hx1] at la1
    rw [← hy1] at lb1
    have hc1:=S1.out.cmp HC.out (by omega) x1 y1
    have hv1 : cf x1 y1 < 0:=by rw [hx1,hy1]; exact of_decide_eq_true hL
    have hd1 : decide (cf x1 y1 < 0) = true:=decide_eq_true hv1
    clear hx1 hy1 hL hd
    go_quiet_grown (first | (go_at_fn g; refine Calls.grown_of (hc1 _ _)))
    have S2 : Aside (SWK enc k w0 blk off d (grow (wr.drewN nq) osq)):=S1.out.grown nq osq
    clear la1 lb1 hc1 S1 hv1 hd1 ea1 pa1 ba1 ra1 ec1 pc1 bc1 rc1
    generalize grow (wr.drewN nq) osq = w2 at S2 ⊢
    clear nq osq
    go_wp2
    go_roundg (j - (c + 1))
    case measure=>omega
    case rel=>exact ⟨c + 1,j,by go_num,rfl,by omega,by omega,hjb,Nat.le_refl _,Or.inr (by rw [Nat.add_sub_cancel]; exact HL.out),HJ,S2⟩
   | false =>
    have HL : Aside (ltOf cf d[c]! d[a]! = false):=hL
    have ea1 : ((c : Int)).toNat = c:=by omega
    have pa1 : (0 : Int)≤(c : Int):=by omega
    have ba1 : (c : Int) < (d0.size : Int):=by omega
    have ra1 : IntKind.i64.wrap ((c : Int)) = (c : Int):=by rw [IntKind.wrap_i64]; omega
    have ec1 : ((a : Int)).toNat = a:=by omega
    have pc1 : (0 : Int)≤(a : Int):=by omega
    have bc1 : (a : Int) < (d0.size : Int):=by omega
    have rc1 : IntKind.i64.wrap ((a : Int)) = (a : Int):=by rw [IntKind.wrap_i64]; omega
    obtain ⟨x1,hx1⟩ : ∃ x,x = d[c]!:=⟨_,rfl⟩
    obtain ⟨y1,hy1⟩ : ∃ x,x = d[a]!:=⟨_,rfl⟩
    have la1:=S1.out.ld R (by omega) P (c) (by omega)
    have lb1:=S1.out.ld R (by omega) P (a) (by omega)
    rw [← hx1] at la1
    rw [← hy1] at lb1
    have hc1:=S1.out.cmp HC.out (by omega) x1 y1
    have hv1 : ¬ cf x1 y1 < 0:=by rw [hx1,hy1]; exact of_decide_eq_false hL
    have hd1 : decide (cf x1 y1 < 0) = false:=decide_eq_false hv1
    clear hx1 hy1 hL hd
    go_quiet_grown (first | (go_at_fn g; refine Calls.grown_of (hc1 _ _)))
    have S2 : Aside (SWK enc k w0 blk off d (grow (wr.drewN nq) osq)):=S1.out.grown nq osq
    clear la1 lb1 hc1 S1 hv1 hd1 ea1 pa1 ba1 ra1 ec1 pc1 bc1 rc1
    generalize grow (wr.drewN nq) osq = w2 at S2 ⊢
    clear nq osq
    go_wp2
    go_roundg (c - i)
    case measure=>omega
    case rel=>exact ⟨i,c,rfl,by go_num,hmi,by omega,by omega,Nat.le_refl _,HI,Or.inr HL.out,S2⟩
  ·have hltz : ¬ (i : Int) < (j : Int):=by omega
   have hij' : i = j:=by omega
   have HJ2 : Aside (i = b∨ltOf cf d[i]! d[a]! = false):=by rw [hij']; have:=HJ.out; rw [← hij'] at this ⊢; exact this
   have hi1 : 1≤i:=by omega
   clear hij' HJ
   obtain ⟨w1,hw1⟩ : ∃ W,W = wr:=⟨_,rfl⟩
   rw [← hw1] at S1 ⊢
   clear hw1
   go_wp2
   go_loopg [13] (i - 1 - a) (fun kx s wr=>∃ (c : Nat) (dk : Array α),s = .int .i64 c∧a≤c∧c≤i - 1∧i - 1 - c≤kx∧Aside (dk.size = d0.size)∧Aside (dk.toList = p ++ r.take (c - a) ++ l ++ r.drop (c - a) ++ z)∧Aside (SWK enc k w0 blk off dk wr))
   case atStart=>exact ⟨a,d,by go_num,by omega,by omega,by omega,HK,by show _ = _; rw [HE.out.2.2.2.2.2]; simp,S1⟩
   case round =>
    clear S1
    obtain ⟨c,dk,rfl,hac,hci,hkx2,HK2,HL2,S1⟩:=hrel
    by_cases hlt2 : c < i - 1
    ·have hlt2z : (c : Int) < (i : Int) - 1:=by omega
     have hdk:=HK2.out
     have HL3 : Aside ((swp dk c (c + 1)).toList = p ++ r.take (c + 1 - a) ++ l ++ r.drop (c + 1 - a) ++ z):=by
      obtain ⟨ha,hm,hb,hs,hl1,hd⟩:=HE.out
      obtain ⟨x,rfl⟩:=List.length_eq_one_iff.1 hl1
      have hcr : c - a < r.length:=by omega
      have e:=HL2.out
      rw [List.drop_eq_getElem_cons hcr] at e
      have e2 : dk.toList = (p ++ r.take (c - a)) ++ x :: ([] ++ r[c - a] :: (r.drop (c - a + 1) ++ z)):=by rw [e]; simp only [List.append_assoc,List.cons_append,List.nil_append]
      have e3:=(swp_list dk e2 c (c + 1) (by simp; omega) (by simp; omega)).1
      show _ = _
      rw [e3,show c + 1 - a = c - a + 1 by omega,List.take_succ_eq_append_getElem hcr]
      simp only [List.append_assoc,List.cons_append,List.nil_append]
     clear hlt HL2
     go_wp2_with fail
     have ea2 : ((c : Int)).toNat = c:=by omega
     have pa2 : (0 : Int)≤(c : Int):=by omega
     have ba2 : (c : Int) < (d0.size : Int):=by omega
     have ra2 : IntKind.i64.wrap ((c : Int)) = (c : Int):=by rw [IntKind.wrap_i64]; omega
     have ec2 : ((c : Int) + 1).toNat = c + 1:=by omega
     have pc2 : (0 : Int)≤(c : Int) + 1:=by omega
     have bc2 : (c : Int) + 1 < (d0.size : Int):=by omega
     have rc2 : IntKind.i64.wrap ((c : Int) + 1) = (c : Int) + 1:=by rw [IntKind.wrap_i64]; omega
     have S2 : Aside (SWK enc k w0 blk off (swp dk (c) (c + 1)) ((wr.drew.setCells blk (off + (c) * k) (enc dk[c + 1]!)).setCells blk (off + (c + 1) * k) (enc dk[c]!))):=S1.out.swapped R (c) (c + 1) (by omega) (by omega)
     have la2:=S1.out.ld1 R (by omega) P (c) (by omega)
     have lb2:=S1.out.ld1 R (by omega) P (c + 1) (by omega)
     have sa2:=S1.out.st1 R (by omega) P (c) (by omega) dk[c + 1]!
     have sb2:=S1.out.st2 R (by omega) P (c) (c + 1) (by omega) (by omega) dk[c + 1]! dk[c]!
     have na2 : (enc dk[c]!).length = k:=R.hk _
     have nb2 : (enc dk[c + 1]!).length = k:=R.hk _
     generalize enc dk[c]! = cI2 at S2 la2 sb2 na2
     generalize enc dk[c + 1]! = cJ2 at S2 lb2 sa2 sb2 nb2
     clear S1 hdk
     go_big_region_o
     clear la2 lb2 sa2 sb2 ea2 pa2 ba2 ra2 ec2 pc2 bc2 rc2 na2 nb2
     generalize (wr.drew.setCells blk (off + (c) * k) cJ2).setCells blk (off + (c + 1) * k) cI2 = w2 at S2 ⊢
     go_wp2
     go_roundg (i - 1 - (c + 1))
     case measure=>omega
     case rel=>exact ⟨c + 1,swp dk c (c + 1),by go_num,by omega,by omega,Nat.le_refl _,by show _ = _; rw [size_swp]; exact HK2.out,HL3,S2⟩
    ·have hlt2z : ¬ (c : Int) < (i : Int) - 1:=by omega
     go_wp2
     have hFIN : ∃ q : List α,dk.toList = p ++ q ++ z∧q.length = l.length + r.length∧SameK key q (l ++ r)∧Up key lt q:=by
      obtain ⟨ha,hm,hb,hs,hl1,hd⟩:=HE.out
      obtain ⟨x,rfl⟩:=List.length_eq_one_iff.1 hl1
      have hx : d[a]! = x:=by
       have:=at_l hd (i:=0) (by simp)
       rw [ha]; simpa using this
      have hI:=HI.out
      have hJ:=HJ2.out
      rw [hx,HF.out] at hI hJ
      have hur : Up key lt (r.take (c - a) ++ r.drop (c - a)):=by rw [List.take_append_drop]; exact HU.out
      have h1 : ∀ y∈r.take (c - a),lt (key y) (key x) = true:=take_lt Ln HU.out (by
       rcases hI with q | q
       ·exact Or.inl (by omega)
       ·by_cases q0 : c - a = 0
        ·exact Or.inl q0
        ·refine Or.inr ⟨by omega,?_⟩
         have:=at_r hd (i:=c - a - 1) (by omega)
         rw [show i - 1 = p.length + [x].length + (c - a - 1) by simp at hm ⊢; omega,this] at q
         exact q)
      have h2 : ∀ y∈r.drop (c - a),lt (key y) (key x) = false:=drop_ge Ln HU.out (by
       rcases hJ with q | q
       ·exact Or.inl (by simp at hm hb ⊢; omega)
       ·by_cases q0 : r.length≤c - a
        ·exact Or.inl q0
        ·refine Or.inr ⟨by omega,?_⟩
         have:=at_r hd (i:=c - a) (by omega)
         rw [show i = p.length + [x].length + (c - a) by simp at hm ⊢; omega,this] at q
         exact q)
      obtain ⟨g1,g2⟩:=merge_left Ln hur h1 h2
      rw [List.take_append_drop] at g1
      refine ⟨r.take (c - a) ++ x :: r.drop (c - a),?_,?_,g1,g2⟩
      ·rw [HL2.out]; simp only [List.append_assoc,List.cons_append,List.nil_append]
      ·have hcr : c - a≤r.length:=by simp at hm hb; omega
       simp only [List.length_append,List.length_cons,List.length_take,List.length_drop,List.length_nil]; omega
     obtain ⟨q,f1,f2,f3,f4⟩:=hFIN
     (try simp only [Exit.inBlock,Exit.then]); refine bodyPost_ret (results_none rfl _ _ _) rfl ?_
     exact ⟨rfl,dk,q,HK2.out,f1,f2,f3,f4,S1.out⟩

set_option maxHeartbeats 8000000 in
set_option maxRecDepth 1000000 in
theorem merge_right_in (L : SortIn P k) (Ln : Lin lt) (enc : α→List Value) (cf : α→α→Int) (hcf : ∀ x y,ltOf cf x y = lt (key x) (key y)) (g : Nat) (cb : Array Value) (eg : ∀ args w,(callFunc g args).run P w = .ok (.enter g args) w) (blk off cap : Nat) (d0 : Array α) (w0 : World) (hC : CmpLays P g cb enc k cf blk off d0.size w0) (R : RowK enc k w0 blk off d0) (hsz : d0.size < 4611686018427387904)
  (d : Array α) (w : World) (a m b : Nat) (p l r z : List α) (hs : d.size = d0.size) (S : SWK enc k w0 blk off d w) (hd : d.toList = p ++ l ++ r ++ z) (ha : a = p.length) (hm : m = p.length + l.length) (hb : b = p.length + l.length + r.length) (hl1 : 1 < l.length) (hr0 : r.length = 1) (hul : Up key lt l) :
  Calls P 120 #[.slice (some ⟨blk,off,none⟩) d0.size cap,.int .i64 a,.int .i64 m,.int .i64 b,.func (.func g) #[] cb] w (Merged enc k w0 blk off d0.size key lt p l r z):=by
 obtain ⟨mixed,fSwap,fRot,fMerge,fStable,aE,zE,t0,a0,z0,v0,t3,a3,z3,v3,t4,a4,z4,v4,t22,a22,z22,v22,t124,a124,z124,v124,t68,a68,z68,v68⟩:=L
 have S0 : Aside (SWK enc k w0 blk off d w):=S
 have HC : Aside (CmpLays P g cb enc k cf blk off d0.size w0):=hC
 have hds : p.length + l.length + r.length + z.length = d0.size:=by
  have:=congrArg List.length hd
  simp only [List.length_append,Array.length_toList] at this
  omega
 have HE : Aside (a = p.length∧m = p.length + l.length∧b = p.length + l.length + r.length∧d.size = d0.size∧r.length = 1∧d.toList = p ++ l ++ r ++ z):=⟨ha,hm,hb,hs,hr0,hd⟩
 have hma : ((m : Int) - (a : Int) == 1) = false:=by rw [beq_eq_false_iff_ne]; omega
 have hbm : (b : Int) - (m : Int) = 1:=by omega
 have ham : a < m:=by omega
 have hmd : m < d0.size:=by omega
 have hbl : m < 4611686018427387904:=by omega
 have HK : Aside (d.size = d0.size):=hs
 have HU : Aside (Up key lt l):=hul
 have HF : Aside (∀ x y,ltOf cf x y = lt (key x) (key y)):=hcf
 clear S hC hd ha hm hb hs hl1 hr0 hds hul hcf
 go_enter fMerge,Tryz.ntmps120
 go_wp2
 go_loopg [14,15] (m - a) (fun kx s t wr=>∃ (i j : Nat),s = .int .i64 i∧t = .int .i64 j∧a≤i∧i≤j∧j≤m∧j - i≤kx∧Aside (i = a∨ltOf cf d[m]! d[i - 1]! = false)∧Aside (j = m∨ltOf cf d[m]! d[j]! = true)∧Aside (SWK enc k w0 blk off d wr))
 case atStart=>exact ⟨a,m,by go_num,by go_num,by omega,by omega,by omega,by omega,Or.inl rfl,Or.inl rfl,S0⟩
 case round =>
  clear S0
  obtain ⟨i,j,rfl,rfl,hmi,hij,hjb,hkx,HI,HJ,S1⟩:=hrel
  by_cases hlt : i < j
  ·have hltz : (i : Int) < (j : Int):=by omega
   go_wp2_with fail
   obtain ⟨c,hc⟩ : ∃ c : Nat,c = (i + j) / 2:=⟨_,rfl⟩
   have hcz : ((i : Int) + (j : Int)) / 2 = (c : Int):=by omega
   have hic : i≤c:=by omega
   have hcj : c < j:=by omega
   have hd:=HK.out
   simp only [hcz]
   clear hcz hc hma hbm
   cases hL : ltOf cf d[m]! d[c]! with
   | true =>
    have HL : Aside (ltOf cf d[m]! d[c]! = true):=hL
    have ea1 : ((m : Int)).toNat = m:=by omega
    have pa1 : (0 : Int)≤(m : Int):=by omega
    have ba1 : (m : Int) < (d0.size : Int):=by omega
    have ra1 : IntKind.i64.wrap ((m : Int)) = (m : Int):=by rw [IntKind.wrap_i64]; omega
    have ec1 : ((c : Int)).toNat = c:=by omega
    have pc1 : (0 : Int)≤(c : Int):=by omega
    have bc1 : (c : Int) < (d0.size : Int):=by omega
    have rc1 : IntKind.i64.wrap ((c : Int)) = (c : Int):=by rw [IntKind.wrap_i64]; omega
    obtain ⟨x1,hx1⟩ : ∃ x,x = d[m]!:=⟨_,rfl⟩
    obtain ⟨y1,hy1⟩ : ∃ x,x = d[c]!:=⟨_,rfl⟩
    have la1:=S1.out.ld R (by omega) P (m) (by omega)
    have lb1:=S1.out.ld R (by omega) P (c) (by omega)
    rw [← hx1] at la1
    rw [← hy1] at lb1
    have hc1:=S1.out.cmp HC.out (by omega) x1 y1
    have hv1 : cf x1 y1 < 0:=by rw [hx1,hy1]; exact of_decide_eq_true hL
    have hd1 : decide (cf x1 y1 < 0) = true:=decide_eq_true hv1
    clear hx1 hy1 hL hd
    go_quiet_grown (first | (go_at_fn g; refine Calls.grown_of (hc1 _ _)))
    have S2 : Aside (SWK enc k w0 blk off d (grow (wr.drewN nq) osq)):=S1.out.grown nq osq
    clear la1 lb1 hc1 S1 hv1 hd1 ea1 pa1 ba1 ra1 ec1 pc1 bc1 rc1
    generalize grow (wr.drewN nq) osq = w2 at S2 ⊢
    clear nq osq
    go_wp2
    go_roundg (c - i)
    case measure=>omega
    case rel=>exact ⟨i,c,rfl,by go_num,hmi,by omega,by omega,Nat.le_refl _,HI,Or.inr HL.out,S2⟩
   | false =>
    have HL : Aside (ltOf cf d[m]! d[c]! = false):=hL
    have ea1 : ((m : Int)).toNat = m:=by omega
    have pa1 : (0 : Int)≤(m : Int):=by omega
    have ba1 : (m : Int) < (d0.size : Int):=by omega
    have ra1 : IntKind.i64.wrap ((m : Int)) = (m : Int):=by rw [IntKind.wrap_i64]; omega
    have ec1 : ((c : Int)).toNat = c:=by omega
    have pc1 : (0 : Int)≤(c : Int):=by omega
    have bc1 : (c : Int) < (d0.size : Int):=by omega
    have rc1 : IntKind.i64.wrap ((c : Int)) = (c : Int):=by rw [IntKind.wrap_i64]; omega
    obtain ⟨x1,hx1⟩ : ∃ x,x = d[m]!:=⟨_,rfl⟩
    obtain ⟨y1,hy1⟩ : ∃ x,x = d[c]!:=⟨_,rfl⟩
    have la1:=S1.out.ld R (by omega) P (m) (by omega)
    have lb1:=S1.out.ld R (by omega) P (c) (by omega)
    rw [← hx1] at la1
    rw [← hy1] at lb1
    have hc1:=S1.out.cmp HC.out (by omega) x1 y1
    have hv1 : ¬ cf x1 y1 < 0:=by rw [hx1,hy1]; exact of_decide_eq_false hL
    have hd1 : decide (cf x1 y1 < 0) = false:=decide_eq_false hv1
    clear hx1 hy1 hL hd
    go_quiet_grown (first | (go_at_fn g; refine Calls.grown_of (hc1 _ _)))
    have S2 : Aside (SWK enc k w0 blk off d (grow (wr.drewN nq) osq)):=S1.out.grown nq osq
    clear la1 lb1 hc1 S1 hv1 hd1 ea1 pa1 ba1 ra1 ec1 pc1 bc1 rc1
    generalize grow (wr.drewN nq) osq = w2 at S2 ⊢
    clear nq osq
    go_wp2
    go_roundg (j - (c + 1))
    case measure=>omega
    case rel=>exact ⟨c + 1,j,by go_num,rfl,by omega,by omega,hjb,Nat.le_refl _,Or.inr (by rw [Nat.add_sub_cancel]; exact HL.out),HJ,S2⟩
  ·have hltz : ¬ (i : Int) < (j : Int):=by omega
   have hij' : i = j:=by omega
   have HJ2 : Aside (i = m∨ltOf cf d[m]! d[i]! = true):=by rw [hij']; have:=HJ.out; rw [← hij'] at this ⊢; exact this
   clear hij' HJ
   obtain ⟨w1,hw1⟩ : ∃ W,W = wr:=⟨_,rfl⟩
   rw [← hw1] at S1 ⊢
   clear hw1
   go_wp2
   go_loopg [17] (m - i) (fun kx s wr=>∃ (c : Nat) (dk : Array α),s = .int .i64 c∧i≤c∧c≤m∧c - i≤kx∧Aside (dk.size = d0.size)∧Aside (dk.toList = p ++ l.take (c - a) ++ r ++ l.drop (c - a) ++ z)∧Aside (SWK enc k w0 blk off dk wr))
   case atStart=>exact ⟨m,d,by go_num,by omega,by omega,by omega,HK,by obtain ⟨ha,hm,hb,hs,hl1,hd⟩:=HE.out; show _ = _; rw [hd,List.take_of_length_le (by omega),List.drop_of_length_le (by omega)]; simp,S1⟩
   case round =>
    clear S1
    obtain ⟨c,dk,rfl,hac,hci,hkx2,HK2,HL2,S1⟩:=hrel
    by_cases hlt2 : i < c
    ·obtain ⟨c,rfl⟩ : ∃ e,c = e + 1:=⟨c - 1,by omega⟩
     have hlt2z : (i : Int) < ((c + 1 : Nat) : Int):=by omega
     have hdk:=HK2.out
     have hcc : ((c + 1 : Nat) : Int) = (c : Int) + 1:=by omega
     rw [hcc] at hlt2z ⊢
     have HL3 : Aside ((swp dk (c + 1) c).toList = p ++ l.take (c - a) ++ r ++ l.drop (c - a) ++ z):=by
      obtain ⟨ha,hm,hb,hs,hl1,hd⟩:=HE.out
      obtain ⟨y,rfl⟩:=List.length_eq_one_iff.1 hl1
      have hcr : c - a < l.length:=by omega
      have e:=HL2.out
      rw [show c + 1 - a = c - a + 1 by omega,List.take_succ_eq_append_getElem hcr] at e
      have e2 : dk.toList = (p ++ l.take (c - a)) ++ l[c - a] :: ([] ++ y :: (l.drop (c - a + 1) ++ z)):=by rw [e]; simp only [List.append_assoc,List.cons_append,List.nil_append]
      have e3:=(swp_list dk e2 c (c + 1) (by simp; omega) (by simp; omega)).2
      show _ = _
      rw [e3,List.drop_eq_getElem_cons hcr]
      simp only [List.append_assoc,List.cons_append,List.nil_append]
     clear hlt HL2 hcc
     go_wp2_with fail
     have ea2 : ((c : Int) + 1).toNat = c + 1:=by omega
     have pa2 : (0 : Int)≤(c : Int) + 1:=by omega
     have ba2 : (c : Int) + 1 < (d0.size : Int):=by omega
     have ra2 : IntKind.i64.wrap ((c : Int) + 1) = (c : Int) + 1:=by rw [IntKind.wrap_i64]; omega
     have ec2 : ((c : Int)).toNat = c:=by omega
     have pc2 : (0 : Int)≤(c : Int):=by omega
     have bc2 : (c : Int) < (d0.size : Int):=by omega
     have rc2 : IntKind.i64.wrap ((c : Int)) = (c : Int):=by rw [IntKind.wrap_i64]; omega
     have S2 : Aside (SWK enc k w0 blk off (swp dk (c + 1) (c)) ((wr.drew.setCells blk (off + (c + 1) * k) (enc dk[c]!)).setCells blk (off + (c) * k) (enc dk[c + 1]!))):=S1.out.swapped R (c + 1) (c) (by omega) (by omega)
     have la2:=S1.out.ld1 R (by omega) P (c + 1) (by omega)
     have lb2:=S1.out.ld1 R (by omega) P (c) (by omega)
     have sa2:=S1.out.st1 R (by omega) P (c + 1) (by omega) dk[c]!
     have sb2:=S1.out.st2 R (by omega) P (c + 1) (c) (by omega) (by omega) dk[c]! dk[c + 1]!
     have na2 : (enc dk[c + 1]!).length = k:=R.hk _
     have nb2 : (enc dk[c]!).length = k:=R.hk _
     generalize enc dk[c + 1]! = cI2 at S2 la2 sb2 na2
     generalize enc dk[c]! = cJ2 at S2 lb2 sa2 sb2 nb2
     clear S1 hdk
     go_big_region_o
     clear la2 lb2 sa2 sb2 ea2 pa2 ba2 ra2 ec2 pc2 bc2 rc2 na2 nb2
     generalize (wr.drew.setCells blk (off + (c + 1) * k) cJ2).setCells blk (off + (c) * k) cI2 = w2 at S2 ⊢
     go_wp2
     go_roundg (c - i)
     case measure=>omega
     case rel=>exact ⟨c,swp dk (c + 1) c,by go_num,by omega,by omega,Nat.le_refl _,by show _ = _; rw [size_swp]; exact HK2.out,HL3,S2⟩
    ·have hlt2z : ¬ (i : Int) < (c : Int):=by omega
     go_wp2
     have hFIN : ∃ q : List α,dk.toList = p ++ q ++ z∧q.length = l.length + r.length∧SameK key q (l ++ r)∧Up key lt q:=by
      obtain ⟨ha,hm,hb,hs,hl1,hd⟩:=HE.out
      obtain ⟨y,rfl⟩:=List.length_eq_one_iff.1 hl1
      have hy : d[m]! = y:=by
       have:=at_r hd (i:=0) (by simp)
       rw [hm]; simpa using this
      have hI:=HI.out
      have hJ:=HJ2.out
      rw [hy,HF.out] at hI hJ
      have hul : Up key lt (l.take (c - a) ++ l.drop (c - a)):=by rw [List.take_append_drop]; exact HU.out
      have h1 : ∀ x∈l.take (c - a),lt (key y) (key x) = false:=take_le Ln HU.out (by
       rcases hI with q | q
       ·exact Or.inl (by omega)
       ·by_cases q0 : c - a = 0
        ·exact Or.inl q0
        ·refine Or.inr ⟨by omega,?_⟩
         have:=at_l hd (i:=c - a - 1) (by omega)
         rw [show i - 1 = p.length + (c - a - 1) by omega,this] at q
         exact q)
      have h2 : ∀ x∈l.drop (c - a),lt (key y) (key x) = true:=drop_gt Ln HU.out (by
       rcases hJ with q | q
       ·exact Or.inl (by omega)
       ·by_cases q0 : l.length≤c - a
        ·exact Or.inl q0
        ·refine Or.inr ⟨by omega,?_⟩
         have:=at_l hd (i:=c - a) (by omega)
         rw [show i = p.length + (c - a) by omega,this] at q
         exact q)
      obtain ⟨g1,g2⟩:=merge_right Ln hul h1 h2
      rw [List.take_append_drop] at g1
      refine ⟨l.take (c - a) ++ y :: l.drop (c - a),?_,?_,g1,g2⟩
      ·rw [HL2.out]; simp only [List.append_assoc,List.cons_append,List.nil_append]
      ·have hcr : c - a≤l.length:=by omega
       simp only [List.length_append,List.length_cons,List.length_take,List.length_drop,List.length_nil]; omega
     obtain ⟨q,f1,f2,f3,f4⟩:=hFIN
     (try simp only [Exit.inBlock,Exit.then]); refine bodyPost_ret (results_none rfl _ _ _) rfl ?_
     exact ⟨rfl,dk,q,HK2.out,f1,f2,f3,f4,S1.out⟩

end

end Go.Proofs.YtdobeghbkonimaaGreatDoor
