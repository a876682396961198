/-
 The landed apply: Why of what may not be, and of no graph; what changes; Do.
-/
import Derived.Test.YtdobeghbkonimaaGreatDoorZ07
import Derived.Test.YtdobeghbkonimaaGreatDoorZ07
import Derived.Test.YtdobeghbkonimaaGreatDoorZ01
import Derived.Test.YtdobeghbkonimaaGreatDoorZ00
import Derived.Test.YtdobeghbkonimaaGreatDoorZ00
import Derived.Test.YtdobeghbkonimaaGreatDoorRows
import Derived.Test.YtdobeghbkonimaaGreatDoorZ04
import Derived.Test.YtdobeghbkonimaaGreatDoorZ04
import Derived.Shelf.SlGeneric
import Derived.Shelf.SlLaysF0
import Derived.Shelf.SlLaysW
import Derived.Test.YtdobeghbkonimaaGreatDoorProg
import Derived.Deep.Cut
import Derived.Sort.MapsRangeIn
import Derived.RangeFuncSeq
import Derived.RangeFuncNested
import Derived.RangeFuncBound
import Derived.RangeFuncBox
import Derived.RangeFuncLeaves
import Derived.Shelf.Abstract
import Derived.WalkKit
import Derived.OwnWalkIn
import Derived.TacticsInMore
import Derived.LoopNIn
import Derived.LoopIn
import Derived.Sort.LoopGhostIn
import Derived.Sort.QuietIn
import Derived.Test.YtdobeghbkonimaaGreatDoorZ05
import Derived.Maps.Own
import Derived.Maps.OwnOps
namespace Go.Proofs.YtdobeghbkonimaaGreatDoor
open Go.RowKit StampMath GraphMath OpMath PackMath ExtentMath

set_option maxRecDepth 100000 in
theorem whyBad (a : Addr) (g : Gr) (o : Opn) (w : World) [Tab w] (hm : mayO o = false) (hf : OpFit o) :
  Calls Tryz.prog 32 #[.pointer (some a),.agg (opA o)] w fun e w'=>e = .returned (.int .i64 (whyA g o))∧Below w.heap.size w w':=by
 have hw : whyA g o = 1:=by unfold whyA; rw [if_pos hm]
 rw [hw]
 have HM : Hid (∀ (W : World) [Tab W],Calls Tryz.prog 37 #[.agg #[.int .i64 o.st,.int .i64 o.sr,.int .i64 o.k,.int .i64 o.pt,.int .i64 o.pr,.int .i64 o.it,.int .i64 o.ir,.int .i64 o.tt,.int .i64 o.tr,.string o.name,.string o.new,.int .i64 o.off,.string o.data]] W fun e w'=>e = .returned (.bool false)∧Below W.heap.size W w'):=Lib.hid fun W _=>by rw [← hm]; exact opMay_any o W hf.ok hf.name hf.new hf.data
 have hS0 : Held w [(w.heap.size,.cells (opA o) 26 (0,0))] (w.alloc (.cells (opA o) 26)):=(Held.refl w).alloc (.cells (opA o) 26) rfl
 have i0 : Tab (w.alloc (.cells (opA o) 26)):=inferInstance
 clear hm hf hw
 unfold opA
 go_enter Tryz.func32,Tryz.ntmps32
 go_upto_region 1 with fail
 change Code.wp _ _ _ _ (w.alloc (.cells (opA o) 26))
 generalize w.alloc (.cells (opA o) 26) = w0 at hS0 i0 ⊢
 obtain ⟨e0,e1,e2,e3,e4,e5,e6,e7,e8,e9,e10,e11,e12⟩:=op_cells (o:=o) (g:=w.heap.size) (hS0.at 0 rfl)
 go_wp2_with fail
 refine (HM.out _).mono ?_
 rintro e w1 ⟨rfl,hb1⟩
 have hS1:=hS0.step hb1
 clear hS0 hb1 HM
 go_wp2_with fail
 go_ret
 exact ⟨rfl,hS1.below⟩

set_option maxRecDepth 100000 in
theorem whyNil (o : Opn) (w : World) :
  Calls Tryz.prog 32 #[.pointer none,.agg (opA o)] w fun e w'=>e = .returned (.int .i64 1)∧Below w.heap.size w w':=by
 unfold opA
 go_enter Tryz.func32,Tryz.ntmps32
 go_wp2_with fail
 go_ret
 exact ⟨rfl,(Below.refl _ _).alloc (Nat.le_refl _) _⟩

theorem why_code (H : GraphHave) (a : Addr) (S : Nat→Prop) (g : Gr) (o : Opn) (w : World) [Tab w] (h : H.rep w S a g) (hg : g.ok) (hf : OpFit o) :
  Calls Tryz.prog 32 #[.pointer (some a),.agg (opA o)] w fun e w'=>e = .returned (.int .i64 (whyA g o))∧Below w.heap.size w w':=by
 cases hm : mayO o with
 | true=>exact whyGood H a S g o w h hg hm hf
 | false=>exact whyBad a g o w hm hf

section
variable {H : GraphHave} {w W0 W : World} {N : Nat→Prop} {a : Addr} {g : Gr} {L : List (Nat × Obj)}

theorem DX.did (h : DX H w W0 W N a g L) {f : FuncId} {args : Array Value} {g' : Gr} (k : Calls Tryz.prog f args W (Did H w W (fun i=>N i∨∃ p∈L,p.1 = i) a g')) :
  Calls Tryz.prog f args W fun e w'=>e = .returned (.tuple #[])∧DX H w W0 w' N a g' L:=k.mono fun _ _ ⟨he,q⟩=>⟨he,h.call q⟩

end

set_option maxRecDepth 100000 in
set_option maxHeartbeats 3200000 in
theorem change_code (H : GraphHave) (XH : ExtentHave) (w W0 : World) (N : Nat→Prop) (a : Addr) (g : Gr) (o : Opn) (h : GX H w W0 N a g) (hf : g.fine) (hw : whyA g o = 0) (ho : OpFit o) :
  Calls Tryz.prog 61 #[.agg (deedA a o)] W0 (Did H w W0 N a (madeA g o)):=by
 have hm:=whyA_may hw
 obtain ⟨p1,p2,_⟩:=mayO_parts hm
 have hD0:=(DX.start h).alloc (.cells (deedA a o) 102) rfl
 have HP:=Lib.hid (And.intro hf (And.intro hw ho))
 clear hf hw ho hm h
 unfold Did
 rcases show o.k = 1∨o.k = 2∨o.k = 3∨o.k = 4∨o.k = 5∨o.k = 6∨o.k = 7∨o.k = 8∨o.k = 9∨o.k = 10 by omega with q | q | q | q | q | q | q | q | q | q
 ·-- kind 1
  have HK : Hid (∀ W,DX H w W0 W N a g [(W0.heap.size,.cells (deedA a o) 102)]→Calls Tryz.prog 107 #[.agg (deedA a o)] W fun e w'=>e = .returned (.tuple #[])∧DX H w W0 w' N a (madeA g o) [(W0.heap.size,.cells (deedA a o) 102)]):=Lib.hid fun W hW=>hW.did (add_code H w W _ a g o hW.gx HP.out.2.2.name (by omega) (by omega))
  have k1 : (o.k == 1) = true:=by rw [q]; rfl
  have k2 : (o.k == 2) = false:=by rw [q]; rfl
  have k3 : (o.k == 3) = false:=by rw [q]; rfl
  have k4 : (o.k == 4) = false:=by rw [q]; rfl
  have k5 : (o.k == 5) = false:=by rw [q]; rfl
  have k6 : (o.k == 6) = false:=by rw [q]; rfl
  have k7 : (o.k == 7) = false:=by rw [q]; rfl
  have k8 : (o.k == 8) = false:=by rw [q]; rfl
  have k9 : (o.k == 9) = false:=by rw [q]; rfl
  have k10 : (o.k == 10) = false:=by rw [q]; rfl
  clear q p1 p2 HP
  go_enter Tryz.func61,Tryz.ntmps61
  go_upto_region 1 with fail
  change Code.wp _ _ _ _ (W0.alloc (.cells (deedA a o) 102))
  generalize W0.alloc (.cells (deedA a o) 102) = w0 at hD0 ⊢
  obtain ⟨d0,d1,d2,d3,d4,d5,d6,d7,d8,d9,d10,d11,d12,d13⟩:=deed_cells (g:=W0.heap.size) (hD0.at 0 rfl)
  go_wp2_with fail
  refine (HK.out _ hD0).mono ?_
  rintro e w1 ⟨rfl,hD1⟩
  go_wp2_with fail
  exact bodyPost_end (results_none rfl _ _ _) rfl ⟨rfl,hD1.fin⟩
 ·-- kind 2
  have HK : Hid (∀ W,DX H w W0 W N a g [(W0.heap.size,.cells (deedA a o) 102)]→Calls Tryz.prog 107 #[.agg (deedA a o)] W fun e w'=>e = .returned (.tuple #[])∧DX H w W0 w' N a (madeA g o) [(W0.heap.size,.cells (deedA a o) 102)]):=Lib.hid fun W hW=>hW.did (add_code H w W _ a g o hW.gx HP.out.2.2.name (by omega) (by omega))
  have k1 : (o.k == 1) = false:=by rw [q]; rfl
  have k2 : (o.k == 2) = true:=by rw [q]; rfl
  have k3 : (o.k == 3) = false:=by rw [q]; rfl
  have k4 : (o.k == 4) = false:=by rw [q]; rfl
  have k5 : (o.k == 5) = false:=by rw [q]; rfl
  have k6 : (o.k == 6) = false:=by rw [q]; rfl
  have k7 : (o.k == 7) = false:=by rw [q]; rfl
  have k8 : (o.k == 8) = false:=by rw [q]; rfl
  have k9 : (o.k == 9) = false:=by rw [q]; rfl
  have k10 : (o.k == 10) = false:=by rw [q]; rfl
  clear q p1 p2 HP
  go_enter Tryz.func61,Tryz.ntmps61
  go_upto_region 1 with fail
  change Code.wp _ _ _ _ (W0.alloc (.cells (deedA a o) 102))
  generalize W0.alloc (.cells (deedA a o) 102) = w0 at hD0 ⊢
  obtain ⟨d0,d1,d2,d3,d4,d5,d6,d7,d8,d9,d10,d11,d12,d13⟩:=deed_cells (g:=W0.heap.size) (hD0.at 0 rfl)
  go_wp2_with fail
  refine (HK.out _ hD0).mono ?_
  rintro e w1 ⟨rfl,hD1⟩
  go_wp2_with fail
  exact bodyPost_end (results_none rfl _ _ _) rfl ⟨rfl,hD1.fin⟩
 ·-- kind 3
  have HK : Hid (∀ W,DX H w W0 W N a g [(W0.heap.size,.cells (deedA a o) 102)]→Calls Tryz.prog 107 #[.agg (deedA a o)] W fun e w'=>e = .returned (.tuple #[])∧DX H w W0 w' N a (madeA g o) [(W0.heap.size,.cells (deedA a o) 102)]):=Lib.hid fun W hW=>hW.did (add_code H w W _ a g o hW.gx HP.out.2.2.name (by omega) (by omega))
  have k1 : (o.k == 1) = false:=by rw [q]; rfl
  have k2 : (o.k == 2) = false:=by rw [q]; rfl
  have k3 : (o.k == 3) = true:=by rw [q]; rfl
  have k4 : (o.k == 4) = false:=by rw [q]; rfl
  have k5 : (o.k == 5) = false:=by rw [q]; rfl
  have k6 : (o.k == 6) = false:=by rw [q]; rfl
  have k7 : (o.k == 7) = false:=by rw [q]; rfl
  have k8 : (o.k == 8) = false:=by rw [q]; rfl
  have k9 : (o.k == 9) = false:=by rw [q]; rfl
  have k10 : (o.k == 10) = false:=by rw [q]; rfl
  clear q p1 p2 HP
  go_enter Tryz.func61,Tryz.ntmps61
  go_upto_region 1 with fail
  change Code.wp _ _ _ _ (W0.alloc (.cells (deedA a o) 102))
  generalize W0.alloc (.cells (deedA a o) 102) = w0 at hD0 ⊢
  obtain ⟨d0,d1,d2,d3,d4,d5,d6,d7,d8,d9,d10,d11,d12,d13⟩:=deed_cells (g:=W0.heap.size) (hD0.at 0 rfl)
  go_wp2_with fail
  refine (HK.out _ hD0).mono ?_
  rintro e w1 ⟨rfl,hD1⟩
  go_wp2_with fail
  exact bodyPost_end (results_none rfl _ _ _) rfl ⟨rfl,hD1.fin⟩
 ·-- kind 4
  have HE:=Lib.hid (link_made (g:=g) q)
  have HK : Hid (∀ W,DX H w W0 W N a g [(W0.heap.size,.cells (deedA a o) 102)]→Calls Tryz.prog 108 #[.pointer (some a),.agg #[.int .i64 o.pt,.int .i64 o.pr,.string o.name,.int .i64 o.it,.int .i64 o.ir]] W fun e w'=>e = .returned (.int .i64 (tieG (nameB o.name) g ⟨oAt o,o.name,oIno o⟩).2)∧DX H w W0 w' N a (tieG (nameB o.name) g ⟨oAt o,o.name,oIno o⟩).1 [(W0.heap.size,.cells (deedA a o) 102)]):=Lib.hid fun W hW=>hW.tie (o.pt,o.pr) o.name (o.it,o.ir) HP.out.2.2.name
  generalize (tieG (nameB o.name) g ⟨oAt o,o.name,oIno o⟩).2 = er at HK
  have k1 : (o.k == 1) = false:=by rw [q]; rfl
  have k2 : (o.k == 2) = false:=by rw [q]; rfl
  have k3 : (o.k == 3) = false:=by rw [q]; rfl
  have k4 : (o.k == 4) = true:=by rw [q]; rfl
  have k5 : (o.k == 5) = false:=by rw [q]; rfl
  have k6 : (o.k == 6) = false:=by rw [q]; rfl
  have k7 : (o.k == 7) = false:=by rw [q]; rfl
  have k8 : (o.k == 8) = false:=by rw [q]; rfl
  have k9 : (o.k == 9) = false:=by rw [q]; rfl
  have k10 : (o.k == 10) = false:=by rw [q]; rfl
  clear q p1 p2 HP
  go_enter Tryz.func61,Tryz.ntmps61
  go_upto_region 1 with fail
  change Code.wp _ _ _ _ (W0.alloc (.cells (deedA a o) 102))
  generalize W0.alloc (.cells (deedA a o) 102) = w0 at hD0 ⊢
  obtain ⟨d0,d1,d2,d3,d4,d5,d6,d7,d8,d9,d10,d11,d12,d13⟩:=deed_cells (g:=W0.heap.size) (hD0.at 0 rfl)
  go_wp2_with fail
  refine (HK.out _ hD0).mono ?_
  rintro e w1 ⟨rfl,hD1⟩
  go_wp2_with fail
  exact bodyPost_end (results_none rfl _ _ _) rfl ⟨rfl,by rw [HE.out]; exact hD1.fin⟩
 ·-- kind 5
  have HE:=Lib.hid (take_made (g:=g) (show o.k = 5∨o.k = 6 by omega))
  have HK : Hid (∀ W,DX H w W0 W N a g [(W0.heap.size,.cells (deedA a o) 102)]→Calls Tryz.prog 109 #[.agg (deedA a o),.agg #[.int .i64 o.pt,.int .i64 o.pr],.string o.name] W fun e w'=>e = .returned (.tuple #[])∧DX H w W0 w' N a (goneG g (oAt o) o.name) [(W0.heap.size,.cells (deedA a o) 102)]):=Lib.hid fun W hW=>hW.did (remove_code H w W _ a g o (o.pt,o.pr) o.name hW.gx HP.out.2.2.name)
  have k1 : (o.k == 1) = false:=by rw [q]; rfl
  have k2 : (o.k == 2) = false:=by rw [q]; rfl
  have k3 : (o.k == 3) = false:=by rw [q]; rfl
  have k4 : (o.k == 4) = false:=by rw [q]; rfl
  have k5 : (o.k == 5) = true:=by rw [q]; rfl
  have k6 : (o.k == 6) = false:=by rw [q]; rfl
  have k7 : (o.k == 7) = false:=by rw [q]; rfl
  have k8 : (o.k == 8) = false:=by rw [q]; rfl
  have k9 : (o.k == 9) = false:=by rw [q]; rfl
  have k10 : (o.k == 10) = false:=by rw [q]; rfl
  clear q p1 p2 HP
  go_enter Tryz.func61,Tryz.ntmps61
  go_upto_region 1 with fail
  change Code.wp _ _ _ _ (W0.alloc (.cells (deedA a o) 102))
  generalize W0.alloc (.cells (deedA a o) 102) = w0 at hD0 ⊢
  obtain ⟨d0,d1,d2,d3,d4,d5,d6,d7,d8,d9,d10,d11,d12,d13⟩:=deed_cells (g:=W0.heap.size) (hD0.at 0 rfl)
  go_wp2_with fail
  refine (HK.out _ hD0).mono ?_
  rintro e w1 ⟨rfl,hD1⟩
  go_wp2_with fail
  exact bodyPost_end (results_none rfl _ _ _) rfl ⟨rfl,by rw [HE.out]; exact hD1.fin⟩
 ·-- kind 6
  have HE:=Lib.hid (take_made (g:=g) (show o.k = 5∨o.k = 6 by omega))
  have HK : Hid (∀ W,DX H w W0 W N a g [(W0.heap.size,.cells (deedA a o) 102)]→Calls Tryz.prog 109 #[.agg (deedA a o),.agg #[.int .i64 o.pt,.int .i64 o.pr],.string o.name] W fun e w'=>e = .returned (.tuple #[])∧DX H w W0 w' N a (goneG g (oAt o) o.name) [(W0.heap.size,.cells (deedA a o) 102)]):=Lib.hid fun W hW=>hW.did (remove_code H w W _ a g o (o.pt,o.pr) o.name hW.gx HP.out.2.2.name)
  have k1 : (o.k == 1) = false:=by rw [q]; rfl
  have k2 : (o.k == 2) = false:=by rw [q]; rfl
  have k3 : (o.k == 3) = false:=by rw [q]; rfl
  have k4 : (o.k == 4) = false:=by rw [q]; rfl
  have k5 : (o.k == 5) = false:=by rw [q]; rfl
  have k6 : (o.k == 6) = true:=by rw [q]; rfl
  have k7 : (o.k == 7) = false:=by rw [q]; rfl
  have k8 : (o.k == 8) = false:=by rw [q]; rfl
  have k9 : (o.k == 9) = false:=by rw [q]; rfl
  have k10 : (o.k == 10) = false:=by rw [q]; rfl
  clear q p1 p2 HP
  go_enter Tryz.func61,Tryz.ntmps61
  go_upto_region 1 with fail
  change Code.wp _ _ _ _ (W0.alloc (.cells (deedA a o) 102))
  generalize W0.alloc (.cells (deedA a o) 102) = w0 at hD0 ⊢
  obtain ⟨d0,d1,d2,d3,d4,d5,d6,d7,d8,d9,d10,d11,d12,d13⟩:=deed_cells (g:=W0.heap.size) (hD0.at 0 rfl)
  go_wp2_with fail
  refine (HK.out _ hD0).mono ?_
  rintro e w1 ⟨rfl,hD1⟩
  go_wp2_with fail
  exact bodyPost_end (results_none rfl _ _ _) rfl ⟨rfl,by rw [HE.out]; exact hD1.fin⟩
 ·-- kind 7
  have HK : Hid (∀ W,DX H w W0 W N a g [(W0.heap.size,.cells (deedA a o) 102)]→Calls Tryz.prog 110 #[.agg (deedA a o)] W fun e w'=>e = .returned (.tuple #[])∧DX H w W0 w' N a (madeA g o) [(W0.heap.size,.cells (deedA a o) 102)]):=Lib.hid fun W hW=>hW.did (rename_code H w W _ a g o hW.gx HP.out.2.2.name HP.out.2.2.new q)
  have k1 : (o.k == 1) = false:=by rw [q]; rfl
  have k2 : (o.k == 2) = false:=by rw [q]; rfl
  have k3 : (o.k == 3) = false:=by rw [q]; rfl
  have k4 : (o.k == 4) = false:=by rw [q]; rfl
  have k5 : (o.k == 5) = false:=by rw [q]; rfl
  have k6 : (o.k == 6) = false:=by rw [q]; rfl
  have k7 : (o.k == 7) = true:=by rw [q]; rfl
  have k8 : (o.k == 8) = false:=by rw [q]; rfl
  have k9 : (o.k == 9) = false:=by rw [q]; rfl
  have k10 : (o.k == 10) = false:=by rw [q]; rfl
  clear q p1 p2 HP
  go_enter Tryz.func61,Tryz.ntmps61
  go_upto_region 1 with fail
  change Code.wp _ _ _ _ (W0.alloc (.cells (deedA a o) 102))
  generalize W0.alloc (.cells (deedA a o) 102) = w0 at hD0 ⊢
  obtain ⟨d0,d1,d2,d3,d4,d5,d6,d7,d8,d9,d10,d11,d12,d13⟩:=deed_cells (g:=W0.heap.size) (hD0.at 0 rfl)
  go_wp2_with fail
  refine (HK.out _ hD0).mono ?_
  rintro e w1 ⟨rfl,hD1⟩
  go_wp2_with fail
  exact bodyPost_end (results_none rfl _ _ _) rfl ⟨rfl,hD1.fin⟩
 ·-- kind 8
  have HK : Hid (∀ W,DX H w W0 W N a g [(W0.heap.size,.cells (deedA a o) 102)]→Calls Tryz.prog 111 #[.agg (deedA a o)] W fun e w'=>e = .returned (.tuple #[])∧DX H w W0 w' N a (madeA g o) [(W0.heap.size,.cells (deedA a o) 102)]):=Lib.hid fun W hW=>hW.did (set_code' H XH w W _ a g o hW.gx HP.out.1 HP.out.2.1 HP.out.2.2 (by omega) (by omega))
  have k1 : (o.k == 1) = false:=by rw [q]; rfl
  have k2 : (o.k == 2) = false:=by rw [q]; rfl
  have k3 : (o.k == 3) = false:=by rw [q]; rfl
  have k4 : (o.k == 4) = false:=by rw [q]; rfl
  have k5 : (o.k == 5) = false:=by rw [q]; rfl
  have k6 : (o.k == 6) = false:=by rw [q]; rfl
  have k7 : (o.k == 7) = false:=by rw [q]; rfl
  have k8 : (o.k == 8) = true:=by rw [q]; rfl
  have k9 : (o.k == 9) = false:=by rw [q]; rfl
  have k10 : (o.k == 10) = false:=by rw [q]; rfl
  clear q p1 p2 HP
  go_enter Tryz.func61,Tryz.ntmps61
  go_upto_region 1 with fail
  change Code.wp _ _ _ _ (W0.alloc (.cells (deedA a o) 102))
  generalize W0.alloc (.cells (deedA a o) 102) = w0 at hD0 ⊢
  obtain ⟨d0,d1,d2,d3,d4,d5,d6,d7,d8,d9,d10,d11,d12,d13⟩:=deed_cells (g:=W0.heap.size) (hD0.at 0 rfl)
  go_wp2_with fail
  refine (HK.out _ hD0).mono ?_
  rintro e w1 ⟨rfl,hD1⟩
  go_wp2_with fail
  exact bodyPost_end (results_none rfl _ _ _) rfl ⟨rfl,hD1.fin⟩
 ·-- kind 9
  have HK : Hid (∀ W,DX H w W0 W N a g [(W0.heap.size,.cells (deedA a o) 102)]→Calls Tryz.prog 111 #[.agg (deedA a o)] W fun e w'=>e = .returned (.tuple #[])∧DX H w W0 w' N a (madeA g o) [(W0.heap.size,.cells (deedA a o) 102)]):=Lib.hid fun W hW=>hW.did (set_code' H XH w W _ a g o hW.gx HP.out.1 HP.out.2.1 HP.out.2.2 (by omega) (by omega))
  have k1 : (o.k == 1) = false:=by rw [q]; rfl
  have k2 : (o.k == 2) = false:=by rw [q]; rfl
  have k3 : (o.k == 3) = false:=by rw [q]; rfl
  have k4 : (o.k == 4) = false:=by rw [q]; rfl
  have k5 : (o.k == 5) = false:=by rw [q]; rfl
  have k6 : (o.k == 6) = false:=by rw [q]; rfl
  have k7 : (o.k == 7) = false:=by rw [q]; rfl
  have k8 : (o.k == 8) = false:=by rw [q]; rfl
  have k9 : (o.k == 9) = true:=by rw [q]; rfl
  have k10 : (o.k == 10) = false:=by rw [q]; rfl
  clear q p1 p2 HP
  go_enter Tryz.func61,Tryz.ntmps61
  go_upto_region 1 with fail
  change Code.wp _ _ _ _ (W0.alloc (.cells (deedA a o) 102))
  generalize W0.alloc (.cells (deedA a o) 102) = w0 at hD0 ⊢
  obtain ⟨d0,d1,d2,d3,d4,d5,d6,d7,d8,d9,d10,d11,d12,d13⟩:=deed_cells (g:=W0.heap.size) (hD0.at 0 rfl)
  go_wp2_with fail
  refine (HK.out _ hD0).mono ?_
  rintro e w1 ⟨rfl,hD1⟩
  go_wp2_with fail
  exact bodyPost_end (results_none rfl _ _ _) rfl ⟨rfl,hD1.fin⟩
 ·-- kind 10
  have HK : Hid (∀ W,DX H w W0 W N a g [(W0.heap.size,.cells (deedA a o) 102)]→Calls Tryz.prog 111 #[.agg (deedA a o)] W fun e w'=>e = .returned (.tuple #[])∧DX H w W0 w' N a (madeA g o) [(W0.heap.size,.cells (deedA a o) 102)]):=Lib.hid fun W hW=>hW.did (set_code' H XH w W _ a g o hW.gx HP.out.1 HP.out.2.1 HP.out.2.2 (by omega) (by omega))
  have k1 : (o.k == 1) = false:=by rw [q]; rfl
  have k2 : (o.k == 2) = false:=by rw [q]; rfl
  have k3 : (o.k == 3) = false:=by rw [q]; rfl
  have k4 : (o.k == 4) = false:=by rw [q]; rfl
  have k5 : (o.k == 5) = false:=by rw [q]; rfl
  have k6 : (o.k == 6) = false:=by rw [q]; rfl
  have k7 : (o.k == 7) = false:=by rw [q]; rfl
  have k8 : (o.k == 8) = false:=by rw [q]; rfl
  have k9 : (o.k == 9) = false:=by rw [q]; rfl
  have k10 : (o.k == 10) = true:=by rw [q]; rfl
  clear q p1 p2 HP
  go_enter Tryz.func61,Tryz.ntmps61
  go_upto_region 1 with fail
  change Code.wp _ _ _ _ (W0.alloc (.cells (deedA a o) 102))
  generalize W0.alloc (.cells (deedA a o) 102) = w0 at hD0 ⊢
  obtain ⟨d0,d1,d2,d3,d4,d5,d6,d7,d8,d9,d10,d11,d12,d13⟩:=deed_cells (g:=W0.heap.size) (hD0.at 0 rfl)
  go_wp2_with fail
  refine (HK.out _ hD0).mono ?_
  rintro e w1 ⟨rfl,hD1⟩
  go_wp2_with fail
  exact bodyPost_end (results_none rfl _ _ _) rfl ⟨rfl,hD1.fin⟩

def bare (w : World) : World:={ w with heap:=#[] }

theorem bare_gx {H : GraphHave} {a : Addr} {S : Nat→Prop} {g : Gr} {w : World} (h : H.rep w S a g) (hg : g.ok) : GX H (bare w) w (fun i=>i < w.heap.size∧¬ S i) a g :=
 ⟨⟨S,h,fun _ _=>Nat.zero_le _,fun _ hi=>hi.2⟩,hg,fun _ hi=>hi.1,⟨rfl,rfl,rfl,Nat.zero_le _,fun k hk=>absurd hk (Nat.not_lt_zero k)⟩⟩

theorem gx_bare {H : GraphHave} {a : Addr} {S : Nat→Prop} {g : Gr} {w w' : World} (h : GX H (bare w) w' (fun i=>i < w.heap.size∧¬ S i) a g∧Same (fun i=>i < w.heap.size∧¬ S i) w w') :
  ∃ S',H.rep w' S' a g∧(∀ i,S' i→S i∨w.heap.size≤i)∧But S w w':=by
 obtain ⟨⟨⟨S',h1,_,h3⟩,_,_,h6⟩,h7,h8⟩:=h
 refine ⟨S',h1,fun i hi=>?_,⟨h6.os,h6.tape,h6.output,h7,fun k hk hn=>h8 k ⟨hk,hn⟩⟩⟩
 by_cases q : i < w.heap.size
 ·by_cases z : S i
  ·exact Or.inl z
  ·exact absurd hi (h3 i ⟨q,z⟩)
 ·exact Or.inr (by omega)

set_option maxRecDepth 100000 in
set_option maxHeartbeats 1600000 in
theorem do_core (H : GraphHave) (XH : ExtentHave) (w W0 : World) (N : Nat→Prop) (a : Addr) (g : Gr) (o : Opn) [Tab W0] (h : GX H w W0 N a g) (hf : g.fine) (ho : OpFit o) :
  Calls Tryz.prog 33 #[.pointer (some a),.agg (opA o)] W0 fun e w'=>e = .returned (.int .i64 (doA g o).2)∧GX H w w' N a (doA g o).1∧Same N W0 w':=by
 have hD0:=(DX.start h).alloc (.cells (opA o) 26) rfl
 have i0 : Tab (W0.alloc (.cells (opA o) 26)):=inferInstance
 have HW : Hid (∀ (W : World) [Tab W],DX H w W0 W N a g [(W0.heap.size,.cells (opA o) 26)]→Calls Tryz.prog 32 #[.pointer (some a),.agg #[.int .i64 o.st,.int .i64 o.sr,.int .i64 o.k,.int .i64 o.pt,.int .i64 o.pr,.int .i64 o.it,.int .i64 o.ir,.int .i64 o.tt,.int .i64 o.tr,.string o.name,.string o.new,.int .i64 o.off,.string o.data]] W fun e w'=>e = .returned (.int .i64 (whyA g o))∧DX H w W0 w' N a g [(W0.heap.size,.cells (opA o) 26)]):=Lib.hid fun W _ hW=>by
  obtain ⟨S,h1,_⟩:=hW.gx.at'
  exact (why_code H a S g o W h1 hW.ok ho).mono fun _ _ ⟨he,hb⟩=>⟨he,hW.step hb⟩
 by_cases hw : whyA g o = 0
 ·have HC : Hid (∀ (W : World),DX H w W0 W N a g [(W0.heap.size,.cells (opA o) 26)]→Calls Tryz.prog 61 #[.agg #[.pointer (some a),.int .i64 o.st,.int .i64 o.sr,.int .i64 o.k,.int .i64 o.pt,.int .i64 o.pr,.int .i64 o.it,.int .i64 o.ir,.int .i64 o.tt,.int .i64 o.tr,.string o.name,.string o.new,.int .i64 o.off,.string o.data]] W fun e w'=>e = .returned (.tuple #[])∧DX H w W0 w' N a (madeA g o) [(W0.heap.size,.cells (opA o) 26)]):=Lib.hid fun W hW=>hW.did (change_code H XH w W _ a g o hW.gx hf hw ho)
  have hdo : doA g o = (madeA g o,0):=by unfold doA; rw [if_pos hw]
  rw [hdo]
  rw [hw] at HW
  clear hdo hw hf ho h
  unfold opA
  go_enter Tryz.func33,Tryz.ntmps33
  go_upto_region 1 with fail
  change Code.wp _ _ _ _ (W0.alloc (.cells (opA o) 26))
  generalize W0.alloc (.cells (opA o) 26) = w0 at hD0 i0 ⊢
  obtain ⟨e0,e1,e2,e3,e4,e5,e6,e7,e8,e9,e10,e11,e12⟩:=op_cells (o:=o) (g:=W0.heap.size) (hD0.at 0 rfl)
  go_wp2_with fail
  refine (HW.out _ hD0).mono ?_
  rintro e w1 ⟨rfl,hD1⟩
  clear hD0 i0 HW e0 e1 e2 e3 e4 e5 e6 e7 e8 e9 e10 e11 e12
  obtain ⟨e0,e1,e2,e3,e4,e5,e6,e7,e8,e9,e10,e11,e12⟩:=op_cells (o:=o) (g:=W0.heap.size) (hD1.at 0 rfl)
  go_wp2_with fail
  refine (HC.out _ hD1).mono ?_
  rintro e w2 ⟨rfl,hD2⟩
  go_wp2_with fail
  go_ret
  exact ⟨rfl,hD2.fin⟩
 ·have hdo : doA g o = (g,whyA g o):=by unfold doA; rw [if_neg hw]
  rw [hdo]
  have hz : (whyA g o == 0) = false:=beq_eq_false_iff_ne.2 hw
  generalize whyA g o = bad at HW hz ⊢
  clear hdo hf ho h hw
  unfold opA
  go_enter Tryz.func33,Tryz.ntmps33
  go_upto_region 1 with fail
  change Code.wp _ _ _ _ (W0.alloc (.cells (opA o) 26))
  generalize W0.alloc (.cells (opA o) 26) = w0 at hD0 i0 ⊢
  obtain ⟨e0,e1,e2,e3,e4,e5,e6,e7,e8,e9,e10,e11,e12⟩:=op_cells (o:=o) (g:=W0.heap.size) (hD0.at 0 rfl)
  go_wp2_with fail
  refine (HW.out _ hD0).mono ?_
  rintro e w1 ⟨rfl,hD1⟩
  go_wp2_with fail
  go_ret
  exact ⟨rfl,hD1.fin⟩

set_option maxRecDepth 100000 in
theorem do_nil (o : Opn) (w : World) :
  Calls Tryz.prog 33 #[.pointer none,.agg (opA o)] w fun e w'=>e = .returned (.int .i64 1)∧Below w.heap.size w w':=by
 have HW : Hid (∀ W : World,Calls Tryz.prog 32 #[.pointer none,.agg #[.int .i64 o.st,.int .i64 o.sr,.int .i64 o.k,.int .i64 o.pt,.int .i64 o.pr,.int .i64 o.it,.int .i64 o.ir,.int .i64 o.tt,.int .i64 o.tr,.string o.name,.string o.new,.int .i64 o.off,.string o.data]] W fun e w'=>e = .returned (.int .i64 1)∧Below W.heap.size W w'):=Lib.hid (whyNil o)
 have hb0 : Below w.heap.size w (w.alloc (.cells (opA o) 26)):=(Below.refl _ _).alloc (Nat.le_refl _) _
 unfold opA at hb0 ⊢
 go_enter Tryz.func33,Tryz.ntmps33
 go_wp2_with fail
 refine (HW.out _).mono ?_
 rintro e w1 ⟨rfl,hb1⟩
 have hb2:=below_step hb0 hb1
 go_wp2_with fail
 go_ret
 exact ⟨rfl,hb2⟩

end Go.Proofs.YtdobeghbkonimaaGreatDoor

namespace Go.Proofs.YtdobeghbkonimaaGreatDoor
open Go.RowKit StampMath GraphMath

def stV (x : St) : Value:=.agg (stA x)

theorem stV_inj (x y : St) (h : stV x = stV y) : x = y:=by
 unfold stV stA at h
 simp at h
 exact Prod.ext h.1 h.2

theorem checkKey_st (w : World) (em : Bool) (n : Nat) (x : St) : (Instr.checkKey em (n + 2) 24 (.agg (stA x))).run Tryz.prog w = .ok () w:=by
 refine checkKey_struct (n:=n + 1) Tryz.underlying24 w em (stA x) fun f hf=>?_
 simp at hf
 rcases hf with rfl | rfl
 ·exact ⟨by decide,.int .i64 x.1,by unfold stA; go_simp,checkKey_int Tryz.underlying2 w em n x.1⟩
 ·exact ⟨by decide,.int .i64 x.2,by unfold stA; go_simp,checkKey_int Tryz.underlying3 w em n x.2⟩

theorem stShape : KShape Tryz.prog 24 stV :=
 KShape.of_equal (by kernel_rfl) stV_inj (fun w x y=>run_eqSt x.1 x.2 y.1 y.2 w) (fun w em x=>checkKey_st w em 9998 x) (fun x=>by
  unfold stV stA
  show Instr.sameBits (9999 + 1) _ _ = true
  simp [Instr.sameBits])

end Go.Proofs.YtdobeghbkonimaaGreatDoor

namespace Go.Proofs.YtdobeghbkonimaaGreatDoor
open Go.RowKit StampMath GraphMath

def inoV (x : Ino) : Value:=.agg (inoA x)
def plV (p : St × ByteArray) : Value:=.agg #[.int .i64 p.1.1,.int .i64 p.1.2,.string p.2]

theorem plV_inj (x y : St × ByteArray) (h : plV x = plV y) : x = y:=by
 unfold plV at h
 simp at h
 exact Prod.ext (Prod.ext h.1 h.2.1) h.2.2

theorem run_eqPl (a b : Int) (s : ByteArray) (c d : Int) (u : ByteArray) (W : World) : (Op.equalIn 10000 97 (.agg #[.int .i64 a,.int .i64 b,.string s]) (.agg #[.int .i64 c,.int .i64 d,.string u])).run Tryz.prog W = .ok (decide (((a,b),s) = ((c,d),u))) W:=by
 go_simp
 by_cases h1 : a = c
 ·by_cases h2 : b = d
  ·by_cases h3 : s = u
   ·simp [h1,h2,h3]
   ·simp [h1,h2,h3]
    intro h4
    exact h3 (bytes_same h4)
  ·simp [h1,h2]
 ·simp [h1]

theorem checkKey_pl (w : World) (em : Bool) (n : Nat) (p : St × ByteArray) : (Instr.checkKey em (n + 3) 97 (plV p)).run Tryz.prog w = .ok () w:=by
 refine checkKey_struct (n:=n + 2) Tryz.underlying97 w em _ fun f hf=>?_
 simp at hf
 rcases hf with rfl | rfl
 ·exact ⟨by decide,.agg (stA p.1),by unfold stA; go_simp,checkKey_st w em n p.1⟩
 ·exact ⟨by decide,.string p.2,by go_simp,checkKey_string Tryz.underlying9 w em (n + 1) p.2⟩

theorem plShape : KShape Tryz.prog 97 plV :=
 KShape.of_equal (by kernel_rfl) plV_inj (fun w x y=>run_eqPl x.1.1 x.1.2 x.2 y.1.1 y.1.2 y.2 w) (fun w em x=>checkKey_pl w em 9997 x) (fun x=>by
  unfold plV
  show Instr.sameBits (9999 + 1) _ _ = true
  simp [Instr.sameBits,MapKept.bytes_beq])

end Go.Proofs.YtdobeghbkonimaaGreatDoor

namespace Go.Proofs.YtdobeghbkonimaaGreatDoor
open Go.RowKit StampMath GraphMath

def GIn (W : World) (S : Nat→Prop) (a : Addr) (g : Gr) : Prop :=
 ∃ b bi be,a = ⟨b,0,none⟩∧b ≠ bi∧b ≠ be∧bi ≠ be∧W.heap[b]? = some (.cells #[.map (some bi),.map (some be)] 85 (0,0)) ∧
  KMap stV inoV W bi (pairsI g)∧KMap plV stV W be (pairsE g)∧∀ i,S i ↔ i = b∨i = bi∨i = be

theorem GIn.lt {W : World} {S : Nat→Prop} {a : Addr} {g : Gr} (h : GIn W S a g) : ∀ i,S i→i < W.heap.size:=by
 obtain ⟨b,bi,be,rfl,_,_,_,hb,hi,he,hS⟩:=h
 intro i hs
 rcases (hS i).1 hs with rfl | rfl | rfl
 ·exact heap_lt hb
 ·exact hi.lt
 ·exact he.lt

theorem GIn.keep {W W' : World} {S : Nat→Prop} {a : Addr} {g : Gr} (h : GIn W S a g) (hk : ∀ i,S i→W'.heap[i]? = W.heap[i]?) : GIn W' S a g:=by
 obtain ⟨b,bi,be,rfl,h1,h2,h3,hb,hi,he,hS⟩:=h
 exact ⟨b,bi,be,rfl,h1,h2,h3,(hk b ((hS b).2 (.inl rfl))).trans hb,hi.kept (hk bi ((hS bi).2 (.inr (.inl rfl)))),he.kept (hk be ((hS be).2 (.inr (.inr rfl)))),hS⟩

theorem zeroIno (w : World) : (zeroValue 59).run Tryz.prog w = .ok (inoV noIno) w:=by kernel_rfl
theorem zeroSt (w : World) : (zeroValue 24).run Tryz.prog w = .ok (stV (0,0)) w:=by kernel_rfl

theorem root_any (w : World) : Calls Tryz.prog 62 #[] w fun e w'=>e = .returned (.agg #[.int .i64 0,.int .i64 0])∧Below w.heap.size w w':=by
 go_enter Tryz.func62,Tryz.ntmps62
 go_wp2_with fail
 obtain ⟨z0,z1⟩:=two_cells (heap_alloc_new w (.cells #[.int .i64 0,.int .i64 0] 24))
 exact bodyPost_ret (v:=.agg #[.int .i64 0,.int .i64 0]) (by simp [results,Tryz.results62,go_sem,z0,z1]) rfl ⟨rfl,(Below.refl _ _).alloc (Nat.le_refl _) _⟩

set_option maxRecDepth 100000 in
theorem get_code (a : Addr) (S : Nat→Prop) (g : Gr) (id : St) (w : World) (h : GIn w S a g) (hg : g.ok) :
  Calls Tryz.prog 35 #[.pointer (some a),.agg (stA id)] w fun e w'=>e = .returned (.tuple #[.agg (inoA ((getG g id).getD noIno)),.bool (getG g id).isSome])∧Below w.heap.size w w':=by
 obtain ⟨b,bi,be,rfl,h1,h2,h3,hb,hi,he,hS⟩:=h
 obtain ⟨c0,c1⟩:=two_cells hb
 obtain ⟨ok,hok⟩ : ∃ ok,ok = (getG g id).isSome:=⟨_,rfl⟩
 obtain ⟨v,hv⟩ : ∃ v,v = (getG g id).getD noIno:=⟨_,rfl⟩
 rw [← hok,← hv]
 have hlook : ∀ W : World,Hid (Below w.heap.size w W)→(Instr.lookup 82 (.map (some bi)) (.agg #[.int .i64 id.1,.int .i64 id.2]) true).run Tryz.prog W = .ok (.tuple #[.agg #[.int .i64 v.id.1,.int .i64 v.id.2,.int .i64 v.kind,.int .i64 v.links,.int .i64 v.mode,.string v.data],.bool ok]) W:=fun W hW=>by
  have hl:=(hi.kept (hW.out.block bi hi.lt)).look stShape Tryz.underlying82 (zeroIno W) id true
  rw [look_pairsI hg,if_pos rfl,show ((getG g id).map inoV).getD (inoV noIno) = inoV v by rw [hv]; cases getG g id <;> rfl,← hok] at hl
  exact hl
 have hlt:=heap_lt hb
 have HL:=Lib.hid hlook
 clear hi he hb hS hlook hok hv
 unfold stA
 go_enter Tryz.func35,Tryz.ntmps35
 go_wp2_with fail
 have hbW : Below w.heap.size w ((w.alloc (.cells #[.int .i64 id.1,.int .i64 id.2] 24)).alloc (.cells #[.int .i64 0,.int .i64 0,.int .i64 0,.int .i64 0,.int .i64 0,.string ⟨#[]⟩] 59)):=((Below.refl _ _).alloc (Nat.le_refl _) _).alloc (by simp) _
 have hb1:=(hbW.alloc hbW.size (.cells #[.int .i64 0,.int .i64 0,.int .i64 0,.int .i64 0,.int .i64 0,.string ⟨#[]⟩] 59)).drew
 have d0:=(hb1.cell (p:=⟨b,0,none⟩) hlt).trans c0
 have hl:=HL.out _ hb1
 have c0w:=(hbW.cell (p:=⟨b,0,none⟩) hlt).trans c0
 have hl0:=HL.out _ hbW.drew
 have HB:=Lib.hid hbW
 clear hbW hb1
 go_region
 all_goals clear d0 hl c0w hl0
 all_goals go_wp2_with fail
 all_goals exact bodyPost_ret (v:=.tuple #[.agg (inoA v),.bool ok]) (by simp [results,Tryz.results35,go_sem,inoA]) rfl ⟨rfl,by
  repeat (first | exact Below.refl _ _ | apply Below.drew | refine Below.alloc ?_ (by simp <;> omega) _)⟩

end Go.Proofs.YtdobeghbkonimaaGreatDoor

namespace Go.Proofs.YtdobeghbkonimaaGreatDoor
open Go.RowKit StampMath GraphMath

theorem nanStr (s : ByteArray) (w : World) : Calls Tryz.prog 194 #[.string s] w fun e w'=>e = .returned (.bool false)∧w = w':=by
 go_enter Tryz.func194,Tryz.ntmps194
 go_wp2_with fail
 go_ret
 exact ⟨by simp,rfl⟩

set_option maxHeartbeats 400000 in
theorem compareStr (x y : ByteArray) (w : World) : Calls Tryz.prog 136 #[.string x,.string y] w fun e w'=>e = .returned (.int .i64 (cmpB x.data.toList y.data.toList))∧w = w':=by
 have hcase : (Op.bytesLess x.toList y.toList = true∧cmpB x.data.toList y.data.toList = -1)∨(Op.bytesLess x.toList y.toList = false∧(x.toList == y.toList) = true∧cmpB x.data.toList y.data.toList = 0)∨(Op.bytesLess x.toList y.toList = false∧(x.toList == y.toList) = false∧cmpB x.data.toList y.data.toList = 1):=by
  rw [namesLess_eq,ByteArray.toList_eq,ByteArray.toList_eq]
  unfold cmpB
  by_cases h1 : x.data.toList < y.data.toList
  ·exact Or.inl ⟨decide_eq_true h1,by rw [if_pos h1]⟩
  ·by_cases h2 : x.data.toList = y.data.toList
   ·exact Or.inr (Or.inl ⟨decide_eq_false h1,beq_iff_eq.2 h2,by rw [if_neg h1,if_pos h2]⟩)
   ·exact Or.inr (Or.inr ⟨decide_eq_false h1,beq_eq_false_iff_ne.2 h2,by rw [if_neg h1,if_neg h2]⟩)
 rcases hcase with ⟨h1,h⟩ | ⟨h1,h2,h⟩ | ⟨h1,h2,h⟩
 all_goals
  rw [h]
  clear h
  go_enter Tryz.func136,Tryz.ntmps136
  go_wp2_with fail
  refine (nanStr _ _).mono ?_
  rintro e w' ⟨rfl,rfl⟩
  go_wp2_with fail
  refine (nanStr _ _).mono ?_
  rintro e w' ⟨rfl,rfl⟩
  go_wp2_with fail
  go_ret
  exact ⟨rfl,rfl⟩

theorem cells6_alloc {w W : World} {a b c d a' b' : Addr} {u v x y z t : Value} (o : Obj) (h : (W.cell? a = some u∧W.cell? b = some v∧W.cell? c = some x∧W.cell? d = some y∧W.cell? a' = some z∧W.cell? b' = some t)∧Grown w W) :
  ((W.alloc o).cell? a = some u∧(W.alloc o).cell? b = some v∧(W.alloc o).cell? c = some x∧(W.alloc o).cell? d = some y∧(W.alloc o).cell? a' = some z∧(W.alloc o).cell? b' = some t)∧Grown w (W.alloc o) :=
 ⟨⟨cell_alloc h.1.1,cell_alloc h.1.2.1,cell_alloc h.1.2.2.1,cell_alloc h.1.2.2.2.1,cell_alloc h.1.2.2.2.2.1,cell_alloc h.1.2.2.2.2.2⟩,h.2.alloc o⟩

theorem cells6_later {w W W' : World} {a b c d a' b' : Addr} {u v x y z t : Value} (hg : Grown W W') (h : (W.cell? a = some u∧W.cell? b = some v∧W.cell? c = some x∧W.cell? d = some y∧W.cell? a' = some z∧W.cell? b' = some t)∧Grown w W) :
  (W'.cell? a = some u∧W'.cell? b = some v∧W'.cell? c = some x∧W'.cell? d = some y∧W'.cell? a' = some z∧W'.cell? b' = some t)∧Grown w W' :=
 ⟨⟨cell_later hg.1 h.1.1,cell_later hg.1 h.1.2.1,cell_later hg.1 h.1.2.2.1,cell_later hg.1 h.1.2.2.2.1,cell_later hg.1 h.1.2.2.2.2.1,cell_later hg.1 h.1.2.2.2.2.2⟩,h.2.trans hg⟩

theorem cell_two (w : World) (a b : Value) (T : TypeId) :
  (w.alloc (.cells #[a,b] T)).cell? ⟨w.heap.size,0,none⟩ = some a∧(w.alloc (.cells #[a,b] T)).cell? ⟨w.heap.size,1,none⟩ = some b :=
 ⟨cell_of_row _ _ 0 _ _ (0,0) (heap_alloc_new w _),cell_of_row _ _ 1 _ _ (0,0) (heap_alloc_new w _)⟩

end Go.Proofs.YtdobeghbkonimaaGreatDoor

namespace Go.Proofs.YtdobeghbkonimaaGreatDoor
open Go.RowKit StampMath GraphMath

set_option maxRecDepth 100000 in
set_option maxHeartbeats 1600000 in
theorem ahead_grown (x y : Ent) (w : World) :
    Calls Tryz.prog 90 #[.agg (entA x), .agg (entA y)] w fun e w' => e = .returned (.int .i64 (aheadI x y)) ∧ Grown w w' := by
  have hv : or2 (cmp x.dir.1 x.dir.2 y.dir.1 y.dir.2) (cmpB x.name.data.toList y.name.data.toList) = aheadI x y := rfl
  obtain ⟨⟨xd1, xd2⟩, xn, ⟨xi1, xi2⟩⟩ := x
  obtain ⟨⟨yd1, yd2⟩, yn, ⟨yi1, yi2⟩⟩ := y
  unfold entA
  obtain ⟨c, hc⟩ : ∃ c, c = cmp xd1 xd2 yd1 yd2 := ⟨_, rfl⟩
  obtain ⟨k, hk⟩ : ∃ k, k = cmpB xn.data.toList yn.data.toList := ⟨_, rfl⟩
  simp only [← hc, ← hk] at hv
  have HC : Hid (∀ W : World, Calls Tryz.prog 40 #[.agg #[.int .i64 xd1, .int .i64 xd2], .agg #[.int .i64 yd1, .int .i64 yd2]] W fun e w' => e = .returned (.int .i64 c) ∧ Grown W w') := fun W => by rw [hc]; exact compare_grown _ _ _ _ W
  have HK : Hid (∀ W : World, Calls Tryz.prog 136 #[.string xn, .string yn] W fun e w' => e = .returned (.int .i64 k) ∧ W = w') := fun W => by rw [hk]; exact compareStr _ _ W
  have HV := Lib.hid hv
  clear hv hc hk
  go_enter Tryz.func90, Tryz.ntmps90
  go_wp2_with fail
  have hS0 : (((w.alloc (.cells #[.int .i64 xd1, .int .i64 xd2, .string xn, .int .i64 xi1, .int .i64 xi2] 89)).alloc (.cells #[.int .i64 yd1, .int .i64 yd2, .string yn, .int .i64 yi1, .int .i64 yi2] 89)).drew.cell? ⟨w.heap.size, 0, none⟩ = some (.int .i64 xd1) ∧ ((w.alloc (.cells #[.int .i64 xd1, .int .i64 xd2, .string xn, .int .i64 xi1, .int .i64 xi2] 89)).alloc (.cells #[.int .i64 yd1, .int .i64 yd2, .string yn, .int .i64 yi1, .int .i64 yi2] 89)).drew.cell? ⟨w.heap.size, 1, none⟩ = some (.int .i64 xd2) ∧ ((w.alloc (.cells #[.int .i64 xd1, .int .i64 xd2, .string xn, .int .i64 xi1, .int .i64 xi2] 89)).alloc (.cells #[.int .i64 yd1, .int .i64 yd2, .string yn, .int .i64 yi1, .int .i64 yi2] 89)).drew.cell? ⟨w.heap.size, 2, none⟩ = some (.string xn) ∧ ((w.alloc (.cells #[.int .i64 xd1, .int .i64 xd2, .string xn, .int .i64 xi1, .int .i64 xi2] 89)).alloc (.cells #[.int .i64 yd1, .int .i64 yd2, .string yn, .int .i64 yi1, .int .i64 yi2] 89)).drew.cell? ⟨w.heap.size + 1, 0, none⟩ = some (.int .i64 yd1) ∧ ((w.alloc (.cells #[.int .i64 xd1, .int .i64 xd2, .string xn, .int .i64 xi1, .int .i64 xi2] 89)).alloc (.cells #[.int .i64 yd1, .int .i64 yd2, .string yn, .int .i64 yi1, .int .i64 yi2] 89)).drew.cell? ⟨w.heap.size + 1, 1, none⟩ = some (.int .i64 yd2) ∧ ((w.alloc (.cells #[.int .i64 xd1, .int .i64 xd2, .string xn, .int .i64 xi1, .int .i64 xi2] 89)).alloc (.cells #[.int .i64 yd1, .int .i64 yd2, .string yn, .int .i64 yi1, .int .i64 yi2] 89)).drew.cell? ⟨w.heap.size + 1, 2, none⟩ = some (.string yn)) ∧ Grown w ((w.alloc (.cells #[.int .i64 xd1, .int .i64 xd2, .string xn, .int .i64 xi1, .int .i64 xi2] 89)).alloc (.cells #[.int .i64 yd1, .int .i64 yd2, .string yn, .int .i64 yi1, .int .i64 yi2] 89)).drew := by
    refine ⟨⟨?_, ?_, ?_, ?_, ?_, ?_⟩, (((Grown.refl _).alloc _).alloc _).drew⟩
    · exact cell_of_row _ _ 0 _ _ (0, 0) (heap_alloc2_old w _ _)
    · exact cell_of_row _ _ 1 _ _ (0, 0) (heap_alloc2_old w _ _)
    · exact cell_of_row _ _ 2 _ _ (0, 0) (heap_alloc2_old w _ _)
    · exact cell_of_row _ _ 0 _ _ (0, 0) (heap_alloc2_new w _ _)
    · exact cell_of_row _ _ 1 _ _ (0, 0) (heap_alloc2_new w _ _)
    · exact cell_of_row _ _ 2 _ _ (0, 0) (heap_alloc2_new w _ _)
  go_region_held3 (fun W => (W.cell? ⟨w.heap.size, 0, none⟩ = some (.int .i64 xd1) ∧ W.cell? ⟨w.heap.size, 1, none⟩ = some (.int .i64 xd2) ∧ W.cell? ⟨w.heap.size, 2, none⟩ = some (.string xn) ∧ W.cell? ⟨w.heap.size + 1, 0, none⟩ = some (.int .i64 yd1) ∧ W.cell? ⟨w.heap.size + 1, 1, none⟩ = some (.int .i64 yd2) ∧ W.cell? ⟨w.heap.size + 1, 2, none⟩ = some (.string yn)) ∧ Grown w W) (first | assumption | exact cells6_alloc _ (by assumption) | (refine ⟨⟨?_, ?_, ?_, ?_, ?_, ?_⟩, ?_⟩ <;> assumption))
    (first
      | (go_at_call 40; (with_reducible refine (HC.out _).mono ?_); rintro e w' ⟨rfl, hg⟩; have hS := cells6_later hg ‹(_ ∧ _ ∧ _ ∧ _ ∧ _ ∧ _) ∧ Grown w _›)
      | (go_at_call 136; (with_reducible refine (HK.out _).mono ?_); rintro e w' ⟨rfl, rfl⟩; have hS := ‹(_ ∧ _ ∧ _ ∧ _ ∧ _ ∧ _) ∧ Grown w _›)
      | (go_at_call 68; refine (or_any _ c k _ ?_ ?_).mono ?_; exact (cell_two _ _ _ _).1; exact (cell_two _ _ _ _).2; rintro e w' ⟨rfl, rfl⟩; have hS := ‹(_ ∧ _ ∧ _ ∧ _ ∧ _ ∧ _) ∧ Grown w _›))
  have hB := (show Grown w _ from And.right ‹(_ ∧ _ ∧ _ ∧ _ ∧ _ ∧ _) ∧ Grown w _›)
  clear hS0
  go_wp2_with fail
  go_ret
  exact ⟨by rw [← HV.out]; rfl, hB⟩

end Go.Proofs.YtdobeghbkonimaaGreatDoor

namespace Go.Proofs
open Go.Shelf
def Tryz.sortIno_ren : Go.Shelf.Ren:=⟨fun | 6=>86 | 15=>134 | 14=>133 | 28=>184 | 29=>185 | 20=>176 | 21=>177 | 22=>178 | 23=>179 | 24=>180 | 25=>181 | 26=>182 | 27=>183 | 46=>205 | 47=>206 | 48=>207 | 49=>208 | 50=>209 | 57=>215 | n=>n,fun | 22=>34 | 24=>59 | 25=>86 | 3=>3 | 39=>124 | 0=>0 | 53=>196 | 55=>198 | 4=>4 | 46=>189 | 45=>188 | 50=>193 | 5=>5 | 9=>9 | 66=>214 | 70=>218 | 76=>222 | 77=>223 | n=>n,fun | n=>n⟩
theorem Tryz.sortIno : Go.Proofs.SlLaysF0.n6 Tryz.prog Tryz.sortIno_ren:={
 mixed:=by kernel_rfl
 f6:=⟨Tryz.f86.name,by decide,Tryz.func86.trans (congrArg some (by kernel_rfl))⟩
 f14:=⟨Tryz.f133.name,by decide,Tryz.func133.trans (congrArg some (by kernel_rfl))⟩
 f15:=Tryz.func134.trans (congrArg some (by kernel_rfl))
 f20:=⟨Tryz.f176.name,by decide,Tryz.func176.trans (congrArg some (by kernel_rfl))⟩
 f21:=⟨Tryz.f177.name,by decide,Tryz.func177.trans (congrArg some (by kernel_rfl))⟩
 f22:=⟨Tryz.f178.name,by decide,Tryz.func178.trans (congrArg some (by kernel_rfl))⟩
 f23:=⟨Tryz.f179.name,by decide,Tryz.func179.trans (congrArg some (by kernel_rfl))⟩
 f24:=⟨Tryz.f180.name,by decide,Tryz.func180.trans (congrArg some (by kernel_rfl))⟩
 f25:=⟨Tryz.f181.name,by decide,Tryz.func181.trans (congrArg some (by kernel_rfl))⟩
 f26:=⟨Tryz.f182.name,by decide,Tryz.func182.trans (congrArg some (by kernel_rfl))⟩
 f27:=⟨Tryz.f183.name,by decide,Tryz.func183.trans (congrArg some (by kernel_rfl))⟩
 f28:=Tryz.func184.trans (congrArg some (by kernel_rfl))
 f29:=Tryz.func185.trans (congrArg some (by kernel_rfl))
 f46:=⟨Tryz.f205.name,by decide,Tryz.func205.trans (congrArg some (by kernel_rfl))⟩
 f47:=Tryz.func206.trans (congrArg some (by kernel_rfl))
 f48:=Tryz.func207.trans (congrArg some (by kernel_rfl))
 f49:=⟨Tryz.f208.name,by decide,Tryz.func208.trans (congrArg some (by kernel_rfl))⟩
 f50:=⟨Tryz.f209.name,by decide,Tryz.func209.trans (congrArg some (by kernel_rfl))⟩
 f57:=⟨Tryz.f215.name,by decide,Tryz.func215.trans (congrArg some (by kernel_rfl))⟩
 t0:=Tryz.underlying0
 a0:=Tryz.isAgg0
 z0:=Tryz.sizeOf0
 v0:=Tryz.zeroValue0
 t3:=Tryz.underlying3
 a3:=Tryz.isAgg3
 z3:=Tryz.sizeOf3
 v3:=Tryz.zeroValue3
 t4:=Tryz.underlying4
 a4:=Tryz.isAgg4
 z4:=Tryz.sizeOf4
 v4:=Tryz.zeroValue4
 t5:=Tryz.underlying5
 a5:=Tryz.isAgg5
 z5:=Tryz.sizeOf5
 v5:=Tryz.zeroValue5
 t9:=Tryz.underlying9
 a9:=Tryz.isAgg9
 z9:=Tryz.sizeOf9
 v9:=Tryz.zeroValue9
 t22:=Tryz.underlying34
 a22:=Tryz.isAgg34
 z22:=Tryz.sizeOf34
 v22:=Tryz.zeroValue34
 t25:=Tryz.underlying86
 a25:=Tryz.isAgg86
 z25:=Tryz.sizeOf86
 v25:=Tryz.zeroValue86
 t39:=Tryz.underlying124
 a39:=Tryz.isAgg124
 z39:=Tryz.sizeOf124
 v39:=Tryz.zeroValue124
 t45:=Tryz.underlying188
 a45:=Tryz.isAgg188
 z45:=Tryz.sizeOf188
 v45:=Tryz.zeroValue188
 t46:=Tryz.underlying189
 a46:=Tryz.isAgg189
 z46:=Tryz.sizeOf189
 v46:=Tryz.zeroValue189
 t50:=Tryz.underlying193
 a50:=Tryz.isAgg193
 z50:=Tryz.sizeOf193
 v50:=Tryz.zeroValue193
 t53:=Tryz.underlying196
 a53:=Tryz.isAgg196
 z53:=Tryz.sizeOf196
 v53:=Tryz.zeroValue196
 t55:=Tryz.underlying198
 a55:=Tryz.isAgg198
 z55:=Tryz.sizeOf198
 v55:=Tryz.zeroValue198
 t66:=Tryz.underlying214
 a66:=Tryz.isAgg214
 z66:=Tryz.sizeOf214
 v66:=Tryz.zeroValue214
 t70:=Tryz.underlying218
 a70:=Tryz.isAgg218
 z70:=Tryz.sizeOf218
 v70:=Tryz.zeroValue218
 t76:=Tryz.underlying222
 a76:=Tryz.isAgg222
 z76:=Tryz.sizeOf222
 v76:=Tryz.zeroValue222
 t77:=Tryz.underlying223
 a77:=Tryz.isAgg223
 z77:=Tryz.sizeOf223
 v77:=Tryz.zeroValue223 }
def Tryz.sortEnt_ren : Go.Shelf.Ren:=⟨fun | 6=>89 | 15=>134 | 14=>135 | 28=>184 | 29=>185 | 20=>186 | 21=>187 | 22=>188 | 23=>189 | 24=>190 | 25=>191 | 26=>192 | 27=>193 | 46=>210 | 47=>206 | 48=>207 | 49=>211 | 50=>212 | 57=>216 | n=>n,fun | 22=>35 | 24=>89 | 25=>130 | 3=>3 | 39=>124 | 0=>0 | 53=>196 | 55=>198 | 4=>4 | 46=>189 | 45=>188 | 50=>193 | 5=>5 | 9=>9 | 66=>214 | 70=>218 | 76=>222 | 77=>223 | n=>n,fun | n=>n⟩
theorem Tryz.sortEnt : Go.Proofs.SlLaysF0.n6 Tryz.prog Tryz.sortEnt_ren:={
 mixed:=by kernel_rfl
 f6:=⟨Tryz.f89.name,by decide,Tryz.func89.trans (congrArg some (by kernel_rfl))⟩
 f14:=⟨Tryz.f135.name,by decide,Tryz.func135.trans (congrArg some (by kernel_rfl))⟩
 f15:=Tryz.func134.trans (congrArg some (by kernel_rfl))
 f20:=⟨Tryz.f186.name,by decide,Tryz.func186.trans (congrArg some (by kernel_rfl))⟩
 f21:=⟨Tryz.f187.name,by decide,Tryz.func187.trans (congrArg some (by kernel_rfl))⟩
 f22:=⟨Tryz.f188.name,by decide,Tryz.func188.trans (congrArg some (by kernel_rfl))⟩
 f23:=⟨Tryz.f189.name,by decide,Tryz.func189.trans (congrArg some (by kernel_rfl))⟩
 f24:=⟨Tryz.f190.name,by decide,Tryz.func190.trans (congrArg some (by kernel_rfl))⟩
 f25:=⟨Tryz.f191.name,by decide,Tryz.func191.trans (congrArg some (by kernel_rfl))⟩
 f26:=⟨Tryz.f192.name,by decide,Tryz.func192.trans (congrArg some (by kernel_rfl))⟩
 f27:=⟨Tryz.f193.name,by decide,Tryz.func193.trans (congrArg some (by kernel_rfl))⟩
 f28:=Tryz.func184.trans (congrArg some (by kernel_rfl))
 f29:=Tryz.func185.trans (congrArg some (by kernel_rfl))
 f46:=⟨Tryz.f210.name,by decide,Tryz.func210.trans (congrArg some (by kernel_rfl))⟩
 f47:=Tryz.func206.trans (congrArg some (by kernel_rfl))
 f48:=Tryz.func207.trans (congrArg some (by kernel_rfl))
 f49:=⟨Tryz.f211.name,by decide,Tryz.func211.trans (congrArg some (by kernel_rfl))⟩
 f50:=⟨Tryz.f212.name,by decide,Tryz.func212.trans (congrArg some (by kernel_rfl))⟩
 f57:=⟨Tryz.f216.name,by decide,Tryz.func216.trans (congrArg some (by kernel_rfl))⟩
 t0:=Tryz.underlying0
 a0:=Tryz.isAgg0
 z0:=Tryz.sizeOf0
 v0:=Tryz.zeroValue0
 t3:=Tryz.underlying3
 a3:=Tryz.isAgg3
 z3:=Tryz.sizeOf3
 v3:=Tryz.zeroValue3
 t4:=Tryz.underlying4
 a4:=Tryz.isAgg4
 z4:=Tryz.sizeOf4
 v4:=Tryz.zeroValue4
 t5:=Tryz.underlying5
 a5:=Tryz.isAgg5
 z5:=Tryz.sizeOf5
 v5:=Tryz.zeroValue5
 t9:=Tryz.underlying9
 a9:=Tryz.isAgg9
 z9:=Tryz.sizeOf9
 v9:=Tryz.zeroValue9
 t22:=Tryz.underlying35
 a22:=Tryz.isAgg35
 z22:=Tryz.sizeOf35
 v22:=Tryz.zeroValue35
 t25:=Tryz.underlying130
 a25:=Tryz.isAgg130
 z25:=Tryz.sizeOf130
 v25:=Tryz.zeroValue130
 t39:=Tryz.underlying124
 a39:=Tryz.isAgg124
 z39:=Tryz.sizeOf124
 v39:=Tryz.zeroValue124
 t45:=Tryz.underlying188
 a45:=Tryz.isAgg188
 z45:=Tryz.sizeOf188
 v45:=Tryz.zeroValue188
 t46:=Tryz.underlying189
 a46:=Tryz.isAgg189
 z46:=Tryz.sizeOf189
 v46:=Tryz.zeroValue189
 t50:=Tryz.underlying193
 a50:=Tryz.isAgg193
 z50:=Tryz.sizeOf193
 v50:=Tryz.zeroValue193
 t53:=Tryz.underlying196
 a53:=Tryz.isAgg196
 z53:=Tryz.sizeOf196
 v53:=Tryz.zeroValue196
 t55:=Tryz.underlying198
 a55:=Tryz.isAgg198
 z55:=Tryz.sizeOf198
 v55:=Tryz.zeroValue198
 t66:=Tryz.underlying214
 a66:=Tryz.isAgg214
 z66:=Tryz.sizeOf214
 v66:=Tryz.zeroValue214
 t70:=Tryz.underlying218
 a70:=Tryz.isAgg218
 z70:=Tryz.sizeOf218
 v70:=Tryz.zeroValue218
 t76:=Tryz.underlying222
 a76:=Tryz.isAgg222
 z76:=Tryz.sizeOf222
 v76:=Tryz.zeroValue222
 t77:=Tryz.underlying223
 a77:=Tryz.isAgg223
 z77:=Tryz.sizeOf223
 v77:=Tryz.zeroValue223 }
def Tryz.cloneIno_ren : Go.Shelf.Ren:=⟨fun | 5=>58 | 7=>99 | n=>n,fun | 23=>82 | 25=>24 | 3=>59 | 4=>4 | 20=>20 | n=>n,fun | n=>n⟩
theorem Tryz.cloneIno : Go.Proofs.SlLaysW.n5 Tryz.prog Tryz.cloneIno_ren:={
 mixed:=by kernel_rfl
 f5:=⟨Tryz.f58.name,by decide,Tryz.func58.trans (congrArg some (by kernel_rfl))⟩
 f7:=Tryz.func99.trans (congrArg some (by kernel_rfl))
 t4:=Tryz.underlying4
 a4:=Tryz.isAgg4
 z4:=Tryz.sizeOf4
 v4:=Tryz.zeroValue4
 t20:=Tryz.underlying20
 a20:=Tryz.isAgg20
 z20:=Tryz.sizeOf20
 v20:=Tryz.zeroValue20
 t23:=Tryz.underlying82
 a23:=Tryz.isAgg82
 z23:=Tryz.sizeOf82
 v23:=Tryz.zeroValue82 }
def Tryz.cloneEnt_ren : Go.Shelf.Ren:=⟨fun | 5=>59 | 7=>99 | n=>n,fun | 23=>83 | 25=>97 | 3=>24 | 4=>4 | 20=>20 | n=>n,fun | n=>n⟩
theorem Tryz.cloneEnt : Go.Proofs.SlLaysW.n5 Tryz.prog Tryz.cloneEnt_ren:={
 mixed:=by kernel_rfl
 f5:=⟨Tryz.f59.name,by decide,Tryz.func59.trans (congrArg some (by kernel_rfl))⟩
 f7:=Tryz.func99.trans (congrArg some (by kernel_rfl))
 t4:=Tryz.underlying4
 a4:=Tryz.isAgg4
 z4:=Tryz.sizeOf4
 v4:=Tryz.zeroValue4
 t20:=Tryz.underlying20
 a20:=Tryz.isAgg20
 z20:=Tryz.sizeOf20
 v20:=Tryz.zeroValue20
 t23:=Tryz.underlying83
 a23:=Tryz.isAgg83
 z23:=Tryz.sizeOf83
 v23:=Tryz.zeroValue83 }
end Go.Proofs

namespace Go.Proofs.YtdobeghbkonimaaGreatDoor
open Go.RowKit

theorem own_iter {w w' : World} {base r : Nat} {e : TypeId} {k : Nat} {v : Value} {n : Nat} {xs : List Value} (h : w.ownsRow base e k v n xs) (hb : But (fun i=>i = r) w w') (hr : r < base) : w'.ownsRow base e k v n xs :=
 h.kept (row:=some r) ⟨hb.os,hb.tape,hb.output,hb.size,fun i hi hn=>hb.block i hi fun q=>hn (by rw [q])⟩ (by
  cases hv : v.ownBlock with
  | none=>exact .inl rfl
  | some j=>exact .inr (fun q=>by have:=(h.lt j hv).1; injection q with q; omega))

theorem own_call {w w' : World} {base : Nat} {e : TypeId} {k : Nat} {v : Value} {n : Nat} {xs : List Value} (h : w.ownsRow base e k v n xs) (hb : Below w.heap.size w w') : w'.ownsRow base e k v n xs :=
 h.kept (row:=none) ⟨hb.os,hb.tape,hb.output,hb.size,fun i hi _=>hb.block i hi⟩ (by
  cases hv : v.ownBlock with
  | none=>exact .inl rfl
  | some j=>exact .inr (fun q=>by cases q))

theorem own_lower {w : World} {b b' : Nat} {e : TypeId} {k : Nat} {v : Value} {n : Nat} {xs : List Value} (h : w.ownsRow b e k v n xs) (hb : b'≤b) : w.ownsRow b' e k v n xs:=by
 obtain ⟨h0,h1 | ⟨g,cap,cur,h1,h2,h3⟩⟩:=h
 ·exact ⟨h0,Or.inl h1⟩
 ·exact ⟨h0,Or.inr ⟨g,cap,cur,h1,Nat.le_trans hb h2,h3⟩⟩

end Go.Proofs.YtdobeghbkonimaaGreatDoor

namespace Go.Proofs.YtdobeghbkonimaaGreatDoor
open Go.RowKit StampMath GraphMath

def entOf (p : (St × ByteArray) × St) : Ent:=⟨p.1.1,p.1.2,p.2⟩

theorem allClo (e : St) (W : World) :
  Calls Tryz.prog 56 #[.agg #[.int .i64 e.1,.int .i64 e.2]] W fun x W'=>x = .returned (.bool true)∧Below W.heap.size W W':=by
 go_enter Tryz.func56,Tryz.ntmps56
 go_wp2_with fail
 go_ret
 exact ⟨rfl,(Below.refl _ _).alloc (Nat.le_refl _) _⟩

set_option maxRecDepth 100000 in
set_option maxHeartbeats 1600000 in
theorem sortedAll_code (a : Addr) (S : Nat→Prop) (g : Gr) (q : St→Bool) (hq : ∀ x,q x = true) (w : World) (h : GIn w S a g) (hg : g.ok) :
  Calls Tryz.prog 55 #[.pointer (some a),.func (.func 56) #[] #[]] w (EntsNew (g.E.filter fun e=>q e.dir) w):=by
 have HC : Hid (∀ (e : St) (W : World),Below w.heap.size w W→Calls Tryz.prog 56 #[.agg #[.int .i64 e.1,.int .i64 e.2]] W fun x W'=>x = .returned (.bool (q e))∧Below W.heap.size W W'):=fun e W hW=>by rw [hq]; exact allClo e W
 clear hq
 obtain ⟨b,bi,be,rfl,h1,h2,h3,hb,hi,he,hS⟩:=h
 obtain ⟨c0,c1⟩:=two_cells hb
 obtain ⟨i0,hi0,hz0,hz1,hz2⟩:=info_parts ent_infos
 have HE:=Lib.hid he
 have hlt:=heap_lt hb
 have hltE:=he.lt
 clear hi he hb hS
 have hlen : Hid ((pairsE g).length≤1000):=by
  show (pairsE g).length≤1000
  unfold pairsE
  rw [List.length_map]
  exact Nat.le_trans hg.entsFew (by decide)
 have hgE:=Lib.hid (hg.sortE.filter fun e=>q e.dir)
 go_enter Tryz.func55,Tryz.ntmps55
 go_wp2_with (at_range; refine wpList_k_range (by rfl) _ _ (by rfl) Tryz.underlying83 be _ (by rfl) HE.out ?_; intro w1 HR1 HB1 HS1)
 go_frame
 go_loopg [5] ((pairsE g).length + 1) (fun gk l wr=>∃ (done todo : List ((St × ByteArray) × St)),gk = todo.length + 1∧Hid (KRange plV stV wr be w.heap.size (pairsE g) todo)∧Hid ((done ++ todo).Perm (pairsE g))∧wr.ownsRow (w.heap.size + 1) 89 5 l ((done.map entOf).filter fun e=>q e.dir).length (flat (((done.map entOf).filter fun e=>q e.dir).map entA))∧Hid (Below w.heap.size w wr)∧w.heap.size + 1≤wr.heap.size)
 case atStart=>exact ⟨[],pairsE g,rfl,HR1,List.Perm.refl _,World.ownsRow_nil _ _ _ _,HB1,by rw [HS1.out]; omega⟩
 case round =>
  obtain ⟨done,todo,rfl,hR,hP,hown,hB,hs1⟩:=hrel
  clear HR1 HB1 HS1
  go_wp2_with (refine wpList_k_next (by rfl) _ (by rfl) be w.heap.size _ _ (by rfl) hR.out ?_ ?_)
  ·intro h0
   have hdone : ((done.map entOf).filter fun e=>q e.dir).Perm (g.E.filter fun e=>q e.dir):=by
    refine List.Perm.filter _ ?_
    have h5:=hP.out
    rw [h0,List.append_nil] at h5
    have h6:=h5.map entOf
    unfold pairsE at h6
    rwa [List.map_map,show entOf ∘ (fun e : Ent=>((e.dir,e.name),e.ino)) = id from rfl,List.map_id] at h6
   have h1000 : ((done.map entOf).filter fun e=>q e.dir).length < 4611686018427387904:=by
    have h5:=hlen.out
    have h6:=hP.out.length_eq
    have h7:=List.length_filter_le (fun e : Ent=>q e.dir) (done.map entOf)
    simp only [List.length_append,List.length_map] at h6 h7
    omega
   generalize ((done.map entOf).filter fun e=>q e.dir) = fs at hdone h1000 hown ⊢
   have HD:=Lib.hid hdone
   clear hdone
   have hs:=sort_own (w:=wr) Tryz.sortEnt 5 Tryz.isAgg89 Tryz.sizeOf89 entA (fun _=>rfl) ent_one aheadI swo_ents 90 #[] (enters_of Tryz.func90 (by kernel_rfl) rfl)
    (fun W x y=>(ahead_grown x y W).mono fun _ _ h=>⟨h.1,h.2.grow⟩) (by simp) hown h1000
   change Calls Tryz.prog 89 _ _ _ at hs
   have hrow:=hown.lt
   clear hown
   have HS:=Lib.hid hs
   clear hs
   go_wp2_with fail
   refine (HS.out).mono ?_
   rintro e w2 ⟨rfl,ys,hp,hsd,hown2,hbut⟩
   have hys : ys = g.E.filter fun e=>q e.dir:=sorted_ents hgE.out (hp.trans HD.out) hsd
   have hl : fs.length = (g.E.filter fun e=>q e.dir).length:=HD.out.length_eq
   rw [hys,hl] at hown2
   clear hp hsd hys
   go_wp2_with fail
   go_ret
   refine ⟨_,rfl,?_,?_⟩
   ·exact own_lower hown2 (Nat.le_succ _)
   ·exact hB.out.trans (hbut.below (fun i hi=>Nat.le_of_succ_le (hrow i hi).1) (by omega))
  ·intro t r nm t' r' todo' w2 hp hR2 hB2 hs2 hen
   simp only [plV,stV,stA] at hen ⊢
   have hown2:=own_iter hown hB2.out (by omega)
   have h1000 : ((done.map entOf).filter fun e=>q e.dir).length≤1000:=by
    have h5:=hlen.out
    have h6:=hP.out.length_eq
    have h7:=List.length_filter_le (fun e : Ent=>q e.dir) (done.map entOf)
    simp only [List.length_append,List.length_map] at h6 h7
    omega
   have hfs : ∀ b : Bool,q (t,r) = b→((done ++ [(((t,r),nm),(t',r'))]).map entOf).filter (fun e=>q e.dir) = ((done.map entOf).filter fun e=>q e.dir) ++ (if b = true then [⟨(t,r),nm,(t',r')⟩] else []):=by
    intro b hb
    rw [List.map_append,List.filter_append]
    congr 1
    simp only [List.map_cons,List.map_nil,entOf,List.filter_cons,List.filter_nil,hb]
   have HF:=Lib.hid hfs
   clear hfs
   have e2 : Below w.heap.size wr w2:=hB2.out.below (fun i hi=>by omega) (by omega)
   have hb2:=hB.out.trans e2
   have hP2 : Hid ((done ++ [(((t,r),nm),(t',r'))] ++ todo').Perm (pairsE g)):=by
    have e1 : (done ++ todo).Perm (done ++ ((((t,r),nm),(t',r')) :: todo')):=hp.out.append_left _
    show (done ++ [(((t,r),nm),(t',r'))] ++ todo').Perm _
    rw [List.append_assoc]
    exact e1.symm.trans hP.out
   have hlen2:=hp.out.length_eq
   simp only [List.length_cons] at hlen2
   generalize ((done.map entOf).filter fun e=>q e.dir) = fs at hown2 h1000 HF
   have hm : fs.length + 1≤maxLen:=by unfold maxLen; omega
   have hs2' : w.heap.size + 1≤w2.heap.size:=by rw [hs2.out]; exact hs1
   clear hown hB hB2 hs2 hP hp hR e2
   go_upto_region 7 with fail
   obtain ⟨z,hz⟩ : ∃ z,z = w2.heap.size:=⟨_,rfl⟩
   have k0 : ((w2.alloc (.cells #[.int .i64 t,.int .i64 r,.string nm] 97)).alloc (.cells #[.int .i64 t',.int .i64 r'] 24)).heap[z]? = some (.cells #[.int .i64 t,.int .i64 r,.string nm] 97 (0,0)):=by rw [hz]; exact heap_alloc2_old w2 _ _
   have k1 : ((w2.alloc (.cells #[.int .i64 t,.int .i64 r,.string nm] 97)).alloc (.cells #[.int .i64 t',.int .i64 r'] 24)).heap[z + 1]? = some (.cells #[.int .i64 t',.int .i64 r'] 24 (0,0)):=by rw [hz]; exact heap_alloc2_new w2 _ _
   have hbA : Below w2.heap.size w2 ((w2.alloc (.cells #[.int .i64 t,.int .i64 r,.string nm] 97)).alloc (.cells #[.int .i64 t',.int .i64 r'] 24)):=((Below.refl _ _).alloc (Nat.le_refl _) _).alloc (by simp) _
   rw [← hz]
   generalize ((w2.alloc (.cells #[.int .i64 t,.int .i64 r,.string nm] 97)).alloc (.cells #[.int .i64 t',.int .i64 r'] 24)) = w3 at k0 k1 hbA ⊢
   have hz3:=hbA.size
   have hown3:=own_call hown2 hbA
   have hR3:=hR2.out.kept (hbA.block _ (by omega)) (hbA.block _ (by omega))
   have hb3:=below_step hb2 hbA
   clear hown2 hR2 hb2 hbA hen hz
   have x0:=cell_of_row _ _ 0 _ _ (0,0) k0
   have x1:=cell_of_row _ _ 1 _ _ (0,0) k0
   go_wp2_with fail
   refine (HC.out (t,r) w3 hb3).mono ?_
   rintro e w4 ⟨rfl,hb4⟩
   have l0:=(hb4.block _ (heap_lt k0)).trans k0
   have l1:=(hb4.block _ (heap_lt k1)).trans k1
   have hz4:=hb4.size
   have hown4:=own_call hown3 hb4
   have hR4:=hR3.kept (hb4.block _ (by omega)) (hb4.block _ (by omega))
   have hb5:=below_step hb3 hb4
   have HR4:=Lib.hid hR4
   have HB5:=Lib.hid hb5
   have HL0:=Lib.hid l0
   clear hown3 hR3 hb3 hb4 x0 x1 k0 k1 hR4 hb5
   obtain ⟨qb,hqb⟩ : ∃ qb,qb = q (t,r):=⟨_,rfl⟩
   have hF:=HF.out qb hqb.symm
   rw [← hqb]
   clear hqb HF
   cases qb with
   | false =>
    rw [if_neg (by decide),List.append_nil] at hF
    have HF:=Lib.hid hF
    clear hF
    go_wp2_with fail
    go_roundg (todo'.length + 1)
    case measure=>omega
    case rel=>exact ⟨done ++ [(((t,r),nm),(t',r'))],todo',rfl,HR4.out,hP2.out,by rw [HF.out]; exact hown4,HB5.out,by omega⟩
   | true =>
    rw [if_pos rfl] at hF
    have HF:=Lib.hid hF
    clear hF
    have x0:=cell_of_row _ _ 0 _ _ (0,0) HL0.out
    have x1:=cell_of_row _ _ 1 _ _ (0,0) HL0.out
    have x2:=cell_of_row _ _ 2 _ _ (0,0) HL0.out
    obtain ⟨y0,y1⟩:=two_cells l1
    have HW:=Lib.hid (row_there w4 89 (entA ⟨(t,r),nm,(t',r')⟩))
    go_wp2_with (at_builtin; refine wpList_append_own _ rfl (.tmp 24) (.tmp 31) 35 rfl (w.heap.size + 1) 89 i0 _ 5 48 Tryz.underlying35 hi0 hz0 hz1 hz2 rfl (by decide) _ _ _ rfl (hown4.alloc _) ⟨w4.heap.size,0,none⟩ 1 1 (entA ⟨(t,r),nm,(t',r')⟩).toList rfl rfl HW.out (ent_one _) hm (by omega) (by simp; omega) ?_; intro v2 w5 hown5 hg5 _)
    have hbw : Below (w.heap.size + 1) w4 w5:=(((Below.refl w4.heap.size w4).alloc (Nat.le_refl _) _).mono (by omega)).grown hg5 (by simp; omega) (fun j hj=>(hown4.lt j hj).1)
    go_roundg (todo'.length + 1)
    case measure=>omega
    case rel =>
     refine ⟨done ++ [(((t,r),nm),(t',r'))],todo',rfl,HR4.out.kept (hbw.block _ (by omega)) (hbw.block _ (by omega)),hP2.out,?_,HB5.out.trans (hbw.mono (by omega)),by have:=hbw.size; omega⟩
     rw [HF.out,List.length_append]
     show w5.ownsRow _ _ 5 v2 (fs.length + 1) _
     rw [← flat_ent]
     exact hown5

set_option maxRecDepth 100000 in
theorem entries_code (a : Addr) (S : Nat→Prop) (g : Gr) (w : World) (h : GIn w S a g) (hg : g.ok) :
  Calls Tryz.prog 27 #[.pointer (some a)] w (EntsNew g.E w):=by
 have hs:=sortedAll_code a S g (fun _=>true) (fun _=>rfl) w h hg
 rw [show (g.E.filter fun e=>(fun _ : St=>true) e.dir) = g.E from List.filter_eq_self.2 fun _ _=>rfl] at hs
 have HS:=Lib.hid hs
 clear h hs
 go_enter Tryz.func27,Tryz.ntmps27
 go_wp2_with fail
 refine (HS.out).mono ?_
 rintro e w2 ⟨v,rfl,hown,hb⟩
 go_wp2_with fail
 go_ret
 exact ⟨v,rfl,hown,hb⟩

end Go.Proofs.YtdobeghbkonimaaGreatDoor

namespace Go.Proofs.YtdobeghbkonimaaGreatDoor
open Go.RowKit

section
variable {K V : Type} {ek : K→Value} {ev : V→Value} {P : Program} {k e : TypeId}

theorem KRange.walks {w w' : World} {b r : Nat} {L todo : List (K × V)} (h : KRange ek ev w b r L todo) (hk : KeepsWalks w w') : KRange ek ev w' b r L todo:=by
 obtain ⟨es,clock,since,seen,c0,M,T,h1,h2,h3,h4,h5,rest⟩:=h
 exact ⟨es,clock,since,seen,c0,M,T,hk.same b _ h1 rfl,h2,h3,h4,hk.same r _ h5 rfl,rest⟩

theorem KRange.iter_walk {w : World} {b r : Nat} {L todo : List (K × V)} (h : KRange ek ev w b r L todo) : ∃ o : Obj,w.heap[r]? = some o∧o.isWalk = true:=by
 obtain ⟨es,clock,since,seen,c0,M,T,h1,h2,h3,h4,h5,rest⟩:=h
 exact ⟨_,h5,rfl⟩

theorem wpListIn_k_range {F : Fence} {n : Nat} {w : World} {ops : Array Oper} {rest : List Oper} {o : Oper} {a : Act} {Q : Exit→Act→World→Prop} (hg : o.guard = none) (m : Operand) (t : TypeId)
  (hop : o.op = Op.range t m) (ht : P.underlying t = some (.map k e)) (b : Nat) (L : List (K × V)) (hm : a.eval m = .map (some b)) (h : KMap ek ev w b L)
  (hK : ∀ w',Hid (KRange ek ev w' b w.heap.size L L)→Hid (Below w.heap.size w w')→Hid (w'.heap.size = w.heap.size + 1)→wpListIn F n P ops Q rest (a.put o.dst (.pointer (some ⟨w.heap.size,0,none⟩))) w') : wpListIn F n P ops Q (o :: rest) a w:=by
 refine wpListIn_plain hg fun K' hK'=>?_
 obtain ⟨w',hrun,r1,r2,r3⟩:=h.range (P:=P) ht
 unfold Oper.wpIn
 refine ⟨by simp [Oper.about,hop],?_⟩
 rw [Oper.semAt_plain F _ _ (by rw [hop]; intro c hc'; cases hc')]
 simp [execOp,hop,hm,hrun,Result.andThen]
 exact hK' _ _ (hK w' r1 r2 r3)

theorem wpListIn_k_next {F : Fence} {n : Nat} {w : World} {ops : Array Oper} {rest : List Oper} {o : Oper} {a : Act} {Q : Exit → Act → World → Prop} (hg : o.guard = none) (it : Operand) (hop : o.op = Op.next it false)
    (b r : Nat) (L todo : List (K × V)) (hit : a.eval it = .pointer (some ⟨r, 0, none⟩)) (h : KRange ek ev w b r L todo)
    (hDone : todo = [] → wpListIn F n P ops Q rest (a.put o.dst (.tuple #[.bool false])) w)
    (hMore : ∀ (p : K × V) (todo' : List (K × V)) (w' : World), Hid (todo.Perm (p :: todo')) → Hid (KRange ek ev w' b r L todo') → Hid (But (fun i => i = r) w w') → Hid (w'.heap.size = w.heap.size) →
      (Instr.entry (.pointer (some ⟨r, 0, none⟩))).run P w' = .ok (.tuple #[ek p.1, ev p.2]) w' → wpListIn F n P ops Q rest (a.put o.dst (.tuple #[.bool true, ek p.1, ev p.2])) w') :
    wpListIn F n P ops Q (o :: rest) a w := by
  refine wpListIn_plain hg fun K' hK' => ?_
  unfold Oper.wpIn
  refine ⟨by simp [Oper.about, hop], ?_⟩
  rw [Oper.semAt_plain F _ _ (by rw [hop]; intro c hc'; cases hc')]
  rcases h.next (P := P) o.type with ⟨h0, hrun⟩ | ⟨p, todo', w', hp, hrun, hr, hb, hs, hen⟩
  · simp [execOp, hop, hit, hrun, Result.andThen]
    exact hK' _ _ (hDone h0)
  · simp [execOp, hop, hit, hrun, Result.andThen]
    exact hK' _ _ (hMore p todo' w' hp hr hb hs hen)

end
end Go.Proofs.YtdobeghbkonimaaGreatDoor

namespace Go.Proofs.YtdobeghbkonimaaGreatDoor
open Go.RowKit StampMath GraphMath

attribute [local go_sem] Oper.semAt_some

abbrev handed (x : Ino) : Array Value:=#[.agg (inoA x)]

set_option maxHeartbeats 1000000 in
theorem values_code (b : Nat) (w : World) :
  Calls Tryz.prog 52 #[.map (some b)] w fun e w'=>e = .returned (.func (.func 87) #[] #[.pointer (some ⟨w.heap.size,0,none⟩)])∧w' = w.alloc (.cells #[.map (some b)] 82):=by
 go_enter Tryz.func52,Tryz.ntmps52
 go_wp2_with fail
 go_ret
 exact ⟨rfl,rfl⟩

set_option maxRecDepth 100000 in
set_option maxHeartbeats 2000000 in
theorem values_in (n : Nat) (hn : 1 ≤ n) (l Bm b : Nat) (L : List (St × Ino)) (J Jx : List Ino → World → Prop) (W0 : World) (hJ : AbidesFrom W0.heap.size J)
    (hY : ∀ pre x W, J pre W → pre.length < 1001 → YieldAt Fence.wide (n - 1) Tryz.prog l (handed x) W fun e W' =>
      (e = .returned (.bool true) ∧ J (pre ++ [x]) W' ∧ KeepsWalks W W') ∨ (e = .returned (.bool false) ∧ Jx (pre ++ [x]) W'))
    (hm : W0.cell? ⟨Bm, 0, none⟩ = some (.map (some b))) (hown : KMap stV inoV W0 b L) (hL : L.length ≤ 1000) (h0 : J [] W0) :
    CallsIn Fence.wide n Tryz.prog 87 #[.func (.yield l) #[] #[], .pointer (some ⟨Bm, 0, none⟩)] W0 fun e W' => (∃ v, e = .returned v) ∧
      ((∃ ys : List Ino, ys.Perm (L.map Prod.snd) ∧ J ys W') ∨ (∃ pre, True ∧ Jx pre W')) := by
  have HO := Lib.hid hown
  have HJ := Lib.hid hJ
  have HLn := Lib.hid hL
  clear hown hJ hL
  refine callsIn_of_wp Tryz.func87 rfl trivial ?_ rfl
  simp only [Tryz.ntmps87, List.size_toArray, List.length_cons, List.length_nil, Nat.reduceAdd, Nat.reduceSub, Array.replicate_succ, Array.replicate_zero, List.push_toArray, List.append_toArray, List.nil_append, List.cons_append]
  gi_wp2_with (gi_at_range; refine wpListIn_k_range (by rfl) _ _ (by rfl) Tryz.underlying82 b _ (by rfl) HO.out ?_; intro w1 HR1 HB1 HS1)
  go_frame
  gi_loopg [] (L.length + 1) (fun gk wr => ∃ (done todo : List (St × Ino)), gk = todo.length + 1 ∧ Hid (KRange stV inoV wr b W0.heap.size L todo) ∧ Hid ((done ++ todo).Perm L) ∧ Hid (J (done.map Prod.snd) wr))
  case atStart =>
    exact ⟨[], L, rfl, HR1, List.Perm.refl _, HJ.out [] W0 w1 none h0 ⟨HB1.out.os, HB1.out.tape, HB1.out.output, HB1.out.size, fun q hq _ => HB1.out.block q hq⟩ (fun r e => by cases e)⟩
  case round =>
    obtain ⟨done, todo, rfl, hR, hP, hJs⟩ := hrel
    clear HR1 HB1 HS1
    gi_wp2_with (gi_at_next; refine wpListIn_k_next (by rfl) _ (by rfl) b W0.heap.size _ _ (by rfl) hR.out ?_ ?_)
    · intro ht
      gi_wp2_with fail
      go_end0
      refine ⟨⟨_, rfl⟩, .inl ⟨done.map Prod.snd, ?_, hJs.out⟩⟩
      have h5 := hP.out
      rw [ht, List.append_nil] at h5
      exact h5.map _
    · intro t r x todo' w2 hp hR2 hB2 hs2 hen
      have hlen2 := hp.out.length_eq
      simp only [List.length_cons] at hlen2
      have hlen3 : done.length + todo.length = L.length := by have := hP.out.length_eq; rwa [List.length_append] at this
      have hJ2 : J (done.map Prod.snd) w2 := HJ.out _ wr w2 (some W0.heap.size) hJs.out ⟨hB2.out.os, hB2.out.tape, hB2.out.output, hB2.out.size, fun i hi hne => hB2.out.block i hi fun q => hne (by rw [q])⟩ (fun r e => by cases e; exact ⟨Nat.le_refl _, hR.out.iter_walk⟩)
      have hJ3 : J (done.map Prod.snd) (w2.alloc (.cells (inoA x) 59)) := HJ.out _ w2 _ none hJ2 (World.grownBy_alloc w2 _ none) (fun r e => by cases e)
      have hR3 : KRange stV inoV (w2.alloc (.cells (inoA x) 59)) b W0.heap.size L todo' := hR2.out.walks (KeepsWalks.alloc _ _)
      have HP2 : Hid ((done ++ [((t, r), x)] ++ todo').Perm L) := by
        have e1 : (done ++ todo).Perm (done ++ (((t, r), x) :: todo')) := hp.out.append_left _
        show (done ++ [((t, r), x)] ++ todo').Perm _
        rw [List.append_assoc]
        exact e1.symm.trans hP.out
      have HJm : Hid (∀ W, J (done.map Prod.snd ++ [x]) W → J ((done ++ [((t, r), x)]).map Prod.snd) W) := fun W h => by rw [List.map_append]; exact h
      have hy0 := hY (done.map Prod.snd) x (w2.alloc (.cells (inoA x) 59)) hJ3 (by rw [List.length_map]; have := HLn.out; omega)
      have HR3 := Lib.hid hR3
      have hJ3' := Lib.hid hJ3
      obtain ⟨⟨i1, i2⟩, xk, xl, xm, xd⟩ := x
      obtain ⟨fn, tmps, assign, body, hy, hRd⟩ := hy0
      simp only [stV, stA, inoV, inoA, handed] at hen hy ⊢
      have HRd := Lib.hid hRd
      clear hJ2 hJ3 hR3 hRd hR hP hB2 hs2 hR2 hp hJs
      gi_wp2_with fail
      refine HRd.out.mono ?_
      rintro e W3 (⟨rfl, hJ4, hk3⟩ | ⟨rfl, hJx3⟩)
      · have hR4 := HR3.out.walks hk3
        clear hy
        gi_wp2_with fail
        gi_roundg (todo'.length + 1)
        case measure => omega
        case rel => exact ⟨done ++ [((t, r), Ino.mk (i1, i2) xk xl xm xd)], todo', rfl, hR4, HP2.out, HJm.out _ hJ4⟩
      · clear hy
        gi_wp2_with fail
        refine bodyPost_ret (results_none rfl _ _ _) rfl ?_
        exact ⟨⟨_, rfl⟩, .inr ⟨_, trivial, hJx3⟩⟩

theorem values_stops (n : Nat) (hn : 1≤n) (Bm b : Nat) (L : List (St × Ino)) (hL : L.length≤1000) (w : World) (hm : w.heap[Bm]? = some (.cells #[.map (some b)] 82 (0,0))) (hown : KMap stV inoV w b L) :
  SeqStopsK Fence.wide n Tryz.prog 87 #[.pointer (some ⟨Bm,0,none⟩)] handed KeepsWalks (fun ys=>ys.Perm (L.map Prod.snd)) (fun _=>True) 1001 w:=fun l J Jx W hW hJ _ hY h0 =>
 values_in n hn l Bm b L J Jx W hJ hY (cell_of_row _ _ 0 _ _ (0,0) ((hW.block Bm (heap_lt hm)).trans hm)) (hown.kept (hW.block b hown.lt)) hL h0

end Go.Proofs.YtdobeghbkonimaaGreatDoor

namespace Go.Proofs.YtdobeghbkonimaaGreatDoor
open Go.RowKit StampMath GraphMath

set_option maxRecDepth 100000 in
theorem inoClosure_grown (x y : Ino) (w : World) :
  Calls Tryz.prog 53 #[.agg (inoA x),.agg (inoA y)] w fun e w'=>e = .returned (.int .i64 (inoI x y))∧Grown w w':=by
 obtain ⟨⟨xd1,xd2⟩,xk,xl,xm,xd⟩:=x
 obtain ⟨⟨yd1,yd2⟩,yk,yl,ym,yd⟩:=y
 unfold inoA inoI
 obtain ⟨c,hc⟩ : ∃ c,c = cmp xd1 xd2 yd1 yd2:=⟨_,rfl⟩
 simp only [← hc]
 have HC : Hid (∀ W : World,Calls Tryz.prog 40 #[.agg #[.int .i64 xd1,.int .i64 xd2],.agg #[.int .i64 yd1,.int .i64 yd2]] W fun e w'=>e = .returned (.int .i64 c)∧Grown W w'):=fun W=>by rw [hc]; exact compare_grown _ _ _ _ W
 clear hc
 go_enter Tryz.func53,Tryz.ntmps53
 go_wp2_with fail
 refine (HC.out _).mono ?_
 rintro e w1 ⟨rfl,hg1⟩
 go_wp2_with fail
 go_ret
 exact ⟨rfl,(((Grown.refl _).alloc _).alloc _).trans hg1⟩

section
attribute [local go_sem] Oper.semAt_some

theorem box_appended {W w1 : World} {base B k n : Nat} {t e : TypeId} {u v : Value} {xs : List Value} {tmp : Obj} (hb : Boxed W B t u) (hlt : B < base) (hrow : W.ownsRow base e k v n xs) (hgrow : (W.alloc tmp).grownBy w1 v.ownBlock) : Boxed w1 B t u :=
 (hb.alloc tmp).kept hgrow fun q=>by have:=(hrow.lt B q.symm).1; omega

def RoundAt (sv : Value) (B : Nat) (x : Ino) (a : Act) (W : World) : Prop :=
 ∃ q,a = { tmps:=#[.slice none 0 0,sv,.pointer (some ⟨B,0,none⟩),undef,.slice none 0 0,.pointer (some ⟨q,0,none⟩),sv,.agg (inoA x),undef,undef,undef,undef,undef],defers:=[] }∧W.heap[q]? = some (.cells (inoA x) 59 (0,0))

theorem round_own (sv : Value) (B B0 : Nat) (x : Ino) (a : Act) : OwnFrom B0 (fun (_ : Unit) W=>RoundAt sv B x a W):=by
 rintro _ W W' row ⟨q,ha,hq⟩ hg hr
 refine ⟨q,ha,(hg.block q (heap_lt hq) fun e=>?_).trans hq⟩
 obtain ⟨_,o,ho,hc⟩:=hr q e.symm
 rw [hq] at ho
 cases ho
 cases hc

set_option maxRecDepth 100000 in
set_option maxHeartbeats 2000000 in
theorem appendSeq_code (bm b : Nat) (L : List (St × Ino)) (hL : L.length≤1000) (w : World) (hbm : w.heap[bm]? = some (.cells #[.map (some b)] 82 (0,0))) (hown : KMap stV inoV w b L) :
  Calls Tryz.prog 132 #[.slice none 0 0,.func (.func 87) #[] #[.pointer (some ⟨bm,0,none⟩)]] w fun e w' =>
   ∃ (v : Value) (ys : List Ino),e = .returned v∧ys.Perm (L.map Prod.snd)∧w'.ownsRow w.heap.size 59 6 v ys.length (flat (ys.map inoA))∧Below w.heap.size w w':=by
 obtain ⟨i0,hi0,hz0,hz1,hz2⟩:=info_parts ino_infos
 refine (callsIn_wide (n:=5)).1 ?_
 refine callsIn_of_wp_marks Tryz.func132 rfl trivial ?_ rfl
 simp only [Tryz.ntmps132,List.size_toArray,List.length_cons,List.length_nil,Nat.reduceAdd,Nat.reduceSub,Array.replicate_succ,Array.replicate_zero,List.push_toArray,List.append_toArray,List.nil_append,List.cons_append]
 gi_wp2_with fail
 have b1:=Boxed.new w 34 (.slice none 0 0)
 have hB0:=(Below.refl w.heap.size w).alloc (Nat.le_refl _) (.cells #[.slice none 0 0] 34)
 obtain ⟨W0,hW0⟩ : ∃ W0,w.alloc (.cells #[.slice none 0 0] 34) = W0:=⟨_,rfl⟩
 have hsz : W0.heap.size = w.heap.size + 1:=by rw [← hW0]; simp
 rw [hW0] at b1 hB0 ⊢
 clear hW0
 refine wpIn_rangeFunc_ownH rfl (by decide) (gf:=87) (lb:=#[.pointer (some ⟨bm,0,none⟩)]) rfl trivial (enters_of Tryz.func87 (by kernel_rfl) rfl)
  (values_stops (5 - 1) (by decide) bm b L hL W0 ((hB0.block bm (heap_lt hbm)).trans hbm) (hown.kept (hB0.block b hown.lt))) (fun h k=>KeepsWalks.trans h k) (fun W l o o' _ hl _ ho=>KeepsWalks.putObj o' hl ho) (Below.refl _ _) (fun _=>rfl)
  (fun (pre : List Ino) W=>(∃ v,Boxed W w.heap.size 34 v∧W.ownsRow (w.heap.size + 1) 59 6 v pre.length (flat (pre.map inoA))∧True)∧Below w.heap.size w W)
  (fun _ _ _=>False)
  (OwnFrom.and (Own.from (holdsRow_own (w.heap.size + 1) w.heap.size 34 59 6 (fun pre : List Ino=>pre.length) (fun pre=>flat (pre.map inoA)) (fun _ _=>True)) _) (ownFrom_below (Nat.le_refl _) (by omega)))
  (fun _ _ _ _ _ hs _ _=>hs)
  ⟨⟨_,b1,World.ownsRow_nil _ _ _ _,trivial⟩,hB0⟩
  (fun x a' W=>RoundAt (.func (.func 87) #[] #[.pointer (some ⟨bm,0,none⟩)]) w.heap.size x a' W) (fun x a'=>round_own _ _ _ x a') ?assign ?body ?done ?stop
 case assign =>
  rintro l pre x W K ⟨⟨v,hv,hrow,_⟩,hB⟩ hK
  have hK':=hK { tmps:=#[.slice none 0 0,.func (.func 87) #[] #[.pointer (some ⟨bm,0,none⟩)],.pointer (some ⟨w.heap.size,0,none⟩),undef,.slice none 0 0,.pointer (some ⟨W.heap.size,0,none⟩),.func (.func 87) #[] #[.pointer (some ⟨bm,0,none⟩)],.agg (inoA x),undef,undef,undef,undef,undef],defers:=[] } (W.alloc (.cells (inoA x) 59))
   ((KeepsOthers.alloc _ _).from _) (KeepsWalks.alloc _ _) ⟨⟨v,hv.alloc _,hrow.alloc _,trivial⟩,hB.alloc hB.size _⟩ ⟨W.heap.size,rfl,heap_alloc_new _ _⟩
  have HK:=Lib.hid hK'
  clear hK hK'
  obtain ⟨⟨i1,i2⟩,xk,xl,xm,xd⟩:=x
  simp only [handed,inoA] at HK ⊢
  gi_wp2_with fail
  exact HK.out
 case body =>
  rintro l pre x a' W hl _ ⟨⟨v,hv,hrow,_⟩,hB⟩ ⟨q,rfl,hq⟩ hlt
  have hc:=hv.cell
  have hsz2:=hB.size
  have hm : pre.length + 1≤maxLen:=by unfold maxLen; omega
  have hlow:=heap_lt hq
  have hlow2:=hv.lt
  have HW:=Lib.hid (row_there W 59 (inoA x))
  have HO:=Lib.hid (ino_one x)
  obtain ⟨x0,x1,x2,x3,x4,x5⟩:=ino_cells hq
  have HF:=Lib.hid (flat_ino pre x)
  obtain ⟨⟨i1,i2⟩,xk,xl,xm,xd⟩:=x
  unfold inoA at HW HO ⊢
  gi_wp2_with (gi_at_builtin; refine wpListIn_append_own _ rfl _ _ 34 rfl (w.heap.size + 1) 59 i0 _ 6 56 Tryz.underlying34 hi0 hz0 hz1 hz2 rfl (by decide) _ _ _ rfl (hrow.alloc _) ⟨W.heap.size,0,none⟩ 1 1 (inoA ⟨(i1,i2),xk,xl,xm,xd⟩).toList rfl rfl HW.out HO.out hm (by omega) (by simp; omega) ?_; intro v' w1 hown' hgrow _; obtain ⟨g',cap',rfl⟩:=ownsRow_succ hown'; have hv1:=box_appended hv (by omega) hrow hgrow; have hc1:=hv1.cell; have hf1:=hv1.frozen)
  have hg : (W.alloc (.cells (inoA ⟨(i1,i2),xk,xl,xm,xd⟩) 59)).grownBy w1 v.ownBlock:=hgrow
  obtain ⟨_,a2,a3,a4,a5⟩:=hv.appended (n₀:=w.heap.size) (by decide) (own_lower hrow (Nat.le_succ _)) hsz2 (Nat.le_refl _) (own_lower hown' (Nat.le_succ _)) hg
  have hr2:=hown'.kept (grownBy_setCell' w1 w.heap.size (.slice (some ⟨g',0,none⟩) (pre.length + 1) cap')) (.inr (hv1.not_row (by decide) hown').symm)
  have hr3 : (w1.setCell ⟨w.heap.size,0,none⟩ (.slice (some ⟨g',0,none⟩) (pre.length + 1) cap')).ownsRow (w.heap.size + 1) 59 6 (.slice (some ⟨g',0,none⟩) (pre.length + 1) cap') (pre ++ [Ino.mk (i1,i2) xk xl xm xd]).length (flat ((pre ++ [Ino.mk (i1,i2) xk xl xm xd]).map inoA)):=by
   rw [List.length_append,← HF.out]
   exact hr2
  exact ⟨a4.from _,a4.walks,⟨_,a2,hr3⟩,hB.trans a5⟩
 case done =>
  rintro D ys W hD hS ⟨⟨v,hv,hrow,_⟩,hB⟩ hK
  have hc:=hv.cell
  gi_wp2_with fail
  refine ⟨by simp,.inl ⟨_,_,rfl,run_takeDeferred hK,?_⟩⟩
  have hrow2:=ownsRow_putObj hrow (.deferred none) hK rfl
  have hB2:=hB.trans (belowK_b (n₀:=w.heap.size) (w:=w) (Nat.le_refl _) W D _ (.deferred none) (by omega) hK rfl rfl)
  exact ⟨_,results_tmp rfl _ _ _,v,ys,rfl,hS,own_lower hrow2 (Nat.le_succ _),hB2⟩
 case stop =>
  rintro D c pre W _ _ h _
  exact h.elim
end

set_option maxRecDepth 100000 in
theorem collect_code (bm b : Nat) (L : List (St × Ino)) (hL : L.length≤1000) (w : World) (hbm : w.heap[bm]? = some (.cells #[.map (some b)] 82 (0,0))) (hown : KMap stV inoV w b L) :
  Calls Tryz.prog 85 #[.func (.func 87) #[] #[.pointer (some ⟨bm,0,none⟩)]] w fun e w' =>
   ∃ (v : Value) (ys : List Ino),e = .returned v∧ys.Perm (L.map Prod.snd)∧w'.ownsRow w.heap.size 59 6 v ys.length (flat (ys.map inoA))∧Below w.heap.size w w':=by
 have HA:=Lib.hid (appendSeq_code bm b L hL w hbm hown)
 clear hown hbm
 go_enter Tryz.func85,Tryz.ntmps85
 go_wp2_with fail
 refine HA.out.mono ?_
 rintro e w' ⟨v,ys,rfl,h1,h2,h3⟩
 go_wp2_with fail
 go_ret
 exact ⟨v,ys,rfl,h1,h2,h3⟩

set_option maxRecDepth 100000 in
theorem sortedFunc_code (bm b : Nat) (L : List (St × Ino)) (hL : L.length≤1000) (I : List Ino) (hI : I.Pairwise fun a b=>lessS a.id b.id = true) (hp : (L.map Prod.snd).Perm I) (w : World) (hbm : w.heap[bm]? = some (.cells #[.map (some b)] 82 (0,0))) (hown : KMap stV inoV w b L) :
  Calls Tryz.prog 51 #[.func (.func 87) #[] #[.pointer (some ⟨bm,0,none⟩)],.func (.func 53) #[] #[]] w (InosNew I w):=by
 have HA:=Lib.hid (collect_code bm b L hL w hbm hown)
 have HI:=Lib.hid hI
 have HP:=Lib.hid hp
 clear hown hbm hI hp
 go_enter Tryz.func51,Tryz.ntmps51
 go_wp2_with fail
 refine HA.out.mono ?_
 rintro e wr ⟨v,ys,rfl,hy,hown,hB⟩
 have h1000 : ys.length < 4611686018427387904:=by
  have:=hy.length_eq
  rw [List.length_map] at this
  omega
 have HY:=Lib.hid hy
 clear hy
 have hs:=sort_own (w:=wr) Tryz.sortIno 6 Tryz.isAgg59 Tryz.sizeOf59 inoA (fun _=>rfl) ino_one inoI swo_inos 53 #[] (enters_of Tryz.func53 (by kernel_rfl) rfl)
  (fun W x y=>(inoClosure_grown x y W).mono fun _ _ h=>⟨h.1,h.2.grow⟩) (rfl : ys.length = ys.length) hown h1000
 change Calls Tryz.prog 86 _ _ _ at hs
 have hrow:=hown.lt
 clear hown
 have HS:=Lib.hid hs
 clear hs
 go_wp2_with fail
 refine (HS.out).mono ?_
 rintro e w2 ⟨rfl,zs,hz,hsd,hown2,hbut⟩
 have hzs : zs = I:=sorted_inos HI.out (hz.trans (HY.out.trans HP.out)) hsd
 have hl : ys.length = I.length:=(HY.out.trans HP.out).length_eq
 rw [hzs,hl] at hown2
 clear hz hsd hzs
 go_wp2_with fail
 go_ret
 exact ⟨_,rfl,hown2,hB.trans (hbut.below (fun i hi=>(hrow i hi).1) hB.size)⟩

set_option maxRecDepth 100000 in
theorem inodes_code (a : Addr) (S : Nat→Prop) (g : Gr) (w : World) (h : GIn w S a g) (hg : g.ok) :
  Calls Tryz.prog 24 #[.pointer (some a)] w (InosNew (inodesG g) w):=by
 obtain ⟨b,bi,be,rfl,h1,h2,h3,hb,hi,he,hS⟩:=h
 obtain ⟨c0,c1⟩:=two_cells hb
 have hlt:=heap_lt hb
 have hlen : (pairsI g).length≤1000:=by
  unfold pairsI
  rw [List.length_map,hg.inodes,List.length_map]
  exact Nat.le_trans hg.few (by decide)
 have hgE : (inodesG g).Pairwise fun a b=>lessS a.id b.id = true:=by
  rw [hg.inodes]
  exact List.pairwise_map.2 hg.sortI
 have hp : ((pairsI g).map Prod.snd).Perm (inodesG g):=by
  unfold pairsI
  rw [List.map_map,show Prod.snd ∘ (fun x : Ino=>(x.id,x)) = id from rfl,List.map_id]
 have HQ : Hid (∀ W,Below w.heap.size w W→∀ B,W.heap[B]? = some (.cells #[.map (some bi)] 82 (0,0))→Calls Tryz.prog 51 #[.func (.func 87) #[] #[.pointer (some ⟨B,0,none⟩)],.func (.func 53) #[] #[]] W (InosNew (inodesG g) W)) :=
  fun W hW B hB=>sortedFunc_code B bi (pairsI g) hlen (inodesG g) hgE hp W hB (hi.kept (hW.block bi hi.lt))
 clear hi he hb hS hlen hgE hp hg
 go_enter Tryz.func24,Tryz.ntmps24
 go_wp2_with fail
 refine (values_code bi w).mono ?_
 rintro e w' ⟨rfl,rfl⟩
 have hb1:=(Below.refl w.heap.size w).alloc (Nat.le_refl _) (.cells #[.map (some bi)] 82)
 go_wp2_with fail
 refine (HQ.out _ hb1 _ (heap_alloc_new _ _)).mono ?_
 rintro e w2 ⟨v,rfl,hown,hb⟩
 go_wp2_with fail
 go_ret
 exact ⟨v,rfl,own_lower hown hb1.size,below_step hb1 hb⟩

end Go.Proofs.YtdobeghbkonimaaGreatDoor

namespace Go.Proofs.YtdobeghbkonimaaGreatDoor
open Go.RowKit StampMath GraphMath

set_option maxRecDepth 100000 in
set_option maxHeartbeats 1600000 in
theorem make_code (a : Addr) (S : Nat→Prop) (g : Gr) (id : St) (kind : Int) (w : World) (h : GIn w S a g) (hg : g.ok) :
  Calls Tryz.prog 161 #[.pointer (some a),.agg (stA id),.int .i64 kind] w fun e w'=>e = .returned (.int .i64 (makeG g id kind).2)∧GIn w' S a (makeG g id kind).1∧But S w w':=by
 have HM : Hid (∀ W : World,Calls Tryz.prog 115 #[.agg #[.int .i64 id.1,.int .i64 id.2]] W fun e w'=>e = .returned (.bool (mayB id.1 id.2))∧Below W.heap.size W w'):=fun W=>may_any _ _ W
 have HRt : Hid (∀ W : World,Calls Tryz.prog 62 #[] W fun e w'=>e = .returned (.agg #[.int .i64 0,.int .i64 0])∧Below W.heap.size W w'):=root_any
 have hGet : ∀ (x : St) (W : World),Below w.heap.size w W→Calls Tryz.prog 35 #[.pointer (some a),.agg #[.int .i64 x.1,.int .i64 x.2]] W fun e w'=>e = .returned (.tuple #[.agg (inoA ((getG g x).getD noIno)),.bool (getG g x).isSome])∧Below W.heap.size W w':=fun x W hW=>get_code a S g x W (h.keep fun i hi=>hW.block i (h.lt i hi)) hg
 obtain ⟨R,hR⟩ : ∃ R,getG g (0,0) = some R:=by
  obtain ⟨y,hy,hyi,_⟩:=hg.root
  exact ⟨_,by rw [← hyi]; exact hg.get hy⟩
 have HGR : Hid (∀ W : World,Below w.heap.size w W→Calls Tryz.prog 35 #[.pointer (some a),.agg #[.int .i64 0,.int .i64 0]] W fun e w'=>e = .returned (.tuple #[.agg #[.int .i64 R.id.1,.int .i64 R.id.2,.int .i64 R.kind,.int .i64 R.links,.int .i64 R.mode,.string R.data],.bool true])∧Below W.heap.size W w'):=fun W hW=>by
  have:=hGet (0,0) W hW
  rw [hR] at this
  exact this
 clear hR
 obtain ⟨m,hm⟩ : ∃ m,m = mayB id.1 id.2:=⟨_,rfl⟩
 by_cases c1 : mayB id.1 id.2 = false∨kind < 1∨3 < kind
 ·have e1 : makeG g id kind = (g,1):=by unfold makeG; rw [if_pos c1]
  rw [e1]
  have hG:=Lib.hid h
  have hltS:=Lib.hid h.lt
  clear h hGet HGR
  rw [← hm] at c1 HM
  clear hm e1
  have c1' : (m = false)∨(m = true∧kind < 1)∨(m = true∧¬ kind < 1∧3 < kind):=by
   cases m
   ·exact Or.inl rfl
   ·by_cases q : kind < 1
    ·exact Or.inr (Or.inl ⟨rfl,q⟩)
    ·refine Or.inr (Or.inr ⟨rfl,q,?_⟩)
     rcases c1 with h | h | h
     ·cases h
     ·exact absurd h q
     ·exact h
  clear c1
  unfold stA
  rcases c1' with rfl | ⟨rfl,k1⟩ | ⟨rfl,k1,k3⟩
  all_goals
   go_enter Tryz.func161,Tryz.ntmps161
   go_wp2_with fail
   refine (HM.out _).mono ?_
   rintro e w1 ⟨rfl,hb1⟩
   go_wp2_with fail
   go_ret
   have hb : Below w.heap.size w w1:=below_step ((Below.refl _ _).alloc (Nat.le_refl _) _) hb1
   exact ⟨rfl,hG.out.keep fun i hi=>hb.block i (hltS.out i hi),But.of_below hb⟩
 ·have c1' : m = true∧¬ kind < 1∧¬ 3 < kind:=by
   rw [← hm] at c1
   refine ⟨?_,fun q=>c1 (Or.inr (Or.inl q)),fun q=>c1 (Or.inr (Or.inr q))⟩
   cases m
   ·exact absurd (Or.inl rfl) c1
   ·rfl
  rw [← hm] at HM
  obtain ⟨rfl,k1,k3⟩:=c1'
  have hmk : makeG g id kind = if (getG g id).isSome then (g,4) else if 40≤g.I.length then (g,13) else (⟨putIn (fun x=>lessS x.id id) g.I ⟨id,kind,0,0,⟨#[]⟩⟩,g.E⟩,0):=by
   unfold makeG
   rw [if_neg c1]
  clear hm
  obtain ⟨ok,hok⟩ : ∃ ok,ok = (getG g id).isSome:=⟨_,rfl⟩
  obtain ⟨X,hX⟩ : ∃ X,X = (getG g id).getD noIno:=⟨_,rfl⟩
  have HGI : Hid (∀ W : World,Below w.heap.size w W→Calls Tryz.prog 35 #[.pointer (some a),.agg #[.int .i64 id.1,.int .i64 id.2]] W fun e w'=>e = .returned (.tuple #[.agg #[.int .i64 X.id.1,.int .i64 X.id.2,.int .i64 X.kind,.int .i64 X.links,.int .i64 X.mode,.string X.data],.bool ok])∧Below W.heap.size W w'):=fun W hW=>by
   rw [hX,hok]
   exact hGet id W hW
  have hG:=Lib.hid h
  obtain ⟨b,bi,be,rfl,h1,h2,h3,hb,hi,he,hS⟩:=h
  obtain ⟨d0,d1⟩:=two_cells hb
  have hlt:=heap_lt hb
  have HBlk:=Lib.hid hb
  have HI:=Lib.hid hi
  have HE:=Lib.hid he
  have HS:=Lib.hid hS
  have HK:=Lib.hid hmk
  have HO : Hid (ok = (getG g id).isSome):=hok
  have hb0 : Below w.heap.size w (w.alloc (.cells #[.int .i64 id.1,.int .i64 id.2] 24)):=(Below.refl _ _).alloc (Nat.le_refl _) _
  clear hi he hb hS c1 hmk hok hX hGet d1
  unfold stA
  go_enter Tryz.func161,Tryz.ntmps161
  go_wp2_with fail
  refine (HM.out _).mono ?_
  rintro e w1 ⟨rfl,hb1⟩
  have q0 : w1.heap[w.heap.size]? = some (.cells #[.int .i64 id.1,.int .i64 id.2] 24 (0,0)):=(hb1.block _ (by simp)).trans (heap_alloc_new w _)
  have hb2:=below_step hb0 hb1
  clear hb0 hb1 HM
  go_wp2_with fail
  refine (HRt.out _).mono ?_
  rintro e w2 ⟨rfl,hb3⟩
  have q1:=(hb3.block _ (heap_lt q0)).trans q0
  have hb4:=below_step hb2 hb3
  clear q0 hb2 hb3 HRt
  go_wp2_with fail
  refine (HGR.out _ hb4).mono ?_
  rintro e w3 ⟨rfl,hb5⟩
  have q2:=(hb5.block _ (heap_lt q1)).trans q1
  have hb6:=below_step hb4 hb5
  clear q1 hb4 hb5 HGR
  go_upto_region 4 with fail
  change Code.wp _ _ _ _ (w3.alloc (.cells (inoA R) 59))
  have q3:=(heap_alloc_old w3 (.cells (inoA R) 59) (heap_lt q2)).trans q2
  have hb7:=hb6.alloc hb6.size (.cells (inoA R) 59)
  generalize w3.alloc (.cells (inoA R) 59) = w4 at q3 hb7 ⊢
  clear q2 hb6
  obtain ⟨x0,x1⟩:=two_cells q3
  go_wp2_with fail
  refine (HGI.out _ hb7).mono ?_
  rintro e w5 ⟨rfl,hb8⟩
  have q4:=(hb8.block _ (heap_lt q3)).trans q3
  have hb9:=below_step hb7 hb8
  clear q3 hb7 hb8 HGI x0 x1
  go_upto_region 7 with fail
  change Code.wp _ _ _ _ (w5.alloc (.cells (inoA X) 59))
  have q5:=(heap_alloc_old w5 (.cells (inoA X) 59) (heap_lt q4)).trans q4
  have hb10:=hb9.alloc hb9.size (.cells (inoA X) 59)
  generalize w5.alloc (.cells (inoA X) 59) = w6 at q5 hb10 ⊢
  clear q4 hb9
  obtain ⟨x0,x1⟩:=two_cells q5
  have d0w:=(hb10.cell (p:=⟨b,0,none⟩) hlt).trans d0
  cases ok with
  | true =>
   go_wp2_with fail
   go_ret
   rw [HK.out,if_pos HO.out.symm]
   exact ⟨rfl,hG.out.keep fun i hi=>hb10.block i (hG.out.lt i hi),But.of_below hb10⟩
  | false =>
   have hln:=(HI.out.kept (hb10.block bi HI.out.lt)).len (P:=Tryz.prog) Tryz.underlying82 3
   by_cases c3 : 40≤g.I.length
   ·have hlen : (40 : Int)≤((pairsI g).length : Int):=by unfold pairsI; rw [List.length_map,hg.inodes,List.length_map]; omega
    generalize ((pairsI g).length : Int) = ln at hln hlen
    go_wp2_with fail
    go_ret
    rw [HK.out,if_neg (by rw [← HO.out]; simp),if_pos c3]
    exact ⟨rfl,hG.out.keep fun i hi=>hb10.block i (hG.out.lt i hi),But.of_below hb10⟩
   ·have hlen : ¬ (40 : Int)≤((pairsI g).length : Int):=by unfold pairsI; rw [List.length_map,hg.inodes,List.length_map]; omega
    generalize ((pairsI g).length : Int) = ln at hln hlen
    obtain ⟨w7,hrun,hm7,hbut7,hsz7⟩:=(HI.out.kept (hb10.drew.block bi HI.out.lt)).store stShape Tryz.underlying82 id ⟨id,kind,0,0,⟨#[]⟩⟩
    simp only [stV,stA,inoV,inoA] at hrun
    have HM7:=Lib.hid hm7
    have HB7:=Lib.hid hbut7
    have HB10:=Lib.hid hb10
    clear hm7 hbut7 hb10 q5 hsz7
    go_wp2_with fail
    go_region
    go_wp2_with fail
    go_ret
    have hb8 : But (fun i=>i = bi) w w7:=(But.of_below HB10.out.drew).trans HB7.out fun i hi _=>hi
    have he : makeG g id kind = (⟨putIn (fun x=>lessS x.id id) g.I ⟨id,kind,0,0,⟨#[]⟩⟩,g.E⟩,0):=by rw [HK.out,if_neg (by rw [← HO.out]; simp),if_neg c3]
    have h0 : (makeG g id kind).2 = 0:=by rw [he]
    have hok:=hg.make id kind
    refine ⟨by rw [h0]; rfl,⟨b,bi,be,rfl,h1,h2,h3,?_,?_,?_,HS.out⟩,hb8.mono fun i hi=>(HS.out i).2 (Or.inr (Or.inl hi))⟩
    ·exact hb8.heap HBlk.out (fun q=>h1 q)
    ·refine HM7.out.perm (put_perm (keys_pairsI hg) (keys_pairsI hok) fun k=>?_)
     rw [look_pairsI hok,look_pairsI hg,make_get hg h0]
    ·have e1 : pairsE (makeG g id kind).1 = pairsE g:=by unfold pairsE; rw [make_ents]
     rw [e1]
     exact HE.out.kept (hb8.block be HE.out.lt fun q=>h3 q.symm)

end Go.Proofs.YtdobeghbkonimaaGreatDoor

namespace Go.Proofs.YtdobeghbkonimaaGreatDoor
open Go.RowKit StampMath GraphMath

theorem pairsI_new : pairsI newG = [((0,0),⟨(0,0),1,0,0,⟨#[]⟩⟩)]:=by rw [pairsI,new_okG.inodes]; rfl

set_option maxRecDepth 100000 in
theorem new_code (w : World) : Calls Tryz.prog 34 #[] w fun e w'=>∃ a S,e = .returned (.pointer (some a))∧GIn w' S a newG∧(∀ i,S i→w.heap.size≤i)∧Below w.heap.size w w':=by
 have HR : Hid (∀ W : World,Calls Tryz.prog 62 #[] W fun e w'=>e = .returned (.agg #[.int .i64 0,.int .i64 0])∧Below W.heap.size W w'):=root_any
 have hmk0 : (Instr.makeMap 82 none).run Tryz.prog w = .ok (.map (some w.heap.size)) (w.alloc (.map #[] 0)):=rfl
 have hb0 : Below w.heap.size w (w.alloc (.map #[] 0)):=(Below.refl _ _).alloc (Nat.le_refl _) _
 have HM0:=Lib.hid (KMap.made (ek:=stV) (ev:=inoV) w)
 go_enter Tryz.func34,Tryz.ntmps34
 go_wp2_with fail
 refine (HR.out _).mono ?_
 rintro e w1 ⟨rfl,hb1⟩
 have hm1:=Lib.hid (HM0.out.kept (hb1.block _ (by simp)))
 have hb2:=below_step hb0 hb1
 have hz1 : w.heap.size < w1.heap.size:=hm1.out.lt
 clear hmk0 hb0 hb1 HM0
 go_wp2_with fail
 refine (HR.out _).mono ?_
 rintro e w2 ⟨rfl,hb3⟩
 have hm2:=hm1.out.kept (hb3.block _ hz1)
 have hb4:=below_step hb2 hb3
 have hz2 : w.heap.size < w2.heap.size:=hm2.lt
 clear hm1 hb2 hb3 hz1
 obtain ⟨w3,hrun,hm3,hbut,hsz⟩:=hm2.store stShape Tryz.underlying82 (0,0) ⟨(0,0),1,0,0,⟨#[]⟩⟩
 simp only [stV,stA,inoV,inoA] at hrun
 have hb5 : Below w.heap.size w w3:=hb4.trans (hbut.below (fun i hi=>by omega) (by omega))
 have HM:=Lib.hid hm3
 have HB:=Lib.hid hb5
 have hz3 : w.heap.size < w3.heap.size:=by rw [hsz]; exact hz2
 clear hm2 hb4 hz2 hm3 hbut hb5 hsz
 have hmk1 : (Instr.makeMap 83 none).run Tryz.prog w3 = .ok (.map (some w3.heap.size)) (w3.alloc (.map #[] 0)):=rfl
 go_wp2_with fail
 go_ret
 refine ⟨⟨w3.heap.size + 1,0,none⟩,fun i=>i = w3.heap.size + 1∨i = w.heap.size∨i = w3.heap.size,?_,⟨w3.heap.size + 1,w.heap.size,w3.heap.size,rfl,by omega,by omega,by omega,?_,?_,?_,fun i=>Iff.rfl⟩,fun i hi=>by omega,?_⟩
 ·rfl
 ·rw [show w3.heap.size + 1 = (w3.alloc (.map #[] 0)).heap.size by simp]
  exact heap_alloc_new _ _
 ·have hk : KMap stV inoV w3 w.heap.size (pairsI newG):=by
   have:=HM.out
   rw [pairsI_new]
   exact this
  refine hk.kept ?_
  rw [heap_alloc_old _ _ (by simp; omega),heap_alloc_old _ _ (by omega)]
 ·have hk : KMap plV stV (w3.alloc (.map #[] 0)) w3.heap.size []:=KMap.made w3
  refine hk.kept ?_
  rw [heap_alloc_old _ _ (by simp)]
 ·exact (HB.out.alloc HB.out.size _).alloc (by simp; omega) _

end Go.Proofs.YtdobeghbkonimaaGreatDoor

namespace Go.Proofs.YtdobeghbkonimaaGreatDoor
open Go.RowKit StampMath GraphMath

set_option maxRecDepth 100000 in
theorem look_code (a : Addr) (S : Nat→Prop) (g : Gr) (d : St) (nm : ByteArray) (w : World) (h : GIn w S a g) :
  Calls Tryz.prog 36 #[.pointer (some a),.agg (stA d),.string nm] w fun e w'=>e = .returned (.tuple #[.agg (stA ((lookE g.E d nm).getD (0,0))),.bool (lookE g.E d nm).isSome])∧Below w.heap.size w w':=by
 obtain ⟨b,bi,be,rfl,h1,h2,h3,hb,hi,he,hS⟩:=h
 obtain ⟨c0,c1⟩:=two_cells hb
 obtain ⟨ok,hok⟩ : ∃ ok,ok = (lookE g.E d nm).isSome:=⟨_,rfl⟩
 obtain ⟨v,hv⟩ : ∃ v,v = (lookE g.E d nm).getD (0,0):=⟨_,rfl⟩
 rw [← hok,← hv]
 have hlook : ∀ W : World,Hid (Below w.heap.size w W)→(Instr.lookup 83 (.map (some be)) (.agg #[.int .i64 d.1,.int .i64 d.2,.string nm]) true).run Tryz.prog W = .ok (.tuple #[.agg #[.int .i64 v.1,.int .i64 v.2],.bool ok]) W:=fun W hW=>by
  have hl:=(he.kept (hW.out.block be he.lt)).look plShape Tryz.underlying83 (zeroSt W) (d,nm) true
  rw [look_pairsE,if_pos rfl,show ((lookE g.E d nm).map stV).getD (stV (0,0)) = stV v by rw [hv]; cases lookE g.E d nm <;> rfl,← hok] at hl
  exact hl
 have hlt:=heap_lt hb
 have HL:=Lib.hid hlook
 clear hi he hb hS hlook hok hv
 unfold stA
 go_enter Tryz.func36,Tryz.ntmps36
 go_wp2_with fail
 have hbW : Below w.heap.size w ((w.alloc (.cells #[.int .i64 d.1,.int .i64 d.2] 24)).alloc (.cells #[.int .i64 0,.int .i64 0] 24)):=((Below.refl _ _).alloc (Nat.le_refl _) _).alloc (by simp) _
 have hb1:=(hbW.alloc hbW.size (.cells #[.int .i64 0,.int .i64 0] 24)).drew
 have d0:=(hb1.cell (p:=⟨b,1,none⟩) hlt).trans c1
 have hl:=HL.out _ hb1
 have c0w:=(hbW.cell (p:=⟨b,1,none⟩) hlt).trans c1
 have hl0:=HL.out _ hbW.drew
 have HB:=Lib.hid hbW
 clear hbW hb1
 go_region
 all_goals clear d0 hl c0w hl0
 all_goals go_wp2_with fail
 all_goals exact bodyPost_ret (v:=.tuple #[.agg (stA v),.bool ok]) (by simp [results,Tryz.results36,go_sem,stA]) rfl ⟨rfl,by
  repeat (first | exact Below.refl _ _ | apply Below.drew | refine Below.alloc ?_ (by simp <;> omega) _)⟩

end Go.Proofs.YtdobeghbkonimaaGreatDoor

namespace Go.Proofs.YtdobeghbkonimaaGreatDoor
open Go.RowKit StampMath GraphMath

def fullB (X : Ino) : Bool:=if X.kind = 1 then decide (0 < X.links) else decide (6≤X.links)

set_option maxRecDepth 100000 in
theorem full_code (X : Ino) (w : World) :
  Calls Tryz.prog 201 #[.agg #[.int .i64 X.id.1,.int .i64 X.id.2,.int .i64 X.kind,.int .i64 X.links,.int .i64 X.mode,.string X.data]] w fun e w'=>e = .returned (.bool (fullB X))∧Below w.heap.size w w':=by
 by_cases hk : X.kind = 1
 ·have hv : Hid (fullB X = decide (0 < X.links)):=if_pos hk
  have hk' : (X.kind == 1) = true:=beq_iff_eq.2 hk
  clear hk
  go_enter Tryz.func201,Tryz.ntmps201
  go_wp2_with fail
  go_ret
  exact ⟨by rw [hv.out]; rfl,(Below.refl _ _).alloc (Nat.le_refl _) _⟩
 ·have hv : Hid (fullB X = decide (6≤X.links)):=if_neg hk
  have hk' : (X.kind == 1) = false:=beq_eq_false_iff_ne.2 hk
  clear hk
  go_enter Tryz.func201,Tryz.ntmps201
  go_wp2_with fail
  go_ret
  exact ⟨by rw [hv.out]; rfl,(Below.refl _ _).alloc (Nat.le_refl _) _⟩

set_option maxRecDepth 100000 in
set_option maxHeartbeats 1600000 in
theorem count_code (b bi be : Nat) (LI : List (St × Ino)) (id : St) (more : Int) (X : Ino) (w : World) (hb : w.heap[b]? = some (.cells #[.map (some bi),.map (some be)] 85 (0,0))) (hi : KMap stV inoV w bi LI) (hX : lookL LI id = some X) (hwr : wrap64 (X.links + more) = X.links + more) :
  Calls Tryz.prog 165 #[.pointer (some ⟨b,0,none⟩),.agg #[.int .i64 id.1,.int .i64 id.2],.int .i64 more] w fun e w'=>e = .returned (.tuple #[])∧KMap stV inoV w' bi ((id,{ X with links:=X.links + more }) :: offL LI id)∧But (fun i=>i = bi) w w':=by
 obtain ⟨d0,d1⟩:=two_cells hb
 have hlt:=heap_lt hb
 have hlook : ∀ W : World,Hid (Below w.heap.size w W)→(Instr.lookup 82 (.map (some bi)) (.agg #[.int .i64 id.1,.int .i64 id.2]) false).run Tryz.prog W = .ok (.agg #[.int .i64 X.id.1,.int .i64 X.id.2,.int .i64 X.kind,.int .i64 X.links,.int .i64 X.mode,.string X.data]) W:=fun W hW=>by
  have hl:=(hi.kept (hW.out.block bi hi.lt)).look stShape Tryz.underlying82 (zeroIno W) id false
  rw [if_neg (by decide),hX] at hl
  exact hl
 have HL:=Lib.hid hlook
 have HI:=Lib.hid hi
 clear hlook hi hb hX d1
 go_enter Tryz.func165,Tryz.ntmps165
 go_upto_region 1 with fail
 obtain ⟨u,hu⟩ : ∃ u,u = w.heap.size:=⟨_,rfl⟩
 have q2 : (w.alloc (.cells #[.int .i64 id.1,.int .i64 id.2] 24)).heap[u]? = some (.cells #[.int .i64 id.1,.int .i64 id.2] 24 (0,0)):=by rw [hu]; exact heap_alloc_new _ _
 have hsz : (w.alloc (.cells #[.int .i64 id.1,.int .i64 id.2] 24)).heap.size = u + 1:=by simp [hu]
 have hb3 : Below w.heap.size w (w.alloc (.cells #[.int .i64 id.1,.int .i64 id.2] 24)):=(Below.refl _ _).alloc (Nat.le_refl _) _
 have hlow : w.heap.size≤u:=Nat.le_of_eq hu.symm
 rw [← hu]
 generalize w.alloc (.cells #[.int .i64 id.1,.int .i64 id.2] 24) = w2 at q2 hsz hb3 ⊢
 clear hu
 obtain ⟨x0,x1⟩:=two_cells q2
 have d0w:=(hb3.cell (p:=⟨b,0,none⟩) hlt).trans d0
 have hbC:=(hb3.alloc hb3.size (.cells #[.int .i64 0,.int .i64 0,.int .i64 0,.int .i64 0,.int .i64 0,.string ⟨#[]⟩] 59)).drew
 have l0:=HL.out _ hb3.drew
 have l1:=HL.out _ hbC
 have d0c:=(hbC.cell (p:=⟨b,0,none⟩) hlt).trans d0
 have x0c : ((w2.alloc (.cells #[.int .i64 0,.int .i64 0,.int .i64 0,.int .i64 0,.int .i64 0,.string ⟨#[]⟩] 59)).drew).cell? ⟨u,0,none⟩ = some (.int .i64 id.1):=(World.cell?_alloc_lt w2 _ _ (World.block_lt_of_cell? _ _ x0)).trans x0
 have x1c : ((w2.alloc (.cells #[.int .i64 0,.int .i64 0,.int .i64 0,.int .i64 0,.int .i64 0,.string ⟨#[]⟩] 59)).drew).cell? ⟨u,1,none⟩ = some (.int .i64 id.2):=(World.cell?_alloc_lt w2 _ _ (World.block_lt_of_cell? _ _ x1)).trans x1
 have HB:=Lib.hid hb3
 clear hbC hb3
 go_region
 all_goals clear l0 l1 d0c x0c x1c
 all_goals
  have q3 : ((w2.alloc (.cells #[.int .i64 X.id.1,.int .i64 X.id.2,.int .i64 X.kind,.int .i64 X.links,.int .i64 X.mode,.string X.data] 59)).drew).heap[u + 1]? = some (.cells (inoA X) 59 (0,0)):=by rw [← hsz]; exact heap_alloc_new _ _
  have r2 : ((w2.alloc (.cells #[.int .i64 X.id.1,.int .i64 X.id.2,.int .i64 X.kind,.int .i64 X.links,.int .i64 X.mode,.string X.data] 59)).drew).heap[u]? = _:=(heap_alloc_old w2 _ (by omega)).trans q2
  have hb4:=(HB.out.alloc HB.out.size (.cells #[.int .i64 X.id.1,.int .i64 X.id.2,.int .i64 X.kind,.int .i64 X.links,.int .i64 X.mode,.string X.data] 59)).drew
  generalize ((w2.alloc (.cells #[.int .i64 X.id.1,.int .i64 X.id.2,.int .i64 X.kind,.int .i64 X.links,.int .i64 X.mode,.string X.data] 59)).drew) = w3 at q3 r2 hb4 ⊢
  clear q2 x0 x1 d0w HB hsz
  have q3l:=(ino_cells q3).2.2.2.1
  have q3f:=(ino_free q3).2.2.2.1
  have d0w:=(hb4.cell (p:=⟨b,0,none⟩) hlt).trans d0
  go_upto_region 3 with fail
  rw [hwr]
  have s3 : (w3.setCell ⟨u + 1,3,none⟩ (.int .i64 (X.links + more))).heap[u + 1]? = some (.cells (inoA { X with links:=X.links + more }) 59 (0,0)):=heap_setCell_same _ _ _ _ _ _ q3
  have s2 : (w3.setCell ⟨u + 1,3,none⟩ (.int .i64 (X.links + more))).heap[u]? = _:=(heap_setCell_other _ _ _ _ (by dsimp only; omega)).trans r2
  have hb5:=hb4.setCell (p:=⟨u + 1,3,none⟩) (by dsimp only; omega) (.int .i64 (X.links + more))
  generalize w3.setCell ⟨u + 1,3,none⟩ (.int .i64 (X.links + more)) = w4 at s2 s3 hb5 ⊢
  clear q3 r2 hb4 q3l q3f d0w
  obtain ⟨y0,y1,y2,y3,y4,y5⟩:=ino_cells s3
  obtain ⟨x0,x1⟩:=two_cells s2
  have d0w:=(hb5.cell (p:=⟨b,0,none⟩) hlt).trans d0
  obtain ⟨w5,hrun,hm5,hbut5,hsz5⟩:=(HI.out.kept (hb5.drew.block bi HI.out.lt)).store stShape Tryz.underlying82 id { X with links:=X.links + more }
  simp only [stV,stA,inoV,inoA] at hrun
  have HM5:=Lib.hid hm5
  have hb6 : But (fun i=>i = bi) w w5:=(But.of_below hb5.drew).trans hbut5 fun i hi _=>hi
  have HB6:=Lib.hid hb6
  clear hm5 hb5 hbut5 s2 s3 hb6
  go_region
  go_end0
  exact ⟨rfl,HM5.out,HB6.out⟩

end Go.Proofs.YtdobeghbkonimaaGreatDoor

namespace Go.Proofs.YtdobeghbkonimaaGreatDoor
open Go.RowKit StampMath GraphMath

set_option maxRecDepth 100000 in
set_option maxHeartbeats 1600000 in
theorem untie_code (a : Addr) (S : Nat→Prop) (g : Gr) (d : St) (nm : ByteArray) (w : World) (h : GIn w S a g) (hg : g.ok) :
  Calls Tryz.prog 166 #[.pointer (some a),.agg (stA d),.string nm] w fun e w'=>e = .returned (.tuple #[.agg (stA (untieG g d nm).2.1),.int .i64 (untieG g d nm).2.2])∧GIn w' S a (untieG g d nm).1∧But S w w':=by
 cases hq : lookE g.E d nm with
 | none =>
  have e1 : untieG g d nm = (g,(0,0),3):=by unfold untieG; rw [hq]
  have HQ : Hid (∀ W : World,Below w.heap.size w W→Calls Tryz.prog 36 #[.pointer (some a),.agg #[.int .i64 d.1,.int .i64 d.2],.string nm] W fun e w'=>e = .returned (.tuple #[.agg #[.int .i64 0,.int .i64 0],.bool false])∧Below W.heap.size W w'):=fun W hW=>by
   have:=look_code a S g d nm W (h.keep fun i hi=>hW.block i (h.lt i hi))
   rw [hq] at this
   exact this
  rw [e1]
  have hG:=Lib.hid h
  clear h e1 hq
  have hbW : Below w.heap.size w ((w.alloc (.cells #[.int .i64 d.1,.int .i64 d.2] 24)).alloc (.cells #[.int .i64 0,.int .i64 0] 24)):=((Below.refl _ _).alloc (Nat.le_refl _) _).alloc (by simp) _
  unfold stA
  go_enter Tryz.func166,Tryz.ntmps166
  go_wp2_with fail
  refine (HQ.out _ hbW).mono ?_
  rintro e w1 ⟨rfl,hb1⟩
  have hr : w1.heap[w.heap.size + 1]? = some (.cells #[.int .i64 0,.int .i64 0] 24 (0,0)):=(hb1.block _ (by simp)).trans (heap_alloc2_new w _ _)
  obtain ⟨m0,m1⟩:=two_cells hr
  obtain ⟨f0,f1⟩:=two_free hr
  have hb2:=below_step hbW hb1
  have hlt:=heap_lt hr
  have hHr:=Lib.hid hr
  clear hb1 hr hbW
  go_wp2_with fail
  have hb3:=((hb2.setCell (p:=⟨w.heap.size + 1,0,none⟩) (by dsimp only; omega) (.int .i64 0)).setCell (p:=⟨w.heap.size + 1,1,none⟩) (by dsimp only; omega) (.int .i64 0)).alloc (by simp; exact hb2.size) (.cells #[.int .i64 0,.int .i64 0] 24)
  obtain ⟨y0,y1⟩:=two_cells ((heap_alloc_old _ (.cells #[.int .i64 0,.int .i64 0] 24) (by simp; omega)).trans (box_set (c:=.int .i64 0) (d:=.int .i64 0) hHr.out))
  exact bodyPost_ret (v:=.tuple #[.agg (stA (0,0)),.int .i64 3]) (by simp [results,Tryz.results166,go_sem,stA,y0,y1]) rfl ⟨rfl,hG.out.keep fun i hi=>hb3.block i (hG.out.lt i hi),But.of_below hb3⟩
 | some id =>
  have hmem:=(look_iff hg).1 hq
  obtain ⟨x0,hx0,hxid⟩:=hg.inos _ hmem
  have hget : getG g id = some { x0 with links:=(linksE g.E id : Int) }:=(get_iff hg).2 ⟨x0,hx0,hxid,rfl⟩
  obtain ⟨X,hX⟩ : ∃ X : Ino,X = { x0 with links:=(linksE g.E id : Int) }:=⟨_,rfl⟩
  rw [← hX] at hget
  have HQ : Hid (∀ W : World,Below w.heap.size w W→Calls Tryz.prog 36 #[.pointer (some a),.agg #[.int .i64 d.1,.int .i64 d.2],.string nm] W fun e w'=>e = .returned (.tuple #[.agg #[.int .i64 id.1,.int .i64 id.2],.bool true])∧Below W.heap.size W w'):=fun W hW=>by
   have:=look_code a S g d nm W (h.keep fun i hi=>hW.block i (h.lt i hi))
   rw [hq] at this
   exact this
  have hbW : Below w.heap.size w ((w.alloc (.cells #[.int .i64 d.1,.int .i64 d.2] 24)).alloc (.cells #[.int .i64 0,.int .i64 0] 24)):=((Below.refl _ _).alloc (Nat.le_refl _) _).alloc (by simp) _
  obtain ⟨b,bi,be,rfl,h1,h2,h3,hb,hi,he,hS⟩:=h
  obtain ⟨d0,d1⟩:=two_cells hb
  have hlt:=heap_lt hb
  have hwr : wrap64 (X.links + -1) = X.links + -1:=by
   have h6:=hg.six id
   have h7 : X.links = (linksE g.E id : Int):=by rw [hX]
   unfold wrap64
   omega
  have HC : Hid (∀ W : World,W.heap[b]? = some (.cells #[.map (some bi),.map (some be)] 85 (0,0))→KMap stV inoV W bi (pairsI g)→Calls Tryz.prog 165 #[.pointer (some ⟨b,0,none⟩),.agg #[.int .i64 id.1,.int .i64 id.2],.int .i64 (-1)] W fun e w'=>e = .returned (.tuple #[])∧KMap stV inoV w' bi ((id,{ X with links:=X.links + -1 }) :: offL (pairsI g) id)∧But (fun i=>i = bi) W w'):=fun W hb hi=>count_code b bi be (pairsI g) id (-1) X W hb hi (by rw [look_pairsI hg]; exact hget) hwr
  have HI:=Lib.hid hi
  have HE:=Lib.hid he
  have HS:=Lib.hid hS
  have HBlk:=Lib.hid hb
  have HG:=Lib.hid hget
  have HO:=Lib.hid hq
  clear hi he hS hb hget hq hmem hx0 hxid hX hwr d0
  unfold stA
  go_enter Tryz.func166,Tryz.ntmps166
  go_wp2_with fail
  refine (HQ.out _ hbW).mono ?_
  rintro e w1 ⟨rfl,hb1⟩
  have hr0 : w1.heap[w.heap.size]? = some (.cells #[.int .i64 d.1,.int .i64 d.2] 24 (0,0)):=(hb1.block _ (by simp <;> omega)).trans (heap_alloc2_old w _ _)
  have hr1 : w1.heap[w.heap.size + 1]? = some (.cells #[.int .i64 0,.int .i64 0] 24 (0,0)):=(hb1.block _ (by simp)).trans (heap_alloc2_new w _ _)
  have hb2:=below_step hbW hb1
  clear hb1 hbW
  go_upto_region 4 with fail
  change Code.wp _ _ _ _ (w1.alloc (.cells #[.int .i64 id.1,.int .i64 id.2] 24))
  obtain ⟨u,hu⟩ : ∃ u,u = w1.heap.size:=⟨_,rfl⟩
  have hlow : w.heap.size + 1 < u:=by rw [hu]; exact heap_lt hr1
  have q0 : (w1.alloc (.cells #[.int .i64 id.1,.int .i64 id.2] 24)).heap[w.heap.size]? = some (.cells #[.int .i64 d.1,.int .i64 d.2] 24 (0,0)):=(heap_alloc_old _ _ (by omega)).trans hr0
  have q1 : (w1.alloc (.cells #[.int .i64 id.1,.int .i64 id.2] 24)).heap[w.heap.size + 1]? = some (.cells #[.int .i64 0,.int .i64 0] 24 (0,0)):=(heap_alloc_old _ _ (by omega)).trans hr1
  have q2 : (w1.alloc (.cells #[.int .i64 id.1,.int .i64 id.2] 24)).heap[u]? = some (.cells #[.int .i64 id.1,.int .i64 id.2] 24 (0,0)):=by rw [hu]; exact heap_alloc_new _ _
  have hb3:=hb2.alloc hb2.size (.cells #[.int .i64 id.1,.int .i64 id.2] 24)
  rw [← hu]
  generalize w1.alloc (.cells #[.int .i64 id.1,.int .i64 id.2] 24) = w2 at q0 q1 q2 hb3 ⊢
  clear hr0 hr1 hb2 hu
  obtain ⟨x0,x1⟩:=two_cells q0
  have d1w:=(hb3.cell (p:=⟨b,1,none⟩) hlt).trans d1
  obtain ⟨w3,hrun,hm3,hbut3,hsz3⟩:=(HE.out.kept (hb3.drew.block be HE.out.lt)).drop plShape Tryz.underlying83 (d,nm) 0
  simp only [plV] at hrun
  have HM3:=Lib.hid hm3
  have HU3:=Lib.hid hbut3
  have HB3:=Lib.hid hb3
  have HQ1:=Lib.hid q1
  have HQ2:=Lib.hid q2
  have hilt:=HI.out.lt
  have helt:=HE.out.lt
  clear hm3 hbut3 hb3 q0 q1 q2
  go_region
  clear hrun x0 x1 d1w
  have hb4 : But (fun i=>i = be) w w3:=(But.of_below HB3.out.drew).trans HU3.out fun i hi _=>hi
  have z1 : w3.heap[w.heap.size + 1]? = some (.cells #[.int .i64 0,.int .i64 0] 24 (0,0)):=HU3.out.heap (a:=w2.drew) HQ1.out (fun q=>by omega)
  have z2 : w3.heap[u]? = some (.cells #[.int .i64 id.1,.int .i64 id.2] 24 (0,0)):=HU3.out.heap (a:=w2.drew) HQ2.out (fun q=>by omega)
  have hblk:=hb4.heap HBlk.out (fun q=>h2 q)
  have hi3 : KMap stV inoV w3 bi (pairsI g):=HI.out.kept (hb4.block bi hilt fun q=>h3 q)
  have hs4:=hb4.size
  have hz1:=heap_lt z1
  have hz2:=heap_lt z2
  have HB4:=Lib.hid hb4
  obtain ⟨x0,x1⟩:=two_cells z2
  clear hb4
  go_wp2_with fail
  refine (HC.out _ hblk hi3).mono ?_
  rintro e w4 ⟨rfl,hm4,hb5⟩
  have v1 : w4.heap[w.heap.size + 1]? = some (.cells #[.int .i64 0,.int .i64 0] 24 (0,0)):=hb5.heap z1 (fun q=>by omega)
  have v2 : w4.heap[u]? = some (.cells #[.int .i64 id.1,.int .i64 id.2] 24 (0,0)):=hb5.heap z2 (fun q=>by omega)
  have HM4:=Lib.hid hm4
  have HB5:=Lib.hid hb5
  clear x0 x1 z1 z2 hblk hi3 hm4 hb5
  obtain ⟨x0,x1⟩:=two_cells v2
  obtain ⟨m0,m1⟩:=two_cells v1
  obtain ⟨f0,f1⟩:=two_free v1
  have HV1:=Lib.hid v1
  clear v1 v2
  go_wp2_with fail
  have hb7 : But (fun i=>i = bi∨i = be) w w4:=(HB4.out.mono (T:=fun i=>i = bi∨i = be) fun i hi=>Or.inr hi).trans HB5.out fun i hi _=>Or.inl hi
  have hb8 : But (fun i=>i = bi∨i = be) w ((w4.setCell ⟨w.heap.size + 1,0,none⟩ (.int .i64 id.1)).setCell ⟨w.heap.size + 1,1,none⟩ (.int .i64 id.2)):=(hb7.setCell (p:=⟨w.heap.size + 1,0,none⟩) (Or.inr (by dsimp only; omega)) _).setCell (p:=⟨w.heap.size + 1,1,none⟩) (Or.inr (by dsimp only; omega)) _
  have hk6 : ∀ i,i < w.heap.size→((w4.setCell ⟨w.heap.size + 1,0,none⟩ (.int .i64 id.1)).setCell ⟨w.heap.size + 1,1,none⟩ (.int .i64 id.2)).heap[i]? = w4.heap[i]?:=fun i hi=>(heap_setCell_other _ _ _ _ (by dsimp only; omega)).trans (heap_setCell_other _ _ _ _ (by dsimp only; omega))
  have hu : untieG g d nm = (⟨g.I,g.E.filter fun e=>!(decide (e.dir = d) && decide (e.name = nm))⟩,id,0):=by unfold untieG; rw [HO.out]
  have hok:=hg.untie d nm
  obtain ⟨z0,z1⟩:=two_cells (box_set (c:=.int .i64 id.1) (d:=.int .i64 id.2) HV1.out)
  refine bodyPost_ret (v:=.tuple #[.agg (stA id),.int .i64 0]) (by simp [results,Tryz.results166,go_sem,stA,z0,z1]) rfl ⟨by rw [hu]; rfl,⟨b,bi,be,rfl,h1,h2,h3,?_,?_,?_,HS.out⟩,hb8.mono fun i hi=>(HS.out i).2 (Or.inr hi)⟩
  ·exact hb8.heap HBlk.out (fun q=>q.elim h1 h2)
  ·refine KMap.perm ?_ (put_perm (keys_pairsI hg) (keys_pairsI hok) (x:=id) (v:={ X with links:=X.links + -1 }) fun k=>?_)
   ·exact HM4.out.kept (hk6 bi hilt)
   ·rw [look_pairsI hok,look_pairsI hg,untie_get hg HO.out]
    by_cases hk : k = id
    ·rw [if_pos hk,hk,HG.out]
     simp [Int.sub_eq_add_neg]
    ·rw [if_neg hk]
     cases getG g k <;> simp [hk]
  ·refine KMap.perm ?_ (off_perm (keys_pairsE hg) (keys_pairsE hok) (untie_look hg HO.out))
   exact (HM3.out.kept (HB5.out.block be (by omega) fun q=>h3 q.symm)).kept (hk6 be helt)

end Go.Proofs.YtdobeghbkonimaaGreatDoor
