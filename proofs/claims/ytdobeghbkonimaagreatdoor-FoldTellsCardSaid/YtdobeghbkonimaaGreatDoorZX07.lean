/-
 The walk of the document's own Do: a link, what is taken away, what is written, cut, set.
-/
import Derived.Test.YtdobeghbkonimaaGreatDoorZX06
import Derived.Test.YtdobeghbkonimaaGreatDoorZX02
import Derived.Test.YtdobeghbkonimaaGreatDoorZ01
import Derived.Test.YtdobeghbkonimaaGreatDoorZ01
import Derived.Test.YtdobeghbkonimaaGreatDoorZ01
import Derived.Deep.LoopGhost
import Derived.Deep.RegionWith
import Derived.Deep.Cut
import Derived.Deep.DeepCutAuto
namespace Go.Proofs.YtdobeghbkonimaaGreatDoor
open Go.RowKit StampMath GraphMath OpMath PackMath ExtentMath

set_option maxRecDepth 100000 in
set_option maxHeartbeats 3200000 in
theorem refDoOk (N : Nat→Prop) (v : Value) (g : Gr) (o : Opn) (hf : g.fine) (hw : whyA g o = 0) (hk4 : 4≤o.k) (hk7 : o.k ≠ 7) (z1 : o.name.size≤9223372036854775807) (z2 : o.new.size≤9223372036854775807) (z3 : o.data.size≤9223372036854775807) (ok : Ok64 o) (w : World) (hv : GrAt N w v g) :
  Calls Tryz.prog 48 #[v,.agg (opA o)] w (GrPost N (doA g o) w):=by
 have hg:=hf.ok
 have hdo : doA g o = (madeA g o,0):=by unfold doA; rw [if_pos hw]
 rw [hdo]
 have hm:=whyA_may hw
 obtain ⟨p1,p2,_,_,_,_,_,p8⟩:=mayO_parts hm
 obtain ⟨A,n,c,A',m,d,rfl,hV⟩:=hv.few hg.lenI hg.lenE
 have hH0 : Held w [(w.heap.size + 1 + 1,.cells #[.slice none 0 0,.slice none 0 0] 37),(w.heap.size + 1,.cells (opA o) 26),(w.heap.size,.cells #[.slice A n c,.slice A' m d] 37)]
  (((w.alloc (.cells #[.slice A n c,.slice A' m d] 37)).alloc (.cells (opA o) 26)).alloc (.cells #[.slice none 0 0,.slice none 0 0] 37)) :=
  (((Held.refl w).alloc (.cells #[.slice A n c,.slice A' m d] 37) rfl).alloc (.cells (opA o) 26) (by simp)).alloc (.cells #[.slice none 0 0,.slice none 0 0] 37) (by simp)
 have hv0:=hv.live.step (N':=Clear N w (w.heap.size + 1 + 1 + 1)) hH0.below fun i hi=>.inl hi
 have HW : Hid (∀ W : World,Below w.heap.size w W→Calls Tryz.prog 76 #[.agg #[.slice A n c,.slice A' m d],.agg (opA o)] W fun e w'=>e = .returned (.int .i64 0)∧Below W.heap.size W w'):=fun W hW=>by rw [← hw]; exact (hV.step hW).why o z1 z2 z3
 have HGt : Hid (∀ W : World,Below w.heap.size w W→Calls Tryz.prog 54 #[.agg #[.slice A n c,.slice A' m d],.agg #[.int .i64 o.it,.int .i64 o.ir]] W fun e w'=>e = .returned (.tuple #[.agg (inoA (inoG g (oIno o))),.bool (getG g (oIno o)).isSome])∧Below W.heap.size W w'):=fun W hW=>(hV.step hW).get (oIno o)
 generalize (getG g (oIno o)).isSome = xi at HGt
 obtain ⟨x,hx⟩ : ∃ x,x = inoG g (oIno o):=⟨_,rfl⟩
 rw [← hx] at HGt
 have H0:=Lib.hid hH0
 have V0:=Lib.hid hv0
 have HX:=Lib.hid hx
 clear hH0 hv0 hv hdo hV hx
 have HP:=Lib.hid (And.intro hf (And.intro hw (And.intro z1 (And.intro z2 (And.intro z3 (And.intro ok (And.intro hm p8)))))))
 clear hf hw z1 z2 z3 ok hm p8 hg
 unfold opA at HW H0 V0 ⊢
 unfold inoA at HGt
 unfold GrPost
 go_enter Tryz.func48,Tryz.ntmps48
 go_wp2_with fail
 refine (HW.out _ H0.out.below).mono ?_
 rintro e w1 ⟨rfl,hb1⟩
 have hH1:=H0.out.step hb1
 have hv1:=V0.out.clear_step hb1
 obtain ⟨g0,g1⟩:=two_cells (g:=w.heap.size) (hH1.at 2 rfl)
 obtain ⟨e0,e1,e2,e3,e4,e5,e6,e7,e8,e9,e10,e11,e12⟩:=op_cells (o:=o) (g:=w.heap.size + 1) (hH1.at 1 rfl)
 have H1:=Lib.hid hH1
 have V1:=Lib.hid hv1
 clear hH1 hv1 hb1 H0 V0 HW
 go_wp2_with fail
 refine (HGt.out _ H1.out.below).mono ?_
 rintro e w2 ⟨rfl,hb2⟩
 have hH2:=H1.out.step hb2
 have hv2:=V1.out.clear_step hb2
 clear H1 V1 HGt hb2 g0 g1 e0 e1 e2 e3 e4 e5 e6 e7 e8 e9 e10 e11 e12
 go_upto_region 5 with fail
 obtain ⟨ux,hux⟩ : ∃ u,u = w2.heap.size:=⟨_,rfl⟩
 have hlx : w.heap.size + 1 + 1 < ux:=by rw [hux]; exact heap_lt (hH2.at 0 rfl)
 have hH3:=hH2.alloc (.cells (inoA x) 59) hux.symm
 have hv3:=hv2.clear_step ((Below.refl w2.heap.size w2).alloc (Nat.le_refl _) (.cells (inoA x) 59))
 have hs3 : ux < (w2.alloc (.cells (inoA x) 59)).heap.size:=by rw [hux]; simp
 change Code.wp _ _ _ _ (w2.alloc (.cells (inoA x) 59))
 rw [← hux]
 generalize w2.alloc (.cells (inoA x) 59) = w3 at hH3 hv3 hs3 ⊢
 clear hH2 hv2 hux
 obtain ⟨g0,g1⟩:=two_cells (g:=w.heap.size) (hH3.at 3 rfl)
 obtain ⟨e0,e1,e2,e3,e4,e5,e6,e7,e8,e9,e10,e11,e12⟩:=op_cells (o:=o) (g:=w.heap.size + 1) (hH3.at 2 rfl)
 obtain ⟨r0,r1⟩:=two_cells (g:=w.heap.size + 1 + 1) (hH3.at 1 rfl)
 obtain ⟨s0,s1⟩:=two_free (g:=w.heap.size + 1 + 1) (hH3.at 1 rfl)
 obtain ⟨x0,x1,x2,x3,x4,x5⟩:=ino_cells (g:=ux) (hH3.at 0 rfl)
 have H3:=Lib.hid hH3
 have V3:=Lib.hid hv3
 clear hH3 hv3
 have hk : o.k = 4∨o.k = 5∨o.k = 6∨o.k = 8∨o.k = 9∨o.k = 10:=by omega
 rcases hk with hk | hk | hk | hk | hk | hk
 ·have HE : Hid (madeA g o = tie1 g (oAt o) o.name (oIno o)):=Lib.hid (by unfold madeA; rw [if_neg (by omega),if_pos hk])
  have b1 : (o.k == 1) = false:=by simp; omega
  have b2 : (o.k == 2) = false:=by simp; omega
  have b3 : (o.k == 3) = false:=by simp; omega
  have b4 : (o.k == 4) = true:=by simp; omega
  obtain ⟨hf,hw,z1,z2,z3,ok,hm,p8⟩:=HP.out
  have HT:=Lib.hid (refTie1 _ _ g (oAt o) o.name (oIno o) hf.ok z1 w3 V3.out)
  unfold stA oAt oIno G1Post at HT
  clear hf hw z1 z2 z3 ok hm p8 hk p1 p2
  go_wp2_with fail
  refine HT.out.mono ?_
  rintro e w4 ⟨C,j,p,C',j',p',rfl,q4,hb4⟩
  clear HT g0 g1 e0 e1 e2 e3 e4 e5 e6 e7 e8 e9 e10 e11 e12 r0 r1 s0 s1 x0 x1 x2 x3 x4 x5
  have hH4:=H3.out.step hb4
  obtain ⟨r0,r1⟩:=two_cells (g:=w.heap.size + 1 + 1) (hH4.at 1 rfl)
  obtain ⟨s0,s1⟩:=two_free (g:=w.heap.size + 1 + 1) (hH4.at 1 rfl)
  have Q2:=Lib.hid (clear_end (res:=w.heap.size + 1 + 1) (q4.clear (by omega)) hH4.below (by omega) (by omega) (.slice C j p) (.slice C' j' p'))
  clear hH4 q4 hb4 H3 V3
  go_wp2_with fail
  exact bodyPost_ret (v:=.tuple #[.agg #[.slice C j p,.slice C' j' p'],.int .i64 0]) (by simp [results,Tryz.results48,go_sem,r0,r1]) rfl ⟨_,rfl,by rw [HE.out]; exact Q2.out⟩
 ·have HE : Hid (madeA g o = goneG g (oAt o) o.name):=Lib.hid (by unfold madeA; rw [if_neg (by omega),if_neg (by omega),if_pos (by omega)])
  have b1 : (o.k == 1) = false:=by simp; omega
  have b2 : (o.k == 2) = false:=by simp; omega
  have b3 : (o.k == 3) = false:=by simp; omega
  have b4 : (o.k == 4) = false:=by simp; omega
  have b5 : (o.k == 5) = true:=by simp; omega
  obtain ⟨hf,hw,z1,z2,z3,ok,hm,p8⟩:=HP.out
  have HT:=Lib.hid (refGone _ _ g (oAt o) o.name hf.ok w3 V3.out)
  unfold stA oAt G1Post at HT
  clear hf hw z1 z2 z3 ok hm p8 hk p1 p2
  go_wp2_with fail
  refine HT.out.mono ?_
  rintro e w4 ⟨C,j,p,C',j',p',rfl,q4,hb4⟩
  clear HT g0 g1 e0 e1 e2 e3 e4 e5 e6 e7 e8 e9 e10 e11 e12 r0 r1 s0 s1 x0 x1 x2 x3 x4 x5
  have hH4:=H3.out.step hb4
  obtain ⟨r0,r1⟩:=two_cells (g:=w.heap.size + 1 + 1) (hH4.at 1 rfl)
  obtain ⟨s0,s1⟩:=two_free (g:=w.heap.size + 1 + 1) (hH4.at 1 rfl)
  have Q2:=Lib.hid (clear_end (res:=w.heap.size + 1 + 1) (q4.clear (by omega)) hH4.below (by omega) (by omega) (.slice C j p) (.slice C' j' p'))
  clear hH4 q4 hb4 H3 V3
  go_wp2_with fail
  exact bodyPost_ret (v:=.tuple #[.agg #[.slice C j p,.slice C' j' p'],.int .i64 0]) (by simp [results,Tryz.results48,go_sem,r0,r1]) rfl ⟨_,rfl,by rw [HE.out]; exact Q2.out⟩
 ·have HE : Hid (madeA g o = goneG g (oAt o) o.name):=Lib.hid (by unfold madeA; rw [if_neg (by omega),if_neg (by omega),if_pos (by omega)])
  have b1 : (o.k == 1) = false:=by simp; omega
  have b2 : (o.k == 2) = false:=by simp; omega
  have b3 : (o.k == 3) = false:=by simp; omega
  have b4 : (o.k == 4) = false:=by simp; omega
  have b5 : (o.k == 5) = false:=by simp; omega
  have b6 : (o.k == 6) = true:=by simp; omega
  obtain ⟨hf,hw,z1,z2,z3,ok,hm,p8⟩:=HP.out
  have HT:=Lib.hid (refGone _ _ g (oAt o) o.name hf.ok w3 V3.out)
  unfold stA oAt G1Post at HT
  clear hf hw z1 z2 z3 ok hm p8 hk p1 p2
  go_wp2_with fail
  refine HT.out.mono ?_
  rintro e w4 ⟨C,j,p,C',j',p',rfl,q4,hb4⟩
  clear HT g0 g1 e0 e1 e2 e3 e4 e5 e6 e7 e8 e9 e10 e11 e12 r0 r1 s0 s1 x0 x1 x2 x3 x4 x5
  have hH4:=H3.out.step hb4
  obtain ⟨r0,r1⟩:=two_cells (g:=w.heap.size + 1 + 1) (hH4.at 1 rfl)
  obtain ⟨s0,s1⟩:=two_free (g:=w.heap.size + 1 + 1) (hH4.at 1 rfl)
  have Q2:=Lib.hid (clear_end (res:=w.heap.size + 1 + 1) (q4.clear (by omega)) hH4.below (by omega) (by omega) (.slice C j p) (.slice C' j' p'))
  clear hH4 q4 hb4 H3 V3
  go_wp2_with fail
  exact bodyPost_ret (v:=.tuple #[.agg #[.slice C j p,.slice C' j' p'],.int .i64 0]) (by simp [results,Tryz.results48,go_sem,r0,r1]) rfl ⟨_,rfl,by rw [HE.out]; exact Q2.out⟩
 ·have HE : Hid (madeA g o = (setG g (oIno o) x.mode (wR x.data o.off o.data).1).1):=Lib.hid (by obtain ⟨hf,_,_,_,_,_,hm,_⟩:=HP.out; rw [HX.out,wrote_is hf hm hk]; unfold madeA; rw [if_neg (by omega),if_neg (by omega),if_neg (by omega),if_neg (by omega),if_pos hk])
  have b1 : (o.k == 1) = false:=by simp; omega
  have b2 : (o.k == 2) = false:=by simp; omega
  have b3 : (o.k == 3) = false:=by simp; omega
  have b4 : (o.k == 4) = false:=by simp; omega
  have b5 : (o.k == 5) = false:=by simp; omega
  have b6 : (o.k == 6) = false:=by simp; omega
  have b7 : (o.k == 7) = false:=by simp; omega
  have b8 : (o.k == 8) = true:=by simp; omega
  obtain ⟨hf,hw,z1,z2,z3,ok,hm,p8⟩:=HP.out
  have hxd : x.data.size≤2000:=by have:=inoG_small hf (oIno o); rw [HX.out]; omega
  have hsd:=data_small hm hk
  have HR:=Lib.hid (refWrite x.data o.off o.data hxd (by omega) ok.off w3)
  obtain ⟨dd,hdd⟩ : ∃ dd,dd = (wR x.data o.off o.data).1:=⟨_,rfl⟩
  rw [← hdd] at HR HE
  generalize (wR x.data o.off o.data).2 = de at HR
  have HT:=Lib.hid fun (W : World) (hW : Below w3.heap.size w3 W)=>refSet1 _ _ g (oIno o) x.mode dd hf.ok W (V3.out.clear_step hW)
  unfold stA oIno G1Post at HT
  clear hf hw z1 z2 z3 ok hm p8 hk p1 p2 hxd hdd hsd
  go_wp2_with fail
  refine HR.out.mono ?_
  rintro e w4 ⟨rfl,hb4⟩
  have hT4:=HT.out w4 hb4
  have hH4:=H3.out.step hb4
  have hs4:=hb4.size
  clear HT g0 g1 e0 e1 e2 e3 e4 e5 e6 e7 e8 e9 e10 e11 e12 r0 r1 s0 s1 x0 x1 x2 x3 x4 x5 hb4 H3 V3 HR
  obtain ⟨g0,g1⟩:=two_cells (g:=w.heap.size) (hH4.at 3 rfl)
  obtain ⟨e0,e1,e2,e3,e4,e5,e6,e7,e8,e9,e10,e11,e12⟩:=op_cells (o:=o) (g:=w.heap.size + 1) (hH4.at 2 rfl)
  obtain ⟨x0,x1,x2,x3,x4,x5⟩:=ino_cells (g:=ux) (hH4.at 0 rfl)
  have HT:=Lib.hid hT4
  have H4:=Lib.hid hH4
  clear hT4 hH4
  go_wp2_with fail
  refine HT.out.mono ?_
  rintro e w5 ⟨C,j,p,C',j',p',rfl,q5,hb5⟩
  clear HT g0 g1 e0 e1 e2 e3 e4 e5 e6 e7 e8 e9 e10 e11 e12 x0 x1 x2 x3 x4 x5
  have hH5:=H4.out.step hb5
  obtain ⟨r0,r1⟩:=two_cells (g:=w.heap.size + 1 + 1) (hH5.at 1 rfl)
  obtain ⟨s0,s1⟩:=two_free (g:=w.heap.size + 1 + 1) (hH5.at 1 rfl)
  have Q2:=Lib.hid (clear_end (res:=w.heap.size + 1 + 1) (q5.clear (by omega)) hH5.below (by omega) (by omega) (.slice C j p) (.slice C' j' p'))
  clear hH5 q5 hb5 H4
  go_wp2_with fail
  exact bodyPost_ret (v:=.tuple #[.agg #[.slice C j p,.slice C' j' p'],.int .i64 0]) (by simp [results,Tryz.results48,go_sem,r0,r1]) rfl ⟨_,rfl,by rw [HE.out]; exact Q2.out⟩
 ·have HE : Hid (madeA g o = (setG g (oIno o) x.mode (tR x.data o.off).1).1):=Lib.hid (by obtain ⟨hf,_,_,_,_,_,hm,_⟩:=HP.out; rw [HX.out,cut_is hf hm hk]; unfold madeA; rw [if_neg (by omega),if_neg (by omega),if_neg (by omega),if_neg (by omega),if_neg (by omega),if_pos hk])
  have b1 : (o.k == 1) = false:=by simp; omega
  have b2 : (o.k == 2) = false:=by simp; omega
  have b3 : (o.k == 3) = false:=by simp; omega
  have b4 : (o.k == 4) = false:=by simp; omega
  have b5 : (o.k == 5) = false:=by simp; omega
  have b6 : (o.k == 6) = false:=by simp; omega
  have b7 : (o.k == 7) = false:=by simp; omega
  have b8 : (o.k == 8) = false:=by simp; omega
  have b9 : (o.k == 9) = true:=by simp; omega
  obtain ⟨hf,hw,z1,z2,z3,ok,hm,p8⟩:=HP.out
  have hxd : x.data.size≤2000:=by have:=inoG_small hf (oIno o); rw [HX.out]; omega
  have HR:=Lib.hid (refTrunc x.data o.off hxd w3)
  obtain ⟨dd,hdd⟩ : ∃ dd,dd = (tR x.data o.off).1:=⟨_,rfl⟩
  rw [← hdd] at HR HE
  generalize (tR x.data o.off).2 = de at HR
  have HT:=Lib.hid fun (W : World) (hW : Below w3.heap.size w3 W)=>refSet1 _ _ g (oIno o) x.mode dd hf.ok W (V3.out.clear_step hW)
  unfold stA oIno G1Post at HT
  clear hf hw z1 z2 z3 ok hm p8 hk p1 p2 hxd hdd
  go_wp2_with fail
  refine HR.out.mono ?_
  rintro e w4 ⟨rfl,hb4⟩
  have hT4:=HT.out w4 hb4
  have hH4:=H3.out.step hb4
  have hs4:=hb4.size
  clear HT g0 g1 e0 e1 e2 e3 e4 e5 e6 e7 e8 e9 e10 e11 e12 r0 r1 s0 s1 x0 x1 x2 x3 x4 x5 hb4 H3 V3 HR
  obtain ⟨g0,g1⟩:=two_cells (g:=w.heap.size) (hH4.at 3 rfl)
  obtain ⟨e0,e1,e2,e3,e4,e5,e6,e7,e8,e9,e10,e11,e12⟩:=op_cells (o:=o) (g:=w.heap.size + 1) (hH4.at 2 rfl)
  obtain ⟨x0,x1,x2,x3,x4,x5⟩:=ino_cells (g:=ux) (hH4.at 0 rfl)
  have HT:=Lib.hid hT4
  have H4:=Lib.hid hH4
  clear hT4 hH4
  go_wp2_with fail
  refine HT.out.mono ?_
  rintro e w5 ⟨C,j,p,C',j',p',rfl,q5,hb5⟩
  clear HT g0 g1 e0 e1 e2 e3 e4 e5 e6 e7 e8 e9 e10 e11 e12 x0 x1 x2 x3 x4 x5
  have hH5:=H4.out.step hb5
  obtain ⟨r0,r1⟩:=two_cells (g:=w.heap.size + 1 + 1) (hH5.at 1 rfl)
  obtain ⟨s0,s1⟩:=two_free (g:=w.heap.size + 1 + 1) (hH5.at 1 rfl)
  have Q2:=Lib.hid (clear_end (res:=w.heap.size + 1 + 1) (q5.clear (by omega)) hH5.below (by omega) (by omega) (.slice C j p) (.slice C' j' p'))
  clear hH5 q5 hb5 H4
  go_wp2_with fail
  exact bodyPost_ret (v:=.tuple #[.agg #[.slice C j p,.slice C' j' p'],.int .i64 0]) (by simp [results,Tryz.results48,go_sem,r0,r1]) rfl ⟨_,rfl,by rw [HE.out]; exact Q2.out⟩
 ·have HE : Hid (madeA g o = (setG g (oIno o) o.off x.data).1):=Lib.hid (by rw [HX.out]; unfold madeA; rw [if_neg (by omega),if_neg (by omega),if_neg (by omega),if_neg (by omega),if_neg (by omega),if_neg (by omega)])
  have b1 : (o.k == 1) = false:=by simp; omega
  have b2 : (o.k == 2) = false:=by simp; omega
  have b3 : (o.k == 3) = false:=by simp; omega
  have b4 : (o.k == 4) = false:=by simp; omega
  have b5 : (o.k == 5) = false:=by simp; omega
  have b6 : (o.k == 6) = false:=by simp; omega
  have b7 : (o.k == 7) = false:=by simp; omega
  have b8 : (o.k == 8) = false:=by simp; omega
  have b9 : (o.k == 9) = false:=by simp; omega
  obtain ⟨hf,hw,z1,z2,z3,ok,hm,p8⟩:=HP.out
  have HT:=Lib.hid (refSet1 _ _ g (oIno o) o.off x.data hf.ok w3 V3.out)
  unfold stA oIno G1Post at HT
  clear hf hw z1 z2 z3 ok hm p8 hk p1 p2
  go_wp2_with fail
  refine HT.out.mono ?_
  rintro e w4 ⟨C,j,p,C',j',p',rfl,q4,hb4⟩
  clear HT g0 g1 e0 e1 e2 e3 e4 e5 e6 e7 e8 e9 e10 e11 e12 r0 r1 s0 s1 x0 x1 x2 x3 x4 x5
  have hH4:=H3.out.step hb4
  obtain ⟨r0,r1⟩:=two_cells (g:=w.heap.size + 1 + 1) (hH4.at 1 rfl)
  obtain ⟨s0,s1⟩:=two_free (g:=w.heap.size + 1 + 1) (hH4.at 1 rfl)
  have Q2:=Lib.hid (clear_end (res:=w.heap.size + 1 + 1) (q4.clear (by omega)) hH4.below (by omega) (by omega) (.slice C j p) (.slice C' j' p'))
  clear hH4 q4 hb4 H3 V3
  go_wp2_with fail
  exact bodyPost_ret (v:=.tuple #[.agg #[.slice C j p,.slice C' j' p'],.int .i64 0]) (by simp [results,Tryz.results48,go_sem,r0,r1]) rfl ⟨_,rfl,by rw [HE.out]; exact Q2.out⟩

end Go.Proofs.YtdobeghbkonimaaGreatDoor

namespace Go.Proofs.YtdobeghbkonimaaGreatDoor
open Go.RowKit StampMath GraphMath OpMath

theorem refDo (N : Nat→Prop) (v : Value) (g : Gr) (o : Opn) (hf : g.fine) (z1 : o.name.size≤9223372036854775807) (z2 : o.new.size≤9223372036854775807) (z3 : o.data.size≤9223372036854775807) (ok : Ok64 o) (w : World) (hv : GrAt N w v g) :
  Calls Tryz.prog 48 #[v,.agg (opA o)] w (GrPost N (doA g o) w):=by
 by_cases hw : whyA g o = 0
 ·by_cases h3 : o.k≤3
  ·exact refDoMake N v g o hf hw h3 z1 z2 z3 ok w hv
  ·by_cases h7 : o.k = 7
   ·exact refDoRename N v g o hf hw h7 z1 z2 z3 ok w hv
   ·exact refDoOk N v g o hf hw (by omega) h7 z1 z2 z3 ok w hv
 ·exact refDoBad N v g o hf.ok hw z1 z2 z3 w hv

end Go.Proofs.YtdobeghbkonimaaGreatDoor

namespace Go.Proofs.YtdobeghbkonimaaGreatDoor
open Go.RowKit StampMath GraphMath

set_option maxRecDepth 100000 in
set_option maxHeartbeats 800000 in
theorem refGraphNew (w : World) :
  Calls Tryz.prog 47 #[] w fun e w'=>∃ v,e = .returned v∧GrAt (fun i=>w.heap.size≤i) w' v newG∧Below w.heap.size w w':=by
 go_enter Tryz.func47,Tryz.ntmps47
 go_wp2_with fail
 have hx:=heap_alloc_new (w.alloc (.cells #[.slice (some ⟨w.heap.size + 1,0,none⟩) 1 1,.slice none 0 0] 37)) (.cells (inoA ⟨(0,0),1,0,0,⟨#[]⟩⟩) 59)
 rw [World.size_alloc] at hx
 have hI : InosIn ((w.alloc (.cells #[.slice (some ⟨w.heap.size + 1,0,none⟩) 1 1,.slice none 0 0] 37)).alloc (.cells (inoA ⟨(0,0),1,0,0,⟨#[]⟩⟩) 59)) ((w.alloc (.cells #[.slice (some ⟨w.heap.size + 1,0,none⟩) 1 1,.slice none 0 0] 37)).alloc (.cells (inoA ⟨(0,0),1,0,0,⟨#[]⟩⟩) 59)).heap.size (some ⟨w.heap.size + 1,0,none⟩) 1 newG.I :=
  ⟨rfl,fun _=>⟨w.heap.size + 1,0,rfl,by simp,fun j hj i v hv=>by
   have hj0 : j = 0:=by have : j < 1:=hj; omega
   subst hj0
   rw [show (0 : Nat) + 0 * 6 + i = i by omega,cell_of_row _ _ i _ _ (0,0) hx]
   exact hv⟩⟩
 exact bodyPost_ret (v:=.agg #[.slice (some ⟨w.heap.size + 1,0,none⟩) 1 1,.slice none 0 0]) (by simp [results,Tryz.results47,go_sem]) rfl
  ⟨_,rfl,⟨some ⟨w.heap.size + 1,0,none⟩,1,1,none,0,0,rfl,hI,⟨Nat.le_refl _,by decide,(fun h=>by cases h),(fun _ p hp=>by cases hp; exact Nat.le_succ _)⟩,TabIn.nil 5 _ _ _,⟨Nat.le_refl _,by decide,fun _=>rfl,(fun _ p hp=>by cases hp)⟩⟩,((Below.refl _ w).alloc (Nat.le_refl _) _).alloc (by simp) _⟩

end Go.Proofs.YtdobeghbkonimaaGreatDoor

namespace Go.Proofs.YtdobeghbkonimaaGreatDoor
open Go.RowKit StampMath GraphMath OpMath PackMath

structure BoxedO (N : Nat→Prop) (w W : World) (bx rs : Nat) (γ : Gr) (X : Option Addr) (n1 c1 : Nat) (Y : Option Addr) (m1 d1 : Nat) (A : Option Addr) (n : Nat) (l : List Opn) : Prop where
 x : GrAt (fun i=>(MoreN N w i∧i ≠ bx∧i ≠ rs)∧i < W.heap.size) W (.agg #[.slice X n1 c1,.slice Y m1 d1]) γ
 ge : w.heap.size≤bx
 ge' : w.heap.size≤rs
 ne : bx < rs
 box : W.heap[bx]? = some (.cells #[.slice X n1 c1,.slice Y m1 d1] 37 (0,0))
 res : W.heap[rs]? = some (.cells #[.slice none 0 0,.slice none 0 0] 37 (0,0))
 below : Below w.heap.size w W
 ops : OpsIn W W.heap.size A n l

theorem ops_unbox {W : World} {B : Nat} {A : Option Addr} {n : Nat} {l : List Opn} (h : OpsIn W B A n l) {bx : Nat} {X : Option Addr} {n1 c1 : Nat} {Y : Option Addr} {m1 d1 : Nat} {T : TypeId} (hb : W.heap[bx]? = some (.cells #[.slice X n1 c1,.slice Y m1 d1] T (0,0))) (hn : 0 < n) : ∀ p,A = some p→p.block ≠ bx:=by
 intro p hp e
 obtain ⟨g,o,e',hg,hrow⟩:=h.row hn
 rw [hp] at e'
 injection e' with e'
 subst e'
 have hl:=h.len
 obtain ⟨c0,_⟩:=hrow 0 (by omega)
 have e1 : bx = g:=e.symm
 subst e1
 obtain ⟨k,hk⟩ : ∃ k,k = o + 0 * 13:=⟨_,rfl⟩
 rw [← hk] at c0
 rcases k with _ | _ | k
 ·rw [cell_of_row _ _ 0 _ _ (0,0) hb] at c0
  cases c0
 ·rw [cell_of_row _ _ 1 _ _ (0,0) hb] at c0
  cases c0
 ·rw [cell_of_row _ _ (k + 2) _ _ (0,0) hb] at c0
  cases c0

theorem boxedO_start {N : Nat→Prop} {w w4 : World} {γ : Gr} {X : Option Addr} {n1 c1 : Nat} {Y : Option Addr} {m1 d1 : Nat} {A : Option Addr} {n : Nat} {l : List Opn}
  (hv : GrAt N w (.agg #[.slice X n1 c1,.slice Y m1 d1]) γ) {u v : Nat} (hu : u = w.heap.size) (hv' : v = u + 1)
  (hb : Below ((w.alloc (.cells #[.slice X n1 c1,.slice Y m1 d1] 37)).alloc (.cells #[.slice none 0 0,.slice none 0 0] 37)).heap.size ((w.alloc (.cells #[.slice X n1 c1,.slice Y m1 d1] 37)).alloc (.cells #[.slice none 0 0,.slice none 0 0] 37)) w4)
  (hO : OpsIn w4 w4.heap.size A n l) : BoxedO N w w4 u v γ X n1 c1 Y m1 d1 A n l:=by
 have hH:=(((Held.refl w).alloc (.cells #[.slice X n1 c1,.slice Y m1 d1] 37) (g:=u) hu.symm).alloc (.cells #[.slice none 0 0,.slice none 0 0] 37) (g:=v) (by simp [hu,hv'])).step hb
 have hb4:=hH.below
 have hs:=hb4.size
 refine ⟨hv.live.step hb4 fun i hi=>⟨⟨.inl hi.1,by have:=hi.2; omega,by have:=hi.2; omega⟩,by have:=hi.2; omega⟩,by omega,by omega,by omega,hH.at 1 rfl,hH.at 0 rfl,hb4,hO⟩

theorem boxedO_end {N : Nat→Prop} {w w6 w9 : World} {bx rs : Nat} {γ φ : Gr} {X X0 : Option Addr} {n1 c1 n0 c0 : Nat} {Y Y0 : Option Addr} {m1 d1 m0 d0 : Nat} {A : Option Addr} {n : Nat} {l : List Opn} (h : BoxedO N w w6 bx rs γ X0 n0 c0 Y0 m0 d0 A n l) (hB : Below w6.heap.size w6 w9)
  (q8 : GrAt (MoreN (fun i=>(MoreN N w i∧i ≠ bx∧i ≠ rs)∧i < w6.heap.size) w6) w9 (.agg #[.slice X n1 c1,.slice Y m1 d1]) φ) :
  BoxedO N w ((w9.setCell ⟨bx,0,none⟩ (.slice X n1 c1)).setCell ⟨bx,1,none⟩ (.slice Y m1 d1)) bx rs φ X n1 c1 Y m1 d1 A n l:=by
 have hlt:=heap_lt h.box
 have hlt':=heap_lt h.res
 have hge:=h.ge
 have hne:=h.ne
 have hs:=hB.size
 have hs6:=h.below.size
 have h9:=(hB.block bx hlt).trans h.box
 refine ⟨q8.live.keep (fun i hi=>?_) (by simp) fun i hi=>?_,hge,h.ge',hne,?_,?_,?_,?_⟩
 ·have hne : i ≠ bx:=by
   rcases hi.1 with q | q
   ·exact q.1.2.1
   ·omega
  rw [heap_setCell_other _ _ _ _ hne,heap_setCell_other _ _ _ _ hne]
 ·have h2:=hi.2
  refine ⟨?_,by simpa using h2⟩
  rcases hi.1 with q | q
  ·exact q.1
  ·exact ⟨.inr (by omega),by omega,by omega⟩
 ·rw [heap_setCell_same _ _ _ _ _ _ (heap_setCell_same _ _ _ _ _ _ h9)]
  rfl
 ·rw [heap_setCell_other _ _ _ _ (show rs ≠ bx by omega),heap_setCell_other _ _ _ _ (show rs ≠ bx by omega)]
  exact (hB.block _ (by omega)).trans h.res
 ·exact ((below_step h.below hB).setCell (p:=⟨bx,0,none⟩) (by dsimp only; omega) _).setCell (p:=⟨bx,1,none⟩) (by dsimp only; omega) _
 ·refine TabIn.keep ((h.ops.below hB).more hs) (fun hn p hp=>?_) (by simp)
  have hne:=ops_unbox h.ops h.box hn p hp
  rw [heap_setCell_other _ _ _ _ hne,heap_setCell_other _ _ _ _ hne]

set_option maxRecDepth 100000 in
set_option maxHeartbeats 3200000 in
theorem refOn_of (refSort : ∀ (A : Option Addr) (n c : Nat) (l : List Opn) (_ : n≤60) (_ : ∀ o∈l,OpFit o) (w : World) (_ : OpsIn w w.heap.size A n l),Calls Tryz.prog 15 #[.slice A n c] w (OpsPost (sortO l) w))
  (N : Nat→Prop) (v : Value) (γ : Gr) (hf : γ.fine) (A : Option Addr) (n c : Nat) (l : List Opn) (hn : n≤60) (hfit : ∀ o∈l,OpFit o) (w : World) (hv : GrAt N w v γ) (h : OpsIn w w.heap.size A n l) :
  Calls Tryz.prog 19 #[v,.slice A n c] w fun e w'=>∃ v',e = .returned v'∧GrAt (MoreN N w) w' v' (runG γ (sortO l))∧Below w.heap.size w w':=by
 obtain ⟨X,n1,c1,Y,m1,d1,rfl⟩:=hv.form
 have hl:=h.len
 have hsl:=sort_len l
 have HS:=Lib.hid (fun o (ho : o∈sortO l)=>hfit o (sort_sub o ho))
 obtain ⟨s,hs⟩ : ∃ s,s = sortO l:=⟨_,rfl⟩
 obtain ⟨u,hu⟩ : ∃ u,u = w.heap.size:=⟨_,rfl⟩
 have R0 : Hid (∀ W,Below w.heap.size w W→Calls Tryz.prog 15 #[.slice A n c] W (OpsPost (sortO l) W)):=Lib.hid fun W hW=>refSort A n c l hn hfit W ((h.below hW).more hW.size)
 have HB : Hid (∀ w4 A n l,Below ((w.alloc (.cells #[.slice X n1 c1,.slice Y m1 d1] 37)).alloc (.cells #[.slice none 0 0,.slice none 0 0] 37)).heap.size ((w.alloc (.cells #[.slice X n1 c1,.slice Y m1 d1] 37)).alloc (.cells #[.slice none 0 0,.slice none 0 0] 37)) w4→OpsIn w4 w4.heap.size A n l→BoxedO N w w4 u (u + 1) γ X n1 c1 Y m1 d1 A n l):=Lib.hid fun w4 A n l hb hO=>boxedO_start hv hu rfl hb hO
 unfold OpsPost at R0
 rw [← hs] at R0 HS hsl ⊢
 clear h hfit hv
 go_enter Tryz.func19,Tryz.ntmps19
 go_wp2_with fail
 refine (R0.out _ (((Below.refl _ w).alloc (Nat.le_refl _) _).alloc (by simp) _)).mono ?_
 rintro e w4 ⟨B,k4,rfl,hO,_,_,_,hb4⟩
 have P0:=Lib.hid (HB.out _ _ _ _ hb4 hO)
 clear HB hb4 hO hs
 go_wp2_with fail
 rw [← hu]
 clear R0
 clear hu
 go_loopg [6] 61 (fun gk i wr=>∃ (k : Nat) (X : Option Addr) (n1 c1 : Nat) (Y : Option Addr) (m1 d1 : Nat),i = .int .i64 (k : Int)∧gk + k = 61∧k≤s.length∧Hid (BoxedO N w wr u (u + 1) (runG γ (s.take k)) X n1 c1 Y m1 d1 B s.length s))
 case atStart=>exact ⟨0,X,n1,c1,Y,m1,d1,rfl,by omega,by omega,P0⟩
 case round =>
  clear P0
  obtain ⟨k,Xa,na,ca,Ya,ma,da,rfl,hgk,hk,hP⟩:=hrel
  have HG:=Lib.hid hgk
  clear hgk
  by_cases hlt : k < s.length
  ·obtain ⟨gi,o,rfl,hg,hcell⟩:=hP.out.ops.row (by omega)
   have hca:=hcell k hlt
   have hnm:=HS.out _ (List.getElem_mem hlt)
   obtain ⟨d,hd⟩ : ∃ d,s[k] = d:=⟨_,rfl⟩
   have hnx:=runG_next γ (l:=s) (k:=k) hlt
   rw [hd] at hca hnm hnx
   have HNX:=Lib.hid hnx
   have HFi:=Lib.hid (runG_fine hf (s.take k))
   have HNM:=Lib.hid hnm
   have hi0 : (0 : Int)≤(k : Int):=by omega
   have hi1 : (k : Int) < (s.length : Int):=by omega
   obtain ⟨w6,hw6⟩ : ∃ W,W = wr:=⟨_,rfl⟩
   rw [← hw6] at hP hca hg ⊢
   have HD : Hid (∀ W,Below w6.heap.size w6 W→OpAt W gi (o + k * 13) d):=fun W hW=>hca.below hW hg
   clear hw6 hcell hd hnm hlt hnx
   obtain ⟨z0,z1,z2,z3,z4,z5,z6,z7,z8,z9,z10,z11,z12⟩:=hca
   obtain ⟨x0,x1⟩:=two_cells hP.out.box
   have R : Hid (∀ W,Below w6.heap.size w6 W→Calls Tryz.prog 48 #[.agg #[.slice Xa na ca,.slice Ya ma da],.agg #[.int .i64 d.st,.int .i64 d.sr,.int .i64 d.k,.int .i64 d.pt,.int .i64 d.pr,.int .i64 d.it,.int .i64 d.ir,.int .i64 d.tt,.int .i64 d.tr,.string d.name,.string d.new,.int .i64 d.off,.string d.data]] W fun e w' =>
     ∃ (X : Option Addr) (n1 c1 : Nat) (Y : Option Addr) (m1 d1 : Nat),e = .returned (.tuple #[.agg #[.slice X n1 c1,.slice Y m1 d1],.int .i64 (doA (runG γ (s.take k)) d).2])∧GrAt (MoreN (fun i=>(MoreN N w i∧i ≠ u∧i ≠ u + 1)∧i < w6.heap.size) W) w' (.agg #[.slice X n1 c1,.slice Y m1 d1]) (doA (runG γ (s.take k)) d).1∧Below W.heap.size W w'):=fun W hW=>by
    have h1:=HNM.out.name
    have h2:=HNM.out.new
    have h3:=HNM.out.data
    unfold maxLen at h1 h2 h3
    refine (refDo _ _ _ d HFi.out (by omega) (by omega) (by omega) HNM.out.ok W (hP.out.x.step hW)).mono ?_
    rintro e w' ⟨v,rfl,q1,q2⟩
    obtain ⟨X,n1,c1,Y,m1,d1,rfl⟩:=q1.form
    exact ⟨X,n1,c1,Y,m1,d1,rfl,q1,q2⟩
   generalize (doA (runG γ (s.take k)) d).1 = φ at R HNX
   generalize (doA (runG γ (s.take k)) d).2 = er at R
   have hNl : Hid (∀ i,(fun i=>(MoreN N w i∧i ≠ u∧i ≠ u + 1)∧i < w6.heap.size) i→i < w6.heap.size):=fun i hi=>hi.2
   go_upto_region 5 with fail
   go_cut [7,8] from 11 to 26 (fun v1 v2 wx=>Told (fun i=>(MoreN N w i∧i ≠ u∧i ≠ u + 1)∧i < w6.heap.size) w6 φ er v1 v2 wx)
   case first =>
    have zb:=heap_lt hP.out.box
    have zg : gi < w6.heap.size:=hg
    go_region_with (first
     | (go_at_call 48; (with_reducible refine (R.out ((w6.alloc (.cells #[.slice none 0 0,.slice none 0 0] 37)).drew) (by repeat (first | exact Below.refl _ _ | assumption | apply Below.drew | exact (Below.refl _ _).alloc (Nat.le_refl _) _))).mono ?_); rintro e w8 ⟨X8,n8,c8,Y8,m8,d8,rfl,q8,hb8⟩; have hx8:=box_behind hb8; obtain ⟨y0,y1⟩:=two_cells hx8; obtain ⟨y2,y3⟩:=two_free hx8)
     | (go_at_call 48; (with_reducible refine (R.out _ (by repeat (first | exact Below.refl _ _ | assumption | apply Below.drew | exact (Below.refl _ _).alloc (Nat.le_refl _) _))).mono ?_); rintro e w8 ⟨X8,n8,c8,Y8,m8,d8,rfl,q8,hb8⟩))
    all_goals
     go_wp2_with fail
     go_meet
    all_goals (case rel=>first | exact told_after (by repeat (first | exact Below.refl _ _ | assumption | apply Below.drew)) q8 hb8 | exact told_before hNl.out hx8 q8 hb8)
   case rest =>
    obtain ⟨bn,X8,n8,c8,Y8,m8,d8,rfl,rfl,hB8,hge8,hbox8,q8⟩:=hcut
    generalize wc = w9 at hB8 hbox8 q8 ⊢
    have hx9:=(hB8.block _ (heap_lt hP.out.box)).trans hP.out.box
    have HE : Hid (BoxedO N w ((w9.setCell ⟨u,0,none⟩ (.slice X8 n8 c8)).setCell ⟨u,1,none⟩ (.slice Y8 m8 d8)) u (u + 1) φ X8 n8 c8 Y8 m8 d8 (some ⟨gi,o,none⟩) s.length s):=boxedO_end hP.out hB8 q8
    clear x0 x1 z0 z1 z2 z3 z4 z5 z6 z7 z8 z9 z10 z11 z12 q8
    obtain ⟨x0,x1⟩:=two_cells hx9
    obtain ⟨y0,y1⟩:=two_cells hbox8
    obtain ⟨f0,f1⟩:=two_free hx9
    clear hx9 hB8 hge8 hbox8 R hNl HD
    go_wp2_with fail
    go_roundg (gk - 1)
    case measure=>have:=HG.out; omega
    case rel=>exact ⟨k + 1,X8,n8,c8,Y8,m8,d8,by go_num,by have:=HG.out; omega,by omega,by rw [HNX.out]; exact HE⟩
  ·have hc : ¬ (k : Int) < (s.length : Int):=by omega
   obtain ⟨x0,x1⟩:=two_cells hP.out.box
   obtain ⟨r0,r1⟩:=two_cells hP.out.res
   obtain ⟨f0,f1⟩:=two_free hP.out.res
   have hne:=hP.out.ne
   have F : Hid (GrAt (MoreN N w) ((wr.setCell ⟨u + 1,0,none⟩ (.slice Xa na ca)).setCell ⟨u + 1,1,none⟩ (.slice Ya ma da)) (.agg #[.slice Xa na ca,.slice Ya ma da]) (runG γ s)∧Below w.heap.size w ((wr.setCell ⟨u + 1,0,none⟩ (.slice Xa na ca)).setCell ⟨u + 1,1,none⟩ (.slice Ya ma da))):=by
    have hx:=hP.out.x
    have hge':=hP.out.ge'
    rw [List.take_of_length_le (by omega)] at hx
    refine ⟨hx.keep (fun i hi=>?_) (by simp) fun i hi=>hi.1.1,(hP.out.below.setCell (p:=⟨u + 1,0,none⟩) hge' _).setCell (p:=⟨u + 1,1,none⟩) hge' _⟩
    have hne : i ≠ u + 1:=hi.1.2.2
    rw [heap_setCell_other _ _ _ _ hne,heap_setCell_other _ _ _ _ hne]
   have E : Hid (((wr.setCell ⟨u + 1,0,none⟩ (.slice Xa na ca)).setCell ⟨u + 1,1,none⟩ (.slice Ya ma da)).heap[u + 1]? = some (.cells #[.slice Xa na ca,.slice Ya ma da] 37 (0,0))):=by
    have hr:=hP.out.res
    unfold Hid
    rw [heap_setCell_same _ _ _ _ _ _ (heap_setCell_same _ _ _ _ _ _ hr)]
    rfl
   clear hlt
   go_wp2_with fail
   obtain ⟨p0,p1⟩:=two_cells E.out
   exact bodyPost_ret (v:=.agg #[.slice Xa na ca,.slice Ya ma da]) (by simp [results,Tryz.results19,go_sem,p0,p1]) rfl ⟨_,rfl,F.out⟩

end Go.Proofs.YtdobeghbkonimaaGreatDoor

namespace Go.Proofs.YtdobeghbkonimaaGreatDoor
open Go.RowKit StampMath GraphMath OpMath PackMath

theorem refOn (N : Nat→Prop) (v : Value) (γ : Gr) (hf : γ.fine) (A : Option Addr) (n c : Nat) (l : List Opn) (hn : n≤60) (hfit : ∀ o∈l,OpFit o) (w : World) (hv : GrAt N w v γ) (h : OpsIn w w.heap.size A n l) :
  Calls Tryz.prog 19 #[v,.slice A n c] w fun e w'=>∃ v',e = .returned v'∧GrAt (MoreN N w) w' v' (runG γ (sortO l))∧Below w.heap.size w w' :=
 refOn_of refSort N v γ hf A n c l hn hfit w hv h

set_option maxRecDepth 100000 in
theorem refOf (A : Option Addr) (n c : Nat) (l : List Opn) (hn : n≤60) (hfit : ∀ o∈l,OpFit o) (w : World) (h : OpsIn w w.heap.size A n l) :
  Calls Tryz.prog 17 #[.slice A n c] w fun e w'=>∃ v,e = .returned v∧GrAt (fun i=>w.heap.size≤i) w' v (runA (sortO l))∧Below w.heap.size w w':=by
 have HO : Hid (∀ (N : Nat→Prop) (v : Value) (W : World),Below w.heap.size w W→GrAt N W v newG→Calls Tryz.prog 19 #[v,.slice A n c] W fun e w'=>∃ v',e = .returned v'∧GrAt (MoreN N W) w' v' (runA (sortO l))∧Below W.heap.size W w'):=Lib.hid fun N v W hW hv =>
  refOn N v newG new_fine A n c l hn hfit W hv ((h.below hW).more hW.size)
 clear h hfit
 generalize runA (sortO l) = φ at HO ⊢
 go_enter Tryz.func17,Tryz.ntmps17
 go_wp2_with fail
 have hA:=(Below.refl w.heap.size w).alloc (Nat.le_refl _) (.cells #[.slice none 0 0,.slice none 0 0] 37)
 have hN:=heap_alloc_new w (.cells #[.slice none 0 0,.slice none 0 0] 37)
 refine (refGraphNew _).mono ?_
 rintro e w4 ⟨v,rfl,x3,hb3⟩
 have h4:=below_step hA hb3
 have hr4:=(hb3.block _ (heap_lt hN)).trans hN
 have hs4:=hb3.size
 rw [World.size_alloc] at hs4
 have x4:=x3.live
 clear hA hN
 go_wp2_with fail
 refine (HO.out _ v w4 h4 x4).mono ?_
 rintro e w5 ⟨v5,rfl,x5,hb5⟩
 obtain ⟨X,n1,c1,Y,m1,d1,rfl⟩:=x5.form
 have h5:=below_step h4 hb5
 have hr5:=(hb5.block _ (heap_lt hr4)).trans hr4
 have hlt5:=heap_lt hr4
 obtain ⟨r0,r1⟩:=two_cells hr5
 obtain ⟨f0,f1⟩:=two_free hr5
 have F : Hid (GrAt (fun i=>w.heap.size≤i) ((w5.setCell ⟨w.heap.size,0,none⟩ (.slice X n1 c1)).setCell ⟨w.heap.size,1,none⟩ (.slice Y m1 d1)) (.agg #[.slice X n1 c1,.slice Y m1 d1]) φ∧Below w.heap.size w ((w5.setCell ⟨w.heap.size,0,none⟩ (.slice X n1 c1)).setCell ⟨w.heap.size,1,none⟩ (.slice Y m1 d1))):=by
  refine ⟨x5.keep (fun i hi=>?_) (by simp) fun i hi=>?_,(h5.setCell (p:=⟨w.heap.size,0,none⟩) (Nat.le_refl _) _).setCell (p:=⟨w.heap.size,1,none⟩) (Nat.le_refl _) _⟩
  ·have hne : i ≠ w.heap.size:=by
    rcases hi with q | q
    ·have q1:=q.1
     rw [World.size_alloc] at q1
     omega
    ·omega
   rw [heap_setCell_other _ _ _ _ hne,heap_setCell_other _ _ _ _ hne]
  ·rcases hi with q | q
   ·have q1:=q.1
    rw [World.size_alloc] at q1
    omega
   ·omega
 have E : Hid (((w5.setCell ⟨w.heap.size,0,none⟩ (.slice X n1 c1)).setCell ⟨w.heap.size,1,none⟩ (.slice Y m1 d1)).heap[w.heap.size]? = some (.cells #[.slice X n1 c1,.slice Y m1 d1] 37 (0,0))):=by
  unfold Hid
  rw [heap_setCell_same _ _ _ _ _ _ (heap_setCell_same _ _ _ _ _ _ hr5)]
  rfl
 clear hr4 hr5 x3 x4 x5 hb3 hb5 h4 h5
 go_wp2_with fail
 obtain ⟨p0,p1⟩:=two_cells E.out
 exact bodyPost_ret (v:=.agg #[.slice X n1 c1,.slice Y m1 d1]) (by simp [results,Tryz.results17,go_sem,p0,p1]) rfl ⟨_,rfl,F.out⟩

end Go.Proofs.YtdobeghbkonimaaGreatDoor
