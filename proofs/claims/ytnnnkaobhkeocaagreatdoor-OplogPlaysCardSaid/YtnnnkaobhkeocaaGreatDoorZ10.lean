/-
 The landed graph's Tie.
-/
import Derived.Test.YtnnnkaobhkeocaaGreatDoorZ09
import Derived.Maps.Own
import Derived.Maps.OwnOps
import Derived.Deep.Cut
import Derived.Test.YtnnnkaobhkeocaaGreatDoorZ00
import Derived.Shelf.SlMaps.Clone
import Derived.Test.YtnnnkaobhkeocaaGreatDoorZ08
import Derived.Test.YtnnnkaobhkeocaaGreatDoorZ08
import Derived.Test.YtnnnkaobhkeocaaGreatDoorZ01
import Derived.Deep.RegionWith
import Derived.Test.YtnnnkaobhkeocaaGreatDoorRows
import Derived.Deep.DeepCutAuto
import Derived.Lib.BufferWrite
import Derived.Deep.OwnRows
import Derived.ProofKit
import Derived.OpenShut
import Derived.Test.YtnnnkaobhkeocaaGreatDoorZ04
import Derived.Deep.LoopGhost
import Derived.Lib.AppendZeros
import Derived.Lib.SliceRun
import Derived.WalkLawsBesides
import Derived.Deep.QuietTactic
import Derived.BigQuiet
namespace Go.Proofs.YtnnnkaobhkeocaaGreatDoor
open Go.RowKit StampMath GraphMath OpMath
set_option maxRecDepth 100000 in
set_option maxHeartbeats 1600000 in
theorem tie_code(a:Addr)(S:Nat->Prop)(g:Gr)(x:Ent)(w:World)(h:GIn w S a g)(hg:g.ok)(hsz:x.name.size<=maxLen):
  Calls Tryz.prog 110 #[.pointer (some a),.agg (entA x)] w fun e w'=>e=.returned (.int .i64 (tieG (nameB x.name) g x).2)/\GIn w' S a (tieG (nameB x.name) g x).1/\But S w w':=by
 obtain⟨why,hwhy⟩:∃why,why=whyG (nameB x.name) g x:=⟨_,rfl⟩;have HM:Hid (∀W:World,Below w.heap.size w W->Calls Tryz.prog 146 #[.pointer (some a),.agg #[.int .i64 x.dir.1,.int .i64 x.dir.2,.string x.name,.int .i64 x.ino.1,.int .i64 x.ino.2]] W fun e w'=>e=.returned (.int .i64 why)/\Below W.heap.size W w'):=fun W hW=>by
  rw[hwhy];exact mayTie_code a S g x W (h.keep fun i hi=>hW.block i (h.lt i hi)) hg hsz
 have hG:=Lib.hid h;have hb0:Below w.heap.size w (w.alloc (.cells (entA x) 126)):=(Below.refl _ _).alloc (Nat.le_refl _) _;have he0:=heap_alloc_new w (.cells (entA x) 126);by_cases hw:why=0
 ·have htie:tieG (nameB x.name) g x=(⟨g.I,putIn (fun a=>aheadE a x) g.E x⟩,0):=by unfold tieG;rw[if_pos (by rw[<-hwhy];exact hw)]
  have h0:(tieG (nameB x.name) g x).2=0:=by rw[htie]
  have hok:=hg.tie (nameB x.name) x;obtain⟨X,hX⟩:∃X,getG g x.ino=some X:=by
   have:¬getG g x.ino=none:=fun q=>by
    have h1:whyG (nameB x.name) g x=0:=by rw[<-hwhy];exact hw
    unfold whyG at h1;rw[q] at h1
    cases hn:nameB x.name with
    |false=>rw[hn] at h1;simp at h1
    |true=>
     rw[hn] at h1
     cases hd:getG g x.dir with
     |none=>rw[hd] at h1;simp at h1
     |some _=>rw[hd] at h1;simp at h1
   cases hq:getG g x.ino with
   |none=>exact absurd hq this
   |some y=>exact⟨y,rfl⟩
  have hwr:wrap64 (X.links+1)=X.links+1:=by
   have h6:=hg.six x.ino;obtain⟨y,_,_,hy⟩:=get_some hX;have h7:X.links=(linksE g.E x.ino:Int):=by rw[hy]
   unfold wrap64;omega
  have HG:Hid (tieG (nameB x.name) g x).1.ok:=hok;have HT0:=Lib.hid htie;have HH0:=Lib.hid h0;have HX:=Lib.hid hX;have HR:=Lib.hid hwr;obtain⟨b,bi,be,rfl,h1,h2,h3,hb,hi,he,hS⟩:=h;obtain⟨d0,d1⟩:=two_cells hb;have hlt:=heap_lt hb;have HI:=Lib.hid hi;have HE:=Lib.hid he;have HS:=Lib.hid hS;have HBlk:=Lib.hid hb;have hw0:(why==0)=true:=beq_iff_eq.2 hw;have HC:Hid (∀W:World,W.heap[b]?=some (.cells #[.map (some bi),.map (some be)] 106 (0,0))->KMap stV inoV W bi (pairsI g)->Calls Tryz.prog 144 #[.pointer (some ⟨b,0,none⟩),.agg #[.int .i64 x.ino.1,.int .i64 x.ino.2],.int .i64 1] W fun e w'=>e=.returned (.tuple #[])/\KMap stV inoV w' bi ((x.ino,{X with links:=X.links+1})::offL (pairsI g) x.ino)/\But (fun i=>i=bi) W w'):=fun W hb hi=>count_code b bi be (pairsI g) x.ino 1 X W hb hi (by rw[look_pairsI hg];exact hX) hwr;clear hi he hS hb hX hwr htie h0 hok hw hwhy d0;obtain⟨dir,nm,ino⟩:=x;unfold entA
  go_enter Tryz.func110,Tryz.ntmps110
  go_upto_region 1 with fail
  change Code.wp _ _ _ _ (w.alloc (.cells (entA ⟨dir,nm,ino⟩) 126));generalize w.alloc (.cells (entA ⟨dir,nm,ino⟩) 126)=w1 at he0 hb0 ⊢;obtain⟨e0,e1,e2,e3,e4⟩:=ent_cells he0
  go_wp2_with fail
  refine(HM.out _ hb0).mono ?_;rintro e w2 ⟨rfl,hb2⟩;have he2:=(hb2.block _ (heap_lt he0)).trans he0;have hb3:=below_step hb0 hb2;clear he0 hb0 hb2 e0 e1 e2 e3 e4 HM;obtain⟨e0,e1,e2,e3,e4⟩:=ent_cells he2;have d1w:=(hb3.cell (p:=⟨b,1,none⟩) hlt).trans d1;obtain⟨w3,hrun,hm3,hbut3,hsz3⟩:=(HE.out.kept (hb3.drew.block be HE.out.lt)).store plShape Tryz.underlying104 (dir,nm) ino;simp only[stV,stA,plV] at hrun;have HM3:=Lib.hid hm3;have HU3:=Lib.hid hbut3;have HB3:=Lib.hid hb3;have HE2:=Lib.hid he2;have hilt:=HI.out.lt;have helt:=HE.out.lt;clear hm3 hbut3 hb3 he2
  go_upto_region 4 with fail
  go_region
  clear hrun e0 e1 e2 e3 e4 d1w;have hb4:But (fun i=>i=be) w w3:=(But.of_below HB3.out.drew).trans HU3.out fun i hi _=>hi;have z0:w3.heap[w.heap.size]?=some (.cells (entA ⟨dir,nm,ino⟩) 126 (0,0)):=HU3.out.heap (a:=w2.drew) HE2.out (fun q=>by omega);have hblk:=hb4.heap HBlk.out (fun q=>h2 q);have hi3:KMap stV inoV w3 bi (pairsI g):=HI.out.kept (hb4.block bi hilt fun q=>h3 q);have HB4:=Lib.hid hb4;obtain⟨e0,e1,e2,e3,e4⟩:=ent_cells z0;have hs4:=hb4.size;clear hb4 z0
  go_wp2_with fail
  refine(HC.out _ hblk hi3).mono ?_;rintro e w4 ⟨rfl,hm4,hb5⟩;clear e0 e1 e2 e3 e4
  go_wp2_with fail
  go_ret
  have hb6:But (fun i=>i=bi\/i=be) w w4:=(HB4.out.mono (T:=fun i=>i=bi\/i=be) fun i hi=>Or.inr hi).trans hb5 fun i hi _=>Or.inl hi;refine⟨by rw[HH0.out];rfl,⟨b,bi,be,rfl,h1,h2,h3,?_,?_,?_,HS.out⟩,hb6.mono fun i hi=>(HS.out i).2 (Or.inr hi)⟩
  ·exact hb6.heap HBlk.out (fun q=>q.elim h1 h2)
  ·refine hm4.perm (put_perm (keys_pairsI hg) (keys_pairsI HG.out) (x:=ino) (v:={X with links:=X.links+1}) fun k=>?_);rw[look_pairsI HG.out,look_pairsI hg,tie_get HH0.out];by_cases hk:k=ino
   ·rw[if_pos hk,hk,HX.out];simp
   ·rw[if_neg hk]
    cases getG g k<;>simp[hk]
  ·refine KMap.perm ?_ (put_perm (keys_pairsE hg) (keys_pairsE HG.out) fun p=>?_) (L:=((dir,nm),ino)::offL (pairsE g) (dir,nm))
   ·exact HM3.out.kept (hb5.block be (by omega) fun q=>h3 q.symm)
   ·rw[tie_look hg HH0.out]
 ·have htie:tieG (nameB x.name) g x=(g,why):=by unfold tieG;rw[<-hwhy,if_neg hw]
  rw[htie];have hw0:(why==0)=false:=beq_eq_false_iff_ne.2 hw;clear htie hwhy hw h;obtain⟨dir,nm,ino⟩:=x;unfold entA
  go_enter Tryz.func110,Tryz.ntmps110
  go_upto_region 1 with fail
  change Code.wp _ _ _ _ (w.alloc (.cells (entA ⟨dir,nm,ino⟩) 126));generalize w.alloc (.cells (entA ⟨dir,nm,ino⟩) 126)=w1 at he0 hb0 ⊢;obtain⟨e0,e1,e2,e3,e4⟩:=ent_cells he0
  go_wp2_with fail
  refine(HM.out _ hb0).mono ?_;rintro e w2 ⟨rfl,hb2⟩;have hb3:=below_step hb0 hb2;clear he0 hb0 hb2 e0 e1 e2 e3 e4 HM
  go_wp2_with fail
  go_ret
  exact⟨rfl,hG.out.keep fun i hi=>hb3.block i (hG.out.lt i hi),But.of_below hb3⟩
end Go.Proofs.YtnnnkaobhkeocaaGreatDoor
namespace Go.Proofs.YtnnnkaobhkeocaaGreatDoor
open Go.RowKit Go.Shelf
theorem KMap.clone{P:Program}{ρ :Ren}(L:SlLaysW.n5 P ρ){K V:Type}{ek:K->Value}{ev:V->Value}{w:World}{b:Nat}{l:List (K×V)}(h:KMap ek ev w b l):
  Calls P (ρ.f 5) #[.map (some b)] w fun e w'=>e=.returned (.map (some w.heap.size))/\KMap ek ev w' w.heap.size l/\Below w.heap.size w w'/\w'.heap.size=w.heap.size+1:=by
 obtain⟨es,clock,M,h1,h2,h3,h4⟩:=h;refine(AnyW.maps_Clone L b es clock w h1).mono ?_;rintro e w' ⟨rfl,rfl⟩;exact⟨rfl,⟨es,clock,M,heap_alloc_new w _,h2,h3,h4⟩,(Below.refl _ _).alloc (Nat.le_refl _) _,by simp⟩
end Go.Proofs.YtnnnkaobhkeocaaGreatDoor
namespace Go.Proofs.YtnnnkaobhkeocaaGreatDoor
open Go.RowKit StampMath GraphMath
theorem cloneI_code(b:Nat)(L:List (St×Ino))(w:World)(h:KMap stV inoV w b L):
  Calls Tryz.prog 83 #[.map (some b)] w fun e w'=>e=.returned (.map (some w.heap.size))/\KMap stV inoV w' w.heap.size L/\Below w.heap.size w w'/\w'.heap.size=w.heap.size+1:=
 h.clone Tryz.cloneIno
theorem cloneE_code(b:Nat)(L:List ((St×ByteArray)×St))(w:World)(h:KMap plV stV w b L):
  Calls Tryz.prog 84 #[.map (some b)] w fun e w'=>e=.returned (.map (some w.heap.size))/\KMap plV stV w' w.heap.size L/\Below w.heap.size w w'/\w'.heap.size=w.heap.size+1:=
 h.clone Tryz.cloneEnt
set_option maxRecDepth 100000 in
set_option maxHeartbeats 1600000 in
theorem copy_code(a:Addr)(S:Nat->Prop)(g:Gr)(w:World)(h:GIn w S a g):
  Calls Tryz.prog 54 #[.pointer (some a)] w fun e w'=>∃b T,e=.returned (.pointer (some b))/\GIn w' T b g/\(∀i,T i->w.heap.size<=i)/\Below w.heap.size w w':=by
 obtain⟨b,bi,be,rfl,h1,h2,h3,hb,hi,he,hS⟩:=h;obtain⟨d0,d1⟩:=two_cells hb;have hlt:=heap_lt hb;have HI:Hid (∀W:World,Below w.heap.size w W->Calls Tryz.prog 83 #[.map (some bi)] W fun e w'=>e=.returned (.map (some W.heap.size))/\KMap stV inoV w' W.heap.size (pairsI g)/\Below W.heap.size W w'/\w'.heap.size=W.heap.size+1):=fun W hW=>cloneI_code bi _ W (hi.kept (hW.block bi hi.lt));have HE:Hid (∀W:World,Below w.heap.size w W->Calls Tryz.prog 84 #[.map (some be)] W fun e w'=>e=.returned (.map (some W.heap.size))/\KMap plV stV w' W.heap.size (pairsE g)/\Below W.heap.size W w'/\w'.heap.size=W.heap.size+1):=fun W hW=>cloneE_code be _ W (he.kept (hW.block be he.lt));clear hi he hS hb
 go_enter Tryz.func54,Tryz.ntmps54
 go_wp2_with fail
 go_region_with (first
  |(go_at_call 83;(with_reducible refine(HI.out _ (by repeat(first|exact Below.refl _ _|assumption|apply Below.drew|refine below_step ?_ (by assumption)))).mono ?_);rintro z w1 ⟨rfl,hm1,hb1,hs1⟩;have HM1:=Lib.hid hm1;have HS1:=Lib.hid hs1;clear hm1 hs1;have d0:=cell_later hb1 d0;have d1:=cell_later hb1 d1)
  |(go_at_call 84;(with_reducible refine(HE.out _ (by repeat(first|exact Below.refl _ _|assumption|apply Below.drew|refine below_step ?_ (by assumption)))).mono ?_);rintro z w2 ⟨rfl,hm2,hb2,hs2⟩;have HM2:=Lib.hid hm2;have HS2:=Lib.hid hs2;clear hm2 hs2;have d0:=cell_later hb2 d0;have d1:=cell_later hb2 d1))
 all_goals
  go_wp2_with fail
  go_ret
  have e1:w1.heap.size=w.heap.size+1:=HS1.out;have e2:w2.heap.size=w1.heap.size+1:=HS2.out;have hb3:Below w.heap.size w w2:=below_step (below_step (Below.refl w.heap.size w).drew hb1) hb2;refine⟨⟨w2.heap.size,0,none⟩,fun i=>i=w2.heap.size\/i=w.heap.size\/i=w1.heap.size,rfl,⟨w2.heap.size,w.heap.size,w1.heap.size,rfl,by omega,by omega,by omega,heap_alloc_new _ _,?_,?_,fun i=>Iff.rfl⟩,fun i hi=>by omega,hb3.alloc hb3.size _⟩
  ·have hk:KMap stV inoV w1 w.heap.size (pairsI g):=HM1.out;exact(hk.kept (hb2.block _ (by omega))).kept (heap_alloc_old _ _ (by omega))
  ·exact HM2.out.kept (heap_alloc_old _ _ (by omega))
end Go.Proofs.YtnnnkaobhkeocaaGreatDoor
namespace Go.Proofs.YtnnnkaobhkeocaaGreatDoor
open Go.RowKit StampMath GraphMath OpMath
set_option maxRecDepth 100000 in
theorem nil_get(id:St)(w:World):Calls Tryz.prog 67 #[.pointer none,.agg (stA id)] w fun e w'=>e=.returned (.tuple #[.agg (inoA noIno),.bool false])/\Below w.heap.size w w':=by
 unfold stA
 go_enter Tryz.func67,Tryz.ntmps67
 go_wp2_with fail
 exact bodyPost_ret (v:=.tuple #[.agg (inoA noIno),.bool false]) (by simp[results,Tryz.results67,go_sem,inoA,noIno]) rfl ⟨rfl,by
  repeat(first|exact Below.refl _ _|apply Below.drew|refine Below.alloc ?_ (by simp<;>omega) _)⟩
set_option maxRecDepth 100000 in
theorem nil_look(d:St)(nm:ByteArray)(w:World):Calls Tryz.prog 34 #[.pointer none,.agg (stA d),.string nm] w fun e w'=>e=.returned (.tuple #[.agg (stA (0,0)),.bool false])/\Below w.heap.size w w':=by
 unfold stA
 go_enter Tryz.func34,Tryz.ntmps34
 go_wp2_with fail
 exact bodyPost_ret (v:=.tuple #[.agg (stA (0,0)),.bool false]) (by simp[results,Tryz.results34,go_sem,stA]) rfl ⟨rfl,by
  repeat(first|exact Below.refl _ _|apply Below.drew|refine Below.alloc ?_ (by simp<;>omega) _)⟩
theorem nil_inodes(w:World):Calls Tryz.prog 33 #[.pointer none] w (InosNew [] w):=by
 go_enter Tryz.func33,Tryz.ntmps33
 go_wp2_with fail
 go_ret
 exact⟨_,rfl,World.ownsRow_nil _ _ _ _,Below.refl _ _⟩
theorem nil_sorted(w:World):Calls Tryz.prog 81 #[.pointer none,.func (.func 82) #[] #[]] w (EntsNew [] w):=by
 go_enter Tryz.func81,Tryz.ntmps81
 go_wp2_with fail
 go_ret
 exact⟨_,rfl,World.ownsRow_nil _ _ _ _,Below.refl _ _⟩
theorem nil_entries(w:World):Calls Tryz.prog 53 #[.pointer none] w (EntsNew [] w):=by
 have HS:=Lib.hid (nil_sorted w)
 go_enter Tryz.func53,Tryz.ntmps53
 go_wp2_with fail
 refine(HS.out).mono ?_;rintro e w1 ⟨v,rfl,hown,hb⟩
 go_wp2_with fail
 go_ret
 exact⟨v,rfl,hown,hb⟩
theorem nil_copy(w:World):Calls Tryz.prog 54 #[.pointer none] w fun e w'=>e=.returned (.pointer none)/\Below w.heap.size w w':=by
 go_enter Tryz.func54,Tryz.ntmps54
 go_wp2_with fail
 go_ret
 exact⟨rfl,Below.refl _ _⟩
theorem nil_make(w:World):Calls Tryz.prog 32 #[.pointer none,.agg (stA (1,0)),.int .i64 1] w fun e w'=>e=.returned (.int .i64 3)/\Below w.heap.size w w':=by
 have HM:Hid (∀W:World,Calls Tryz.prog 36 #[.agg #[.int .i64 1,.int .i64 0]] W fun e w'=>e=.returned (.bool true)/\Below W.heap.size W w'):=fun W=>may_any 1 0 W;have HR:Hid (∀W:World,Calls Tryz.prog 65 #[] W fun e w'=>e=.returned (.agg #[.int .i64 0,.int .i64 0])/\Below W.heap.size W w'):=root_any;have HG:Hid (∀W:World,Calls Tryz.prog 67 #[.pointer none,.agg #[.int .i64 0,.int .i64 0]] W fun e w'=>e=.returned (.tuple #[.agg #[.int .i64 0,.int .i64 0,.int .i64 0,.int .i64 0,.int .i64 0,.string ⟨#[]⟩],.bool false])/\Below W.heap.size W w'):=fun W=>nil_get (0,0) W;unfold stA
 go_enter Tryz.func32,Tryz.ntmps32
 go_wp2_with fail
 refine(HM.out _).mono ?_;rintro e w1 ⟨rfl,hb1⟩;have hb:=below_step ((Below.refl w.heap.size w).alloc (Nat.le_refl _) _) hb1;clear hb1
 go_wp2_with fail
 refine(HR.out _).mono ?_;rintro e w2 ⟨rfl,hb2⟩;have hb3:=below_step hb hb2;clear hb hb2
 go_wp2_with fail
 refine(HG.out _).mono ?_;rintro e w3 ⟨rfl,hb4⟩;have hb5:=below_step hb3 hb4
 go_wp2_with fail
 go_ret
 exact⟨rfl,hb5.alloc hb5.size _⟩
theorem nil_drop(id:St)(w:World):Calls Tryz.prog 108 #[.pointer none,.agg (stA id)] w fun e w'=>e=.returned (.int .i64 3)/\Below w.heap.size w w':=by
 have HG:Hid (∀W:World,Calls Tryz.prog 67 #[.pointer none,.agg #[.int .i64 id.1,.int .i64 id.2]] W fun e w'=>e=.returned (.tuple #[.agg #[.int .i64 0,.int .i64 0,.int .i64 0,.int .i64 0,.int .i64 0,.string ⟨#[]⟩],.bool false])/\Below W.heap.size W w'):=fun W=>nil_get id W;unfold stA
 go_enter Tryz.func108,Tryz.ntmps108
 go_wp2_with fail
 refine(HG.out _).mono ?_;rintro e w1 ⟨rfl,hb1⟩;have hb:=below_step ((Below.refl w.heap.size w).alloc (Nat.le_refl _) _) hb1
 go_wp2_with fail
 go_ret
 exact⟨rfl,hb.alloc hb.size _⟩
theorem nil_set(id:St)(w:World):Calls Tryz.prog 109 #[.pointer none,.agg (stA id),.int .i64 1,.string ⟨#[]⟩] w fun e w'=>e=.returned (.int .i64 3)/\Below w.heap.size w w':=by
 have HG:Hid (∀W:World,Calls Tryz.prog 67 #[.pointer none,.agg #[.int .i64 id.1,.int .i64 id.2]] W fun e w'=>e=.returned (.tuple #[.agg #[.int .i64 0,.int .i64 0,.int .i64 0,.int .i64 0,.int .i64 0,.string ⟨#[]⟩],.bool false])/\Below W.heap.size W w'):=fun W=>nil_get id W;unfold stA
 go_enter Tryz.func109,Tryz.ntmps109
 go_wp2_with fail
 refine(HG.out _).mono ?_;rintro e w1 ⟨rfl,hb1⟩;have hb:=below_step ((Below.refl w.heap.size w).alloc (Nat.le_refl _) _) hb1
 go_wp2_with fail
 go_ret
 exact⟨rfl,hb.alloc hb.size _⟩
theorem nil_mayTie(w:World):Calls Tryz.prog 146 #[.pointer none,.agg (entA ⟨(0,0),⟨#[97]⟩,(0,0)⟩)] w fun e w'=>e=.returned (.int .i64 3)/\Below w.heap.size w w':=by
 have HN:Hid (∀W:World,Calls Tryz.prog 127 #[.string ⟨#[97]⟩] W fun e w'=>e=.returned (.bool true)/\W=w'):=fun W=>by
  have:=name_any ⟨#[97]⟩ (by decide) W
  rwa[show nameB ⟨#[97]⟩=true by decide+kernel] at this
 have HG:Hid (∀W:World,Calls Tryz.prog 67 #[.pointer none,.agg #[.int .i64 0,.int .i64 0]] W fun e w'=>e=.returned (.tuple #[.agg #[.int .i64 0,.int .i64 0,.int .i64 0,.int .i64 0,.int .i64 0,.string ⟨#[]⟩],.bool false])/\Below W.heap.size W w'):=fun W=>nil_get (0,0) W;obtain⟨nm,hnm⟩:∃nm:ByteArray,nm=⟨#[97]⟩:=⟨_,rfl⟩;rw[<-hnm] at HN ⊢;clear hnm;have he0:=heap_alloc_new w (.cells (entA ⟨(0,0),nm,(0,0)⟩) 126);have hb0:Below w.heap.size w (w.alloc (.cells (entA ⟨(0,0),nm,(0,0)⟩) 126)):=(Below.refl _ _).alloc (Nat.le_refl _) _;unfold entA at he0 hb0 ⊢
 go_enter Tryz.func146,Tryz.ntmps146
 go_wp2_with fail
 refine(HN.out _).mono ?_;rintro e w1 ⟨rfl,rfl⟩
 go_wp2_with fail
 refine(HG.out _).mono ?_;rintro e w1 ⟨rfl,hb1⟩;have q0:=(hb1.block _ (heap_lt he0)).trans he0;have hb2:=below_step hb0 hb1;have hl:=heap_lt q0
 go_upto_region 4 with fail
 have r0:=(heap_alloc_old w1 (.cells #[.int .i64 0,.int .i64 0,.int .i64 0,.int .i64 0,.int .i64 0,.string ⟨#[]⟩] 102) hl).trans q0;have hb3:=hb2.alloc hb2.size (.cells #[.int .i64 0,.int .i64 0,.int .i64 0,.int .i64 0,.int .i64 0,.string ⟨#[]⟩] 102);generalize w1.alloc (.cells #[.int .i64 0,.int .i64 0,.int .i64 0,.int .i64 0,.int .i64 0,.string ⟨#[]⟩] 102)=w2 at r0 hb3 ⊢;obtain⟨e0,e1,e2,e3,e4⟩:=ent_cells (x:=⟨(0,0),nm,(0,0)⟩) r0
 go_wp2_with fail
 refine(HG.out _).mono ?_;rintro e w3 ⟨rfl,hb4⟩;have hb5:=below_step hb3 hb4
 go_wp2_with fail
 go_ret
 exact⟨rfl,hb5.alloc hb5.size _⟩
theorem nil_tie(w:World):Calls Tryz.prog 110 #[.pointer none,.agg (entA ⟨(0,0),⟨#[97]⟩,(0,0)⟩)] w fun e w'=>e=.returned (.int .i64 3)/\Below w.heap.size w w':=by
 have HM0:∀W:World,Calls Tryz.prog 146 #[.pointer none,.agg (entA ⟨(0,0),⟨#[97]⟩,(0,0)⟩)] W fun e w'=>e=.returned (.int .i64 3)/\Below W.heap.size W w':=nil_mayTie;obtain⟨nm,hnm⟩:∃nm:ByteArray,nm=⟨#[97]⟩:=⟨_,rfl⟩;rw[<-hnm] at HM0 ⊢;clear hnm;have he0:=heap_alloc_new w (.cells (entA ⟨(0,0),nm,(0,0)⟩) 126);have hb0:Below w.heap.size w (w.alloc (.cells (entA ⟨(0,0),nm,(0,0)⟩) 126)):=(Below.refl _ _).alloc (Nat.le_refl _) _;obtain⟨e0,e1,e2,e3,e4⟩:=ent_cells he0;have HM:=Lib.hid HM0;clear HM0;unfold entA at e0 e1 e2 e3 e4 hb0 HM ⊢
 go_enter Tryz.func110,Tryz.ntmps110
 go_wp2_with fail
 refine(HM.out _).mono ?_;rintro e w1 ⟨rfl,hb1⟩;have hb2:=below_step hb0 hb1
 go_wp2_with fail
 go_ret
 exact⟨rfl,hb2⟩
noncomputable def graphHave:GraphHave where
 rep:=GIn
 lt:=GIn.lt
 keep:=GIn.keep
 new:=new_code
 get:=get_code
 look:=fun a S g d nm w h _ _=>look_code a S g d nm w h
 list:=list_code
 inodes:=inodes_code
 entries:=entries_code
 parent:=parent_code
 under:=under_code
 make:=fun a S g id kind w h hg=>(make_code a S g id kind w h hg).mono fun _ _ q=>⟨S,q.1,q.2.1,fun _ hi=>Or.inl hi,q.2.2⟩
 tie:=fun a S g x w h hg hn=>(tie_code a S g x w h hg hn).mono fun _ _ q=>⟨S,q.1,q.2.1,fun _ hi=>Or.inl hi,q.2.2⟩
 untie:=fun a S g d nm w h hg _=>(untie_code a S g d nm w h hg).mono fun _ _ q=>⟨S,q.1,q.2.1,fun _ hi=>Or.inl hi,q.2.2⟩
 drop:=fun a S g id w h hg=>(drop_code a S g id w h hg).mono fun _ _ q=>⟨S,q.1,q.2.1,fun _ hi=>Or.inl hi,q.2.2⟩
 set:=fun a S g id mode data w h hg=>(set_code a S g id mode data w h hg).mono fun _ _ q=>⟨S,q.1,q.2.1,fun _ hi=>Or.inl hi,q.2.2⟩
 copy:=fun a S g w h _=>copy_code a S g w h
 nilGet:=nil_get
 nilLook:=nil_look
 nilInodes:=nil_inodes
 nilEntries:=nil_entries
 nilMake:=nil_make
 nilTie:=nil_tie
 nilDrop:=nil_drop
 nilSet:=nil_set
 nilCopy:=nil_copy
end Go.Proofs.YtnnnkaobhkeocaaGreatDoor
namespace Go.Proofs.YtnnnkaobhkeocaaGreatDoor
open Go.RowKit
theorem u8_info:(Tryz.prog.info? 5).map (fun i=>(i.zero,i.size,i.bytes))=some (some (.int .u8 0),1,1):=by kernel_rfl
theorem conv_own{w:World}{base n:Nat}{v:Value}{xs:List UInt8}(hown:w.ownsRow base 5 1 v n (xs.map bcell))(hn:0<n):
  (convert 61 9 v).run Tryz.prog w=.ok (.string ⟨xs.toArray⟩) w:=by
 obtain⟨g,cap,hv,_,_⟩:=hown.form hn;have hl:xs.length=n:=by have:=hown.1;simpa using this
 subst hv;subst hl;have hc:=hown.cells (g:=g) rfl;refine run_convert_bytes_back w _ _ _ _ cap xs Tryz.underlying61 Tryz.underlying5 Tryz.underlying9 (fun j hj=>hc j _ ?_);rw[List.getElem?_map,List.getElem?_eq_getElem hj]
 rfl
end Go.Proofs.YtnnnkaobhkeocaaGreatDoor
namespace Go.Proofs.YtnnnkaobhkeocaaGreatDoor
open Go.RowKit ExtentMath PackMath
def ByteRow(W:World)(B:Nat)(w:World)(g:Nat)(xs:List UInt8):Prop:=
 W.heap[g]?=some (.cells (xs.map bcell).toArray 5 (0,0))/\Below B w W/\B<=g
theorem made_bytes(n:Nat):madeCells #[.int .u8 0] n=((List.replicate n (0:UInt8)).map bcell).toArray:=by
 apply Array.ext
 ·simp[size_madeCells]
 ·intro i h1 h2;simp[madeCells,Nat.mod_one,bcell]
theorem wpList_make_bytes{w0 w:World}{ops:Array Oper}{rest:List Oper}{o:Oper}{a:Act}{Q:Exit->Act->World->Prop}{B:Nat}
  (hg:o.guard=none)(l c:Operand)(hop:o.op=Op.makeSlice 61 l c)(hb:Below B w0 w)(hB:B<=w.heap.size)
  (kl kc:IntKind)(n:Nat)(hl:a.eval l=.int kl (n:Int))(hc:a.eval c=.int kc (n:Int))(hn:n<=100)
  (hK:∀w',Hid (ByteRow w' B w0 w.heap.size (List.replicate n 0))->wpList Tryz.prog ops Q rest (a.put o.dst (.slice (some ⟨w.heap.size,0,none⟩) n n)) w'):
  wpList Tryz.prog ops Q (o::rest) a w:=by
 obtain⟨i0,hi0,hz0,hz1,hz2⟩:=info_parts u8_info;refine wpList_make_row w hg l c _ hop 5 i0 (.int .u8 0) Tryz.underlying61 hi0 hz0 hz1 rfl kl kc n hl hc (by rw[hz2];omega) (by omega) (hK _ ?_);refine⟨?_,hb.alloc hB _,hB⟩;rw[made_bytes];exact Go.Deep.blk_alloc_new _ _
theorem run_copy_str(w:World)(dT sT ty elem:TypeId)(g o dLen dCap:Nat)(s:ByteArray)(cur:Array Value)(t:TypeId)
    (hu:Tryz.prog.underlying dT=some (.slice elem))(hs:(Tryz.prog.info? elem).map (·.size)=some 1)(hg:w.heap[g]?=some (.cells cur t (0,0)))(hfit:o+min s.size dLen<=cur.size):
    (Builtin.copy_ #[dT,sT] ty #[.slice (some ⟨g,o,none⟩) dLen dCap,.string s]).run Tryz.prog w=
      .ok (goInt ((min s.size dLen:Nat):Int)) (w.setRow g (cur.toList.take o++(s.data.toList.take (min s.size dLen)).map bcell++cur.toList.drop (o+min s.size dLen)).toArray):=by
  have hlen:((s.data.toList.take (min s.size dLen)).map bcell).length=min s.size dLen:=by simp
  have hst:=run_storeCells_at Tryz.prog g o t ((s.data.toList.take (min s.size dLen)).map bcell) 0 cur w hg (by rw[hlen];simpa using hfit) (by
    intro v hv;obtain⟨b,_,rfl⟩:=List.mem_map.1 hv
    rfl)
  rw[hlen] at hst;simp only[Nat.add_zero] at hst;have htk:List.take (Nat.min s.size dLen) (List.map (fun b:UInt8=>Value.int IntKind.u8 (b.toNat:Int)) s.data.toList)=(s.data.toList.take (min s.size dLen)).map bcell:=by
    rw[List.map_take]
    rfl
  cases hq:Tryz.prog.info? elem with
  |none=>simp[hq] at hs
  |some i=>
    simp[Builtin.copy_,run_underlying hu,Builtin.lenOf,Builtin.firstCells,sizeOf,typeInfo,hq];rw[htk,hst];simp[Result.andThen]
def lay(xs:List UInt8)(o:Nat)(ys:List UInt8):List UInt8:=xs.take o++ys++xs.drop (o+ys.length)
theorem lay_len{xs:List UInt8}{o:Nat}{ys:List UInt8}(h:o+ys.length<=xs.length):(lay xs o ys).length=xs.length:=by
 unfold lay;simp;omega
theorem bAt_lay{xs:List UInt8}{o:Nat}{ys:List UInt8}(h:o+ys.length<=xs.length)(i:Nat):bAt (lay xs o ys) i=if o<=i/\i<o+ys.length then bAt ys (i-o) else bAt xs i:=by
 unfold lay bAt;simp only[List.getD_eq_getElem?_getD];by_cases h1:i<o
 ·rw[if_neg (by omega),List.append_assoc,List.getElem?_append_left (by simp;omega),List.getElem?_take,if_pos h1]
 ·by_cases h2:i<o+ys.length
  ·rw[if_pos ⟨by omega,h2⟩,List.append_assoc,List.getElem?_append_right (by simp;omega),List.getElem?_append_left (by simp;omega)]
   congr 2
   simp;omega
  ·rw[if_neg (by omega),List.getElem?_append_right (by simp;omega),List.getElem?_drop]
   congr 2
   simp;omega
set_option maxRecDepth 100000 in
theorem wpList_copy_str{w0 w:World}{ops:Array Oper}{rest:List Oper}{o:Oper}{a:Act}{Q:Exit->Act->World->Prop}{B:Nat}(hgd:o.guard=none)(d x:Operand)
  (ho:o.op=.call {callee:=.builtin .copy,args:=#[d,x],argTypes:=#[61,9]})(g off dLen dCap:Nat)(xs:List UInt8)(hR:Hid (ByteRow w B w0 g xs))(s:ByteArray)
  (hd:a.eval d=.slice (some ⟨g,off,none⟩) dLen dCap)(hx:a.eval x=.string s)(hfit:off+dLen<=xs.length)
  (h:∀w',Hid (ByteRow w' B w0 g (lay xs off (s.data.toList.take (min s.size dLen))))->wpList Tryz.prog ops Q rest (a.put o.dst (goInt ((min s.size dLen:Nat):Int))) w'):wpList Tryz.prog ops Q (o::rest) a w:=by
 obtain⟨hg,hb,hB⟩:=hR.out;obtain⟨i0,hi0,hz0,hz1,hz2⟩:=info_parts u8_info;have hm:(s.data.toList.take (min s.size dLen)).length=min s.size dLen:=by
  rw[List.length_take];have e:s.data.toList.length=s.size:=by simp
  omega
 refine wpList_plain hgd fun K hK=>?_;have hrun:=run_copy_str w 61 9 o.type 5 g off dLen dCap s _ _ Tryz.underlying61 (by rw[hi0];simp[hz1]) hg (by rw[List.size_toArray,List.length_map];omega);unfold Oper.wp;simp only[execOp,ho,resolve,invoke,builtin,Sem.run_bind,Sem.run_pure,Result.andThen_ok,List.map_toArray,List.map_cons,List.map_nil,hd,hx,hrun];refine hK _ _ (h _ ⟨?_,?_,hB⟩)
 ·rw[setRow_heap w g _ _ _ _ hg]
  congr 3
  unfold lay;rw[hm];simp
 ·exact hb.trans ⟨rfl,rfl,rfl,by simp[World.setRow],fun k hk=>setRow_other w g k _ (by omega)⟩
theorem conv_row{w0 w:World}{B g n cap:Nat}{xs:List UInt8}(hR:Hid (ByteRow w B w0 g xs))(hn:xs.length=n):
  (convert 61 9 (.slice (some ⟨g,0,none⟩) n cap)).run Tryz.prog w=.ok (.string ⟨xs.toArray⟩) w:=by
 subst hn;obtain⟨hg,_,_⟩:=hR.out;refine run_convert_bytes_back w _ _ _ _ cap xs Tryz.underlying61 Tryz.underlying5 Tryz.underlying9 (fun j hj=>?_);have hh:=cell_of_row w g j (xs.map bcell).toArray 5 (0,0) hg;rw[show(⟨g,0,none⟩:Addr).add j=⟨g,j,none⟩ by unfold Addr.add;split<;>simp_all,hh];simp[bcell,List.getElem?_eq_getElem hj]
theorem wpList_max_nat{w:World}{ops:Array Oper}{rest:List Oper}{o:Oper}{a:Act}{Q:Exit->Act->World->Prop}(hgd:o.guard=none)(x y:Operand)(ats:Array TypeId)
  (ho:o.op=.call {callee:=.builtin .max,args:=#[x,y],argTypes:=ats})(A C:Int)(n:Nat)(hx:a.eval x=.int .i64 A)(hy:a.eval y=.int .i64 C)(hn:max A C=(n:Int))
  (h:wpList Tryz.prog ops Q rest (a.put o.dst (.int .i64 (n:Int))) w):wpList Tryz.prog ops Q (o::rest) a w:=by
 refine wpList_plain hgd fun K hK=>?_;have hrun:=run_max_int2 (P:=Tryz.prog) (w:=w) ats o.type .i64 .i64 A C;rw[show(if C>A then C else A)=(n:Int) by rw[<-hn];split<;>omega] at hrun;unfold Oper.wp;simp only[execOp,ho,resolve,invoke,builtin,Sem.run_bind,Sem.run_pure,Result.andThen_ok,List.map_toArray,List.map_cons,List.map_nil,hx,hy,hrun];exact hK _ _ h
theorem lay_tL'(d:List UInt8)(n:Nat):lay (List.replicate n 0) 0 (d.take (min d.length n))=tL d n:=by
 have hl:0+(d.take (min d.length n)).length<=(List.replicate n (0:UInt8)).length:=by simp;omega
 refine same_bytes (by rw[lay_len hl,tL_len];simp) fun i hi=>?_;rw[lay_len hl,List.length_replicate] at hi;rw[bAt_lay hl,bAt_tL,if_pos hi];by_cases h:i<d.length
 ·rw[if_pos ⟨Nat.zero_le _,by simp;omega⟩];unfold bAt;simp only[List.getD_eq_getElem?_getD,Nat.sub_zero,List.getElem?_take];rw[if_pos (by omega)]
 ·rw[if_neg (by simp;omega),bAt_ge (show d.length<=i by omega)];unfold bAt;simp[List.getD_eq_getElem?_getD,hi]
theorem lay_wL'(d s:List UInt8)(o n:Nat)(hn:n=max d.length (o+s.length)):lay (lay (List.replicate n 0) 0 (d.take (min d.length n))) o (s.take (min s.length (n-o)))=wL d s o:=by
 rw[lay_tL',Nat.min_eq_left (by omega),List.take_length];have hl:o+s.length<=(tL d n).length:=by rw[tL_len];omega
 refine same_bytes (by rw[lay_len hl,tL_len,wL_len,hn]) fun i hi=>?_;rw[lay_len hl,tL_len] at hi;rw[bAt_lay hl,bAt_wL,bAt_tL,if_pos hi]
 rfl
theorem lay_tL(d:ByteArray)(n:Nat):lay (List.replicate n 0) 0 (d.data.toList.take (min d.size n))=tL d.data.toList n:=by
 have h:=lay_tL' d.data.toList n
 rwa[len_bytes] at h
theorem lay_wL(d s:ByteArray)(o n:Nat)(hn:n=max d.size (o+s.size)):lay (lay (List.replicate n 0) 0 (d.data.toList.take (min d.size n))) o (s.data.toList.take (min s.size (n-o)))=wL d.data.toList s.data.toList o:=by
 have h:=lay_wL' d.data.toList s.data.toList o n (by rw[len_bytes,len_bytes];exact hn)
 rwa[len_bytes,len_bytes] at h
theorem lay_room(d:ByteArray)(n:Nat):(lay (List.replicate n 0) 0 (d.data.toList.take (min d.size n))).length=n:=by rw[lay_tL,tL_len]
set_option maxRecDepth 100000 in
theorem trunc_code(d:ByteArray)(n:Int)(w:World)(hd:d.size<=2000)(hn:IsI64 n):
  Calls Tryz.prog 166 #[.string d,.int .i64 n] w fun e w'=>e=.returned (.tuple #[.string (tR d n).1,.int .i64 (tR d n).2])/\Below w.heap.size w w':=by
 by_cases h0:n<0
 ·rw[show tR d n=(d,1) by unfold tR;rw[if_pos h0]]
  go_enter Tryz.func166,Tryz.ntmps166
  go_wp2_with fail
  go_ret2
  exact⟨rfl,Below.refl _ _⟩
 by_cases h1:64<n
 ·rw[show tR d n=(d,11) by unfold tR;rw[if_neg h0,if_pos (Or.inl h1)]]
  go_enter Tryz.func166,Tryz.ntmps166
  go_wp2_with fail
  go_ret2
  exact⟨rfl,Below.refl _ _⟩
 by_cases h2:64<d.size
 ·rw[show tR d n=(d,11) by unfold tR;rw[if_neg h0,if_pos (Or.inr h2)]]
  go_enter Tryz.func166,Tryz.ntmps166
  go_wp2_with fail
  go_ret2
  exact⟨rfl,Below.refl _ _⟩
 obtain⟨m,rfl⟩:∃m:Nat,n=(m:Int):=⟨n.toNat,by omega⟩;have hm64:m<=64:=by omega
 rw[show tR d (m:Int)=(⟨(tL d.data.toList m).toArray⟩,0) by unfold tR;rw[if_neg h0,if_neg (by omega)];rfl];clear h0 h1 hn;have hl:=Lib.hid (lay_tL d m)
 go_enter Tryz.func166,Tryz.ntmps166
 go_wp2_with (first
  |(at_make;refine wpList_make_bytes rfl _ _ rfl (Below.refl w.heap.size w) (Nat.le_refl _) _ _ m rfl rfl (by omega) ?_;intro w1 HR1)
  |(refine wpList_copy_str (by rfl) _ _ (by rfl) _ 0 m m _ HR1 d (by rfl) (by rfl) (by simp) ?_;intro w2 HR2;have hcv:=conv_row (n:=m) (cap:=m) HR2 (by rw[hl.out];exact tL_len _ _)))
 go_ret2
 exact⟨by rw[<-hl.out];rfl,HR2.out.2.1⟩
set_option maxRecDepth 100000 in
theorem write_code(d:ByteArray)(off:Int)(s:ByteArray)(w:World)(hd:d.size<=2000)(hs:s.size<=2000)(ho:IsI64 off):
  Calls Tryz.prog 165 #[.string d,.int .i64 off,.string s] w fun e w'=>e=.returned (.tuple #[.string (wR d off s).1,.int .i64 (wR d off s).2])/\Below w.heap.size w w':=by
 have hes:(s.toList== [])=decide (s.size=0):=by
  rw[ByteArray.toList_eq];have e2:s.data.toList.length=s.size:=by simp
  cases hl:s.data.toList with
  |nil=>rw[hl] at e2;rw[decide_eq_true (by simpa using e2.symm)];rfl
  |cons a l=>rw[hl,List.length_cons] at e2;rw[decide_eq_false (by omega)];rfl
 by_cases h0:off<0
 ·rw[show wR d off s=(d,1) by unfold wR;rw[if_pos (Or.inl h0)]]
  go_enter Tryz.func165,Tryz.ntmps165
  go_wp2_with fail
  go_ret2
  exact⟨rfl,Below.refl _ _⟩
 by_cases hs0:s.size=0
 ·rw[show wR d off s=(d,1) by unfold wR;rw[if_pos (Or.inr hs0)]];rw[decide_eq_true hs0] at hes
  go_enter Tryz.func165,Tryz.ntmps165
  go_wp2_with fail
  go_ret2
  exact⟨rfl,Below.refl _ _⟩
 rw[decide_eq_false hs0] at hes;have hw:=Lib.hid (show wrap64 (64-off)=64-off by unfold IsI64 at ho;unfold wrap64;omega);by_cases h1:64-off<(s.size:Int)
 ·rw[show wR d off s=(d,11) by unfold wR;rw[if_neg (by omega),if_pos (by omega)]];have hq:decide (wrap64 (64-off)<(s.size:Int))=true:=by rw[hw.out];exact decide_eq_true h1
  go_enter Tryz.func165,Tryz.ntmps165
  go_wp2_with fail
  go_ret2
  exact⟨rfl,Below.refl _ _⟩
 by_cases h2:64<d.size
 ·rw[show wR d off s=(d,11) by unfold wR;rw[if_neg (by omega),if_pos (by omega)]]
  go_enter Tryz.func165,Tryz.ntmps165
  go_wp2_with fail
  go_ret2
  exact⟨rfl,Below.refl _ _⟩
 obtain⟨o,rfl⟩:∃m:Nat,off=(m:Int):=⟨off.toNat,by omega⟩;obtain⟨n,hn⟩:∃n,n=max d.size (o+s.size):=⟨_,rfl⟩;have hn64:n<=64:=by omega
 rw[show wR d (o:Int) s=(⟨(wL d.data.toList s.data.toList o).toArray⟩,0) by unfold wR;rw[if_neg (by omega),if_neg (by omega)];rfl];have hq:decide (wrap64 (64-(o:Int))<(s.size:Int))=false:=by rw[hw.out];exact decide_eq_false h1
 have hw2:=Lib.hid (show max (d.size:Int) ((o:Int)+(s.size:Int))=(n:Int) by omega);have hl:=Lib.hid (lay_wL d s o n hn);have hll:=Lib.hid (show(wL d.data.toList s.data.toList o).length=n by rw[wL_len,len_bytes,len_bytes,hn]);have hod:o<=n:=by omega
 have hno:¬n=o:=by omega
 have hcut:=Lib.hid (show o+(n-o)<=n by omega);clear h0 ho hn
 go_enter Tryz.func165,Tryz.ntmps165
 go_wp2_with (first
  |(refine wpList_max_nat (by rfl) _ _ _ (by rfl) _ _ n (by rfl) (by rfl) hw2.out ?_)
  |(at_make;refine wpList_make_bytes rfl _ _ rfl (Below.refl w.heap.size w) (Nat.le_refl _) _ _ n rfl rfl (by omega) ?_;intro w1 HR1)
  |(refine wpList_copy_str (by rfl) _ _ (by rfl) _ 0 n n _ HR1 d (by rfl) (by rfl) (by simp) ?_;intro w2 HR2)
  |(refine wpList_copy_str (by rfl) _ _ (by rfl) _ o (n-o) (n-o) _ HR2 s (by rfl) (by rfl) (by rw[lay_room];exact hcut.out) ?_;intro w3 HR3;have hcv:=conv_row (n:=n) (cap:=n) HR3 (by rw[hl.out];exact hll.out)))
 go_ret2
 exact⟨by rw[<-hl.out];rfl,HR3.out.2.1⟩
theorem extentHave:ExtentHave where
 write:=fun d off s w hd hs ho=>write_code d off s w hd hs ho
 trunc:=fun d n w hd hn=>trunc_code d n w hd hn
end Go.Proofs.YtnnnkaobhkeocaaGreatDoor
namespace Go.Proofs.YtnnnkaobhkeocaaGreatDoor
open Go.RowKit StampMath GraphMath OpMath PackMath ExtentMath
theorem applyHave:ApplyHave graphHave where
 why:=fun a S g o w _ h hf ho=>why_code graphHave a S g o w h hf.ok ho
 does:=fun a S g o w _ h _ hf ho=>(do_core graphHave extentHave (bare w) w _ a g o (bare_gx h hf.ok) hf ho).mono fun _ _ ⟨he,k⟩=>by
  obtain⟨S',q⟩:=gx_bare k;exact⟨S',he,q⟩
 nilDo:=fun o w _ _=>do_nil o w
 may:=fun o w _ ho=>opMay_any o w ho.ok ho.name ho.new ho.data
 makes:=fun o w _ _=>makes_any o w
end Go.Proofs.YtnnnkaobhkeocaaGreatDoor
namespace Go.Proofs.YtnnnkaobhkeocaaGreatDoor
open Go.RowKit Go.Shelf Go.Sort StampMath GraphMath OpMath PackMath StableM
theorem stable_none(cap:Nat)(fv:Value)(w:World):Calls Tryz.prog 93 #[.slice none 0 cap,.int .i64 0,fv] w fun r w'=>r=.returned (.tuple #[])/\w'=w:=by
 have HI:Hid (∀W,Calls Tryz.prog 130 #[.slice none 0 cap,.int .i64 0,.int .i64 0,fv] W fun e w'=>e=.returned (.tuple #[])/\w'=W):=fun W=>AnyF.insertionSortCmpFunc_none Tryz.insOp none cap fv W
 go_enter Tryz.func93,Tryz.ntmps93
 go_wp2
 refine wp_loop_rounds 1 ?_;rw[rounds_succ]
 go_wp2_with fail
 refine(HI.out _).mono ?_;rintro e w1 ⟨rfl,rfl⟩
 go_wp2
 refine wp_loop_rounds 1 ?_;rw[rounds_succ]
 go_wp2
 go_end0
 exact⟨rfl,rfl⟩
theorem stable_own{w:World}{base:Nat}{e:TypeId}{v:Value}{n:Nat}{xs:List Opn}(hn:xs.length=n)(h:w.ownsRow base e 13 v n (flat (xs.map opA)))(hsz:n<1000000000):
  Calls Tryz.prog 61 #[v,.func (.func 62) #[] #[]] w fun r w'=>r=.returned (.tuple #[])/\∃ys:List Opn,ys.length=n/\SameK oSt ys xs/\Up oSt lessS ys/\w'.ownsRow base e 13 v n (flat (ys.map opA))/\But (fun i=>v.ownBlock=some i) w w':=by
 obtain⟨hl,h⟩:=h;rcases h with ⟨rfl,h0⟩|⟨b,cap,cur,rfl,hb,hg,hc1,hc2,hcs,ht⟩
 ·subst h0;have hx:xs= []:=List.length_eq_zero_iff.1 hn;subst hx
  go_enter Tryz.func61,Tryz.ntmps61
  go_wp2_with fail
  refine(stable_none 0 _ _).mono ?_;rintro r w1 ⟨rfl,rfl⟩
  go_wp2_with fail
  go_end0
  exact⟨rfl,[],rfl,SameK.refl _,List.Pairwise.nil,⟨hl,Or.inl ⟨rfl,rfl⟩⟩,But.refl _ _⟩
 ·have HS:=Lib.hid (stable_some hn hb hg hc1 hc2 hcs ht hsz);clear hg hcs ht hl hc1 hc2
  go_enter Tryz.func61,Tryz.ntmps61
  go_wp2_with fail
  refine HS.out.mono ?_;rintro r w1 ⟨rfl,ys,h1,h2,h3,h4,h5⟩;have HF:Hid (∃ys:List Opn,ys.length=n/\SameK oSt ys xs/\Up oSt lessS ys/\w1.ownsRow base e 13 (.slice (some ⟨b,0,none⟩) n cap) n (flat (ys.map opA))/\But (fun i=>(Value.slice (some ⟨b,0,none⟩) n cap).ownBlock=some i) w w1):=
   ⟨ys,h1,h2,h3,h4,h5.mono fun i hi=>by rw[hi];rfl⟩
  clear h1 h2 h3 h4 h5 HS
  go_wp2_with fail
  go_end0
  exact⟨rfl,HF.out⟩
theorem compact_own{w:World}{base:Nat}{e:TypeId}{v:Value}{n:Nat}{xs:List Opn}(hn:xs.length=n)(h:w.ownsRow base e 13 v n (flat (xs.map opA)))(hsz:n<1000000000):
  Calls Tryz.prog 63 #[v,.func (.func 64) #[] #[]] w fun r w'=>∃v',r=.returned v'/\w'.ownsRow base e 13 v' (adjK oSt none xs).length (flat ((adjK oSt none xs).map opA))/\But (fun i=>v.ownBlock=some i) w w':=by
 obtain⟨hl,h⟩:=h;rcases h with ⟨rfl,h0⟩|⟨b,cap,cur,rfl,hb,hg,hc1,hc2,hcs,ht⟩
 ·subst h0;have hx:xs= []:=List.length_eq_zero_iff.1 hn;subst hx
  go_enter Tryz.func63,Tryz.ntmps63
  go_wp2_with fail
  go_ret
  exact⟨_,rfl,World.ownsRow_nil _ _ _ _,But.refl _ _⟩
 ·subst hn;have R:=row_of_own hg ht;have h:=compact_in (key:=oSt) comp_in opE noOpn (fun w=>by kernel_rfl) 64 (enters_of Tryz.func64 (by kernel_rfl) rfl)
   (fun W x y=>by rw[eq_first,eq_first];exact(sort2_grown x y W).mono fun _ _ h=>⟨h.1,h.2.grow⟩) b 0 cap xs.toArray w R (by simpa using hsz) (by simpa using hc1) hc2 xs.length (by simp) w (SWK.start R.hH)
  refine h.mono ?_;rintro r w' ⟨d',rfl,h1,h2,S⟩;have hxs:xs.toArray.toList=xs:=by simp
  rw[hxs] at h2 ⊢;have hal:=adj_len (key:=oSt) xs none;have hd:d'.size<=cap:=by rw[h1,List.size_toArray];exact hc1
  obtain⟨q1,q2⟩:=own_of_row hb hg (Nat.le_trans hal hc1) hc2 hcs hd S h2 rfl;exact⟨_,rfl,q1,q2.mono fun i hi=>by rw[hi];rfl⟩
set_option maxRecDepth 100000 in
set_option maxHeartbeats 3200000 in
theorem sort_new(A:Option Addr)(n c:Nat)(l:List Opn)(w:World)(T:Tab w)(hn:n<=1000)(hl:∀o∈l,OpFit o)(h:OpsIn w w.heap.size A n l):
  Calls Tryz.prog 28 #[.slice A n c] w fun e w'=>∃v,e=.returned v/\w'.ownsRow w.heap.size 37 13 v (sortO l).length (flat ((sortO l).map opA))/\Below w.heap.size w w':=by
 obtain⟨i0,hi0,hz0,hz1,hz2⟩:=info_parts op_infos;have hll:=h.len;have HX:=Lib.hid h;have HF:=Lib.hid hl;have HT:=Lib.hid T;clear h hl T
 go_enter Tryz.func28,Tryz.ntmps28
 go_wp2_with fail
 go_loopg [3,8] (n+1) (fun gk out i wr=>∃k:Nat,i=.int .i64 (k:Int)/\gk+k=n+1/\k<=n/\wr.ownsRow w.heap.size 37 13 out ((l.take k).filter mayO).length (flat (((l.take k).filter mayO).map opA))/\Hid (Below w.heap.size w wr))
 case atStart=>exact⟨0,by go_num,by omega,by omega,World.ownsRow_nil _ _ _ _,Below.refl _ _⟩
 case round=>
  obtain⟨k,rfl,hgk,hk,hown,hB⟩:=hrel;have hfl:((l.take k).filter mayO).length<=k:=Nat.le_trans (List.length_filter_le ..) (List.length_take_le ..);by_cases hlt:k<n
  ·obtain⟨gi,o,rfl,hg,hrow⟩:=HX.out.row (by omega);have lk:k<l.length:=by omega
   have hs:(l.take (k+1)).filter mayO=(l.take k).filter mayO++(if mayO l[k]=true then [l[k]] else []):=by
    rw[List.take_succ_eq_append_getElem lk,List.filter_append];by_cases q:mayO l[k]=true<;>simp[q]
   have hca:=(hrow k lk).below hB.out hg;have hfit:=HF.out _ (List.getElem_mem lk);obtain⟨a,ha⟩:∃a,l[k]=a:=⟨_,rfl⟩;rw[ha] at hs hca hfit;obtain⟨d,hd⟩:∃d,d=(l.take k).filter mayO:=⟨_,rfl⟩;rw[<-hd] at hown hs hfl;have HOWN:=Lib.hid hown;have HS:=Lib.hid hs;have hi1:(k:Int)<(n:Int):=by omega
   have hi0':(0:Int)<=(k:Int):=by omega
   have TA:Tab (wr.alloc (.cells (opA a) 37)):=tab_below HT.out (Nat.le_refl _) (hB.out.alloc hB.out.size _);have HM:=Lib.hid (applyHave.may a (wr.alloc (.cells (opA a) 37)) hfit);have hH0:Held wr [(wr.heap.size,.cells (opA a) 37)] (wr.alloc (.cells (opA a) 37)):=(Held.refl wr).alloc _ rfl;have H0:=Lib.hid hH0;obtain⟨c0,c1,c2,c3,c4,c5,c6,c7,c8,c9,c10,c11,c12⟩:=hca;clear hown hs hd ha hrow hfit TA hH0;unfold opA at HM
   go_wp2_with fail
   refine HM.out.mono ?_;rintro e w2 ⟨rfl,hb2⟩;have H2:=Lib.hid (H0.out.step hb2);have B2:=Lib.hid (below_step hB.out H2.out.below);have O2:=Lib.hid ((HOWN.out.kept (row:=none) ⟨H2.out.below.os,H2.out.below.tape,H2.out.below.output,H2.out.below.size,fun q hq _=>H2.out.below.block q hq⟩ (Classical.em _)));clear c0 c1 c2 c3 c4 c5 c6 c7 c8 c9 c10 c11 c12 HM hb2 H0 HOWN
   cases hm:mayO a with
   |false=>
    have HS2:Hid ((l.take (k+1)).filter mayO=d):=by
     have:=HS.out;rw[hm,if_neg (by simp),List.append_nil] at this;exact this
    clear hm HS
    go_wp2_with fail
    go_roundg (gk-1)
    case measure=>omega
    case rel=>exact⟨k+1,by go_num,by omega,by omega,by rw[HS2.out];exact O2.out,B2⟩
   |true=>
    have HS2:Hid ((l.take (k+1)).filter mayO=d++[a]):=by
     have:=HS.out;rw[hm,if_pos rfl] at this;exact this
    obtain⟨c0,c1,c2,c3,c4,c5,c6,c7,c8,c9,c10,c11,c12⟩:=op_cells (o:=a) (g:=wr.heap.size) (H2.out.at 0 rfl);have hlow:=B2.out.size;have hm9:d.length+1<=maxLen:=by unfold maxLen;omega
    clear hm HS hi1 hi0'
    go_wp2_with (at_builtin;refine wpList_append_own _ rfl (.tmp 14) (.tmp 16) 32 rfl w.heap.size 37 i0 _ 13 128 Tryz.underlying32 hi0 hz0 hz1 hz2 rfl (by decide) _ _ _ rfl (O2.out.alloc _) ⟨w2.heap.size,0,none⟩ 1 1 (opA a).toList rfl rfl (row_there w2 _ _) (op_cells1 a) hm9 (by omega) (by simp;omega) ?_;intro v2 w3 hown3 hg3 _)
    have hb3:Below w.heap.size w w3:=(B2.out.alloc B2.out.size _).grown hg3 (by simp;omega) (fun q hq=>(O2.out.lt q hq).1);rw[flat_op] at hown3;clear c0 c1 c2 c3 c4 c5 c6 c7 c8 c9 c10 c11 c12
    go_roundg (gk-1)
    case measure=>omega
    case rel=>exact⟨k+1,by go_num,by omega,by omega,by rw[HS2.out,List.length_append];exact hown3,hb3⟩
  ·have hkn:k=n:=by omega
   have hc:¬(k:Int)<(n:Int):=by omega
   rw[List.take_of_length_le (by omega)] at hown hfl;have HO:=Lib.hid hown;have hsz:(l.filter mayO).length<1000000000:=by omega
   have HS:=Lib.hid (stable_own rfl hown hsz);have HROW:Hid (∀i,_->w.heap.size<=i):=Lib.hid fun i hi=>(hown.lt i hi).1;clear hown hkn hlt hk hgk
   go_wp2_with fail
   refine HS.out.mono ?_;rintro e w2 ⟨rfl,ys,hy1,hy2,hy3,hown2,hbut2⟩;have B2:Hid (Below w.heap.size w w2):=Lib.hid (hB.out.trans (hbut2.below (fun i hi=>HROW.out i hi) hB.out.size));have HC:=Lib.hid (compact_own hy1 hown2 hsz);have hlt2:=hown2.lt;have HROW2:=Lib.hid hlt2;rw[sort_adj hy2 hy3] at HC;clear hy1 hy2 hy3 hown2 hbut2 HS HO hlt2
   go_wp2_with fail
   refine HC.out.mono ?_;rintro e w3 ⟨v3,rfl,hown3,hbut3⟩;have B3:Hid (Below w.heap.size w w3):=Lib.hid (B2.out.trans (hbut3.below (fun i hi=>(HROW2.out i hi).1) B2.out.size));have HO3:=Lib.hid hown3;clear hown3 hbut3 HC
   go_wp2_with fail
   go_ret
   exact⟨v3,rfl,HO3.out,B3.out⟩
theorem sort_code(A:Option Addr)(n c:Nat)(l:List Opn)(w:World)(T:Tab w)(hn:n<=1000)(hl:∀o∈l,OpFit o)(h:OpsIn w w.heap.size A n l):
  Calls Tryz.prog 28 #[.slice A n c] w (OpsPost (sortO l) w):=by
 refine(sort_new A n c l w T hn hl h).mono ?_;rintro e w' ⟨v,rfl,hown,hb⟩;obtain⟨B,cB,rfl,q1,q2,q3⟩:=ops_own rfl hown;exact⟨B,cB,rfl,q1,q2,q3.1,q3.2,hb⟩
end Go.Proofs.YtnnnkaobhkeocaaGreatDoor
namespace Go.Proofs.YtnnnkaobhkeocaaGreatDoor
open Go.RowKit StampMath GraphMath OpMath PackMath
theorem cmp_gt(a b:St):decide (0<cmp a.1 a.2 b.1 b.2)=lessS b a:=by
 have h:=cmp_lt b a;have e:=cmp_turn a.1 a.2 b.1 b.2
 cases q:lessS b a with
 |true=>exact decide_eq_true (by have:=h.2 q;omega)
 |false=>exact decide_eq_false fun g=>by rw[h.1 (by omega)] at q;cases q
set_option maxRecDepth 100000 in
set_option maxHeartbeats 1600000 in
theorem below1_code(bl bs:Nat)(A:Option Addr)(n c:Nat)(x:List Opn)(s:St)(k:Nat)(hk:k<x.length)(W:World)(hl:W.heap[bl]?=some (.cells #[.slice A n c] 32 (0,0)))(hs:W.heap[bs]?=some (.cells #[.int .i64 s.1,.int .i64 s.2] 24 (0,0)))(h:OpsIn W W.heap.size A n x):
  Calls Tryz.prog 73 #[.int .i64 k,.pointer (some ⟨bl,0,none⟩),.pointer (some ⟨bs,0,none⟩)] W fun e w'=>e=.returned (.bool (lessS s (oSt x[k])))/\Below W.heap.size W w':=by
 have hn:=h.len;obtain⟨gi,o,rfl,hg,hrow⟩:=h.row (by omega);obtain⟨e0,e1,-⟩:=hrow k hk;obtain⟨d0,d1⟩:=two_cells hs;have c0:W.cell? ⟨bl,0,none⟩=some (.slice (some ⟨gi,o,none⟩) n c):=cell_of_row _ _ 0 _ _ (0,0) hl;generalize hx:x[k]=a at e0 e1 ⊢;obtain⟨v,hv⟩:∃v,v=cmp a.st a.sr s.1 s.2:=⟨_,rfl⟩;have hq:lessS s (oSt a)=decide (0<v):=by rw[hv];exact(cmp_gt (oSt a) s).symm
 have HL:Hid (∀y,Calls Tryz.prog 25 #[.agg #[.int .i64 a.st,.int .i64 a.sr],.agg #[.int .i64 s.1,.int .i64 s.2]] (later W y) fun e w'=>e=.returned (.int .i64 v)/\∃z,w'=later W z):=Lib.hid fun y=>later_call (by rw[hv];exact(compare_grown _ _ _ _ _).mono fun _ _ h=>⟨h.1,h.2.1⟩);have k0:(0:Int)<=(k:Int):=by omega
 have k1:(k:Int)<(n:Int):=by omega
 have l0:=later_cell e0;have l1:=later_cell e1;have m0:=later_cell d0;have m1:=later_cell d1;have q0:=later_cell c0;rw[hq];have hp:∃b:Bool,b=decide (0<v):=⟨_,rfl⟩;obtain⟨b,hb⟩:=hp;rw[<-hb];have hb':=hb.symm;clear hq hv hx hrow e0 e1 d0 d1 c0 hl hs h hk hn hb
 go_enter Tryz.func73,Tryz.ntmps73
 go_upto_region 1 with fail
 refine wp_region_later (by kernel_rfl) (by kernel_rfl) ?_
 repeat(go_big_quiet_step (first|(with_reducible exact HL.out _)))
 refine wpQuiet_nil ?_;intro _ hw';obtain⟨y,rfl⟩:=hw';have HB:=Lib.hid (later_below W y);clear l0 l1 m0 m1 q0 HL
 go_wp2_with fail
 go_ret
 exact⟨by first|rfl|rw[hb'],HB.out⟩
theorem search_any(n:Nat)(hn:n<1000000000)(g:Nat)(cb:Array Value)(eg:∀args w,(callFunc g args).run Tryz.prog w=.ok (.enter g args) w)(p:Nat->Bool)(hmono:∀i j,i<=j->j<n->p i=true->p j=true)(w:World)
  (HC:∀(W:World)(h:Nat),Below w.heap.size w W->h<n->Calls Tryz.prog g (#[.int .i64 h]++cb) W fun e w'=>e=.returned (.bool (p h))/\Below W.heap.size W w'):
  Calls Tryz.prog 72 #[.int .i64 n,.func (.func g) #[] cb] w fun e w'=>∃i:Nat,e=.returned (.int .i64 i)/\i<=n/\(∀j,j<i->p j=false)/\(i<n->p i=true)/\Below w.heap.size w w':=by
 have HC':=Lib.hid HC;have HM:=Lib.hid hmono;clear HC hmono
 go_enter Tryz.func72,Tryz.ntmps72
 go_wp2_with fail
 go_loopg [5,6] n (fun kx s t wr=>∃i j:Nat,s=.int .i64 i/\t=.int .i64 j/\i<=j/\j<=n/\j-i<=kx/\Hid (i=0\/p (i-1)=false)/\Hid (j=n\/p j=true)/\Hid (Below w.heap.size w wr))
 case atStart=>exact⟨0,n,by go_num,by go_num,by omega,by omega,by omega,Or.inl rfl,Or.inl rfl,Below.refl _ _⟩
 case round=>
  obtain⟨i,j,rfl,rfl,hij,hjn,hkx,HI,HJ,HB⟩:=hrel;by_cases hlt:i<j
  ·have hltz:(i:Int)<(j:Int):=by omega
   obtain⟨c,hc⟩:∃c:Nat,c=(i+j)/2:=⟨_,rfl⟩;have hcz:((i:Int)+(j:Int))/2=(c:Int):=by omega
   have hic:i<=c:=by omega
   have hcj:c<j:=by omega
   have HE:=Lib.hid (HC'.out wr c HB.out (by omega));obtain⟨b,hb⟩:∃b,b=p c:=⟨_,rfl⟩;rw[<-hb] at HE;have HBB:=Lib.hid hb;clear hc hb
   go_wp2_with fail
   go_at_fn g
   refine Calls.mono HE.out ?_;rintro e w2 ⟨rfl,hb2⟩;have HB2:=Lib.hid (below_step HB.out hb2);clear hb2 HE hcz
   cases b with
   |true=>
    go_wp2_with fail
    go_roundg (c-i)
    case measure=>omega
    case rel=>exact⟨i,c,rfl,by go_num,hic,by omega,Nat.le_refl _,HI,Or.inr HBB.out.symm,HB2⟩
   |false=>
    go_wp2_with fail
    go_roundg (j-(c+1))
    case measure=>omega
    case rel=>exact⟨c+1,j,by go_num,rfl,by omega,hjn,Nat.le_refl _,Or.inr HBB.out.symm,HJ,HB2⟩
  ·have hltz:¬(i:Int)<(j:Int):=by omega
   have hin:i=j:=by omega
   have HF:Hid (i<=n/\(∀j,j<i->p j=false)/\(i<n->p i=true)):=by
    refine⟨by omega,fun t ht=>?_,fun h=>?_⟩
    ·rcases HI.out with q|q
     ·omega
     ·cases e:p t with
      |false=>rfl
      |true=>
       rw[HM.out t (i-1) (by omega) (by omega) e] at q
       cases q
    ·rcases HJ.out with q|q
     ·omega
     ·rw[hin];exact q
   clear hin HI HJ
   go_wp2_with fail
   go_ret
   exact⟨i,rfl,HF.out.1,HF.out.2.1,HF.out.2.2,HB.out⟩
set_option maxRecDepth 100000 in
theorem below_code(A:Option Addr)(n c:Nat)(x:List Opn)(s:St)(w:World)(hn:n<=1000)(hx:Rises x)(h:OpsIn w w.heap.size A n x):
    Calls Tryz.prog 38 #[.slice A n c,.agg (stA s)] w fun e w'=>e=.returned (.int .i64 (belowO x s:Int))/\Below w.heap.size w w':=by
  have hl:=h.len;have hH:Held w [(w.heap.size+1,.cells #[.int .i64 s.1,.int .i64 s.2] 24),(w.heap.size,.cells #[.slice A n c] 32)] ((w.alloc (.cells #[.slice A n c] 32)).alloc (.cells #[.int .i64 s.1,.int .i64 s.2] 24)):=
    ((Held.refl w).alloc (.cells #[.slice A n c] 32) rfl).alloc (.cells #[.int .i64 s.1,.int .i64 s.2] 24) (by simp)
  have HX:=Lib.hid h;have HR:=Lib.hid hx;have HH:=Lib.hid hH;clear h hx hH;unfold stA
  go_enter Tryz.func38,Tryz.ntmps38
  go_upto_region 1 with fail
  change Code.wp _ _ _ _ ((w.alloc (.cells #[.slice A n c] 32)).alloc (.cells #[.int .i64 s.1,.int .i64 s.2] 24));generalize (w.alloc (.cells #[.slice A n c] 32)).alloc (.cells #[.int .i64 s.1,.int .i64 s.2] 24)=w1 at HH ⊢;have c0:w1.cell? ⟨w.heap.size,0,none⟩=some (.slice A n c):=cell_of_row _ _ 0 _ _ (0,0) (HH.out.at 1 rfl);have HS:=Lib.hid (search_any n (by omega) 73 #[.pointer (some ⟨w.heap.size,0,none⟩),.pointer (some ⟨w.heap.size+1,0,none⟩)] (enters_of Tryz.func73 (by kernel_rfl) rfl) (fun k=>if h:k<x.length then lessS s (oSt x[k]) else false)
    (fun i j hij hj hi=>by
      rw[dif_pos (show i<x.length by omega)] at hi;rw[dif_pos (show j<x.length by omega)];by_cases q:i=j
      · subst q;exact hi
      · exact lessS_trans hi (List.pairwise_iff_getElem.1 HR.out i j (by omega) (by omega) (by omega)))
    w1 (fun W k hW hk=>by
      rw[dif_pos (show k<x.length by omega)];have hHW:=HH.out.step hW
      exact below1_code _ _ A n c x s k (by omega) W (hHW.at 1 rfl) (hHW.at 0 rfl) ((HX.out.below hHW.below).more hHW.below.size)))
  have HB:=Lib.hid HH.out.below;clear HH
  go_wp2_with fail
  refine HS.out.mono ?_;rintro e w2 ⟨i,rfl,h1,h2,h3,hb⟩;have HF:Hid (belowO x s=i):=by
    refine while_is (by omega) (fun j hj hji=>?_) fun hj=>?_
    · have:=h2 j hji
      rw[dif_pos hj] at this;rw[this];rfl
    · have:=h3 (by omega)
      rw[dif_pos hj] at this;rw[this];rfl
  clear h1 h2 h3 c0
  go_wp2_with fail
  go_ret
  exact⟨by rw[HF.out];rfl,below_step HB.out hb⟩
set_option maxRecDepth 100000 in
theorem clone_code(A:Option Addr)(n c:Nat)(x:List Opn)(w:World)(hn:n<=1000)(hd:A=none->c=0)(h:OpsIn w w.heap.size A n x):
  Calls Tryz.prog 55 #[.slice A n c] w (OpsMade w.heap.size x w):=by
 obtain⟨i0,hi0,hz0,hz1,hz2⟩:=info_parts op_infos;have hl:=h.len
 cases A with
 |none=>
  obtain rfl:c=0:=hd rfl;have hn0:n=0:=by
   rcases Nat.eq_zero_or_pos n with q|q
   ·exact q
   ·obtain⟨g,o,e,_⟩:=h.2 q
    cases e
  subst hn0;have hx:x= []:=List.length_eq_zero_iff.1 hl;subst hx;have he:∀W:World,(binOp .eql 32 (.slice none 0 0) (.slice none 0 0)).run Tryz.prog W=.ok (.bool true) W:=fun W=>Lib.run_eql_slice_nil W _ _ none 0 0 0 0 Tryz.underlying32
  go_enter Tryz.func55,Tryz.ntmps55
  go_wp2_with fail
  go_ret
  exact⟨none,0,rfl,ops_none _,Nat.le_refl _,Nat.zero_le _,⟨fun _=>rfl,World.ownsRow_nil _ _ _ _⟩,Below.refl _ _⟩
 |some ad=>
  have HX:=Lib.hid h;have hT:=h.below ((Below.refl w.heap.size w).alloc (Nat.le_refl _) (.cells #[] 37));have hk1:0+n<=maxLen:=by unfold maxLen;omega
  clear h;have he:∀W:World,(binOp .eql 32 (.slice (some ad) n c) (.slice none 0 0)).run Tryz.prog W=.ok (.bool false) W:=fun W=>Lib.run_eql_slice_nil W _ _ (some ad) n c 0 0 Tryz.underlying32
  go_enter Tryz.func55,Tryz.ntmps55
  go_wp2_with (at_builtin;refine wpList_append_tab rfl (.tmp 5) (.tmp 6) 32 rfl w.heap.size 37 i0 _ 13 128 Tryz.underlying32 hi0 hz0 hz1 hz2 rfl (by decide) _ 0 [] rfl (own_empty w w.heap.size _ _ (Nat.le_refl _)) (some ad) n c w.heap.size (x.map opA) rfl hT (fun h=>by cases h) (op_rows _).1 (op_rows _).2 hk1 (by omega) (by simp) ?_;intro v4 w4 hown4 hg4)
  rw[List.nil_append,Nat.zero_add] at hown4;have hb:Below w.heap.size w w4:=((Below.refl w.heap.size w).alloc (Nat.le_refl _) (.cells #[] 37)).grown hg4 (by simp) (fun q hq=>((own_empty w w.heap.size 37 13 (Nat.le_refl _)).lt q hq).1);obtain⟨B,cB,rfl,q1,q2,q3⟩:=ops_made hl hown4;have HF:Hid (OpsIn w4 w4.heap.size B x.length x/\x.length<=cB/\cB<=maxLen/\Made w.heap.size w4 B cB x/\Below w.heap.size w w4):=by
   rw[hl];exact⟨q1,q2,q3.1,q3.2,hb⟩
  clear hown4 hg4 hb q1 q2 q3 hT
  go_wp2_with fail
  go_ret
  exact⟨B,cB,by rw[hl];rfl,HF.out⟩
set_option maxRecDepth 100000 in
theorem grow_code(n:Nat)(h0:0<n)(hn:n<=5000)(w:World):
  Calls Tryz.prog 106 #[.slice none 0 0,.int .i64 n] w fun e w'=>∃v,e=.returned v/\w'.ownsRow w.heap.size 37 13 v 0 (flat [])/\Below w.heap.size w w':=by
 obtain⟨i0,hi0,hz0,hz1,hz2⟩:=info_parts op_infos;have hr:∀ty,(Builtin.append_ #[32,3] ty #[.slice none 0 0,.int .i64 n]).run Tryz.prog w=_:=fun ty=>Lib.run_append_nil_zeros w 32 3 ty 37 i0 _ .i64 .i64 Tryz.underlying32 Tryz.underlying3 hi0 hz0 n h0 (by omega) (by omega) (by rw[hz2];omega);have hcge:=grownCap_ge w n 0 37;have hcle:=grownCap_le_maxLen w n 0 37 (by unfold maxLen;omega);have hown:Hid ((w.drew.alloc (.cells (Builtin.zeroCells (Value.agg #[.int .i64 0,.int .i64 0,.int .i64 0,.int .i64 0,.int .i64 0,.int .i64 0,.int .i64 0,.int .i64 0,.int .i64 0,.string ⟨#[]⟩,.string ⟨#[]⟩,.int .i64 0,.string ⟨#[]⟩]).cells n++Builtin.zeroCells (Value.agg #[.int .i64 0,.int .i64 0,.int .i64 0,.int .i64 0,.int .i64 0,.int .i64 0,.int .i64 0,.int .i64 0,.int .i64 0,.string ⟨#[]⟩,.string ⟨#[]⟩,.int .i64 0,.string ⟨#[]⟩]).cells (grownCap w n 0 37-n)) 37)).ownsRow w.heap.size 37 13 (.slice (some ⟨w.heap.size,0,none⟩) 0 (grownCap w n 0 37)) 0 []/\Below w.heap.size w (w.drew.alloc (.cells (Builtin.zeroCells (Value.agg #[.int .i64 0,.int .i64 0,.int .i64 0,.int .i64 0,.int .i64 0,.int .i64 0,.int .i64 0,.int .i64 0,.int .i64 0,.string ⟨#[]⟩,.string ⟨#[]⟩,.int .i64 0,.string ⟨#[]⟩]).cells n++Builtin.zeroCells (Value.agg #[.int .i64 0,.int .i64 0,.int .i64 0,.int .i64 0,.int .i64 0,.int .i64 0,.int .i64 0,.int .i64 0,.int .i64 0,.string ⟨#[]⟩,.string ⟨#[]⟩,.int .i64 0,.string ⟨#[]⟩]).cells (grownCap w n 0 37-n)) 37))):=by
  refine⟨World.ownsRow_made w.drew _ _ (Nat.le_refl _) hcle ?_,((Below.refl _ w).drew).alloc (Nat.le_refl _) _⟩;simp only[Array.size_append,size_zeroCells,Value.cells];rw[<-Nat.add_mul];simp;omega
 generalize w.drew.alloc (.cells (Builtin.zeroCells (Value.agg #[.int .i64 0,.int .i64 0,.int .i64 0,.int .i64 0,.int .i64 0,.int .i64 0,.int .i64 0,.int .i64 0,.int .i64 0,.string ⟨#[]⟩,.string ⟨#[]⟩,.int .i64 0,.string ⟨#[]⟩]).cells n++Builtin.zeroCells (Value.agg #[.int .i64 0,.int .i64 0,.int .i64 0,.int .i64 0,.int .i64 0,.int .i64 0,.int .i64 0,.int .i64 0,.int .i64 0,.string ⟨#[]⟩,.string ⟨#[]⟩,.int .i64 0,.string ⟨#[]⟩]).cells (grownCap w n 0 37-n)) 37)=w1 at hr hown;generalize grownCap w n 0 37=cp at hr hcge hown;have h0z:(0:Int)<(n:Int):=by omega
 have HR:=Lib.hid hr;clear hr hcle
 go_enter Tryz.func106,Tryz.ntmps106
 go_wp2_with (at_builtin;refine Lib.wpList_append_run _ rfl (.tmp 20) (.tmp 21) _ _ rfl _ _ rfl rfl _ _ (HR.out _) ?_)
 go_wp2_with fail
 go_ret
 exact⟨_,rfl,hown.out.1,hown.out.2⟩
set_option maxRecDepth 100000 in
set_option maxHeartbeats 3200000 in
theorem concat_code(w:World)(g:Nat)(A1:Option Addr)(n1 c1:Nat)(x1:List Opn)(A2:Option Addr)(n2 c2:Nat)(x2:List Opn)(A3:Option Addr)(n3 c3:Nat)(x3:List Opn)
  (h0:w.cell? ⟨g,0,none⟩=some (.slice A1 n1 c1))(h1:w.cell? ⟨g,1,none⟩=some (.slice A2 n2 c2))(h2:w.cell? ⟨g,2,none⟩=some (.slice A3 n3 c3))
  (o1:OpsIn w w.heap.size A1 n1 x1)(o2:OpsIn w w.heap.size A2 n2 x2)(o3:OpsIn w w.heap.size A3 n3 x3)(d1:A1=none->c1=0)(d2:A2=none->c2=0)(d3:A3=none->c3=0)(hs:n1+n2+n3<=5000)(hp:0<n2):
  Calls Tryz.prog 76 #[.slice (some ⟨g,0,none⟩) 3 3] w (OpsMade w.heap.size (x1++x2++x3) w):=by
 obtain⟨i0,hi0,hz0,hz1,hz2⟩:=info_parts op_infos;have hg:=World.block_lt_of_cell? _ _ h0;have e0:∀W,Below w.heap.size w W->W.cell? ⟨g,0,none⟩=some (.slice A1 n1 c1):=fun W hW=>(hW.cell (p:=⟨g,0,none⟩) hg).trans h0;have e1:∀W,Below w.heap.size w W->W.cell? ⟨g,1,none⟩=some (.slice A2 n2 c2):=fun W hW=>(hW.cell (p:=⟨g,1,none⟩) hg).trans h1;have e2:∀W,Below w.heap.size w W->W.cell? ⟨g,2,none⟩=some (.slice A3 n3 c3):=fun W hW=>(hW.cell (p:=⟨g,2,none⟩) hg).trans h2;have E0:=Lib.hid e0;have E1:=Lib.hid e1;have E2:=Lib.hid e2;have O1:=Lib.hid o1;have O2:=Lib.hid o2;have O3:=Lib.hid o3;have hz:((n1:Int)+(n2:Int)+(n3:Int))=((n1+n2+n3:Nat):Int):=by omega
 have HL:Hid (x1.length=n1/\x2.length=n2/\x3.length=n3):=⟨o1.len,o2.len,o3.len⟩;have HG:=Lib.hid (grow_code (n1+n2+n3) (by omega) hs w);have s1:¬(n1:Int)<0:=by omega
 have s2:¬(n1:Int)+(n2:Int)<0:=by omega
 have s3:¬(n1:Int)+(n2:Int)+(n3:Int)<0:=by omega
 have hn1:(n1:Int)<=5000:=by omega
 have hn2:(n2:Int)<=5000:=by omega
 have hn3:(n3:Int)<=5000:=by omega
 rw[<-hz] at HG;clear e0 e1 e2 o1 o2 o3 hz
 go_enter Tryz.func76,Tryz.ntmps76
 go_wp2_with fail
 refine wp_loop_rounds 4 ?_;rw[rounds_succ]
 go_wp2_with fail
 rw[rounds_succ]
 go_wp2_with fail
 rw[rounds_succ]
 go_wp2_with fail
 rw[rounds_succ]
 go_wp2_with fail
 refine HG.out.mono ?_;rintro e w2 ⟨v2,rfl,hown2,hb2⟩;have B2:=Lib.hid hb2;have W2:=Lib.hid hown2;clear hb2 hown2 h0 h1 h2 s1 s2 s3 HG;have h0:=E0.out _ B2.out;have t1:=O1.out.below B2.out;have k1:0+n1<=maxLen:=by unfold maxLen;omega
 have l2:=B2.out.size;have T1:=Lib.hid t1;clear t1
 go_wp2_with fail
 refine wp_loop_rounds 4 ?_;rw[rounds_succ]
 go_wp2_with (at_builtin;refine wpList_append_tab rfl (.tmp 31) (.tmp 32) 32 rfl w.heap.size 37 i0 _ 13 128 Tryz.underlying32 hi0 hz0 hz1 hz2 rfl (by decide) _ 0 [] rfl W2.out A1 n1 c1 w.heap.size (x1.map opA) rfl T1.out d1 (op_rows _).1 (op_rows _).2 k1 (by omega) l2 ?_;intro v3 w3 hown3 hg3)
 rw[List.nil_append,Nat.zero_add] at hown3;have B3:=Lib.hid (B2.out.grown hg3 l2 fun q hq=>(W2.out.lt q hq).1);have W3:=Lib.hid hown3;clear hown3 hg3 W2 T1 k1 l2 h0;have h1:=E1.out _ B3.out;have T2:=Lib.hid (O2.out.below B3.out);have k2:n1+n2<=maxLen:=by unfold maxLen;omega
 have l3:=B3.out.size
 go_wp2_with fail
 rw[rounds_succ]
 go_wp2_with (at_builtin;refine wpList_append_tab rfl (.tmp 31) (.tmp 32) 32 rfl w.heap.size 37 i0 _ 13 128 Tryz.underlying32 hi0 hz0 hz1 hz2 rfl (by decide) _ _ _ rfl W3.out A2 n2 c2 w.heap.size (x2.map opA) rfl T2.out d2 (op_rows _).1 (op_rows _).2 k2 (by omega) l3 ?_;intro v4 w4 hown4 hg4)
 have B4:=Lib.hid (B3.out.grown hg4 l3 fun q hq=>(W3.out.lt q hq).1);have W4:=Lib.hid hown4;clear hown4 hg4 W3 T2 k2 l3 h1;have h2:=E2.out _ B4.out;have T3:=Lib.hid (O3.out.below B4.out);have k3:n1+n2+n3<=maxLen:=by unfold maxLen;omega
 have l4:=B4.out.size
 go_wp2_with fail
 rw[rounds_succ]
 go_wp2_with (at_builtin;refine wpList_append_tab rfl (.tmp 31) (.tmp 32) 32 rfl w.heap.size 37 i0 _ 13 128 Tryz.underlying32 hi0 hz0 hz1 hz2 rfl (by decide) _ _ _ rfl W4.out A3 n3 c3 w.heap.size (x3.map opA) rfl T3.out d3 (op_rows _).1 (op_rows _).2 k3 (by omega) l4 ?_;intro v5 w5 hown5 hg5)
 have B5:=Lib.hid (B4.out.grown hg5 l4 fun q hq=>(W4.out.lt q hq).1);rw[<-List.map_append,<-List.map_append] at hown5;have hlen:(x1++x2++x3).length=n1+n2+n3:=by
  obtain⟨q1,q2,q3⟩:=HL.out;simp only[List.length_append];omega
 obtain⟨B,cB,rfl,q1,q2,q3⟩:=ops_made hlen hown5;have HF:Hid (OpsIn w5 w5.heap.size B (x1++x2++x3).length (x1++x2++x3)/\(x1++x2++x3).length<=cB/\cB<=maxLen/\Made w.heap.size w5 B cB (x1++x2++x3)/\Below w.heap.size w w5):=by
  rw[hlen];exact⟨q1,q2,q3.1,q3.2,B5.out⟩
 have HN:=Lib.hid hlen;clear hown5 hg5 W4 T3 k3 l4 h2 q1 q2 q3 hlen
 go_wp2_with fail
 rw[rounds_succ]
 go_wp2_with fail
 go_ret
 exact⟨B,cB,by rw[HN.out];rfl,HF.out⟩
end Go.Proofs.YtnnnkaobhkeocaaGreatDoor
