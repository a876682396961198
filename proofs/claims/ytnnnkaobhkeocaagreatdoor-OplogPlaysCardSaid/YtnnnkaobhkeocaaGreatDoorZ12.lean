/-
 Plain mathematics of layer 12: what came is untied and dropped, what was otherwise is made and set, what was lost is tied: then all is as it was. It needs no program.
-/
import Derived.Test.YtnnnkaobhkeocaaGreatDoorZ11
import Derived.Test.YtnnnkaobhkeocaaGreatDoorZ00
import Derived.Test.YtnnnkaobhkeocaaGreatDoorZ08
import Derived.Test.YtnnnkaobhkeocaaGreatDoorZ02
import Derived.Test.YtnnnkaobhkeocaaGreatDoorZ01
import Derived.Test.YtnnnkaobhkeocaaGreatDoorZ01
import Derived.Deep.LoopGhost
import Derived.Deep.DeepCutAuto
import Derived.Maps.Own
import Derived.Maps.OwnOps
import Derived.Deep.Cut
import Derived.Test.YtnnnkaobhkeocaaGreatDoorZ10
namespace Go.Proofs.YtnnnkaobhkeocaaGreatDoor.GraphMath
open StampMath OpMath ExtentMath
def untieAll(g:Gr)(L:List Ent):Gr:=L.foldl (fun g e=>(untieG g e.dir e.name).1) g
def dropAll(g:Gr)(L:List St):Gr:=L.foldl (fun g s=>(dropG g s).1) g
def remake(g:Gr)(x:Ino):Gr:=(setG (makeG g x.id x.kind).1 x.id x.mode x.data).1
def remakeAll(g:Gr)(L:List Ino):Gr:=L.foldl remake g
def tieAll(g:Gr)(L:List Ent):Gr:=L.foldl (fun g e=>(tieG (nameB e.name) g e).1) g
def backG(g:Gr)(r:Rec):Gr:=tieAll (remakeAll (dropAll (untieAll g r.made) r.new) r.was) r.lost
theorem foldl_next{α β:Type}(f:β->α->β)(g:β){l:List α}{k:Nat}(h:k<l.length):(l.take (k+1)).foldl f g=f ((l.take k).foldl f g) l[k]:=by
 rw[List.take_succ_eq_append_getElem h,List.foldl_append]
 rfl
theorem untieAll_ok{g:Gr}(h:g.ok):∀L:List Ent,(untieAll g L).ok
 | []=>h
 |e::L=>untieAll_ok (h.untie e.dir e.name) L
theorem dropAll_ok{g:Gr}(h:g.ok):∀L:List St,(dropAll g L).ok
 | []=>h
 |s::L=>dropAll_ok (h.drop s) L
theorem remake_ok{g:Gr}(h:g.ok)(x:Ino):(remake g x).ok:=(h.make _ _).set _ _ _
theorem remakeAll_ok{g:Gr}(h:g.ok):∀L:List Ino,(remakeAll g L).ok
 | []=>h
 |x::L=>remakeAll_ok (remake_ok h x) L
theorem tieAll_ok{g:Gr}(h:g.ok):∀L:List Ent,(tieAll g L).ok
 | []=>h
 |e::L=>tieAll_ok (h.tie _ e) L
theorem untie_I(g:Gr)(d:St)(nm:ByteArray):(untieG g d nm).1.I=g.I:=by
 unfold untieG
 split<;>rfl
theorem untie_mem{g:Gr}{d:St}{nm:ByteArray}{e:Ent}:e∈(untieG g d nm).1.E↔e∈g.E/\¬(e.dir=d/\e.name=nm):=by
 cases hl:lookE g.E d nm with
 |none=>
  have:=look_none hl;have e1:(untieG g d nm).1=g:=by unfold untieG;rw[hl]
  rw[e1];exact⟨fun q=>⟨q,this e q⟩,fun q=>q.1⟩
 |some id=>
  rw[untie_eq hl];exact mem_without
theorem untieAll_I:∀(L:List Ent)(g:Gr),(untieAll g L).I=g.I
 | [],_=>rfl
 |e::L,g=>(untieAll_I L _).trans (untie_I g e.dir e.name)
theorem untieAll_mem{x:Ent}:∀(L:List Ent)(g:Gr),x∈(untieAll g L).E↔x∈g.E/\∀a∈L,¬(x.dir=a.dir/\x.name=a.name)
 | [],g=>⟨fun q=>⟨q,fun _ ha=>nomatch ha⟩,fun q=>q.1⟩
 |e::L,g=>by
  show x∈(untieAll (untieG g e.dir e.name).1 L).E↔_;rw[untieAll_mem L,untie_mem,and_assoc];refine and_congr_right fun _=>⟨fun⟨h1,h2⟩ a ha=>?_,fun h=>⟨h e (List.mem_cons_self ..),fun a ha=>h a (List.mem_cons_of_mem _ ha)⟩⟩;rcases List.mem_cons.1 ha with rfl|ha
  ·exact h1
  ·exact h2 a ha
theorem back_untied{g g':Gr}(h':g'.ok){x:Ent}:x∈(untieAll g' (lostG g' g)).E↔x∈g'.E/\x∈g.E:=by
 rw[untieAll_mem];refine and_congr_right fun hx=>⟨fun h=>Classical.byContradiction fun q=>h x (mem_lost.2 ⟨hx,q⟩) ⟨rfl,rfl⟩,fun hg a ha hk=>?_⟩;obtain⟨a1,a2⟩:=mem_lost.1 ha;have e1:=key_one h' hx hk;have e2:=key_one h' a1 (d:=a.dir) (nm:=a.name) ⟨rfl,rfl⟩;rw[<-e2] at e1;rw[e1] at hg;exact a2 hg
theorem dropAll_E:∀(L:List St)(g:Gr),(dropAll g L).E=g.E
 | [],_=>rfl
 |s::L,g=>(dropAll_E L _).trans (drop_ents g s)
theorem drop_mem{g:Gr}{s:St}(h0:s≠(0,0))(hE:∀e∈g.E,e.ino≠s/\e.dir≠s){x:Ino}:x∈(dropG g s).1.I↔x∈g.I/\x.id≠s:=by
 unfold dropG
 cases hg:getG g s with
 |none=>exact⟨fun q=>⟨q,get_none hg x q⟩,fun q=>q.1⟩
 |some y=>
  dsimp only;obtain⟨z,hz,hzi,rfl⟩:=get_some hg;have hl:linksE g.E s=0:=by
   unfold linksE;rw[List.length_eq_zero_iff,List.filter_eq_nil_iff];intro e he;simp[(hE e he).1]
  have hn:listE g.E s= []:=by
   unfold listE;rw[List.filter_eq_nil_iff];intro e he;simp[(hE e he).2]
  rw[if_neg h0,if_neg (by rw[hn,hl];simp),List.mem_filter];simp
theorem dropAll_mem{x:Ino}:∀(L:List St)(g:Gr),(∀s∈L,s≠(0,0)/\∀e∈g.E,e.ino≠s/\e.dir≠s)->(x∈(dropAll g L).I↔x∈g.I/\∀s∈L,x.id≠s)
 | [],g,_=>⟨fun q=>⟨q,fun _ ha=>nomatch ha⟩,fun q=>q.1⟩
 |s::L,g,h=>by
  show x∈(dropAll (dropG g s).1 L).I↔_;obtain⟨h1,h2⟩:=h s (List.mem_cons_self ..);rw[dropAll_mem L _ (fun t ht=>by rw[drop_ents];exact h t (List.mem_cons_of_mem _ ht)),drop_mem h1 h2,and_assoc];refine and_congr_right fun _=>⟨fun⟨q1,q2⟩ a ha=>?_,fun q=>⟨q s (List.mem_cons_self ..),fun a ha=>q a (List.mem_cons_of_mem _ ha)⟩⟩;rcases List.mem_cons.1 ha with rfl|ha
  ·exact q1
  ·exact q2 a ha
theorem mem_new{a b:Gr}{s:St}:s∈newN a b↔(∃x∈b.I,x.id=s)/\getG a s=none:=by
 unfold newN;rw[List.mem_filter,List.mem_map,Bool.not_eq_true',Option.isSome_eq_false_iff,Option.isNone_iff_eq_none]
def bare1(x:Ino):Ino:=⟨x.id,x.kind,0,x.mode,x.data⟩
theorem remake_E(g:Gr)(x:Ino):(remake g x).E=g.E:=by unfold remake;rw[set_ents,make_ents]
theorem remakeAll_E:∀(L:List Ino)(g:Gr),(remakeAll g L).E=g.E
 | [],_=>rfl
 |x::L,g=>(remakeAll_E L _).trans (remake_E g x)
theorem set_mem_iff{g:Gr}(hg:g.ok){x:Ino}(hx:x∈g.I)(mode:Int)(data:ByteArray){y:Ino}:y∈(setG g x.id mode data).1.I↔(y∈g.I/\y.id≠x.id)\/y= {x with mode:=mode,data:=data}:=by
 have hs:(setG g x.id mode data).1.I=g.I.map fun z=>if z.id=x.id then {z with mode:=mode,data:=data} else z:=by unfold setG;rw[hg.get hx]
 rw[hs,List.mem_map]
 constructor
 ·rintro⟨z,hz,rfl⟩;by_cases q:z.id=x.id
  ·rw[if_pos q,hg.ids hz hx q];exact Or.inr rfl
  ·rw[if_neg q];exact Or.inl ⟨hz,q⟩
 ·rintro(⟨h1,h2⟩|rfl)
  ·exact⟨y,h1,by rw[if_neg h2]⟩
  ·exact⟨x,hx,by rw[if_pos rfl]⟩
theorem ids_le{g:Gr}(h:g.ok){M:List St}(hM:∀x∈g.I,x.id∈M){s:St}(hs:s∈M)(hn:∀x∈g.I,x.id≠s):g.I.length+1<=M.length:=by
 have:=nodup_le (L:=s::g.I.map (·.id)) (M:=M) (List.nodup_cons.2 ⟨fun q=>by
  obtain⟨x,hx,e⟩:=List.mem_map.1 q
  exact hn x hx e,h.nodupId⟩) (fun x hx=>by
  rcases List.mem_cons.1 hx with rfl|hx
  ·exact hs
  ·obtain⟨y,hy,rfl⟩:=List.mem_map.1 hx
   exact hM y hy)
 rwa[List.length_cons,List.length_map] at this
theorem remake_mem{g:Gr}(h:g.ok){M:List St}(hM:∀x∈g.I,x.id∈M)(h40:M.length<=40){x:Ino}(hx:x.id∈M)(hm:mayB x.id.1 x.id.2=true)(hk:1<=x.kind/\x.kind<=3)(hs:∀z∈g.I,z.id=x.id->z.kind=x.kind){y:Ino}:
  y∈(remake g x).I↔(y∈g.I/\y.id≠x.id)\/y=bare1 x:=by
 have c1:¬(mayB x.id.1 x.id.2=false\/x.kind<1\/3<x.kind):=by
  rintro(q|q|q)
  ·rw[hm] at q;cases q
  ·omega
  ·omega
 unfold remake
 cases hg:getG g x.id with
 |some v=>
  obtain⟨z,hz,hzi,rfl⟩:=get_some hg;have e1:(makeG g x.id x.kind).1=g:=by unfold makeG;rw[if_neg c1,if_pos (by rw[hg];rfl)]
  have e2:({z with mode:=x.mode,data:=x.data}:Ino)=bare1 x:=by
   obtain⟨i,k,l,m,d⟩:=z;have a1:=h.links0 _ hz;have a2:=hs _ hz hzi;simp only at a1 a2 hzi;subst a1 a2 hzi
   rfl
  rw[e1,<-hzi,set_mem_iff h hz,e2]
 |none=>
  have hn:=get_none hg;have hl:¬40<=g.I.length:=by have:=ids_le h hM hx hn;omega
  have e1:(makeG g x.id x.kind).1=⟨putIn (fun z=>lessS z.id x.id) g.I ⟨x.id,x.kind,0,0,⟨#[]⟩⟩,g.E⟩:=by unfold makeG;rw[if_neg c1,if_neg (by rw[hg];simp),if_neg hl]
  have hok:=h.make x.id x.kind;have hin:(⟨x.id,x.kind,0,0,⟨#[]⟩⟩:Ino)∈(makeG g x.id x.kind).1.I:=by rw[e1];exact putIn_mem.2 (Or.inl rfl)
  rw[show x.id=(⟨x.id,x.kind,0,0,⟨#[]⟩⟩:Ino).id from rfl] at*
  rw[set_mem_iff hok hin,e1];dsimp only;rw[putIn_mem]
  constructor
  ·rintro(⟨q|q,r⟩|q)
   ·exact absurd (by rw[q]) r
   ·exact Or.inl ⟨q,r⟩
   ·exact Or.inr q
  ·rintro(⟨q,r⟩|q)
   ·exact Or.inl ⟨Or.inr q,r⟩
   ·exact Or.inr q
theorem remakeAll_mem{M:List St}(h40:M.length<=40){y:Ino}:∀(L:List Ino)(g:Gr),g.ok->(∀x∈g.I,x.id∈M)->L.Pairwise (fun a b=>a.id≠b.id)->(∀x∈L,x.id∈M/\mayB x.id.1 x.id.2=true/\(1<=x.kind/\x.kind<=3)/\∀z∈g.I,z.id=x.id->z.kind=x.kind)->
  (y∈(remakeAll g L).I↔(y∈g.I/\∀x∈L,y.id≠x.id)\/∃x∈L,y=bare1 x)
 | [],g,_,_,_,_=>⟨fun q=>Or.inl ⟨q,fun _ hx=>nomatch hx⟩,fun q=>q.elim (fun q=>q.1) fun⟨_,hx,_⟩=>nomatch hx⟩
 |a::L,g,hg,hM,hp,hL=>by
  obtain⟨hp1,hp2⟩:=List.pairwise_cons.1 hp;obtain⟨a1,a2,a3,a4⟩:=hL a (List.mem_cons_self ..);have hr:=fun z=>remake_mem (y:=z) hg hM h40 a1 a2 a3 a4;have hM':∀x∈(remake g a).I,x.id∈M:=fun x hx=>by
   rcases(hr x).1 hx with q|rfl
   ·exact hM x q.1
   ·exact a1
  have ih:=remakeAll_mem h40 (y:=y) L (remake g a) (remake_ok hg a) hM' hp2 fun x hx=>by
   obtain⟨b1,b2,b3,b4⟩:=hL x (List.mem_cons_of_mem _ hx);refine⟨b1,b2,b3,fun z hz hzi=>?_⟩;rcases(hr z).1 hz with q|rfl
   ·exact b4 z q.1 hzi
   ·exact absurd hzi (hp1 x hx)
  show y∈(remakeAll (remake g a) L).I↔_;rw[ih,hr y]
  constructor
  ·rintro(⟨⟨q1,q2⟩|rfl,r⟩|⟨x,hx,q⟩)
   ·refine Or.inl ⟨q1,fun x hx=>?_⟩;rcases List.mem_cons.1 hx with rfl|hx
    ·exact q2
    ·exact r x hx
   ·exact Or.inr ⟨a,List.mem_cons_self ..,rfl⟩
   ·exact Or.inr ⟨x,List.mem_cons_of_mem _ hx,q⟩
  ·rintro(⟨q1,r⟩|⟨x,hx,q⟩)
   ·exact Or.inl ⟨Or.inl ⟨q1,r a (List.mem_cons_self ..)⟩,fun x hx=>r x (List.mem_cons_of_mem _ hx)⟩
   ·rcases List.mem_cons.1 hx with rfl|hx
    ·exact Or.inl ⟨Or.inr q,fun z hz=>by rw[q];exact hp1 z hz⟩
    ·exact Or.inr ⟨x,hx,q⟩
theorem mem_was{g g':Gr}(h:g.ok){x:Ino}:x∈wasG g g'↔(∃y∈g.I,x= {y with links:=(linksE g.E y.id:Int)})/\otherI g' x=true:=by
 unfold wasG;rw[List.mem_filter,h.inodes,List.mem_map];refine and_congr_left fun _=>⟨fun⟨y,hy,e⟩=>⟨y,hy,e.symm⟩,fun⟨y,hy,e⟩=>⟨y,hy,e.symm⟩⟩
theorem was_ids{g g':Gr}(h:g.ok):(wasG g g').Pairwise fun a b=>a.id≠b.id:=by
 unfold wasG;refine List.Pairwise.filter _ ?_;rw[h.inodes];refine List.pairwise_map.2 (h.sortI.imp fun{a b} hab e=>?_);have e1:a.id=b.id:=e;rw[e1,lessS_irrefl] at hab
 cases hab
theorem bare_self{g:Gr}(h:g.ok){y:Ino}(hy:y∈g.I)(l:Int):bare1 {y with links:=l}=y:=by
 obtain⟨i,k,l',m,d⟩:=y;have:=h.links0 _ hy;simp only at this;subst this
 rfl
theorem not_other{g':Gr}{x:Ino}(h:otherI g' x=false):∃y∈g'.I,y.id=x.id/\y.kind=x.kind/\y.mode=x.mode/\y.data=x.data:=by
 unfold otherI at h
 cases hg:getG g' x.id with
 |none=>rw[hg] at h;cases h
 |some v=>
  obtain⟨y,hy,hi,rfl⟩:=get_some hg;rw[hg] at h;simp only[Bool.not_eq_false',Bool.and_eq_true,decide_eq_true_iff] at h;exact⟨y,hy,hi,h.1.1,h.1.2,h.2⟩
theorem ino_fields{x y:Ino}(h1:x.id=y.id)(h2:x.kind=y.kind)(h3:x.links=y.links)(h4:x.mode=y.mode)(h5:x.data=y.data):x=y:=by
 obtain⟨i,k,l,m,d⟩:=x;simp only at h1 h2 h3 h4 h5;subst h1 h2 h3 h4 h5
 rfl
theorem back_inodes{g g' g2:Gr}(h:g.ok)(h':g'.ok)(h2:g2.ok)(hk:∀x∈g.I,∀y∈g'.I,y.id=x.id->y.kind=x.kind)(hm:∀y,y∈g2.I↔y∈g'.I/\∃x∈g.I,x.id=y.id):(remakeAll g2 (wasG g g')).I=g.I:=by
 have hM:∀x∈g2.I,x.id∈g.I.map (·.id):=fun x hx=>by
  obtain⟨_,z,hz,e⟩:=(hm x).1 hx;exact List.mem_map.2 ⟨z,hz,e⟩
 have key:=fun y=>remakeAll_mem (M:=g.I.map (·.id)) (by rw[List.length_map];exact h.few) (y:=y) (wasG g g') g2 h2 hM (was_ids h) fun x hx=>by
  obtain⟨⟨u,hu,rfl⟩,_⟩:=(mem_was h).1 hx;exact⟨List.mem_map.2 ⟨u,hu,rfl⟩,h.may u hu,h.kinds u hu,fun z hz hzi=>hk u hu z ((hm z).1 hz).1 hzi⟩
 refine sorted_same (r:=fun a b:Ino=>lessS a.id b.id) (fun x=>lessS_irrefl _) (fun _ _ _=>lessS_trans) (remakeAll_ok h2 _).sortI h.sortI fun y=>?_;rw[key y]
 constructor
 ·rintro(⟨q,r⟩|⟨x,hx,rfl⟩)
  ·obtain⟨q1,z,hz,e⟩:=(hm y).1 q;have hno:otherI g' {z with links:=(linksE g.E z.id:Int)}=false:=by
    cases ho:otherI g' {z with links:=(linksE g.E z.id:Int)} with
    |false=>rfl
    |true=>exact absurd e.symm (r {z with links:=(linksE g.E z.id:Int)} ((mem_was h).2 ⟨⟨z,hz,rfl⟩,ho⟩))
   obtain⟨v,hv,v1,v2,v3,v4⟩:=not_other hno;have hyv:v=y:=h'.ids hv q1 (v1.trans e);subst hyv;rw[ino_fields (x:=v) (y:=z) v1 v2 ((h'.links0 v hv).trans (h.links0 z hz).symm) v3 v4];exact hz
  ·obtain⟨⟨u,hu,rfl⟩,_⟩:=(mem_was h).1 hx;rw[bare_self h hu];exact hu
 ·intro hy
  cases ho:otherI g' {y with links:=(linksE g.E y.id:Int)} with
  |true=>exact Or.inr ⟨_,(mem_was h).2 ⟨⟨y,hy,rfl⟩,ho⟩,(bare_self h hy _).symm⟩
  |false=>
   obtain⟨v,hv,v1,v2,v3,v4⟩:=not_other ho;have hyv:v=y:=ino_fields v1 v2 ((h'.links0 v hv).trans (h.links0 y hy).symm) v3 v4;subst hyv;refine Or.inl ⟨(hm v).2 ⟨hv,v,hy,rfl⟩,fun x hx e=>?_⟩;obtain⟨⟨u,hu,rfl⟩,hu2⟩:=(mem_was h).1 hx;have:u=v:=h.ids hu hy e.symm;subst this;rw[ho] at hu2
   cases hu2
theorem links_less{E F:List Ent}(hF:F.Nodup)(hs:∀e∈F,e∈E){e:Ent}(he:e∈E)(hn:e∉F):linksE F e.ino+1<=linksE E e.ino:=by
 unfold linksE;have:=nodup_le (L:=e::F.filter fun a=>decide (a.ino=e.ino)) (M:=E.filter fun a=>decide (a.ino=e.ino)) (List.nodup_cons.2 ⟨fun q=>hn (List.mem_filter.1 q).1,hF.filter _⟩) fun x hx=>by
  rcases List.mem_cons.1 hx with rfl|hx
  ·exact List.mem_filter.2 ⟨he,by simp⟩
  ·exact List.mem_filter.2 ⟨hs x (List.mem_filter.1 hx).1,(List.mem_filter.1 hx).2⟩
 rwa[List.length_cons] at this
theorem tie_again{g k:Gr}(h:g.fine)(hk:k.ok)(hI:k.I=g.I)(hE:∀e∈k.E,e∈g.E){e:Ent}(he:e∈g.E)(hn:e∉k.E):whyG (nameB e.name) k e=0:=by
 have hdir:∀s,k.isDir s↔g.isDir s:=fun s=>by unfold Gr.isDir;rw[hI]
 obtain⟨x,hx,hxi⟩:=h.ok.inos e he;have hxk:x∈k.I:=by rw[hI];exact hx
 have hget:getG k e.ino=some {x with links:=(linksE k.E e.ino:Int)}:=by rw[<-hxi];exact hk.get hxk
 have hll:=links_less hk.nodupE hE he hn;have h6:=h.ok.six e.ino;refine why_zero_of (h.names e he) (hk.kindDir ((hdir _).2 (h.ok.dirs e he))) hget ?_ (fun hx1=>?_) ?_
 ·cases hl:lookE k.E e.dir e.name with
  |none=>rfl
  |some id=>
   have h1:=(look_iff hk).1 hl;have h2:=h.ok.nodupE;have h3:=(look_iff h.ok).2 (hE _ h1);have h4:lookE g.E e.dir e.name=some e.ino:=(look_iff h.ok).2 he;rw[h4] at h3
   injection h3 with h3
   subst h3;exact absurd h1 hn
 ·refine⟨h.ok.noRoot e he,?_⟩;rw[Bool.eq_false_iff];intro q;have hl:=leads_mono (g:=g) (g':=k) hE (fun d hd=>(hdir d).1 hd) (hk.leads.1 q);obtain⟨f,hf⟩:=h.ok.rank;have hlt:=hf e he ⟨x,hx,hxi,hx1⟩;rcases leads_rank hf hl with r|r
  ·rw[r] at hlt;omega
  ·omega
 ·rintro(⟨q1,q2⟩|q)
  ·have:=h.ok.one e.ino ⟨x,hx,hxi,q1⟩;dsimp only at q2;omega
  ·dsimp only at q;omega
theorem tieAll_I:∀(L:List Ent)(g:Gr),(tieAll g L).I=g.I
 | [],_=>rfl
 |_::L,_=>(tieAll_I L _).trans tie_I
theorem tieAll_mem{g:Gr}(h:g.fine){y:Ent}:∀(L:List Ent)(k:Gr),k.ok->k.I=g.I->(∀e∈k.E,e∈g.E)->(∀e∈L,e∈g.E/\e∉k.E)->L.Nodup->(y∈(tieAll k L).E↔y∈k.E\/y∈L)
 | [],k,_,_,_,_,_=>⟨Or.inl,fun q=>q.elim id fun hx=>nomatch hx⟩
 |e::L,k,hk,hI,hE,hL,hn=>by
  obtain⟨n1,n2⟩:=List.nodup_cons.1 hn;obtain⟨e1,e2⟩:=hL e (List.mem_cons_self ..);have hw:=tie_again h hk hI hE e1 e2;show y∈(tieAll (tieG (nameB e.name) k e).1 L).E↔_;have hm:=fun x=>tie_mem (x:=x) hw;rw[tieAll_mem h L _ (hk.tie _ e) (tie_I.trans hI) (fun x hx=>?_) (fun x hx=>⟨(hL x (List.mem_cons_of_mem _ hx)).1,fun q=>?_⟩) n2,hm,List.mem_cons]
  ·constructor
   ·rintro((q|q)|q)
    ·exact Or.inr (Or.inl q)
    ·exact Or.inl q
    ·exact Or.inr (Or.inr q)
   ·rintro(q|q|q)
    ·exact Or.inl (Or.inr q)
    ·exact Or.inl (Or.inl q)
    ·exact Or.inr q
  ·rcases(hm x).1 hx with rfl|q
   ·exact e1
   ·exact hE x q
  ·rcases(hm x).1 q with rfl|q
   ·exact n1 hx
   ·exact(hL x (List.mem_cons_of_mem _ hx)).2 q
theorem back_is{g g':Gr}(h:g.fine)(h':g'.ok)(hk:∀x∈g.I,∀y∈g'.I,y.id=x.id->y.kind=x.kind)(e:Int):backG g' (diffG g g' e)=g:=by
 unfold backG diffG;dsimp only;have o1:=untieAll_ok h' (lostG g' g);have m1:∀x,x∈(untieAll g' (lostG g' g)).E↔x∈g'.E/\x∈g.E:=fun x=>back_untied h';have i1:(untieAll g' (lostG g' g)).I=g'.I:=untieAll_I _ _;generalize untieAll g' (lostG g' g)=g1 at o1 m1 i1 ⊢;have o2:=dropAll_ok o1 (newN g g');have e2:(dropAll g1 (newN g g')).E=g1.E:=dropAll_E _ _;have m2:∀x,x∈(dropAll g1 (newN g g')).I↔x∈g'.I/\∃z∈g.I,z.id=x.id:=fun x=>by
  rw[dropAll_mem,i1]
  ·refine and_congr_right fun hx=>⟨fun q=>?_,fun⟨z,hz,q⟩ s hs hsi=>?_⟩
   ·cases hg:getG g x.id with
    |none=>exact absurd rfl (q x.id (mem_new.2 ⟨⟨x,hx,rfl⟩,hg⟩))
    |some v=>
     obtain⟨z,hz,hzi,_⟩:=get_some hg;exact⟨z,hz,hzi⟩
   ·exact get_none (mem_new.1 hs).2 z hz (q.trans hsi)
  ·intro s hs;have hn:=get_none (mem_new.1 hs).2;refine⟨fun q=>?_,fun a ha=>⟨fun q=>?_,fun q=>?_⟩⟩
   ·obtain⟨z,hz,hz0,_⟩:=h.ok.root;exact hn z hz (hz0.trans q.symm)
   ·obtain⟨z,hz,hzi⟩:=h.ok.inos a ((m1 a).1 ha).2;exact hn z hz (hzi.trans q)
   ·obtain⟨z,hz,hzi,_⟩:=h.ok.dirs a ((m1 a).1 ha).2;exact hn z hz (hzi.trans q)
 generalize dropAll g1 (newN g g')=g2 at o2 e2 m2 ⊢;have o3:=remakeAll_ok o2 (wasG g g');have e3:(remakeAll g2 (wasG g g')).E=g1.E:=(remakeAll_E _ _).trans e2;have i3:=back_inodes h.ok h' o2 hk m2;generalize remakeAll g2 (wasG g g')=g3 at o3 e3 i3 ⊢;have hE:∀x∈g3.E,x∈g.E:=fun x hx=>by rw[e3] at hx;exact((m1 x).1 hx).2
 have m4:∀y,y∈(tieAll g3 (lostG g g')).E↔y∈g.E:=fun y=>by
  rw[tieAll_mem h (lostG g g') g3 o3 i3 hE (fun a ha=>⟨(mem_lost.1 ha).1,fun q=>?_⟩) (lost_nodup h.ok g'),e3,m1,mem_lost]
  ·constructor
   ·rintro(q|q)
    ·exact q.2
    ·exact q.1
   ·intro q;by_cases r:y∈g'.E
    ·exact Or.inl ⟨r,q⟩
    ·exact Or.inr ⟨q,r⟩
  ·rw[e3] at q;exact(mem_lost.1 ha).2 ((m1 a).1 q).1
 have o4:=tieAll_ok o3 (lostG g g');have i4:=(tieAll_I (lostG g g') g3).trans i3;have e4:=sorted_same (r:=aheadE) aheadE_self (fun _ _ _=>aheadE_trans) o4.sortE h.ok.sortE m4;generalize tieAll g3 (lostG g g')=g4 at i4 e4 ⊢
 cases g4
 cases g
 simp only at i4 e4;rw[i4,e4]
def KindStays(g g':Gr):Prop:=∀k,kindG g k≠0->kindG g' k=kindG g k\/kindG g' k=0
theorem KindStays.refl(g:Gr):KindStays g g:=fun _ _=>Or.inl rfl
def KindLess(g g':Gr):Prop:=∀k,kindG g' k=kindG g k\/kindG g' k=0
theorem KindLess.trans{a b c:Gr}(h:KindLess a b)(k:KindLess b c):KindLess a c:=fun s=>by
 rcases k s with q|q
 ·rcases h s with r|r
  ·exact Or.inl (q.trans r)
  ·exact Or.inr (q.trans r)
 ·exact Or.inr q
theorem KindLess.stays{a b:Gr}(h:KindLess a b):KindStays a b:=fun s _=>h s
theorem KindStays.less{a b c:Gr}(h:KindStays a b)(k:KindLess b c):KindStays a c:=fun s q=>by
 rcases k s with r|r
 ·rcases h s q with t|t
  ·exact Or.inl (r.trans t)
  ·exact Or.inr (r.trans t)
 ·exact Or.inr r
theorem kind_same{g g':Gr}(h:g'.I=g.I):KindLess g g':=fun k=>Or.inl (kindG_same h k)
theorem kind_untie(g:Gr)(d:St)(nm:ByteArray):KindLess g (untieG g d nm).1:=kind_same (untie_I g d nm)
theorem kind_drop(g:Gr)(id:St):KindLess g (dropG g id).1:=fun k=>by
 unfold dropG
 cases hg:getG g id with
 |none=>exact Or.inl rfl
 |some x=>
  dsimp only
  split
  ·exact Or.inl rfl
  ·split
   ·exact Or.inl rfl
   ·rw[kindG_I,kindG_I];dsimp only;by_cases q:k=id
    ·subst q;refine Or.inr ?_;rw[List.find?_eq_none.2]
     ·rfl
     ·intro x hx;have:=(List.mem_filter.1 hx).2
      simpa using this
    ·refine Or.inl ?_;rw[List.find?_filter]
     congr 3
     funext x
     by_cases r:x.id=k
     ·simp[r,q]
     ·simp[r]
theorem kind_set(g:Gr)(id:St)(mode:Int)(data:ByteArray):KindLess g (setG g id mode data).1:=fun k=>by
 refine Or.inl ?_;unfold kindG;rw[set_get]
 cases getG g k with
 |none=>split<;>rfl
 |some x=>split<;>rfl
theorem kind_make{g:Gr}(h:g.ok)(id:St)(kind:Int):KindStays g (makeG g id kind).1:=fun k hk=>by
 by_cases h0:(makeG g id kind).2=0
 ·refine Or.inl ?_;obtain⟨x,hx⟩:=h.there hk;unfold kindG;rw[make_get h h0];by_cases q:k=id
  ·subst q
   exfalso
   unfold makeG at h0
   split at h0
   ·cases h0
   ·rw[if_pos (by rw[hx];rfl)] at h0
    cases h0
  ·rw[if_neg q]
 ·rw[make_err g id kind h0];exact Or.inl rfl
theorem kind_gone(g:Gr)(d:St)(nm:ByteArray):KindLess g (goneG g d nm):=by
 unfold goneG
 split
 ·exact(kind_untie g d nm).trans (kind_drop _ _)
 ·exact kind_untie g d nm
theorem kind_tie1(g:Gr)(d:St)(nm:ByteArray)(i:St):KindLess g (tie1 g d nm i):=kind_same tie_I
theorem kind_made{g:Gr}(h:g.ok)(o:Opn):KindStays g (madeA g o):=by
 unfold madeA
 split
 ·exact((kind_make h _ _).less (kind_set _ _ _ _)).less (kind_tie1 _ _ _ _)
 split
 ·exact(kind_tie1 _ _ _ _).stays
 split
 ·exact(kind_gone _ _ _).stays
 split
 ·split
  ·exact KindStays.refl g
  ·refine(KindLess.trans (KindLess.trans ?_ (kind_untie _ _ _)) (kind_tie1 _ _ _ _)).stays
   split
   ·exact kind_gone _ _ _
   ·exact kind_same rfl
 split
 ·exact(kind_set _ _ _ _).stays
 split
 ·exact(kind_set _ _ _ _).stays
 ·exact(kind_set _ _ _ _).stays
theorem kind_does{g:Gr}(h:g.ok)(o:Opn):KindStays g (doA g o).1:=by
 unfold doA
 split
 ·exact kind_made h o
 ·exact KindStays.refl g
theorem back_does{g:Gr}(h:g.fine)(o:Opn):backG (doA g o).1 (doR g o)=g:=by
 have h':=(h.does o).ok;refine back_is h h' (fun x hx y hy hxy=>?_) _;have hx1:=h.ok.kindG hx;have hy1:=h'.kindG hy;rw[hxy] at hy1;have k0:=(h.ok.kinds x hx).1;have k1:=(h'.kinds y hy).1;rcases kind_does h.ok o x.id (by omega) with q|q
 ·rw[<-hx1,<-hy1,q]
 ·omega
end Go.Proofs.YtnnnkaobhkeocaaGreatDoor.GraphMath
namespace Go.Proofs.YtnnnkaobhkeocaaGreatDoor.GraphMath
open StampMath OpMath ExtentMath
section
variable {α κ :Type}[DecidableEq κ]
def aloneL(f:α->κ)(l other:List α):List α:=l.filter fun x=>!decide (f x∈other.map f)
theorem alone_snoc(f:α->κ)(l other:List α)(k:Nat)(h:k<l.length):aloneL f (l.take (k+1)) other=if f l[k]∈other.map f then aloneL f (l.take k) other else aloneL f (l.take k) other++[l[k]]:=by
 unfold aloneL;rw[List.take_succ_eq_append_getElem h,List.filter_append];by_cases e:f l[k]∈other.map f
 ·rw[if_pos e,List.filter_cons_of_neg (by rw[decide_eq_true e];decide),List.filter_nil,List.append_nil]
 ·rw[if_neg e,List.filter_cons_of_pos (by rw[decide_eq_false e];decide),List.filter_nil]
theorem alone_le(f:α->κ)(l other:List α):(aloneL f l other).length<=l.length:=List.length_filter_le _ _
def SeenK(L:List (κ ×Unit))(l:List κ):Prop:=∀x,(lookL L x).isSome=decide (x∈l)
theorem seen_nil:SeenK ([]:List (κ ×Unit)) []:=fun x=>by simp[lookL]
theorem seen_put{L:List (κ ×Unit)}{l:List κ}(h:SeenK L l)(k: κ):SeenK ((k,())::offL L k) (l++[k]):=fun x=>by
 by_cases e:k=x
 ·subst e;simp[lookL]
 ·have h1:lookL ((k,())::offL L k) x=lookL L x:=by
   unfold lookL offL;rw[List.find?_cons_of_neg (by simpa using e),List.find?_filter]
   congr 2
   funext p
   by_cases q:p.1=x
   ·have:¬p.1=k:=fun r=>e (r.symm.trans q);simp[q,Ne.symm e]
   ·simp[q]
  rw[h1,h x];simp[Ne.symm e]
theorem seen_snoc{L:List (κ ×Unit)}{l:List α}{f:α->κ}{k:Nat}(hk:k<l.length)(h:SeenK L ((l.take k).map f)):SeenK ((f l[k],())::offL L (f l[k])) ((l.take (k+1)).map f):=by
 rw[List.take_succ_eq_append_getElem hk,List.map_append];exact seen_put h _
end
theorem alone_lost(a b:Gr):aloneL (fun e:Ent=>e) a.E b.E=lostG a b:=by
 unfold aloneL lostG;rw[List.map_id']
theorem mem_bare{b:Gr}(hb:b.ok){x:Ino}:bare1 x∈(inodesG b).map bare1↔otherI b x=false:=by
 rw[hb.inodes,List.map_map,List.mem_map]
 constructor
 ·rintro⟨y,hy,e⟩;have e':bare1 y=bare1 x:=e;unfold bare1 at e'
  injection e' with e1 e2 _ e3 e4
  exact other_same hb hy e1 e2 e3 e4
 ·intro h;obtain⟨y,hy,h1,h2,h3,h4⟩:=not_other h;refine⟨y,hy,?_⟩;show bare1 y=bare1 x;unfold bare1;rw[h1,h2,h3,h4]
theorem alone_was{a b:Gr}(hb:b.ok):aloneL bare1 (inodesG a) (inodesG b)=wasG a b:=by
 unfold aloneL wasG;refine List.filter_congr fun x _=>?_
 cases h:otherI b x with
 |false=>simp[(mem_bare hb).2 h]
 |true=>
  have:¬bare1 x∈(inodesG b).map bare1:=fun q=>by rw[(mem_bare hb).1 q] at h;cases h
  simp[this]
theorem alone_new{a b:Gr}(ha:a.ok)(hb:b.ok):(aloneL (fun x:Ino=>x.id) (inodesG b) (inodesG a)).map (fun x=>x.id)=newN a b:=by
 unfold aloneL newN;rw[hb.inodes,ha.inodes,List.map_map,List.filter_map,List.map_map,List.filter_map];have e1:((fun x:Ino=>x.id)∘fun x:Ino=>({x with links:=(linksE a.E x.id:Int)}:Ino))=fun x=>x.id:=rfl;have e2:((fun x:Ino=>x.id)∘fun x:Ino=>({x with links:=(linksE b.E x.id:Int)}:Ino))=fun x=>x.id:=rfl;rw[e1,e2]
 congr 1
 refine List.filter_congr fun x _=>?_;simp only[Function.comp_apply]
 cases h:getG a x.id with
 |none=>
  have hn:=get_none h;have:¬x.id∈a.I.map fun x=>x.id:=fun q=>by
   obtain⟨y,hy,e⟩:=List.mem_map.1 q;exact hn y hy e
  simp[this]
 |some y=>
  obtain⟨z,hz,e,_⟩:=get_some h;have:x.id∈a.I.map fun x=>x.id:=List.mem_map.2 ⟨z,hz,e⟩;simp[this]
end Go.Proofs.YtnnnkaobhkeocaaGreatDoor.GraphMath
namespace Go.Proofs.YtnnnkaobhkeocaaGreatDoor
open Go.RowKit StampMath GraphMath
def enV(e:Ent):Value:=.agg (entA e)
def voidV(_:Unit):Value:=.agg #[]
theorem zeroVoid(w:World):(zeroValue 219).run Tryz.prog w=.ok (voidV ()) w:=by kernel_rfl
theorem enV_inj(x y:Ent)(h:enV x=enV y):x=y:=by
 unfold enV entA at h;simp at h;obtain⟨⟨a,b⟩,c,⟨d,e⟩⟩:=x;obtain⟨⟨a',b'⟩,c',⟨d',e'⟩⟩:=y;simp at h ⊢;exact⟨⟨h.1,h.2.1⟩,h.2.2.1,h.2.2.2.1,h.2.2.2.2⟩
theorem inoV_inj(x y:Ino)(h:inoV x=inoV y):x=y:=by
 unfold inoV inoA at h;simp at h;obtain⟨⟨a,b⟩,c,d,e,f⟩:=x;obtain⟨⟨a',b'⟩,c',d',e',f'⟩:=y;simp at h ⊢;exact⟨⟨h.1,h.2.1⟩,h.2.2.1,h.2.2.2.1,h.2.2.2.2.1,h.2.2.2.2.2⟩
theorem checkKey_en(w:World)(em:Bool)(n:Nat)(x:Ent):(Instr.checkKey em (n+3) 126 (enV x)).run Tryz.prog w=.ok () w:=by
 refine checkKey_struct (n:=n+2) Tryz.underlying126 w em (entA x) fun f hf=>?_;simp at hf;rcases hf with rfl|rfl|rfl
 ·exact⟨by decide,.agg (stA x.dir),by unfold stA entA;go_simp,checkKey_st w em n x.dir⟩
 ·exact⟨by decide,.string x.name,by unfold entA;go_simp,checkKey_string Tryz.underlying9 w em (n+1) x.name⟩
 ·exact⟨by decide,.agg (stA x.ino),by unfold stA entA;go_simp,checkKey_st w em n x.ino⟩
theorem checkKey_ino(w:World)(em:Bool)(n:Nat)(x:Ino):(Instr.checkKey em (n+3) 102 (inoV x)).run Tryz.prog w=.ok () w:=by
 refine checkKey_struct (n:=n+2) Tryz.underlying102 w em (inoA x) fun f hf=>?_;simp at hf;rcases hf with rfl|rfl|rfl|rfl|rfl
 ·exact⟨by decide,.agg (stA x.id),by unfold stA inoA;go_simp,checkKey_st w em n x.id⟩
 ·exact⟨by decide,.int .i64 x.kind,by unfold inoA;go_simp,checkKey_int Tryz.underlying3 w em (n+1) x.kind⟩
 ·exact⟨by decide,.int .i64 x.links,by unfold inoA;go_simp,checkKey_int Tryz.underlying3 w em (n+1) x.links⟩
 ·exact⟨by decide,.int .i64 x.mode,by unfold inoA;go_simp,checkKey_int Tryz.underlying3 w em (n+1) x.mode⟩
 ·exact⟨by decide,.string x.data,by unfold inoA;go_simp,checkKey_string Tryz.underlying9 w em (n+1) x.data⟩
theorem enShape:KShape Tryz.prog 126 enV:=
 KShape.of_equal (by kernel_rfl) enV_inj (fun w x y=>run_eqEnt x y w) (fun w em x=>checkKey_en w em 9997 x) (fun x=>by
  unfold enV entA;show Instr.sameBits (9999+1) _ _=true
  simp[Instr.sameBits,MapKept.bytes_beq])
theorem inShape2:KShape Tryz.prog 102 inoV:=
 KShape.of_equal (by kernel_rfl) inoV_inj (fun w x y=>run_eqIno x y w) (fun w em x=>checkKey_ino w em 9997 x) (fun x=>by
  unfold inoV inoA;show Instr.sameBits (9999+1) _ _=true
  simp[Instr.sameBits,MapKept.bytes_beq])
set_option maxRecDepth 100000 in
theorem whole_code(e:Ent)(w:World):Calls Tryz.prog 148 #[.agg (entA e)] w fun r w'=>r=.returned (.agg (entA e))/\Below w.heap.size w w':=by
 obtain⟨⟨a,b⟩,c,⟨d,f⟩⟩:=e;have hb:Below w.heap.size w ((w.alloc (.cells (entA ⟨(a,b),c,(d,f)⟩) 126)).alloc (.cells (entA ⟨(a,b),c,(d,f)⟩) 126)):=((Below.refl _ _).alloc (Nat.le_refl _) _).alloc (by simp) _;obtain⟨z0,z1,z2,z3,z4⟩:=ent_cells (heap_alloc2_new w (.cells (entA ⟨(a,b),c,(d,f)⟩) 126) (.cells (entA ⟨(a,b),c,(d,f)⟩) 126));unfold entA at hb z0 z1 z2 z3 z4 ⊢;simp only[Nat.zero_add] at z1 z2 z3 z4;have HB:=Lib.hid hb;clear hb
 go_enter Tryz.func148,Tryz.ntmps148
 go_wp2_with fail
 exact bodyPost_ret (v:=.agg (entA ⟨(a,b),c,(d,f)⟩)) (by unfold entA;simp[results,Tryz.results148,go_sem,z0,z1,z2,z3,z4]) rfl ⟨rfl,HB.out⟩
set_option maxRecDepth 100000 in
theorem unlinked_code(x:Ino)(w:World):Calls Tryz.prog 150 #[.agg (inoA x)] w fun r w'=>r=.returned (.agg (inoA (bare1 x)))/\Below w.heap.size w w':=by
 obtain⟨⟨a,b⟩,c,d,e,f⟩:=x;have hb:Below w.heap.size w ((w.alloc (.cells (inoA ⟨(a,b),c,0,e,f⟩) 102)).alloc (.cells (inoA ⟨(a,b),c,0,e,f⟩) 102)):=((Below.refl _ _).alloc (Nat.le_refl _) _).alloc (by simp) _;obtain⟨z0,z1,z2,z3,z4,z5⟩:=ino_cells (heap_alloc2_new w (.cells (inoA ⟨(a,b),c,0,e,f⟩) 102) (.cells (inoA ⟨(a,b),c,0,e,f⟩) 102));unfold bare1;unfold inoA at hb z0 z1 z2 z3 z4 z5 ⊢;simp only[Nat.zero_add] at z1 z2 z3 z4 z5;have HB:=Lib.hid hb;clear hb
 go_enter Tryz.func150,Tryz.ntmps150
 go_wp2_with fail
 exact bodyPost_ret (v:=.agg (inoA ⟨(a,b),c,0,e,f⟩)) (by unfold inoA;simp[results,Tryz.results150,go_sem,z0,z1,z2,z3,z4,z5]) rfl ⟨rfl,HB.out⟩
set_option maxRecDepth 100000 in
theorem number_code(x:Ino)(w:World):Calls Tryz.prog 153 #[.agg (inoA x)] w fun r w'=>r=.returned (.agg (stA x.id))/\Below w.heap.size w w':=by
 obtain⟨⟨a,b⟩,c,d,e,f⟩:=x;have hb:Below w.heap.size w ((w.alloc (.cells (inoA ⟨(a,b),c,d,e,f⟩) 102)).alloc (.cells #[.int .i64 a,.int .i64 b] 24)):=((Below.refl _ _).alloc (Nat.le_refl _) _).alloc (by simp) _;obtain⟨z0,z1⟩:=two_cells (heap_alloc2_new w (.cells (inoA ⟨(a,b),c,d,e,f⟩) 102) (.cells #[.int .i64 a,.int .i64 b] 24));unfold inoA at hb z0 z1 ⊢;have HB:=Lib.hid hb;clear hb
 go_enter Tryz.func153,Tryz.ntmps153
 go_wp2_with fail
 exact bodyPost_ret (v:=.agg #[.int .i64 a,.int .i64 b]) (by simp[results,Tryz.results153,go_sem,z0,z1]) rfl ⟨rfl,HB.out⟩
theorem st_infos2:(Tryz.prog.info? 24).map (fun i=>(i.zero,i.size,i.bytes))=some (some (.agg #[.int .i64 0,.int .i64 0]),2,16):=by kernel_rfl
theorem st_one3(x:St):∀u∈(stA x).toList,u.oneCell'=true:=by
 intro u hu;simp[stA] at hu;rcases hu with rfl|rfl<;>rfl
theorem flat_st3(F:List St)(x:St):flat (F.map stA)++(stA x).toList=flat ((F++[x]).map stA):=by simp[flat]
set_option maxRecDepth 100000 in
set_option maxHeartbeats 1600000 in
theorem aloneEn_code(A A':Option Addr)(n c m d:Nat)(l o:List Ent)(hn:n<=1000)(hm:m<=1000)(w:World)(h:EntsIn w w.heap.size A n l)(h':EntsIn w w.heap.size A' m o):
  Calls Tryz.prog 147 #[.slice A n c,.slice A' m d,.func (.func 148) #[] #[]] w fun e w'=>∃v,e=.returned v/\w'.ownsRow (w.heap.size+1) 126 5 v (aloneL (fun e:Ent=>e) l o).length (flat ((aloneL (fun e:Ent=>e) l o).map entA))/\Below w.heap.size w w':=by
 have hl:=h.len;have hl':=h'.len;have HX:=Lib.hid h;have HY:=Lib.hid h';obtain⟨i0,hi0,hz0,hz1,hz2⟩:=info_parts ent_infos;have hmk:∀W:World,(Instr.makeMap 218 none).run Tryz.prog W=.ok (.map (some W.heap.size)) (W.alloc (.map #[] 0)):=fun _=>rfl;obtain⟨z,hz⟩:∃z,z=w.heap.size:=⟨_,rfl⟩;have hm0:KMap enV voidV (w.alloc (.map #[] 0)) z ([]:List (Ent×Unit)):=by rw[hz];exact KMap.made w
 have hb0:Below w.heap.size w (w.alloc (.map #[] 0)):=(Below.refl _ _).alloc (Nat.le_refl _) _;clear h h'
 go_enter Tryz.func147,Tryz.ntmps147
 go_upto_region 2 with fail
 rw[<-hz];have HZ:=Lib.hid hz;have HM0:=Lib.hid hm0;have HB0:=Lib.hid hb0;clear hmk hz hm0 hb0;generalize w.alloc (.map #[] 0)=w1 at HM0 HB0 ⊢
 go_wp2_with fail
 go_loopg [18] (m+1) (fun gk i wr=>∃(k:Nat)(L:List (Ent×Unit)),i=.int .i64 (k:Int)/\gk+k=m+1/\k<=m/\Hid (KMap enV voidV wr z L)/\Hid (SeenK L ((o.take k).map (fun e:Ent=>e)))/\Hid (Below w.heap.size w wr))
 case atStart=>exact⟨0,[],rfl,by omega,by omega,HM0,seen_nil,HB0⟩
 case round=>
  obtain⟨k,L,rfl,hgk,hk,hM,hS,hB⟩:=hrel;have HG:=Lib.hid hgk;clear hgk HM0 HB0;by_cases hlt:k<m
  ·obtain⟨gi,ofs,rfl,hg,hrow⟩:=HY.out.row (by omega);have lk:k<o.length:=by omega
   obtain⟨e0,e1,e2,e3,e4⟩:=(hrow k lk).below hB.out hg;have hsn:=seen_snoc (f:=fun e:Ent=>e) lk hS.out;obtain⟨x,hx⟩:∃x,o[k]=x:=⟨_,rfl⟩;rw[hx] at e0 e1 e2 e3 e4 hsn;have HSn:=Lib.hid hsn;clear hrow hx hsn lk;have hi0':(0:Int)<=(k:Int):=by omega
   have hi1':(k:Int)<(m:Int):=by omega
   go_wp2_with fail
   refine(whole_code x _).mono ?_;rintro e w5 ⟨rfl,hb5⟩;have hbA:=below_step ((Below.refl wr.heap.size wr).alloc (Nat.le_refl _) (.cells (entA x) 126)) hb5;have HM5:=Lib.hid (hM.out.kept (hbA.block _ hM.out.lt));have HB5:=Lib.hid (below_step hB.out hbA);clear e0 e1 e2 e3 e4 hM hS hB hb5 hbA
   go_wp2_with (refine wpList_k_store enShape (by rfl) (.tmp 22) (.tmp 25) (.tmp 26) _ (by rfl) Tryz.underlying218 z L (by rfl) HM5.out x (by rfl) () (by rfl) ?_;intro w6 HM6 HU6 _)
   have HB6:=Lib.hid (HB5.out.trans (HU6.out.below (fun i hi=>by have:=HZ.out;omega) HB5.out.size))
   go_roundg (gk-1)
   case measure=>have:=HG.out;omega
   case rel=>exact⟨k+1,_,by go_num,by have:=HG.out;omega,by omega,HM6.out,HSn.out,HB6.out⟩
  ·have hkm:k=m:=by omega
   subst hkm;have hS2:Hid (SeenK L (o.map (fun e:Ent=>e))):=by have:=hS.out;rwa[List.take_of_length_le (by omega)] at this
   have hM2:=hM;have hB2:=hB;obtain⟨w2,hw2⟩:∃W,W=wr:=⟨_,rfl⟩;rw[<-hw2] at hM2 hB2 ⊢;clear hw2 hM hS hB hlt
   go_wp2_with fail
   go_loopg [10,30] (n+1) (fun gq v i wq=>∃(q:Nat),i=.int .i64 (q:Int)/\gq+q=n+1/\q<=n/\Hid (KMap enV voidV wq z L)/\wq.ownsRow (w.heap.size+1) 126 5 v (aloneL (fun e:Ent=>e) (l.take q) o).length (flat ((aloneL (fun e:Ent=>e) (l.take q) o).map entA))/\Hid (Below w.heap.size w wq))
   case atStart=>exact⟨0,rfl,by omega,by omega,hM2,World.ownsRow_nil _ _ _ _,hB2⟩
   case round=>
    obtain⟨q,rfl,hgq,hq,hM,hown,hB⟩:=hrel;have HG2:=Lib.hid hgq;clear hgq hM2 hB2;by_cases hlt:q<n
    ·obtain⟨gi,ofs,rfl,hg,hrow⟩:=HX.out.row (by omega);have lk:q<l.length:=by omega
     obtain⟨e0,e1,e2,e3,e4⟩:=(hrow q lk).below hB.out hg;have hsn:=alone_snoc (fun e:Ent=>e) l o q lk;have hle:(aloneL (fun e:Ent=>e) (l.take q) o).length<=1000:=by have:=alone_le (fun e:Ent=>e) (l.take q) o;rw[List.length_take] at this;omega
     obtain⟨x,hx⟩:∃x,l[q]=x:=⟨_,rfl⟩;rw[hx] at e0 e1 e2 e3 e4 hsn;have hlk:∀W:World,KMap enV voidV W z L->(Instr.lookup 218 (.map (some z)) (enV x) true).run Tryz.prog W=.ok (.tuple #[.agg #[],.bool (decide (x∈o.map (fun e:Ent=>e)))]) W:=fun W hW=>by
      have:=hW.look enShape Tryz.underlying218 (zeroVoid W) x true;rw[if_pos rfl,hS2.out x,show((lookL L x).map voidV).getD (voidV ())=.agg #[] by cases lookL L x<;>rfl] at this
      first|exact this|(rw[this];congr)
     have HLk:=Lib.hid hlk;obtain⟨u,hu⟩:∃u,u=wr.heap.size:=⟨_,rfl⟩;have t4:=heap_alloc_new wr (.cells (entA x) 126);rw[<-hu] at t4;have hbA:Below wr.heap.size wr (wr.alloc (.cells (entA x) 126)):=(Below.refl _ _).alloc (Nat.le_refl _) _;clear hrow hx lk hlk;have hi0':(0:Int)<=(q:Int):=by omega
     have hi1':(q:Int)<(n:Int):=by omega
     go_upto_region 11 with fail
     rw[<-hu];change Code.wp _ _ _ _ (wr.alloc (.cells (entA x) 126));have HM4:=Lib.hid (hM.out.kept (hbA.block _ hM.out.lt));have HB4:=Lib.hid (below_step hB.out hbA);have hown4:=own_call hown hbA;have hu0:=HB4.out.size;have hu1:w.heap.size+1<=u:=by have:=hM.out.lt;have:=HZ.out;omega
     clear e0 e1 e2 e3 e4 hM hB hown hbA hu hi0' hi1';generalize wr.alloc (.cells (entA x) 126)=w4 at t4 HM4 HB4 hown4 hu0 ⊢;obtain⟨e0,e1,e2,e3,e4⟩:=ent_cells t4
     go_wp2_with fail
     refine(whole_code x _).mono ?_;rintro e w5 ⟨rfl,hb5⟩;have t5:=(hb5.block _ (heap_lt t4)).trans t4;have HM5:=Lib.hid (HM4.out.kept (hb5.block _ HM4.out.lt));have HB5:=Lib.hid (below_step HB4.out hb5);have hown5:=own_call hown4 hb5;have hlk:=HLk.out w5 HM5.out;obtain⟨b,hbv⟩:∃b,b=decide (x∈o.map (fun e:Ent=>e)):=⟨_,rfl⟩;rw[<-hbv] at hlk;have HBv:=Lib.hid (And.intro hbv hsn);simp only[enV] at hlk;clear e0 e1 e2 e3 e4 HLk HM4 HB4 hown4 hb5 t4 hsn hbv
     go_upto_region 12 with fail
     change Code.wp _ _ _ _ (w5.alloc (.cells #[] 219));have hbB:Below w5.heap.size w5 (w5.alloc (.cells #[] 219)):=(Below.refl _ _).alloc (Nat.le_refl _) _;have t6:=(hbB.block _ (heap_lt t5)).trans t5;have HM6:=Lib.hid (HM5.out.kept (hbB.block _ HM5.out.lt));have HB6:=Lib.hid (below_step HB5.out hbB);have hown6:=own_call hown5 hbB;clear hlk t5 HM5 HB5 hown5 hbB;generalize w5.alloc (.cells #[] 219)=w6 at t6 HM6 HB6 hown6 ⊢;obtain⟨e0,e1,e2,e3,e4⟩:=ent_cells t6;have hlow:=heap_lt t6
     cases b with
     |true=>
      have hin:=of_decide_eq_true HBv.out.1.symm;have HSn:Hid (aloneL (fun e:Ent=>e) (l.take (q+1)) o=aloneL (fun e:Ent=>e) (l.take q) o):=by have:=HBv.out.2;rwa[if_pos hin] at this
      clear HBv hin
      go_wp2_with fail
      go_roundg (gk-1)
      case measure=>have:=HG2.out;omega
      case rel=>exact⟨q+1,by go_num,by have:=HG2.out;omega,by omega,HM6.out,by rw[HSn.out];exact hown6,HB6.out⟩
     |false=>
      have hin:=of_decide_eq_false HBv.out.1.symm;have HSn:Hid (aloneL (fun e:Ent=>e) (l.take (q+1)) o=aloneL (fun e:Ent=>e) (l.take q) o++[x]):=by have:=HBv.out.2;rwa[if_neg hin] at this
      clear HBv hin;have hmm:(aloneL (fun e:Ent=>e) (l.take q) o).length+1<=maxLen:=by unfold maxLen;omega
      go_wp2_with (at_builtin;refine wpList_append_own _ rfl (.tmp 44) (.tmp 46) 29 rfl (w.heap.size+1) 126 i0 _ 5 48 Tryz.underlying29 hi0 hz0 hz1 hz2 rfl (by decide) _ _ _ rfl (hown6.alloc _) ⟨w6.heap.size,0,none⟩ 1 1 (entA x).toList rfl rfl (row_there w6 _ _) (ent_one x) hmm (by omega) (by simp;omega) ?_;intro v3 w7 hown7 hg7 _)
      have hA:Below w6.heap.size w6 (w6.alloc (.cells (entA x) 126)):=(Below.refl _ _).alloc (Nat.le_refl _) _;have hz1':=HZ.out;have hgz:=hg7.block z (Nat.lt_of_lt_of_le HM6.out.lt hA.size) (fun p=>by have:=(hown6.lt z p.symm).1;omega);have HM7:=Lib.hid (HM6.out.kept (hgz.trans (hA.block _ HM6.out.lt)));have HB7:=Lib.hid ((below_step HB6.out hA).grown hg7 (below_step HB6.out hA).size (fun p hp=>by have:=(hown6.lt p hp).1;omega));rw[flat_ent] at hown7;clear hA hgz hown6 HM6 HB6 hg7 e0 e1 e2 e3 e4
      go_roundg (gk-1)
      case measure=>have:=HG2.out;omega
      case rel=>exact⟨q+1,by go_num,by have:=HG2.out;omega,by omega,HM7.out,by rw[HSn.out,List.length_append];exact hown7,HB7.out⟩
    ·have hE:aloneL (fun e:Ent=>e) (l.take q) o=aloneL (fun e:Ent=>e) l o:=by rw[List.take_of_length_le (by omega)]
     rw[hE] at hown;clear hE
     go_wp2_with fail
     go_ret
     exact⟨_,rfl,hown,hB.out⟩
set_option maxRecDepth 100000 in
set_option maxHeartbeats 1600000 in
theorem aloneIn_code(A A':Option Addr)(n c m d:Nat)(l o:List Ino)(hn:n<=1000)(hm:m<=1000)(w:World)(h:InosIn w w.heap.size A n l)(h':InosIn w w.heap.size A' m o):
  Calls Tryz.prog 149 #[.slice A n c,.slice A' m d,.func (.func 150) #[] #[]] w fun e w'=>∃v,e=.returned v/\w'.ownsRow (w.heap.size+1) 102 6 v (aloneL (bare1) l o).length (flat ((aloneL (bare1) l o).map inoA))/\Below w.heap.size w w':=by
 have hl:=h.len;have hl':=h'.len;have HX:=Lib.hid h;have HY:=Lib.hid h';obtain⟨i0,hi0,hz0,hz1,hz2⟩:=info_parts ino_infos;have hmk:∀W:World,(Instr.makeMap 221 none).run Tryz.prog W=.ok (.map (some W.heap.size)) (W.alloc (.map #[] 0)):=fun _=>rfl;obtain⟨z,hz⟩:∃z,z=w.heap.size:=⟨_,rfl⟩;have hm0:KMap inoV voidV (w.alloc (.map #[] 0)) z ([]:List (Ino×Unit)):=by rw[hz];exact KMap.made w
 have hb0:Below w.heap.size w (w.alloc (.map #[] 0)):=(Below.refl _ _).alloc (Nat.le_refl _) _;clear h h'
 go_enter Tryz.func149,Tryz.ntmps149
 go_upto_region 2 with fail
 rw[<-hz];have HZ:=Lib.hid hz;have HM0:=Lib.hid hm0;have HB0:=Lib.hid hb0;clear hmk hz hm0 hb0;generalize w.alloc (.map #[] 0)=w1 at HM0 HB0 ⊢
 go_wp2_with fail
 go_loopg [18] (m+1) (fun gk i wr=>∃(k:Nat)(L:List (Ino×Unit)),i=.int .i64 (k:Int)/\gk+k=m+1/\k<=m/\Hid (KMap inoV voidV wr z L)/\Hid (SeenK L ((o.take k).map (bare1)))/\Hid (Below w.heap.size w wr))
 case atStart=>exact⟨0,[],rfl,by omega,by omega,HM0,seen_nil,HB0⟩
 case round=>
  obtain⟨k,L,rfl,hgk,hk,hM,hS,hB⟩:=hrel;have HG:=Lib.hid hgk;clear hgk HM0 HB0;by_cases hlt:k<m
  ·obtain⟨gi,ofs,rfl,hg,hrow⟩:=HY.out.row (by omega);have lk:k<o.length:=by omega
   obtain⟨e0,e1,e2,e3,e4,e5⟩:=(hrow k lk).below hB.out hg;have hsn:=seen_snoc (f:=bare1) lk hS.out;obtain⟨x,hx⟩:∃x,o[k]=x:=⟨_,rfl⟩;rw[hx] at e0 e1 e2 e3 e4 e5 hsn;have HSn:=Lib.hid hsn;clear hrow hx hsn lk;have hi0':(0:Int)<=(k:Int):=by omega
   have hi1':(k:Int)<(m:Int):=by omega
   go_wp2_with fail
   refine(unlinked_code x _).mono ?_;rintro e w5 ⟨rfl,hb5⟩;have hbA:=below_step ((Below.refl wr.heap.size wr).alloc (Nat.le_refl _) (.cells (inoA x) 102)) hb5;have HM5:=Lib.hid (hM.out.kept (hbA.block _ hM.out.lt));have HB5:=Lib.hid (below_step hB.out hbA);clear e0 e1 e2 e3 e4 e5 hM hS hB hb5 hbA
   go_wp2_with (refine wpList_k_store inShape2 (by rfl) (.tmp 22) (.tmp 25) (.tmp 26) _ (by rfl) Tryz.underlying221 z L (by rfl) HM5.out (bare1 x) (by rfl) () (by rfl) ?_;intro w6 HM6 HU6 _)
   have HB6:=Lib.hid (HB5.out.trans (HU6.out.below (fun i hi=>by have:=HZ.out;omega) HB5.out.size))
   go_roundg (gk-1)
   case measure=>have:=HG.out;omega
   case rel=>exact⟨k+1,_,by go_num,by have:=HG.out;omega,by omega,HM6.out,HSn.out,HB6.out⟩
  ·have hkm:k=m:=by omega
   subst hkm;have hS2:Hid (SeenK L (o.map (bare1))):=by have:=hS.out;rwa[List.take_of_length_le (by omega)] at this
   have hM2:=hM;have hB2:=hB;obtain⟨w2,hw2⟩:∃W,W=wr:=⟨_,rfl⟩;rw[<-hw2] at hM2 hB2 ⊢;clear hw2 hM hS hB hlt
   go_wp2_with fail
   go_loopg [10,30] (n+1) (fun gq v i wq=>∃(q:Nat),i=.int .i64 (q:Int)/\gq+q=n+1/\q<=n/\Hid (KMap inoV voidV wq z L)/\wq.ownsRow (w.heap.size+1) 102 6 v (aloneL (bare1) (l.take q) o).length (flat ((aloneL (bare1) (l.take q) o).map inoA))/\Hid (Below w.heap.size w wq))
   case atStart=>exact⟨0,rfl,by omega,by omega,hM2,World.ownsRow_nil _ _ _ _,hB2⟩
   case round=>
    obtain⟨q,rfl,hgq,hq,hM,hown,hB⟩:=hrel;have HG2:=Lib.hid hgq;clear hgq hM2 hB2;by_cases hlt:q<n
    ·obtain⟨gi,ofs,rfl,hg,hrow⟩:=HX.out.row (by omega);have lk:q<l.length:=by omega
     obtain⟨e0,e1,e2,e3,e4,e5⟩:=(hrow q lk).below hB.out hg;have hsn:=alone_snoc (bare1) l o q lk;have hle:(aloneL (bare1) (l.take q) o).length<=1000:=by have:=alone_le (bare1) (l.take q) o;rw[List.length_take] at this;omega
     obtain⟨x,hx⟩:∃x,l[q]=x:=⟨_,rfl⟩;rw[hx] at e0 e1 e2 e3 e4 e5 hsn;have hlk:∀W:World,KMap inoV voidV W z L->(Instr.lookup 221 (.map (some z)) (inoV (bare1 x)) true).run Tryz.prog W=.ok (.tuple #[.agg #[],.bool (decide ((bare1 x)∈o.map (bare1)))]) W:=fun W hW=>by
      have:=hW.look inShape2 Tryz.underlying221 (zeroVoid W) (bare1 x) true;rw[if_pos rfl,hS2.out (bare1 x),show((lookL L (bare1 x)).map voidV).getD (voidV ())=.agg #[] by cases lookL L (bare1 x)<;>rfl] at this
      first|exact this|(rw[this];congr)
     have HLk:=Lib.hid hlk;obtain⟨u,hu⟩:∃u,u=wr.heap.size:=⟨_,rfl⟩;have t4:=heap_alloc_new wr (.cells (inoA x) 102);rw[<-hu] at t4;have hbA:Below wr.heap.size wr (wr.alloc (.cells (inoA x) 102)):=(Below.refl _ _).alloc (Nat.le_refl _) _;clear hrow hx lk hlk;have hi0':(0:Int)<=(q:Int):=by omega
     have hi1':(q:Int)<(n:Int):=by omega
     go_upto_region 11 with fail
     rw[<-hu];change Code.wp _ _ _ _ (wr.alloc (.cells (inoA x) 102));have HM4:=Lib.hid (hM.out.kept (hbA.block _ hM.out.lt));have HB4:=Lib.hid (below_step hB.out hbA);have hown4:=own_call hown hbA;have hu0:=HB4.out.size;have hu1:w.heap.size+1<=u:=by have:=hM.out.lt;have:=HZ.out;omega
     clear e0 e1 e2 e3 e4 e5 hM hB hown hbA hu hi0' hi1';generalize wr.alloc (.cells (inoA x) 102)=w4 at t4 HM4 HB4 hown4 hu0 ⊢;obtain⟨e0,e1,e2,e3,e4,e5⟩:=ino_cells t4
     go_wp2_with fail
     refine(unlinked_code x _).mono ?_;rintro e w5 ⟨rfl,hb5⟩;have t5:=(hb5.block _ (heap_lt t4)).trans t4;have HM5:=Lib.hid (HM4.out.kept (hb5.block _ HM4.out.lt));have HB5:=Lib.hid (below_step HB4.out hb5);have hown5:=own_call hown4 hb5;have hlk:=HLk.out w5 HM5.out;obtain⟨b,hbv⟩:∃b,b=decide ((bare1 x)∈o.map (bare1)):=⟨_,rfl⟩;rw[<-hbv] at hlk;have HBv:=Lib.hid (And.intro hbv hsn);simp only[inoV] at hlk;clear e0 e1 e2 e3 e4 e5 HLk HM4 HB4 hown4 hb5 t4 hsn hbv
     go_upto_region 12 with fail
     change Code.wp _ _ _ _ (w5.alloc (.cells #[] 219));have hbB:Below w5.heap.size w5 (w5.alloc (.cells #[] 219)):=(Below.refl _ _).alloc (Nat.le_refl _) _;have t6:=(hbB.block _ (heap_lt t5)).trans t5;have HM6:=Lib.hid (HM5.out.kept (hbB.block _ HM5.out.lt));have HB6:=Lib.hid (below_step HB5.out hbB);have hown6:=own_call hown5 hbB;clear hlk t5 HM5 HB5 hown5 hbB;generalize w5.alloc (.cells #[] 219)=w6 at t6 HM6 HB6 hown6 ⊢;obtain⟨e0,e1,e2,e3,e4,e5⟩:=ino_cells t6;have hlow:=heap_lt t6
     cases b with
     |true=>
      have hin:=of_decide_eq_true HBv.out.1.symm;have HSn:Hid (aloneL (bare1) (l.take (q+1)) o=aloneL (bare1) (l.take q) o):=by have:=HBv.out.2;rwa[if_pos hin] at this
      clear HBv hin
      go_wp2_with fail
      go_roundg (gk-1)
      case measure=>have:=HG2.out;omega
      case rel=>exact⟨q+1,by go_num,by have:=HG2.out;omega,by omega,HM6.out,by rw[HSn.out];exact hown6,HB6.out⟩
     |false=>
      have hin:=of_decide_eq_false HBv.out.1.symm;have HSn:Hid (aloneL (bare1) (l.take (q+1)) o=aloneL (bare1) (l.take q) o++[x]):=by have:=HBv.out.2;rwa[if_neg hin] at this
      clear HBv hin;have hmm:(aloneL (bare1) (l.take q) o).length+1<=maxLen:=by unfold maxLen;omega
      go_wp2_with (at_builtin;refine wpList_append_own _ rfl (.tmp 44) (.tmp 46) 28 rfl (w.heap.size+1) 102 i0 _ 6 56 Tryz.underlying28 hi0 hz0 hz1 hz2 rfl (by decide) _ _ _ rfl (hown6.alloc _) ⟨w6.heap.size,0,none⟩ 1 1 (inoA x).toList rfl rfl (row_there w6 _ _) (ino_one x) hmm (by omega) (by simp;omega) ?_;intro v3 w7 hown7 hg7 _)
      have hA:Below w6.heap.size w6 (w6.alloc (.cells (inoA x) 102)):=(Below.refl _ _).alloc (Nat.le_refl _) _;have hz1':=HZ.out;have hgz:=hg7.block z (Nat.lt_of_lt_of_le HM6.out.lt hA.size) (fun p=>by have:=(hown6.lt z p.symm).1;omega);have HM7:=Lib.hid (HM6.out.kept (hgz.trans (hA.block _ HM6.out.lt)));have HB7:=Lib.hid ((below_step HB6.out hA).grown hg7 (below_step HB6.out hA).size (fun p hp=>by have:=(hown6.lt p hp).1;omega));rw[flat_ino] at hown7;clear hA hgz hown6 HM6 HB6 hg7 e0 e1 e2 e3 e4 e5
      go_roundg (gk-1)
      case measure=>have:=HG2.out;omega
      case rel=>exact⟨q+1,by go_num,by have:=HG2.out;omega,by omega,HM7.out,by rw[HSn.out,List.length_append];exact hown7,HB7.out⟩
    ·have hE:aloneL (bare1) (l.take q) o=aloneL (bare1) l o:=by rw[List.take_of_length_le (by omega)]
     rw[hE] at hown;clear hE
     go_wp2_with fail
     go_ret
     exact⟨_,rfl,hown,hB.out⟩
set_option maxRecDepth 100000 in
set_option maxHeartbeats 1600000 in
theorem aloneSt_code(A A':Option Addr)(n c m d:Nat)(l o:List Ino)(hn:n<=1000)(hm:m<=1000)(w:World)(h:InosIn w w.heap.size A n l)(h':InosIn w w.heap.size A' m o):
  Calls Tryz.prog 152 #[.slice A n c,.slice A' m d,.func (.func 153) #[] #[]] w fun e w'=>∃v,e=.returned v/\w'.ownsRow (w.heap.size+1) 102 6 v (aloneL (fun x:Ino=>x.id) l o).length (flat ((aloneL (fun x:Ino=>x.id) l o).map inoA))/\Below w.heap.size w w':=by
 have hl:=h.len;have hl':=h'.len;have HX:=Lib.hid h;have HY:=Lib.hid h';obtain⟨i0,hi0,hz0,hz1,hz2⟩:=info_parts ino_infos;have hmk:∀W:World,(Instr.makeMap 222 none).run Tryz.prog W=.ok (.map (some W.heap.size)) (W.alloc (.map #[] 0)):=fun _=>rfl;obtain⟨z,hz⟩:∃z,z=w.heap.size:=⟨_,rfl⟩;have hm0:KMap stV voidV (w.alloc (.map #[] 0)) z ([]:List (St×Unit)):=by rw[hz];exact KMap.made w
 have hb0:Below w.heap.size w (w.alloc (.map #[] 0)):=(Below.refl _ _).alloc (Nat.le_refl _) _;clear h h'
 go_enter Tryz.func152,Tryz.ntmps152
 go_upto_region 2 with fail
 rw[<-hz];have HZ:=Lib.hid hz;have HM0:=Lib.hid hm0;have HB0:=Lib.hid hb0;clear hmk hz hm0 hb0;generalize w.alloc (.map #[] 0)=w1 at HM0 HB0 ⊢
 go_wp2_with fail
 go_loopg [18] (m+1) (fun gk i wr=>∃(k:Nat)(L:List (St×Unit)),i=.int .i64 (k:Int)/\gk+k=m+1/\k<=m/\Hid (KMap stV voidV wr z L)/\Hid (SeenK L ((o.take k).map (fun x:Ino=>x.id)))/\Hid (Below w.heap.size w wr))
 case atStart=>exact⟨0,[],rfl,by omega,by omega,HM0,seen_nil,HB0⟩
 case round=>
  obtain⟨k,L,rfl,hgk,hk,hM,hS,hB⟩:=hrel;have HG:=Lib.hid hgk;clear hgk HM0 HB0;by_cases hlt:k<m
  ·obtain⟨gi,ofs,rfl,hg,hrow⟩:=HY.out.row (by omega);have lk:k<o.length:=by omega
   obtain⟨e0,e1,e2,e3,e4,e5⟩:=(hrow k lk).below hB.out hg;have hsn:=seen_snoc (f:=fun x:Ino=>x.id) lk hS.out;obtain⟨x,hx⟩:∃x,o[k]=x:=⟨_,rfl⟩;rw[hx] at e0 e1 e2 e3 e4 e5 hsn;have HSn:=Lib.hid hsn;clear hrow hx hsn lk;have hi0':(0:Int)<=(k:Int):=by omega
   have hi1':(k:Int)<(m:Int):=by omega
   go_wp2_with fail
   refine(number_code x _).mono ?_;rintro e w5 ⟨rfl,hb5⟩;have hbA:=below_step ((Below.refl wr.heap.size wr).alloc (Nat.le_refl _) (.cells (inoA x) 102)) hb5;have HM5:=Lib.hid (hM.out.kept (hbA.block _ hM.out.lt));have HB5:=Lib.hid (below_step hB.out hbA);clear e0 e1 e2 e3 e4 e5 hM hS hB hb5 hbA
   go_wp2_with (refine wpList_k_store stShape (by rfl) (.tmp 22) (.tmp 25) (.tmp 26) _ (by rfl) Tryz.underlying222 z L (by rfl) HM5.out x.id (by rfl) () (by rfl) ?_;intro w6 HM6 HU6 _)
   have HB6:=Lib.hid (HB5.out.trans (HU6.out.below (fun i hi=>by have:=HZ.out;omega) HB5.out.size))
   go_roundg (gk-1)
   case measure=>have:=HG.out;omega
   case rel=>exact⟨k+1,_,by go_num,by have:=HG.out;omega,by omega,HM6.out,HSn.out,HB6.out⟩
  ·have hkm:k=m:=by omega
   subst hkm;have hS2:Hid (SeenK L (o.map (fun x:Ino=>x.id))):=by have:=hS.out;rwa[List.take_of_length_le (by omega)] at this
   have hM2:=hM;have hB2:=hB;obtain⟨w2,hw2⟩:∃W,W=wr:=⟨_,rfl⟩;rw[<-hw2] at hM2 hB2 ⊢;clear hw2 hM hS hB hlt
   go_wp2_with fail
   go_loopg [10,30] (n+1) (fun gq v i wq=>∃(q:Nat),i=.int .i64 (q:Int)/\gq+q=n+1/\q<=n/\Hid (KMap stV voidV wq z L)/\wq.ownsRow (w.heap.size+1) 102 6 v (aloneL (fun x:Ino=>x.id) (l.take q) o).length (flat ((aloneL (fun x:Ino=>x.id) (l.take q) o).map inoA))/\Hid (Below w.heap.size w wq))
   case atStart=>exact⟨0,rfl,by omega,by omega,hM2,World.ownsRow_nil _ _ _ _,hB2⟩
   case round=>
    obtain⟨q,rfl,hgq,hq,hM,hown,hB⟩:=hrel;have HG2:=Lib.hid hgq;clear hgq hM2 hB2;by_cases hlt:q<n
    ·obtain⟨gi,ofs,rfl,hg,hrow⟩:=HX.out.row (by omega);have lk:q<l.length:=by omega
     obtain⟨e0,e1,e2,e3,e4,e5⟩:=(hrow q lk).below hB.out hg;have hsn:=alone_snoc (fun x:Ino=>x.id) l o q lk;have hle:(aloneL (fun x:Ino=>x.id) (l.take q) o).length<=1000:=by have:=alone_le (fun x:Ino=>x.id) (l.take q) o;rw[List.length_take] at this;omega
     obtain⟨x,hx⟩:∃x,l[q]=x:=⟨_,rfl⟩;rw[hx] at e0 e1 e2 e3 e4 e5 hsn;have hlk:∀W:World,KMap stV voidV W z L->(Instr.lookup 222 (.map (some z)) (stV x.id) true).run Tryz.prog W=.ok (.tuple #[.agg #[],.bool (decide (x.id∈o.map (fun x:Ino=>x.id)))]) W:=fun W hW=>by
      have:=hW.look stShape Tryz.underlying222 (zeroVoid W) x.id true;rw[if_pos rfl,hS2.out x.id,show((lookL L x.id).map voidV).getD (voidV ())=.agg #[] by cases lookL L x.id<;>rfl] at this
      first|exact this|(rw[this];congr)
     have HLk:=Lib.hid hlk;obtain⟨u,hu⟩:∃u,u=wr.heap.size:=⟨_,rfl⟩;have t4:=heap_alloc_new wr (.cells (inoA x) 102);rw[<-hu] at t4;have hbA:Below wr.heap.size wr (wr.alloc (.cells (inoA x) 102)):=(Below.refl _ _).alloc (Nat.le_refl _) _;clear hrow hx lk hlk;have hi0':(0:Int)<=(q:Int):=by omega
     have hi1':(q:Int)<(n:Int):=by omega
     go_upto_region 11 with fail
     rw[<-hu];change Code.wp _ _ _ _ (wr.alloc (.cells (inoA x) 102));have HM4:=Lib.hid (hM.out.kept (hbA.block _ hM.out.lt));have HB4:=Lib.hid (below_step hB.out hbA);have hown4:=own_call hown hbA;have hu0:=HB4.out.size;have hu1:w.heap.size+1<=u:=by have:=hM.out.lt;have:=HZ.out;omega
     clear e0 e1 e2 e3 e4 e5 hM hB hown hbA hu hi0' hi1';generalize wr.alloc (.cells (inoA x) 102)=w4 at t4 HM4 HB4 hown4 hu0 ⊢;obtain⟨e0,e1,e2,e3,e4,e5⟩:=ino_cells t4
     go_wp2_with fail
     refine(number_code x _).mono ?_;rintro e w5 ⟨rfl,hb5⟩;have t5:=(hb5.block _ (heap_lt t4)).trans t4;have HM5:=Lib.hid (HM4.out.kept (hb5.block _ HM4.out.lt));have HB5:=Lib.hid (below_step HB4.out hb5);have hown5:=own_call hown4 hb5;have hlk:=HLk.out w5 HM5.out;obtain⟨b,hbv⟩:∃b,b=decide (x.id∈o.map (fun x:Ino=>x.id)):=⟨_,rfl⟩;rw[<-hbv] at hlk;have HBv:=Lib.hid (And.intro hbv hsn);simp only[stV] at hlk;clear e0 e1 e2 e3 e4 e5 HLk HM4 HB4 hown4 hb5 t4 hsn hbv
     go_upto_region 12 with fail
     change Code.wp _ _ _ _ (w5.alloc (.cells #[] 219));have hbB:Below w5.heap.size w5 (w5.alloc (.cells #[] 219)):=(Below.refl _ _).alloc (Nat.le_refl _) _;have t6:=(hbB.block _ (heap_lt t5)).trans t5;have HM6:=Lib.hid (HM5.out.kept (hbB.block _ HM5.out.lt));have HB6:=Lib.hid (below_step HB5.out hbB);have hown6:=own_call hown5 hbB;clear hlk t5 HM5 HB5 hown5 hbB;generalize w5.alloc (.cells #[] 219)=w6 at t6 HM6 HB6 hown6 ⊢;obtain⟨e0,e1,e2,e3,e4,e5⟩:=ino_cells t6;have hlow:=heap_lt t6
     cases b with
     |true=>
      have hin:=of_decide_eq_true HBv.out.1.symm;have HSn:Hid (aloneL (fun x:Ino=>x.id) (l.take (q+1)) o=aloneL (fun x:Ino=>x.id) (l.take q) o):=by have:=HBv.out.2;rwa[if_pos hin] at this
      clear HBv hin
      go_wp2_with fail
      go_roundg (gk-1)
      case measure=>have:=HG2.out;omega
      case rel=>exact⟨q+1,by go_num,by have:=HG2.out;omega,by omega,HM6.out,by rw[HSn.out];exact hown6,HB6.out⟩
     |false=>
      have hin:=of_decide_eq_false HBv.out.1.symm;have HSn:Hid (aloneL (fun x:Ino=>x.id) (l.take (q+1)) o=aloneL (fun x:Ino=>x.id) (l.take q) o++[x]):=by have:=HBv.out.2;rwa[if_neg hin] at this
      clear HBv hin;have hmm:(aloneL (fun x:Ino=>x.id) (l.take q) o).length+1<=maxLen:=by unfold maxLen;omega
      go_wp2_with (at_builtin;refine wpList_append_own _ rfl (.tmp 44) (.tmp 46) 28 rfl (w.heap.size+1) 102 i0 _ 6 56 Tryz.underlying28 hi0 hz0 hz1 hz2 rfl (by decide) _ _ _ rfl (hown6.alloc _) ⟨w6.heap.size,0,none⟩ 1 1 (inoA x).toList rfl rfl (row_there w6 _ _) (ino_one x) hmm (by omega) (by simp;omega) ?_;intro v3 w7 hown7 hg7 _)
      have hA:Below w6.heap.size w6 (w6.alloc (.cells (inoA x) 102)):=(Below.refl _ _).alloc (Nat.le_refl _) _;have hz1':=HZ.out;have hgz:=hg7.block z (Nat.lt_of_lt_of_le HM6.out.lt hA.size) (fun p=>by have:=(hown6.lt z p.symm).1;omega);have HM7:=Lib.hid (HM6.out.kept (hgz.trans (hA.block _ HM6.out.lt)));have HB7:=Lib.hid ((below_step HB6.out hA).grown hg7 (below_step HB6.out hA).size (fun p hp=>by have:=(hown6.lt p hp).1;omega));rw[flat_ino] at hown7;clear hA hgz hown6 HM6 HB6 hg7 e0 e1 e2 e3 e4 e5
      go_roundg (gk-1)
      case measure=>have:=HG2.out;omega
      case rel=>exact⟨q+1,by go_num,by have:=HG2.out;omega,by omega,HM7.out,by rw[HSn.out,List.length_append];exact hown7,HB7.out⟩
    ·have hE:aloneL (fun x:Ino=>x.id) (l.take q) o=aloneL (fun x:Ino=>x.id) l o:=by rw[List.take_of_length_le (by omega)]
     rw[hE] at hown;clear hE
     go_wp2_with fail
     go_ret
     exact⟨_,rfl,hown,hB.out⟩
set_option maxRecDepth 100000 in
set_option maxHeartbeats 1600000 in
theorem numbers_code(A:Option Addr)(n c:Nat)(l:List Ino)(hn:n<=1000)(w:World)(h:InosIn w w.heap.size A n l):
  Calls Tryz.prog 151 #[.slice A n c] w fun e w'=>∃v,e=.returned v/\w'.ownsRow w.heap.size 24 2 v (l.map fun x=>x.id).length (flat ((l.map fun x=>x.id).map stA))/\Below w.heap.size w w':=by
 have hl:=h.len;have HX:=Lib.hid h;obtain⟨i0,hi0,hz0,hz1,hz2⟩:=info_parts st_infos2;clear h
 go_enter Tryz.func151,Tryz.ntmps151
 go_wp2_with fail
 go_loopg [3,8] (n+1) (fun gk v i wr=>∃(k:Nat),i=.int .i64 (k:Int)/\gk+k=n+1/\k<=n/\wr.ownsRow w.heap.size 24 2 v k (flat (((l.take k).map fun x=>x.id).map stA))/\Hid (Below w.heap.size w wr))
 case atStart=>exact⟨0,rfl,by omega,by omega,World.ownsRow_nil _ _ _ _,Below.refl _ _⟩
 case round=>
  obtain⟨k,rfl,hgk,hk,hown,hB⟩:=hrel;have HG:=Lib.hid hgk;clear hgk;by_cases hlt:k<n
  ·obtain⟨gi,ofs,rfl,hg,hrow⟩:=HX.out.row (by omega);have lk:k<l.length:=by omega
   obtain⟨e0,e1,e2,e3,e4,e5⟩:=(hrow k lk).below hB.out hg;have hsn:(l.take (k+1)).map (fun x=>x.id)=(l.take k).map (fun x=>x.id)++[l[k].id]:=by rw[List.take_succ_eq_append_getElem lk,List.map_append];rfl
   obtain⟨x,hx⟩:∃x,l[k]=x:=⟨_,rfl⟩;rw[hx] at e0 e1 e2 e3 e4 e5 hsn;have HSn:=Lib.hid hsn;clear hrow hx hsn lk;have hi0':(0:Int)<=(k:Int):=by omega
   have hi1':(k:Int)<(n:Int):=by omega
   go_wp2_with fail
   have HN:∀W,Calls Tryz.prog 153 #[.agg (inoA x)] W fun r w'=>r=.returned (.agg #[.int .i64 x.id.1,.int .i64 x.id.2])/\Below W.heap.size W w':=number_code x;refine(HN _).mono ?_;clear HN;rintro e w5 ⟨rfl,hb5⟩;have hbA:=below_step ((Below.refl wr.heap.size wr).alloc (Nat.le_refl _) (.cells (inoA x) 102)) hb5;have HB5:=Lib.hid (below_step hB.out hbA);have hown5:=own_call hown hbA;have hlow:=HB5.out.size;clear e0 e1 e2 e3 e4 e5 hB hb5 hbA hown;have hmm:k+1<=maxLen:=by unfold maxLen;omega
   go_wp2_with (at_builtin;refine wpList_append_own _ rfl (.tmp 12) (.tmp 15) 79 rfl w.heap.size 24 i0 _ 2 16 Tryz.underlying79 hi0 hz0 hz1 hz2 rfl (by decide) _ _ _ rfl (hown5.alloc _) ⟨w5.heap.size,0,none⟩ 1 1 (stA x.id).toList rfl rfl (row_there w5 _ _) (st_one3 x.id) hmm (by omega) (by simp;omega) ?_;intro v3 w7 hown7 hg7 _)
   have hA:Below w5.heap.size w5 (w5.alloc (.cells (stA x.id) 24)):=(Below.refl _ _).alloc (Nat.le_refl _) _;have HB7:=Lib.hid ((below_step HB5.out hA).grown hg7 (below_step HB5.out hA).size (fun p hp=>(hown5.lt p hp).1));rw[flat_st3] at hown7;clear hA hown5 HB5 hg7
   go_roundg (gk-1)
   case measure=>have:=HG.out;omega
   case rel=>exact⟨k+1,by go_num,by have:=HG.out;omega,by omega,by rw[HSn.out];exact hown7,HB7.out⟩
  ·have hkn:k=n:=by omega
   subst hkn;rw[List.take_of_length_le (by omega)] at hown
   go_wp2_with fail
   go_ret
   exact⟨_,rfl,by rw[List.length_map,hl];exact hown,hB.out⟩
end Go.Proofs.YtnnnkaobhkeocaaGreatDoor
namespace Go.Proofs.YtnnnkaobhkeocaaGreatDoor
open Go.RowKit StampMath GraphMath OpMath PackMath
def uhO:Opn:=⟨1,0,2,0,0,0,0,0,0,⟨#[102]⟩,⟨#[]⟩,0,⟨#[]⟩⟩
theorem rec_cells{w:World}{g:Nat}{a b c d e:Value}{T:TypeId}(h:w.heap[g]?=some (.cells #[a,b,c,d,e] T (0,0))):
  w.cell? ⟨g,0,none⟩=some a/\w.cell? ⟨g,1,none⟩=some b/\w.cell? ⟨g,2,none⟩=some c/\w.cell? ⟨g,3,none⟩=some d/\w.cell? ⟨g,4,none⟩=some e:=
 ⟨cell_of_row _ _ 0 _ _ (0,0) h,cell_of_row _ _ 1 _ _ (0,0) h,cell_of_row _ _ 2 _ _ (0,0) h,cell_of_row _ _ 3 _ _ (0,0) h,cell_of_row _ _ 4 _ _ (0,0) h⟩
theorem tabAt_own{W:World}{base:Nat}{e:TypeId}{k:Nat}{v:Value}{n:Nat}{rows:List (Array Value)}(hk:∀r∈rows,r.size=k)(hn:rows.length=n)(h:W.ownsRow base e k v n (flat rows)){T:Nat->Prop}(hT:∀i,base<=i->T i):
  ∃(A:Option Addr)(c:Nat),v=.slice A n c/\TabAt T k W A n rows/\(A=none->c=0):=by
 obtain⟨A,c,rfl,h1,_,_,h2⟩:=tab_own hk hn h;refine⟨A,c,rfl,⟨h1.1,fun hp=>?_⟩,h2⟩;obtain⟨g,o,e1,hg,hc⟩:=h1.2 hp;refine⟨g,o,e1,hT g ?_,hg,hc⟩;exact(h.lt g (by rw[e1];rfl)).1
theorem rec_free{w:World}{g:Nat}{a b c d e:Value}{T:TypeId}(h:w.heap[g]?=some (.cells #[a,b,c,d,e] T (0,0))):
  w.frozen? ⟨g,0,none⟩=false/\w.frozen? ⟨g,1,none⟩=false/\w.frozen? ⟨g,2,none⟩=false/\w.frozen? ⟨g,3,none⟩=false/\w.frozen? ⟨g,4,none⟩=false:=
 ⟨frozen_of_row _ _ 0 _ _ h,frozen_of_row _ _ 1 _ _ h,frozen_of_row _ _ 2 _ _ h,frozen_of_row _ _ 3 _ _ h,frozen_of_row _ _ 4 _ _ h⟩
set_option maxRecDepth 100000 in
set_option maxHeartbeats 1600000 in
theorem diff_code(H:GraphHave)(a b:Addr)(S T:Nat->Prop)(g h:Gr)(w:World)(ha:H.rep w S a g)(hb:H.rep w T b h)(hg:g.ok)(hh:h.ok):
  Calls Tryz.prog 111 #[.pointer (some a),.pointer (some b)] w fun e w'=>∃v,e=.returned v/\RecAt (fun i=>w.heap.size<=i) w' v (diffG g h 0)/\Below w.heap.size w w':=by
 have I1:Hid (∀W,Below w.heap.size w W->Calls Tryz.prog 33 #[.pointer (some a)] W (InosPost (inodesG g) W)):=fun W hW=>told_inos H ha hg hW;have I2:Hid (∀W,Below w.heap.size w W->Calls Tryz.prog 33 #[.pointer (some b)] W (InosPost (inodesG h) W)):=fun W hW=>told_inos H hb hh hW;have E1:Hid (∀W,Below w.heap.size w W->Calls Tryz.prog 53 #[.pointer (some a)] W (EntsPost g.E W)):=fun W hW=>told_ents H ha hg hW;have E2:Hid (∀W,Below w.heap.size w W->Calls Tryz.prog 53 #[.pointer (some b)] W (EntsPost h.E W)):=fun W hW=>told_ents H hb hh hW;have n1:(inodesG g).length<=1000:=by unfold inodesG;rw[List.length_map];exact Nat.le_trans hg.few (by decide)
 have n2:(inodesG h).length<=1000:=by unfold inodesG;rw[List.length_map];exact Nat.le_trans hh.few (by decide)
 have m1:g.E.length<=1000:=Nat.le_trans hg.entsFew (by decide);have m2:h.E.length<=1000:=Nat.le_trans hh.entsFew (by decide);have C1:Hid (∀(A A':Option Addr)(c d:Nat)(W:World),EntsIn W W.heap.size A g.E.length g.E->EntsIn W W.heap.size A' h.E.length h.E->Calls Tryz.prog 147 #[.slice A g.E.length c,.slice A' h.E.length d,.func (.func 148) #[] #[]] W fun e w'=>∃v,e=.returned v/\w'.ownsRow (W.heap.size+1) 126 5 v (lostG g h).length (flat ((lostG g h).map entA))/\Below W.heap.size W w'):=fun A A' c d W q1 q2=>by
  have:=aloneEn_code A A' _ c _ d g.E h.E m1 m2 W q1 q2
  rwa[alone_lost] at this
 have C2:Hid (∀(A A':Option Addr)(c d:Nat)(W:World),EntsIn W W.heap.size A h.E.length h.E->EntsIn W W.heap.size A' g.E.length g.E->Calls Tryz.prog 147 #[.slice A h.E.length c,.slice A' g.E.length d,.func (.func 148) #[] #[]] W fun e w'=>∃v,e=.returned v/\w'.ownsRow (W.heap.size+1) 126 5 v (lostG h g).length (flat ((lostG h g).map entA))/\Below W.heap.size W w'):=fun A A' c d W q1 q2=>by
  have:=aloneEn_code A A' _ c _ d h.E g.E m2 m1 W q1 q2
  rwa[alone_lost] at this
 have C3:Hid (∀(A A':Option Addr)(c d:Nat)(W:World),InosIn W W.heap.size A (inodesG g).length (inodesG g)->InosIn W W.heap.size A' (inodesG h).length (inodesG h)->Calls Tryz.prog 149 #[.slice A (inodesG g).length c,.slice A' (inodesG h).length d,.func (.func 150) #[] #[]] W fun e w'=>∃v,e=.returned v/\w'.ownsRow (W.heap.size+1) 102 6 v (wasG g h).length (flat ((wasG g h).map inoA))/\Below W.heap.size W w'):=fun A A' c d W q1 q2=>by
  have:=aloneIn_code A A' _ c _ d (inodesG g) (inodesG h) n1 n2 W q1 q2
  rwa[alone_was hh] at this
 have C4:Hid (∀(A A':Option Addr)(c d:Nat)(W:World),InosIn W W.heap.size A (inodesG h).length (inodesG h)->InosIn W W.heap.size A' (inodesG g).length (inodesG g)->Calls Tryz.prog 152 #[.slice A (inodesG h).length c,.slice A' (inodesG g).length d,.func (.func 153) #[] #[]] W fun e w'=>∃(D:Option Addr)(p:Nat)(X:List Ino),e=.returned (.slice D X.length p)/\InosIn w' w'.heap.size D X.length X/\X.length<=1000/\X.map (fun x=>x.id)=newN g h/\Below W.heap.size W w'):=fun A A' c d W q1 q2=>by
  refine(aloneSt_code A A' _ c _ d (inodesG h) (inodesG g) n2 n1 W q1 q2).mono ?_;rintro e w' ⟨v,rfl,own,hb⟩;obtain⟨D,p,rfl,r1,_⟩:=inos_own rfl own;exact⟨D,p,_,rfl,r1,Nat.le_trans (alone_le _ _ _) n2,alone_new hg hh,hb⟩
 have k1:(lostG g h).length=(diffG g h 0).lost.length:=rfl;obtain⟨r,hr⟩:∃r,r=diffG g h 0:=⟨_,rfl⟩;have HR:Hid (r.lost=lostG g h/\r.made=lostG h g/\r.was=wasG g h/\r.new=newN g h/\r.err=0):=by rw[hr];exact⟨rfl,rfl,rfl,rfl,rfl⟩
 rw[<-hr];clear ha hb hg hh n1 n2 m1 m2 k1 hr;generalize lostG g h=L1 at C1 HR;generalize lostG h g=L2 at C2 HR;generalize wasG g h=L3 at C3 HR;generalize newN g h=L4 at C4 HR;generalize inodesG g=X at I1 C3 C4;generalize inodesG h=Y at I2 C3 C4;generalize g.E=E at E1 C1 C2;generalize h.E=F at E2 C1 C2;have hq0:=heap_alloc_new w (.cells #[.slice none 0 0,.slice none 0 0,.slice none 0 0,.slice none 0 0,.int .i64 0] 81);have hb0:Below w.heap.size w (w.alloc (.cells #[.slice none 0 0,.slice none 0 0,.slice none 0 0,.slice none 0 0,.int .i64 0] 81)):=(Below.refl _ _).alloc (Nat.le_refl _) _;obtain⟨u,hu⟩:∃u,u=w.heap.size:=⟨_,rfl⟩;rw[<-hu] at hq0;have HU:=Lib.hid hu;have HQ0:=Lib.hid hq0;have HB0:=Lib.hid hb0;clear hq0 hb0
 go_enter Tryz.func111,Tryz.ntmps111
 go_upto_region 1 with fail
 rw[<-hu];clear hu;change Code.wp _ _ _ _ (w.alloc (.cells #[.slice none 0 0,.slice none 0 0,.slice none 0 0,.slice none 0 0,.int .i64 0] 81));generalize w.alloc (.cells #[.slice none 0 0,.slice none 0 0,.slice none 0 0,.slice none 0 0,.int .i64 0] 81)=w0 at HQ0 HB0 ⊢
 go_wp2_with fail
 refine(I1.out _ HB0.out).mono ?_;rintro e w1 ⟨A1,c1,rfl,x1,_,_,_,hb1⟩;have B1:=Lib.hid (below_step HB0.out hb1);have X1:=Lib.hid x1;have HQ1:=Lib.hid ((hb1.block _ (heap_lt HQ0.out)).trans HQ0.out);clear x1 hb1 HQ0 HB0
 go_wp2_with fail
 refine(I2.out _ B1.out).mono ?_;rintro e w2 ⟨A2,c2,rfl,y2,_,_,_,hb2⟩;have B2:=Lib.hid (below_step B1.out hb2);have X2:=Lib.hid (inos_later X1.out hb2);have Y2:=Lib.hid y2;have HQ2:=Lib.hid ((hb2.block _ (heap_lt HQ1.out)).trans HQ1.out);clear y2 hb2 HQ1 B1 X1
 go_wp2_with fail
 refine(E1.out _ B2.out).mono ?_;rintro e w3 ⟨A3,c3,rfl,e3,_,_,_,hb3⟩;have B3:=Lib.hid (below_step B2.out hb3);have X3:=Lib.hid (inos_later X2.out hb3);have Y3:=Lib.hid (inos_later Y2.out hb3);have P3:=Lib.hid e3;have HQ3:=Lib.hid ((hb3.block _ (heap_lt HQ2.out)).trans HQ2.out);clear e3 hb3 HQ2 B2 X2 Y2
 go_wp2_with fail
 refine(E2.out _ B3.out).mono ?_;rintro e w4 ⟨A4,c4,rfl,f4,_,_,_,hb4⟩;have B4:=Lib.hid (below_step B3.out hb4);have X4:=Lib.hid (inos_later X3.out hb4);have Y4:=Lib.hid (inos_later Y3.out hb4);have P4:=Lib.hid (ents_later P3.out hb4);have F4:=Lib.hid f4;have HQ4:=Lib.hid ((hb4.block _ (heap_lt HQ3.out)).trans HQ3.out);clear f4 hb4 HQ3 B3 X3 Y3 P3
 go_wp2_with fail
 refine(C1.out _ _ _ _ _ P4.out F4.out).mono ?_;rintro e w5 ⟨v5,rfl,o5,hb5⟩;have O5:=Lib.hid (own_lower o5 (show w.heap.size+1<=w4.heap.size+1 from Nat.succ_le_succ B4.out.size));have B5:=Lib.hid (below_step B4.out hb5);have X5:=Lib.hid (inos_later X4.out hb5);have Y5:=Lib.hid (inos_later Y4.out hb5);have P5:=Lib.hid (ents_later P4.out hb5);have F5:=Lib.hid (ents_later F4.out hb5);have HQ5:=Lib.hid ((hb5.block _ (heap_lt HQ4.out)).trans HQ4.out);clear o5 hb5 HQ4 B4 X4 Y4 P4 F4
 go_wp2_with fail
 refine(C2.out _ _ _ _ _ F5.out P5.out).mono ?_;rintro e w6 ⟨v6,rfl,o6,hb6⟩;have O5:=Lib.hid (own_call O5.out hb6);have O6:=Lib.hid (own_lower o6 (show w.heap.size+1<=w5.heap.size+1 from Nat.succ_le_succ B5.out.size));have B6:=Lib.hid (below_step B5.out hb6);have X6:=Lib.hid (inos_later X5.out hb6);have Y6:=Lib.hid (inos_later Y5.out hb6);have HQ6:=Lib.hid ((hb6.block _ (heap_lt HQ5.out)).trans HQ5.out);clear o6 hb6 HQ5 B5 X5 Y5 P5 F5
 go_wp2_with fail
 refine(C3.out _ _ _ _ _ X6.out Y6.out).mono ?_;rintro e w7 ⟨v7,rfl,o7,hb7⟩;have O5:=Lib.hid (own_call O5.out hb7);have O6:=Lib.hid (own_call O6.out hb7);have O7:=Lib.hid (own_lower o7 (show w.heap.size+1<=w6.heap.size+1 from Nat.succ_le_succ B6.out.size));have B7:=Lib.hid (below_step B6.out hb7);have X7:=Lib.hid (inos_later X6.out hb7);have Y7:=Lib.hid (inos_later Y6.out hb7);have HQ7:=Lib.hid ((hb7.block _ (heap_lt HQ6.out)).trans HQ6.out);clear o7 hb7 HQ6 B6 X6 Y6
 go_wp2_with fail
 refine(C4.out _ _ _ _ _ Y7.out X7.out).mono ?_;rintro e w8 ⟨D8,p8,Z,rfl,z8,hz8,hzn,hb8⟩;have O5:=Lib.hid (own_call O5.out hb8);have O6:=Lib.hid (own_call O6.out hb8);have O7:=Lib.hid (own_call O7.out hb8);have B8:=Lib.hid (below_step B7.out hb8);have HN:Hid (∀W,InosIn W W.heap.size D8 Z.length Z->Calls Tryz.prog 151 #[.slice D8 Z.length p8] W fun e w'=>∃v,e=.returned v/\w'.ownsRow W.heap.size 24 2 v L4.length (flat (L4.map stA))/\Below W.heap.size W w'):=Lib.hid fun W hW=>by
  have:=numbers_code D8 Z.length p8 Z hz8 W hW
  rwa[hzn] at this
 have Z8:=Lib.hid z8;have HQ8:=Lib.hid ((hb8.block _ (heap_lt HQ7.out)).trans HQ7.out);clear hb8 hz8 hzn z8 HQ7 B7 X7 Y7
 go_wp2_with fail
 refine(HN.out _ Z8.out).mono ?_;rintro e w9 ⟨v9,rfl,o9,hb9⟩;have B9:=Lib.hid (below_step B8.out hb9);have hq9:=(hb9.block _ (heap_lt HQ8.out)).trans HQ8.out;obtain⟨T1,d1,rfl,t1,s1⟩:=tabAt_own (T:=fun i=>w.heap.size+1<=i) (fun r hr=>by obtain⟨e,_,rfl⟩:=List.mem_map.1 hr;rfl) (by rw[List.length_map]) (own_call O5.out hb9) (fun _ hi=>hi);obtain⟨T2,d2,rfl,t2,s2⟩:=tabAt_own (T:=fun i=>w.heap.size+1<=i) (fun r hr=>by obtain⟨e,_,rfl⟩:=List.mem_map.1 hr;rfl) (by rw[List.length_map]) (own_call O6.out hb9) (fun _ hi=>hi);obtain⟨T3,d3,rfl,t3,_⟩:=tabAt_own (T:=fun i=>w.heap.size+1<=i) (fun r hr=>by obtain⟨e,_,rfl⟩:=List.mem_map.1 hr;rfl) (by rw[List.length_map]) (own_call O7.out hb9) (fun _ hi=>hi);obtain⟨T4,d4,rfl,t4,_⟩:=tabAt_own (T:=fun i=>w.heap.size+1<=i) (fun r hr=>by obtain⟨e,_,rfl⟩:=List.mem_map.1 hr;rfl) (by rw[List.length_map]) o9 (fun i hi=>by have:=heap_lt HQ8.out;have:=HU.out;omega);have HT:=Lib.hid (And.intro t1 (And.intro t2 (And.intro t3 (And.intro t4 (And.intro s1 s2)))));obtain⟨x0,x1,x2,x3,x4⟩:=rec_cells hq9;obtain⟨f0,f1,f2,f3,f4⟩:=rec_free hq9;have ho:∀i,i≠u->(((((w9.setCell ⟨u,0,none⟩ (.slice T1 L1.length d1)).setCell ⟨u,1,none⟩ (.slice T2 L2.length d2)).setCell ⟨u,2,none⟩ (.slice T3 L3.length d3)).setCell ⟨u,3,none⟩ (.slice T4 L4.length d4)).setCell ⟨u,4,none⟩ (.int .i64 0)).heap[i]?=w9.heap[i]?:=fun i hi=>by
  rw[heap_setCell_other _ _ _ _ hi,heap_setCell_other _ _ _ _ hi,heap_setCell_other _ _ _ _ hi,heap_setCell_other _ _ _ _ hi,heap_setCell_other _ _ _ _ hi]
 have hx:(((((w9.setCell ⟨u,0,none⟩ (.slice T1 L1.length d1)).setCell ⟨u,1,none⟩ (.slice T2 L2.length d2)).setCell ⟨u,2,none⟩ (.slice T3 L3.length d3)).setCell ⟨u,3,none⟩ (.slice T4 L4.length d4)).setCell ⟨u,4,none⟩ (.int .i64 0)).heap[u]?=some (.cells #[.slice T1 L1.length d1,.slice T2 L2.length d2,.slice T3 L3.length d3,.slice T4 L4.length d4,.int .i64 0] 81 (0,0)):=by
  rw[heap_setCell_same _ _ _ _ _ _ (heap_setCell_same _ _ _ _ _ _ (heap_setCell_same _ _ _ _ _ _ (heap_setCell_same _ _ _ _ _ _ (heap_setCell_same _ _ _ _ _ _ hq9))))]
  rfl
 have hU:w.heap.size<=u:=Nat.le_of_eq HU.out.symm;have hB:Below w.heap.size w (((((w9.setCell ⟨u,0,none⟩ (.slice T1 L1.length d1)).setCell ⟨u,1,none⟩ (.slice T2 L2.length d2)).setCell ⟨u,2,none⟩ (.slice T3 L3.length d3)).setCell ⟨u,3,none⟩ (.slice T4 L4.length d4)).setCell ⟨u,4,none⟩ (.int .i64 0)):=
  ((((B9.out.setCell (p:=⟨u,0,none⟩) hU _).setCell (p:=⟨u,1,none⟩) hU _).setCell (p:=⟨u,2,none⟩) hU _).setCell (p:=⟨u,3,none⟩) hU _).setCell (p:=⟨u,4,none⟩) hU _
 have HO:=Lib.hid ho;have HX:=Lib.hid hx;have HB:=Lib.hid hB;clear ho hx hB hq9 t1 t2 t3 t4 s1 s2 hb9 o9
 go_wp2_with fail
 obtain⟨y0,y1,y2,y3,y4⟩:=rec_cells HX.out;refine bodyPost_ret (v:=.agg #[.slice T1 L1.length d1,.slice T2 L2.length d2,.slice T3 L3.length d3,.slice T4 L4.length d4,.int .i64 0]) (by simp[results,Tryz.results111,go_sem,y0,y1,y2,y3,y4]) rfl ⟨_,rfl,?_,HB.out⟩;obtain⟨r1,r2,r3,r4,r5⟩:=HR.out;obtain⟨t1,t2,t3,t4,s1,s2⟩:=HT.out;have hk:∀i,w.heap.size+1<=i->i<w9.heap.size->(((((w9.setCell ⟨u,0,none⟩ (.slice T1 L1.length d1)).setCell ⟨u,1,none⟩ (.slice T2 L2.length d2)).setCell ⟨u,2,none⟩ (.slice T3 L3.length d3)).setCell ⟨u,3,none⟩ (.slice T4 L4.length d4)).setCell ⟨u,4,none⟩ (.int .i64 0)).heap[i]?=w9.heap[i]?:=fun i hi _=>HO.out i (by have:=HU.out;omega);refine⟨T1,L1.length,d1,T2,L2.length,d2,T3,L3.length,d3,T4,L4.length,d4,by rw[r5],?_,?_,?_,?_,s1,s2⟩
 ·rw[r1];exact(t1.keep hk (by simp)).mono fun i hi _=>Nat.le_of_succ_le hi
 ·rw[r2];exact(t2.keep hk (by simp)).mono fun i hi _=>Nat.le_of_succ_le hi
 ·rw[r3];exact(t3.keep hk (by simp)).mono fun i hi _=>Nat.le_of_succ_le hi
 ·rw[r4];exact(t4.keep hk (by simp)).mono fun i hi _=>Nat.le_of_succ_le hi
set_option maxRecDepth 100000 in
set_option maxHeartbeats 1600000 in
theorem undo_do(H:GraphHave)(Q:ApplyHave H)(a:Addr)(S:Nat->Prop)(g:Gr)(o:Opn)(w:World)[Tab w](h:H.rep w S a g)(hS:¬S 0)(hf:g.fine)(ho:OpFit o):
  Calls Tryz.prog 78 #[.pointer (some a),.agg (opA o)] w fun e w'=>∃S' T v,e=.returned v/\H.rep w' S' a (doA g o).1/\(∀i,S' i->S i\/w.heap.size<=i)/\But S w w'/\RecAt T w' v (doR g o)/\(∀i,T i->w.heap.size<=i/\¬S' i):=by
 have hlt:=Lib.hid (fun i(hi:S i)=>H.lt h i hi);obtain⟨u,hu⟩:∃u,u=w.heap.size:=⟨_,rfl⟩;have H0:Held w [(u+1,.cells #[.slice none 0 0,.slice none 0 0,.slice none 0 0,.slice none 0 0,.int .i64 0] 81),(u,.cells (opA o) 37)] ((w.alloc (.cells (opA o) 37)).alloc (.cells #[.slice none 0 0,.slice none 0 0,.slice none 0 0,.slice none 0 0,.int .i64 0] 81)):=
  ((Held.refl w).alloc (.cells (opA o) 37) hu.symm).alloc (.cells #[.slice none 0 0,.slice none 0 0,.slice none 0 0,.slice none 0 0,.int .i64 0] 81) (by simp[hu])
 have HH:=Lib.hid h;have HS:=Lib.hid hS;have HF:=Lib.hid hf;have HO:=Lib.hid ho;have HH0:=Lib.hid H0;clear h hS hf ho H0;unfold opA
 go_enter Tryz.func78,Tryz.ntmps78
 go_upto_region 1 with fail
 rw[<-hu];change Code.wp _ _ _ _ ((w.alloc (.cells (opA o) 37)).alloc (.cells #[.slice none 0 0,.slice none 0 0,.slice none 0 0,.slice none 0 0,.int .i64 0] 81));have HU:=Lib.hid hu;clear hu;generalize (w.alloc (.cells (opA o) 37)).alloc (.cells #[.slice none 0 0,.slice none 0 0,.slice none 0 0,.slice none 0 0,.int .i64 0] 81)=w0 at HH0 ⊢;have i0:Tab w0:=tab_step HH0.out.below
 go_wp2_with fail
 refine(H.copy a S g w0 (H.keep HH.out fun i hi=>HH0.out.below.block i (hlt.out i hi)) HF.out.ok).mono ?_;rintro e w1 ⟨b,T,rfl,rT,hT,hb1⟩;have i1:Tab w1:=tab_step hb1;have H1:=Lib.hid (HH0.out.step hb1);have RT1:=Lib.hid (And.intro rT (fun i(hi:T i)=>Nat.le_trans HH0.out.below.size (hT i hi)));have D:=Lib.hid (Q.does a S g o w1 (H.keep HH.out fun i hi=>H1.out.below.block i (hlt.out i hi)) HS.out HF.out HO.out);unfold opA at D;obtain⟨e0,e1,e2,e3,e4,e5,e6,e7,e8,e9,e10,e11,e12⟩:=op_cells (o:=o) (g:=u) (H1.out.at 1 rfl);clear rT hT hb1 HH0 i0
 go_wp2_with fail
 refine D.out.mono ?_;rintro e w2 ⟨S',rfl,rS,hS',but2⟩;have BW2:Hid (But S w w2):=Lib.hid ((But.of_below H1.out.below).trans but2 fun i hi _=>hi);have hn1:¬S (u+1):=fun q=>by have:=hlt.out _ q;have:=HU.out;omega
 have X2:Hid (w2.heap[u+1]?=some (.cells #[.slice none 0 0,.slice none 0 0,.slice none 0 0,.slice none 0 0,.int .i64 0] 81 (0,0))):=Lib.hid (but2.heap (H1.out.at 0 rfl) hn1);have rT2:=H.keep RT1.out.1 (fun i hi=>but2.block i (H.lt RT1.out.1 i hi) fun q=>by have:=hlt.out i q;have:=RT1.out.2 i hi;omega);have SS:Hid (∀i,S' i->S i\/w.heap.size<=i):=Lib.hid fun i hi=>(hS' i hi).imp id fun q=>Nat.le_trans H1.out.below.size q;have h1lt:u+1<w1.heap.size:=heap_lt (H1.out.at 0 rfl);have SN:Hid (∀i,S' i->i≠u+1):=Lib.hid fun i hi q=>(hS' i hi).elim (fun r=>by have:=hlt.out i r;have:=HU.out;omega) fun r=>by omega
 have RS2:=Lib.hid rS;have DF:=Lib.hid (diff_code H b a T S' g (doA g o).1 w2 rT2 rS HF.out.ok (HF.out.does o).ok);have hsz:u+1<w2.heap.size:=heap_lt X2.out;clear e0 e1 e2 e3 e4 e5 e6 e7 e8 e9 e10 e11 e12 D rS hS' but2 rT2 RT1 H1 hn1 i1 h1lt
 go_wp2_with fail
 refine DF.out.mono ?_;rintro e w3 ⟨v,rfl,hr3,hb3⟩;obtain⟨A1,n1,c1,A2,n2,c2,A3,n3,c3,A4,n4,c4,rfl,t1,t2,t3,t4,s1,s2⟩:=hr3;have HT:=Lib.hid (And.intro t1 (And.intro t2 (And.intro t3 (And.intro t4 (And.intro s1 s2)))));have X3:=Lib.hid ((hb3.block _ hsz).trans X2.out);have BW3:=Lib.hid (BW2.out.then_below hb3);have hsz3:=hb3.size;have RS3:=Lib.hid (H.keep RS2.out fun i hi=>hb3.block i (H.lt RS2.out i hi));have SL:Hid (∀i,S' i->i<w2.heap.size):=Lib.hid fun i hi=>H.lt RS2.out i hi;have e0:(diffG g (doA g o).1 0).err=0:=rfl;rw[e0];clear t1 t2 t3 t4 s1 s2 hb3 X2 BW2 RS2 DF e0
 go_upto_region 4 with fail
 obtain⟨x,hx⟩:∃x,x=w3.heap.size:=⟨_,rfl⟩;rw[<-hx];change Code.wp _ _ _ _ (w3.alloc (.cells #[.slice A1 n1 c1,.slice A2 n2 c2,.slice A3 n3 c3,.slice A4 n4 c4,.int .i64 0] 81));have hbA:Below w3.heap.size w3 (w3.alloc (.cells #[.slice A1 n1 c1,.slice A2 n2 c2,.slice A3 n3 c3,.slice A4 n4 c4,.int .i64 0] 81)):=(Below.refl _ _).alloc (Nat.le_refl _) _;have y4:=heap_alloc_new w3 (.cells #[.slice A1 n1 c1,.slice A2 n2 c2,.slice A3 n3 c3,.slice A4 n4 c4,.int .i64 0] 81);rw[<-hx] at y4;have X4:=Lib.hid ((hbA.block _ (by omega)).trans X3.out);have BW4:=Lib.hid (BW3.out.then_below hbA);have HBA:=Lib.hid hbA;have RS4:=Lib.hid (H.keep RS3.out fun i hi=>hbA.block i (H.lt RS3.out i hi));have HXX:=Lib.hid hx;clear hx hbA X3 BW3 RS3;generalize w3.alloc (.cells #[.slice A1 n1 c1,.slice A2 n2 c2,.slice A3 n3 c3,.slice A4 n4 c4,.int .i64 0] 81)=w4 at y4 X4 BW4 HBA RS4 ⊢;obtain⟨er,her⟩:∃er,er=(doA g o).2:=⟨_,rfl⟩;rw[<-her];have HER:=Lib.hid her;clear her;obtain⟨p0,p1,p2,p3,p4⟩:=rec_cells y4;obtain⟨q0,q1,q2,q3,q4⟩:=rec_free y4;have y5:(w4.setCell ⟨x,4,none⟩ (.int .i64 er)).heap[x]?=some (.cells #[.slice A1 n1 c1,.slice A2 n2 c2,.slice A3 n3 c3,.slice A4 n4 c4,.int .i64 er] 81 (0,0)):=by
  rw[heap_setCell_same _ _ _ _ _ _ y4]
  rfl
 have hne:u+1≠x:=by have:=HXX.out;omega
 have X5:(w4.setCell ⟨x,4,none⟩ (.int .i64 er)).heap[u+1]?=some (.cells #[.slice none 0 0,.slice none 0 0,.slice none 0 0,.slice none 0 0,.int .i64 0] 81 (0,0)):=(heap_setCell_other _ _ _ _ hne).trans X4.out;have K5:Hid (∀i,i≠x->(w4.setCell ⟨x,4,none⟩ (.int .i64 er)).heap[i]?=w4.heap[i]?):=Lib.hid fun i hi=>heap_setCell_other _ _ _ _ hi;have hxw:w.heap.size<=x:=by have:=HXX.out;have:=HU.out;omega
 have BW5:=Lib.hid (BW4.out.setCell (p:=⟨x,4,none⟩) (Or.inr hxw) (.int .i64 er));have Z5:Hid ((w4.setCell ⟨x,4,none⟩ (.int .i64 er)).heap.size=w4.heap.size):=Lib.hid (by simp);clear y4
 go_upto_region 5 with fail
 generalize w4.setCell ⟨x,4,none⟩ (.int .i64 er)=w5 at y5 X5 K5 BW5 Z5 ⊢;clear p0 p1 p2 p3 p4 q0 q1 q2 q3 q4;obtain⟨p0,p1,p2,p3,p4⟩:=rec_cells y5;obtain⟨f0,f1,f2,f3,f4⟩:=rec_free X5;obtain⟨z0,z1,z2,z3,z4⟩:=rec_cells X5;have ho:∀i,i≠u+1->(((((w5.setCell ⟨u+1,0,none⟩ (.slice A1 n1 c1)).setCell ⟨u+1,1,none⟩ (.slice A2 n2 c2)).setCell ⟨u+1,2,none⟩ (.slice A3 n3 c3)).setCell ⟨u+1,3,none⟩ (.slice A4 n4 c4)).setCell ⟨u+1,4,none⟩ (.int .i64 er)).heap[i]?=w5.heap[i]?:=fun i hi=>by
  rw[heap_setCell_other _ _ _ _ hi,heap_setCell_other _ _ _ _ hi,heap_setCell_other _ _ _ _ hi,heap_setCell_other _ _ _ _ hi,heap_setCell_other _ _ _ _ hi]
 have hx:(((((w5.setCell ⟨u+1,0,none⟩ (.slice A1 n1 c1)).setCell ⟨u+1,1,none⟩ (.slice A2 n2 c2)).setCell ⟨u+1,2,none⟩ (.slice A3 n3 c3)).setCell ⟨u+1,3,none⟩ (.slice A4 n4 c4)).setCell ⟨u+1,4,none⟩ (.int .i64 er)).heap[u+1]?=some (.cells #[.slice A1 n1 c1,.slice A2 n2 c2,.slice A3 n3 c3,.slice A4 n4 c4,.int .i64 er] 81 (0,0)):=by
  rw[heap_setCell_same _ _ _ _ _ _ (heap_setCell_same _ _ _ _ _ _ (heap_setCell_same _ _ _ _ _ _ (heap_setCell_same _ _ _ _ _ _ (heap_setCell_same _ _ _ _ _ _ X5))))]
  rfl
 have huw:w.heap.size<=u+1:=by have:=HU.out;omega
 have BW6:=Lib.hid (((((BW5.out.setCell (p:=⟨u+1,0,none⟩) (Or.inr huw) (.slice A1 n1 c1)).setCell (p:=⟨u+1,1,none⟩) (Or.inr huw) (.slice A2 n2 c2)).setCell (p:=⟨u+1,2,none⟩) (Or.inr huw) (.slice A3 n3 c3)).setCell (p:=⟨u+1,3,none⟩) (Or.inr huw) (.slice A4 n4 c4)).setCell (p:=⟨u+1,4,none⟩) (Or.inr huw) (.int .i64 er));have HO6:=Lib.hid ho;have HX6:=Lib.hid hx;clear ho hx X5 y5 BW5
 go_wp2_with fail
 obtain⟨y0,y1,y2,y3,y4⟩:=rec_cells HX6.out;refine bodyPost_ret (v:=.agg #[.slice A1 n1 c1,.slice A2 n2 c2,.slice A3 n3 c3,.slice A4 n4 c4,.int .i64 er]) (by simp[results,Tryz.results78,go_sem,y0,y1,y2,y3,y4]) rfl ?_;have hk:∀i,i≠u+1->i≠x->(((((w5.setCell ⟨u+1,0,none⟩ (.slice A1 n1 c1)).setCell ⟨u+1,1,none⟩ (.slice A2 n2 c2)).setCell ⟨u+1,2,none⟩ (.slice A3 n3 c3)).setCell ⟨u+1,3,none⟩ (.slice A4 n4 c4)).setCell ⟨u+1,4,none⟩ (.int .i64 er)).heap[i]?=w4.heap[i]?:=fun i h1 h2=>(HO6.out i h1).trans (K5.out i h2);obtain⟨t1,t2,t3,t4,s1,s2⟩:=HT.out;have hk3:∀i,w2.heap.size<=i->i<w3.heap.size->(((((w5.setCell ⟨u+1,0,none⟩ (.slice A1 n1 c1)).setCell ⟨u+1,1,none⟩ (.slice A2 n2 c2)).setCell ⟨u+1,2,none⟩ (.slice A3 n3 c3)).setCell ⟨u+1,3,none⟩ (.slice A4 n4 c4)).setCell ⟨u+1,4,none⟩ (.int .i64 er)).heap[i]?=w3.heap[i]?:=fun i h1 h2=>(hk i (by omega) (by have:=HXX.out;omega)).trans (HBA.out.block i h2);have hz:w3.heap.size<=(((((w5.setCell ⟨u+1,0,none⟩ (.slice A1 n1 c1)).setCell ⟨u+1,1,none⟩ (.slice A2 n2 c2)).setCell ⟨u+1,2,none⟩ (.slice A3 n3 c3)).setCell ⟨u+1,3,none⟩ (.slice A4 n4 c4)).setCell ⟨u+1,4,none⟩ (.int .i64 er)).heap.size:=by
  have:=Z5.out;have:=HBA.out.size;simp only[World.size_setCell];omega
 refine⟨S',fun i=>w2.heap.size<=i,_,rfl,H.keep RS4.out fun i hi=>hk i ?_ ?_,SS.out,BW6.out,?_,fun i hi=>⟨?_,fun q=>?_⟩⟩
 ·exact SN.out i hi
 ·have:=SL.out i hi;have:=HXX.out;omega
 ·refine⟨A1,n1,c1,A2,n2,c2,A3,n3,c3,A4,n4,c4,by rw[HER.out];rfl,t1.keep hk3 hz,t2.keep hk3 hz,t3.keep hk3 hz,t4.keep hk3 hz,s1,s2⟩
 ·have:=BW6.out.size;omega
 ·have:=SL.out i q;omega
theorem untieAll_next(g:Gr){l:List Ent}{k:Nat}(h:k<l.length):untieAll g (l.take (k+1))=(untieG (untieAll g (l.take k)) l[k].dir l[k].name).1:=foldl_next _ g h
theorem dropAll_next(g:Gr){l:List St}{k:Nat}(h:k<l.length):dropAll g (l.take (k+1))=(dropG (dropAll g (l.take k)) l[k]).1:=foldl_next _ g h
theorem remakeAll_next(g:Gr){l:List Ino}{k:Nat}(h:k<l.length):remakeAll g (l.take (k+1))=(setG (makeG (remakeAll g (l.take k)) l[k].id l[k].kind).1 l[k].id l[k].mode l[k].data).1:=foldl_next _ g h
theorem tieAll_next(g:Gr){l:List Ent}{k:Nat}(h:k<l.length):tieAll g (l.take (k+1))=(tieG (nameB l[k].name) (tieAll g (l.take k)) l[k]).1:=foldl_next _ g h
theorem TabAt.now{T N:Nat->Prop}{k:Nat}{W W':World}{A:Option Addr}{n:Nat}{rows:List (Array Value)}(h:TabAt T k W A n rows)(hT:∀i,T i->i<W.heap.size->N i)(hs:Same N W W'):TabIn k W' W'.heap.size A n rows:=
 (h.keep (fun i hi hl=>hs.2 i (hT i hi hl)) hs.1).tab
set_option maxRecDepth 100000 in
set_option maxHeartbeats 3200000 in
theorem back_core(H:GraphHave)(w W0:World)(N T:Nat->Prop)(a:Addr)(γ:Gr)(r:Rec)(v:Value)(h:GX H w W0 N a γ)(hr:RecAt T W0 v r)(hT:∀i,T i->i<W0.heap.size->N i)
  (l1:r.lost.length<=1000)(l2:r.made.length<=1000)(l3:r.was.length<=1000)(l4:r.new.length<=1000)(m1:∀e∈r.lost,e.name.size<=maxLen)(m2:∀e∈r.made,e.name.size<=maxLen):
  Calls Tryz.prog 77 #[.pointer (some a),v] W0 (Did H w W0 N a (backG γ r)):=by
 obtain⟨A1,n1,c1,A2,n2,c2,A3,n3,c3,A4,n4,c4,rfl,t1,t2,t3,t4,_,_⟩:=hr;have e1:r.lost.length=n1:=by have:=t1.1;rwa[List.length_map] at this
 have e2:r.made.length=n2:=by have:=t2.1;rwa[List.length_map] at this
 have e3:r.was.length=n3:=by have:=t3.1;rwa[List.length_map] at this
 have e4:r.new.length=n4:=by have:=t4.1;rwa[List.length_map] at this
 have LL:=Lib.hid (And.intro e1 (And.intro e2 (And.intro e3 e4)));have K1:Hid (∀W,Same N W0 W->EntsIn W W.heap.size A1 n1 r.lost):=Lib.hid fun W hW=>t1.now hT hW;have K2:Hid (∀W,Same N W0 W->EntsIn W W.heap.size A2 n2 r.made):=Lib.hid fun W hW=>t2.now hT hW;have K3:Hid (∀W,Same N W0 W->InosIn W W.heap.size A3 n3 r.was):=Lib.hid fun W hW=>t3.now hT hW;have K4:Hid (∀W,Same N W0 W->StsIn W W.heap.size A4 n4 r.new):=Lib.hid fun W hW=>t4.now hT hW;have M1:=Lib.hid m1;have M2:=Lib.hid m2;rw[e1] at l1;rw[e2] at l2;rw[e3] at l3;rw[e4] at l4;obtain⟨er,her⟩:∃er,er=r.err:=⟨_,rfl⟩;rw[<-her];obtain⟨u,hu⟩:∃u,u=W0.heap.size:=⟨_,rfl⟩;have hD0:=(DX.start h).alloc (.cells #[.slice A1 n1 c1,.slice A2 n2 c2,.slice A3 n3 c3,.slice A4 n4 c4,.int .i64 er] 81) hu.symm;clear e1 e2 e3 e4 t1 t2 t3 t4 m1 m2 h hT her
 go_enter Tryz.func77,Tryz.ntmps77
 go_upto_region 1 with fail
 rw[<-hu];change Code.wp _ _ _ _ (W0.alloc (.cells #[.slice A1 n1 c1,.slice A2 n2 c2,.slice A3 n3 c3,.slice A4 n4 c4,.int .i64 er] 81));clear hu;generalize W0.alloc (.cells #[.slice A1 n1 c1,.slice A2 n2 c2,.slice A3 n3 c3,.slice A4 n4 c4,.int .i64 er] 81)=w1 at hD0 ⊢;have D0:=Lib.hid hD0;clear hD0;obtain⟨p0,p1,p2,p3,p4⟩:=rec_cells (D0.out.at 0 rfl)
 go_wp2_with fail
 clear p0 p1 p2 p3 p4
 go_loopg [15] (n2+1) (fun gk i wr=>∃(k:Nat),i=.int .i64 (k:Int)/\gk+k=n2+1/\k<=n2/\Hid (DX H w W0 wr N a (untieAll γ (r.made.take k)) [(u,.cells #[.slice A1 n1 c1,.slice A2 n2 c2,.slice A3 n3 c3,.slice A4 n4 c4,.int .i64 er] 81)]))
 case atStart=>exact⟨0,rfl,by omega,by omega,D0⟩
 case round=>
  obtain⟨k,rfl,hgk,hk,hD⟩:=hrel;have HG:=Lib.hid hgk;clear hgk D0;by_cases hlt:k<n2
  ·obtain⟨gi,ofs,rfl,hg,hrow⟩:=(K2.out wr hD.out.same).row (by omega);have lk:k<r.made.length:=by have:=LL.out.2.1;omega
   obtain⟨e0,e1,e2,e3,e4⟩:=hrow k lk;have hnx:=untieAll_next γ lk;have hnm:=M2.out _ (List.getElem_mem lk);obtain⟨x,hx⟩:∃x,r.made[k]=x:=⟨_,rfl⟩;rw[hx] at e0 e1 e2 e3 e4 hnx hnm;have HNX:=Lib.hid hnx;have DA:=Lib.hid ((hD.out.alloc (.cells (entA x) 126) rfl).untie x.dir x.name hnm);clear hrow hx hnx lk hnm;have hi0':(0:Int)<=(k:Int):=by omega
   have hi1':(k:Int)<(n2:Int):=by omega
   unfold entA at DA
   go_wp2_with fail
   refine DA.out.mono ?_;rintro e w5 ⟨rfl,hD5⟩;have D5:=Lib.hid hD5.tail;clear hD5 DA hD e0 e1 e2 e3 e4
   go_wp2_with fail
   go_roundg (gk-1)
   case measure=>have:=HG.out;omega
   case rel=>exact⟨k+1,by go_num,by have:=HG.out;omega,by omega,by rw[HNX.out];exact D5⟩
  ·have hD1:Hid (DX H w W0 wr N a (untieAll γ r.made) [(u,.cells #[.slice A1 n1 c1,.slice A2 n2 c2,.slice A3 n3 c3,.slice A4 n4 c4,.int .i64 er] 81)]):=by
    have:=hD.out
    rwa[List.take_of_length_le (by have:=LL.out.2.1;omega)] at this
   have hc:¬(k:Int)<(n2:Int):=by omega
   clear hD hlt;obtain⟨w2,hw2⟩:∃W,W=wr:=⟨_,rfl⟩;rw[<-hw2] at hD1 ⊢;clear hw2;obtain⟨γ1,hγ1⟩:∃x,x=untieAll γ r.made:=⟨_,rfl⟩;rw[<-hγ1] at hD1;have HΓ1:=Lib.hid hγ1;clear hγ1;obtain⟨p0,p1,p2,p3,p4⟩:=rec_cells (hD1.out.at 0 rfl)
   go_wp2_with fail
   clear p0 p1 p2 p3 p4 hc
   go_loopg [29] (n4+1) (fun gk i wr=>∃(k:Nat),i=.int .i64 (k:Int)/\gk+k=n4+1/\k<=n4/\Hid (DX H w W0 wr N a (dropAll γ1 (r.new.take k)) [(u,.cells #[.slice A1 n1 c1,.slice A2 n2 c2,.slice A3 n3 c3,.slice A4 n4 c4,.int .i64 er] 81)]))
   case atStart=>exact⟨0,rfl,by omega,by omega,hD1⟩
   case round=>
    obtain⟨k,rfl,hgk,hk,hD⟩:=hrel;have HG:=Lib.hid hgk;clear hgk hD1;by_cases hlt:k<n4
    ·obtain⟨gi,ofs,rfl,hg,hrow⟩:=(K4.out wr hD.out.same).row (by omega);have lk:k<r.new.length:=by have:=LL.out.2.2.2;omega
     obtain⟨e0,e1⟩:=hrow k lk;have hnx:=dropAll_next γ1 lk;obtain⟨x,hx⟩:∃x,r.new[k]=x:=⟨_,rfl⟩;rw[hx] at e0 e1 hnx;have HNX:=Lib.hid hnx;have DA:=Lib.hid ((hD.out.alloc (.cells (stA x) 24) rfl).drop x);clear hrow hx hnx lk;have hi0':(0:Int)<=(k:Int):=by omega
     have hi1':(k:Int)<(n4:Int):=by omega
     unfold stA at DA
     go_wp2_with fail
     refine DA.out.mono ?_;rintro e w5 ⟨rfl,hD5⟩;have D5:=Lib.hid hD5.tail;clear hD5 DA hD e0 e1
     go_wp2_with fail
     go_roundg (gk-1)
     case measure=>have:=HG.out;omega
     case rel=>exact⟨k+1,by go_num,by have:=HG.out;omega,by omega,by rw[HNX.out];exact D5⟩
    ·have hD2:Hid (DX H w W0 wr N a (dropAll γ1 r.new) [(u,.cells #[.slice A1 n1 c1,.slice A2 n2 c2,.slice A3 n3 c3,.slice A4 n4 c4,.int .i64 er] 81)]):=by
      have:=hD.out
      rwa[List.take_of_length_le (by have:=LL.out.2.2.2;omega)] at this
     have hc:¬(k:Int)<(n4:Int):=by omega
     clear hD hlt;obtain⟨w3,hw3⟩:∃W,W=wr:=⟨_,rfl⟩;rw[<-hw3] at hD2 ⊢;clear hw3;obtain⟨γ2,hγ2⟩:∃x,x=dropAll γ1 r.new:=⟨_,rfl⟩;rw[<-hγ2] at hD2;have HΓ2:=Lib.hid hγ2;clear hγ2;obtain⟨p0,p1,p2,p3,p4⟩:=rec_cells (hD2.out.at 0 rfl)
     go_wp2_with fail
     clear p0 p1 p2 p3 p4 hc
     go_loopg [40] (n3+1) (fun gk i wr=>∃(k:Nat),i=.int .i64 (k:Int)/\gk+k=n3+1/\k<=n3/\Hid (DX H w W0 wr N a (remakeAll γ2 (r.was.take k)) [(u,.cells #[.slice A1 n1 c1,.slice A2 n2 c2,.slice A3 n3 c3,.slice A4 n4 c4,.int .i64 er] 81)]))
     case atStart=>exact⟨0,rfl,by omega,by omega,hD2⟩
     case round=>
      obtain⟨k,rfl,hgk,hk,hD⟩:=hrel;have HG:=Lib.hid hgk;clear hgk hD2;by_cases hlt:k<n3
      ·obtain⟨gi,ofs,rfl,hg,hrow⟩:=(K3.out wr hD.out.same).row (by omega);have lk:k<r.was.length:=by have:=LL.out.2.2.1;omega
       obtain⟨e0,e1,e2,e3,e4,e5⟩:=hrow k lk;have hnx:=remakeAll_next γ2 lk;obtain⟨x,hx⟩:∃x,r.was[k]=x:=⟨_,rfl⟩;rw[hx] at e0 e1 e2 e3 e4 e5 hnx;have HNX:=Lib.hid hnx;obtain⟨z,hz⟩:∃z,z=wr.heap.size:=⟨_,rfl⟩;have DA:=Lib.hid ((hD.out.alloc (.cells (inoA x) 102) hz.symm).make x.id x.kind);clear hrow hx hnx lk;have hi0':(0:Int)<=(k:Int):=by omega
       have hi1':(k:Int)<(n3:Int):=by omega
       unfold inoA at DA
       go_wp2_with fail
       rw[<-hz];refine DA.out.mono ?_;rintro e w5 ⟨rfl,hD5⟩;have D5:=Lib.hid hD5;clear hD5 DA hD e0 e1 e2 e3 e4 e5 hz hg;obtain⟨y0,y1,y2,y3,y4,y5⟩:=ino_cells (x:=x) (g:=z) (D5.out.at 0 rfl);have DB:=Lib.hid (D5.out.set x.id x.mode x.data)
       go_wp2_with fail
       refine DB.out.mono ?_;rintro e w6 ⟨rfl,hD6⟩;have D6:=Lib.hid hD6.tail;clear hD6 DB D5 y0 y1 y2 y3 y4 y5
       go_wp2_with fail
       go_roundg (gk-1)
       case measure=>have:=HG.out;omega
       case rel=>exact⟨k+1,by go_num,by have:=HG.out;omega,by omega,by rw[HNX.out];exact D6⟩
      ·have hD3:Hid (DX H w W0 wr N a (remakeAll γ2 r.was) [(u,.cells #[.slice A1 n1 c1,.slice A2 n2 c2,.slice A3 n3 c3,.slice A4 n4 c4,.int .i64 er] 81)]):=by
        have:=hD.out
        rwa[List.take_of_length_le (by have:=LL.out.2.2.1;omega)] at this
       have hc:¬(k:Int)<(n3:Int):=by omega
       clear hD hlt;obtain⟨w4,hw4⟩:∃W,W=wr:=⟨_,rfl⟩;rw[<-hw4] at hD3 ⊢;clear hw4;obtain⟨γ3,hγ3⟩:∃x,x=remakeAll γ2 r.was:=⟨_,rfl⟩;rw[<-hγ3] at hD3;have HΓ3:=Lib.hid hγ3;clear hγ3;obtain⟨p0,p1,p2,p3,p4⟩:=rec_cells (hD3.out.at 0 rfl)
       go_wp2_with fail
       clear p0 p1 p2 p3 p4 hc
       go_loopg [62] (n1+1) (fun gk i wr=>∃(k:Nat),i=.int .i64 (k:Int)/\gk+k=n1+1/\k<=n1/\Hid (DX H w W0 wr N a (tieAll γ3 (r.lost.take k)) [(u,.cells #[.slice A1 n1 c1,.slice A2 n2 c2,.slice A3 n3 c3,.slice A4 n4 c4,.int .i64 er] 81)]))
       case atStart=>exact⟨0,rfl,by omega,by omega,hD3⟩
       case round=>
        obtain⟨k,rfl,hgk,hk,hD⟩:=hrel;have HG:=Lib.hid hgk;clear hgk hD3;by_cases hlt:k<n1
        ·obtain⟨gi,ofs,rfl,hg,hrow⟩:=(K1.out wr hD.out.same).row (by omega);have lk:k<r.lost.length:=by have:=LL.out.1;omega
         obtain⟨e0,e1,e2,e3,e4⟩:=hrow k lk;have hnx:=tieAll_next γ3 lk;have hnm:=M1.out _ (List.getElem_mem lk);obtain⟨x,hx⟩:∃x,r.lost[k]=x:=⟨_,rfl⟩;rw[hx] at e0 e1 e2 e3 e4 hnx hnm;have HNX:=Lib.hid hnx;have DA:=Lib.hid ((hD.out.alloc (.cells (entA x) 126) rfl).tie x.dir x.name x.ino hnm);clear hrow hx hnx lk hnm;have hi0':(0:Int)<=(k:Int):=by omega
         have hi1':(k:Int)<(n1:Int):=by omega
         unfold entA at DA
         go_wp2_with fail
         refine DA.out.mono ?_;rintro e w5 ⟨rfl,hD5⟩;have D5:=Lib.hid hD5.tail;clear hD5 DA hD e0 e1 e2 e3 e4
         go_wp2_with fail
         go_roundg (gk-1)
         case measure=>have:=HG.out;omega
         case rel=>exact⟨k+1,by go_num,by have:=HG.out;omega,by omega,by rw[HNX.out];exact D5⟩
        ·have hD4:Hid (DX H w W0 wr N a (tieAll γ3 r.lost) [(u,.cells #[.slice A1 n1 c1,.slice A2 n2 c2,.slice A3 n3 c3,.slice A4 n4 c4,.int .i64 er] 81)]):=by
          have:=hD.out
          rwa[List.take_of_length_le (by have:=LL.out.1;omega)] at this
         have hc:¬(k:Int)<(n1:Int):=by omega
         clear hD hlt
         go_wp2_with fail
         refine bodyPost_end (results_none rfl _ _ _) rfl ⟨rfl,?_⟩;have:=hD4.out.fin;rw[HΓ3.out,HΓ2.out,HΓ1.out] at this;exact this
theorem name_len{nm:ByteArray}(h:nameB nm=true):nm.size<=maxLen:=by
 unfold nameB at h;simp only[Bool.and_eq_true,decide_eq_true_iff] at h;unfold maxLen;omega
theorem undoHave:UndoHave graphHave where
 diff:=fun a b S T g h w ha hb hg hh=>diff_code graphHave a b S T g h w ha hb hg hh
 does:=fun a S g o w _ h hS hf ho=>undo_do graphHave applyHave a S g o w h hS hf ho
 back:=fun a S T g o v w h hg _ hr hT=>by
  have hf:=hg.does o;have h1:(doR g o).lost.length<=1000:=Nat.le_trans (List.length_filter_le _ _) (Nat.le_trans hg.ok.entsFew (by decide));have h2:(doR g o).made.length<=1000:=Nat.le_trans (List.length_filter_le _ _) (Nat.le_trans hf.ok.entsFew (by decide));have h3:(doR g o).was.length<=1000:=by
   refine Nat.le_trans (List.length_filter_le _ _) ?_;unfold inodesG;rw[List.length_map];exact Nat.le_trans hg.ok.few (by decide)
  have h4:(doR g o).new.length<=1000:=by
   refine Nat.le_trans (List.length_filter_le _ _) ?_;rw[List.length_map];exact Nat.le_trans hf.ok.few (by decide)
  refine(back_core graphHave (bare w) w (fun i=>i<w.heap.size/\¬S i) T a (doA g o).1 (doR g o) v (bare_gx h hf.ok) hr (fun i hi hl=>⟨hl,hT i hi⟩) h1 h2 h3 h4
   (fun e he=>name_len (hg.names e (List.mem_filter.1 he).1)) (fun e he=>name_len (hf.names e (List.mem_filter.1 he).1))).mono ?_
  rintro e w' ⟨he,k⟩;rw[back_does hg o] at k;obtain⟨S',q⟩:=gx_bare k;exact⟨S',he,q⟩
end Go.Proofs.YtnnnkaobhkeocaaGreatDoor
