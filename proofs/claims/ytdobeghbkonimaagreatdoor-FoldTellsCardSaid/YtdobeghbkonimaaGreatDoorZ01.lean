/-
 Plain mathematics of layer 9: directories are trees; links are counted right. It needs no program.
-/
import Derived.Test.YtdobeghbkonimaaGreatDoorZ00
import Derived.Deep.QuietTactic
import Derived.BigQuiet
import Derived.Test.YtdobeghbkonimaaGreatDoorRows
import Derived.Deep.Cut
import Derived.Deep.DeepCutAuto
import Derived.Deep.LoopGhost
import Derived.Shelf.SlSortCmp.KitK
import Derived.Sort.LotA
import Derived.Sort.WalkB2
import Derived.Sort.WalkB12
namespace Go.Proofs.YtdobeghbkonimaaGreatDoor.GraphMath
open StampMath

theorem Gr.ok.under_step {g : Gr} (h : g.ok) {a b p : St} (hp : parentG g a = some p) (hab : a ≠ b) : underG g a b = underG g p b:=by
 rw [Bool.eq_iff_iff,h.leads,h.leads]
 constructor
 ·intro hl
  cases hl with
  | here _=>exact absurd rfl hab
  | up e d he hd hl =>
   have:=h.parent he hd
   rw [hp] at this
   rw [Option.some.inj this]
   exact hl
 ·intro hl
  obtain ⟨e,he,rfl,rfl,hd⟩:=parent_of hp
  exact Leads.up e b he hd hl

end Go.Proofs.YtdobeghbkonimaaGreatDoor.GraphMath

namespace Go.Proofs.YtdobeghbkonimaaGreatDoor.ExtentMath
open Go.RowKit

def bld (f : Nat→UInt8) (k : Nat) : List UInt8:=(List.range k).map f

theorem bld_succ (f : Nat→UInt8) (k : Nat) : bld f (k + 1) = bld f k ++ [f k]:=by
 unfold bld
 rw [List.range_succ,List.map_append]
 rfl

theorem bld_len (f : Nat→UInt8) (k : Nat) : (bld f k).length = k:=by simp [bld]

theorem bld_get (f : Nat→UInt8) {k i : Nat} (h : i < k) : (bld f k)[i]? = some (f i):=by
 unfold bld
 rw [List.getElem?_map,List.getElem?_range h]
 rfl

def bAt (d : List UInt8) (i : Nat) : UInt8:=d.getD i 0

theorem bAt_lt {d : List UInt8} {i : Nat} (h : i < d.length) : bAt d i = d[i]:=by
 unfold bAt
 rw [List.getD_eq_getElem?_getD,List.getElem?_eq_getElem h]
 rfl

theorem bAt_ge {d : List UInt8} {i : Nat} (h : d.length≤i) : bAt d i = 0:=by
 unfold bAt
 rw [List.getD_eq_getElem?_getD,List.getElem?_eq_none h]
 rfl

theorem bAt_bld (f : Nat→UInt8) {k i : Nat} (h : i < k) : bAt (bld f k) i = f i:=by
 unfold bAt
 rw [List.getD_eq_getElem?_getD,bld_get f h]
 rfl

theorem same_bytes {a b : List UInt8} (hl : a.length = b.length) (h : ∀ i,i < a.length→bAt a i = bAt b i) : a = b:=by
 apply List.ext_getElem hl
 intro i h1 h2
 have:=h i h1
 rw [bAt_lt h1,bAt_lt h2] at this
 exact this

def wF (d s : List UInt8) (o i : Nat) : UInt8:=if o≤i∧i < o + s.length then bAt s (i - o) else bAt d i
def wL (d s : List UInt8) (o : Nat) : List UInt8:=bld (wF d s o) (max d.length (o + s.length))
def tL (d : List UInt8) (n : Nat) : List UInt8:=bld (bAt d) n
def rL (d : List UInt8) (o m : Nat) : List UInt8:=(d.drop o).take m

theorem wL_len (d s : List UInt8) (o : Nat) : (wL d s o).length = max d.length (o + s.length):=bld_len _ _
theorem tL_len (d : List UInt8) (n : Nat) : (tL d n).length = n:=bld_len _ _
theorem bAt_wL (d s : List UInt8) (o i : Nat) : bAt (wL d s o) i = wF d s o i:=by
 unfold wL
 by_cases h : i < max d.length (o + s.length)
 ·exact bAt_bld _ h
 ·rw [bAt_ge (by rw [bld_len]; omega)]
  unfold wF
  rw [if_neg (by omega),bAt_ge (by omega)]

theorem bAt_tL (d : List UInt8) (n i : Nat) : bAt (tL d n) i = if i < n then bAt d i else 0:=by
 unfold tL
 by_cases h : i < n
 ·rw [if_pos h]; exact bAt_bld _ h
 ·rw [if_neg h]; exact bAt_ge (by rw [bld_len]; omega)

def wR (d : ByteArray) (off : Int) (s : ByteArray) : ByteArray × Int :=
 if off < 0∨s.size = 0 then (d,1)
 else if 64 < off∨64 < s.size∨64 < d.size∨64 < off + (s.size : Int) then (d,11)
 else (⟨(wL d.data.toList s.data.toList off.toNat).toArray⟩,0)

def tR (d : ByteArray) (n : Int) : ByteArray × Int :=
 if n < 0 then (d,1) else if 64 < n∨64 < d.size then (d,11) else (⟨(tL d.data.toList n.toNat).toArray⟩,0)

def rR (d : ByteArray) (off many : Int) : ByteArray:=if off < 0 then ⟨#[]⟩ else ⟨(rL d.data.toList off.toNat many.toNat).toArray⟩

end Go.Proofs.YtdobeghbkonimaaGreatDoor.ExtentMath

namespace Go.Proofs.YtdobeghbkonimaaGreatDoor.GraphMath
open StampMath OpMath ExtentMath

def oAt (o : Opn) : St:=(o.pt,o.pr)
def oIno (o : Opn) : St:=(o.it,o.ir)
def oTo (o : Opn) : St:=(o.tt,o.tr)
def oSt (o : Opn) : St:=(o.st,o.sr)

def kindG (g : Gr) (id : St) : Int:=((getG g id).getD noIno).kind
def linksG (g : Gr) (id : St) : Int:=((getG g id).getD noIno).links

def makesW (g : Gr) (o : Opn) : Int :=
 if kindG g (oAt o) = 0∨(o.k = 4∧kindG g (oIno o) = 0) then 3
 else if kindG g (oAt o) ≠ 1 then 6
 else if o.k = 4∧kindG g (oIno o) = 1 then 5
 else if (lookE g.E (oAt o) o.name).isSome∨(o.k ≠ 4∧kindG g (oSt o) ≠ 0) then 4
 else if o.k ≠ 4∧40≤g.I.length then 13
 else if o.k = 4∧6≤linksG g (oIno o) then 12
 else 0

def targetG (g : Gr) (o : Opn) : Option St:=lookE g.E (oTo o) o.new

def renamesW (g : Gr) (o : Opn) : Int :=
 if lookE g.E (oAt o) o.name ≠ some (oIno o)∨kindG g (oTo o) = 0 then 3
 else if kindG g (oTo o) ≠ 1 then 6
 else if targetG g o = some (oIno o) then 0
 else if kindG g (oIno o) = 1∧underG g (oTo o) (oIno o) = true then 8
 else if ((targetG g o).isSome∧kindG g ((targetG g o).getD (0,0)) = 1)∧kindG g (oIno o) ≠ 1 then 5
 else if (targetG g o).isSome∧kindG g (oIno o) = 1∧¬ ((targetG g o).isSome∧kindG g ((targetG g o).getD (0,0)) = 1) then 6
 else if ((targetG g o).isSome∧kindG g ((targetG g o).getD (0,0)) = 1)∧0 < (listE g.E ((targetG g o).getD (0,0))).length then 7
 else 0

def whyA (g : Gr) (o : Opn) : Int :=
 if mayO o = false then 1
 else if o.k≤4 then makesW g o
 else if o.k = 7 then renamesW g o
 else if (o.k≤6∧lookE g.E (oAt o) o.name ≠ some (oIno o))∨kindG g (oIno o) = 0 then 3
 else if (o.k = 5∨o.k = 8∨o.k = 9)∧kindG g (oIno o) = 1 then 5
 else if o.k = 6∧kindG g (oIno o) ≠ 1 then 6
 else if o.k = 6∧0 < (listE g.E (oIno o)).length then 7
 else if (o.k = 8∨o.k = 9)∧kindG g (oIno o) = 3 then 8
 else 0

def goneG (g : Gr) (d : St) (nm : ByteArray) : Gr :=
 if linksE (untieG g d nm).1.E (untieG g d nm).2.1 = 0 then (dropG (untieG g d nm).1 (untieG g d nm).2.1).1 else (untieG g d nm).1

def tie1 (g : Gr) (d : St) (nm : ByteArray) (ino : St) : Gr:=(tieG (nameB nm) g ⟨d,nm,ino⟩).1

def inoG (g : Gr) (id : St) : Ino:=(getG g id).getD noIno

def bytes (l : List UInt8) : ByteArray:=⟨l.toArray⟩

def madeA (g : Gr) (o : Opn) : Gr :=
 if o.k≤3 then tie1 (setG (makeG g (oSt o) o.k).1 (oSt o) 0 o.data).1 (oAt o) o.name (oSt o)
 else if o.k = 4 then tie1 g (oAt o) o.name (oIno o)
 else if o.k≤6 then goneG g (oAt o) o.name
 else if o.k = 7 then
  if targetG g o = some (oIno o) then g
  else tie1 (untieG (if (targetG g o).isSome then goneG g (oTo o) o.new else g) (oAt o) o.name).1 (oTo o) o.new (oIno o)
 else if o.k = 8 then (setG g (oIno o) (inoG g (oIno o)).mode (bytes (wL (inoG g (oIno o)).data.data.toList o.data.data.toList o.off.toNat))).1
 else if o.k = 9 then (setG g (oIno o) (inoG g (oIno o)).mode (bytes (tL (inoG g (oIno o)).data.data.toList o.off.toNat))).1
 else (setG g (oIno o) o.off (inoG g (oIno o)).data).1

def doA (g : Gr) (o : Opn) : Gr × Int:=if whyA g o = 0 then (madeA g o,0) else (g,whyA g o)

structure Gr.fine (g : Gr) : Prop where
 ok : g.ok
 names : ∀ e∈g.E,nameB e.name = true
 held : ∀ x∈g.I,x.id ≠ (0,0)→1≤linksE g.E x.id
 bound : ∀ x∈g.I,boundOk1 x

theorem kindG_I (g : Gr) (id : St) : kindG g id = ((g.I.find? fun x=>decide (x.id = id)).map (·.kind)).getD 0:=by
 unfold kindG getG
 cases g.I.find? (fun x=>decide (x.id = id)) <;> rfl

theorem Gr.ok.kindG {g : Gr} (h : g.ok) {x : Ino} (hx : x∈g.I) : GraphMath.kindG g x.id = x.kind:=by
 unfold GraphMath.kindG
 rw [h.get hx]
 rfl

theorem kindG_some {g : Gr} {id : St} (h : kindG g id ≠ 0) : ∃ x∈g.I,x.id = id∧x.kind = kindG g id:=by
 rw [kindG_I] at h ⊢
 cases hq : g.I.find? (fun x=>decide (x.id = id)) with
 | none=>rw [hq] at h; exact absurd rfl h
 | some x=>exact ⟨x,List.mem_of_find?_eq_some hq,by simpa using List.find?_some hq,rfl⟩

theorem kindG_dir {g : Gr} {id : St} (h : kindG g id = 1) : g.isDir id:=by
 obtain ⟨x,hx,h1,h2⟩:=kindG_some (g:=g) (id:=id) (by rw [h]; decide)
 exact ⟨x,hx,h1,h2.trans h⟩

theorem Gr.ok.kindDir {g : Gr} (h : g.ok) {id : St} (hd : g.isDir id) : GraphMath.kindG g id = 1:=by
 obtain ⟨x,hx,h1,h2⟩:=hd
 rw [← h1,h.kindG hx,h2]

theorem Gr.ok.there {g : Gr} (h : g.ok) {id : St} (hk : GraphMath.kindG g id ≠ 0) : ∃ x,getG g id = some x:=by
 obtain ⟨x,hx,h1,_⟩:=kindG_some hk
 exact ⟨_,by rw [← h1]; exact h.get hx⟩

theorem kindG_zero {g : Gr} (h : g.ok) {id : St} (hk : kindG g id = 0) : ∀ x∈g.I,x.id ≠ id:=fun x hx e=>by
 have:=h.kindG hx
 rw [e,hk] at this
 have:=(h.kinds x hx).1
 omega

theorem getG_zero {g : Gr} (h : g.ok) {id : St} (hk : kindG g id = 0) : getG g id = none:=by
 unfold getG
 rw [List.find?_eq_none.2 fun x hx=>by simpa using kindG_zero h hk x hx]
 rfl

theorem new_fine : newG.fine where
 ok:=new_okG
 names:=fun e he=>by cases he
 held:=fun x hx h0=>by rw [List.mem_singleton.1 hx] at h0; exact absurd rfl h0
 bound:=fun x hx=>by rw [List.mem_singleton.1 hx]; unfold boundOk1; decide

end Go.Proofs.YtdobeghbkonimaaGreatDoor.GraphMath

namespace Go.Proofs.YtdobeghbkonimaaGreatDoor.GraphMath
open StampMath OpMath ExtentMath

theorem mayO_parts {o : Opn} (h : mayO o = true) : 1≤o.k∧o.k≤10∧bareO o = o∧o.st ≠ 0∧mayB o.st o.sr = true∧(o.k≤7→nameB o.name = true)∧(o.k = 7→nameB o.new = true)∧dataB o = true:=by
 unfold mayO at h
 simp only [Bool.and_eq_true,decide_eq_true_iff,Bool.not_eq_true',beq_eq_false_iff_ne,Bool.or_eq_true] at h
 obtain ⟨⟨⟨⟨⟨⟨h1,h2⟩,h3⟩,h4⟩,h5⟩,⟨⟨_,h6⟩,h7⟩⟩,h8⟩:=h
 refine ⟨h1,h2,h3,h4,h5,fun q=>?_,fun q=>?_,h8⟩
 ·rcases h6 with h6 | h6
  ·omega
  ·exact h6
 ·rcases h7 with h7 | h7
  ·exact absurd q h7
  ·exact h7

theorem bare_data {o : Opn} (h : bareO o = o) (hk : o.k ≠ 3) (hk8 : o.k ≠ 8) : o.data.size = 0:=by
 have e : (bareO o).data = ⟨#[]⟩:=if_neg (by omega)
 rw [h] at e
 rw [e]
 rfl

theorem made_bound {o : Opn} (h : mayO o = true) (hk : o.k≤3) : boundOk1 ⟨oSt o,o.k,0,0,o.data⟩:=by
 obtain ⟨h1,_,h3,_,_,_,_,h8⟩:=mayO_parts h
 unfold boundOk1
 dsimp only
 by_cases q : o.k = 3
 ·unfold dataB at h8
  rw [if_pos q] at h8
  simp only [Bool.and_eq_true,decide_eq_true_iff] at h8
  exact ⟨by omega,by omega,fun r=>by omega,fun r=>by omega,fun _=>⟨by omega,by omega⟩⟩
 ·have:=bare_data h3 q (by omega)
  exact ⟨by omega,by omega,fun _=>this,fun _=>by omega,fun r=>absurd r q⟩

theorem why_zero_of {g : Gr} {e : Ent} {X : Ino} (hn : nameB e.name = true) (hd : kindG g e.dir = 1) (hx : getG g e.ino = some X) (hl : lookE g.E e.dir e.name = none)
  (hu : X.kind = 1→e.ino ≠ (0,0)∧underG g e.dir e.ino = false) (hf : ¬ (X.kind = 1∧0 < X.links∨6≤X.links)) : whyG (nameB e.name) g e = 0:=by
 obtain ⟨A,hA,hk⟩ : ∃ A,getG g e.dir = some A∧A.kind = 1:=by
  unfold kindG at hd
  cases hq : getG g e.dir with
  | none=>rw [hq] at hd; exact absurd hd (by decide)
  | some A=>exact ⟨A,rfl,by rw [hq] at hd; exact hd⟩
 have hk' : ¬ A.kind ≠ 1:=fun q=>q hk
 have hl' : ¬ (lookE g.E e.dir e.name).isSome = true:=by rw [hl]; simp
 have h8 : ¬ (X.kind = 1∧(e.ino = (0,0)∨underG g e.dir e.ino = true)):=by
  rintro ⟨q,r⟩
  obtain ⟨u1,u2⟩:=hu q
  rcases r with r | r
  ·exact u1 r
  ·rw [u2] at r; cases r
 unfold whyG
 rw [if_neg (by simp [hn])]
 simp only [hA,hx]
 rw [if_neg hk',if_neg hl',if_neg h8,if_neg hf]

theorem tie_I {g : Gr} {b : Bool} {e : Ent} : (tieG b g e).1.I = g.I:=by
 unfold tieG
 split <;> rfl

theorem Gr.ok.tieFine {g : Gr} (h : g.ok) (hn : ∀ e∈g.E,nameB e.name = true) (hb : ∀ x∈g.I,boundOk1 x) (e : Ent) (hh : ∀ x∈g.I,x.id ≠ (0,0)→x.id ≠ e.ino→1≤linksE g.E x.id) (hw : whyG (nameB e.name) g e = 0) : (tieG (nameB e.name) g e).1.fine:=by
 have hE : (tieG (nameB e.name) g e).1.E = putIn (fun a=>aheadE a e) g.E e:=by unfold tieG; rw [if_pos hw]
 refine ⟨h.tie _ e,names_tie hn e,?_,by rw [tie_I]; exact hb⟩
 intro x hx h0
 rw [tie_I] at hx
 rw [hE,linksE_put]
 by_cases q : x.id = e.ino
 ·rw [if_pos q.symm]; omega
 ·have:=hh x hx h0 q; omega

theorem set_mem {g : Gr} {id : St} {mode : Int} {data : ByteArray} {x : Ino} (h : x∈(setG g id mode data).1.I) : ∃ y∈g.I,x = if y.id = id then { y with mode:=mode,data:=data } else y:=by
 unfold setG at h
 cases hq : getG g id with
 | none =>
  rw [hq] at h
  exact ⟨x,h,by rw [if_neg (get_none hq x h)]⟩
 | some X =>
  rw [hq] at h
  obtain ⟨y,hy,rfl⟩:=List.mem_map.1 h
  exact ⟨y,hy,rfl⟩

theorem Gr.fine.set {g : Gr} (h : g.fine) (id : St) (mode : Int) (data : ByteArray) (hb : ∀ x∈g.I,x.id = id→boundOk1 { x with mode:=mode,data:=data }) : (setG g id mode data).1.fine:=by
 refine ⟨h.ok.set id mode data,by rw [set_ents]; exact h.names,?_,?_⟩
 ·rw [set_ents]
  intro x hx h0
  obtain ⟨y,hy,rfl⟩:=set_mem hx
  by_cases q : y.id = id
  ·rw [if_pos q] at h0 ⊢; exact h.held y hy h0
  ·rw [if_neg q] at h0 ⊢; exact h.held y hy h0
 ·intro x hx
  obtain ⟨y,hy,rfl⟩:=set_mem hx
  by_cases q : y.id = id
  ·rw [if_pos q]; exact hb y hy q
  ·rw [if_neg q]; exact h.bound y hy

theorem leads_end {g : Gr} {a d : St} (h : Leads g a d) : a = d∨∃ e∈g.E,e.dir = d:=by
 induction h with
 | here=>exact Or.inl rfl
 | up e d he _ _ ih =>
  rcases ih with ih | ih
  ·exact Or.inr ⟨e,he,ih⟩
  ·exact Or.inr ih

theorem makesW_zero {g : Gr} {o : Opn} (h : makesW g o = 0) : kindG g (oAt o) = 1∧lookE g.E (oAt o) o.name = none∧(o.k ≠ 4→kindG g (oSt o) = 0∧g.I.length < 40)∧(o.k = 4→kindG g (oIno o) ≠ 0∧kindG g (oIno o) ≠ 1∧linksG g (oIno o) < 6):=by
 unfold makesW at h
 by_cases c1 : kindG g (oAt o) = 0∨(o.k = 4∧kindG g (oIno o) = 0)
 ·rw [if_pos c1] at h; cases h
 rw [if_neg c1] at h
 by_cases c2 : kindG g (oAt o) ≠ 1
 ·rw [if_pos c2] at h; cases h
 rw [if_neg c2] at h
 by_cases c3 : o.k = 4∧kindG g (oIno o) = 1
 ·rw [if_pos c3] at h; cases h
 rw [if_neg c3] at h
 by_cases c4 : (lookE g.E (oAt o) o.name).isSome = true∨(o.k ≠ 4∧kindG g (oSt o) ≠ 0)
 ·rw [if_pos c4] at h; cases h
 rw [if_neg c4] at h
 by_cases c5 : o.k ≠ 4∧40≤g.I.length
 ·rw [if_pos c5] at h; cases h
 rw [if_neg c5] at h
 by_cases c6 : o.k = 4∧6≤linksG g (oIno o)
 ·rw [if_pos c6] at h; cases h
 refine ⟨by omega,?_,fun q=>⟨?_,?_⟩,fun q=>⟨?_,?_,?_⟩⟩
 ·cases hq : lookE g.E (oAt o) o.name with
  | none=>rfl
  | some _=>exact absurd (Or.inl (by rw [hq]; rfl)) c4
 ·exact Classical.byContradiction fun r=>c4 (Or.inr ⟨q,r⟩)
 ·exact Classical.byContradiction fun r=>c5 ⟨q,by omega⟩
 ·exact fun r=>c1 (Or.inr ⟨q,r⟩)
 ·exact fun r=>c3 ⟨q,r⟩
 ·exact Classical.byContradiction fun r=>c6 ⟨q,by omega⟩

theorem make_zero {g : Gr} (h : g.ok) {o : Opn} (hm : mayO o = true) (hk : o.k≤3) (hs : kindG g (oSt o) = 0) (hl : g.I.length < 40) :
  makeG g (oSt o) o.k = (⟨putIn (fun x=>lessS x.id (oSt o)) g.I ⟨oSt o,o.k,0,0,⟨#[]⟩⟩,g.E⟩,0):=by
 obtain ⟨h1,_,_,_,h5,_⟩:=mayO_parts hm
 have c1 : ¬ (mayB (oSt o).1 (oSt o).2 = false∨o.k < 1∨3 < o.k):=by
  rintro (q | q | q)
  ·rw [show mayB (oSt o).1 (oSt o).2 = true from h5] at q; cases q
  ·omega
  ·omega
 have c2 : ¬ (getG g (oSt o)).isSome = true:=by rw [getG_zero h hs]; simp
 unfold makeG
 rw [if_neg c1,if_neg c2,if_neg (by omega)]

def between (g : Gr) (o : Opn) : Gr:=(setG (makeG g (oSt o) o.k).1 (oSt o) 0 o.data).1

theorem between_get {g : Gr} (h : g.ok) {o : Opn} (hm : mayO o = true) (hk : o.k≤3) (hs : kindG g (oSt o) = 0) (hl : g.I.length < 40) (k : St) :
  getG (between g o) k = if k = oSt o then some ⟨oSt o,o.k,0,0,o.data⟩ else getG g k:=by
 have h0 : (makeG g (oSt o) o.k).2 = 0:=by rw [make_zero h hm hk hs hl]
 unfold between
 rw [set_get,make_get h h0]
 by_cases q : k = oSt o
 ·rw [if_pos q,if_pos q]; simp [q]
 ·rw [if_neg q,if_neg q]
  cases getG g k <;> simp [q]

theorem between_mem {g : Gr} (h : g.ok) {o : Opn} (hm : mayO o = true) (hk : o.k≤3) (hs : kindG g (oSt o) = 0) (hl : g.I.length < 40) {x : Ino} (hx : x∈(between g o).I) :
  x = ⟨oSt o,o.k,0,0,o.data⟩∨(x∈g.I∧x.id ≠ oSt o):=by
 unfold between at hx
 obtain ⟨y,hy,hxy⟩:=set_mem hx
 rw [make_zero h hm hk hs hl] at hy
 rcases putIn_mem.1 hy with q | q
 ·subst q
  rw [if_pos rfl] at hxy
  exact Or.inl hxy
 ·have:=kindG_zero h hs y q
  rw [if_neg this] at hxy
  exact Or.inr ⟨by rw [hxy]; exact q,by rw [hxy]; exact this⟩

theorem between_E (g : Gr) (o : Opn) : (between g o).E = g.E:=by
 unfold between
 rw [set_ents,make_ents]

theorem between_ok {g : Gr} (h : g.ok) (o : Opn) : (between g o).ok:=(h.make _ _).set _ _ _

theorem between_why {g : Gr} (h : g.ok) {o : Opn} (hm : mayO o = true) (hk : o.k≤3) (hw : makesW g o = 0) : whyG (nameB o.name) (between g o) ⟨oAt o,o.name,oSt o⟩ = 0:=by
 obtain ⟨w1,w2,w3,_⟩:=makesW_zero hw
 obtain ⟨hs,hl⟩:=w3 (by omega)
 obtain ⟨_,_,_,h4,_,h6,_⟩:=mayO_parts hm
 have hget:=between_get h hm hk hs hl
 have hne : oAt o ≠ oSt o:=fun q=>by rw [q,hs] at w1; cases w1
 refine why_zero_of (e:=⟨oAt o,o.name,oSt o⟩) (h6 (by omega)) ?_ (by rw [hget,if_pos rfl]) (by rw [between_E]; exact w2) (fun _=>⟨fun q=>h4 (congrArg Prod.fst q),?_⟩) (by dsimp only; omega)
 ·show kindG (between g o) (oAt o) = 1
  unfold kindG at w1 ⊢
  rw [hget,if_neg hne]
  exact w1
 ·rw [Bool.eq_false_iff]
  intro q
  rcases leads_end ((between_ok h o).leads.1 q) with r | ⟨e,he,r⟩
  ·exact hne r
  ·rw [between_E] at he
   obtain ⟨y,hy,hyi,_⟩:=h.dirs e he
   exact kindG_zero h hs y hy (hyi.trans r)

theorem makes_fine {g : Gr} (h : g.fine) {o : Opn} (hm : mayO o = true) (hk : o.k≤3) (hw : makesW g o = 0) : (tie1 (between g o) (oAt o) o.name (oSt o)).fine:=by
 obtain ⟨w1,w2,w3,_⟩:=makesW_zero hw
 obtain ⟨hs,hl⟩:=w3 (by omega)
 unfold tie1
 refine (between_ok h.ok o).tieFine (by rw [between_E]; exact h.names) (fun x hx=>?_) ⟨oAt o,o.name,oSt o⟩ (fun x hx h0 hne=>?_) (between_why h.ok hm hk hw)
 ·rcases between_mem h.ok hm hk hs hl hx with q | q
  ·rw [q]; exact made_bound hm hk
  ·exact h.bound x q.1
 ·rcases between_mem h.ok hm hk hs hl hx with q | q
  ·exact absurd (by rw [q]) hne
  ·rw [between_E]; exact h.held x q.1 h0

theorem link_why {g : Gr} (h : g.ok) {o : Opn} (hm : mayO o = true) (hk : o.k = 4) (hw : makesW g o = 0) : whyG (nameB o.name) g ⟨oAt o,o.name,oIno o⟩ = 0:=by
 obtain ⟨w1,w2,_,w4⟩:=makesW_zero hw
 obtain ⟨k0,k1,k6⟩:=w4 hk
 obtain ⟨_,_,_,_,_,h6,_⟩:=mayO_parts hm
 obtain ⟨X,hX⟩:=h.there k0
 have e1 : X.kind ≠ 1:=by unfold kindG at k1; rw [hX] at k1; exact k1
 have e2 : X.links < 6:=by unfold linksG at k6; rw [hX] at k6; exact k6
 exact why_zero_of (e:=⟨oAt o,o.name,oIno o⟩) (h6 (by omega)) w1 hX w2 (fun q=>absurd q e1) (by omega)

theorem link_fine {g : Gr} (h : g.fine) {o : Opn} (hm : mayO o = true) (hk : o.k = 4) (hw : makesW g o = 0) : (tie1 g (oAt o) o.name (oIno o)).fine :=
 h.ok.tieFine h.names h.bound ⟨oAt o,o.name,oIno o⟩ (fun x hx h0 _=>h.held x hx h0) (link_why h.ok hm hk hw)

def without (E : List Ent) (d : St) (nm : ByteArray) : List Ent:=E.filter fun e=>!(decide (e.dir = d) && decide (e.name = nm))

theorem untie_eq {g : Gr} {d : St} {nm : ByteArray} {id : St} (hl : lookE g.E d nm = some id) : untieG g d nm = (⟨g.I,without g.E d nm⟩,id,0):=by unfold untieG; rw [hl]; rfl

theorem links_without {g : Gr} (h : g.ok) {d : St} {nm : ByteArray} {id : St} (hl : lookE g.E d nm = some id) (k : St) : linksE (without g.E d nm) k = linksE g.E k - if k = id then 1 else 0:=by
 have:=untie_links h hl k
 change ((linksE (without g.E d nm) k : Nat) : Int) = _ at this
 by_cases q : k = id
 ·rw [if_pos q] at this ⊢; omega
 ·rw [if_neg q] at this ⊢; omega

theorem list_without {E : List Ent} {d : St} {nm : ByteArray} {id : St} (h : listE E id = []) : listE (without E d nm) id = []:=by
 unfold listE without at *
 rw [List.filter_eq_nil_iff] at h ⊢
 exact fun e he=>h e (List.mem_filter.1 he).1

theorem look_pos {g : Gr} (h : g.ok) {d : St} {nm : ByteArray} {id : St} (hl : lookE g.E d nm = some id) : 1≤linksE g.E id:=by
 unfold linksE
 exact List.length_pos_of_mem (List.mem_filter.2 ⟨(look_iff h).1 hl,by simp⟩)

theorem gone_eq {g : Gr} (h : g.ok) {d : St} {nm : ByteArray} {id : St} (hl : lookE g.E d nm = some id) (he : listE g.E id = []) :
  goneG g d nm = ⟨if linksE g.E id = 1 then g.I.filter (fun x=>!decide (x.id = id)) else g.I,without g.E d nm⟩:=by
 have hp:=look_pos h hl
 have hw:=links_without h hl id
 rw [if_pos rfl] at hw
 unfold goneG
 rw [untie_eq hl]
 dsimp only
 by_cases q : linksE g.E id = 1
 ·have h0 : linksE (without g.E d nm) id = 0:=by omega
  rw [if_pos h0,if_pos q]
  have hok : (⟨g.I,without g.E d nm⟩ : Gr).ok:=by have:=h.untie d nm; rwa [untie_eq hl] at this
  obtain ⟨x,hx,hxi⟩:=h.inos _ ((look_iff h).1 hl)
  have hg : getG ⟨g.I,without g.E d nm⟩ id = some { x with links:=(linksE (without g.E d nm) id : Int) }:=(get_iff hok).2 ⟨x,hx,hxi,rfl⟩
  have hr : ¬ id = (0,0):=h.noRoot _ ((look_iff h).1 hl)
  have hc : ¬ (0 < ((linksE (without g.E d nm) id : Nat) : Int)∨0 < (listE (without g.E d nm) id).length):=by
   rw [list_without he,h0]
   simp
  unfold dropG
  rw [hg]
  dsimp only
  rw [if_neg hr,if_neg hc]
 ·rw [if_neg q,if_neg (by omega)]

theorem Gr.fine.gone {g : Gr} (h : g.fine) {d : St} {nm : ByteArray} {id : St} (hl : lookE g.E d nm = some id) (he : listE g.E id = []) : (goneG g d nm).fine:=by
 have hok : (goneG g d nm).ok:=by
  unfold goneG
  split
  ·exact (h.ok.untie d nm).drop _
  ·exact h.ok.untie d nm
 have hp:=look_pos h.ok hl
 rw [gone_eq h.ok hl he] at hok ⊢
 have hsub : ∀ x,x∈(if linksE g.E id = 1 then g.I.filter (fun x=>!decide (x.id = id)) else g.I)→x∈g.I∧(linksE g.E id = 1→x.id ≠ id):=by
  intro x hx
  by_cases q : linksE g.E id = 1
  ·rw [if_pos q] at hx
   obtain ⟨h1,h2⟩:=List.mem_filter.1 hx
   exact ⟨h1,fun _=>by simpa using h2⟩
  ·rw [if_neg q] at hx
   exact ⟨hx,fun r=>absurd r q⟩
 refine ⟨hok,fun e he'=>h.names e (List.mem_filter.1 he').1,fun x hx h0=>?_,fun x hx=>h.bound x (hsub x hx).1⟩
 obtain ⟨hx1,hx2⟩:=hsub x hx
 show 1≤linksE (without g.E d nm) x.id
 rw [links_without h.ok hl]
 by_cases q : x.id = id
 ·rw [if_pos q,q]
  have : linksE g.E id ≠ 1:=fun r=>hx2 r q
  omega
 ·rw [if_neg q]
  exact h.held x hx1 h0

end Go.Proofs.YtdobeghbkonimaaGreatDoor.GraphMath

namespace Go.Proofs.YtdobeghbkonimaaGreatDoor.GraphMath
open StampMath OpMath ExtentMath

theorem renamesW_zero {g : Gr} {o : Opn} (h : renamesW g o = 0) : lookE g.E (oAt o) o.name = some (oIno o)∧kindG g (oTo o) = 1 ∧
  (targetG g o ≠ some (oIno o)→(kindG g (oIno o) = 1→underG g (oTo o) (oIno o) = false)∧∀ t,targetG g o = some t→(kindG g t = 1→kindG g (oIno o) = 1∧listE g.E t = [])∧(kindG g (oIno o) = 1→kindG g t = 1)):=by
 unfold renamesW at h
 by_cases c1 : lookE g.E (oAt o) o.name ≠ some (oIno o)∨kindG g (oTo o) = 0
 ·rw [if_pos c1] at h; cases h
 rw [if_neg c1] at h
 by_cases c2 : kindG g (oTo o) ≠ 1
 ·rw [if_pos c2] at h; cases h
 rw [if_neg c2] at h
 refine ⟨Classical.byContradiction fun q=>c1 (Or.inl q),by omega,fun hne=>?_⟩
 rw [if_neg hne] at h
 by_cases c4 : kindG g (oIno o) = 1∧underG g (oTo o) (oIno o) = true
 ·rw [if_pos c4] at h; cases h
 rw [if_neg c4] at h
 by_cases c5 : ((targetG g o).isSome = true∧kindG g ((targetG g o).getD (0,0)) = 1)∧kindG g (oIno o) ≠ 1
 ·rw [if_pos c5] at h; cases h
 rw [if_neg c5] at h
 by_cases c6 : (targetG g o).isSome = true∧kindG g (oIno o) = 1∧¬ ((targetG g o).isSome = true∧kindG g ((targetG g o).getD (0,0)) = 1)
 ·rw [if_pos c6] at h; cases h
 rw [if_neg c6] at h
 by_cases c7 : ((targetG g o).isSome = true∧kindG g ((targetG g o).getD (0,0)) = 1)∧0 < (listE g.E ((targetG g o).getD (0,0))).length
 ·rw [if_pos c7] at h; cases h
 refine ⟨fun q=>?_,fun t ht=>?_⟩
 ·rw [Bool.eq_false_iff]
  exact fun r=>c4 ⟨q,r⟩
 ·rw [ht] at c5 c6 c7
  refine ⟨fun q=>⟨?_,?_⟩,fun q=>?_⟩
  ·exact Classical.byContradiction fun r=>c5 ⟨⟨rfl,q⟩,r⟩
  ·have : ¬ 0 < (listE g.E t).length:=fun r=>c7 ⟨⟨rfl,q⟩,r⟩
   exact List.length_eq_zero_iff.1 (by omega)
  ·exact Classical.byContradiction fun r=>c6 ⟨rfl,q,fun s=>r s.2⟩

theorem leads_mono {g g' : Gr} (hE : ∀ e∈g'.E,e∈g.E) (hD : ∀ d,g'.isDir d→g.isDir d) {a b : St} (h : Leads g' a b) : Leads g a b:=by
 induction h with
 | here=>exact Leads.here _
 | up e d he hd _ ih=>exact Leads.up e d (hE e he) (hD _ hd) ih

def cleared (g : Gr) (o : Opn) : Gr:=if (targetG g o).isSome then goneG g (oTo o) o.new else g

theorem mem_without {E : List Ent} {d : St} {nm : ByteArray} {e : Ent} : e∈without E d nm ↔ e∈E∧¬ (e.dir = d∧e.name = nm):=by
 unfold without
 rw [List.mem_filter]
 refine and_congr_right fun _=>?_
 rw [Bool.not_eq_true',Bool.and_eq_false_iff,decide_eq_false_iff_not,decide_eq_false_iff_not]
 by_cases a : e.dir = d
 ·simp [a]
 ·simp [a]

theorem Gr.ok.not_self {g : Gr} (h : g.ok) {e : Ent} (he : e∈g.E) : e.dir ≠ e.ino:=fun q=>by
 obtain ⟨f,hf⟩:=h.rank
 have hd:=h.dirs e he
 have:=hf e he (by rw [← q]; exact hd)
 rw [q] at this
 omega

structure Cleared (g : Gr) (o : Opn) (c : Gr) : Prop where
 fine : c.fine
 ents : c.E = without g.E (oTo o) o.new
 sub : ∀ x∈c.I,x∈g.I
 stays : ∀ x∈g.I,targetG g o ≠ some x.id→x∈c.I

theorem cleared_is {g : Gr} (h : g.fine) {o : Opn} (ht : ∀ t,targetG g o = some t→listE g.E t = []) : Cleared g o (cleared g o):=by
 unfold cleared
 cases hq : targetG g o with
 | none =>
  rw [if_neg (by simp)]
  refine ⟨h,?_,fun x hx=>hx,fun x hx _=>hx⟩
  unfold without
  rw [filter_all (look_none hq)]
 | some t =>
  rw [if_pos (show (some t).isSome = true from rfl)]
  have hl:=ht t hq
  refine ⟨h.gone hq hl,by rw [gone_eq h.ok hq hl],fun x hx=>?_,fun x hx hne=>?_⟩
  ·rw [gone_eq h.ok hq hl] at hx
   dsimp only at hx
   split at hx
   ·exact (List.mem_filter.1 hx).1
   ·exact hx
  ·rw [gone_eq h.ok hq hl]
   dsimp only
   have hxt : x.id ≠ t:=fun q=>hne (by rw [q]; exact hq)
   split
   ·exact List.mem_filter.2 ⟨hx,by simpa using hxt⟩
   ·exact hx

def loosed (g : Gr) (o : Opn) : Gr:=(untieG (cleared g o) (oAt o) o.name).1

structure Loosed (g : Gr) (o : Opn) (c : Gr) : Prop where
 ok : c.ok
 names : ∀ e∈c.E,nameB e.name = true
 bound : ∀ x∈c.I,boundOk1 x
 held : ∀ x∈c.I,x.id ≠ (0,0)→x.id ≠ oIno o→1≤linksE c.E x.id
 why : whyG (nameB o.new) c ⟨oTo o,o.new,oIno o⟩ = 0
 ents : c.E = without (without g.E (oTo o) o.new) (oAt o) o.name
 inos : c.I = (cleared g o).I
 other : targetG g o ≠ some (oTo o)
 apart : ¬ (oAt o = oTo o∧o.name = o.new)

theorem rename_lists {g : Gr} (h : g.ok) {o : Opn} (hw : renamesW g o = 0) (hne : targetG g o ≠ some (oIno o)) : ∀ t,targetG g o = some t→listE g.E t = []:=by
 intro t ht
 obtain ⟨_,_,w3⟩:=renamesW_zero hw
 by_cases q : kindG g t = 1
 ·exact (((w3 hne).2 t ht).1 q).2
 ·unfold listE
  rw [List.filter_eq_nil_iff]
  intro e he
  have hd:=h.kindDir (h.dirs e he)
  simp only [decide_eq_true_eq]
  exact fun r=>q (by rw [← r]; exact hd)

theorem loosed_is {g : Gr} (h : g.fine) {o : Opn} (hm : mayO o = true) (hk : o.k = 7) (hw : renamesW g o = 0) (hne : targetG g o ≠ some (oIno o)) : Loosed g o (loosed g o):=by
 obtain ⟨w1,w2,w3⟩:=renamesW_zero hw
 obtain ⟨w4,w5⟩:=w3 hne
 have hc:=cleared_is h (rename_lists h.ok hw hne)
 have hmem : (⟨oAt o,o.name,oIno o⟩ : Ent)∈g.E:=(look_iff h.ok).1 w1
 have hpl : ¬ (oAt o = oTo o∧o.name = o.new):=fun q=>hne (by unfold targetG; rw [← q.1,← q.2]; exact w1)
 have hlook : lookE (cleared g o).E (oAt o) o.name = some (oIno o):=by
  rw [look_iff hc.fine.ok,hc.ents,mem_without]
  exact ⟨hmem,hpl⟩
 have hto : targetG g o ≠ some (oTo o):=fun q=>by
  have:=h.ok.not_self ((look_iff h.ok).1 q)
  exact this rfl
 obtain ⟨T,hT,hTi,hTk⟩:=kindG_dir w2
 obtain ⟨X,hX,hXi'⟩:=h.ok.inos _ hmem
 have hXi : X.id = oIno o:=hXi'
 have hTc:=hc.stays T hT (by rw [hTi]; exact hto)
 have hXc:=hc.stays X hX (by rw [hXi]; exact hne)
 have e2 : loosed g o = ⟨(cleared g o).I,without (cleared g o).E (oAt o) o.name⟩:=by unfold loosed; rw [untie_eq hlook]
 have hok : (loosed g o).ok:=hc.fine.ok.untie _ _
 have hlk:=links_without hc.fine.ok hlook (oIno o)
 rw [if_pos rfl] at hlk
 have hxk : kindG g (oIno o) = X.kind:=by rw [← hXi,h.ok.kindG hX]
 refine ⟨hok,?_,?_,?_,?_,?_,by rw [e2],hto,hpl⟩
 ·rw [e2]; exact fun e he=>hc.fine.names e (mem_without.1 he).1
 ·rw [e2]; exact hc.fine.bound
 ·rw [e2]
  intro x hx h0 hx1
  show 1≤linksE (without (cleared g o).E (oAt o) o.name) x.id
  rw [links_without hc.fine.ok hlook,if_neg hx1]
  exact hc.fine.held x hx h0
 ·refine why_zero_of (X:={ X with links:=(linksE (loosed g o).E (oIno o) : Int) }) (e:=⟨oTo o,o.new,oIno o⟩) ((mayO_parts hm).2.2.2.2.2.2.1 hk) ?_ ((get_iff hok).2 ⟨X,by rw [e2]; exact hXc,hXi,rfl⟩) ?_ (fun q=>⟨h.ok.noRoot ⟨oAt o,o.name,oIno o⟩ hmem,?_⟩) ?_
  ·show kindG (loosed g o) (oTo o) = 1
   rw [← hTi,hok.kindG (by rw [e2]; exact hTc),hTk]
  ·show lookE (loosed g o).E (oTo o) o.new = none
   rw [e2]
   dsimp only
   rw [hc.ents]
   unfold lookE
   rw [List.find?_eq_none.2]
   ·rfl
   ·intro e he
    have:=(mem_without.1 (mem_without.1 he).1).2
    simpa using this
  ·show underG (loosed g o) (oTo o) (oIno o) = false
   rw [Bool.eq_false_iff]
   intro r
   have hlg:=hok.leads.1 r
   have hlg2 : Leads g (oTo o) (oIno o):=leads_mono (fun e he=>by
    rw [e2] at he
    have:=(mem_without.1 he).1
    rw [hc.ents] at this
    exact (mem_without.1 this).1) (fun d hd=>by
    obtain ⟨y,hy,hy1,hy2⟩:=hd
    rw [e2] at hy
    exact ⟨y,hc.sub y hy,hy1,hy2⟩) hlg
   have:=w4 (by rw [hxk]; exact q)
   rw [h.ok.leads.2 hlg2] at this
   cases this
  ·dsimp only
   have h6:=hc.fine.ok.six (oIno o)
   have e3 : linksE (loosed g o).E (oIno o) = linksE (cleared g o).E (oIno o) - 1:=by rw [e2]; exact hlk
   have h1 : X.kind = 1→linksE (cleared g o).E (oIno o)≤1:=fun q=>hc.fine.ok.one _ ⟨X,hXc,hXi,q⟩
   rintro (⟨q,r⟩ | q)
   ·have:=h1 q; omega
   ·have:=look_pos hc.fine.ok hlook; omega
 ·rw [e2]
  dsimp only
  rw [hc.ents]

theorem rename_fine {g : Gr} (h : g.fine) {o : Opn} (hm : mayO o = true) (hk : o.k = 7) (hw : renamesW g o = 0) (hne : targetG g o ≠ some (oIno o)) : (tie1 (loosed g o) (oTo o) o.new (oIno o)).fine:=by
 have hl:=loosed_is h hm hk hw hne
 exact hl.ok.tieFine hl.names hl.bound ⟨oTo o,o.new,oIno o⟩ hl.held hl.why

theorem bytes_size (l : List UInt8) : (bytes l).size = l.length:=rfl

theorem data_len (d : ByteArray) : d.data.toList.length = d.size:=by simp

theorem whyA_rest {g : Gr} {o : Opn} (h : whyA g o = 0) (h4 : 4 < o.k) (h7 : o.k ≠ 7) : (o.k≤6→lookE g.E (oAt o) o.name = some (oIno o))∧kindG g (oIno o) ≠ 0∧(o.k = 5∨o.k = 8∨o.k = 9→kindG g (oIno o) ≠ 1)∧(o.k = 6→kindG g (oIno o) = 1∧listE g.E (oIno o) = [])∧(o.k = 8∨o.k = 9→kindG g (oIno o) ≠ 3):=by
 unfold whyA at h
 by_cases c0 : mayO o = false
 ·rw [if_pos c0] at h; cases h
 rw [if_neg c0,if_neg (by omega),if_neg h7] at h
 by_cases c1 : (o.k≤6∧lookE g.E (oAt o) o.name ≠ some (oIno o))∨kindG g (oIno o) = 0
 ·rw [if_pos c1] at h; cases h
 rw [if_neg c1] at h
 by_cases c2 : (o.k = 5∨o.k = 8∨o.k = 9)∧kindG g (oIno o) = 1
 ·rw [if_pos c2] at h; cases h
 rw [if_neg c2] at h
 by_cases c3 : o.k = 6∧kindG g (oIno o) ≠ 1
 ·rw [if_pos c3] at h; cases h
 rw [if_neg c3] at h
 by_cases c4 : o.k = 6∧0 < (listE g.E (oIno o)).length
 ·rw [if_pos c4] at h; cases h
 rw [if_neg c4] at h
 by_cases c5 : (o.k = 8∨o.k = 9)∧kindG g (oIno o) = 3
 ·rw [if_pos c5] at h; cases h
 refine ⟨fun q=>Classical.byContradiction fun r=>c1 (Or.inl ⟨q,r⟩),fun q=>c1 (Or.inr q),fun q r=>c2 ⟨q,r⟩,fun q=>⟨Classical.byContradiction fun r=>c3 ⟨q,r⟩,List.length_eq_zero_iff.1 (Nat.eq_zero_of_not_pos fun r=>c4 ⟨q,r⟩)⟩,fun q r=>c5 ⟨q,r⟩⟩

theorem whyA_may {g : Gr} {o : Opn} (h : whyA g o = 0) : mayO o = true:=by
 unfold whyA at h
 cases hq : mayO o with
 | true=>rfl
 | false=>rw [if_pos hq] at h; cases h

theorem whyA_makes {g : Gr} {o : Opn} (h : whyA g o = 0) (h4 : o.k≤4) : makesW g o = 0:=by
 have hm:=whyA_may h
 unfold whyA at h
 rwa [if_neg (by rw [hm]; simp),if_pos h4] at h

theorem whyA_renames {g : Gr} {o : Opn} (h : whyA g o = 0) (h7 : o.k = 7) : renamesW g o = 0:=by
 have hm:=whyA_may h
 unfold whyA at h
 rwa [if_neg (by rw [hm]; simp),if_neg (by omega),if_pos h7] at h

theorem Gr.ok.list_none {g : Gr} (h : g.ok) {id : St} (hk : GraphMath.kindG g id ≠ 1) : listE g.E id = []:=by
 unfold listE
 rw [List.filter_eq_nil_iff]
 intro e he
 have hd:=h.kindDir (h.dirs e he)
 simp only [decide_eq_true_eq]
 exact fun r=>hk (by rw [← r]; exact hd)

theorem Gr.fine.made {g : Gr} (h : g.fine) {o : Opn} (hw : whyA g o = 0) : (madeA g o).fine:=by
 have hm:=whyA_may hw
 obtain ⟨p1,p2,p3,_,_,_,_,p8⟩:=mayO_parts hm
 unfold madeA
 by_cases k3 : o.k≤3
 ·rw [if_pos k3]
  exact makes_fine h hm k3 (whyA_makes hw (by omega))
 rw [if_neg k3]
 by_cases k4 : o.k = 4
 ·rw [if_pos k4]
  exact link_fine h hm k4 (whyA_makes hw (by omega))
 rw [if_neg k4]
 by_cases k6 : o.k≤6
 ·rw [if_pos k6]
  obtain ⟨r1,r2,r3,r4,_⟩:=whyA_rest hw (by omega) (by omega)
  refine h.gone (r1 k6) ?_
  by_cases q : o.k = 6
  ·exact (r4 q).2
  ·exact h.ok.list_none (r3 (Or.inl (by omega)))
 rw [if_neg k6]
 by_cases k7 : o.k = 7
 ·rw [if_pos k7]
  by_cases ht : targetG g o = some (oIno o)
  ·rw [if_pos ht]; exact h
  ·rw [if_neg ht]
   exact rename_fine h hm k7 (whyA_renames hw k7) ht
 rw [if_neg k7]
 obtain ⟨_,r2,r3,_,r5⟩:=whyA_rest hw (by omega) k7
 have hino : ∀ x∈g.I,x.id = oIno o→inoG g (oIno o) = { x with links:=(linksE g.E x.id : Int) }∧kindG g (oIno o) = x.kind:=fun x hx e=>by
  unfold inoG
  rw [← e,h.ok.get hx,h.ok.kindG hx]
  exact ⟨rfl,rfl⟩
 unfold dataB at p8
 by_cases k8 : o.k = 8
 ·rw [if_pos k8]
  rw [if_neg (by omega),if_pos k8] at p8
  simp only [Bool.and_eq_true,decide_eq_true_iff] at p8
  refine h.set _ _ _ fun x hx e=>?_
  obtain ⟨e1,e2⟩:=hino x hx e
  have hb:=h.bound x hx
  have hk:=h.ok.kinds x hx
  have:=r3 (Or.inr (Or.inl k8))
  have:=r5 (Or.inl k8)
  have hk2 : x.kind = 2:=by omega
  unfold boundOk1 at hb ⊢
  rw [e1]
  dsimp only
  refine ⟨hb.1,hb.2.1,fun q=>by omega,fun _=>?_,fun q=>by omega⟩
  rw [bytes_size,wL_len,data_len,data_len]
  have:=hb.2.2.2.1 hk2
  omega
 rw [if_neg k8]
 by_cases k9 : o.k = 9
 ·rw [if_pos k9]
  rw [if_neg (by omega),if_neg k8,if_pos k9] at p8
  simp only [Bool.and_eq_true,decide_eq_true_iff] at p8
  refine h.set _ _ _ fun x hx e=>?_
  obtain ⟨e1,e2⟩:=hino x hx e
  have hb:=h.bound x hx
  have hk:=h.ok.kinds x hx
  have:=r3 (Or.inr (Or.inr k9))
  have:=r5 (Or.inr k9)
  have hk2 : x.kind = 2:=by omega
  unfold boundOk1 at hb ⊢
  rw [e1]
  dsimp only
  refine ⟨hb.1,hb.2.1,fun q=>by omega,fun _=>?_,fun q=>by omega⟩
  rw [bytes_size]
  unfold tL
  rw [bld_len]
  omega
 ·rw [if_neg k9]
  rw [if_neg (by omega),if_neg k8,if_neg k9,if_pos (by omega)] at p8
  simp only [Bool.and_eq_true,decide_eq_true_iff] at p8
  refine h.set _ _ _ fun x hx e=>?_
  obtain ⟨e1,e2⟩:=hino x hx e
  have hb:=h.bound x hx
  unfold boundOk1 at hb ⊢
  rw [e1]
  dsimp only
  exact ⟨p8.1,p8.2,hb.2.2⟩

theorem Gr.fine.does {g : Gr} (h : g.fine) (o : Opn) : (doA g o).1.fine:=by
 unfold doA
 by_cases q : whyA g o = 0
 ·rw [if_pos q]; exact h.made q
 ·rw [if_neg q]; exact h

end Go.Proofs.YtdobeghbkonimaaGreatDoor.GraphMath

namespace Go.Proofs.YtdobeghbkonimaaGreatDoor.GraphMath
open StampMath OpMath ExtentMath

theorem sorted_same {α : Type} {r : α→α→Bool} (irr : ∀ x,r x x = false) (tr : ∀ x y z,r x y = true→r y z = true→r x z = true) :
  ∀ {l m : List α},l.Pairwise (fun a b=>r a b = true)→m.Pairwise (fun a b=>r a b = true)→(∀ x,x∈l ↔ x∈m)→l = m
 | [],[],_,_,_=>rfl
 | [],b :: m,_,_,h=>absurd ((h b).2 (List.mem_cons_self ..)) (by simp)
 | a :: l,[],_,_,h=>absurd ((h a).1 (List.mem_cons_self ..)) (by simp)
 | a :: l,b :: m,hl,hm,h=>by
  obtain ⟨hl1,hl2⟩:=List.pairwise_cons.1 hl
  obtain ⟨hm1,hm2⟩:=List.pairwise_cons.1 hm
  have hab : a = b:=by
   rcases List.mem_cons.1 ((h a).1 (List.mem_cons_self ..)) with q | q
   ·exact q
   rcases List.mem_cons.1 ((h b).2 (List.mem_cons_self ..)) with q2 | q2
   ·exact q2.symm
   have:=tr _ _ _ (hm1 a q) (hl1 b q2)
   rw [irr] at this
   cases this
  subst hab
  have ha : a ∉ l:=fun q=>by have:=hl1 a q; rw [irr] at this; cases this
  have hb : a ∉ m:=fun q=>by have:=hm1 a q; rw [irr] at this; cases this
  rw [sorted_same irr tr hl2 hm2 fun x=>⟨fun q=>?_,fun q=>?_⟩]
  ·rcases List.mem_cons.1 ((h x).1 (List.mem_cons_of_mem _ q)) with e | e
   ·subst e; exact absurd q ha
   ·exact e
  ·rcases List.mem_cons.1 ((h x).2 (List.mem_cons_of_mem _ q)) with e | e
   ·subst e; exact absurd q hb
   ·exact e

def setM (x : Ino) (o : Opn) : Int:=if o.k = 10 then o.off else x.mode
def setD (x : Ino) (o : Opn) : ByteArray:=if o.k = 8 then bytes (wL x.data.data.toList o.data.data.toList o.off.toNat) else if o.k = 9 then bytes (tL x.data.data.toList o.off.toNat) else x.data

end Go.Proofs.YtdobeghbkonimaaGreatDoor.GraphMath

namespace Go.Proofs.YtdobeghbkonimaaGreatDoor
open Go.RowKit StampMath GraphMath OpMath PackMath

structure OpFit (o : Opn) : Prop where
 ok : Ok64 o
 name : o.name.size≤maxLen
 new : o.new.size≤maxLen
 data : o.data.size≤maxLen

def OpsIn (W : World) (B : Nat) (A : Option Addr) (n : Nat) (l : List Opn) : Prop:=TabIn 13 W B A n (l.map opA)

theorem OpsIn.len {W : World} {B : Nat} {A : Option Addr} {n : Nat} {l : List Opn} (h : OpsIn W B A n l) : l.length = n:=by have:=h.1; rwa [List.length_map] at this

def OpAt (W : World) (g p : Nat) (o : Opn) : Prop :=
 W.cell? ⟨g,p,none⟩ = some (.int .i64 o.st)∧W.cell? ⟨g,p + 1,none⟩ = some (.int .i64 o.sr)∧W.cell? ⟨g,p + 2,none⟩ = some (.int .i64 o.k)∧W.cell? ⟨g,p + 3,none⟩ = some (.int .i64 o.pt)∧W.cell? ⟨g,p + 4,none⟩ = some (.int .i64 o.pr) ∧
 W.cell? ⟨g,p + 5,none⟩ = some (.int .i64 o.it)∧W.cell? ⟨g,p + 6,none⟩ = some (.int .i64 o.ir)∧W.cell? ⟨g,p + 7,none⟩ = some (.int .i64 o.tt)∧W.cell? ⟨g,p + 8,none⟩ = some (.int .i64 o.tr) ∧
 W.cell? ⟨g,p + 9,none⟩ = some (.string o.name)∧W.cell? ⟨g,p + 10,none⟩ = some (.string o.new)∧W.cell? ⟨g,p + 11,none⟩ = some (.int .i64 o.off)∧W.cell? ⟨g,p + 12,none⟩ = some (.string o.data)

theorem OpsIn.row {W : World} {B : Nat} {A : Option Addr} {n : Nat} {l : List Opn} (h : OpsIn W B A n l) (hn : 0 < n) : ∃ g o,A = some ⟨g,o,none⟩∧g < B∧∀ k (hk : k < l.length),OpAt W g (o + k * 13) l[k]:=by
 obtain ⟨g,o,e,hg,hc⟩:=h.2 hn
 refine ⟨g,o,e,hg,fun k hk=>?_⟩
 have hk' : k < (l.map opA).length:=by simpa using hk
 have he : (l.map opA)[k] = opA l[k]:=by simp
 exact ⟨hc k hk' 0 _ (by rw [he]; rfl),hc k hk' 1 _ (by rw [he]; rfl),hc k hk' 2 _ (by rw [he]; rfl),hc k hk' 3 _ (by rw [he]; rfl),hc k hk' 4 _ (by rw [he]; rfl),hc k hk' 5 _ (by rw [he]; rfl),hc k hk' 6 _ (by rw [he]; rfl),hc k hk' 7 _ (by rw [he]; rfl),hc k hk' 8 _ (by rw [he]; rfl),hc k hk' 9 _ (by rw [he]; rfl),hc k hk' 10 _ (by rw [he]; rfl),hc k hk' 11 _ (by rw [he]; rfl),hc k hk' 12 _ (by rw [he]; rfl)⟩

theorem OpAt.below {W W' : World} {B g p : Nat} {o : Opn} (h : OpAt W g p o) (hb : Below B W W') (hg : g < B) : OpAt W' g p o:=by
 obtain ⟨h0,h1,h2,h3,h4,h5,h6,h7,h8,h9,h10,h11,h12⟩:=h
 have c : ∀ (i : Nat) (v : Value),W.cell? ⟨g,i,none⟩ = some v→W'.cell? ⟨g,i,none⟩ = some v:=fun i v q=>(hb.cell (p:=⟨g,i,none⟩) hg).trans q
 exact ⟨c _ _ h0,c _ _ h1,c _ _ h2,c _ _ h3,c _ _ h4,c _ _ h5,c _ _ h6,c _ _ h7,c _ _ h8,c _ _ h9,c _ _ h10,c _ _ h11,c _ _ h12⟩

end Go.Proofs.YtdobeghbkonimaaGreatDoor

namespace Go.Proofs.YtdobeghbkonimaaGreatDoor
open Go.RowKit StampMath GraphMath OpMath

structure Given (w : World) (A : Option Addr) (n : Nat) (N : List Ino) (A' : Option Addr) (m : Nat) (E : List Ent) : Prop where
 inos : InosIn w w.heap.size A n N
 ents : EntsIn w w.heap.size A' m E
 fewI : n≤1000
 fewE : m≤1000
 datas : ∀ x∈N,x.data.size≤maxLen
 names : ∀ e∈E,e.name.size≤maxLen

theorem Given.below {w W : World} {A : Option Addr} {n : Nat} {N : List Ino} {A' : Option Addr} {m : Nat} {E : List Ent} (h : Given w A n N A' m E) (hb : Below w.heap.size w W) : Given W A n N A' m E :=
 ⟨(h.inos.below hb).more hb.size,(h.ents.below hb).more hb.size,h.fewI,h.fewE,h.datas,h.names⟩

end Go.Proofs.YtdobeghbkonimaaGreatDoor

namespace Go.Proofs.YtdobeghbkonimaaGreatDoor
open Go.RowKit

open Classical in
noncomputable def later (w x : World) : World:=if Below w.heap.size w x then x else w

theorem later_below (w x : World) : Below w.heap.size w (later w x):=by
 unfold later
 split
 ·assumption
 ·exact Below.refl _ _

theorem later_of {w x : World} (h : Below w.heap.size w x) : later w x = x:=by
 unfold later
 rw [if_pos h]

theorem later_cell {w : World} {a : Addr} {v : Value} (h : w.cell? a = some v) (x : World) : (later w x).cell? a = some v:=cell_later (later_below w x) h

theorem wp_region_later {P : Program} {id : Nat} {Q : Exit→Act→World→Prop} {a : Act} {w : World} {l : List Oper} (hm : P.follows .mixedOrders = true) (hB : Region.lexB .any l.toArray = true)
  (h : wpQuiet P l.toArray (fun w'=>∃ x,w' = later w x) (fun a'=>∀ w',(∃ x,w' = later w x)→Q .normal a' w') l a) : (Code.region id l.toArray true).wp P Q a w :=
 wp_region_quiet (C:=fun w'=>∃ x,w' = later w x) hm hB ⟨w.drew,(later_of (Below.refl _ _).drew).symm⟩ (by simpa using h)

theorem later_call {P : Program} {f : FuncId} {args : Array Value} {w x : World} {v : Value} (h : Calls P f args (later w x) fun e w'=>e = .returned v∧Below (later w x).heap.size (later w x) w') :
  Calls P f args (later w x) fun e w''=>e = .returned v∧∃ y,w'' = later w y :=
 h.mono fun _ w' ⟨he,hb⟩=>⟨he,w',(later_of (below_step (later_below w x) hb)).symm⟩

end Go.Proofs.YtdobeghbkonimaaGreatDoor

namespace Go.Proofs.YtdobeghbkonimaaGreatDoor
open Go.RowKit

def Held (w : World) (L : List (Nat × Obj)) (W : World) : Prop:=(∀ p∈L,W.heap[p.1]? = some p.2)∧Below w.heap.size w W

theorem Held.refl (w : World) : Held w [] w:=⟨fun _ h=>(by cases h),Below.refl _ _⟩

theorem Held.below {w W : World} {L : List (Nat × Obj)} (h : Held w L W) : Below w.heap.size w W:=h.2

theorem Held.step {w W W' : World} {L : List (Nat × Obj)} (h : Held w L W) (hb : Below W.heap.size W W') : Held w L W' :=
 ⟨fun p hp=>(hb.block _ (heap_lt (h.1 p hp))).trans (h.1 p hp),below_step h.2 hb⟩

theorem Held.alloc {w W : World} {L : List (Nat × Obj)} (h : Held w L W) (o : Obj) {g : Nat} (hg : W.heap.size = g) : Held w ((g,o) :: L) (W.alloc o):=by
 refine ⟨fun p hp=>?_,h.2.alloc h.2.size o⟩
 rcases List.mem_cons.1 hp with rfl | hp
 ·subst hg; exact heap_alloc_new W o
 ·rw [heap_alloc_old _ _ (heap_lt (h.1 p hp))]; exact h.1 p hp

theorem Held.drewN {w W : World} {L : List (Nat × Obj)} (h : Held w L W) (n : Nat) : Held w L (W.drewN n):=⟨h.1,below_drewN' h.2 n⟩

theorem Held.drew {w W : World} {L : List (Nat × Obj)} (h : Held w L W) : Held w L W.drew:=⟨h.1,h.2.drew⟩

theorem Held.head {w W : World} {L : List (Nat × Obj)} {p : Nat × Obj} (h : Held w (p :: L) W) : W.heap[p.1]? = some p.2:=h.1 p (List.mem_cons_self ..)

theorem Held.tail {w W : World} {L : List (Nat × Obj)} {p : Nat × Obj} (h : Held w (p :: L) W) : Held w L W:=⟨fun q hq=>h.1 q (List.mem_cons_of_mem _ hq),h.2⟩

theorem Held.at {w W : World} {L : List (Nat × Obj)} (h : Held w L W) (i : Nat) {p : Nat × Obj} (hp : L[i]? = some p) : W.heap[p.1]? = some p.2:=h.1 p (List.mem_of_getElem? hp)

theorem Held.set {w W : World} {L : List (Nat × Obj)} (h : Held w L W) {b : Nat} (hL : ∀ p∈L,p.1 < b) (hw : w.heap.size≤b) (i : Nat) (v : Value) : Held w L (W.setCell ⟨b,i,none⟩ v) :=
 ⟨fun p hp=>(heap_setCell_other _ _ _ _ (by have:=hL p hp; dsimp only; omega)).trans (h.1 p hp),h.2.setCell hw v⟩

theorem Held.grown {w W W' : World} {L : List (Nat × Obj)} {row : Option Nat} {B : Nat} (h : Held w L W) (hg : W.grownBy W' row) (hB : ∀ q,row = some q→B≤q) (hL : ∀ p∈L,p.1 < B) (hw : w.heap.size≤B:=by simp) : Held w L W' :=
 ⟨fun p hp=>(hg.block p.1 (heap_lt (h.1 p hp)) fun e=>by have h1:=hB _ e.symm; have h2:=hL p hp; omega).trans (h.1 p hp),h.2.grown hg h.2.size fun q hq=>Nat.le_trans hw (hB q hq)⟩

end Go.Proofs.YtdobeghbkonimaaGreatDoor

namespace Go.Proofs.YtdobeghbkonimaaGreatDoor
open Go.RowKit

def tabL : List Int:=[0,9,9,73,11,11,11,31,98,34,34]

class Tab (W : World) : Prop where
 cells : Hid (∀ (i : Nat) (x : Int),tabL[i]? = some x→W.cell? ⟨0,i,none⟩ = some (.int .i64 x))

theorem Tab.at {W : World} (T : Tab W) (i : Nat) {x : Int} (h : tabL[i]? = some x) : W.cell? ⟨0,i,none⟩ = some (.int .i64 x):=T.cells.out i x h

theorem tab_below {B : Nat} {W W' : World} (T : Tab W) (hB : W.heap.size≤B) (h : Below B W W') : Tab W' :=
 ⟨Lib.hid fun i _ hx=>(h.cell (p:=⟨0,i,none⟩) (Nat.lt_of_lt_of_le (World.block_lt_of_cell? _ _ (T.at i hx)) hB)).trans (T.at i hx)⟩

theorem tab_step {W W' : World} [T : Tab W] (h : Below W.heap.size W W') : Tab W':=tab_below T (Nat.le_refl _) h

instance tabAlloc {W : World} [T : Tab W] (o : Obj) : Tab (W.alloc o):=tab_step ((Below.refl _ W).alloc (Nat.le_refl _) o)

instance tabDrew {W : World} [T : Tab W] : Tab W.drew:=tab_step ((Below.refl _ W).drew)

instance tabDrewN {W : World} [T : Tab W] (n : Nat) : Tab (W.drewN n):=tab_step (below_drewN' (Below.refl _ W) n)

instance tabLater {w : World} [T : Tab w] (x : World) : Tab (later w x):=tab_step (later_below w x)

end Go.Proofs.YtdobeghbkonimaaGreatDoor

namespace Go.Proofs.YtdobeghbkonimaaGreatDoor
open Go.RowKit StampMath GraphMath OpMath PackMath ExtentMath

structure ApplyHave (H : GraphHave) : Prop where
 why : ∀ (a : Addr) (S : Nat→Prop) (g : Gr) (o : Opn) (w : World) [Tab w],H.rep w S a g→g.fine→OpFit o→Calls Tryz.prog 32 #[.pointer (some a),.agg (opA o)] w fun e w'=>e = .returned (.int .i64 (whyA g o))∧Below w.heap.size w w'
 does : ∀ (a : Addr) (S : Nat→Prop) (g : Gr) (o : Opn) (w : World) [Tab w],H.rep w S a g→¬ S 0→g.fine→OpFit o→Calls Tryz.prog 33 #[.pointer (some a),.agg (opA o)] w fun e w'=>∃ S',e = .returned (.int .i64 (doA g o).2)∧H.rep w' S' a (doA g o).1∧(∀ i,S' i→S i∨w.heap.size≤i)∧But S w w'
 nilDo : ∀ (o : Opn) (w : World) [Tab w],OpFit o→Calls Tryz.prog 33 #[.pointer none,.agg (opA o)] w fun e w'=>e = .returned (.int .i64 1)∧Below w.heap.size w w'
 may : ∀ (o : Opn) (w : World) [Tab w],OpFit o→Calls Tryz.prog 37 #[.agg (opA o)] w fun e w'=>e = .returned (.bool (mayO o))∧Below w.heap.size w w'
 makes : ∀ (o : Opn) (w : World) [Tab w],OpFit o→Calls Tryz.prog 162 #[.agg (opA o)] w fun e w'=>e = .returned (.int .i64 (makesO o))∧Below w.heap.size w w'
 fine : ∀ (A : Option Addr) (n c : Nat) (N : List Ino) (A' : Option Addr) (m d : Nat) (E : List Ent) (w : World),Given w A n N A' m E →
  Calls Tryz.prog 30 #[.slice A n c,.slice A' m d] w fun e w'=>∃ b : Bool,e = .returned (.bool b)∧(b = true ↔ fineP N E)∧Below w.heap.size w w'

theorem Tab.lt {w : World} (T : Tab w) : 0 < w.heap.size:=World.block_lt_of_cell? _ _ (T.at 0 (x:=0) rfl)

theorem GX.tab {H : GraphHave} {w W : World} {N : Nat→Prop} {a : Addr} {g : Gr} (h : GX H w W N a g) (T : Tab w) : Tab W:=tab_below T (Nat.le_refl _) h.below

structure FX (H : GraphHave) (w W : World) (N : Nat→Prop) (a : Addr) (g : Gr) : Prop where
 gx : GX H w W N a g
 fine : g.fine

theorem FX.step {H : GraphHave} {w W W' : World} {N : Nat→Prop} {a : Addr} {g : Gr} (h : FX H w W N a g) (hb : Below W.heap.size W W') : FX H w W' N a g:=⟨h.gx.step hb,h.fine⟩

theorem FX.below {H : GraphHave} {w W : World} {N : Nat→Prop} {a : Addr} {g : Gr} (h : FX H w W N a g) : Below w.heap.size w W:=h.gx.below

theorem FX.does {H : GraphHave} (P : ApplyHave H) {w W : World} {N : Nat→Prop} {a : Addr} {g : Gr} (h : FX H w W N a g) (T : Tab w) (o : Opn) (ho : OpFit o) :
  Calls Tryz.prog 33 #[.pointer (some a),.agg (opA o)] W fun e w'=>e = .returned (.int .i64 (doA g o).2)∧FX H w w' N a (doA g o).1∧Same N W w':=by
 have:=h.gx.tab T
 have hf:=h.fine
 obtain ⟨⟨⟨S,h1,h2,h3⟩,h4,h5,h6⟩,_⟩:=h
 refine (P.does a S g o W h1 (fun q=>by have:=h2 _ q; have:=T.lt; omega) hf ho).mono ?_
 rintro e w' ⟨S',he,k1,k2,k3⟩
 have r:=GX.mut h2 h3 h5 h6 k1 k2 k3 (hf.does o).ok
 exact ⟨he,⟨r.1,hf.does o⟩,r.2⟩

end Go.Proofs.YtdobeghbkonimaaGreatDoor

namespace Go.Proofs.YtdobeghbkonimaaGreatDoor
open StampMath GraphMath OpMath

def runG (g : Gr) (l : List Opn) : Gr:=l.foldl (fun g o=>(doA g o).1) g
def runA (l : List Opn) : Gr:=runG newG l

theorem runG_next (g : Gr) {l : List Opn} {k : Nat} (h : k < l.length) : runG g (l.take (k + 1)) = (doA (runG g (l.take k)) l[k]).1:=by
 unfold runG
 rw [List.take_succ_eq_append_getElem h,List.foldl_append]
 rfl

theorem runG_fine {g : Gr} (h : g.fine) : ∀ l : List Opn,(runG g l).fine
 | []=>h
 | o :: l=>runG_fine (h.does o) l

theorem runA_fine (l : List Opn) : (runA l).fine:=runG_fine new_fine l

end Go.Proofs.YtdobeghbkonimaaGreatDoor

namespace Go.Proofs.YtdobeghbkonimaaGreatDoor.GraphMath
open StampMath OpMath ExtentMath

def beforeO (s : St) (a : Opn) : Bool:=lessS (oSt a) s

def Rises (x : List Opn) : Prop:=x.Pairwise fun a b=>lessS (oSt a) (oSt b) = true

def hasO (x : List Opn) (s : St) : Bool:=x.any fun b=>decide (oSt b = s)

def placeO (x : List Opn) (s : St) : Nat:=(x.takeWhile (beforeO s)).length

def putO (x : List Opn) (o : Opn) : List Opn × Nat × Bool :=
 if mayO o = false then (x,0,false)
 else if hasO x (oSt o) = true then (x,placeO x (oSt o),false)
 else (putIn (beforeO (oSt o)) x o,placeO x (oSt o),true)

def putsO (x l : List Opn) : List Opn:=l.foldl (fun x o=>(putO x o).1) x

def sortO (l : List Opn) : List Opn:=putsO [] l

def belowO (x : List Opn) (s : St) : Nat:=(x.takeWhile fun a=>!lessS s (oSt a)).length

theorem hasO_iff {x : List Opn} {s : St} : hasO x s = true ↔ ∃ b∈x,oSt b = s:=by
 unfold hasO
 rw [List.any_eq_true]
 simp only [decide_eq_true_iff]

theorem Rises.one {x : List Opn} (h : Rises x) {a b : Opn} (ha : a∈x) (hb : b∈x) (e : oSt a = oSt b) : a = b:=by
 obtain ⟨i,hi,rfl⟩:=List.getElem_of_mem ha
 obtain ⟨j,hj,rfl⟩:=List.getElem_of_mem hb
 rcases Nat.lt_trichotomy i j with q | q | q
 ·have:=List.pairwise_iff_getElem.1 h i j hi hj q
  rw [e,lessS_irrefl] at this
  cases this
 ·subst q; rfl
 ·have:=List.pairwise_iff_getElem.1 h j i hj hi q
  rw [e,lessS_irrefl] at this
  cases this

theorem put_mem {x : List Opn} {o a : Opn} : a∈(putO x o).1 ↔ a∈x∨(a = o∧mayO o = true∧hasO x (oSt o) = false):=by
 unfold putO
 by_cases hm : mayO o = false
 ·rw [if_pos hm,hm]; simp
 rw [if_neg hm]
 have hm' : mayO o = true:=by cases h : mayO o <;> simp_all
 by_cases hh : hasO x (oSt o) = true
 ·rw [if_pos hh,hh]; simp
 rw [if_neg hh]
 have hh' : hasO x (oSt o) = false:=by cases h : hasO x (oSt o) <;> simp_all
 rw [hm',hh']
 show a∈putIn _ x o ↔ _
 rw [putIn_mem]
 constructor
 ·rintro (q | q)
  ·exact Or.inr ⟨q,rfl,rfl⟩
  ·exact Or.inl q
 ·rintro (q | ⟨q,_⟩)
  ·exact Or.inr q
  ·exact Or.inl q

theorem put_rises {x : List Opn} (h : Rises x) (o : Opn) : Rises (putO x o).1:=by
 unfold putO
 by_cases hm : mayO o = false
 ·rw [if_pos hm]; exact h
 rw [if_neg hm]
 by_cases hh : hasO x (oSt o) = true
 ·rw [if_pos hh]; exact h
 rw [if_neg hh]
 refine putIn_sorted (r:=fun a b : Opn=>lessS (oSt a) (oSt b)) (fun p q=>lessS_trans p q) (fun a ha q=>lessS_total q fun e=>hh (hasO_iff.2 ⟨a,ha,e⟩)) h

theorem put_may {x : List Opn} (h : ∀ a∈x,mayO a = true) (o : Opn) : ∀ a∈(putO x o).1,mayO a = true:=by
 intro a ha
 rcases put_mem.1 ha with q | ⟨rfl,q,_⟩
 ·exact h a q
 ·exact q

theorem puts_snoc (x : List Opn) {l : List Opn} {k : Nat} (h : k < l.length) : putsO x (l.take (k + 1)) = (putO (putsO x (l.take k)) l[k]).1:=by
 unfold putsO
 rw [List.take_succ_eq_append_getElem h,List.foldl_append]
 rfl

theorem puts_rises : ∀ (l : List Opn) {x : List Opn},Rises x→Rises (putsO x l)
 | [],_,h=>h
 | o :: l,_,h=>puts_rises l (put_rises h o)

theorem puts_may : ∀ (l : List Opn) {x : List Opn},(∀ a∈x,mayO a = true)→∀ a∈putsO x l,mayO a = true
 | [],_,h=>h
 | o :: l,_,h=>puts_may l (put_may h o)

theorem puts_sub : ∀ (l : List Opn) {x : List Opn},∀ a∈putsO x l,a∈x∨a∈l
 | [],_,_,h=>Or.inl h
 | o :: l,x,a,h=>by
  rcases puts_sub l a h with q | q
  ·rcases put_mem.1 q with r | ⟨rfl,_⟩
   ·exact Or.inl r
   ·exact Or.inr (List.mem_cons_self ..)
  ·exact Or.inr (List.mem_cons_of_mem _ q)

theorem put_len (x : List Opn) (o : Opn) : (putO x o).1.length≤x.length + 1:=by
 unfold putO
 split
 ·exact Nat.le_succ _
 ·split
  ·exact Nat.le_succ _
  ·exact Nat.le_of_eq (putIn_len _ _ _)

theorem puts_len : ∀ (l x : List Opn),(putsO x l).length≤x.length + l.length
 | [],_=>Nat.le_refl _
 | o :: l,x=>by
  have h1:=puts_len l (putO x o).1
  have h2:=put_len x o
  show (putsO (putO x o).1 l).length≤_
  rw [List.length_cons]
  omega

theorem sort_rises (l : List Opn) : Rises (sortO l):=puts_rises l List.Pairwise.nil
theorem sort_may (l : List Opn) : ∀ a∈sortO l,mayO a = true:=puts_may l fun _ h=>nomatch h
theorem sort_sub {l : List Opn} : ∀ a∈sortO l,a∈l:=fun a h=>(puts_sub l a h).resolve_left fun q=>nomatch q
theorem sort_len (l : List Opn) : (sortO l).length≤l.length:=by have:=puts_len l []; simpa [sortO] using this

theorem rises_same {x y : List Opn} (hx : Rises x) (hy : Rises y) (h : ∀ a,a∈x ↔ a∈y) : x = y :=
 sorted_same (r:=fun a b : Opn=>lessS (oSt a) (oSt b)) (fun _=>lessS_irrefl _) (fun _ _ _=>lessS_trans) hx hy h

theorem take_len {α : Type} (f : α→Bool) (x : List α) : x.take (x.takeWhile f).length = x.takeWhile f:=by
 have h:=List.takeWhile_prefix f (l:=x)
 exact (List.prefix_iff_eq_take.1 h).symm

theorem drop_len {α : Type} (f : α→Bool) (x : List α) : x.drop (x.takeWhile f).length = x.dropWhile f:=by
 have h:=List.takeWhile_append_dropWhile (p:=f) (l:=x)
 have h2:=congrArg (List.drop (x.takeWhile f).length) h
 rw [List.drop_left] at h2
 exact h2.symm

theorem place_le (x : List Opn) (s : St) : placeO x s≤x.length:=(List.takeWhile_prefix _).length_le
theorem below_le (x : List Opn) (s : St) : belowO x s≤x.length:=(List.takeWhile_prefix _).length_le

theorem while_at {α : Type} (f : α→Bool) (x : List α) : (∀ i (h : i < x.length),i < (x.takeWhile f).length→f x[i] = true)∧(∀ h : (x.takeWhile f).length < x.length,f x[(x.takeWhile f).length] = false):=by
 constructor
 ·intro i h hi
  have hp:=List.takeWhile_prefix f (l:=x)
  have e : (x.takeWhile f)[i] = x[i]:=hp.getElem hi
  rw [← e]
  exact all_take (List.getElem_mem hi)
 ·intro h
  have e:=drop_len f x
  have h0:=List.head?_dropWhile_not f x
  rw [← e] at h0
  rw [List.head?_drop,List.getElem?_eq_getElem h] at h0
  simpa using h0

theorem while_is {α : Type} {f : α→Bool} {x : List α} {k : Nat} (hk : k≤x.length) (h1 : ∀ i (h : i < x.length),i < k→f x[i] = true) (h2 : ∀ h : k < x.length,f x[k] = false) : (x.takeWhile f).length = k:=by
 obtain ⟨w1,w2⟩:=while_at f x
 have hl:=(List.takeWhile_prefix f (l:=x)).length_le
 rcases Nat.lt_trichotomy (x.takeWhile f).length k with q | q | q
 ·have hx : (x.takeWhile f).length < x.length:=by omega
  have:=w2 hx
  rw [h1 _ hx q] at this
  cases this
 ·exact q
 ·have hx : k < x.length:=by omega
  have:=w1 k hx q
  rw [h2 hx] at this
  cases this

theorem place_has {x : List Opn} (h : Rises x) {s : St} : hasO x s = true ↔ ∃ hp : placeO x s < x.length,oSt (x[placeO x s]) = s:=by
 rw [hasO_iff]
 constructor
 ·rintro ⟨b,hb,rfl⟩
  obtain ⟨i,hi,rfl⟩:=List.getElem_of_mem hb
  have : placeO x (oSt x[i]) = i:=while_is (Nat.le_of_lt hi) (fun j hj hji=>List.pairwise_iff_getElem.1 h j i hj hi hji) (fun _=>lessS_irrefl _)
  exact ⟨by rw [this]; exact hi,by congr 2⟩
 ·rintro ⟨hp,e⟩
  exact ⟨_,List.getElem_mem hp,e⟩

theorem putIn_place {x : List Opn} {o : Opn} : putIn (beforeO (oSt o)) x o = x.take (placeO x (oSt o)) ++ o :: x.drop (placeO x (oSt o)):=by
 unfold putIn placeO
 rw [take_len,drop_len]

theorem lessS_le {a b : St} (h : lessS a b = true) : lessS b a = false:=by
 rw [Bool.eq_false_iff]
 intro q
 have:=lessS_trans h q
 rw [lessS_irrefl] at this
 cases this

theorem below_own {x : List Opn} (h : Rises x) {i : Nat} (hi : i < x.length) : belowO x (oSt x[i]) = i + 1:=by
 refine while_is (by omega) (fun j hj hji=>?_) fun hj=>?_
 ·rw [Bool.not_eq_true']
  by_cases q : j = i
  ·subst q; exact lessS_irrefl _
  ·exact lessS_le (List.pairwise_iff_getElem.1 h j i hj hi (by omega))
 ·rw [Bool.not_eq_false']
  exact List.pairwise_iff_getElem.1 h i (i + 1) hi hj (by omega)

def doneO : Gr→List Opn→List Opn
 | _,[]=>[]
 | g,o :: l=>if (doA g o).2 = 0 then o :: doneO (doA g o).1 l else doneO (doA g o).1 l

def distO : List Opn→List Opn→List Opn
 | _,[]=>[]
 | p,o :: l=>if hasO p (oSt o) = true then distO (p ++ [o]) l else o :: distO (p ++ [o]) l

end Go.Proofs.YtdobeghbkonimaaGreatDoor.GraphMath

namespace Go.Proofs.YtdobeghbkonimaaGreatDoor
open Go.RowKit StampMath GraphMath OpMath PackMath

def OpsPost (x : List Opn) (w : World) (e : Ending) (w' : World) : Prop :=
 ∃ (A : Option Addr) (c : Nat),e = .returned (.slice A x.length c)∧OpsIn w' w'.heap.size A x.length x∧x.length≤c∧c≤maxLen∧(A = none→c = 0)∧Below w.heap.size w w'

structure FoldHave (H : GraphHave) : Prop where
 sort : ∀ (A : Option Addr) (n c : Nat) (l : List Opn) (w : World) [Tab w],n≤1000→(∀ o∈l,OpFit o)→OpsIn w w.heap.size A n l→Calls Tryz.prog 12 #[.slice A n c] w (OpsPost (sortO l) w)
 put : ∀ (A : Option Addr) (n c : Nat) (x : List Opn) (o : Opn) (w : World) [Tab w],n≤1000→n≤c→c≤maxLen→(A = none→c = 0)→(∀ o∈x,OpFit o)→OpFit o→Rises x→OpsIn w w.heap.size A n x →
  Calls Tryz.prog 13 #[.slice A n c,.agg (opA o)] w fun e w'=>∃ (B : Option Addr) (k : Nat),e = .returned (.tuple #[.slice B (putO x o).1.length k,.int .i64 ((putO x o).2.1 : Int),.bool (putO x o).2.2])∧OpsIn w' w'.heap.size B (putO x o).1.length (putO x o).1∧(putO x o).1.length≤k∧k≤maxLen∧(B = none→k = 0)∧Below w.heap.size w w'
 below : ∀ (A : Option Addr) (n c : Nat) (x : List Opn) (s : St) (w : World),n≤1000→Rises x→OpsIn w w.heap.size A n x→Calls Tryz.prog 21 #[.slice A n c,.agg (stA s)] w fun e w'=>e = .returned (.int .i64 (belowO x s : Int))∧Below w.heap.size w w'
 of : ∀ (A : Option Addr) (n c : Nat) (l : List Opn) (w : World) [Tab w],n≤1000→(∀ o∈l,OpFit o)→OpsIn w w.heap.size A n l→Calls Tryz.prog 16 #[.slice A n c] w fun e w'=>∃ b T,e = .returned (.pointer (some b))∧H.rep w' T b (runA (sortO l))∧(∀ i,T i→w.heap.size≤i)∧Below w.heap.size w w'
 on : ∀ (a : Addr) (S : Nat→Prop) (g : Gr) (A : Option Addr) (n c : Nat) (l : List Opn) (w : World) [Tab w],H.rep w S a g→¬ S 0→g.fine→n≤1000→(∀ o∈l,OpFit o)→OpsIn w w.heap.size A n l→Calls Tryz.prog 18 #[.pointer (some a),.slice A n c] w fun e w'=>∃ b T,e = .returned (.pointer (some b))∧H.rep w' T b (runG g (sortO l))∧(∀ i,T i→w.heap.size≤i)∧Below w.heap.size w w'
 nilOn : ∀ (A : Option Addr) (n c : Nat) (l : List Opn) (w : World) [Tab w],n≤1000→(∀ o∈l,OpFit o)→OpsIn w w.heap.size A n l→Calls Tryz.prog 18 #[.pointer none,.slice A n c] w fun e w'=>e = .returned (.pointer none)∧Below w.heap.size w w'

theorem FX.of {H : GraphHave} (P : FoldHave H) (A : Option Addr) (n c : Nat) (l : List Opn) (w : World) (T : Tab w) (hn : n≤1000) (hl : ∀ o∈l,OpFit o) (h : OpsIn w w.heap.size A n l) :
  Calls Tryz.prog 16 #[.slice A n c] w fun e w'=>∃ a,e = .returned (.pointer (some a))∧FX H w w' (fun _=>False) a (runA (sortO l))∧Below w.heap.size w w':=by
 refine (P.of A n c l w hn hl h).mono ?_
 rintro e w' ⟨b,S,he,h1,h2,hb⟩
 exact ⟨b,he,⟨⟨⟨S,h1,h2,fun _ h=>h.elim⟩,(runA_fine _).ok,fun _ h=>h.elim,hb⟩,runA_fine _⟩,hb⟩

theorem FX.on {H : GraphHave} (P : FoldHave H) {w W : World} {N : Nat→Prop} {a : Addr} {g : Gr} (h : FX H w W N a g) (T : Tab w) (A : Option Addr) (n c : Nat) (l : List Opn) (hn : n≤1000) (hl : ∀ o∈l,OpFit o) (hi : OpsIn W W.heap.size A n l) :
  Calls Tryz.prog 18 #[.pointer (some a),.slice A n c] W fun e w'=>∃ b,e = .returned (.pointer (some b))∧FX H W w' (fun _=>False) b (runG g (sortO l))∧Below W.heap.size W w':=by
 have:=h.gx.tab T
 obtain ⟨S,h1,h2,_⟩:=h.gx.at'
 refine (P.on a S g A n c l W h1 (fun q=>by have:=h2 _ q; have:=T.lt; omega) h.fine hn hl hi).mono ?_
 rintro e w' ⟨b,S',he,k1,k2,hb⟩
 exact ⟨b,he,⟨⟨⟨S',k1,k2,fun _ h=>h.elim⟩,(runG_fine h.fine _).ok,fun _ h=>h.elim,hb⟩,runG_fine h.fine _⟩,hb⟩

end Go.Proofs.YtdobeghbkonimaaGreatDoor

namespace Go.Proofs.YtdobeghbkonimaaGreatDoor
open Go.RowKit StampMath GraphMath OpMath PackMath

theorem op_infos : (Tryz.prog.info? 26).map (fun i=>(i.zero,i.size,i.bytes)) = some (some (.agg #[.int .i64 0,.int .i64 0,.int .i64 0,.int .i64 0,.int .i64 0,.int .i64 0,.int .i64 0,.int .i64 0,.int .i64 0,.string ⟨#[]⟩,.string ⟨#[]⟩,.int .i64 0,.string ⟨#[]⟩]),13,128):=by kernel_rfl

theorem op_cells1 (o : Opn) : ∀ u∈(opA o).toList,u.oneCell' = true:=by
 intro u hu
 simp [opA] at hu
 rcases hu with rfl | rfl | rfl | rfl | rfl | rfl | rfl | rfl | rfl | rfl | rfl | rfl | rfl <;> rfl

theorem op_rows (Y : List Opn) : (∀ r∈Y.map opA,r.size = 13)∧∀ r∈Y.map opA,∀ u∈r.toList,u.oneCell' = true :=
 ⟨fun r hr=>by obtain ⟨e,_,rfl⟩:=List.mem_map.1 hr; rfl,fun r hr=>by obtain ⟨e,_,rfl⟩:=List.mem_map.1 hr; exact op_cells1 e⟩

theorem ops_own {W : World} {base : Nat} {v : Value} {n : Nat} {l : List Opn} (hn : l.length = n) (h : W.ownsRow base 26 13 v n (flat (l.map opA))) :
  ∃ (A : Option Addr) (c : Nat),v = .slice A n c∧OpsIn W W.heap.size A n l∧n≤c∧c≤maxLen∧(A = Option.none→c = 0) :=
 tab_own (k:=13) (fun r hr=>by obtain ⟨e,_,rfl⟩:=List.mem_map.1 hr; rfl) (by simpa using hn) h

theorem flat_op (l : List Opn) (o : Opn) : flat (l.map opA) ++ (opA o).toList = flat ((l ++ [o]).map opA):=by simp [flat]

theorem ops_take {W : World} {B : Nat} {A : Option Addr} {n : Nat} {l : List Opn} (h : OpsIn W B A n l) {k : Nat} (hk : k≤n) : OpsIn W B A k (l.take k):=by
 refine ⟨by rw [List.length_map,List.length_take]; have:=h.len; omega,fun hp=>?_⟩
 obtain ⟨g,o,e,hg,hc⟩:=h.2 (by omega)
 refine ⟨g,o,e,hg,fun j hj i v hv=>?_⟩
 have hj' : j < (l.map opA).length:=by
  rw [List.length_map,List.length_take] at hj
  rw [List.length_map]
  omega
 refine hc j hj' i v ?_
 rw [← hv]
 congr 1
 simp

theorem ops_drop {W : World} {B g o n : Nat} {l : List Opn} (h : OpsIn W B (some ⟨g,o,none⟩) n l) {k : Nat} (hk : k≤n) : OpsIn W B (some ⟨g,o + k * 13,none⟩) (n - k) (l.drop k):=by
 have:=TabIn.drop (k:=13) h hk
 rwa [← List.map_drop] at this

theorem ops_none {W : World} {B : Nat} (A : Option Addr) : OpsIn W B A 0 []:=⟨rfl,fun h=>absurd h (Nat.lt_irrefl 0)⟩

theorem tab_of_cells {k : Nat} {W : World} {g : Nat} {cs : Array Value} {T : TypeId} {rows : List (Array Value)} (hk : ∀ r∈rows,r.size = k) (hg : W.heap[g]? = some (.cells cs T (0,0))) (hc : cs.toList = flat rows) : TabIn k W W.heap.size (some ⟨g,0,none⟩) rows.length rows:=by
 refine ⟨rfl,fun _=>⟨g,0,rfl,heap_lt hg,fun j hj i v hv=>?_⟩⟩
 have hi : i < k:=by
  have:=(Array.getElem?_eq_some_iff.1 hv).1
  rw [hk _ (List.getElem_mem hj)] at this
  exact this
 have e : cs[j * k + i]? = some v:=by
  rw [← Array.getElem?_toList,hc,flat_at hk j hj i hi]
  exact hv
 rw [Nat.zero_add,cell_of_row _ _ (j * k + i) _ _ (0,0) hg]
 exact e

theorem ops_of_cells {W : World} {g : Nat} {cs : Array Value} {T : TypeId} {l : List Opn} (hg : W.heap[g]? = some (.cells cs T (0,0))) (hc : cs.toList = flat (l.map opA)) : OpsIn W W.heap.size (some ⟨g,0,none⟩) l.length l:=by
 have:=tab_of_cells (rows:=l.map opA) (k:=13) (op_rows l).1 hg hc
 rwa [List.length_map] at this

end Go.Proofs.YtdobeghbkonimaaGreatDoor

namespace Go.Proofs.YtdobeghbkonimaaGreatDoor
open StampMath GraphMath

theorem ents_few : ∀ (ids : List St) (E : List Ent),(∀ e∈E,e.ino∈ids)→(∀ id,linksE E id≤6)→E.length≤6 * ids.length
 | [],E,h,_=>by
  cases E with
  | nil=>simp
  | cons e l=>exact absurd (h e (List.mem_cons_self ..)) (by simp)
 | d :: ids,E,h,h6=>by
  have h1 : (E.filter fun e=>decide (e.ino = d)).length≤6:=h6 d
  have h2:=ents_few ids (E.filter fun e=>!decide (e.ino = d)) (fun e he=>by
   have hm:=List.mem_filter.1 he
   have hne : ¬ e.ino = d:=by simpa using hm.2
   rcases List.mem_cons.1 (h e hm.1) with q | q
   ·exact absurd q hne
   ·exact q) (fun id=>by
   refine Nat.le_trans ?_ (h6 id)
   unfold linksE
   exact (List.filter_sublist.filter _).length_le)
  have h3 : ∀ l : List Ent,l.length = (l.filter fun e=>decide (e.ino = d)).length + (l.filter fun e=>!decide (e.ino = d)).length:=by
   intro l
   induction l with
   | nil=>rfl
   | cons e l ih =>
    by_cases q : e.ino = d
    ·simp [q]; omega
    ·simp [q]; omega
  rw [h3 E,List.length_cons]
  omega

theorem GraphMath.Gr.ok.entsFew {g : Gr} (h : g.ok) : g.E.length≤240:=by
 have h1:=ents_few (g.I.map fun x=>x.id) g.E (fun e he=>by
  obtain ⟨x,hx,e1⟩:=h.inos e he
  exact List.mem_map.2 ⟨x,hx,e1⟩) h.six
 rw [List.length_map] at h1
 have:=h.few
 omega

end Go.Proofs.YtdobeghbkonimaaGreatDoor

namespace Go.Proofs.YtdobeghbkonimaaGreatDoor
open Go.RowKit StampMath GraphMath OpMath

theorem inos_later {W W' : World} {A : Option Addr} {n : Nat} {I : List Ino} (h : InosIn W W.heap.size A n I) (hb : Below W.heap.size W W') : InosIn W' W'.heap.size A n I:=(h.below hb).more hb.size
theorem ents_later {W W' : World} {A : Option Addr} {n : Nat} {E : List Ent} (h : EntsIn W W.heap.size A n E) (hb : Below W.heap.size W W') : EntsIn W' W'.heap.size A n E:=(h.below hb).more hb.size

theorem told_inos (H : GraphHave) {w : World} {S : Nat→Prop} {a : Addr} {g : Gr} (h : H.rep w S a g) (hg : g.ok) {W : World} (hW : Below w.heap.size w W) : Calls Tryz.prog 24 #[.pointer (some a)] W (InosPost (inodesG g) W):=by
 refine (H.inodes a S g W (H.keep h fun i hi=>hW.block i (H.lt h i hi)) hg).mono ?_
 rintro e w' ⟨v,rfl,hown,hb⟩
 obtain ⟨B,c,rfl,q1,q2,q3⟩:=inos_own rfl hown
 exact ⟨B,c,rfl,q1,q2,q3.1,q3.2,hb⟩

theorem told_ents (H : GraphHave) {w : World} {S : Nat→Prop} {a : Addr} {g : Gr} (h : H.rep w S a g) (hg : g.ok) {W : World} (hW : Below w.heap.size w W) : Calls Tryz.prog 27 #[.pointer (some a)] W (EntsPost g.E W):=by
 refine (H.entries a S g W (H.keep h fun i hi=>hW.block i (H.lt h i hi)) hg).mono ?_
 rintro e w' ⟨v,rfl,hown,hb⟩
 obtain ⟨B,c,rfl,q1,q2,q3⟩:=ents_own rfl hown
 exact ⟨B,c,rfl,q1,q2,q3.1,q3.2,hb⟩

end Go.Proofs.YtdobeghbkonimaaGreatDoor

namespace Go.Proofs.YtdobeghbkonimaaGreatDoor
open Go.RowKit StampMath GraphMath OpMath PackMath

def fhA : Opn:=⟨2,1,2,0,0,0,0,0,0,⟨#[102]⟩,⟨#[]⟩,0,⟨#[]⟩⟩
def fhB : Opn:=⟨2,0,1,0,0,0,0,0,0,⟨#[102]⟩,⟨#[]⟩,0,⟨#[]⟩⟩

set_option maxRecDepth 100000 in
theorem fh_ops : lookE (runA (sortO [fhA,fhB])).E (0,0) ⟨#[102]⟩ = some (2,0)∧(inodesG (runA (sortO [fhA,fhB]))).length = 2:=by decide +kernel

theorem fh_fit : ∀ o∈[fhA,fhB],OpFit o:=by
 intro o ho
 rcases List.mem_cons.1 ho with rfl | ho
 ·exact ⟨by constructor <;> simp [fhA,IsI64],by decide,by decide,by decide⟩
 ·rw [List.mem_singleton.1 ho]
  exact ⟨by constructor <;> simp [fhB,IsI64],by decide,by decide,by decide⟩

set_option maxRecDepth 100000 in
set_option maxHeartbeats 1600000 in
theorem FoldHave.shown {H : GraphHave} (P : FoldHave H) (w : World) (T : Tab w) :
  Calls Tryz.prog 10 #[] w fun e w'=>e = .returned (.bool true)∧Below w.heap.size w w':=by
 have HR:=Lib.hid fh_ops
 obtain ⟨u,hu⟩ : ∃ u,u = w.heap.size:=⟨_,rfl⟩
 have hH0 : Held w [(u + 1,.cells (opA fhB) 26),(u,.cells (opA fhA) 26)] ((w.alloc (.cells (opA fhA) 26)).alloc (.cells (opA fhB) 26)) :=
  ((Held.refl w).alloc (.cells (opA fhA) 26) hu.symm).alloc (.cells (opA fhB) 26) (by simp [hu])
 have H0:=Lib.hid hH0
 clear hH0
 go_enter Tryz.func10,Tryz.ntmps10
 go_upto_region 3 with fail
 rw [← hu]
 change Code.wp _ _ _ _ ((w.alloc (.cells (opA fhA) 26)).alloc (.cells (opA fhB) 26))
 generalize (w.alloc (.cells (opA fhA) 26)).alloc (.cells (opA fhB) 26) = w1 at H0 ⊢
 clear hu
 obtain ⟨a0,a1,a2,a3,a4,a5,a6,a7,a8,a9,a10,a11,a12⟩:=op_cells (o:=fhA) (g:=u) (H0.out.at 1 rfl)
 obtain ⟨b0,b1,b2,b3,b4,b5,b6,b7,b8,b9,b10,b11,b12⟩:=op_cells (o:=fhB) (g:=u + 1) (H0.out.at 0 rfl)
 unfold fhA at a0 a1 a2 a3 a4 a5 a6 a7 a8 a9 a10 a11 a12
 unfold fhB at b0 b1 b2 b3 b4 b5 b6 b7 b8 b9 b10 b11 b12
 dsimp only at a0 a1 a2 a3 a4 a5 a6 a7 a8 a9 a10 a11 a12 b0 b1 b2 b3 b4 b5 b6 b7 b8 b9 b10 b11 b12
 have HB1:=Lib.hid H0.out.below
 have h3 : Below w1.heap.size w1 (w1.alloc (.cells #[.int .i64 2,.int .i64 1,.int .i64 2,.int .i64 0,.int .i64 0,.int .i64 0,.int .i64 0,.int .i64 0,.int .i64 0,.string ⟨#[102]⟩,.string ⟨#[]⟩,.int .i64 0,.string ⟨#[]⟩,.int .i64 2,.int .i64 0,.int .i64 1,.int .i64 0,.int .i64 0,.int .i64 0,.int .i64 0,.int .i64 0,.int .i64 0,.string ⟨#[102]⟩,.string ⟨#[]⟩,.int .i64 0,.string ⟨#[]⟩] 26)):=(Below.refl _ _).alloc (Nat.le_refl _) _
 have B3:=Lib.hid (heap_alloc_new w1 (.cells #[.int .i64 2,.int .i64 1,.int .i64 2,.int .i64 0,.int .i64 0,.int .i64 0,.int .i64 0,.int .i64 0,.int .i64 0,.string ⟨#[102]⟩,.string ⟨#[]⟩,.int .i64 0,.string ⟨#[]⟩,.int .i64 2,.int .i64 0,.int .i64 1,.int .i64 0,.int .i64 0,.int .i64 0,.int .i64 0,.int .i64 0,.int .i64 0,.string ⟨#[102]⟩,.string ⟨#[]⟩,.int .i64 0,.string ⟨#[]⟩] 26))
 have O3:=Lib.hid (ops_of_cells (l:=[fhA,fhB]) B3.out rfl)
 clear B3
 have T1:=Lib.hid (tab_below T (Nat.le_refl _) HB1.out)
 have S3:=Lib.hid h3
 obtain ⟨g3,hg3⟩ : ∃ g,g = w1.heap.size:=⟨_,rfl⟩
 go_wp2_with fail
 clear a0 a1 a2 a3 a4 a5 a6 a7 a8 a9 a10 a11 a12 h3
 rw [← hg3] at O3 ⊢
 generalize w1.alloc (.cells #[.int .i64 2,.int .i64 1,.int .i64 2,.int .i64 0,.int .i64 0,.int .i64 0,.int .i64 0,.int .i64 0,.int .i64 0,.string ⟨#[102]⟩,.string ⟨#[]⟩,.int .i64 0,.string ⟨#[]⟩,.int .i64 2,.int .i64 0,.int .i64 1,.int .i64 0,.int .i64 0,.int .i64 0,.int .i64 0,.int .i64 0,.int .i64 0,.string ⟨#[102]⟩,.string ⟨#[]⟩,.int .i64 0,.string ⟨#[]⟩] 26) = w3 at O3 S3 ⊢
 have T3:=tab_below T1.out (Nat.le_refl _) S3.out
 refine (FX.of P _ 2 2 [fhA,fhB] w3 T3 (by omega) fh_fit O3.out).mono ?_
 rintro e w4 ⟨a,rfl,g4,hb4⟩
 have h4:=H0.out.step (below_step S3.out hb4)
 obtain ⟨S4,r4,_⟩:=g4.gx.at'
 have L4:=Lib.hid (H.look a S4 _ (0,0) ⟨#[102]⟩ w4 r4 g4.fine.ok (by decide))
 have I4 : Hid (∀ W,Below w4.heap.size w4 W→Calls Tryz.prog 24 #[.pointer (some a)] W (InosPost (inodesG (runA (sortO [fhA,fhB]))) W)):=Lib.hid fun W hW=>told_inos H r4 g4.fine.ok hW
 rw [HR.out.1] at L4
 change Hid (Calls _ _ _ _ fun e w'=>e = .returned (.tuple #[.agg #[.int .i64 2,.int .i64 0],.bool true])∧Below w4.heap.size w4 w') at L4
 unfold InosPost at I4
 rw [HR.out.2] at I4
 have H4:=Lib.hid h4
 clear h4 g4 r4 T3 O3 S3 b0 b1 b2 b3 b4 b5 b6 b7 b8 b9 b10 b11 b12 hb4 H0 HB1 T1
 go_wp2_with fail
 refine L4.out.mono ?_
 rintro e w5 ⟨rfl,hb5⟩
 have hA : Below w5.heap.size w5 (w5.alloc (.cells (#[.int .i64 2,.int .i64 0]) 24)):=(Below.refl _ _).alloc (Nat.le_refl _) _
 have hH5:=H4.out.step (below_step hb5 hA)
 have I5:=Lib.hid (I4.out _ (below_step hb5 hA))
 have B5:=heap_alloc_new w5 (.cells (#[.int .i64 2,.int .i64 0]) 24)
 have HB5:=Lib.hid hH5.below
 obtain ⟨b0,b1,_⟩:=op_cells (o:=fhB) (g:=u + 1) (hH5.at 0 rfl)
 obtain ⟨x0,x1⟩:=two_cells B5
 unfold fhB at b0 b1
 dsimp only at b0 b1 x0 x1
 go_upto_region 5 with fail
 change Code.wp _ _ _ _ (w5.alloc (.cells (#[.int .i64 2,.int .i64 0]) 24))
 generalize w5.alloc (.cells (#[.int .i64 2,.int .i64 0]) 24) = w6 at *
 go_wp2_with fail
 refine I5.out.mono ?_
 rintro e w7 ⟨B7,k7,rfl,_,_,_,_,hb7⟩
 go_wp2_with fail
 go_ret
 exact ⟨rfl,below_step HB5.out hb7⟩

set_option maxRecDepth 100000 in
theorem fewF_any (A : Option Addr) (n c : Nat) (w : World) :
  Calls Tryz.prog 11 #[.slice A n c] w fun e w'=>e = .returned (.bool (decide (n≤60)))∧Below w.heap.size w w':=by
 have hd : decide (n≤60) = decide ((n : Int)≤60):=by rw [decide_eq_decide]; omega
 rw [hd]
 go_enter Tryz.func11,Tryz.ntmps11
 go_wp2_with fail
 go_ret
 exact ⟨rfl,Below.refl _ _⟩

end Go.Proofs.YtdobeghbkonimaaGreatDoor

namespace Go.Proofs.YtdobeghbkonimaaGreatDoor
open Go.RowKit StampMath GraphMath

set_option maxRecDepth 100000 in
set_option maxHeartbeats 800000 in
theorem refLinks (v : Value) (A : Option Addr) (n c : Nat) (E : List Ent) (id : St) (hn : n≤1000) (w : World) (h : EntsIn w w.heap.size A n E) :
  Calls Tryz.prog 88 #[.agg #[v,.slice A n c],.agg (stA id)] w fun e w'=>e = .returned (.int .i64 (linksE E id : Nat))∧Below w.heap.size w w':=by
 have hl:=h.len
 have HB : Hid (EntsIn w w.heap.size A n E):=h
 clear h
 unfold stA
 obtain ⟨t,r⟩:=id
 dsimp only
 go_enter Tryz.func88,Tryz.ntmps88
 go_wp2_with fail
 go_loopg [5,6] (n + 1) (fun gk x i wr=>∃ k : Nat,i = .int .i64 (k : Int)∧x = .int .i64 (linksE (E.take k) (t,r) : Nat)∧gk + k = n + 1∧k≤n∧wr.heap[w.heap.size]? = some (.cells #[v,.slice A n c] 37 (0,0))∧wr.heap[w.heap.size + 1]? = some (.cells #[.int .i64 t,.int .i64 r] 24 (0,0))∧Below w.heap.size w wr)
 case atStart =>
  refine ⟨0,rfl,rfl,by omega,by omega,?_,?_,((Below.refl _ w).alloc (Nat.le_refl _) _).alloc (by simp) _⟩
  ·exact heap_alloc2_old w _ _
  ·exact heap_alloc2_new w _ _
 case round =>
  obtain ⟨k,rfl,rfl,hgk,hk,h1,h2,hB⟩:=hrel
  have c1:=cell_of_row _ _ 1 _ _ (0,0) h1
  have c2:=cell_of_row _ _ 0 _ _ (0,0) h2
  have c3:=cell_of_row _ _ 1 _ _ (0,0) h2
  by_cases hlt : k < n
  ·obtain ⟨g,o,rfl,hg,hrow⟩:=HB.out.row (by omega)
   obtain ⟨e0,e1,e2,e3,e4⟩:=(hrow k (by omega)).below hB hg
   clear hrow
   have hsn:=linksE_snoc E k (by omega) (t,r)
   have hnum : (linksE (E.take k) (t,r) : Int)≤1000:=by have:=linksE_le (E.take k) (t,r); rw [List.length_take] at this; omega
   by_cases hq : E[k].ino = (t,r)
   ·rw [if_pos hq] at hsn
    have hv:=eqSt_yes hq
    dsimp only at hv
    go_wp2_with fail
    go_quiet (fail)
    go_wp2_with fail
    go_roundg (gk - 1)
    case measure=>omega
    case rel=>exact ⟨k + 1,by go_num,by rw [hsn]; go_num,by omega,by omega,h1,h2,below_drewN' hB _⟩
   ·rw [if_neg hq] at hsn
    have hv:=eqSt_no hq
    dsimp only at hv
    go_wp2_with fail
    go_quiet (fail)
    go_wp2_with fail
    go_roundg (gk - 1)
    case measure=>omega
    case rel=>exact ⟨k + 1,by go_num,by rw [hsn],by omega,by omega,h1,h2,below_drewN' hB _⟩
  ·go_wp2_with fail
   go_ret
   exact ⟨by rw [List.take_of_length_le (by omega)]; rfl,hB⟩

set_option maxRecDepth 100000 in
set_option maxHeartbeats 1600000 in
theorem refGet (A A' : Option Addr) (n c m d : Nat) (g : Gr) (id : St) (hn : n≤1000) (hm : m≤1000) (w : World) (h : InosIn w w.heap.size A n g.I) (h' : EntsIn w w.heap.size A' m g.E) :
  Calls Tryz.prog 54 #[.agg #[.slice A n c,.slice A' m d],.agg (stA id)] w fun e w'=>e = .returned (.tuple #[.agg (inoA ((getG g id).getD noIno)),.bool (getG g id).isSome])∧Below w.heap.size w w':=by
 have hl:=h.len
 have HI : Hid (InosIn w w.heap.size A n g.I):=h
 have HL : Hid (∀ W : World,Below w.heap.size w W→Calls Tryz.prog 88 #[.agg #[.slice A n c,.slice A' m d],.agg #[.int .i64 id.1,.int .i64 id.2]] W fun e w'=>e = .returned (.int .i64 (linksE g.E id : Nat))∧Below W.heap.size W w'):=fun W hW=>refLinks (.slice A n c) A' m d g.E id hm W ((h'.below hW).more hW.size)
 clear h h'
 have hb0 : Held w [(w.heap.size + 1 + 1,.cells (inoA noIno) 59),(w.heap.size + 1,.cells (stA id) 24),(w.heap.size,.cells #[.slice A n c,.slice A' m d] 37)]
  (((w.alloc (.cells #[.slice A n c,.slice A' m d] 37)).alloc (.cells #[.int .i64 id.1,.int .i64 id.2] 24)).alloc (.cells #[.int .i64 0,.int .i64 0,.int .i64 0,.int .i64 0,.int .i64 0,.string ⟨#[]⟩] 59)) :=
  (((Held.refl w).alloc (.cells #[.slice A n c,.slice A' m d] 37) rfl).alloc (.cells (stA id) 24) (by simp)).alloc (.cells (inoA noIno) 59) (by simp)
 unfold stA
 go_enter Tryz.func54,Tryz.ntmps54
 go_wp2_with fail
 go_loopg [6] (n + 1) (fun gk i wr=>∃ k : Nat,i = .int .i64 (k : Int)∧gk + k = n + 1∧k≤n∧Hid ((g.I.take k).find? (fun x=>decide (x.id = id)) = none)∧Held w [(w.heap.size + 1 + 1,.cells (inoA noIno) 59),(w.heap.size + 1,.cells (stA id) 24),(w.heap.size,.cells #[.slice A n c,.slice A' m d] 37)] wr)
 case atStart=>exact ⟨0,rfl,by omega,by omega,rfl,hb0⟩
 case round =>
  obtain ⟨k,rfl,hgk,hk,hnone,hH⟩:=hrel
  clear hb0
  obtain ⟨c1,c2⟩:=two_cells (g:=w.heap.size) (hH.at 2 rfl)
  obtain ⟨c3,c4⟩:=two_cells (g:=w.heap.size + 1) (hH.at 1 rfl)
  by_cases hlt : k < n
  ·obtain ⟨gi,o,rfl,hg,hrow⟩:=HI.out.row (by omega)
   have hp:=find_none_take (p:=fun x : Ino=>decide (x.id = id)) (k:=k) (by omega) hnone.out
   have hrk:=fun W hb=>(hrow k (by omega)).below (B:=w.heap.size) (W':=W) hb hg
   obtain ⟨⟨xi,kd,lk,md,da⟩,hx⟩ : ∃ x,g.I[k] = x:=⟨_,rfl⟩
   rw [hx] at hrk hp
   clear hrow hx hnone
   obtain ⟨e0,e1,e2,e3,e4,e5⟩:=hrk wr hH.below
   have HR:=Lib.hid hrk
   clear hrk
   by_cases hq : xi = id
   ·have hv:=eqSt_yes hq
    subst hq
    rw [if_pos (decide_eq_true rfl)] at hp
    have HG : Hid (getG g xi = some ⟨xi,kd,(linksE g.E xi : Int),md,da⟩):=by
     show getG g xi = _
     unfold getG
     rw [find_take hp]
     rfl
    clear hp
    go_wp2_with fail
    go_quiet (fail)
    have hH2:=hH.drewN nq
    generalize wr.drewN nq = w2 at hH2 ⊢
    clear c1 c2 c3 c4 e0 e1 e2 e3 e4 e5 hH
    obtain ⟨c1,c2⟩:=two_cells (g:=w.heap.size) (hH2.at 2 rfl)
    obtain ⟨c3,c4⟩:=two_cells (g:=w.heap.size + 1) (hH2.at 1 rfl)
    obtain ⟨e0,e1,e2,e3,e4,e5⟩:=HR.out w2 hH2.below
    go_upto_region 6 with fail
    change Code.wp _ _ _ _ (w2.alloc (.cells (inoA ⟨xi,kd,lk,md,da⟩) 59))
    have hH3:=hH2.alloc (.cells (inoA ⟨xi,kd,lk,md,da⟩) 59) rfl
    obtain ⟨u,hu⟩ : ∃ u,u = w2.heap.size:=⟨_,rfl⟩
    have hlow : w.heap.size + 1 + 1 < u:=by rw [hu]; exact heap_lt (hH2.at 0 rfl)
    rw [← hu] at hH3 ⊢
    generalize w2.alloc (.cells (inoA ⟨xi,kd,lk,md,da⟩) 59) = w3 at hH3 ⊢
    clear c1 c2 c3 c4 e0 e1 e2 e3 e4 e5 hH2 hu
    obtain ⟨c1,c2⟩:=two_cells (g:=w.heap.size) (hH3.at 3 rfl)
    obtain ⟨c3,c4⟩:=two_cells (g:=w.heap.size + 1) (hH3.at 2 rfl)
    go_wp2_with fail
    refine (HL.out _ hH3.below).mono ?_
    rintro e w4 ⟨rfl,hb4⟩
    have hH4:=hH3.step hb4
    clear c1 c2 c3 c4 hH3 hb4
    obtain ⟨e0,e1,e2,e3,e4,e5⟩:=ino_cells (g:=u) (hH4.at 0 rfl)
    obtain ⟨f0,f1,f2,f3,f4,f5⟩:=ino_free (g:=u) (hH4.at 0 rfl)
    obtain ⟨m0,m1,m2,m3,m4,m5⟩:=ino_cells (g:=w.heap.size + 1 + 1) (hH4.at 1 rfl)
    obtain ⟨n0,n1,n2,n3,n4,n5⟩:=ino_free (g:=w.heap.size + 1 + 1) (hH4.at 1 rfl)
    go_wp2_with fail
    exact bodyPost_ret (v:=.tuple #[.agg (inoA ⟨xi,kd,(linksE g.E xi : Int),md,da⟩),.bool true]) (by simp [results,Tryz.results54,go_sem,inoA,noIno,m0,m1,m2,m3,m4,m5]) rfl ⟨by rw [HG.out]; rfl,below_six (hH4.below.setCell (by dsimp only; omega) _) (by omega) _ _ _ _ _ _⟩
   ·have hv:=eqSt_no hq
    rw [if_neg (by rw [decide_eq_false hq]; decide)] at hp
    have HP:=Lib.hid hp
    clear hp
    go_wp2_with fail
    go_quiet (fail)
    go_wp2_with fail
    go_roundg (gk - 1)
    case measure=>omega
    case rel=>exact ⟨k + 1,by go_num,by omega,by omega,HP.out,hH.drewN _⟩
  ·have hget : getG g id = none:=by
    unfold getG
    have:=hnone.out
    rw [List.take_of_length_le (by omega)] at this
    rw [this]
    rfl
   have HG:=Lib.hid hget
   clear hget
   have f:=ino_free (g:=w.heap.size + 1 + 1) (hH.at 0 rfl)
   obtain ⟨f0,f1,f2,f3,f4,f5⟩:=f
   have m':=ino_cells (g:=w.heap.size + 1 + 1) (hH.at 0 rfl)
   obtain ⟨m0,m1,m2,m3,m4,m5⟩:=m'
   go_wp2_with fail
   exact bodyPost_ret (v:=.tuple #[.agg (inoA noIno),.bool false]) (by simp [results,Tryz.results54,go_sem,inoA,noIno,m0,m1,m2,m3,m4,m5]) rfl ⟨by rw [HG.out]; rfl,below_six hH.below (by omega) _ _ _ _ _ _⟩

end Go.Proofs.YtdobeghbkonimaaGreatDoor

namespace Go.Proofs.YtdobeghbkonimaaGreatDoor
open Go.RowKit StampMath GraphMath

def isAt (d : St) (nm : ByteArray) (e : Ent) : Bool:=decide (e.dir = d) && decide (e.name = nm)

theorem names_same (a b : ByteArray) : (a.toList == b.toList) = decide (a = b):=by
 by_cases h : a = b
 ·subst h; simp
 ·rw [decide_eq_false h,beq_eq_false_iff_ne]; exact fun e=>h (bytes_same e)

set_option maxRecDepth 100000 in
set_option maxHeartbeats 1600000 in
theorem refLook (v : Value) (A : Option Addr) (n c : Nat) (E : List Ent) (at' : St) (nm : ByteArray) (hn : n≤1000) (w : World) (h : EntsIn w w.heap.size A n E) :
  Calls Tryz.prog 81 #[.agg #[v,.slice A n c],.agg (stA at'),.string nm] w fun e w'=>e = .returned (.tuple #[.agg (stA ((lookE E at' nm).getD (0,0))),.bool (lookE E at' nm).isSome])∧Below w.heap.size w w':=by
 have hl:=h.len
 have HI : Hid (EntsIn w w.heap.size A n E):=h
 clear h
 have hb0 : Held w [(w.heap.size + 1 + 1,.cells #[.int .i64 0,.int .i64 0] 24),(w.heap.size + 1,.cells (stA at') 24),(w.heap.size,.cells #[v,.slice A n c] 37)]
  (((w.alloc (.cells #[v,.slice A n c] 37)).alloc (.cells #[.int .i64 at'.1,.int .i64 at'.2] 24)).alloc (.cells #[.int .i64 0,.int .i64 0] 24)) :=
  (((Held.refl w).alloc (.cells #[v,.slice A n c] 37) rfl).alloc (.cells (stA at') 24) (by simp)).alloc (.cells #[.int .i64 0,.int .i64 0] 24) (by simp)
 unfold stA
 go_enter Tryz.func81,Tryz.ntmps81
 go_wp2_with fail
 go_loopg [8] (n + 1) (fun gk i wr=>∃ k : Nat,i = .int .i64 (k : Int)∧gk + k = n + 1∧k≤n∧Hid ((E.take k).find? (isAt at' nm) = none)∧Held w [(w.heap.size + 1 + 1,.cells #[.int .i64 0,.int .i64 0] 24),(w.heap.size + 1,.cells (stA at') 24),(w.heap.size,.cells #[v,.slice A n c] 37)] wr)
 case atStart=>exact ⟨0,rfl,by omega,by omega,rfl,hb0⟩
 case round =>
  obtain ⟨k,rfl,hgk,hk,hnone,hH⟩:=hrel
  clear hb0
  have hc1:=(two_cells (g:=w.heap.size) (hH.at 2 rfl)).2
  obtain ⟨c3,c4⟩:=two_cells (g:=w.heap.size + 1) (hH.at 1 rfl)
  obtain ⟨m0,m1⟩:=two_cells (g:=w.heap.size + 1 + 1) (hH.at 0 rfl)
  obtain ⟨f0,f1⟩:=two_free (g:=w.heap.size + 1 + 1) (hH.at 0 rfl)
  by_cases hlt : k < n
  ·obtain ⟨gi,o,rfl,hg,hrow⟩:=HI.out.row (by omega)
   have hp:=find_none_take (p:=isAt at' nm) (k:=k) (by omega) hnone.out
   have hrk:=(hrow k (by omega)).below hH.below hg
   obtain ⟨⟨di,en,ei⟩,hx⟩ : ∃ x,E[k] = x:=⟨_,rfl⟩
   rw [hx] at hrk hp
   clear hrow hx hnone
   obtain ⟨e0,e1,e2,e3,e4⟩:=hrk
   have hs:=names_same en nm
   by_cases hq : di = at'
   ·have hv:=eqSt_yes hq
    subst hq
    by_cases hq2 : en = nm
    ·subst hq2
     rw [decide_eq_true rfl] at hs
     have HG : Hid (lookE E di en = some ei):=by
      rw [if_pos (by unfold isAt; simp)] at hp
      show (E.find? (isAt di en)).map _ = _
      rw [find_take hp]
      rfl
     clear hp
     go_wp2_with fail
     go_quiet (fail)
     go_wp2_with fail
     exact bodyPost_ret (v:=.tuple #[.agg (stA ei),.bool true]) (by simp [results,Tryz.results81,go_sem,stA,m0,m1]) rfl ⟨by rw [HG.out]; rfl,((below_drewN' hH.below _).setCell (by dsimp only; omega) _).setCell (by dsimp only; omega) _⟩
    ·rw [decide_eq_false hq2] at hs
     have HP : Hid ((E.take (k + 1)).find? (isAt di nm) = none):=by
      rw [if_neg (by unfold isAt; simp [hq2])] at hp
      exact hp
     clear hp
     go_wp2_with fail
     go_quiet (fail)
     go_wp2_with fail
     go_roundg (gk - 1)
     case measure=>omega
     case rel=>exact ⟨k + 1,by go_num,by omega,by omega,HP.out,hH.drewN _⟩
   ·have hv:=eqSt_no hq
    have HP : Hid ((E.take (k + 1)).find? (isAt at' nm) = none):=by
     rw [if_neg (by unfold isAt; simp [hq])] at hp
     exact hp
    clear hp
    go_wp2_with fail
    go_quiet (fail)
    go_wp2_with fail
    go_roundg (gk - 1)
    case measure=>omega
    case rel=>exact ⟨k + 1,by go_num,by omega,by omega,HP.out,hH.drewN _⟩
  ·have HG : Hid (lookE E at' nm = none):=by
    have h:=hnone.out
    rw [List.take_of_length_le (by omega)] at h
    show (E.find? (isAt at' nm)).map _ = _
    rw [h]
    rfl
   go_wp2_with fail
   exact bodyPost_ret (v:=.tuple #[.agg (stA (0,0)),.bool false]) (by simp [results,Tryz.results81,go_sem,stA,m0,m1]) rfl ⟨by rw [HG.out]; rfl,((hH.below).setCell (by dsimp only; omega) _).setCell (by dsimp only; omega) _⟩

end Go.Proofs.YtdobeghbkonimaaGreatDoor

namespace Go.Proofs.YtdobeghbkonimaaGreatDoor
open Go.RowKit StampMath GraphMath

theorem listE_snoc (E : List Ent) (k : Nat) (h : k < E.length) (d : St) : listE (E.take (k + 1)) d = if E[k].dir = d then listE (E.take k) d ++ [E[k]] else listE (E.take k) d:=by
 unfold listE
 rw [List.take_succ_eq_append_getElem h,List.filter_append]
 by_cases e : E[k].dir = d
 ·rw [if_pos e]; simp [e]
 ·rw [if_neg e]; simp [e]

theorem listE_le (E : List Ent) (d : St) : (listE E d).length≤E.length:=List.length_filter_le _ _

set_option maxRecDepth 100000 in
set_option maxHeartbeats 1600000 in
theorem refList (v : Value) (A : Option Addr) (n c : Nat) (E : List Ent) (id : St) (hn : n≤1000) (w : World) (h : EntsIn w w.heap.size A n E) :
  Calls Tryz.prog 127 #[.agg #[v,.slice A n c],.agg (stA id)] w (EntsPost (listE E id) w):=by
 obtain ⟨i0,hi0,hz0,hz1,hz2⟩:=info_parts ent_infos
 have hl:=h.len
 have HI : Hid (EntsIn w w.heap.size A n E):=h
 clear h
 have hb0 : Held w [(w.heap.size + 1,.cells (stA id) 24),(w.heap.size,.cells #[v,.slice A n c] 37)]
  ((w.alloc (.cells #[v,.slice A n c] 37)).alloc (.cells #[.int .i64 id.1,.int .i64 id.2] 24)) :=
  ((Held.refl w).alloc (.cells #[v,.slice A n c] 37) rfl).alloc (.cells (stA id) 24) (by simp)
 unfold stA
 go_enter Tryz.func127,Tryz.ntmps127
 go_wp2_with fail
 go_loopg [5,6] (n + 1) (fun gk out i wr=>∃ k : Nat,i = .int .i64 (k : Int)∧gk + k = n + 1∧k≤n∧wr.ownsRow (w.heap.size + 2) 89 5 out (listE (E.take k) id).length (flat ((listE (E.take k) id).map entA))∧Held w [(w.heap.size + 1,.cells (stA id) 24),(w.heap.size,.cells #[v,.slice A n c] 37)] wr)
 case atStart=>exact ⟨0,rfl,by omega,by omega,World.ownsRow_nil _ _ _ _,hb0⟩
 case round =>
  obtain ⟨k,rfl,hgk,hk,hown,hH⟩:=hrel
  clear hb0
  have hc1:=(two_cells (g:=w.heap.size) (hH.at 1 rfl)).2
  obtain ⟨c3,c4⟩:=two_cells (g:=w.heap.size + 1) (hH.at 0 rfl)
  by_cases hlt : k < n
  ·obtain ⟨gi,o,rfl,hg,hrow⟩:=HI.out.row (by omega)
   have hsn:=listE_snoc E k (by omega) id
   have hle : (listE (E.take k) id).length≤1000:=by have:=listE_le (E.take k) id; rw [List.length_take] at this; omega
   have hrk:=fun W hb=>(hrow k (by omega)).below (B:=w.heap.size) (W':=W) hb hg
   obtain ⟨x,hx⟩ : ∃ x,E[k] = x:=⟨_,rfl⟩
   rw [hx] at hrk hsn
   clear hrow hx
   obtain ⟨e0,e1,e2,e3,e4⟩:=hrk wr hH.below
   have HR:=Lib.hid hrk
   clear hrk
   by_cases hq : x.dir = id
   ·have hv:=eqSt_yes hq
    rw [if_pos hq] at hsn
    have HS:=Lib.hid hsn
    clear hsn
    go_wp2_with fail
    go_quiet (fail)
    have hH2:=hH.drewN nq
    have hown2 : (wr.drewN nq).ownsRow (w.heap.size + 2) 89 5 u5 (listE (E.take k) id).length (flat ((listE (E.take k) id).map entA)):=hown
    generalize wr.drewN nq = w2 at hH2 hown2 ⊢
    clear hc1 c3 c4 e0 e1 e2 e3 e4 hH hown hv hq
    have hc1:=(two_cells (g:=w.heap.size) (hH2.at 1 rfl)).2
    obtain ⟨e0,e1,e2,e3,e4⟩:=HR.out w2 hH2.below
    have hlow : w.heap.size + 1 < w2.heap.size:=heap_lt (hH2.at 0 rfl)
    have hm : (listE (E.take k) id).length + 1≤maxLen:=by unfold maxLen; omega
    go_wp2_with (at_builtin; refine wpList_append_own _ rfl (.tmp 22) (.tmp 28) 35 rfl (w.heap.size + 2) 89 i0 _ 5 48 Tryz.underlying35 hi0 hz0 hz1 hz2 rfl (by decide) _ _ _ rfl (hown2.alloc _) ⟨w2.heap.size,0,none⟩ 1 1 (entA x).toList rfl rfl (row_there w2 _ _) (ent_one x) hm (by omega) (by simp; omega) ?_; intro v2 w3 hown3 hg3 _)
    have hb3 : Held w [(w.heap.size + 1,.cells (stA id) 24),(w.heap.size,.cells #[v,.slice (some ⟨gi,o,none⟩) n c] 37)] w3 :=
     (hH2.step ((Below.refl _ _).alloc (Nat.le_refl _) _)).grown hg3 (fun q hq=>(hown2.lt q hq).1) (by intro p hp; simp at hp; rcases hp with rfl | rfl <;> (dsimp only; omega))
    rw [flat_ent] at hown3
    go_roundg (gk - 1)
    case measure=>omega
    case rel=>exact ⟨k + 1,by go_num,by omega,by omega,by rw [HS.out,List.length_append]; exact hown3,hb3⟩
   ·have hv:=eqSt_no hq
    rw [if_neg hq] at hsn
    have HS:=Lib.hid hsn
    clear hsn
    go_wp2_with fail
    go_quiet (fail)
    go_wp2_with fail
    go_roundg (gk - 1)
    case measure=>omega
    case rel=>exact ⟨k + 1,by go_num,by omega,by omega,by rw [HS.out]; exact hown,hH.drewN _⟩
  ·obtain ⟨B,cc,rfl,q1,q2,q3⟩:=ents_own rfl hown
   rw [List.take_of_length_le (by omega)] at q1 q2
   go_wp2_with fail
   go_ret
   rw [List.take_of_length_le (show E.length≤k by omega)]
   exact ⟨B,cc,rfl,q1,q2,q3.1,q3.2,hH.below⟩

end Go.Proofs.YtdobeghbkonimaaGreatDoor

namespace Go.Proofs.YtdobeghbkonimaaGreatDoor
open Go.RowKit StampMath GraphMath

theorem ent_ext {a b : Ent} (h1 : a.dir.1 = b.dir.1) (h2 : a.dir.2 = b.dir.2) (h3 : a.name.toList = b.name.toList) (h4 : a.ino.1 = b.ino.1) (h5 : a.ino.2 = b.ino.2) : a = b:=by
 obtain ⟨⟨_,_⟩,_,⟨_,_⟩⟩:=a
 obtain ⟨⟨_,_⟩,_,⟨_,_⟩⟩:=b
 have e:=bytes_same h3
 simp_all

theorem ino_ext {a b : Ino} (h1 : a.id.1 = b.id.1) (h2 : a.id.2 = b.id.2) (h3 : a.kind = b.kind) (h4 : a.links = b.links) (h5 : a.mode = b.mode) (h6 : a.data.toList = b.data.toList) : a = b:=by
 obtain ⟨⟨_,_⟩,_,_,_,_⟩:=a
 obtain ⟨⟨_,_⟩,_,_,_,_⟩:=b
 have e:=bytes_same h6
 simp_all

theorem run_eqEnt (a b : Ent) (W : World) : (Op.equalIn 10000 89 (.agg #[.int .i64 a.dir.1,.int .i64 a.dir.2,.string a.name,.int .i64 a.ino.1,.int .i64 a.ino.2]) (.agg #[.int .i64 b.dir.1,.int .i64 b.dir.2,.string b.name,.int .i64 b.ino.1,.int .i64 b.ino.2])).run Tryz.prog W = .ok (decide (a = b)) W:=by
 go_simp
 by_cases e : a = b
 ·subst e
  simp
 ·rw [decide_eq_false e]
  by_cases h1 : a.dir.1 = b.dir.1
  ·rw [if_pos h1]
   by_cases h2 : a.dir.2 = b.dir.2
   ·rw [if_pos h2]
    by_cases h3 : a.name.toList = b.name.toList
    ·rw [if_pos h3]
     by_cases h4 : a.ino.1 = b.ino.1
     ·rw [if_pos h4]
      by_cases h5 : a.ino.2 = b.ino.2
      ·exact absurd (ent_ext h1 h2 h3 h4 h5) e
      ·simp [h5]
     ·rw [if_neg h4]
    ·rw [if_neg h3]
   ·rw [if_neg h2]
  ·rw [if_neg h1]

theorem run_eqIno (a b : Ino) (W : World) : (Op.equalIn 10000 59 (.agg #[.int .i64 a.id.1,.int .i64 a.id.2,.int .i64 a.kind,.int .i64 a.links,.int .i64 a.mode,.string a.data]) (.agg #[.int .i64 b.id.1,.int .i64 b.id.2,.int .i64 b.kind,.int .i64 b.links,.int .i64 b.mode,.string b.data])).run Tryz.prog W = .ok (decide (a = b)) W:=by
 go_simp
 by_cases e : a = b
 ·subst e
  simp
 ·rw [decide_eq_false e]
  by_cases h1 : a.id.1 = b.id.1
  ·rw [if_pos h1]
   by_cases h2 : a.id.2 = b.id.2
   ·rw [if_pos h2]
    by_cases h3 : a.kind = b.kind
    ·rw [if_pos h3]
     by_cases h4 : a.links = b.links
     ·rw [if_pos h4]
      by_cases h5 : a.mode = b.mode
      ·rw [if_pos h5]
       by_cases h6 : a.data.toList = b.data.toList
       ·exact absurd (ino_ext h1 h2 h3 h4 h5 h6) e
       ·simp [h6]
      ·rw [if_neg h5]
     ·rw [if_neg h4]
    ·rw [if_neg h3]
   ·rw [if_neg h2]
  ·rw [if_neg h1]

end Go.Proofs.YtdobeghbkonimaaGreatDoor

namespace Go.Proofs.YtdobeghbkonimaaGreatDoor
open Go.RowKit StampMath GraphMath

theorem same_no_len {α : Type} [DecidableEq α] {xs ys : List α} (h : xs.length ≠ ys.length) : decide (xs = ys) = false:=decide_eq_false fun e=>h (by rw [e])
theorem same_no {α : Type} [DecidableEq α] {xs ys : List α} {k : Nat} (h1 : k < xs.length) (h2 : k < ys.length) (h : ¬ xs[k] = ys[k]) : decide (xs = ys) = false :=
 decide_eq_false fun e=>h (by subst e; rfl)
theorem same_yes {α : Type} [DecidableEq α] {xs ys : List α} (hl : xs.length = ys.length) (h : ∀ k (h1 : k < xs.length) (h2 : k < ys.length),xs[k] = ys[k]) : decide (xs = ys) = true :=
 decide_eq_true (List.ext_getElem hl h)

set_option maxRecDepth 100000 in
set_option maxHeartbeats 1600000 in
theorem refEnts (A A' : Option Addr) (n c m d : Nat) (X Y : List Ent) (hn : n≤1000) (hm : m≤1000) (w : World) (h : EntsIn w w.heap.size A n X) (h' : EntsIn w w.heap.size A' m Y) :
  Calls Tryz.prog 26 #[.slice A n c,.slice A' m d] w fun e w'=>e = .returned (.bool (decide (X = Y)))∧Below w.heap.size w w':=by
 have hl:=h.len
 have hl':=h'.len
 have HX : Hid (EntsIn w w.heap.size A n X):=h
 have HY : Hid (EntsIn w w.heap.size A' m Y):=h'
 clear h h'
 by_cases hnm : n = m
 ·subst hnm
  go_enter Tryz.func26,Tryz.ntmps26
  go_wp2_with fail
  go_loopg [5] (n + 1) (fun gk i wr=>∃ k : Nat,i = .int .i64 (k : Int)∧gk + k = n + 1∧k≤n∧Hid (∀ j (h1 : j < X.length) (h2 : j < Y.length),j < k→X[j] = Y[j])∧Below w.heap.size w wr)
  case atStart=>exact ⟨0,rfl,by omega,by omega,fun _ _ _ hj=>absurd hj (by omega),Below.refl _ _⟩
  case round =>
   obtain ⟨k,rfl,hgk,hk,hall,hB⟩:=hrel
   by_cases hlt : k < n
   ·obtain ⟨gi,o,rfl,hg,hrow⟩:=HX.out.row (by omega)
    obtain ⟨gi',o',rfl,hg',hrow'⟩:=HY.out.row (by omega)
    obtain ⟨e0,e1,e2,e3,e4⟩:=(hrow k (by omega)).below hB hg
    obtain ⟨d0,d1,d2,d3,d4⟩:=(hrow' k (by omega)).below hB hg'
    have hr:=run_eqEnt X[k] Y[k]
    clear hrow hrow'
    by_cases hq : X[k] = Y[k]
    ·rw [decide_eq_true hq] at hr
     have HA : Hid (∀ j (h1 : j < X.length) (h2 : j < Y.length),j < k + 1→X[j] = Y[j]):=fun j h1 h2 hj=>by
      by_cases e : j = k
      ·subst e; exact hq
      ·exact hall.out j h1 h2 (by omega)
     clear hq hall
     go_wp2_with fail
     go_quiet (fail)
     go_wp2_with fail
     go_roundg (gk - 1)
     case measure=>omega
     case rel=>exact ⟨k + 1,by go_num,by omega,by omega,HA.out,below_drewN' hB _⟩
    ·rw [decide_eq_false hq] at hr
     have HA : Hid (decide (X = Y) = false):=same_no (by omega) (by omega) hq
     clear hq hall
     go_wp2_with fail
     go_quiet (fail)
     go_wp2_with fail
     go_ret
     exact ⟨by rw [HA.out]; rfl,below_drewN' hB _⟩
   ·have HA : Hid (decide (X = Y) = true):=same_yes (by omega) fun j h1 h2=>hall.out j h1 h2 (by omega)
    go_wp2_with fail
    go_ret
    exact ⟨by rw [HA.out]; rfl,hB⟩
 ·have HA : Hid (decide (X = Y) = false):=same_no_len (by omega)
  have hnm' : ¬ (n : Int) = (m : Int):=by omega
  go_enter Tryz.func26,Tryz.ntmps26
  go_wp2_with fail
  go_ret
  exact ⟨by rw [HA.out]; rfl,Below.refl _ _⟩

set_option maxRecDepth 100000 in
set_option maxHeartbeats 1600000 in
theorem refNodes (A A' : Option Addr) (n c m d : Nat) (X Y : List Ino) (hn : n≤1000) (hm : m≤1000) (w : World) (h : InosIn w w.heap.size A n X) (h' : InosIn w w.heap.size A' m Y) :
  Calls Tryz.prog 23 #[.slice A n c,.slice A' m d] w fun e w'=>e = .returned (.bool (decide (X = Y)))∧Below w.heap.size w w':=by
 have hl:=h.len
 have hl':=h'.len
 have HX : Hid (InosIn w w.heap.size A n X):=h
 have HY : Hid (InosIn w w.heap.size A' m Y):=h'
 clear h h'
 by_cases hnm : n = m
 ·subst hnm
  go_enter Tryz.func23,Tryz.ntmps23
  go_wp2_with fail
  go_loopg [5] (n + 1) (fun gk i wr=>∃ k : Nat,i = .int .i64 (k : Int)∧gk + k = n + 1∧k≤n∧Hid (∀ j (h1 : j < X.length) (h2 : j < Y.length),j < k→X[j] = Y[j])∧Below w.heap.size w wr)
  case atStart=>exact ⟨0,rfl,by omega,by omega,fun _ _ _ hj=>absurd hj (by omega),Below.refl _ _⟩
  case round =>
   obtain ⟨k,rfl,hgk,hk,hall,hB⟩:=hrel
   by_cases hlt : k < n
   ·obtain ⟨gi,o,rfl,hg,hrow⟩:=HX.out.row (by omega)
    obtain ⟨gi',o',rfl,hg',hrow'⟩:=HY.out.row (by omega)
    obtain ⟨e0,e1,e2,e3,e4,e5⟩:=(hrow k (by omega)).below hB hg
    obtain ⟨d0,d1,d2,d3,d4,d5⟩:=(hrow' k (by omega)).below hB hg'
    have hr:=run_eqIno X[k] Y[k]
    clear hrow hrow'
    by_cases hq : X[k] = Y[k]
    ·rw [decide_eq_true hq] at hr
     have HA : Hid (∀ j (h1 : j < X.length) (h2 : j < Y.length),j < k + 1→X[j] = Y[j]):=fun j h1 h2 hj=>by
      by_cases e : j = k
      ·subst e; exact hq
      ·exact hall.out j h1 h2 (by omega)
     clear hq hall
     go_wp2_with fail
     go_quiet (fail)
     go_wp2_with fail
     go_roundg (gk - 1)
     case measure=>omega
     case rel=>exact ⟨k + 1,by go_num,by omega,by omega,HA.out,below_drewN' hB _⟩
    ·rw [decide_eq_false hq] at hr
     have HA : Hid (decide (X = Y) = false):=same_no (by omega) (by omega) hq
     clear hq hall
     go_wp2_with fail
     go_quiet (fail)
     go_wp2_with fail
     go_ret
     exact ⟨by rw [HA.out]; rfl,below_drewN' hB _⟩
   ·have HA : Hid (decide (X = Y) = true):=same_yes (by omega) fun j h1 h2=>hall.out j h1 h2 (by omega)
    go_wp2_with fail
    go_ret
    exact ⟨by rw [HA.out]; rfl,hB⟩
 ·have HA : Hid (decide (X = Y) = false):=same_no_len (by omega)
  have hnm' : ¬ (n : Int) = (m : Int):=by omega
  go_enter Tryz.func23,Tryz.ntmps23
  go_wp2_with fail
  go_ret
  exact ⟨by rw [HA.out]; rfl,Below.refl _ _⟩

end Go.Proofs.YtdobeghbkonimaaGreatDoor

namespace Go.Proofs.YtdobeghbkonimaaGreatDoor
open Go.RowKit Go.Shelf Go.Sort Go.Lib

structure SortIn (P : Program) (k : Nat) : Prop where
 mixed : P.follows .mixedOrders = true
 fSwap : P.funcs[203]? = some Tryz.f203
 fRot : P.funcs[172]? = some Tryz.f172
 fMerge : P.funcs[120]? = some Tryz.f120
 fStable : P.funcs[67]? = some Tryz.f67
 agg : ∀ w,(isAgg 26).run P w = .ok true w
 siz : ∀ w,(Go.sizeOf 26).run P w = .ok k w
 t0 : P.underlying 0 = some (TypeDesc.tuple #[])
 a0 : ∀ w,(isAgg 0).run P w = .ok false w
 z0 : ∀ w,(Go.sizeOf 0).run P w = .ok 1 w
 v0 : ∀ w,(zeroValue 0).run P w = .ok (Value.tuple #[]) w
 t3 : P.underlying 3 = some (TypeDesc.int IntKind.i64)
 a3 : ∀ w,(isAgg 3).run P w = .ok false w
 z3 : ∀ w,(Go.sizeOf 3).run P w = .ok 1 w
 v3 : ∀ w,(zeroValue 3).run P w = .ok (Value.int IntKind.i64 0) w
 t4 : P.underlying 4 = some (TypeDesc.bool)
 a4 : ∀ w,(isAgg 4).run P w = .ok false w
 z4 : ∀ w,(Go.sizeOf 4).run P w = .ok 1 w
 v4 : ∀ w,(zeroValue 4).run P w = .ok (Value.bool false) w
 t22 : P.underlying 22 = some (TypeDesc.slice 26)
 a22 : ∀ w,(isAgg 22).run P w = .ok false w
 z22 : ∀ w,(Go.sizeOf 22).run P w = .ok 1 w
 v22 : ∀ w,(zeroValue 22).run P w = .ok (Value.slice none 0 0) w
 t124 : P.underlying 124 = some (TypeDesc.int IntKind.u64)
 a124 : ∀ w,(isAgg 124).run P w = .ok false w
 z124 : ∀ w,(Go.sizeOf 124).run P w = .ok 1 w
 v124 : ∀ w,(zeroValue 124).run P w = .ok (Value.int IntKind.u64 0) w
 t68 : P.underlying 68 = some (TypeDesc.func #[26,26] #[3] false)
 a68 : ∀ w,(isAgg 68).run P w = .ok false w
 z68 : ∀ w,(Go.sizeOf 68).run P w = .ok 1 w
 v68 : ∀ w,(zeroValue 68).run P w = .ok (Value.nilFunc) w

theorem sort_in : SortIn Tryz.prog 13 where
 mixed:=by kernel_rfl
 fSwap:=Tryz.func203
 fRot:=Tryz.func172
 fMerge:=Tryz.func120
 fStable:=Tryz.func67
 agg:=Tryz.isAgg26
 siz:=Tryz.sizeOf26
 t0:=Tryz.underlying0
 a0:=Tryz.isAgg0
 z0:=Tryz.sizeOf0
 v0:=Tryz.zeroValue0
 t3:=Tryz.underlying3
 a3:=Tryz.isAgg3
 z3:=Tryz.sizeOf3
 v3:=Tryz.zeroValue3
 t4:=Tryz.underlying4
 a4:=Tryz.isAgg4
 z4:=Tryz.sizeOf4
 v4:=Tryz.zeroValue4
 t22:=Tryz.underlying22
 a22:=Tryz.isAgg22
 z22:=Tryz.sizeOf22
 v22:=Tryz.zeroValue22
 t124:=Tryz.underlying124
 a124:=Tryz.isAgg124
 z124:=Tryz.sizeOf124
 v124:=Tryz.zeroValue124
 t68:=Tryz.underlying68
 a68:=Tryz.isAgg68
 z68:=Tryz.sizeOf68
 v68:=Tryz.zeroValue68

end Go.Proofs.YtdobeghbkonimaaGreatDoor

namespace Go.Proofs.YtdobeghbkonimaaGreatDoor.StableM
open Go.Sort

section
variable {α κ : Type} [DecidableEq κ] (key : α→κ)

def ofK (s : κ) (x : List α) : List α:=x.filter fun a=>decide (key a = s)

def SameK (x y : List α) : Prop:=∀ s,ofK key s x = ofK key s y

variable {key}

theorem SameK.refl (x : List α) : SameK key x x:=fun _=>rfl
theorem SameK.trans {x y z : List α} (h : SameK key x y) (k : SameK key y z) : SameK key x z:=fun s=>(h s).trans (k s)

theorem ofK_append (s : κ) (x y : List α) : ofK key s (x ++ y) = ofK key s x ++ ofK key s y:=List.filter_append ..

theorem SameK.append {x x' y y' : List α} (h : SameK key x x') (k : SameK key y y') : SameK key (x ++ y) (x' ++ y'):=fun s=>by
 rw [ofK_append,ofK_append,h s,k s]

theorem ofK_none {s : κ} {x : List α} (h : ∀ a∈x,key a ≠ s) : ofK key s x = []:=by
 unfold ofK
 rw [List.filter_eq_nil_iff]
 intro a ha q
 exact h a ha (of_decide_eq_true q)

theorem SameK.comm {x y : List α} (h : ∀ a∈x,∀ b∈y,key a ≠ key b) : SameK key (x ++ y) (y ++ x):=fun s=>by
 rw [ofK_append,ofK_append]
 by_cases q : ∃ a∈x,key a = s
 ·obtain ⟨a,ha,rfl⟩:=q
  rw [ofK_none (x:=y) fun b hb e=>h a ha b hb e.symm,List.append_nil,List.nil_append]
 ·rw [ofK_none (x:=x) fun a ha e=>q ⟨a,ha,e⟩,List.append_nil,List.nil_append]

theorem mem_ofK {s : κ} {x : List α} {a : α} : a∈ofK key s x ↔ a∈x∧key a = s:=by
 unfold ofK
 rw [List.mem_filter,decide_eq_true_iff]

theorem SameK.mem {x y : List α} (h : SameK key x y) (a : α) : a∈x ↔ a∈y:=by
 have e:=h (key a)
 constructor
 ·intro q
  have : a∈ofK key (key a) y:=by rw [← e]; exact mem_ofK.2 ⟨q,rfl⟩
  exact (mem_ofK.1 this).1
 ·intro q
  have : a∈ofK key (key a) x:=by rw [e]; exact mem_ofK.2 ⟨q,rfl⟩
  exact (mem_ofK.1 this).1

theorem SameK.inner {p x y z : List α} (h : SameK key (p ++ x ++ z) (p ++ y ++ z)) : SameK key x y:=fun s=>by
 have:=h s
 rw [ofK_append,ofK_append,ofK_append,ofK_append] at this
 exact List.append_cancel_left (List.append_cancel_right this)

variable (lt : κ→κ→Bool)

structure Lin : Prop where
 irrefl : ∀ a,lt a a = false
 trans : ∀ {a b c},lt a b = true→lt b c = true→lt a c = true
 total : ∀ {a b},lt a b = false→a ≠ b→lt b a = true

variable {lt}

omit [DecidableEq κ] in
theorem Lin.asymm (L : Lin lt) {a b : κ} (h : lt a b = true) : lt b a = false:=by
 cases q : lt b a with
 | false=>rfl
 | true=>have:=L.trans h q; rw [L.irrefl] at this; cases this

omit [DecidableEq κ] in
theorem Lin.ne (L : Lin lt) {a b : κ} (h : lt a b = true) : a ≠ b:=fun e=>by rw [e,L.irrefl] at h; cases h

theorem Lin.ntrans (L : Lin lt) {a b c : κ} (h : lt b a = false) (k : lt c b = false) : lt c a = false:=by
 cases q : lt c a with
 | false=>rfl
 | true =>
  by_cases e : b = a
  ·subst e; rw [q] at k; cases k
  ·have h1:=L.total h e
   have:=L.trans q h1
   rw [this] at k; cases k

theorem Lin.le_lt (L : Lin lt) {a b c : κ} (h : lt b a = false) (k : lt b c = true) : lt a c = true:=by
 by_cases e : b = a
 ·subst e; exact k
 ·exact L.trans (L.total h e) k

theorem Lin.lt_le (L : Lin lt) {a b c : κ} (h : lt a b = true) (k : lt c b = false) : lt a c = true:=by
 by_cases e : c = b
 ·subst e; exact h
 ·exact L.trans h (L.total k e)

theorem Lin.swo (L : Lin lt) (key : α→κ) : SWO fun x y : α=>lt (key x) (key y) where
 irrefl _:=L.irrefl _
 trans _ _ _ h k:=L.trans h k
 ntrans _ _ _ h k:=L.ntrans k h

variable (key lt)

def Up (x : List α) : Prop:=x.Pairwise fun a b=>lt (key b) (key a) = false

variable {key lt}

omit [DecidableEq κ] in
theorem Up.append {x y : List α} : Up key lt (x ++ y) ↔ Up key lt x∧Up key lt y∧∀ a∈x,∀ b∈y,lt (key b) (key a) = false:=List.pairwise_append

theorem merge_two (L : Lin lt) {l1 l2 r1 r2 m1 m2 : List α} (hl : Up key lt (l1 ++ l2)) (hr : Up key lt (r1 ++ r2)) (h1 : ∀ a∈r1,∀ b∈l2,lt (key a) (key b) = true) (h2 : ∀ a∈l1,∀ b∈r2,lt (key b) (key a) = false)
  (s1 : SameK key m1 (l1 ++ r1)) (s2 : SameK key m2 (l2 ++ r2)) (u1 : Up key lt m1) (u2 : Up key lt m2) : SameK key (m1 ++ m2) (l1 ++ l2 ++ (r1 ++ r2))∧Up key lt (m1 ++ m2):=by
 constructor
 ·have e1 : SameK key (r1 ++ l2) (l2 ++ r1):=SameK.comm fun a ha b hb=>L.ne (h1 a ha b hb)
  have e2 : SameK key (l1 ++ (r1 ++ l2) ++ r2) (l1 ++ (l2 ++ r1) ++ r2):=((SameK.refl _).append e1).append (SameK.refl _)
  refine (s1.append s2).trans ?_
  simpa only [List.append_assoc] using e2
 ·refine Up.append.2 ⟨u1,u2,fun a ha b hb=>?_⟩
  obtain ⟨l1u,l2u,lx⟩:=Up.append.1 hl
  obtain ⟨r1u,r2u,rx⟩:=Up.append.1 hr
  rcases List.mem_append.1 ((s1.mem a).1 ha) with p | p <;> rcases List.mem_append.1 ((s2.mem b).1 hb) with q | q
  ·exact lx a p b q
  ·exact h2 a p b q
  ·exact L.asymm (h1 a p b q)
  ·exact rx a p b q

theorem merge_left (L : Lin lt) {x : α} {r1 r2 : List α} (hr : Up key lt (r1 ++ r2)) (h1 : ∀ a∈r1,lt (key a) (key x) = true) (h2 : ∀ b∈r2,lt (key b) (key x) = false) :
  SameK key (r1 ++ x :: r2) (x :: (r1 ++ r2))∧Up key lt (r1 ++ x :: r2):=by
 obtain ⟨u1,u2,ux⟩:=Up.append.1 hr
 constructor
 ·have e : SameK key (r1 ++ [x]) ([x] ++ r1):=SameK.comm fun a ha b hb=>by rw [List.mem_singleton.1 hb]; exact L.ne (h1 a ha)
  have:=e.append (SameK.refl r2)
  simpa only [List.append_assoc,List.singleton_append,List.cons_append,List.nil_append] using this
 ·refine Up.append.2 ⟨u1,List.pairwise_cons.2 ⟨h2,u2⟩,fun a ha b hb=>?_⟩
  rcases List.mem_cons.1 hb with rfl | q
  ·exact L.asymm (h1 a ha)
  ·exact ux a ha b q

theorem merge_right (L : Lin lt) {y : α} {l1 l2 : List α} (hl : Up key lt (l1 ++ l2)) (h1 : ∀ a∈l1,lt (key y) (key a) = false) (h2 : ∀ b∈l2,lt (key y) (key b) = true) :
  SameK key (l1 ++ y :: l2) (l1 ++ l2 ++ [y])∧Up key lt (l1 ++ y :: l2):=by
 obtain ⟨u1,u2,ux⟩:=Up.append.1 hl
 constructor
 ·have e : SameK key ([y] ++ l2) (l2 ++ [y]):=SameK.comm fun a ha b hb=>by rw [List.mem_singleton.1 ha]; exact L.ne (h2 b hb)
  have:=(SameK.refl l1).append e
  simpa only [List.append_assoc,List.singleton_append] using this
 ·refine Up.append.2 ⟨u1,List.pairwise_cons.2 ⟨fun b hb=>L.asymm (h2 b hb),u2⟩,fun a ha b hb=>?_⟩
  rcases List.mem_cons.1 hb with rfl | q
  ·exact h1 a ha
  ·exact ux a ha b q

variable (key)

def adjK : Option κ→List α→List α
 | _,[]=>[]
 | p,a :: l=>if p = some (key a) then adjK (some (key a)) l else a :: adjK (some (key a)) l

variable {key}

theorem adj_mem (L : Lin lt) : ∀ (y : List α) (p : Option κ),(∀ q,p = some q→∀ b∈y,lt (key b) q = false)→Up key lt y→∀ a,a∈adjK key p y ↔ (p ≠ some (key a)∧(ofK key (key a) y).head? = some a)
 | [],_,_,_,a=>by simp [adjK,ofK]
 | b :: l,p,hp,hu,a=>by
  obtain ⟨h1,h2⟩:=List.pairwise_cons.1 hu
  have hq : ∀ q,some (key b) = some q→∀ c∈l,lt (key c) q = false:=fun q e c hc=>by cases e; exact h1 c hc
  have IH:=adj_mem L l (some (key b)) hq h2 a
  have hf : ofK key (key a) (b :: l) = if key b = key a then b :: ofK key (key a) l else ofK key (key a) l:=by
   unfold ofK
   rw [List.filter_cons]
   by_cases e : key b = key a <;> simp [e]
  unfold adjK
  rw [hf]
  by_cases e : p = some (key b)
  ·rw [if_pos e,IH,e]
   by_cases q : key b = key a
   ·rw [q]; simp
   ·rw [if_neg q]
  ·rw [if_neg e,List.mem_cons,IH]
   by_cases q : key b = key a
   ·rw [if_pos q,List.head?_cons]
    constructor
    ·rintro (r | ⟨r,_⟩)
     ·subst r; exact ⟨e,rfl⟩
     ·rw [q] at r; exact absurd rfl r
    ·rintro ⟨_,r⟩
     exact Or.inl (Option.some.inj r).symm
   ·rw [if_neg q]
    have hba : a ≠ b:=fun r=>q (by rw [r])
    constructor
    ·rintro (r | ⟨_,r⟩)
     ·exact absurd r hba
     ·refine ⟨fun e2=>?_,r⟩
      have hm : a∈l:=(mem_ofK.1 (List.mem_of_mem_head? r)).1
      have k1:=hp _ e2 b (List.mem_cons_self ..)
      have k2:=h1 a hm
      exact q (by
       cases k3 : lt (key b) (key a) with
       | true=>rw [k3] at k1; cases k1
       | false=>exact Classical.byContradiction fun k4=>by rw [L.total k3 k4] at k2; cases k2)
    ·rintro ⟨_,r⟩
     exact Or.inr ⟨fun e2=>q (Option.some.inj e2),r⟩

theorem adj_sub : ∀ (y : List α) (p : Option κ),∀ a∈adjK key p y,a∈y
 | [],_,_,h=>nomatch h
 | b :: l,p,a,h=>by
  unfold adjK at h
  split at h
  ·exact List.mem_cons_of_mem _ (adj_sub l _ a h)
  ·rcases List.mem_cons.1 h with rfl | h
   ·exact List.mem_cons_self ..
   ·exact List.mem_cons_of_mem _ (adj_sub l _ a h)

theorem adj_rises (L : Lin lt) : ∀ (y : List α) (p : Option κ),(∀ q,p = some q→∀ b∈y,lt (key b) q = false)→Up key lt y→(adjK key p y).Pairwise fun a b=>lt (key a) (key b) = true
 | [],_,_,_=>List.Pairwise.nil
 | b :: l,p,hp,hu=>by
  obtain ⟨h1,h2⟩:=List.pairwise_cons.1 hu
  have hq : ∀ q,some (key b) = some q→∀ c∈l,lt (key c) q = false:=fun q e c hc=>by cases e; exact h1 c hc
  have IH:=adj_rises L l (some (key b)) hq h2
  unfold adjK
  split
  ·exact IH
  ·refine List.pairwise_cons.2 ⟨fun c hc=>?_,IH⟩
   have hm:=adj_sub l _ c hc
   have:=((adj_mem L l (some (key b)) hq h2 c).1 hc).1
   exact L.total (h1 c hm) fun e=>this (by rw [e])

theorem adj_snoc : ∀ (l : List α) (p : Option κ) (a : α),adjK key p (l ++ [a]) = adjK key p l ++ (if (match l.getLast? with | none=>p | some b=>some (key b)) = some (key a) then [] else [a])
 | [],p,a=>by
  show (if p = some (key a) then adjK key (some (key a)) [] else a :: adjK key (some (key a)) []) = [] ++ _
  rfl
 | b :: l,p,a=>by
  rw [List.cons_append]
  unfold adjK
  rw [adj_snoc l (some (key b)) a]
  have e : (match (b :: l).getLast? with | none=>p | some b=>some (key b)) = (match l.getLast? with | none=>some (key b) | some b=>some (key b)):=by
   rw [List.getLast?_cons]
   cases l.getLast? <;> rfl
  rw [e]
  split <;> rfl

theorem adj_len : ∀ (l : List α) (p : Option κ),(adjK key p l).length≤l.length
 | [],_=>Nat.le_refl _
 | b :: l,p=>by
  unfold adjK
  have:=adj_len l (some (key b))
  split <;> simp only [List.length_cons] <;> omega

variable [Inhabited α]

omit [DecidableEq κ] in
theorem get_list (d : Array α) {x : List α} (h : d.toList = x) (i : Nat) (hi : i < x.length) : d[i]! = x[i]:=by
 subst h
 rw [getElem!_pos d i (by simpa using hi),Array.getElem_toList]

theorem swp_list (d : Array α) {p q r : List α} {x y : α} (h : d.toList = p ++ x :: (q ++ y :: r)) (i j : Nat) (hi : i = p.length) (hj : j = p.length + 1 + q.length) :
  (swp d i j).toList = p ++ y :: (q ++ x :: r)∧(swp d j i).toList = p ++ y :: (q ++ x :: r):=by
 subst hi; subst hj
 have ei : d[p.length]! = x:=by rw [get_list d h _ (by simp)]; simp
 have ej : d[p.length + 1 + q.length]! = y:=by
  rw [get_list d h _ (by simp; omega)]
  rw [List.getElem_append_right (by omega)]
  simp only [show p.length + 1 + q.length - p.length = q.length + 1 by omega,List.getElem_cons_succ]
  simp
 have s1 : ∀ (z : α) (t : List α),(p ++ z :: t).set p.length = fun v=>p ++ v :: t:=fun z t=>by
  funext v
  rw [List.set_append_right _ _ (Nat.le_refl _),Nat.sub_self,List.set_cons_zero]
 have s2 : ∀ (u z v : α) (t : List α),(p ++ u :: (q ++ z :: t)).set (p.length + 1 + q.length) v = p ++ u :: (q ++ v :: t):=fun u z v t=>by
  rw [List.set_append_right _ _ (by omega),show p.length + 1 + q.length - p.length = q.length + 1 by omega,List.set_cons_succ,List.set_append_right _ _ (Nat.le_refl _),Nat.sub_self,List.set_cons_zero]
 unfold swp
 rw [ei,ej]
 constructor
 ·rw [Array.toList_setIfInBounds,Array.toList_setIfInBounds,h,s1,s2]
 ·rw [Array.toList_setIfInBounds,Array.toList_setIfInBounds,h,s2,s1]

variable {f : α→α→Bool}

omit [Inhabited α] in
theorem split_two {x : List α} {j : Nat} (h : j + 1 < x.length) : x = x.take j ++ x[j] :: x[j + 1] :: x.drop (j + 2):=by
 have e1 : x.drop j = x[j] :: x.drop (j + 1):=List.drop_eq_getElem_cons (by omega)
 have e2 : x.drop (j + 1) = x[j + 1] :: x.drop (j + 1 + 1):=List.drop_eq_getElem_cons h
 rw [← e2,← e1,List.take_append_drop]

theorem swp_same (hf : ∀ x y,f x y = true→key x ≠ key y) (d : Array α) (j : Nat) (h : j + 1 < d.size) (hl : f d[j + 1]! d[j]! = true) : SameK key (swp d (j + 1) j).toList d.toList:=by
 have hj : j + 1 < d.toList.length:=by simpa using h
 have e:=split_two hj
 have e1 : d[j]! = d.toList[j]:=get_list d rfl j (by omega)
 have e2 : d[j + 1]! = d.toList[j + 1]:=get_list d rfl (j + 1) hj
 rw [e1,e2] at hl
 have hsw:=(swp_list d (p:=d.toList.take j) (q:=[]) (r:=d.toList.drop (j + 2)) e j (j + 1) (by rw [List.length_take]; omega) (by rw [List.length_take]; simp; omega)).2
 rw [hsw]
 conv=>rhs; rw [e]
 have k : SameK key ([d.toList[j + 1]] ++ [d.toList[j]]) ([d.toList[j]] ++ [d.toList[j + 1]]):=SameK.comm fun a ha b hb=>by
  rw [List.mem_singleton.1 ha,List.mem_singleton.1 hb]
  exact hf _ _ hl
 have:=((SameK.refl (d.toList.take j)).append k).append (SameK.refl (d.toList.drop (j + 2)))
 simpa only [List.append_assoc,List.singleton_append,List.nil_append,List.cons_append] using this

theorem inner_same (hf : ∀ x y,f x y = true→key x ≠ key y) (a : Nat) : ∀ (j : Nat) (d : Array α),j < d.size→SameK key (insInner f a j d).toList d.toList
 | 0,d,_=>SameK.refl _
 | j + 1,d,h=>by
  unfold insInner
  by_cases q : (decide (j + 1 > a) && f d[j + 1]! d[j]!) = true
  ·rw [if_pos q]
   rw [Bool.and_eq_true] at q
   exact (inner_same hf a j _ (by rw [swp_size]; omega)).trans (swp_same hf d j h q.2)
  ·rw [if_neg q]; exact SameK.refl _

theorem inner_size (a : Nat) : ∀ (j : Nat) (d : Array α),(insInner f a j d).size = d.size
 | 0,d=>rfl
 | j + 1,d=>by
  unfold insInner
  split
  ·rw [inner_size a j,swp_size]
  ·rfl

theorem outer_same (hf : ∀ x y,f x y = true→key x ≠ key y) (a b : Nat) : ∀ (n i : Nat) (d : Array α),b - i≤n→b≤d.size→SameK key (insOuter f a b i d).toList d.toList
 | 0,i,d,hn,_=>by
  rw [insOuter,if_neg (by omega)]
  exact SameK.refl _
 | n + 1,i,d,hn,hb=>by
  rw [insOuter]
  split
  ·exact (outer_same hf a b n (i + 1) _ (by omega) (by rw [inner_size]; exact hb)).trans (inner_same hf a i d (by omega))
  ·exact SameK.refl _

theorem insertion_list (L : Lin lt) (hf : ∀ x y,f x y = lt (key x) (key y)) (d : Array α) {p x z : List α} (h : d.toList = p ++ x ++ z) (a b : Nat) (ha : a = p.length) (hb : b = p.length + x.length) :
  ∃ y,(insertionSort f d a b).toList = p ++ y ++ z∧y.length = x.length∧SameK key y x∧Up key lt y:=by
 have hff : f = fun x y=>lt (key x) (key y):=by funext x y; exact hf x y
 have hO : SWO f:=by rw [hff]; exact L.swo key
 have hsz : d.size = p.length + x.length + z.length:=by rw [← Array.length_toList,h]; simp; omega
 obtain ⟨⟨hs,ho,_⟩,hsd⟩:=insertionSort_holds hO d a b (by omega) (by omega)
 have hsame : SameK key (insertionSort f d a b).toList d.toList:=outer_same (fun x y q=>by rw [hf] at q; exact L.ne q) a b (b - (a + 1)) (a + 1) d (Nat.le_refl _) (by omega)
 generalize insertionSort f d a b = d' at hs ho hsd hsame
 have hl' : d'.toList.length = p.length + x.length + z.length:=by rw [Array.length_toList,hs,hsz]
 have e1 : d'.toList.take p.length = p:=by
  apply List.ext_getElem
  ·rw [List.length_take]; omega
  ·intro i h1 h2
   rw [List.getElem_take]
   have:=ho i (Or.inl (by omega))
   rw [get_list d' rfl i (by omega),get_list d h i (by simp; omega)] at this
   rw [this,List.getElem_append_left (by simp; omega),List.getElem_append_left h2]
 have e2 : d'.toList.drop (p.length + x.length) = z:=by
  apply List.ext_getElem
  ·rw [List.length_drop]; omega
  ·intro i h1 h2
   rw [List.getElem_drop]
   have:=ho (p.length + x.length + i) (Or.inr (by omega))
   rw [get_list d' rfl _ (by omega),get_list d h _ (by simp; omega)] at this
   rw [this,List.getElem_append_right (by simp)]
   congr 1
   simp
 have e3 : d'.toList = p ++ (d'.toList.drop p.length).take x.length ++ z:=by
  rw [← e2]
  conv=>lhs; rw [← List.take_append_drop p.length d'.toList,e1]
  rw [List.append_assoc]
  congr 1
  rw [← List.drop_drop,List.take_append_drop]
 have hlen : ((d'.toList.drop p.length).take x.length).length = x.length:=by rw [List.length_take,List.length_drop]; omega
 refine ⟨_,e3,hlen,?_,?_⟩
 ·rw [e3,h] at hsame
  exact hsame.inner
 ·generalize (d'.toList.drop p.length).take x.length = y at e3 hlen
  refine List.pairwise_iff_getElem.2 fun i j hi hj hij=>?_
  have q:=hsd (p.length + i) (p.length + j) (by omega) (by omega) (by omega)
  rw [hf,get_list d' e3 _ (by simp; omega),get_list d' e3 _ (by simp; omega)] at q
  simpa [List.getElem_append_left,List.getElem_append_right,hi,hj] using q

end

end Go.Proofs.YtdobeghbkonimaaGreatDoor.StableM

namespace Go.Proofs.YtdobeghbkonimaaGreatDoor
open Go.RowKit Go.Shelf Go.Sort Go.Lib StableM

section
variable {P : Program} {k : Nat} {α : Type} [Inhabited α]

omit [Inhabited α] in
theorem range_split {A X B Y Z : List α} {n i : Nat} (hX : X.length = n) (hY : Y.length = n) (hi : i < n) :
  A ++ (Y.take i ++ X.drop i) ++ B ++ (X.take i ++ Y.drop i) ++ Z = (A ++ Y.take i) ++ (X[i]'(by omega)) :: ((X.drop (i + 1) ++ B ++ X.take i) ++ (Y[i]'(by omega)) :: (Y.drop (i + 1) ++ Z)) ∧
  A ++ (Y.take (i + 1) ++ X.drop (i + 1)) ++ B ++ (X.take (i + 1) ++ Y.drop (i + 1)) ++ Z = (A ++ Y.take i) ++ (Y[i]'(by omega)) :: ((X.drop (i + 1) ++ B ++ X.take i) ++ (X[i]'(by omega)) :: (Y.drop (i + 1) ++ Z)):=by
 have h1 : i < X.length:=by omega
 have h2 : i < Y.length:=by omega
 constructor
 ·rw [List.drop_eq_getElem_cons h1,List.drop_eq_getElem_cons h2]
  simp only [List.append_assoc,List.cons_append]
 ·rw [List.take_succ_eq_append_getElem h1,List.take_succ_eq_append_getElem h2]
  simp only [List.append_assoc,List.cons_append,List.nil_append]

set_option maxHeartbeats 4000000 in
set_option maxRecDepth 1000000 in
theorem swapRange_in (L : SortIn P k) (enc : α→List Value) (fv : Value) (blk off cap : Nat) (d0 d : Array α) (w0 w : World) (R : RowK enc k w0 blk off d0) (hs : d.size = d0.size) (S : SWK enc k w0 blk off d w)
  (a b n : Nat) (A X B Y Z : List α) (hd : d.toList = A ++ X ++ B ++ Y ++ Z) (ha : a = A.length) (hb : b = A.length + n + B.length) (hX : X.length = n) (hY : Y.length = n) (hsz : d.size < 4611686018427387904) :
  Calls P 203 #[.slice (some ⟨blk,off,none⟩) d.size cap,.int .i64 a,.int .i64 b,.int .i64 n,fv] w fun e w'=>e = .returned (.tuple #[])∧∃ d' : Array α,d'.size = d.size∧d'.toList = A ++ Y ++ B ++ X ++ Z∧SWK enc k w0 blk off d' w':=by
 obtain ⟨mixed,fSwap,fRot,fMerge,fStable,aE,zE,t0,a0,z0,v0,t3,a3,z3,v3,t4,a4,z4,v4,t22,a22,z22,v22,t124,a124,z124,v124,t68,a68,z68,v68⟩:=L
 have S0 : Aside (SWK enc k w0 blk off d w):=S
 have hds : A.length + n + B.length + n + Z.length = d.size:=by
  have:=congrArg List.length hd
  simp only [List.length_append,Array.length_toList] at this
  omega
 have HD : Aside (d.toList = A ++ X ++ B ++ Y ++ Z):=hd
 have HE : Aside (a = A.length∧b = A.length + n + B.length∧X.length = n∧Y.length = n∧d.size = d0.size∧A.length + n + B.length + n + Z.length = d.size):=⟨ha,hb,hX,hY,hs,hds⟩
 have hn62 : n < 4611686018427387904:=by omega
 clear S hd ha hb hX hY hs hds
 go_enter fSwap,Tryz.ntmps203
 go_wp2
 go_loopg [10] n (fun kx s wr=>∃ (i : Nat) (dk : Array α),s = .int .i64 i∧i≤n∧n - i≤kx∧dk.size = d.size∧Aside (dk.toList = A ++ (Y.take i ++ X.drop i) ++ B ++ (X.take i ++ Y.drop i) ++ Z)∧Aside (SWK enc k w0 blk off dk wr))
 case atStart=>exact ⟨0,d,by go_num,by omega,by omega,rfl,by show _ = _; rw [HD.out]; simp,S0⟩
 case round =>
  clear S0 HD
  obtain ⟨i,dk,rfl,hi,hkx,hdk,hl,S1⟩:=hrel
  have HK : Aside (dk.size = d.size):=hdk
  clear hdk
  by_cases hlt : i < n
  ·have hltz : (i : Int) < (n : Int):=by omega
   obtain ⟨ha,hb,hX,hY,hs,hds⟩:=HE.out
   have hdk:=HK.out
   have hl2 : Aside ((swp dk (a + i) (b + i)).toList = A ++ (Y.take (i + 1) ++ X.drop (i + 1)) ++ B ++ (X.take (i + 1) ++ Y.drop (i + 1)) ++ Z):=by
    obtain ⟨e1,e2⟩:=range_split (A:=A) (B:=B) (Z:=Z) hX hY hlt
    have e3:=(swp_list dk (hl.out.trans e1) (a + i) (b + i) (by simp; omega) (by simp; omega)).1
    exact e3.trans e2.symm
   clear hl
   have ea1 : ((a : Int) + (i : Int)).toNat = a + i:=by omega
   have pa1 : (0 : Int)≤(a : Int) + (i : Int):=by omega
   have ba1 : (a : Int) + (i : Int) < (d.size : Int):=by omega
   have ra1 : IntKind.i64.wrap ((a : Int) + (i : Int)) = (a : Int) + (i : Int):=by rw [IntKind.wrap_i64]; omega
   have ec1 : ((b : Int) + (i : Int)).toNat = b + i:=by omega
   have pc1 : (0 : Int)≤(b : Int) + (i : Int):=by omega
   have bc1 : (b : Int) + (i : Int) < (d.size : Int):=by omega
   have rc1 : IntKind.i64.wrap ((b : Int) + (i : Int)) = (b : Int) + (i : Int):=by rw [IntKind.wrap_i64]; omega
   have S2 : Aside (SWK enc k w0 blk off (swp dk (a + i) (b + i)) ((wr.drew.setCells blk (off + (a + i) * k) (enc dk[b + i]!)).setCells blk (off + (b + i) * k) (enc dk[a + i]!))):=S1.out.swapped R (a + i) (b + i) (by omega) (by omega)
   have la1:=S1.out.ld1 R (by omega) P (a + i) (by omega)
   have lb1:=S1.out.ld1 R (by omega) P (b + i) (by omega)
   have sa1:=S1.out.st1 R (by omega) P (a + i) (by omega) dk[b + i]!
   have sb1:=S1.out.st2 R (by omega) P (a + i) (b + i) (by omega) (by omega) dk[b + i]! dk[a + i]!
   have na1 : (enc dk[a + i]!).length = k:=R.hk _
   have nb1 : (enc dk[b + i]!).length = k:=R.hk _
   generalize enc dk[a + i]! = cI1 at S2 la1 sb1 na1
   generalize enc dk[b + i]! = cJ1 at S2 lb1 sa1 sb1 nb1
   clear S1 ha hb hX hY hs hds hdk
   go_wp2_with fail
   go_big_region_o
   clear la1 lb1 sa1 sb1 ea1 pa1 ba1 ra1 ec1 pc1 bc1 rc1 na1 nb1
   generalize (wr.drew.setCells blk (off + (a + i) * k) cJ1).setCells blk (off + (b + i) * k) cI1 = w2 at S2 ⊢
   go_wp2
   go_roundg (n - (i + 1))
   case measure=>omega
   case rel =>
    obtain ⟨ha,hb,hX,hY,hs,hds⟩:=HE.out
    exact ⟨i + 1,swp dk (a + i) (b + i),by go_num,by omega,Nat.le_refl _,by rw [size_swp]; exact HK.out,hl2,S2⟩
  ·have hltz : ¬ (i : Int) < (n : Int):=by omega
   go_wp2
   go_end0
   refine ⟨rfl,dk,HK.out,?_,S1.out⟩
   have e : i = n:=by omega
   obtain ⟨ha,hb,hX,hY,hs,hds⟩:=HE.out
   rw [hl.out,e,List.take_of_length_le (by omega),List.take_of_length_le (by omega),List.drop_of_length_le (by omega),List.drop_of_length_le (by omega)]
   simp

set_option maxHeartbeats 4000000 in
set_option maxRecDepth 1000000 in
theorem rotate_in (L : SortIn P k) (enc : α→List Value) (fv : Value) (blk off cap : Nat) (d0 d : Array α) (w0 w : World) (R : RowK enc k w0 blk off d0) (hs : d.size = d0.size) (S : SWK enc k w0 blk off d w)
  (a m b : Nat) (A X Y Z : List α) (hd : d.toList = A ++ X ++ Y ++ Z) (ha : a = A.length) (hm : m = A.length + X.length) (hb : b = A.length + X.length + Y.length) (hX : 0 < X.length) (hY : 0 < Y.length) (hsz : d.size < 4611686018427387904) :
  Calls P 172 #[.slice (some ⟨blk,off,none⟩) d.size cap,.int .i64 a,.int .i64 m,.int .i64 b,fv] w fun e w'=>e = .returned (.tuple #[])∧∃ d' : Array α,d'.size = d.size∧d'.toList = A ++ Y ++ X ++ Z∧SWK enc k w0 blk off d' w':=by
 have LL:=L
 obtain ⟨mixed,fSwap,fRot,fMerge,fStable,aE,zE,t0,a0,z0,v0,t3,a3,z3,v3,t4,a4,z4,v4,t22,a22,z22,v22,t124,a124,z124,v124,t68,a68,z68,v68⟩:=L
 have eS : ∀ args w,(callFunc 203 args).run P w = .ok (.enter 203 args) w:=enters_of fSwap (by kernel_rfl) rfl
 have S0 : Aside (SWK enc k w0 blk off d w):=S
 have hds : A.length + X.length + Y.length + Z.length = d.size:=by
  have:=congrArg List.length hd
  simp only [List.length_append,Array.length_toList] at this
  omega
 have HD : Aside (d.toList = A ++ X ++ Y ++ Z):=hd
 have HE : Aside (a = A.length∧m = A.length + X.length∧b = A.length + X.length + Y.length∧d.size = d0.size∧A.length + X.length + Y.length + Z.length = d.size):=⟨ha,hm,hb,hs,hds⟩
 have hm1 : X.length≤m:=by omega
 have hm2 : m + Y.length≤d.size:=by omega
 have e1 : (m : Int) - (a : Int) = (X.length : Int):=by omega
 have e2 : (b : Int) - (m : Int) = (Y.length : Int):=by omega
 have hml : m < 4611686018427387904:=by omega
 have hxl : X.length < 4611686018427387904:=by omega
 have hyl : Y.length < 4611686018427387904:=by omega
 clear S hd ha hm hb hs hds
 obtain ⟨x0,hx0⟩ : ∃ x,x = X.length:=⟨_,rfl⟩
 obtain ⟨y0,hy0⟩ : ∃ y,y = Y.length:=⟨_,rfl⟩
 rw [← hx0] at e1 hX hm1 hxl
 rw [← hy0] at e2 hY hm2 hyl
 have HXY : Aside (x0 = X.length∧y0 = Y.length):=⟨hx0,hy0⟩
 clear hx0 hy0
 go_enter fRot,Tryz.ntmps172
 go_wp2
 go_loopg [10,11] (x0 + y0) (fun kx s t wr=>∃ (i j : Nat) (dk : Array α) (A1 X1 Y1 Z1 : List α),s = .int .i64 i∧t = .int .i64 j∧0 < i∧0 < j∧i + j≤kx∧i≤x0∧j≤y0∧Aside (dk.size = d.size)∧Aside (dk.toList = A1 ++ X1 ++ Y1 ++ Z1∧A1 ++ Y1 ++ X1 ++ Z1 = A ++ Y ++ X ++ Z∧X1.length = i∧Y1.length = j∧A1.length + i = m)∧Aside (SWK enc k w0 blk off dk wr))
 case atStart =>
  obtain ⟨h1,h2⟩:=HXY.out
  obtain ⟨ha,hm,hb,hs,hds⟩:=HE.out
  exact ⟨x0,y0,d,A,X,Y,Z,by go_num,by go_num,by omega,by omega,by omega,by omega,by omega,rfl,⟨HD.out,rfl,by omega,by omega,by omega⟩,S0⟩
 case round =>
  clear S0 HD
  obtain ⟨i,j,dk,A1,X1,Y1,Z1,rfl,rfl,hi0,hj0,hkx,hix,hjy,HK,HL,S1⟩:=hrel
  have w1 : (m : Int) - (i : Int) = ((m - i : Nat) : Int):=by omega
  rcases Nat.lt_trichotomy i j with hij | hij | hij
  ·have n1 : ¬ (i : Int) = (j : Int):=by omega
   have n2 : ¬ (j : Int) < (i : Int):=by omega
   have w2 : (m : Int) + (j : Int) - (i : Int) = ((m + j - i : Nat) : Int):=by omega
   have HC : Hid (Calls P 203 #[.slice (some ⟨blk,off,none⟩) d.size cap,.int .i64 ((m - i : Nat) : Int),.int .i64 ((m + j - i : Nat) : Int),.int .i64 (i : Int),fv] wr fun e w'=>e = .returned (.tuple #[])∧∃ d' : Array α,d'.size = d.size∧d'.toList = A1 ++ Y1.drop (j - i) ++ Y1.take (j - i) ++ X1 ++ Z1∧SWK enc k w0 blk off d' w'):=by
    obtain ⟨l1,l2,l3,l4,l5⟩:=HL.out
    have hk:=HK.out
    have hs:=HE.out.2.2.2.1
    have e9 : ∀ u v : List α,Y1 = u ++ v→A1 ++ X1 ++ Y1 ++ Z1 = A1 ++ X1 ++ u ++ v ++ Z1:=fun u v h=>by rw [h]; simp only [List.append_assoc]
    have hY1 : Y1 = Y1.take (j - i) ++ Y1.drop (j - i):=(List.take_append_drop _ _).symm
    have:=swapRange_in LL enc fv blk off cap d0 dk w0 wr R (hk.trans hs) S1.out (m - i) (m + j - i) i A1 X1 (Y1.take (j - i)) (Y1.drop (j - i)) Z1 (l1.trans (e9 _ _ hY1)) (by omega) (by rw [List.length_take]; omega) l3 (by rw [List.length_drop]; omega) (by omega)
    rw [hk] at this
    exact this
   go_wp2_with (go_at_fn 203; refine HC.out.mono ?_; rintro e w5 ⟨rfl,d5,hd5,hl5,hS5⟩)
   have S5 : Aside (SWK enc k w0 blk off d5 w5):=hS5
   have HK5 : Aside (d5.size = d.size):=hd5
   have HL5 : Aside (d5.toList = A1 ++ Y1.drop (j - i) ++ Y1.take (j - i) ++ X1 ++ Z1):=hl5
   clear hS5 hd5 hl5 HC S1
   go_wp2
   go_roundg (i + (j - i))
   case measure=>omega
   case rel =>
    obtain ⟨l1,l2,l3,l4,l5⟩:=HL.out
    refine ⟨i,j - i,d5,A1,Y1.drop (j - i),Y1.take (j - i),X1 ++ Z1,rfl,by go_num,by omega,by omega,by omega,by omega,by omega,HK5,⟨?_,?_,by rw [List.length_drop]; omega,by rw [List.length_take]; omega,l5⟩,S5⟩
    ·rw [HL5.out]; simp only [List.append_assoc]
    ·rw [← l2]
     conv=>rhs; rw [← List.take_append_drop (j - i) Y1]
     simp only [List.append_assoc]
  ·subst hij
   have HC : Hid (Calls P 203 #[.slice (some ⟨blk,off,none⟩) d.size cap,.int .i64 ((m - i : Nat) : Int),.int .i64 (m : Int),.int .i64 (i : Int),fv] wr fun e w'=>e = .returned (.tuple #[])∧∃ d' : Array α,d'.size = d.size∧d'.toList = A ++ Y ++ X ++ Z∧SWK enc k w0 blk off d' w'):=by
    obtain ⟨l1,l2,l3,l4,l5⟩:=HL.out
    have hk:=HK.out
    have hs:=HE.out.2.2.2.1
    have:=swapRange_in LL enc fv blk off cap d0 dk w0 wr R (hk.trans hs) S1.out (m - i) m i A1 X1 [] Y1 Z1 (by rw [l1]; simp) (by omega) (by simp; omega) l3 l4 (by omega)
    rw [hk,List.append_nil,l2] at this
    exact this
   go_wp2_with (go_at_fn 203; refine HC.out.mono ?_; rintro e w5 ⟨rfl,d5,hd5,hl5,hS5⟩)
   go_end0
   exact ⟨rfl,d5,hd5,hl5,hS5⟩
  ·have n1 : ¬ (i : Int) = (j : Int):=by omega
   have n2 : (j : Int) < (i : Int):=by omega
   have HC : Hid (Calls P 203 #[.slice (some ⟨blk,off,none⟩) d.size cap,.int .i64 ((m - i : Nat) : Int),.int .i64 (m : Int),.int .i64 (j : Int),fv] wr fun e w'=>e = .returned (.tuple #[])∧∃ d' : Array α,d'.size = d.size∧d'.toList = A1 ++ Y1 ++ X1.drop j ++ X1.take j ++ Z1∧SWK enc k w0 blk off d' w'):=by
    obtain ⟨l1,l2,l3,l4,l5⟩:=HL.out
    have hk:=HK.out
    have hs:=HE.out.2.2.2.1
    have e9 : ∀ u v : List α,X1 = u ++ v→A1 ++ X1 ++ Y1 ++ Z1 = A1 ++ u ++ v ++ Y1 ++ Z1:=fun u v h=>by rw [h]; simp only [List.append_assoc]
    have hX1 : X1 = X1.take j ++ X1.drop j:=(List.take_append_drop _ _).symm
    have:=swapRange_in LL enc fv blk off cap d0 dk w0 wr R (hk.trans hs) S1.out (m - i) m j A1 (X1.take j) (X1.drop j) Y1 Z1 (l1.trans (e9 _ _ hX1)) (by omega) (by rw [List.length_drop]; omega) (by rw [List.length_take]; omega) l4 (by omega)
    rw [hk] at this
    exact this
   go_wp2_with (go_at_fn 203; refine HC.out.mono ?_; rintro e w5 ⟨rfl,d5,hd5,hl5,hS5⟩)
   have S5 : Aside (SWK enc k w0 blk off d5 w5):=hS5
   have HK5 : Aside (d5.size = d.size):=hd5
   have HL5 : Aside (d5.toList = A1 ++ Y1 ++ X1.drop j ++ X1.take j ++ Z1):=hl5
   clear hS5 hd5 hl5 HC S1
   go_wp2
   go_roundg (i - j + j)
   case measure=>omega
   case rel =>
    obtain ⟨l1,l2,l3,l4,l5⟩:=HL.out
    refine ⟨i - j,j,d5,A1 ++ Y1,X1.drop j,X1.take j,Z1,by go_num,rfl,by omega,by omega,by omega,by omega,by omega,HK5,⟨?_,?_,by rw [List.length_drop]; omega,by rw [List.length_take]; omega,by rw [List.length_append]; omega⟩,S5⟩
    ·rw [HL5.out]
    ·rw [← l2]
     conv=>rhs; rw [← List.take_append_drop j X1]
     simp only [List.append_assoc]

end

end Go.Proofs.YtdobeghbkonimaaGreatDoor
