/-
 Arguments of layer 14's statements, opened: besides those of layers 11 and 13, a slice of deeds.
-/
import Derived.Test.YtnnnkaobhkeocaaGreatDoorZ15
namespace Go.Proofs.YtnnnkaobhkeocaaGreatDoor
open Go.ChangeShapes Go.WideShapes Go.RowKit StampMath GraphMath OpMath PackMath
variable {H:Type}{enc:TypeId×Value->H}
theorem odd_trod{w:World}{n:Nat}{c0 c1 c2 c3 c4 c5 c6 c7 c8 c9 c10 c11 c12 c13:Value}{y:DataW H×List MemPlace}(h:DataW.trod enc Tryz.prog w 0 (fun _=>true) true n 39 [c0,c1,c2,c3,c4,c5,c6,c7,c8,c9,c10,c11,c12,c13]=some y):
  ∃d:Opn×Bool,#[c0,c1,c2,c3,c4,c5,c6,c7,c8,c9,c10,c11,c12,c13]=ddoA d/\OpFit d.1:=by
 have hC1:Tryz.prog.cellsOf 37=13:=by kernel_rfl
 have hC2:Tryz.prog.cellsOf 4=1:=by kernel_rfl
 obtain⟨xs,m,_,_,_,hlen,hg⟩:=DataW.trod_struct Tryz.underlying39 h
 match xs,hlen with
 | [y0,y1],_=>
  have g0:DataW.trod enc Tryz.prog w 0 (fun _=>true) true m 37 (([c0,c1,c2,c3,c4,c5,c6,c7,c8,c9,c10,c11,c12,c13].drop 0).take (Tryz.prog.cellsOf 37))=some y0:=hg 0 _ rfl;have g1:DataW.trod enc Tryz.prog w 0 (fun _=>true) true m 4 (([c0,c1,c2,c3,c4,c5,c6,c7,c8,c9,c10,c11,c12,c13].drop 13).take (Tryz.prog.cellsOf 4))=some y1:=hg 1 _ rfl;rw[hC1] at g0;rw[hC2] at g1;obtain⟨o,he,q1,q2,q3,q4⟩:=op_trod (c0:=c0) (c1:=c1) (c2:=c2) (c3:=c3) (c4:=c4) (c5:=c5) (c6:=c6) (c7:=c7) (c8:=c8) (c9:=c9) (c10:=c10) (c11:=c11) (c12:=c12) g0;obtain⟨b,e1,_⟩:=DataW.trod_bool Tryz.underlying4 g1;simp at e1;simp only[opA,Value.agg.injEq,Array.mk.injEq,List.cons.injEq,and_true] at he;obtain⟨rfl,rfl,rfl,rfl,rfl,rfl,rfl,rfl,rfl,rfl,rfl,rfl,rfl⟩:=he;subst e1;exact⟨(o,b),rfl,⟨q1,q2,q3,q4⟩⟩
set_option maxRecDepth 100000 in
theorem open_odds{w:World}{v:Value}{d:DataW H}{p:List MemPlace}{r:Reach}{b0:Nat}(hv:Value.okWide Tryz.prog w r b0 22 v)(h:DataW.Trod enc Tryz.prog w 0 (fun _=>true) true 22 v d p):
  ∃(A:Option Addr)(n c:Nat)(l:List (Opn×Bool)),v=.slice A n c/\n<=c/\c<=maxLen/\(∀x∈l,OpFit x.1)/\DdoIn w w.heap.size A n l:=by
 obtain⟨A,n,c,l,h1,h2,h3,h4,h5,_⟩:=open_tab ddoA (fun d=>OpFit d.1) (⟨0,0,0,0,0,0,0,0,0,⟨#[]⟩,⟨#[]⟩,0,⟨#[]⟩⟩,false) (k:=14) (by omega) (fun _=>rfl) Tryz.underlying22 (by kernel_rfl) (fun{n cs y} hl ht=>by
  match cs,hl with
  | [c0,c1,c2,c3,c4,c5,c6,c7,c8,c9,c10,c11,c12,c13],_=>
   obtain⟨o,he,q⟩:=odd_trod (c0:=c0) (c1:=c1) (c2:=c2) (c3:=c3) (c4:=c4) (c5:=c5) (c6:=c6) (c7:=c7) (c8:=c8) (c9:=c9) (c10:=c10) (c11:=c11) (c12:=c12) (c13:=c13) ht
   exact⟨o,by rw[<-he],q⟩) hv h
 exact⟨A,n,c,l,h1,h2,h3,h4,h5⟩
end Go.Proofs.YtnnnkaobhkeocaaGreatDoor
