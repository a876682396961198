/-
 Arguments of layer 13's statements, opened: besides those of layer 11, a slice of bytes.
-/
import Derived.Test.YtnnnkaobhkeocaaGreatDoorZ15
import Derived.Test.YtnnnkaobhkeocaaGreatDoorZ15
namespace Go.Proofs.YtnnnkaobhkeocaaGreatDoor
open Go.ChangeShapes Go.WideShapes Go.RowKit StampMath GraphMath OpMath PackMath
variable {H:Type}{enc:TypeId×Value->H}
def U8sIn(W:World)(B:Nat)(A:Option Addr)(n:Nat)(l:List Int):Prop:=TabIn 1 W B A n (l.map fun x=>#[.int .u8 x])
set_option maxRecDepth 100000 in
theorem open_u8s{w:World}{v:Value}{d:DataW H}{p:List MemPlace}{r:Reach}{b0:Nat}(hv:Value.okWide Tryz.prog w r b0 61 v)(h:DataW.Trod enc Tryz.prog w 0 (fun _=>true) true 61 v d p):
  ∃(A:Option Addr)(n c:Nat)(l:List Int),v=.slice A n c/\n<=c/\c<=maxLen/\(∀x∈l,(Lit.int .u8 x).wf=true)/\U8sIn w w.heap.size A n l:=by
 obtain⟨A,n,c,l,h1,h2,h3,h4,h5,_⟩:=open_tab (fun x:Int=>#[.int .u8 x]) (fun x=>(Lit.int .u8 x).wf=true) 0 (k:=1) (by omega) (fun _=>rfl) Tryz.underlying61 (by kernel_rfl) (fun{n cs y} hl ht=>by
  match cs,hl with
  | [c0],_=>
   obtain⟨a,e0,_,q⟩:=DataW.trod_int Tryz.underlying5 ht;simp at e0;subst e0
   exact⟨a,rfl,q⟩) hv h
 exact⟨A,n,c,l,h1,h2,h3,h4,h5⟩
end Go.Proofs.YtnnnkaobhkeocaaGreatDoor
