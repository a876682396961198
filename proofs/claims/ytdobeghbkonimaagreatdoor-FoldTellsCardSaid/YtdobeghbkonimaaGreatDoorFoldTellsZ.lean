/-
 What is folded is what the document folds: the order, the putting, how many lie below, and the graphs: for all lists of operations (60 at most), all operations and all stamps (made by gen_foldtells.py).
-/
import Derived.Test.YtdobeghbkonimaaGreatDoorZX09
import Derived.Test.YtdobeghbkonimaaGreatDoorZ12
import Derived.Test.YtdobeghbkonimaaGreatDoorZ12
import Derived.Test.YtdobeghbkonimaaGreatDoorZ12
import Derived.Test.YtdobeghbkonimaaGreatDoorZ12
import Derived.Test.YtdobeghbkonimaaGreatDoorZ12
import Derived.Test.YtdobeghbkonimaaGreatDoorTie
import Derived.Test.YtdobeghbkonimaaGreatDoorCards
namespace Go.Proofs.YtdobeghbkonimaaGreatDoor.lawFoldTells
open Go.RowKit StampMath GraphMath OpMath PackMath

theorem walk (a0A : Option Addr) (a0n : Nat) (a0c : Nat) (a0x : List Opn) (a1 : Opn) (a2 : St) (a3A : Option Addr) (a3n : Nat) (a3c : Nat) (a3x : List Opn) (w : World) (w0a : a0n≤a0c) (w0b : a0c≤maxLen) (w0x : ∀ x∈a0x,OpFit x) (w0d : OpsIn w w.heap.size a0A a0n a0x) (w1 : Ok64 a1) (w1a : a1.name.size≤maxLen) (w1b : a1.new.size≤maxLen) (w1c : a1.data.size≤maxLen) (w3a : a3n≤a3c) (w3b : a3c≤maxLen) (w3x : ∀ x∈a3x,OpFit x) (w3d : OpsIn w w.heap.size a3A a3n a3x) [Tab w] :
  Calls Tryz.prog 3 #[.slice a0A a0n a0c,.agg (opA a1),.agg (stA a2),.slice a3A a3n a3c] w fun e w'=>e = .returned (.bool true)∧Below w.heap.size w w' :=
 walk0 foldHave applyHave a0A a0n a0c a0x a1 a2 a3A a3n a3c a3x w w0a w0b w0x w0d w1 w1a w1b w1c w3a w3b w3x w3d
end Go.Proofs.YtdobeghbkonimaaGreatDoor.lawFoldTells

namespace Go.Proofs.YtdobeghbkonimaaGreatDoor.lawFoldTells
open Go.ChangeShapes Go.WideShapes Go.ChangeAt Go.RowKit
open Go.ChangeMaps (open_string shut_string)

theorem own : ownKnob Tryz.prog.godebug = none:=by kernel_rfl
theorem laidOut : laidOutB Tryz.prog = true:=by kernel_rfl

set_option maxRecDepth 100000 in
theorem lifted (os : Os) (started : os.Started) (H : Type) (enc : TypeId × Value→H) :
  ReturnsInHanded {} Tryz.checked os 3 .any (fun w args=>(Rows.foldTellsSpec.pre enc Tryz.prog Tryz.f3 [] false w args∧laidMetH Tryz.prog [("thimble/op.fields",Rows.laid_thimble_op_fields)] w)∧sizedMet enc Tryz.prog Tryz.f3 (OpenSpec.ofChange Rows.foldTellsSpec) false w args)
   (Rows.foldTellsSpec.post enc Tryz.prog Tryz.f3 false true false false):=by
 refine returnsInHanded_of_change_and (C:=Tryz.checked) (X:=fun w _=>laidMetH Tryz.prog [("thimble/op.fields",Rows.laid_thimble_op_fields)] w) (fun _ _ _ hh h=>h.of_heap hh) own started (by kernel_rfl) Tryz.func3
  (ChangeSpec.witness_shaped (enc:=enc) (C:=Tryz.checked) (os:=os) (X:=fun w _=>laidMetH Tryz.prog [("thimble/op.fields",Rows.laid_thimble_op_fields)] w) false (World.doorLaid Tryz.prog 400 os) #[.slice none 0 0,.agg #[.int .i64 0,.int .i64 0,.int .i64 0,.int .i64 0,.int .i64 0,.int .i64 0,.int .i64 0,.int .i64 0,.int .i64 0,.string ByteArray.empty,.string ByteArray.empty,.int .i64 0,.string ByteArray.empty],.agg #[.int .i64 0,.int .i64 0],.slice none 0 0] 8 rfl (World.shaped_of_RefB (by kernel_rfl) (by kernel_rfl)) (by kernel_rfl) (by kernel_rfl) (by kernel_rfl) (tab_met os _)) ?_
 intro W base args ds gs before hval0 hW _ _ hL _
 have hval : ∀ (j : Nat) t v,Tryz.f3.params[j]? = some t→args[j]? = some v→Value.okWide Tryz.prog W .any base t v:=hval0
 have hW':=hW
 obtain ⟨p,q,hA0,hV,rfl,hfz,hnd⟩:=hW
 have hA : DataW.TrodAll enc Tryz.prog W 0 (fun _=>true) true Tryz.f3.params.toList args.toList ds p:=hA0
 rw [Tryz.params3] at hA hval
 obtain ⟨v0,vs0,d0,ds0,p0,q0,hargs,rfl,rfl,h0,r0⟩:=trodAll_cons hA
 obtain ⟨v1,vs1,d1,ds1,p1,q1,rfl,rfl,rfl,h1,r1⟩:=trodAll_cons r0
 obtain ⟨v2,vs2,d2,ds2,p2,q2,rfl,rfl,rfl,h2,r2⟩:=trodAll_cons r1
 obtain ⟨v3,vs3,d3,ds3,p3,q3,rfl,rfl,rfl,h3,r3⟩:=trodAll_cons r2
 obtain ⟨rfl,rfl,rfl⟩:=trodAll_nil r3
 obtain rfl : args = #[v0,v1,v2,v3]:=by cases args; simp_all
 obtain ⟨rfl,rfl⟩:=trodVars_none hV
 have k0:=h0
 have lt0 : ∀ x∈p0,x.block < W.heap.size:=by obtain ⟨m,hm⟩:=k0; exact DataW.trod_lt m _ _ _ hm
 obtain ⟨a0A,a0n,a0c,a0x,rfl,w0a,w0b,w0x,w0d⟩:=open_ops (hval 0 22 v0 rfl rfl) h0
 have k1:=h1
 have lt1 : ∀ x∈p1,x.block < W.heap.size:=by obtain ⟨m,hm⟩:=k1; exact DataW.trod_lt m _ _ _ hm
 obtain ⟨a1,rfl,w1,w1a,w1b,w1c⟩:=open_op (hval 1 26 v1 rfl rfl) h1
 have k2:=h2
 have lt2 : ∀ x∈p2,x.block < W.heap.size:=by obtain ⟨m,hm⟩:=k2; exact DataW.trod_lt m _ _ _ hm
 obtain ⟨a2,rfl⟩:=open_st (hval 2 24 v2 rfl rfl) h2
 have k3:=h3
 have lt3 : ∀ x∈p3,x.block < W.heap.size:=by obtain ⟨m,hm⟩:=k3; exact DataW.trod_lt m _ _ _ hm
 obtain ⟨a3A,a3n,a3c,a3x,rfl,w3a,w3b,w3x,w3d⟩:=open_ops (hval 3 22 v3 rfl rfl) h3
 clear hA0 hval0
 simp only [List.append_nil] at hW'
 have iW:=tab_of_laid hL
 refine (walk a0A a0n a0c a0x a1 a2 a3A a3n a3c a3x W w0a w0b w0x w0d w1 w1a w1b w1c w3a w3b w3x w3d).mono fun e W' ⟨he,hb⟩=>?_
 subst he
 exact ⟨_,rfl,_,_,_,[],_,[],hW',trodAll_mk1 (shut_bool Tryz.underlying4 _),(trodAll_cons_mk (Below.trod laidOut (by kernel_rfl) (of_decide_eq_true (by kernel_rfl)) k0 hb lt0) (trodAll_cons_mk (Below.trod laidOut (by kernel_rfl) (of_decide_eq_true (by kernel_rfl)) k1 hb lt1) (trodAll_cons_mk (Below.trod laidOut (by kernel_rfl) (of_decide_eq_true (by kernel_rfl)) k2 hb lt2) (trodAll_cons_mk (Below.trod laidOut (by kernel_rfl) (of_decide_eq_true (by kernel_rfl)) k3 hb lt3) trodAll_mk0)))),rfl,hb.frame _,fun h=>by cases h⟩

theorem said : Rows.FoldTellsSaid :=
 OpenClaim.holds_of_wide 3 Tryz.f3 rfl rfl rfl rfl rfl rfl rfl ⟨rfl,rfl,rfl,rfl,rfl⟩ rfl rfl rfl rfl rfl (by kernel_rfl) Tryz.func3 (by kernel_rfl)
  (of_decide_eq_true (by kernel_rfl)) (by unfold Func.isWrapper; first | (rw [if_pos (by decide +kernel)]; kernel_rfl) | (rw [if_neg (by decide +kernel)]; exact ⟨rfl,rfl⟩))
  (fun os started H enc _=>lifted os started H enc)

theorem proved : Rows.FoldTellsCardSaid :=
  Claim7.holds_tied_plain_at .later [] [.data] true _ _
    said (fun _ h => by cases h) (by kernel_rfl) (fun _ h => by cases h) foldTells_row_tie rfl ⟨rfl, rfl⟩ (by kernel_rfl) rfl
    (fun f fn hf hfn => by
      obtain rfl : f = 3 := Option.some.inj ((show Tryz.prog.funcNamed "thimble/thimblelaw13.FoldTells" = some 3 by kernel_rfl).symm.trans hf) |>.symm
      obtain rfl : fn = Tryz.f3 := (Option.some.inj (Tryz.func3.symm.trans hfn)).symm
      exact ⟨by kernel_rfl, fun j t ht => by
        rw [Tryz.params3] at ht
        have hm : t ∈ [22, 26, 24, 22] := by simpa using Array.mem_of_getElem? ht
        have hall : ([22, 26, 24, 22].all fun u => !Tryz.prog.wantsStandIn u) = true := by kernel_rfl
        exact (show Tryz.prog.wantsStandIn t = false by simpa using List.all_eq_true.1 hall t hm)⟩)
    (by kernel_rfl)
#print axioms proved
end Go.Proofs.YtdobeghbkonimaaGreatDoor.lawFoldTells
