/-
  The landed apply: Why of what may not be, and of no graph; what changes; Do.
-/
import Derived.Test.YtbkijfhfjhpebaaGreatDoorZ10
import Derived.Test.YtbkijfhfjhpebaaGreatDoorZ10
import Derived.Test.YtbkijfhfjhpebaaGreatDoorZ01
import Derived.Test.YtbkijfhfjhpebaaGreatDoorZ00
import Derived.Test.YtbkijfhfjhpebaaGreatDoorRows
import Derived.Deep.DeepCutAuto
import Derived.Lib.BufferWrite
import Derived.Deep.OwnRows
import Derived.ProofKit
import Derived.OpenShut
import Derived.Test.YtbkijfhfjhpebaaGreatDoorZ05
import Derived.Test.YtbkijfhfjhpebaaGreatDoorZ07
import Derived.Deep.LoopGhost
import Derived.Test.YtbkijfhfjhpebaaGreatDoorZ04
import Derived.Maps.AppendAt
import Derived.Test.YtbkijfhfjhpebaaGreatDoorZ03
import Derived.Test.YtbkijfhfjhpebaaGreatDoorZ03
import Derived.Deep.Slices
import Derived.Deep.Strs
import Derived.ChangeSame
import Derived.Lib.SmallJoins
import Derived.SevenTiedAt
import Derived.LaidMore
import Derived.Lay
import Derived.Stop.Joined
namespace Go.Proofs.YtbkijfhfjhpebaaGreatDoor
open Go.RowKit StampMath GraphMath OpMath PackMath ExtentMath

set_option maxRecDepth 100000 in
theorem whyBad (a : Addr) (g : Gr) (o : Opn) (w : World) [Tab w] (hm : mayO o = false) (hf : OpFit o) :
    Calls Tryz.prog 63 #[.pointer (some a), .agg (opA o)] w fun e w' => e = .returned (.int .i64 (whyA g o)) ∧ Below w.heap.size w w' := by
  have hw : whyA g o = 1 := by unfold whyA; rw [if_pos hm]
  rw [hw]
  have HM : Hid (∀ (W : World) [Tab W], Calls Tryz.prog 58 #[.agg #[.int .i64 o.st, .int .i64 o.sr, .int .i64 o.k, .int .i64 o.pt, .int .i64 o.pr, .int .i64 o.it, .int .i64 o.ir, .int .i64 o.tt, .int .i64 o.tr, .string o.name, .string o.new, .int .i64 o.off, .string o.data]] W fun e w' => e = .returned (.bool false) ∧ Below W.heap.size W w') := Lib.hid fun W _ => by rw [← hm]; exact opMay_any o W hf.ok hf.name hf.new hf.data
  have hS0 : Held w [(w.heap.size, .cells (opA o) 56 (0, 0))] (w.alloc (.cells (opA o) 56)) := (Held.refl w).alloc (.cells (opA o) 56) rfl
  have i0 : Tab (w.alloc (.cells (opA o) 56)) := inferInstance
  clear hm hf hw
  unfold opA
  go_enter Tryz.func63, Tryz.ntmps63
  go_upto_region 1 with fail
  change Code.wp _ _ _ _ (w.alloc (.cells (opA o) 56))
  generalize w.alloc (.cells (opA o) 56) = w0 at hS0 i0 ⊢
  obtain ⟨e0, e1, e2, e3, e4, e5, e6, e7, e8, e9, e10, e11, e12⟩ := op_cells (o := o) (g := w.heap.size) (hS0.at 0 rfl)
  go_wp2_with fail
  refine (HM.out _).mono ?_
  rintro e w1 ⟨rfl, hb1⟩
  have hS1 := hS0.step hb1
  clear hS0 hb1 HM
  go_wp2_with fail
  go_ret
  exact ⟨rfl, hS1.below⟩

set_option maxRecDepth 100000 in
theorem whyNil (o : Opn) (w : World) :
    Calls Tryz.prog 63 #[.pointer none, .agg (opA o)] w fun e w' => e = .returned (.int .i64 1) ∧ Below w.heap.size w w' := by
  unfold opA
  go_enter Tryz.func63, Tryz.ntmps63
  go_wp2_with fail
  go_ret
  exact ⟨rfl, (Below.refl _ _).alloc (Nat.le_refl _) _⟩

theorem why_code (H : GraphHave) (a : Addr) (S : Nat → Prop) (g : Gr) (o : Opn) (w : World) [Tab w] (h : H.rep w S a g) (hg : g.ok) (hf : OpFit o) :
    Calls Tryz.prog 63 #[.pointer (some a), .agg (opA o)] w fun e w' => e = .returned (.int .i64 (whyA g o)) ∧ Below w.heap.size w w' := by
  cases hm : mayO o with
  | true => exact whyGood H a S g o w h hg hm hf
  | false => exact whyBad a g o w hm hf

section
variable {H : GraphHave} {w W0 W : World} {N : Nat → Prop} {a : Addr} {g : Gr} {L : List (Nat × Obj)}

theorem DX.did (h : DX H w W0 W N a g L) {f : FuncId} {args : Array Value} {g' : Gr} (k : Calls Tryz.prog f args W (Did H w W (fun i => N i ∨ ∃ p ∈ L, p.1 = i) a g')) :
    Calls Tryz.prog f args W fun e w' => e = .returned (.tuple #[]) ∧ DX H w W0 w' N a g' L := k.mono fun _ _ ⟨he, q⟩ => ⟨he, h.call q⟩

end

set_option maxRecDepth 100000 in
set_option maxHeartbeats 3200000 in
theorem change_code (H : GraphHave) (XH : ExtentHave) (w W0 : World) (N : Nat → Prop) (a : Addr) (g : Gr) (o : Opn) (h : GX H w W0 N a g) (hf : g.fine) (hw : whyA g o = 0) (ho : OpFit o) :
    Calls Tryz.prog 64 #[.agg (deedA a o)] W0 (Did H w W0 N a (madeA g o)) := by
  have hm := whyA_may hw
  obtain ⟨p1, p2, _⟩ := mayO_parts hm
  have hD0 := (DX.start h).alloc (.cells (deedA a o) 110) rfl
  have HP := Lib.hid (And.intro hf (And.intro hw ho))
  clear hf hw ho hm h
  unfold Did
  rcases show o.k = 1 ∨ o.k = 2 ∨ o.k = 3 ∨ o.k = 4 ∨ o.k = 5 ∨ o.k = 6 ∨ o.k = 7 ∨ o.k = 8 ∨ o.k = 9 ∨ o.k = 10 by omega with q | q | q | q | q | q | q | q | q | q
  · -- kind 1
    have HK : Hid (∀ W, DX H w W0 W N a g [(W0.heap.size, .cells (deedA a o) 110)] → Calls Tryz.prog 86 #[.agg (deedA a o)] W fun e w' => e = .returned (.tuple #[]) ∧ DX H w W0 w' N a (madeA g o) [(W0.heap.size, .cells (deedA a o) 110)]) := Lib.hid fun W hW => hW.did (add_code H w W _ a g o hW.gx HP.out.2.2.name (by omega) (by omega))
    have k1 : (o.k == 1) = true := by rw [q]; rfl
    have k2 : (o.k == 2) = false := by rw [q]; rfl
    have k3 : (o.k == 3) = false := by rw [q]; rfl
    have k4 : (o.k == 4) = false := by rw [q]; rfl
    have k5 : (o.k == 5) = false := by rw [q]; rfl
    have k6 : (o.k == 6) = false := by rw [q]; rfl
    have k7 : (o.k == 7) = false := by rw [q]; rfl
    have k8 : (o.k == 8) = false := by rw [q]; rfl
    have k9 : (o.k == 9) = false := by rw [q]; rfl
    have k10 : (o.k == 10) = false := by rw [q]; rfl
    clear q p1 p2 HP
    go_enter Tryz.func64, Tryz.ntmps64
    go_upto_region 1 with fail
    change Code.wp _ _ _ _ (W0.alloc (.cells (deedA a o) 110))
    generalize W0.alloc (.cells (deedA a o) 110) = w0 at hD0 ⊢
    obtain ⟨d0, d1, d2, d3, d4, d5, d6, d7, d8, d9, d10, d11, d12, d13⟩ := deed_cells (g := W0.heap.size) (hD0.at 0 rfl)
    go_wp2_with fail
    refine (HK.out _ hD0).mono ?_
    rintro e w1 ⟨rfl, hD1⟩
    go_wp2_with fail
    exact bodyPost_end (results_none rfl _ _ _) rfl ⟨rfl, hD1.fin⟩
  · -- kind 2
    have HK : Hid (∀ W, DX H w W0 W N a g [(W0.heap.size, .cells (deedA a o) 110)] → Calls Tryz.prog 86 #[.agg (deedA a o)] W fun e w' => e = .returned (.tuple #[]) ∧ DX H w W0 w' N a (madeA g o) [(W0.heap.size, .cells (deedA a o) 110)]) := Lib.hid fun W hW => hW.did (add_code H w W _ a g o hW.gx HP.out.2.2.name (by omega) (by omega))
    have k1 : (o.k == 1) = false := by rw [q]; rfl
    have k2 : (o.k == 2) = true := by rw [q]; rfl
    have k3 : (o.k == 3) = false := by rw [q]; rfl
    have k4 : (o.k == 4) = false := by rw [q]; rfl
    have k5 : (o.k == 5) = false := by rw [q]; rfl
    have k6 : (o.k == 6) = false := by rw [q]; rfl
    have k7 : (o.k == 7) = false := by rw [q]; rfl
    have k8 : (o.k == 8) = false := by rw [q]; rfl
    have k9 : (o.k == 9) = false := by rw [q]; rfl
    have k10 : (o.k == 10) = false := by rw [q]; rfl
    clear q p1 p2 HP
    go_enter Tryz.func64, Tryz.ntmps64
    go_upto_region 1 with fail
    change Code.wp _ _ _ _ (W0.alloc (.cells (deedA a o) 110))
    generalize W0.alloc (.cells (deedA a o) 110) = w0 at hD0 ⊢
    obtain ⟨d0, d1, d2, d3, d4, d5, d6, d7, d8, d9, d10, d11, d12, d13⟩ := deed_cells (g := W0.heap.size) (hD0.at 0 rfl)
    go_wp2_with fail
    refine (HK.out _ hD0).mono ?_
    rintro e w1 ⟨rfl, hD1⟩
    go_wp2_with fail
    exact bodyPost_end (results_none rfl _ _ _) rfl ⟨rfl, hD1.fin⟩
  · -- kind 3
    have HK : Hid (∀ W, DX H w W0 W N a g [(W0.heap.size, .cells (deedA a o) 110)] → Calls Tryz.prog 86 #[.agg (deedA a o)] W fun e w' => e = .returned (.tuple #[]) ∧ DX H w W0 w' N a (madeA g o) [(W0.heap.size, .cells (deedA a o) 110)]) := Lib.hid fun W hW => hW.did (add_code H w W _ a g o hW.gx HP.out.2.2.name (by omega) (by omega))
    have k1 : (o.k == 1) = false := by rw [q]; rfl
    have k2 : (o.k == 2) = false := by rw [q]; rfl
    have k3 : (o.k == 3) = true := by rw [q]; rfl
    have k4 : (o.k == 4) = false := by rw [q]; rfl
    have k5 : (o.k == 5) = false := by rw [q]; rfl
    have k6 : (o.k == 6) = false := by rw [q]; rfl
    have k7 : (o.k == 7) = false := by rw [q]; rfl
    have k8 : (o.k == 8) = false := by rw [q]; rfl
    have k9 : (o.k == 9) = false := by rw [q]; rfl
    have k10 : (o.k == 10) = false := by rw [q]; rfl
    clear q p1 p2 HP
    go_enter Tryz.func64, Tryz.ntmps64
    go_upto_region 1 with fail
    change Code.wp _ _ _ _ (W0.alloc (.cells (deedA a o) 110))
    generalize W0.alloc (.cells (deedA a o) 110) = w0 at hD0 ⊢
    obtain ⟨d0, d1, d2, d3, d4, d5, d6, d7, d8, d9, d10, d11, d12, d13⟩ := deed_cells (g := W0.heap.size) (hD0.at 0 rfl)
    go_wp2_with fail
    refine (HK.out _ hD0).mono ?_
    rintro e w1 ⟨rfl, hD1⟩
    go_wp2_with fail
    exact bodyPost_end (results_none rfl _ _ _) rfl ⟨rfl, hD1.fin⟩
  · -- kind 4
    have HE := Lib.hid (link_made (g := g) q)
    have HK : Hid (∀ W, DX H w W0 W N a g [(W0.heap.size, .cells (deedA a o) 110)] → Calls Tryz.prog 87 #[.pointer (some a), .agg #[.int .i64 o.pt, .int .i64 o.pr, .string o.name, .int .i64 o.it, .int .i64 o.ir]] W fun e w' => e = .returned (.int .i64 (tieG (nameB o.name) g ⟨oAt o, o.name, oIno o⟩).2) ∧ DX H w W0 w' N a (tieG (nameB o.name) g ⟨oAt o, o.name, oIno o⟩).1 [(W0.heap.size, .cells (deedA a o) 110)]) := Lib.hid fun W hW => hW.tie (o.pt, o.pr) o.name (o.it, o.ir) HP.out.2.2.name
    generalize (tieG (nameB o.name) g ⟨oAt o, o.name, oIno o⟩).2 = er at HK
    have k1 : (o.k == 1) = false := by rw [q]; rfl
    have k2 : (o.k == 2) = false := by rw [q]; rfl
    have k3 : (o.k == 3) = false := by rw [q]; rfl
    have k4 : (o.k == 4) = true := by rw [q]; rfl
    have k5 : (o.k == 5) = false := by rw [q]; rfl
    have k6 : (o.k == 6) = false := by rw [q]; rfl
    have k7 : (o.k == 7) = false := by rw [q]; rfl
    have k8 : (o.k == 8) = false := by rw [q]; rfl
    have k9 : (o.k == 9) = false := by rw [q]; rfl
    have k10 : (o.k == 10) = false := by rw [q]; rfl
    clear q p1 p2 HP
    go_enter Tryz.func64, Tryz.ntmps64
    go_upto_region 1 with fail
    change Code.wp _ _ _ _ (W0.alloc (.cells (deedA a o) 110))
    generalize W0.alloc (.cells (deedA a o) 110) = w0 at hD0 ⊢
    obtain ⟨d0, d1, d2, d3, d4, d5, d6, d7, d8, d9, d10, d11, d12, d13⟩ := deed_cells (g := W0.heap.size) (hD0.at 0 rfl)
    go_wp2_with fail
    refine (HK.out _ hD0).mono ?_
    rintro e w1 ⟨rfl, hD1⟩
    go_wp2_with fail
    exact bodyPost_end (results_none rfl _ _ _) rfl ⟨rfl, by rw [HE.out]; exact hD1.fin⟩
  · -- kind 5
    have HE := Lib.hid (take_made (g := g) (show o.k = 5 ∨ o.k = 6 by omega))
    have HK : Hid (∀ W, DX H w W0 W N a g [(W0.heap.size, .cells (deedA a o) 110)] → Calls Tryz.prog 88 #[.agg (deedA a o), .agg #[.int .i64 o.pt, .int .i64 o.pr], .string o.name] W fun e w' => e = .returned (.tuple #[]) ∧ DX H w W0 w' N a (goneG g (oAt o) o.name) [(W0.heap.size, .cells (deedA a o) 110)]) := Lib.hid fun W hW => hW.did (remove_code H w W _ a g o (o.pt, o.pr) o.name hW.gx HP.out.2.2.name)
    have k1 : (o.k == 1) = false := by rw [q]; rfl
    have k2 : (o.k == 2) = false := by rw [q]; rfl
    have k3 : (o.k == 3) = false := by rw [q]; rfl
    have k4 : (o.k == 4) = false := by rw [q]; rfl
    have k5 : (o.k == 5) = true := by rw [q]; rfl
    have k6 : (o.k == 6) = false := by rw [q]; rfl
    have k7 : (o.k == 7) = false := by rw [q]; rfl
    have k8 : (o.k == 8) = false := by rw [q]; rfl
    have k9 : (o.k == 9) = false := by rw [q]; rfl
    have k10 : (o.k == 10) = false := by rw [q]; rfl
    clear q p1 p2 HP
    go_enter Tryz.func64, Tryz.ntmps64
    go_upto_region 1 with fail
    change Code.wp _ _ _ _ (W0.alloc (.cells (deedA a o) 110))
    generalize W0.alloc (.cells (deedA a o) 110) = w0 at hD0 ⊢
    obtain ⟨d0, d1, d2, d3, d4, d5, d6, d7, d8, d9, d10, d11, d12, d13⟩ := deed_cells (g := W0.heap.size) (hD0.at 0 rfl)
    go_wp2_with fail
    refine (HK.out _ hD0).mono ?_
    rintro e w1 ⟨rfl, hD1⟩
    go_wp2_with fail
    exact bodyPost_end (results_none rfl _ _ _) rfl ⟨rfl, by rw [HE.out]; exact hD1.fin⟩
  · -- kind 6
    have HE := Lib.hid (take_made (g := g) (show o.k = 5 ∨ o.k = 6 by omega))
    have HK : Hid (∀ W, DX H w W0 W N a g [(W0.heap.size, .cells (deedA a o) 110)] → Calls Tryz.prog 88 #[.agg (deedA a o), .agg #[.int .i64 o.pt, .int .i64 o.pr], .string o.name] W fun e w' => e = .returned (.tuple #[]) ∧ DX H w W0 w' N a (goneG g (oAt o) o.name) [(W0.heap.size, .cells (deedA a o) 110)]) := Lib.hid fun W hW => hW.did (remove_code H w W _ a g o (o.pt, o.pr) o.name hW.gx HP.out.2.2.name)
    have k1 : (o.k == 1) = false := by rw [q]; rfl
    have k2 : (o.k == 2) = false := by rw [q]; rfl
    have k3 : (o.k == 3) = false := by rw [q]; rfl
    have k4 : (o.k == 4) = false := by rw [q]; rfl
    have k5 : (o.k == 5) = false := by rw [q]; rfl
    have k6 : (o.k == 6) = true := by rw [q]; rfl
    have k7 : (o.k == 7) = false := by rw [q]; rfl
    have k8 : (o.k == 8) = false := by rw [q]; rfl
    have k9 : (o.k == 9) = false := by rw [q]; rfl
    have k10 : (o.k == 10) = false := by rw [q]; rfl
    clear q p1 p2 HP
    go_enter Tryz.func64, Tryz.ntmps64
    go_upto_region 1 with fail
    change Code.wp _ _ _ _ (W0.alloc (.cells (deedA a o) 110))
    generalize W0.alloc (.cells (deedA a o) 110) = w0 at hD0 ⊢
    obtain ⟨d0, d1, d2, d3, d4, d5, d6, d7, d8, d9, d10, d11, d12, d13⟩ := deed_cells (g := W0.heap.size) (hD0.at 0 rfl)
    go_wp2_with fail
    refine (HK.out _ hD0).mono ?_
    rintro e w1 ⟨rfl, hD1⟩
    go_wp2_with fail
    exact bodyPost_end (results_none rfl _ _ _) rfl ⟨rfl, by rw [HE.out]; exact hD1.fin⟩
  · -- kind 7
    have HK : Hid (∀ W, DX H w W0 W N a g [(W0.heap.size, .cells (deedA a o) 110)] → Calls Tryz.prog 89 #[.agg (deedA a o)] W fun e w' => e = .returned (.tuple #[]) ∧ DX H w W0 w' N a (madeA g o) [(W0.heap.size, .cells (deedA a o) 110)]) := Lib.hid fun W hW => hW.did (rename_code H w W _ a g o hW.gx HP.out.2.2.name HP.out.2.2.new q)
    have k1 : (o.k == 1) = false := by rw [q]; rfl
    have k2 : (o.k == 2) = false := by rw [q]; rfl
    have k3 : (o.k == 3) = false := by rw [q]; rfl
    have k4 : (o.k == 4) = false := by rw [q]; rfl
    have k5 : (o.k == 5) = false := by rw [q]; rfl
    have k6 : (o.k == 6) = false := by rw [q]; rfl
    have k7 : (o.k == 7) = true := by rw [q]; rfl
    have k8 : (o.k == 8) = false := by rw [q]; rfl
    have k9 : (o.k == 9) = false := by rw [q]; rfl
    have k10 : (o.k == 10) = false := by rw [q]; rfl
    clear q p1 p2 HP
    go_enter Tryz.func64, Tryz.ntmps64
    go_upto_region 1 with fail
    change Code.wp _ _ _ _ (W0.alloc (.cells (deedA a o) 110))
    generalize W0.alloc (.cells (deedA a o) 110) = w0 at hD0 ⊢
    obtain ⟨d0, d1, d2, d3, d4, d5, d6, d7, d8, d9, d10, d11, d12, d13⟩ := deed_cells (g := W0.heap.size) (hD0.at 0 rfl)
    go_wp2_with fail
    refine (HK.out _ hD0).mono ?_
    rintro e w1 ⟨rfl, hD1⟩
    go_wp2_with fail
    exact bodyPost_end (results_none rfl _ _ _) rfl ⟨rfl, hD1.fin⟩
  · -- kind 8
    have HK : Hid (∀ W, DX H w W0 W N a g [(W0.heap.size, .cells (deedA a o) 110)] → Calls Tryz.prog 90 #[.agg (deedA a o)] W fun e w' => e = .returned (.tuple #[]) ∧ DX H w W0 w' N a (madeA g o) [(W0.heap.size, .cells (deedA a o) 110)]) := Lib.hid fun W hW => hW.did (set_code' H XH w W _ a g o hW.gx HP.out.1 HP.out.2.1 HP.out.2.2 (by omega) (by omega))
    have k1 : (o.k == 1) = false := by rw [q]; rfl
    have k2 : (o.k == 2) = false := by rw [q]; rfl
    have k3 : (o.k == 3) = false := by rw [q]; rfl
    have k4 : (o.k == 4) = false := by rw [q]; rfl
    have k5 : (o.k == 5) = false := by rw [q]; rfl
    have k6 : (o.k == 6) = false := by rw [q]; rfl
    have k7 : (o.k == 7) = false := by rw [q]; rfl
    have k8 : (o.k == 8) = true := by rw [q]; rfl
    have k9 : (o.k == 9) = false := by rw [q]; rfl
    have k10 : (o.k == 10) = false := by rw [q]; rfl
    clear q p1 p2 HP
    go_enter Tryz.func64, Tryz.ntmps64
    go_upto_region 1 with fail
    change Code.wp _ _ _ _ (W0.alloc (.cells (deedA a o) 110))
    generalize W0.alloc (.cells (deedA a o) 110) = w0 at hD0 ⊢
    obtain ⟨d0, d1, d2, d3, d4, d5, d6, d7, d8, d9, d10, d11, d12, d13⟩ := deed_cells (g := W0.heap.size) (hD0.at 0 rfl)
    go_wp2_with fail
    refine (HK.out _ hD0).mono ?_
    rintro e w1 ⟨rfl, hD1⟩
    go_wp2_with fail
    exact bodyPost_end (results_none rfl _ _ _) rfl ⟨rfl, hD1.fin⟩
  · -- kind 9
    have HK : Hid (∀ W, DX H w W0 W N a g [(W0.heap.size, .cells (deedA a o) 110)] → Calls Tryz.prog 90 #[.agg (deedA a o)] W fun e w' => e = .returned (.tuple #[]) ∧ DX H w W0 w' N a (madeA g o) [(W0.heap.size, .cells (deedA a o) 110)]) := Lib.hid fun W hW => hW.did (set_code' H XH w W _ a g o hW.gx HP.out.1 HP.out.2.1 HP.out.2.2 (by omega) (by omega))
    have k1 : (o.k == 1) = false := by rw [q]; rfl
    have k2 : (o.k == 2) = false := by rw [q]; rfl
    have k3 : (o.k == 3) = false := by rw [q]; rfl
    have k4 : (o.k == 4) = false := by rw [q]; rfl
    have k5 : (o.k == 5) = false := by rw [q]; rfl
    have k6 : (o.k == 6) = false := by rw [q]; rfl
    have k7 : (o.k == 7) = false := by rw [q]; rfl
    have k8 : (o.k == 8) = false := by rw [q]; rfl
    have k9 : (o.k == 9) = true := by rw [q]; rfl
    have k10 : (o.k == 10) = false := by rw [q]; rfl
    clear q p1 p2 HP
    go_enter Tryz.func64, Tryz.ntmps64
    go_upto_region 1 with fail
    change Code.wp _ _ _ _ (W0.alloc (.cells (deedA a o) 110))
    generalize W0.alloc (.cells (deedA a o) 110) = w0 at hD0 ⊢
    obtain ⟨d0, d1, d2, d3, d4, d5, d6, d7, d8, d9, d10, d11, d12, d13⟩ := deed_cells (g := W0.heap.size) (hD0.at 0 rfl)
    go_wp2_with fail
    refine (HK.out _ hD0).mono ?_
    rintro e w1 ⟨rfl, hD1⟩
    go_wp2_with fail
    exact bodyPost_end (results_none rfl _ _ _) rfl ⟨rfl, hD1.fin⟩
  · -- kind 10
    have HK : Hid (∀ W, DX H w W0 W N a g [(W0.heap.size, .cells (deedA a o) 110)] → Calls Tryz.prog 90 #[.agg (deedA a o)] W fun e w' => e = .returned (.tuple #[]) ∧ DX H w W0 w' N a (madeA g o) [(W0.heap.size, .cells (deedA a o) 110)]) := Lib.hid fun W hW => hW.did (set_code' H XH w W _ a g o hW.gx HP.out.1 HP.out.2.1 HP.out.2.2 (by omega) (by omega))
    have k1 : (o.k == 1) = false := by rw [q]; rfl
    have k2 : (o.k == 2) = false := by rw [q]; rfl
    have k3 : (o.k == 3) = false := by rw [q]; rfl
    have k4 : (o.k == 4) = false := by rw [q]; rfl
    have k5 : (o.k == 5) = false := by rw [q]; rfl
    have k6 : (o.k == 6) = false := by rw [q]; rfl
    have k7 : (o.k == 7) = false := by rw [q]; rfl
    have k8 : (o.k == 8) = false := by rw [q]; rfl
    have k9 : (o.k == 9) = false := by rw [q]; rfl
    have k10 : (o.k == 10) = true := by rw [q]; rfl
    clear q p1 p2 HP
    go_enter Tryz.func64, Tryz.ntmps64
    go_upto_region 1 with fail
    change Code.wp _ _ _ _ (W0.alloc (.cells (deedA a o) 110))
    generalize W0.alloc (.cells (deedA a o) 110) = w0 at hD0 ⊢
    obtain ⟨d0, d1, d2, d3, d4, d5, d6, d7, d8, d9, d10, d11, d12, d13⟩ := deed_cells (g := W0.heap.size) (hD0.at 0 rfl)
    go_wp2_with fail
    refine (HK.out _ hD0).mono ?_
    rintro e w1 ⟨rfl, hD1⟩
    go_wp2_with fail
    exact bodyPost_end (results_none rfl _ _ _) rfl ⟨rfl, hD1.fin⟩

/-- The same world with nothing in it. -/
def bare (w : World) : World := { w with heap := #[] }

theorem bare_gx {H : GraphHave} {a : Addr} {S : Nat → Prop} {g : Gr} {w : World} (h : H.rep w S a g) (hg : g.ok) : GX H (bare w) w (fun i => i < w.heap.size ∧ ¬ S i) a g :=
  ⟨⟨S, h, fun _ _ => Nat.zero_le _, fun _ hi => hi.2⟩, hg, fun _ hi => hi.1, ⟨rfl, rfl, rfl, Nat.zero_le _, fun k hk => absurd hk (Nat.not_lt_zero k)⟩⟩

theorem gx_bare {H : GraphHave} {a : Addr} {S : Nat → Prop} {g : Gr} {w w' : World} (h : GX H (bare w) w' (fun i => i < w.heap.size ∧ ¬ S i) a g ∧ Same (fun i => i < w.heap.size ∧ ¬ S i) w w') :
    ∃ S', H.rep w' S' a g ∧ (∀ i, S' i → S i ∨ w.heap.size ≤ i) ∧ But S w w' := by
  obtain ⟨⟨⟨S', h1, _, h3⟩, _, _, h6⟩, h7, h8⟩ := h
  refine ⟨S', h1, fun i hi => ?_, ⟨h6.os, h6.tape, h6.output, h7, fun k hk hn => h8 k ⟨hk, hn⟩⟩⟩
  by_cases q : i < w.heap.size
  · by_cases z : S i
    · exact Or.inl z
    · exact absurd hi (h3 i ⟨q, z⟩)
  · exact Or.inr (by omega)

set_option maxRecDepth 100000 in
set_option maxHeartbeats 1600000 in
theorem do_core (H : GraphHave) (XH : ExtentHave) (w W0 : World) (N : Nat → Prop) (a : Addr) (g : Gr) (o : Opn) [Tab W0] (h : GX H w W0 N a g) (hf : g.fine) (ho : OpFit o) :
    Calls Tryz.prog 39 #[.pointer (some a), .agg (opA o)] W0 fun e w' => e = .returned (.int .i64 (doA g o).2) ∧ GX H w w' N a (doA g o).1 ∧ Same N W0 w' := by
  have hD0 := (DX.start h).alloc (.cells (opA o) 56) rfl
  have i0 : Tab (W0.alloc (.cells (opA o) 56)) := inferInstance
  have HW : Hid (∀ (W : World) [Tab W], DX H w W0 W N a g [(W0.heap.size, .cells (opA o) 56)] → Calls Tryz.prog 63 #[.pointer (some a), .agg #[.int .i64 o.st, .int .i64 o.sr, .int .i64 o.k, .int .i64 o.pt, .int .i64 o.pr, .int .i64 o.it, .int .i64 o.ir, .int .i64 o.tt, .int .i64 o.tr, .string o.name, .string o.new, .int .i64 o.off, .string o.data]] W fun e w' => e = .returned (.int .i64 (whyA g o)) ∧ DX H w W0 w' N a g [(W0.heap.size, .cells (opA o) 56)]) := Lib.hid fun W _ hW => by
    obtain ⟨S, h1, _⟩ := hW.gx.at'
    exact (why_code H a S g o W h1 hW.ok ho).mono fun _ _ ⟨he, hb⟩ => ⟨he, hW.step hb⟩
  by_cases hw : whyA g o = 0
  · have HC : Hid (∀ (W : World), DX H w W0 W N a g [(W0.heap.size, .cells (opA o) 56)] → Calls Tryz.prog 64 #[.agg #[.pointer (some a), .int .i64 o.st, .int .i64 o.sr, .int .i64 o.k, .int .i64 o.pt, .int .i64 o.pr, .int .i64 o.it, .int .i64 o.ir, .int .i64 o.tt, .int .i64 o.tr, .string o.name, .string o.new, .int .i64 o.off, .string o.data]] W fun e w' => e = .returned (.tuple #[]) ∧ DX H w W0 w' N a (madeA g o) [(W0.heap.size, .cells (opA o) 56)]) := Lib.hid fun W hW => hW.did (change_code H XH w W _ a g o hW.gx hf hw ho)
    have hdo : doA g o = (madeA g o, 0) := by unfold doA; rw [if_pos hw]
    rw [hdo]
    rw [hw] at HW
    clear hdo hw hf ho h
    unfold opA
    go_enter Tryz.func39, Tryz.ntmps39
    go_upto_region 1 with fail
    change Code.wp _ _ _ _ (W0.alloc (.cells (opA o) 56))
    generalize W0.alloc (.cells (opA o) 56) = w0 at hD0 i0 ⊢
    obtain ⟨e0, e1, e2, e3, e4, e5, e6, e7, e8, e9, e10, e11, e12⟩ := op_cells (o := o) (g := W0.heap.size) (hD0.at 0 rfl)
    go_wp2_with fail
    refine (HW.out _ hD0).mono ?_
    rintro e w1 ⟨rfl, hD1⟩
    clear hD0 i0 HW e0 e1 e2 e3 e4 e5 e6 e7 e8 e9 e10 e11 e12
    obtain ⟨e0, e1, e2, e3, e4, e5, e6, e7, e8, e9, e10, e11, e12⟩ := op_cells (o := o) (g := W0.heap.size) (hD1.at 0 rfl)
    go_wp2_with fail
    refine (HC.out _ hD1).mono ?_
    rintro e w2 ⟨rfl, hD2⟩
    go_wp2_with fail
    go_ret
    exact ⟨rfl, hD2.fin⟩
  · have hdo : doA g o = (g, whyA g o) := by unfold doA; rw [if_neg hw]
    rw [hdo]
    have hz : (whyA g o == 0) = false := beq_eq_false_iff_ne.2 hw
    generalize whyA g o = bad at HW hz ⊢
    clear hdo hf ho h hw
    unfold opA
    go_enter Tryz.func39, Tryz.ntmps39
    go_upto_region 1 with fail
    change Code.wp _ _ _ _ (W0.alloc (.cells (opA o) 56))
    generalize W0.alloc (.cells (opA o) 56) = w0 at hD0 i0 ⊢
    obtain ⟨e0, e1, e2, e3, e4, e5, e6, e7, e8, e9, e10, e11, e12⟩ := op_cells (o := o) (g := W0.heap.size) (hD0.at 0 rfl)
    go_wp2_with fail
    refine (HW.out _ hD0).mono ?_
    rintro e w1 ⟨rfl, hD1⟩
    go_wp2_with fail
    go_ret
    exact ⟨rfl, hD1.fin⟩

set_option maxRecDepth 100000 in
theorem do_nil (o : Opn) (w : World) :
    Calls Tryz.prog 39 #[.pointer none, .agg (opA o)] w fun e w' => e = .returned (.int .i64 1) ∧ Below w.heap.size w w' := by
  have HW : Hid (∀ W : World, Calls Tryz.prog 63 #[.pointer none, .agg #[.int .i64 o.st, .int .i64 o.sr, .int .i64 o.k, .int .i64 o.pt, .int .i64 o.pr, .int .i64 o.it, .int .i64 o.ir, .int .i64 o.tt, .int .i64 o.tr, .string o.name, .string o.new, .int .i64 o.off, .string o.data]] W fun e w' => e = .returned (.int .i64 1) ∧ Below W.heap.size W w') := Lib.hid (whyNil o)
  have hb0 : Below w.heap.size w (w.alloc (.cells (opA o) 56)) := (Below.refl _ _).alloc (Nat.le_refl _) _
  unfold opA at hb0 ⊢
  go_enter Tryz.func39, Tryz.ntmps39
  go_wp2_with fail
  refine (HW.out _).mono ?_
  rintro e w1 ⟨rfl, hb1⟩
  have hb2 := below_step hb0 hb1
  go_wp2_with fail
  go_ret
  exact ⟨rfl, hb2⟩

end Go.Proofs.YtbkijfhfjhpebaaGreatDoor

/-
  Bytes in memory as strings: facts on the types []byte and string of this translation.
-/
namespace Go.Proofs.YtbkijfhfjhpebaaGreatDoor
open Go.RowKit

theorem u8_info : (Tryz.prog.info? 5).map (fun i => (i.zero, i.size, i.bytes)) = some (some (.int .u8 0), 1, 1) := by kernel_rfl

/-- An owned row of bytes as a string. -/
theorem conv_own {w : World} {base n : Nat} {v : Value} {xs : List UInt8} (hown : w.ownsRow base 5 1 v n (xs.map bcell)) (hn : 0 < n) :
    (convert 181 9 v).run Tryz.prog w = .ok (.string ⟨xs.toArray⟩) w := by
  obtain ⟨g, cap, hv, _, _⟩ := hown.form hn
  have hl : xs.length = n := by have := hown.1; simpa using this
  subst hv
  subst hl
  have hc := hown.cells (g := g) rfl
  refine run_convert_bytes_back w _ _ _ _ cap xs Tryz.underlying181 Tryz.underlying5 Tryz.underlying9 (fun j hj => hc j _ ?_)
  rw [List.getElem?_map, List.getElem?_eq_getElem hj]
  rfl

/-- One byte in memory as a string. -/
theorem conv_one (b : Nat) (w : World) (x : UInt8) (hc : w.cell? ⟨b, 0, none⟩ = some (.int .u8 (x.toNat : Int))) :
    (convert 181 9 (.slice (some ⟨b, 0, none⟩) 1 1)).run Tryz.prog w = .ok (.string ⟨[x].toArray⟩) w := by
  refine run_convert_bytes_back w _ _ _ _ 1 [x] Tryz.underlying181 Tryz.underlying5 Tryz.underlying9 (fun j hj => ?_)
  have : j = 0 := by simp at hj; omega
  subst this
  simpa [Addr.add] using hc

end Go.Proofs.YtbkijfhfjhpebaaGreatDoor

/-
  The landed code of package extent: its three calls are what the mathematics says.
-/
namespace Go.Proofs.YtbkijfhfjhpebaaGreatDoor
open Go.RowKit ExtentMath PackMath

/-- A row of bytes in the block g; beneath B all is as it was. -/
def ByteRow (W : World) (B : Nat) (w : World) (g : Nat) (xs : List UInt8) : Prop :=
  W.heap[g]? = some (.cells (xs.map bcell).toArray 5 (0, 0)) ∧ Below B w W ∧ B ≤ g

theorem made_bytes (n : Nat) : madeCells #[.int .u8 0] n = ((List.replicate n (0 : UInt8)).map bcell).toArray := by
  apply Array.ext
  · simp [size_madeCells]
  · intro i h1 h2
    simp [madeCells, Nat.mod_one, bcell]

theorem wpList_make_bytes {w0 w : World} {ops : Array Oper} {rest : List Oper} {o : Oper} {a : Act} {Q : Exit → Act → World → Prop} {B : Nat}
    (hg : o.guard = none) (l c : Operand) (hop : o.op = Op.makeSlice 181 l c) (hb : Below B w0 w) (hB : B ≤ w.heap.size)
    (kl kc : IntKind) (n : Nat) (hl : a.eval l = .int kl (n : Int)) (hc : a.eval c = .int kc (n : Int)) (hn : n ≤ 100)
    (hK : ∀ w', Hid (ByteRow w' B w0 w.heap.size (List.replicate n 0)) → wpList Tryz.prog ops Q rest (a.put o.dst (.slice (some ⟨w.heap.size, 0, none⟩) n n)) w') :
    wpList Tryz.prog ops Q (o :: rest) a w := by
  obtain ⟨i0, hi0, hz0, hz1, hz2⟩ := info_parts u8_info
  refine wpList_make_row w hg l c _ hop 5 i0 (.int .u8 0) Tryz.underlying181 hi0 hz0 hz1 rfl kl kc n hl hc (by rw [hz2]; omega) (by omega) (hK _ ?_)
  refine ⟨?_, hb.alloc hB _, hB⟩
  rw [made_bytes]
  exact Go.Deep.blk_alloc_new _ _

/-- A string's bytes copied into a row: as many as there is room for. -/
theorem run_copy_str (w : World) (dT sT ty elem : TypeId) (g o dLen dCap : Nat) (s : ByteArray) (cur : Array Value) (t : TypeId)
    (hu : Tryz.prog.underlying dT = some (.slice elem)) (hs : (Tryz.prog.info? elem).map (·.size) = some 1) (hg : w.heap[g]? = some (.cells cur t (0, 0))) (hfit : o + min s.size dLen ≤ cur.size) :
    (Builtin.copy_ #[dT, sT] ty #[.slice (some ⟨g, o, none⟩) dLen dCap, .string s]).run Tryz.prog w =
      .ok (goInt ((min s.size dLen : Nat) : Int)) (w.setRow g (cur.toList.take o ++ (s.data.toList.take (min s.size dLen)).map bcell ++ cur.toList.drop (o + min s.size dLen)).toArray) := by
  have hlen : ((s.data.toList.take (min s.size dLen)).map bcell).length = min s.size dLen := by simp
  have hst := run_storeCells_at Tryz.prog g o t ((s.data.toList.take (min s.size dLen)).map bcell) 0 cur w hg (by rw [hlen]; simpa using hfit) (by
    intro v hv
    obtain ⟨b, _, rfl⟩ := List.mem_map.1 hv
    rfl)
  rw [hlen] at hst
  simp only [Nat.add_zero] at hst
  have htk : List.take (Nat.min s.size dLen) (List.map (fun b : UInt8 => Value.int IntKind.u8 (b.toNat : Int)) s.data.toList) = (s.data.toList.take (min s.size dLen)).map bcell := by
    rw [List.map_take]
    rfl
  cases hq : Tryz.prog.info? elem with
  | none => simp [hq] at hs
  | some i =>
    simp [Builtin.copy_, run_underlying hu, Builtin.lenOf, Builtin.firstCells, sizeOf, typeInfo, hq]
    rw [htk, hst]
    simp [Result.andThen]

/-- A row behind a copy. -/
def lay (xs : List UInt8) (o : Nat) (ys : List UInt8) : List UInt8 := xs.take o ++ ys ++ xs.drop (o + ys.length)

theorem lay_len {xs : List UInt8} {o : Nat} {ys : List UInt8} (h : o + ys.length ≤ xs.length) : (lay xs o ys).length = xs.length := by
  unfold lay
  simp
  omega

theorem bAt_lay {xs : List UInt8} {o : Nat} {ys : List UInt8} (h : o + ys.length ≤ xs.length) (i : Nat) : bAt (lay xs o ys) i = if o ≤ i ∧ i < o + ys.length then bAt ys (i - o) else bAt xs i := by
  unfold lay bAt
  simp only [List.getD_eq_getElem?_getD]
  by_cases h1 : i < o
  · rw [if_neg (by omega), List.append_assoc, List.getElem?_append_left (by simp; omega), List.getElem?_take, if_pos h1]
  · by_cases h2 : i < o + ys.length
    · rw [if_pos ⟨by omega, h2⟩, List.append_assoc, List.getElem?_append_right (by simp; omega), List.getElem?_append_left (by simp; omega)]
      congr 2
      simp
      omega
    · rw [if_neg (by omega), List.getElem?_append_right (by simp; omega), List.getElem?_drop]
      congr 2
      simp
      omega

set_option maxRecDepth 100000 in
theorem wpList_copy_str {w0 w : World} {ops : Array Oper} {rest : List Oper} {o : Oper} {a : Act} {Q : Exit → Act → World → Prop} {B : Nat} (hgd : o.guard = none) (d x : Operand)
    (ho : o.op = .call { callee := .builtin .copy, args := #[d, x], argTypes := #[181, 9] }) (g off dLen dCap : Nat) (xs : List UInt8) (hR : Hid (ByteRow w B w0 g xs)) (s : ByteArray)
    (hd : a.eval d = .slice (some ⟨g, off, none⟩) dLen dCap) (hx : a.eval x = .string s) (hfit : off + dLen ≤ xs.length)
    (h : ∀ w', Hid (ByteRow w' B w0 g (lay xs off (s.data.toList.take (min s.size dLen)))) → wpList Tryz.prog ops Q rest (a.put o.dst (goInt ((min s.size dLen : Nat) : Int))) w') : wpList Tryz.prog ops Q (o :: rest) a w := by
  obtain ⟨hg, hb, hB⟩ := hR.out
  obtain ⟨i0, hi0, hz0, hz1, hz2⟩ := info_parts u8_info
  have hm : (s.data.toList.take (min s.size dLen)).length = min s.size dLen := by
    rw [List.length_take]
    have e : s.data.toList.length = s.size := by simp
    omega
  refine wpList_plain hgd fun K hK => ?_
  have hrun := run_copy_str w 181 9 o.type 5 g off dLen dCap s _ _ Tryz.underlying181 (by rw [hi0]; simp [hz1]) hg (by rw [List.size_toArray, List.length_map]; omega)
  unfold Oper.wp
  simp only [execOp, ho, resolve, invoke, builtin, Sem.run_bind, Sem.run_pure, Result.andThen_ok, List.map_toArray, List.map_cons, List.map_nil, hd, hx, hrun]
  refine hK _ _ (h _ ⟨?_, ?_, hB⟩)
  · rw [setRow_heap w g _ _ _ _ hg]
    congr 3
    unfold lay
    rw [hm]
    simp
  · exact hb.trans ⟨rfl, rfl, rfl, by simp [World.setRow], fun k hk => setRow_other w g k _ (by omega)⟩

theorem conv_row {w0 w : World} {B g n cap : Nat} {xs : List UInt8} (hR : Hid (ByteRow w B w0 g xs)) (hn : xs.length = n) :
    (convert 181 9 (.slice (some ⟨g, 0, none⟩) n cap)).run Tryz.prog w = .ok (.string ⟨xs.toArray⟩) w := by
  subst hn
  obtain ⟨hg, _, _⟩ := hR.out
  refine run_convert_bytes_back w _ _ _ _ cap xs Tryz.underlying181 Tryz.underlying5 Tryz.underlying9 (fun j hj => ?_)
  have hh := cell_of_row w g j (xs.map bcell).toArray 5 (0, 0) hg
  rw [show (⟨g, 0, none⟩ : Addr).add j = ⟨g, j, none⟩ by unfold Addr.add; split <;> simp_all, hh]
  simp [bcell, List.getElem?_eq_getElem hj]

/-- The greater one of two numbers, as a variable. -/
theorem wpList_max_nat {w : World} {ops : Array Oper} {rest : List Oper} {o : Oper} {a : Act} {Q : Exit → Act → World → Prop} (hgd : o.guard = none) (x y : Operand) (ats : Array TypeId)
    (ho : o.op = .call { callee := .builtin .max, args := #[x, y], argTypes := ats }) (A C : Int) (n : Nat) (hx : a.eval x = .int .i64 A) (hy : a.eval y = .int .i64 C) (hn : max A C = (n : Int))
    (h : wpList Tryz.prog ops Q rest (a.put o.dst (.int .i64 (n : Int))) w) : wpList Tryz.prog ops Q (o :: rest) a w := by
  refine wpList_plain hgd fun K hK => ?_
  have hrun := run_max_int2 (P := Tryz.prog) (w := w) ats o.type .i64 .i64 A C
  rw [show (if C > A then C else A) = (n : Int) by rw [← hn]; split <;> omega] at hrun
  unfold Oper.wp
  simp only [execOp, ho, resolve, invoke, builtin, Sem.run_bind, Sem.run_pure, Result.andThen_ok, List.map_toArray, List.map_cons, List.map_nil, hx, hy, hrun]
  exact hK _ _ h

/-- What Trunc lays. -/
theorem lay_tL' (d : List UInt8) (n : Nat) : lay (List.replicate n 0) 0 (d.take (min d.length n)) = tL d n := by
  have hl : 0 + (d.take (min d.length n)).length ≤ (List.replicate n (0 : UInt8)).length := by simp; omega
  refine same_bytes (by rw [lay_len hl, tL_len]; simp) fun i hi => ?_
  rw [lay_len hl, List.length_replicate] at hi
  rw [bAt_lay hl, bAt_tL, if_pos hi]
  by_cases h : i < d.length
  · rw [if_pos ⟨Nat.zero_le _, by simp; omega⟩]
    unfold bAt
    simp only [List.getD_eq_getElem?_getD, Nat.sub_zero, List.getElem?_take]
    rw [if_pos (by omega)]
  · rw [if_neg (by simp; omega), bAt_ge (show d.length ≤ i by omega)]
    unfold bAt
    simp [List.getD_eq_getElem?_getD, hi]

/-- What Write lays. -/
theorem lay_wL' (d s : List UInt8) (o n : Nat) (hn : n = max d.length (o + s.length)) : lay (lay (List.replicate n 0) 0 (d.take (min d.length n))) o (s.take (min s.length (n - o))) = wL d s o := by
  rw [lay_tL', Nat.min_eq_left (by omega), List.take_length]
  have hl : o + s.length ≤ (tL d n).length := by rw [tL_len]; omega
  refine same_bytes (by rw [lay_len hl, tL_len, wL_len, hn]) fun i hi => ?_
  rw [lay_len hl, tL_len] at hi
  rw [bAt_lay hl, bAt_wL, bAt_tL, if_pos hi]
  rfl

theorem lay_tL (d : ByteArray) (n : Nat) : lay (List.replicate n 0) 0 (d.data.toList.take (min d.size n)) = tL d.data.toList n := by
  have h := lay_tL' d.data.toList n
  rwa [len_bytes] at h

theorem lay_wL (d s : ByteArray) (o n : Nat) (hn : n = max d.size (o + s.size)) : lay (lay (List.replicate n 0) 0 (d.data.toList.take (min d.size n))) o (s.data.toList.take (min s.size (n - o))) = wL d.data.toList s.data.toList o := by
  have h := lay_wL' d.data.toList s.data.toList o n (by rw [len_bytes, len_bytes]; exact hn)
  rwa [len_bytes, len_bytes] at h

theorem lay_room (d : ByteArray) (n : Nat) : (lay (List.replicate n 0) 0 (d.data.toList.take (min d.size n))).length = n := by rw [lay_tL, tL_len]

set_option maxRecDepth 100000 in
theorem trunc_code (d : ByteArray) (n : Int) (w : World) (hd : d.size ≤ 2000) (hn : IsI64 n) :
    Calls Tryz.prog 133 #[.string d, .int .i64 n] w fun e w' => e = .returned (.tuple #[.string (tR d n).1, .int .i64 (tR d n).2]) ∧ Below w.heap.size w w' := by
  by_cases h0 : n < 0
  · rw [show tR d n = (d, 1) by unfold tR; rw [if_pos h0]]
    go_enter Tryz.func133, Tryz.ntmps133
    go_wp2_with fail
    go_ret2
    exact ⟨rfl, Below.refl _ _⟩
  by_cases h1 : 64 < n
  · rw [show tR d n = (d, 11) by unfold tR; rw [if_neg h0, if_pos (Or.inl h1)]]
    go_enter Tryz.func133, Tryz.ntmps133
    go_wp2_with fail
    go_ret2
    exact ⟨rfl, Below.refl _ _⟩
  by_cases h2 : 64 < d.size
  · rw [show tR d n = (d, 11) by unfold tR; rw [if_neg h0, if_pos (Or.inr h2)]]
    go_enter Tryz.func133, Tryz.ntmps133
    go_wp2_with fail
    go_ret2
    exact ⟨rfl, Below.refl _ _⟩
  obtain ⟨m, rfl⟩ : ∃ m : Nat, n = (m : Int) := ⟨n.toNat, by omega⟩
  have hm64 : m ≤ 64 := by omega
  rw [show tR d (m : Int) = (⟨(tL d.data.toList m).toArray⟩, 0) by unfold tR; rw [if_neg h0, if_neg (by omega)]; rfl]
  clear h0 h1 hn
  have hl := Lib.hid (lay_tL d m)
  go_enter Tryz.func133, Tryz.ntmps133
  go_wp2_with (first
    | (at_make; refine wpList_make_bytes rfl _ _ rfl (Below.refl w.heap.size w) (Nat.le_refl _) _ _ m rfl rfl (by omega) ?_; intro w1 HR1)
    | (refine wpList_copy_str (by rfl) _ _ (by rfl) _ 0 m m _ HR1 d (by rfl) (by rfl) (by simp) ?_; intro w2 HR2; have hcv := conv_row (n := m) (cap := m) HR2 (by rw [hl.out]; exact tL_len _ _)))
  go_ret2
  exact ⟨by rw [← hl.out]; rfl, HR2.out.2.1⟩

set_option maxRecDepth 100000 in
theorem write_code (d : ByteArray) (off : Int) (s : ByteArray) (w : World) (hd : d.size ≤ 2000) (hs : s.size ≤ 2000) (ho : IsI64 off) :
    Calls Tryz.prog 132 #[.string d, .int .i64 off, .string s] w fun e w' => e = .returned (.tuple #[.string (wR d off s).1, .int .i64 (wR d off s).2]) ∧ Below w.heap.size w w' := by
  have hes : (s.toList == []) = decide (s.size = 0) := by
    rw [ByteArray.toList_eq]
    have e2 : s.data.toList.length = s.size := by simp
    cases hl : s.data.toList with
    | nil => rw [hl] at e2; rw [decide_eq_true (by simpa using e2.symm)]; rfl
    | cons a l => rw [hl, List.length_cons] at e2; rw [decide_eq_false (by omega)]; rfl
  by_cases h0 : off < 0
  · rw [show wR d off s = (d, 1) by unfold wR; rw [if_pos (Or.inl h0)]]
    go_enter Tryz.func132, Tryz.ntmps132
    go_wp2_with fail
    go_ret2
    exact ⟨rfl, Below.refl _ _⟩
  by_cases hs0 : s.size = 0
  · rw [show wR d off s = (d, 1) by unfold wR; rw [if_pos (Or.inr hs0)]]
    rw [decide_eq_true hs0] at hes
    go_enter Tryz.func132, Tryz.ntmps132
    go_wp2_with fail
    go_ret2
    exact ⟨rfl, Below.refl _ _⟩
  rw [decide_eq_false hs0] at hes
  have hw := Lib.hid (show wrap64 (64 - off) = 64 - off by unfold IsI64 at ho; unfold wrap64; omega)
  by_cases h1 : 64 - off < (s.size : Int)
  · rw [show wR d off s = (d, 11) by unfold wR; rw [if_neg (by omega), if_pos (by omega)]]
    have hq : decide (wrap64 (64 - off) < (s.size : Int)) = true := by rw [hw.out]; exact decide_eq_true h1
    go_enter Tryz.func132, Tryz.ntmps132
    go_wp2_with fail
    go_ret2
    exact ⟨rfl, Below.refl _ _⟩
  by_cases h2 : 64 < d.size
  · rw [show wR d off s = (d, 11) by unfold wR; rw [if_neg (by omega), if_pos (by omega)]]
    go_enter Tryz.func132, Tryz.ntmps132
    go_wp2_with fail
    go_ret2
    exact ⟨rfl, Below.refl _ _⟩
  obtain ⟨o, rfl⟩ : ∃ m : Nat, off = (m : Int) := ⟨off.toNat, by omega⟩
  obtain ⟨n, hn⟩ : ∃ n, n = max d.size (o + s.size) := ⟨_, rfl⟩
  have hn64 : n ≤ 64 := by omega
  rw [show wR d (o : Int) s = (⟨(wL d.data.toList s.data.toList o).toArray⟩, 0) by unfold wR; rw [if_neg (by omega), if_neg (by omega)]; rfl]
  have hq : decide (wrap64 (64 - (o : Int)) < (s.size : Int)) = false := by rw [hw.out]; exact decide_eq_false h1
  have hw2 := Lib.hid (show max (d.size : Int) ((o : Int) + (s.size : Int)) = (n : Int) by omega)
  have hl := Lib.hid (lay_wL d s o n hn)
  have hll := Lib.hid (show (wL d.data.toList s.data.toList o).length = n by rw [wL_len, len_bytes, len_bytes, hn])
  have hod : o ≤ n := by omega
  have hno : ¬ n = o := by omega
  have hcut := Lib.hid (show o + (n - o) ≤ n by omega)
  clear h0 ho hn
  go_enter Tryz.func132, Tryz.ntmps132
  go_wp2_with (first
    | (refine wpList_max_nat (by rfl) _ _ _ (by rfl) _ _ n (by rfl) (by rfl) hw2.out ?_)
    | (at_make; refine wpList_make_bytes rfl _ _ rfl (Below.refl w.heap.size w) (Nat.le_refl _) _ _ n rfl rfl (by omega) ?_; intro w1 HR1)
    | (refine wpList_copy_str (by rfl) _ _ (by rfl) _ 0 n n _ HR1 d (by rfl) (by rfl) (by simp) ?_; intro w2 HR2)
    | (refine wpList_copy_str (by rfl) _ _ (by rfl) _ o (n - o) (n - o) _ HR2 s (by rfl) (by rfl) (by rw [lay_room]; exact hcut.out) ?_; intro w3 HR3; have hcv := conv_row (n := n) (cap := n) HR3 (by rw [hl.out]; exact hll.out)))
  go_ret2
  exact ⟨by rw [← hl.out]; rfl, HR3.out.2.1⟩

theorem read_none (d : ByteArray) (off many : Int) (h : off < 0 ∨ many < 1 ∨ (d.size : Int) ≤ off) : rR d off many = ⟨#[]⟩ := by
  unfold rR
  by_cases h0 : off < 0
  · rw [if_pos h0]
  · rw [if_neg h0]
    have e : (rL d.data.toList off.toNat many.toNat).length = 0 := by rw [rL_len, len_bytes]; omega
    rw [List.length_eq_zero_iff.1 e]

theorem read_cut (d : ByteArray) (o m k : Nat) (hk : k = min m (d.size - o)) : rR d (o : Int) (m : Int) = (d.extract o d.size).extract 0 k := by
  unfold rR
  rw [if_neg (by omega), Int.toNat_natCast, Int.toNat_natCast]
  apply ByteArray.ext
  apply Array.ext'
  have hs : d.data.toList.length = d.size := by simp
  simp only [ByteArray.data_extract, Array.toList_extract, List.extract_eq_take_drop, List.drop_zero, Nat.sub_zero]
  unfold rL
  rw [List.take_of_length_le (l := d.data.toList.drop o) (i := d.size - o) (by simp), hk]
  apply List.ext_getElem?
  intro i
  rw [List.getElem?_take, List.getElem?_take]
  by_cases h1 : i < m
  · rw [if_pos h1]
    by_cases h2 : i < d.size - o
    · rw [if_pos (by omega)]
    · rw [if_neg (by omega), List.getElem?_eq_none (by rw [List.length_drop, hs]; omega)]
  · rw [if_neg h1, if_neg (by omega)]


theorem extentHave : ExtentHave where
  write := fun d off s w hd hs ho => write_code d off s w hd hs ho
  trunc := fun d n w hd hn => trunc_code d n w hd hn

end Go.Proofs.YtbkijfhfjhpebaaGreatDoor

/-
  What the statements of layer 11 need of the landed code: all contracts in one.
-/
namespace Go.Proofs.YtbkijfhfjhpebaaGreatDoor
open Go.RowKit StampMath GraphMath OpMath PackMath ExtentMath

theorem applyHave : ApplyHave graphHave where
  why := fun a S g o w _ h hf ho => why_code graphHave a S g o w h hf.ok ho
  does := fun a S g o w _ h _ hf ho => (do_core graphHave extentHave (bare w) w _ a g o (bare_gx h hf.ok) hf ho).mono fun _ _ ⟨he, k⟩ => by
    obtain ⟨S', q⟩ := gx_bare k
    exact ⟨S', he, q⟩
  nilDo := fun o w _ _ => do_nil o w
  may := fun o w _ ho => opMay_any o w ho.ok ho.name ho.new ho.data
  makes := fun o w _ _ => makes_any o w

end Go.Proofs.YtbkijfhfjhpebaaGreatDoor

/-
  The code of package fold: Sort.
-/
namespace Go.Proofs.YtbkijfhfjhpebaaGreatDoor
open Go.RowKit Go.Shelf Go.Sort StampMath GraphMath OpMath PackMath StableM

/-- Of nothing nothing is sorted. -/
theorem stable_none (cap : Nat) (fv : Value) (w : World) : Calls Tryz.prog 84 #[.slice none 0 cap, .int .i64 0, fv] w fun r w' => r = .returned (.tuple #[]) ∧ w' = w := by
  have HI : Hid (∀ W, Calls Tryz.prog 115 #[.slice none 0 cap, .int .i64 0, .int .i64 0, fv] W fun e w' => e = .returned (.tuple #[]) ∧ w' = W) := fun W => AnyF.insertionSortCmpFunc_none Tryz.insOp none cap fv W
  go_enter Tryz.func84, Tryz.ntmps84
  go_wp2
  refine wp_loop_rounds 1 ?_
  rw [rounds_succ]
  go_wp2_with fail
  refine (HI.out _).mono ?_
  rintro e w1 ⟨rfl, rfl⟩
  go_wp2
  refine wp_loop_rounds 1 ?_
  rw [rounds_succ]
  go_wp2
  go_end0
  exact ⟨rfl, rfl⟩

theorem stable_own {w : World} {base : Nat} {e : TypeId} {v : Value} {n : Nat} {xs : List Opn} (hn : xs.length = n) (h : w.ownsRow base e 13 v n (flat (xs.map opA))) (hsz : n < 1000000000) :
    Calls Tryz.prog 59 #[v, .func (.func 60) #[] #[]] w fun r w' => r = .returned (.tuple #[]) ∧ ∃ ys : List Opn, ys.length = n ∧ SameK oSt ys xs ∧ Up oSt lessS ys ∧ w'.ownsRow base e 13 v n (flat (ys.map opA)) ∧ But (fun i => v.ownBlock = some i) w w' := by
  obtain ⟨hl, h⟩ := h
  rcases h with ⟨rfl, h0⟩ | ⟨b, cap, cur, rfl, hb, hg, hc1, hc2, hcs, ht⟩
  · subst h0
    have hx : xs = [] := List.length_eq_zero_iff.1 hn
    subst hx
    go_enter Tryz.func59, Tryz.ntmps59
    go_wp2_with fail
    refine (stable_none 0 _ _).mono ?_
    rintro r w1 ⟨rfl, rfl⟩
    go_wp2_with fail
    go_end0
    exact ⟨rfl, [], rfl, SameK.refl _, List.Pairwise.nil, ⟨hl, Or.inl ⟨rfl, rfl⟩⟩, But.refl _ _⟩
  · have HS := Lib.hid (stable_some hn hb hg hc1 hc2 hcs ht hsz)
    clear hg hcs ht hl hc1 hc2
    go_enter Tryz.func59, Tryz.ntmps59
    go_wp2_with fail
    refine HS.out.mono ?_
    rintro r w1 ⟨rfl, ys, h1, h2, h3, h4, h5⟩
    have HF : Hid (∃ ys : List Opn, ys.length = n ∧ SameK oSt ys xs ∧ Up oSt lessS ys ∧ w1.ownsRow base e 13 (.slice (some ⟨b, 0, none⟩) n cap) n (flat (ys.map opA)) ∧ But (fun i => (Value.slice (some ⟨b, 0, none⟩) n cap).ownBlock = some i) w w1) :=
      ⟨ys, h1, h2, h3, h4, h5.mono fun i hi => by rw [hi]; rfl⟩
    clear h1 h2 h3 h4 h5 HS
    go_wp2_with fail
    go_end0
    exact ⟨rfl, HF.out⟩

theorem compact_own {w : World} {base : Nat} {e : TypeId} {v : Value} {n : Nat} {xs : List Opn} (hn : xs.length = n) (h : w.ownsRow base e 13 v n (flat (xs.map opA))) (hsz : n < 1000000000) :
    Calls Tryz.prog 61 #[v, .func (.func 62) #[] #[]] w fun r w' => ∃ v', r = .returned v' ∧ w'.ownsRow base e 13 v' (adjK oSt none xs).length (flat ((adjK oSt none xs).map opA)) ∧ But (fun i => v.ownBlock = some i) w w' := by
  obtain ⟨hl, h⟩ := h
  rcases h with ⟨rfl, h0⟩ | ⟨b, cap, cur, rfl, hb, hg, hc1, hc2, hcs, ht⟩
  · subst h0
    have hx : xs = [] := List.length_eq_zero_iff.1 hn
    subst hx
    go_enter Tryz.func61, Tryz.ntmps61
    go_wp2_with fail
    go_ret
    exact ⟨_, rfl, World.ownsRow_nil _ _ _ _, But.refl _ _⟩
  · subst hn
    have R := row_of_own hg ht
    have h := compact_in (key := oSt) comp_in opE noOpn (fun w => by kernel_rfl) 62 (enters_of Tryz.func62 (by kernel_rfl) rfl)
      (fun W x y => by rw [eq_first, eq_first]; exact (sort2_grown x y W).mono fun _ _ h => ⟨h.1, h.2.grow⟩) b 0 cap xs.toArray w R (by simpa using hsz) (by simpa using hc1) hc2 xs.length (by simp) w (SWK.start R.hH)
    refine h.mono ?_
    rintro r w' ⟨d', rfl, h1, h2, S⟩
    have hxs : xs.toArray.toList = xs := by simp
    rw [hxs] at h2 ⊢
    have hal := adj_len (key := oSt) xs none
    have hd : d'.size ≤ cap := by rw [h1, List.size_toArray]; exact hc1
    obtain ⟨q1, q2⟩ := own_of_row hb hg (Nat.le_trans hal hc1) hc2 hcs hd S h2 rfl
    exact ⟨_, rfl, q1, q2.mono fun i hi => by rw [hi]; rfl⟩

set_option maxRecDepth 100000 in
set_option maxHeartbeats 3200000 in
theorem sort_new (A : Option Addr) (n c : Nat) (l : List Opn) (w : World) (T : Tab w) (hn : n ≤ 1000) (hl : ∀ o ∈ l, OpFit o) (h : OpsIn w w.heap.size A n l) :
    Calls Tryz.prog 38 #[.slice A n c] w fun e w' => ∃ v, e = .returned v ∧ w'.ownsRow w.heap.size 56 13 v (sortO l).length (flat ((sortO l).map opA)) ∧ Below w.heap.size w w' := by
  obtain ⟨i0, hi0, hz0, hz1, hz2⟩ := info_parts op_infos
  have hll := h.len
  have HX := Lib.hid h
  have HF := Lib.hid hl
  have HT := Lib.hid T
  clear h hl T
  go_enter Tryz.func38, Tryz.ntmps38
  go_wp2_with fail
  go_loopg [3, 8] (n + 1) (fun gk out i wr => ∃ k : Nat, i = .int .i64 (k : Int) ∧ gk + k = n + 1 ∧ k ≤ n ∧ wr.ownsRow w.heap.size 56 13 out ((l.take k).filter mayO).length (flat (((l.take k).filter mayO).map opA)) ∧ Hid (Below w.heap.size w wr))
  case atStart => exact ⟨0, by go_num, by omega, by omega, World.ownsRow_nil _ _ _ _, Below.refl _ _⟩
  case round =>
    obtain ⟨k, rfl, hgk, hk, hown, hB⟩ := hrel
    have hfl : ((l.take k).filter mayO).length ≤ k := Nat.le_trans (List.length_filter_le ..) (List.length_take_le ..)
    by_cases hlt : k < n
    · obtain ⟨gi, o, rfl, hg, hrow⟩ := HX.out.row (by omega)
      have lk : k < l.length := by omega
      have hs : (l.take (k + 1)).filter mayO = (l.take k).filter mayO ++ (if mayO l[k] = true then [l[k]] else []) := by
        rw [List.take_succ_eq_append_getElem lk, List.filter_append]
        by_cases q : mayO l[k] = true <;> simp [q]
      have hca := (hrow k lk).below hB.out hg
      have hfit := HF.out _ (List.getElem_mem lk)
      obtain ⟨a, ha⟩ : ∃ a, l[k] = a := ⟨_, rfl⟩
      rw [ha] at hs hca hfit
      obtain ⟨d, hd⟩ : ∃ d, d = (l.take k).filter mayO := ⟨_, rfl⟩
      rw [← hd] at hown hs hfl
      have HOWN := Lib.hid hown
      have HS := Lib.hid hs
      have hi1 : (k : Int) < (n : Int) := by omega
      have hi0' : (0 : Int) ≤ (k : Int) := by omega
      have TA : Tab (wr.alloc (.cells (opA a) 56)) := tab_below HT.out (Nat.le_refl _) (hB.out.alloc hB.out.size _)
      have HM := Lib.hid (applyHave.may a (wr.alloc (.cells (opA a) 56)) hfit)
      have hH0 : Held wr [(wr.heap.size, .cells (opA a) 56)] (wr.alloc (.cells (opA a) 56)) := (Held.refl wr).alloc _ rfl
      have H0 := Lib.hid hH0
      obtain ⟨c0, c1, c2, c3, c4, c5, c6, c7, c8, c9, c10, c11, c12⟩ := hca
      clear hown hs hd ha hrow hfit TA hH0
      unfold opA at HM
      go_wp2_with fail
      refine HM.out.mono ?_
      rintro e w2 ⟨rfl, hb2⟩
      have H2 := Lib.hid (H0.out.step hb2)
      have B2 := Lib.hid (below_step hB.out H2.out.below)
      have O2 := Lib.hid ((HOWN.out.kept (row := none) ⟨H2.out.below.os, H2.out.below.tape, H2.out.below.output, H2.out.below.size, fun q hq _ => H2.out.below.block q hq⟩ (Classical.em _)))
      clear c0 c1 c2 c3 c4 c5 c6 c7 c8 c9 c10 c11 c12 HM hb2 H0 HOWN
      cases hm : mayO a with
      | false =>
        have HS2 : Hid ((l.take (k + 1)).filter mayO = d) := by
          have := HS.out
          rw [hm, if_neg (by simp), List.append_nil] at this
          exact this
        clear hm HS
        go_wp2_with fail
        go_roundg (gk - 1)
        case measure => omega
        case rel => exact ⟨k + 1, by go_num, by omega, by omega, by rw [HS2.out]; exact O2.out, B2⟩
      | true =>
        have HS2 : Hid ((l.take (k + 1)).filter mayO = d ++ [a]) := by
          have := HS.out
          rw [hm, if_pos rfl] at this
          exact this
        obtain ⟨c0, c1, c2, c3, c4, c5, c6, c7, c8, c9, c10, c11, c12⟩ := op_cells (o := a) (g := wr.heap.size) (H2.out.at 0 rfl)
        have hlow := B2.out.size
        have hm9 : d.length + 1 ≤ maxLen := by unfold maxLen; omega
        clear hm HS hi1 hi0'
        go_wp2_with (at_builtin; refine wpList_append_own _ rfl (.tmp 14) (.tmp 16) 22 rfl w.heap.size 56 i0 _ 13 128 Tryz.underlying22 hi0 hz0 hz1 hz2 rfl (by decide) _ _ _ rfl (O2.out.alloc _) ⟨w2.heap.size, 0, none⟩ 1 1 (opA a).toList rfl rfl (row_there w2 _ _) (op_cells1 a) hm9 (by omega) (by simp; omega) ?_; intro v2 w3 hown3 hg3 _)
        have hb3 : Below w.heap.size w w3 := (B2.out.alloc B2.out.size _).grown hg3 (by simp; omega) (fun q hq => (O2.out.lt q hq).1)
        rw [flat_op] at hown3
        clear c0 c1 c2 c3 c4 c5 c6 c7 c8 c9 c10 c11 c12
        go_roundg (gk - 1)
        case measure => omega
        case rel => exact ⟨k + 1, by go_num, by omega, by omega, by rw [HS2.out, List.length_append]; exact hown3, hb3⟩
    · have hkn : k = n := by omega
      have hc : ¬ (k : Int) < (n : Int) := by omega
      rw [List.take_of_length_le (by omega)] at hown hfl
      have HO := Lib.hid hown
      have hsz : (l.filter mayO).length < 1000000000 := by omega
      have HS := Lib.hid (stable_own rfl hown hsz)
      have HROW : Hid (∀ i, _ → w.heap.size ≤ i) := Lib.hid fun i hi => (hown.lt i hi).1
      clear hown hkn hlt hk hgk
      go_wp2_with fail
      refine HS.out.mono ?_
      rintro e w2 ⟨rfl, ys, hy1, hy2, hy3, hown2, hbut2⟩
      have B2 : Hid (Below w.heap.size w w2) := Lib.hid (hB.out.trans (hbut2.below (fun i hi => HROW.out i hi) hB.out.size))
      have HC := Lib.hid (compact_own hy1 hown2 hsz)
      have hlt2 := hown2.lt
      have HROW2 := Lib.hid hlt2
      rw [sort_adj hy2 hy3] at HC
      clear hy1 hy2 hy3 hown2 hbut2 HS HO hlt2
      go_wp2_with fail
      refine HC.out.mono ?_
      rintro e w3 ⟨v3, rfl, hown3, hbut3⟩
      have B3 : Hid (Below w.heap.size w w3) := Lib.hid (B2.out.trans (hbut3.below (fun i hi => (HROW2.out i hi).1) B2.out.size))
      have HO3 := Lib.hid hown3
      clear hown3 hbut3 HC
      go_wp2_with fail
      go_ret
      exact ⟨v3, rfl, HO3.out, B3.out⟩

theorem sort_code (A : Option Addr) (n c : Nat) (l : List Opn) (w : World) (T : Tab w) (hn : n ≤ 1000) (hl : ∀ o ∈ l, OpFit o) (h : OpsIn w w.heap.size A n l) :
    Calls Tryz.prog 38 #[.slice A n c] w (OpsPost (sortO l) w) := by
  refine (sort_new A n c l w T hn hl h).mono ?_
  rintro e w' ⟨v, rfl, hown, hb⟩
  obtain ⟨B, cB, rfl, q1, q2, q3⟩ := ops_own rfl hown
  exact ⟨B, cB, rfl, q1, q2, q3.1, q3.2, hb⟩

end Go.Proofs.YtbkijfhfjhpebaaGreatDoor

/-
  A row whose block is as it was.
-/
namespace Go.Proofs.YtbkijfhfjhpebaaGreatDoor
open Go.RowKit

/-- A row whose block is as it was. -/
theorem own_same {w w' : World} {base : Nat} {e : TypeId} {k : Nat} {v : Value} {n : Nat} {xs : List Value} (h : w.ownsRow base e k v n xs) (hb : ∀ g, v.ownBlock = some g → w'.heap[g]? = w.heap[g]?) : w'.ownsRow base e k v n xs := by
  obtain ⟨h0, h1 | ⟨g, cap, cur, h1, h2, h3, h4⟩⟩ := h
  · exact ⟨h0, Or.inl h1⟩
  · exact ⟨h0, Or.inr ⟨g, cap, cur, h1, h2, (hb g (by rw [h1]; rfl)).trans h3, h4⟩⟩

end Go.Proofs.YtbkijfhfjhpebaaGreatDoor

/-
  Operations kept in a slice of the call's own, beside a graph that is written.
-/
namespace Go.Proofs.YtbkijfhfjhpebaaGreatDoor
open Go.RowKit StampMath GraphMath OpMath PackMath

/-- A graph that is fine, made since w, outside the blocks N; among these a row of operations. -/
structure StackO (H : GraphHave) (w W : World) (N : Nat → Prop) (a : Addr) (g : Gr) (rv : Value) (l : List Opn) : Prop where
  fx : FX H w W N a g
  own : W.ownsRow w.heap.size 56 13 rv l.length (flat (l.map opA))
  row : ∀ b, rv.ownBlock = some b → N b

section
variable {H : GraphHave} {w W W' : World} {N : Nat → Prop} {a : Addr} {g g' : Gr} {rv : Value} {l : List Opn}

theorem StackO.start (h : FX H w W N a g) : StackO H w W N a g (.slice none 0 0) [] :=
  ⟨h, World.ownsRow_nil _ _ _ _, fun b hb => by simp [Value.ownBlock] at hb⟩

/-- A call that leaves the blocks N; the graph may be another one. -/
theorem StackO.same (h : StackO H w W N a g rv l) (k : FX H w W' N a g') (s : Same N W W') : StackO H w W' N a g' rv l :=
  ⟨k, own_same h.own fun b hb => s.2 b (h.row b hb), h.row⟩

theorem StackO.step (h : StackO H w W N a g rv l) (hb : Below W.heap.size W W') : StackO H w W' N a g rv l :=
  h.same (h.fx.step hb) ⟨hb.size, fun i hi => hb.block i (h.fx.gx.lt i hi)⟩

/-- One operation more lies behind the others. -/
theorem StackO.push (h : StackO H w W N a g rv l) {o : Opn} {rv' : Value} (hown : W'.ownsRow w.heap.size 56 13 rv' (l.length + 1) (flat ((l ++ [o]).map opA))) (hg : W.grownBy W' rv.ownBlock) (hat : rv'.ownBlock = rv.ownBlock ∨ rv'.ownBlock = some W.heap.size) :
    StackO H w W' (fun i => N i ∨ (W.heap.size ≤ i ∧ i < W'.heap.size)) a g rv' (l ++ [o]) := by
  have hlow : ∀ b, rv.ownBlock = some b → w.heap.size ≤ b := fun b hb => (h.own.lt b hb).1
  obtain ⟨⟨⟨⟨S, q1, q2, q3⟩, q4, q5, q6⟩, q7⟩, _, row⟩ := h
  have hS : ∀ i, S i → W'.heap[i]? = W.heap[i]? := fun i hi => hg.block i (H.lt q1 i hi) fun e => q3 i (row i e.symm) hi
  refine ⟨⟨⟨⟨S, H.keep q1 hS, q2, fun i hi hs => ?_⟩, q4, fun i hi => ?_, ⟨hg.os.trans q6.os, hg.tape.trans q6.tape, hg.output.trans q6.output, Nat.le_trans q6.size hg.size, fun k hk => (hg.block k (Nat.lt_of_lt_of_le hk q6.size) fun e => ?_).trans (q6.block k hk)⟩⟩, q7⟩, by rw [List.length_append]; exact hown, fun b hb => ?_⟩
  · rcases hi with hi | hi
    · exact q3 i hi hs
    · have := H.lt q1 i hs; omega
  · rcases hi with hi | hi
    · exact Nat.lt_of_lt_of_le (q5 i hi) hg.size
    · exact hi.2
  · have := hlow k e.symm; omega
  · rcases hat with q | q
    · rw [q] at hb
      exact Or.inl (row b hb)
    · rw [q] at hb
      injection hb with hb
      subst hb
      have hlt : W.heap.size < W'.heap.size := by
        rcases hown with ⟨_, ⟨e, _⟩ | ⟨g0, cap, cur, e, _, k1, _⟩⟩
        · rw [e] at q; cases q
        · rw [e] at q
          have : g0 = W.heap.size := by simpa [Value.ownBlock] using q
          rw [← this]
          exact heap_lt k1
      exact Or.inr ⟨Nat.le_refl _, hlt⟩

end

end Go.Proofs.YtbkijfhfjhpebaaGreatDoor

/-
  The code of package fold: On, Of.
-/
namespace Go.Proofs.YtbkijfhfjhpebaaGreatDoor
open Go.RowKit StampMath GraphMath OpMath PackMath

set_option maxRecDepth 100000 in
set_option maxHeartbeats 3200000 in
theorem on_code (a : Addr) (S : Nat → Prop) (g : Gr) (A : Option Addr) (n c : Nat) (l : List Opn) (w : World) (T : Tab w) (hr : graphHave.rep w S a g) (hf : g.fine) (hn : n ≤ 1000) (hl : ∀ o ∈ l, OpFit o) (h : OpsIn w w.heap.size A n l) :
    Calls Tryz.prog 20 #[.pointer (some a), .slice A n c] w fun e w' => ∃ b U, e = .returned (.pointer (some b)) ∧ graphHave.rep w' U b (runG g (sortO l)) ∧ (∀ i, U i → w.heap.size ≤ i) ∧ Below w.heap.size w w' := by
  have HCP := Lib.hid (graphHave.copy a S g w hr hf.ok)
  have HX := Lib.hid h
  have HF := Lib.hid hl
  have HT := Lib.hid T
  have hfs := sort_sub (l := l)
  have HFS : Hid (∀ o ∈ sortO l, OpFit o) := Lib.hid fun o ho => hl o (hfs o ho)
  have hsl := sort_len l
  have hll := h.len
  have HS : Hid (∀ W, Below w.heap.size w W → Calls Tryz.prog 38 #[.slice A n c] W fun e w' => ∃ v, e = .returned v ∧ w'.ownsRow W.heap.size 56 13 v (sortO l).length (flat ((sortO l).map opA)) ∧ Below W.heap.size W w') := Lib.hid fun W hW => sort_new A n c l W (tab_below T (Nat.le_refl _) hW) hn hl ((h.below hW).more hW.size)
  have hsn : (sortO l).length ≤ 1000 := by omega
  generalize sortO l = s at HFS HS hsn ⊢
  clear hr h hl T hfs hsl hll
  go_enter Tryz.func20, Tryz.ntmps20
  go_wp2_with fail
  refine HCP.out.mono ?_
  rintro e w1 ⟨b, T1, rfl, r1, hT1, hb1⟩
  have F1 : Hid (FX graphHave w w1 (fun _ => False) b g) := Lib.hid ⟨⟨⟨T1, r1, hT1, fun _ h => h.elim⟩, hf.ok, fun _ h => h.elim, hb1⟩, hf⟩
  have D := Lib.hid (HS.out w1 hb1)
  clear r1 hT1 hb1 HCP
  go_wp2_with fail
  refine D.out.mono ?_
  rintro e w2 ⟨v, rfl, hown, hb2⟩
  obtain ⟨B, cB, rfl, _⟩ := ops_own rfl hown
  have K : Hid (StackO graphHave w w2 (fun i => False ∨ (w1.heap.size ≤ i ∧ i < w2.heap.size)) b g (.slice B s.length cB) s) := Lib.hid ⟨⟨F1.out.gx.grow hb2, hf⟩, own_lower hown F1.out.below.size, fun q hq => Or.inr (hown.lt q hq)⟩
  obtain ⟨N, hN⟩ : ∃ N : Nat → Prop, N = fun i => False ∨ (w1.heap.size ≤ i ∧ i < w2.heap.size) := ⟨_, rfl⟩
  rw [← hN] at K
  clear hN hown hb2 D F1 HS
  go_wp2_with fail
  go_loopg [13] (s.length + 1) (fun gk i wr => ∃ k : Nat, i = .int .i64 (k : Int) ∧ gk + k = s.length + 1 ∧ k ≤ s.length ∧ Hid (StackO graphHave w wr N b (runG g (s.take k)) (.slice B s.length cB) s))
  case atStart => exact ⟨0, by go_num, by omega, by omega, K⟩
  case round =>
    clear K
    obtain ⟨k, rfl, hgk, hk, hS⟩ := hrel
    by_cases hlt : k < s.length
    · obtain ⟨B', cB', e1, ht, _⟩ := ops_own rfl hS.out.own
      injection e1 with e1 _ e2
      subst e1 e2
      obtain ⟨gi, o, rfl, hg, hrow⟩ := ht.row (by omega)
      have hca := hrow k hlt
      have hnx := runG_next g (l := s) (k := k) hlt
      have hfit := HFS.out _ (List.getElem_mem hlt)
      obtain ⟨d, hd⟩ : ∃ d, s[k] = d := ⟨_, rfl⟩
      rw [hd] at hca hfit hnx
      have HNX := Lib.hid hnx
      have S1 := Lib.hid (hS.out.step ((Below.refl wr.heap.size wr).alloc (Nat.le_refl _) (.cells (opA d) 56)))
      have DD := Lib.hid (FX.does applyHave S1.out.fx HT.out d hfit)
      have hi1 : (k : Int) < (s.length : Int) := by omega
      have hi0 : (0 : Int) ≤ (k : Int) := by omega
      obtain ⟨c0, c1, c2, c3, c4, c5, c6, c7, c8, c9, c10, c11, c12⟩ := hca
      clear hrow hd hnx hfit ht hg
      unfold opA at DD
      go_wp2_with fail
      refine DD.out.mono ?_
      rintro e w5 ⟨rfl, h5, hs5⟩
      have S5 := Lib.hid (S1.out.same h5 hs5)
      rw [← HNX.out] at S5
      clear h5 hs5 DD S1 hS c0 c1 c2 c3 c4 c5 c6 c7 c8 c9 c10 c11 c12
      go_wp2_with fail
      go_roundg (gk - 1)
      case measure => omega
      case rel => exact ⟨k + 1, by go_num, by omega, by omega, S5⟩
    · have hc : ¬ (k : Int) < (s.length : Int) := by omega
      have hS2 := hS.out
      rw [List.take_of_length_le (by omega)] at hS2
      have HF2 := Lib.hid hS2
      clear hS2 hS
      go_wp2_with fail
      go_ret
      obtain ⟨U, u1, u2, _⟩ := HF2.out.fx.gx.at'
      exact ⟨b, rfl, U, u1, u2, HF2.out.fx.below⟩

set_option maxRecDepth 100000 in
set_option maxHeartbeats 3200000 in
theorem on_nil (A : Option Addr) (n c : Nat) (l : List Opn) (w : World) (T : Tab w) (hn : n ≤ 1000) (hl : ∀ o ∈ l, OpFit o) (h : OpsIn w w.heap.size A n l) :
    Calls Tryz.prog 20 #[.pointer none, .slice A n c] w fun e w' => e = .returned (.pointer none) ∧ Below w.heap.size w w' := by
  have HT := Lib.hid T
  have hfs := sort_sub (l := l)
  have HFS : Hid (∀ o ∈ sortO l, OpFit o) := Lib.hid fun o ho => hl o (hfs o ho)
  have HS : Hid (∀ W, Below w.heap.size w W → Calls Tryz.prog 38 #[.slice A n c] W (OpsPost (sortO l) W)) := Lib.hid fun W hW => sort_code A n c l W (tab_below T (Nat.le_refl _) hW) hn hl ((h.below hW).more hW.size)
  unfold OpsPost at HS
  have hsl := sort_len l
  have hll := h.len
  have hsn : (sortO l).length ≤ 1000 := by omega
  generalize sortO l = s at HFS HS hsn
  clear h hl T hfs hsl hll
  go_enter Tryz.func20, Tryz.ntmps20
  go_wp2_with fail
  refine (graphHave.nilCopy _).mono ?_
  rintro e w1 ⟨rfl, hb1⟩
  have D := Lib.hid (HS.out w1 hb1)
  have B1 := Lib.hid hb1
  clear hb1 HS
  go_wp2_with fail
  refine D.out.mono ?_
  rintro e w2 ⟨B, cB, rfl, hx, _, _, _, hb2⟩
  have HX := Lib.hid hx
  have B2 := Lib.hid (below_step B1.out hb2)
  clear hx hb2 D B1
  go_wp2_with fail
  go_loopg [13] (s.length + 1) (fun gk i wr => ∃ k : Nat, i = .int .i64 (k : Int) ∧ gk + k = s.length + 1 ∧ k ≤ s.length ∧ Hid (Below w2.heap.size w2 wr))
  case atStart => exact ⟨0, by go_num, by omega, by omega, Below.refl _ _⟩
  case round =>
    obtain ⟨k, rfl, hgk, hk, hB⟩ := hrel
    by_cases hlt : k < s.length
    · obtain ⟨gi, o, rfl, hg, hrow⟩ := HX.out.row (by omega)
      have hca := (hrow k hlt).below hB.out hg
      have hfit := HFS.out _ (List.getElem_mem hlt)
      generalize s[k] = d at hca hfit
      have hBA : Below w2.heap.size w2 (wr.alloc (.cells (opA d) 56)) := hB.out.alloc hB.out.size _
      have TA : Tab (wr.alloc (.cells (opA d) 56)) := tab_below HT.out (Nat.le_refl _) (below_step B2.out hBA)
      have HBA := Lib.hid hBA
      have DD := Lib.hid (applyHave.nilDo d (wr.alloc (.cells (opA d) 56)) hfit)
      have hi1 : (k : Int) < (s.length : Int) := by omega
      have hi0 : (0 : Int) ≤ (k : Int) := by omega
      obtain ⟨c0, c1, c2, c3, c4, c5, c6, c7, c8, c9, c10, c11, c12⟩ := hca
      clear hrow hfit hg TA hBA
      unfold opA at DD
      go_wp2_with fail
      refine DD.out.mono ?_
      rintro e w5 ⟨rfl, hb5⟩
      have B5 := Lib.hid (below_step HBA.out hb5)
      clear hb5 DD c0 c1 c2 c3 c4 c5 c6 c7 c8 c9 c10 c11 c12
      go_wp2_with fail
      go_roundg (gk - 1)
      case measure => omega
      case rel => exact ⟨k + 1, by go_num, by omega, by omega, B5⟩
    · have hc : ¬ (k : Int) < (s.length : Int) := by omega
      go_wp2_with fail
      go_ret
      exact ⟨rfl, below_step B2.out hB.out⟩

set_option maxRecDepth 100000 in
theorem of_code (A : Option Addr) (n c : Nat) (l : List Opn) (w : World) (T : Tab w) (hn : n ≤ 1000) (hl : ∀ o ∈ l, OpFit o) (h : OpsIn w w.heap.size A n l) :
    Calls Tryz.prog 10 #[.slice A n c] w fun e w' => ∃ b U, e = .returned (.pointer (some b)) ∧ graphHave.rep w' U b (runA (sortO l)) ∧ (∀ i, U i → w.heap.size ≤ i) ∧ Below w.heap.size w w' := by
  have HO : Hid (∀ (a : Addr) (S : Nat → Prop) (W : World), Below w.heap.size w W → graphHave.rep W S a newG → Calls Tryz.prog 20 #[.pointer (some a), .slice A n c] W fun e w' => ∃ b U, e = .returned (.pointer (some b)) ∧ graphHave.rep w' U b (runA (sortO l)) ∧ (∀ i, U i → W.heap.size ≤ i) ∧ Below W.heap.size W w') := Lib.hid fun a S W hW hr =>
    on_code a S newG A n c l W (tab_below T (Nat.le_refl _) hW) hr new_fine hn hl ((h.below hW).more hW.size)
  generalize runA (sortO l) = φ at HO ⊢
  clear h hl
  go_enter Tryz.func10, Tryz.ntmps10
  go_wp2_with fail
  refine (graphHave.new _).mono ?_
  rintro e w1 ⟨a, S, rfl, r1, _, hb1⟩
  have D := Lib.hid (HO.out a S w1 hb1 r1)
  have B1 := Lib.hid hb1
  clear r1 hb1 HO
  go_wp2_with fail
  refine D.out.mono ?_
  rintro e w2 ⟨b, U, rfl, u1, u2, hb2⟩
  have HU := Lib.hid (And.intro u1 (And.intro (fun i hi => Nat.le_trans B1.out.size (u2 i hi)) (below_step B1.out hb2)))
  clear u1 u2 hb2 D
  go_wp2_with fail
  go_ret
  exact ⟨b, U, rfl, HU.out.1, HU.out.2.1, HU.out.2.2⟩

end Go.Proofs.YtbkijfhfjhpebaaGreatDoor

/-
  What the statements of layer 13 need of the landed code: all contracts in one.
-/
namespace Go.Proofs.YtbkijfhfjhpebaaGreatDoor
open Go.RowKit StampMath GraphMath OpMath PackMath

theorem foldHave : FoldHave graphHave where
  sort := fun A n c l w _ hn hl h => sort_code A n c l w inferInstance hn hl h
  of := fun A n c l w _ hn hl h => of_code A n c l w inferInstance hn hl h
  on := fun a S g A n c l w _ hr _ hf hn hl h => on_code a S g A n c l w inferInstance hr hf hn hl h
  nilOn := fun A n c l w _ hn hl h => on_nil A n c l w inferInstance hn hl h

end Go.Proofs.YtbkijfhfjhpebaaGreatDoor

/-
  What the statements of layer 15 need of the landed code.
-/
namespace Go.Proofs.YtbkijfhfjhpebaaGreatDoor
open Go.RowKit StampMath GraphMath OpMath

theorem pathHave : PathHave graphHave where
  split := fun p w hp => (split_code p w hp).mono fun _ _ h => h.post
  find := fun a S g at_ p f w h hg hp => find_code graphHave a S g at_ p f w h hg hp
  nilFind := fun at_ p f w hp => nilFind_code graphHave at_ p f w hp
  home := fun a S g id w h hg => home_code graphHave a S g id w h hg
  nilHome := fun id w => nilHome_code graphHave id w

end Go.Proofs.YtbkijfhfjhpebaaGreatDoor

/-
  Arguments that are stamps or entries, opened.
-/
namespace Go.Proofs.YtbkijfhfjhpebaaGreatDoor
open Go.ChangeShapes Go.WideShapes Go.RowKit StampMath GraphMath

variable {H : Type} {enc : TypeId × Value → H}

theorem st_trod {w : World} {n : Nat} {a b : Value} {y : DataW H × List MemPlace} (h : DataW.trod enc Tryz.prog w 0 (fun _ => true) true n 24 [a, b] = some y) : ∃ s : St, a = .int .i64 s.1 ∧ b = .int .i64 s.2 := by
  have h1 : Tryz.prog.cellsOf 3 = 1 := by kernel_rfl
  have h2 : Tryz.prog.cellsOf 2 = 1 := by kernel_rfl
  obtain ⟨xs, m, _, _, _, hlen, hg⟩ := DataW.trod_struct Tryz.underlying24 h
  match xs, hlen with
  | [y0, y1], _ =>
    have g0 : DataW.trod enc Tryz.prog w 0 (fun _ => true) true m 2 (([a, b].drop 0).take (Tryz.prog.cellsOf 2)) = some y0 := hg 0 _ rfl
    have g1 : DataW.trod enc Tryz.prog w 0 (fun _ => true) true m 3 (([a, b].drop 1).take (Tryz.prog.cellsOf 3)) = some y1 := hg 1 _ rfl
    rw [h2] at g0
    rw [h1] at g1
    obtain ⟨t, e0, _, _⟩ := DataW.trod_int Tryz.underlying2 g0
    obtain ⟨r, e1, _, _⟩ := DataW.trod_int Tryz.underlying3 g1
    simp at e0 e1
    exact ⟨(t, r), e0, e1⟩

theorem ent_trod {w : World} {n : Nat} {c0 c1 c2 c3 c4 : Value} {y : DataW H × List MemPlace} (h : DataW.trod enc Tryz.prog w 0 (fun _ => true) true n 70 [c0, c1, c2, c3, c4] = some y) :
    ∃ e : Ent, #[c0, c1, c2, c3, c4] = entA e ∧ e.name.size ≤ maxLen := by
  have hC2 : Tryz.prog.cellsOf 24 = 2 := by kernel_rfl
  have hC3 : Tryz.prog.cellsOf 9 = 1 := by kernel_rfl
  obtain ⟨xs, m, _, _, _, hlen, hg⟩ := DataW.trod_struct Tryz.underlying70 h
  match xs, hlen with
  | [y0, y1, y2], _ =>
    have g0 : DataW.trod enc Tryz.prog w 0 (fun _ => true) true m 24 (([c0, c1, c2, c3, c4].drop 0).take (Tryz.prog.cellsOf 24)) = some y0 := hg 0 _ rfl
    have g1 : DataW.trod enc Tryz.prog w 0 (fun _ => true) true m 9 (([c0, c1, c2, c3, c4].drop 2).take (Tryz.prog.cellsOf 9)) = some y1 := hg 1 _ rfl
    have g2 : DataW.trod enc Tryz.prog w 0 (fun _ => true) true m 24 (([c0, c1, c2, c3, c4].drop 3).take (Tryz.prog.cellsOf 24)) = some y2 := hg 2 _ rfl
    rw [hC2] at g0 g2
    rw [hC3] at g1
    obtain ⟨s, rfl, rfl⟩ := st_trod (a := c0) (b := c1) g0
    obtain ⟨nm, e2, _, w2⟩ := DataW.trod_string Tryz.underlying9 g1
    obtain ⟨t, rfl, rfl⟩ := st_trod (a := c3) (b := c4) g2
    simp at e2
    subst e2
    exact ⟨⟨s, nm, t⟩, rfl, w2⟩

set_option maxRecDepth 100000 in
theorem open_st {w : World} {v : Value} {d : DataW H} {p : List MemPlace} {r : Reach} {b0 : Nat} (hv : Value.okWide Tryz.prog w r b0 24 v) (h : DataW.Trod enc Tryz.prog w 0 (fun _ => true) true 24 v d p) :
    ∃ s : St, v = .agg (stA s) := by
  have hC : Tryz.prog.cellsOf 24 = 2 := by kernel_rfl
  obtain ⟨cs, rfl, hsz⟩ := okWide_struct Tryz.underlying24 hv
  obtain ⟨l⟩ := cs
  match l, hsz.trans hC with
  | [c0, c1], _ =>
    obtain ⟨fuel, hf⟩ := h
    obtain ⟨s, rfl, rfl⟩ := st_trod (a := c0) (b := c1) hf
    exact ⟨s, rfl⟩

set_option maxRecDepth 100000 in
theorem open_ent {w : World} {v : Value} {d : DataW H} {p : List MemPlace} {r : Reach} {b0 : Nat} (hv : Value.okWide Tryz.prog w r b0 70 v) (h : DataW.Trod enc Tryz.prog w 0 (fun _ => true) true 70 v d p) :
    ∃ e : Ent, v = .agg (entA e) ∧ e.name.size ≤ maxLen := by
  have hC : Tryz.prog.cellsOf 70 = 5 := by kernel_rfl
  obtain ⟨cs, rfl, hsz⟩ := okWide_struct Tryz.underlying70 hv
  obtain ⟨l⟩ := cs
  match l, hsz.trans hC with
  | [c0, c1, c2, c3, c4], _ =>
    obtain ⟨fuel, hf⟩ := h
    obtain ⟨e, he, hs⟩ := ent_trod (c0 := c0) (c1 := c1) (c2 := c2) (c3 := c3) (c4 := c4) hf
    exact ⟨e, by rw [← he], hs⟩

theorem cell_spot {w : World} {g o : Nat} {s : Option Nat} {v : Value} (h : w.cell? ⟨g, o, s⟩ = some v) : s = none := by
  unfold World.cell? at h
  cases hb : w.heap[g]? with
  | none => simp [hb] at h
  | some x =>
    cases x <;> simp [hb] at h
    exact h.1

end Go.Proofs.YtbkijfhfjhpebaaGreatDoor

/-
  An argument that is a slice of structs of k cells each, opened.
-/
namespace Go.Proofs.YtbkijfhfjhpebaaGreatDoor
open Go.ChangeShapes Go.WideShapes Go.RowKit StampMath GraphMath

variable {H : Type} {enc : TypeId × Value → H}

set_option maxRecDepth 100000 in
/-- A slice whose elements are of k cells each. -/
theorem open_tab {α : Type} (encA : α → Array Value) (Good : α → Prop) (dflt : α) {k : Nat} (hk : 0 < k) (hsz : ∀ x, (encA x).size = k) {T E : TypeId} (hT : Tryz.prog.underlying T = some (.slice E)) (hC : Tryz.prog.cellsOf E = k) {w : World}
    (one : ∀ {n : Nat} {cs : List Value} {y : DataW H × List MemPlace}, cs.length = k → DataW.trod enc Tryz.prog w 0 (fun _ => true) true n E cs = some y → ∃ x, cs = (encA x).toList ∧ Good x)
    {v : Value} {d : DataW H} {p : List MemPlace} {r : Reach} {b0 : Nat} (hv : Value.okWide Tryz.prog w r b0 T v) (h : DataW.Trod enc Tryz.prog w 0 (fun _ => true) true T v d p) :
    ∃ (A : Option Addr) (n c : Nat) (xs : List α), v = .slice A n c ∧ n ≤ c ∧ c ≤ maxLen ∧ (∀ x ∈ xs, Good x) ∧ TabIn k w w.heap.size A n (xs.map encA) ∧ (A = Option.none → c = 0) := by
  obtain ⟨A, n, c, rfl⟩ := okWide_slice hT hv
  obtain ⟨fuel, hf⟩ := h
  rcases Deep.open_slice hT hf with ⟨hcs, _⟩ | ⟨a, len, cap, m, kk, D, Pl, hcs, _, hlc, hcm, hm, hx, hi⟩
  · simp only [Value.cells, List.cons.injEq, and_true, Value.slice.injEq] at hcs
    obtain ⟨rfl, rfl, rfl⟩ := hcs
    exact ⟨Option.none, 0, 0, [], rfl, by omega, by decide, (fun x hx => by cases hx), TabIn.nil k w _ _, fun _ => rfl⟩
  · simp only [Value.cells, List.cons.injEq, and_true, Value.slice.injEq] at hcs
    obtain ⟨rfl, rfl, rfl⟩ := hcs
    have hmc : m = c := by rw [hm]; rfl
    subst hmc
    rw [hC] at hi
    have each : ∀ i, i < n → ∃ x : α, (∀ j v, (encA x)[j]? = some v → w.cell? ((a.add (i * k)).add j) = some v) ∧ Good x := by
      intro i hin
      obtain ⟨cs, hc, ht⟩ := hi i (by omega)
      obtain ⟨_, hl, hat⟩ := World.cells?_some hc
      obtain ⟨x, he, hs⟩ := one hl ht
      refine ⟨x, fun j v hj => ?_, hs⟩
      have hjk : j < k := by rw [← hsz x]; exact (Array.getElem?_eq_some_iff.1 hj).1
      rw [hat j hjk, he]
      simpa using hj
    obtain ⟨g, o, sp⟩ := a
    have hsp : 0 < n → sp = Option.none := fun hn => by
      obtain ⟨x, hc, _⟩ := each 0 hn
      have h0 : 0 < (encA x).size := by rw [hsz]; exact hk
      exact cell_spot (by simpa [Addr.add] using hc 0 _ (Array.getElem?_eq_getElem h0))
    refine ⟨some ⟨g, o, sp⟩, n, m, (List.range n).map (fun i => if h : i < n then Classical.choose (each i h) else dflt), rfl, hlc, hcm, fun x hx => ?_, ⟨by simp, fun hn => ?_⟩, fun h => by cases h⟩
    · obtain ⟨i, hi1, rfl⟩ := List.mem_map.1 hx
      have hin := List.mem_range.1 hi1
      rw [dif_pos hin]
      exact (Classical.choose_spec (each i hin)).2
    · have hs := hsp hn
      subst hs
      obtain ⟨x0, c0, _⟩ := each 0 hn
      have h0 : 0 < (encA x0).size := by rw [hsz]; exact hk
      refine ⟨g, o, rfl, by have := World.block_lt_of_cell? _ _ (c0 0 _ (Array.getElem?_eq_getElem h0)); simpa [Addr.add] using this, fun j hj i v hv => ?_⟩
      have hjn : j < n := by simpa using hj
      have he : (((List.range n).map (fun i => if h : i < n then Classical.choose (each i h) else dflt)).map encA)[j]'hj = encA (Classical.choose (each j hjn)) := by
        rw [List.getElem_map, List.getElem_map, List.getElem_range, dif_pos hjn]
      rw [he] at hv
      have q := (Classical.choose_spec (each j hjn)).1 i v hv
      rw [tab_add, tab_add] at q
      exact q

end Go.Proofs.YtbkijfhfjhpebaaGreatDoor

/-
  An argument that is an operation, opened.
-/
namespace Go.Proofs.YtbkijfhfjhpebaaGreatDoor
open Go.ChangeShapes Go.WideShapes Go.RowKit OpMath PackMath

variable {H : Type} {enc : TypeId × Value → H}

theorem stamp_trod {w : World} {n : Nat} {a b : Value} {y : DataW H × List MemPlace} (h : DataW.trod enc Tryz.prog w 0 (fun _ => true) true n 24 [a, b] = some y) :
    ∃ t r : Int, a = .int .i64 t ∧ b = .int .i64 r ∧ IsI64 t ∧ IsI64 r := by
  have h1 : Tryz.prog.cellsOf 3 = 1 := by kernel_rfl
  have h2 : Tryz.prog.cellsOf 2 = 1 := by kernel_rfl
  obtain ⟨xs, m, _, _, _, hlen, hg⟩ := DataW.trod_struct Tryz.underlying24 h
  match xs, hlen with
  | [y0, y1], _ =>
    have g0 : DataW.trod enc Tryz.prog w 0 (fun _ => true) true m 2 (([a, b].drop 0).take (Tryz.prog.cellsOf 2)) = some y0 := hg 0 _ rfl
    have g1 : DataW.trod enc Tryz.prog w 0 (fun _ => true) true m 3 (([a, b].drop 1).take (Tryz.prog.cellsOf 3)) = some y1 := hg 1 _ rfl
    rw [h2] at g0
    rw [h1] at g1
    obtain ⟨t, e0, _, w0⟩ := DataW.trod_int Tryz.underlying2 g0
    obtain ⟨r, e1, _, w1⟩ := DataW.trod_int Tryz.underlying3 g1
    simp at e0 e1
    exact ⟨t, r, e0, e1, bounds_i64 w0, bounds_i64 w1⟩

set_option maxRecDepth 100000 in
theorem op_trod {w : World} {n : Nat} {c0 c1 c2 c3 c4 c5 c6 c7 c8 c9 c10 c11 c12 : Value} {y : DataW H × List MemPlace} (h : DataW.trod enc Tryz.prog w 0 (fun _ => true) true n 56 [c0, c1, c2, c3, c4, c5, c6, c7, c8, c9, c10, c11, c12] = some y) :
    ∃ o : Opn, Value.agg #[c0, c1, c2, c3, c4, c5, c6, c7, c8, c9, c10, c11, c12] = .agg (opA o) ∧ Ok64 o ∧ o.name.size ≤ maxLen ∧ o.new.size ≤ maxLen ∧ o.data.size ≤ maxLen := by
  have hC1 : Tryz.prog.cellsOf 3 = 1 := by kernel_rfl
  have hC2 : Tryz.prog.cellsOf 24 = 2 := by kernel_rfl
  have hC3 : Tryz.prog.cellsOf 9 = 1 := by kernel_rfl
  obtain ⟨xs, n, _, _, _, hlen, hg⟩ := DataW.trod_struct Tryz.underlying56 h
  match xs, hlen with
  | [y0, y1, y2, y3, y4, y5, y6, y7, y8], _ =>
    have g0 : DataW.trod enc Tryz.prog w 0 (fun _ => true) true n 24 (([c0, c1, c2, c3, c4, c5, c6, c7, c8, c9, c10, c11, c12].drop 0).take (Tryz.prog.cellsOf 24)) = some y0 := hg 0 _ rfl
    have g1 : DataW.trod enc Tryz.prog w 0 (fun _ => true) true n 3 (([c0, c1, c2, c3, c4, c5, c6, c7, c8, c9, c10, c11, c12].drop 2).take (Tryz.prog.cellsOf 3)) = some y1 := hg 1 _ rfl
    have g2 : DataW.trod enc Tryz.prog w 0 (fun _ => true) true n 24 (([c0, c1, c2, c3, c4, c5, c6, c7, c8, c9, c10, c11, c12].drop 3).take (Tryz.prog.cellsOf 24)) = some y2 := hg 2 _ rfl
    have g3 : DataW.trod enc Tryz.prog w 0 (fun _ => true) true n 24 (([c0, c1, c2, c3, c4, c5, c6, c7, c8, c9, c10, c11, c12].drop 5).take (Tryz.prog.cellsOf 24)) = some y3 := hg 3 _ rfl
    have g4 : DataW.trod enc Tryz.prog w 0 (fun _ => true) true n 24 (([c0, c1, c2, c3, c4, c5, c6, c7, c8, c9, c10, c11, c12].drop 7).take (Tryz.prog.cellsOf 24)) = some y4 := hg 4 _ rfl
    have g5 : DataW.trod enc Tryz.prog w 0 (fun _ => true) true n 9 (([c0, c1, c2, c3, c4, c5, c6, c7, c8, c9, c10, c11, c12].drop 9).take (Tryz.prog.cellsOf 9)) = some y5 := hg 5 _ rfl
    have g6 : DataW.trod enc Tryz.prog w 0 (fun _ => true) true n 9 (([c0, c1, c2, c3, c4, c5, c6, c7, c8, c9, c10, c11, c12].drop 10).take (Tryz.prog.cellsOf 9)) = some y6 := hg 6 _ rfl
    have g7 : DataW.trod enc Tryz.prog w 0 (fun _ => true) true n 3 (([c0, c1, c2, c3, c4, c5, c6, c7, c8, c9, c10, c11, c12].drop 11).take (Tryz.prog.cellsOf 3)) = some y7 := hg 7 _ rfl
    have g8 : DataW.trod enc Tryz.prog w 0 (fun _ => true) true n 9 (([c0, c1, c2, c3, c4, c5, c6, c7, c8, c9, c10, c11, c12].drop 12).take (Tryz.prog.cellsOf 9)) = some y8 := hg 8 _ rfl
    rw [hC2] at g0 g2 g3 g4
    rw [hC1] at g1 g7
    rw [hC3] at g5 g6 g8
    obtain ⟨st, sr, rfl, rfl, i0, i1⟩ := stamp_trod (a := c0) (b := c1) g0
    obtain ⟨k, e2, _, w2⟩ := DataW.trod_int Tryz.underlying3 g1
    obtain ⟨pt, pr, rfl, rfl, i3, i4⟩ := stamp_trod (a := c3) (b := c4) g2
    obtain ⟨it, ir, rfl, rfl, i5, i6⟩ := stamp_trod (a := c5) (b := c6) g3
    obtain ⟨tt, tr, rfl, rfl, i7, i8⟩ := stamp_trod (a := c7) (b := c8) g4
    obtain ⟨a, e9, _, w9⟩ := DataW.trod_string Tryz.underlying9 g5
    obtain ⟨b, e10, _, w10⟩ := DataW.trod_string Tryz.underlying9 g6
    obtain ⟨f, e11, _, w11⟩ := DataW.trod_int Tryz.underlying3 g7
    obtain ⟨c, e12, _, w12⟩ := DataW.trod_string Tryz.underlying9 g8
    simp at e2 e9 e10 e11 e12
    subst e2 e9 e10 e11 e12
    exact ⟨⟨st, sr, k, pt, pr, it, ir, tt, tr, a, b, f, c⟩, rfl, ⟨i0, i1, bounds_i64 w2, i3, i4, i5, i6, i7, i8, bounds_i64 w11⟩, w9, w10, w12⟩

set_option maxRecDepth 100000 in
theorem open_op {w : World} {v : Value} {d : DataW H} {p : List MemPlace} {r : Reach} {b0 : Nat} (hv : Value.okWide Tryz.prog w r b0 56 v) (h : DataW.Trod enc Tryz.prog w 0 (fun _ => true) true 56 v d p) :
    ∃ o : Opn, v = .agg (opA o) ∧ Ok64 o ∧ o.name.size ≤ maxLen ∧ o.new.size ≤ maxLen ∧ o.data.size ≤ maxLen := by
  have hC : Tryz.prog.cellsOf 56 = 13 := by kernel_rfl
  obtain ⟨cs, rfl, hsz⟩ := okWide_struct Tryz.underlying56 hv
  obtain ⟨l⟩ := cs
  match l, hsz.trans hC with
  | [c0, c1, c2, c3, c4, c5, c6, c7, c8, c9, c10, c11, c12], _ =>
    obtain ⟨fuel, hf⟩ := h
    exact op_trod (c0 := c0) (c1 := c1) (c2 := c2) (c3 := c3) (c4 := c4) (c5 := c5) (c6 := c6) (c7 := c7) (c8 := c8) (c9 := c9) (c10 := c10) (c11 := c11) (c12 := c12) hf

end Go.Proofs.YtbkijfhfjhpebaaGreatDoor

/-
  Arguments of layer 11's statements, opened: a slice of operations.
-/
namespace Go.Proofs.YtbkijfhfjhpebaaGreatDoor
open Go.ChangeShapes Go.WideShapes Go.RowKit StampMath GraphMath OpMath PackMath

variable {H : Type} {enc : TypeId × Value → H}

set_option maxRecDepth 100000 in
theorem open_ops {w : World} {v : Value} {d : DataW H} {p : List MemPlace} {r : Reach} {b0 : Nat} (hv : Value.okWide Tryz.prog w r b0 22 v) (h : DataW.Trod enc Tryz.prog w 0 (fun _ => true) true 22 v d p) :
    ∃ (A : Option Addr) (n c : Nat) (l : List Opn), v = .slice A n c ∧ n ≤ c ∧ c ≤ maxLen ∧ (∀ x ∈ l, OpFit x) ∧ OpsIn w w.heap.size A n l := by
  obtain ⟨A, n, c, l, h1, h2, h3, h4, h5, _⟩ := open_tab opA OpFit ⟨0, 0, 0, 0, 0, 0, 0, 0, 0, ⟨#[]⟩, ⟨#[]⟩, 0, ⟨#[]⟩⟩ (k := 13) (by omega) (fun _ => rfl) Tryz.underlying22 (by kernel_rfl) (fun {n cs y} hl ht => by
    match cs, hl with
    | [c0, c1, c2, c3, c4, c5, c6, c7, c8, c9, c10, c11, c12], _ =>
      obtain ⟨o, he, q1, q2, q3, q4⟩ := op_trod (c0 := c0) (c1 := c1) (c2 := c2) (c3 := c3) (c4 := c4) (c5 := c5) (c6 := c6) (c7 := c7) (c8 := c8) (c9 := c9) (c10 := c10) (c11 := c11) (c12 := c12) ht
      simp only [Value.agg.injEq] at he
      exact ⟨o, by rw [← he], ⟨q1, q2, q3, q4⟩⟩) hv h
  exact ⟨A, n, c, l, h1, h2, h3, h4, h5⟩

end Go.Proofs.YtbkijfhfjhpebaaGreatDoor

/-
  From the rows' condition on three listed tables to the cells of the table of fields; a start that meets the condition.
-/
namespace Go.Proofs.YtbkijfhfjhpebaaGreatDoor
open Go.ChangeShapes Go.WideShapes Go.ChangeAt Go.RowKit

theorem tab_global : Tryz.prog.globalNamed "thimble/op.fields" = some 1 := by kernel_rfl
theorem tab_type : (Tryz.prog.globals[1]?).map (·.type) = some 177 := by kernel_rfl

/-- A start in which the tables lie. -/
theorem path_met (os : Os) (args : Array Value) : laidMetH Tryz.prog [("unicode/utf8.acceptRanges", Rows.laid_unicode_utf8_acceptRanges), ("thimble/op.fields", Rows.laid_thimble_op_fields), ("unicode/utf8.first", Rows.laid_unicode_utf8_first)] ((World.laidAll Tryz.prog os [("unicode/utf8.acceptRanges", Rows.laid_unicode_utf8_acceptRanges), ("thimble/op.fields", Rows.laid_thimble_op_fields), ("unicode/utf8.first", Rows.laid_unicode_utf8_first)]).forCall (fun _ _ => 0) ⟨#[], args, []⟩).memory := by
  rw [MakeChecks.laidMetH_plain _ _ _ (by kernel_rfl)]
  exact laidMet_laidAll _ (by kernel_rfl) (by kernel_rfl)

theorem path_laid {W : World} (h : laidMetH Tryz.prog [("unicode/utf8.acceptRanges", Rows.laid_unicode_utf8_acceptRanges), ("thimble/op.fields", Rows.laid_thimble_op_fields), ("unicode/utf8.first", Rows.laid_unicode_utf8_first)] W) : Tab W := by
  rw [MakeChecks.laidMetH_plain _ _ _ (by kernel_rfl)] at h
  obtain ⟨ps, ⟨_, _, _, _, _, _, _, _, _, _, h2, _⟩, _, _⟩ := h
  obtain ⟨g0, t0, cs0, f0, p0, q0, hg0, ht0, hv0, hd0, _⟩ := h2
  obtain rfl := Option.some.inj (tab_global.symm.trans hg0)
  obtain rfl := Option.some.inj (tab_type.symm.trans ht0)
  obtain ⟨xs, m, rfl, hx, hlen, hn, hel⟩ := DataW.trod_array Tryz.underlying177 hd0
  have c1 : Tryz.prog.cellsOf 3 = 1 := by kernel_rfl
  have hm : xs.map (·.1) = tabL.map fun n => DataW.lit (.int .i64 n) := by
    have h2 := (Prod.mk.inj hx).1
    exact (DataW.agg.inj h2).symm
  refine ⟨Lib.hid fun i x hi => ?_⟩
  have hl : i < 11 := (List.getElem?_eq_some_iff.1 hi).1
  have hE := hel i hl
  rw [c1, Nat.mul_one] at hE
  have hy : (xs.map (·.1))[i]? = some (DataW.lit (.int .i64 x)) := by rw [hm, List.getElem?_map, hi]; rfl
  rw [List.getElem?_map] at hy
  cases hxi : xs[i]? with
  | none => rw [hxi] at hy; cases hy
  | some y =>
    rw [hxi] at hE hy
    simp only [Option.map_some, Option.some.injEq] at hy
    obtain ⟨k, e1, e2, _⟩ := DataW.trod_int Tryz.underlying3 hE
    rw [e2] at hy
    simp only [DataW.lit.injEq, Lit.int.injEq, true_and] at hy
    subst hy
    have hc := World.var?_cell hg0 hv0 i
    rw [hc, ← Array.getElem?_toList]
    have h3 : (cs0.toList.drop i).head? = some (.int .i64 k) := by
      cases hdr : cs0.toList.drop i with
      | nil => rw [hdr] at e1; simp at e1
      | cons a r => rw [hdr] at e1; simp at e1; rw [e1]; rfl
    rw [List.head?_drop] at h3
    exact h3

end Go.Proofs.YtbkijfhfjhpebaaGreatDoor
