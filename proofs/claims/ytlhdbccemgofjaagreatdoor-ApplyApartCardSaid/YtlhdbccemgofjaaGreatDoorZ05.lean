/-
  The landed apply: what sets an inode's contents, or its mode.
-/
import Derived.Test.YtlhdbccemgofjaaGreatDoorZ04
import Derived.Test.YtlhdbccemgofjaaGreatDoorZ01
import Derived.Test.YtlhdbccemgofjaaGreatDoorZ00
import Derived.Test.YtlhdbccemgofjaaGreatDoorRows
import Derived.Deep.RegionHeld3
import Derived.Deep.LoopGhost
import Derived.Sort.Grow
import Derived.Sort.Statements
import Derived.Shelf.SlSortCmp.Insertion
import Derived.Shelf.SlGeneric
import Derived.Shelf.SlLaysF0
import Derived.Shelf.SlLaysW
import Derived.Test.YtlhdbccemgofjaaGreatDoorProg
import Derived.Shelf.SlSortCmp.WholeK
import Derived.Shelf.SlSortCmp.NoneTotal
namespace Go.Proofs.YtlhdbccemgofjaaGreatDoor
open Go.RowKit StampMath GraphMath OpMath PackMath ExtentMath

theorem ino_store5 {W : World} {u : Nat} {x : Ino} {T : TypeId} (h : W.heap[u]? = some (.cells (inoA x) T (0, 0))) (d : ByteArray) : (W.setCell ⟨u, 5, none⟩ (.string d)).heap[u]? = some (.cells (inoA { x with data := d }) T (0, 0)) := by
  rw [heap_setCell_same _ _ _ _ _ _ h]
  rfl

theorem ino_store4 {W : World} {u : Nat} {x : Ino} {T : TypeId} (h : W.heap[u]? = some (.cells (inoA x) T (0, 0))) (m : Int) : (W.setCell ⟨u, 4, none⟩ (.int .i64 m)).heap[u]? = some (.cells (inoA { x with mode := m }) T (0, 0)) := by
  rw [heap_setCell_same _ _ _ _ _ _ h]
  rfl

theorem but_cell (W : World) (u i : Nat) (v : Value) : But (fun k => k = u) W (W.setCell ⟨u, i, none⟩ v) := (But.refl (fun k => k = u) W).setCell (p := ⟨u, i, none⟩) (Or.inl rfl) v

set_option maxRecDepth 100000 in
set_option maxHeartbeats 1600000 in
theorem set_code' (H : GraphHave) (XH : ExtentHave) (w W0 : World) (N : Nat → Prop) (a : Addr) (g : Gr) (o : Opn) (h : GX H w W0 N a g) (hf : g.fine) (hw : whyA g o = 0) (ho : OpFit o) (hk : 8 ≤ o.k) (hk10 : o.k ≤ 10) :
    Calls Tryz.prog 74 #[.agg (deedA a o)] W0 (Did H w W0 N a (madeA g o)) := by
  have hm := whyA_may hw
  have hid := kept_id h.ok hw hk hk10
  have hD0 := (DX.start h).alloc (.cells (deedA a o) 73) rfl
  have hsz := inoG_small hf (oIno o)
  obtain ⟨x, hx⟩ : ∃ x, x = inoG g (oIno o) := ⟨_, rfl⟩
  have hcase : ((o.k == 8) = true ∧ o.data.size ≤ 2000 ∧ madeA g o = (setG g (oIno o) x.mode (wR x.data o.off o.data).1).1) ∨ ((o.k == 8) = false ∧ (o.k == 9) = true ∧ madeA g o = (setG g (oIno o) x.mode (tR x.data o.off).1).1) ∨
      ((o.k == 8) = false ∧ (o.k == 9) = false ∧ (o.k == 10) = true ∧ madeA g o = (setG g (oIno o) o.off x.data).1) := by
    rw [hx]
    rcases show o.k = 8 ∨ o.k = 9 ∨ o.k = 10 by omega with q | q | q
    · exact Or.inl ⟨by rw [q]; rfl, by have := data_small hm q; omega, write_made hf hm q⟩
    · exact Or.inr (Or.inl ⟨by rw [q]; rfl, by rw [q]; rfl, trunc_made hf hm q⟩)
    · exact Or.inr (Or.inr ⟨by rw [q]; rfl, by rw [q]; rfl, by rw [q]; rfl, mode_made q⟩)
  rw [← hx] at hid hsz
  have hxd : x.data.size ≤ 2000 := by omega
  have HC := Lib.hid hcase
  have HX := Lib.hid hx
  have HF := Lib.hid ho
  have HI := Lib.hid hid
  generalize madeA g o = gr at HC ⊢
  clear hcase hx h hf hw hk hk10 hm hsz ho hid
  unfold Did
  go_enter Tryz.func74, Tryz.ntmps74
  go_upto_region 1 with fail
  change Code.wp _ _ _ _ (W0.alloc (.cells (deedA a o) 73))
  generalize W0.alloc (.cells (deedA a o) 73) = w0 at hD0 ⊢
  obtain ⟨d0, d1, d2, d3, d4, d5, d6, d7, d8, d9, d10, d11, d12, d13⟩ := deed_cells (g := W0.heap.size) (hD0.at 0 rfl)
  go_wp2_with fail
  refine (hD0.get (o.it, o.ir)).mono ?_
  rintro e w1 ⟨rfl, hD1⟩
  rw [show (getG g (o.it, o.ir)).getD noIno = x from HX.out.symm]
  unfold inoA
  generalize (getG g (o.it, o.ir)).isSome = is
  clear d0 d1 d2 d3 d4 d5 d6 d7 d8 d9 d10 d11 d12 d13 hD0 HX
  go_upto_region 2 with fail
  obtain ⟨u, hu⟩ : ∃ u, u = w1.heap.size := ⟨_, rfl⟩
  have hlu : W0.heap.size < u := by rw [hu]; exact heap_lt (hD1.at 0 rfl)
  have hD2 := hD1.alloc (.cells (inoA x) 54) hu.symm
  change Code.wp _ _ _ _ (w1.alloc (.cells (inoA x) 54))
  rw [← hu]
  generalize w1.alloc (.cells (inoA x) 54) = w2 at hD2 ⊢
  clear hD1 hu
  obtain ⟨d0, d1, d2, d3, d4, d5, d6, d7, d8, d9, d10, d11, d12, d13⟩ := deed_cells (g := W0.heap.size) (hD2.at 1 rfl)
  obtain ⟨i0, i1, i2, i3, i4, i5⟩ := ino_cells (g := u) (hD2.at 0 rfl)
  obtain ⟨f0, f1, f2, f3, f4, f5⟩ := ino_free (g := u) (hD2.at 0 rfl)
  have HD2 := Lib.hid hD2
  clear hD2
  rcases HC.out with ⟨k8, hds, hgr⟩ | ⟨k8, k9, hgr⟩ | ⟨k8, k9, k10, hgr⟩
  · have HR := Lib.hid hgr
    clear hgr HC
    go_wp2_with fail
    refine (XH.write x.data o.off o.data _ hxd hds HF.out.ok.off).mono ?_
    rintro e w3 ⟨rfl, hb3⟩
    have hD3 := HD2.out.step hb3
    obtain ⟨dd, hdd⟩ : ∃ dd, dd = (wR x.data o.off o.data).1 := ⟨_, rfl⟩
    generalize (wR x.data o.off o.data).2 = er
    rw [← hdd] at HR ⊢
    clear d0 d1 d2 d3 d4 d5 d6 d7 d8 d9 d10 d11 d12 d13 i0 i1 i2 i3 i4 i5 f0 f1 f2 f3 f4 f5 HD2 hb3 hdd
    obtain ⟨i0, i1, i2, i3, i4, i5⟩ := ino_cells (g := u) (hD3.at 0 rfl)
    obtain ⟨f0, f1, f2, f3, f4, f5⟩ := ino_free (g := u) (hD3.at 0 rfl)
    have hD4 := hD3.put (fun p hp => by simp at hp; rw [hp]; dsimp only; omega) (but_cell w3 u 5 (.string dd)) (ino_store5 (hD3.at 0 rfl) dd)
    have HD4 := Lib.hid hD4
    clear hD3 hD4
    go_upto_region 9 with fail
    change Code.wp _ _ _ _ (w3.setCell ⟨u, 5, none⟩ (.string dd))
    generalize w3.setCell ⟨u, 5, none⟩ (.string dd) = w4 at HD4 ⊢
    clear i0 i1 i2 i3 i4 i5 f0 f1 f2 f3 f4 f5
    obtain ⟨d0, d1, d2, d3, d4, d5, d6, d7, d8, d9, d10, d11, d12, d13⟩ := deed_cells (g := W0.heap.size) (HD4.out.at 1 rfl)
    obtain ⟨i0, i1, i2, i3, i4, i5⟩ := ino_cells (g := u) (HD4.out.at 0 rfl)
    dsimp only at i0 i1 i2 i3 i4 i5
    go_wp2_with fail
    refine (HD4.out.set x.id x.mode dd).mono ?_
    rintro e w5 ⟨rfl, hD5⟩
    rw [HI.out] at hD5
    go_wp2_with fail
    exact bodyPost_end (results_none rfl _ _ _) rfl ⟨rfl, by rw [HR.out]; exact hD5.fin⟩
  · have HR := Lib.hid hgr
    clear hgr HC
    go_wp2_with fail
    refine (XH.trunc x.data o.off _ hxd HF.out.ok.off).mono ?_
    rintro e w3 ⟨rfl, hb3⟩
    have hD3 := HD2.out.step hb3
    obtain ⟨dd, hdd⟩ : ∃ dd, dd = (tR x.data o.off).1 := ⟨_, rfl⟩
    generalize (tR x.data o.off).2 = er
    rw [← hdd] at HR ⊢
    clear d0 d1 d2 d3 d4 d5 d6 d7 d8 d9 d10 d11 d12 d13 i0 i1 i2 i3 i4 i5 f0 f1 f2 f3 f4 f5 HD2 hb3 hdd
    obtain ⟨i0, i1, i2, i3, i4, i5⟩ := ino_cells (g := u) (hD3.at 0 rfl)
    obtain ⟨f0, f1, f2, f3, f4, f5⟩ := ino_free (g := u) (hD3.at 0 rfl)
    have hD4 := hD3.put (fun p hp => by simp at hp; rw [hp]; dsimp only; omega) (but_cell w3 u 5 (.string dd)) (ino_store5 (hD3.at 0 rfl) dd)
    have HD4 := Lib.hid hD4
    clear hD3 hD4
    go_upto_region 9 with fail
    change Code.wp _ _ _ _ (w3.setCell ⟨u, 5, none⟩ (.string dd))
    generalize w3.setCell ⟨u, 5, none⟩ (.string dd) = w4 at HD4 ⊢
    clear i0 i1 i2 i3 i4 i5 f0 f1 f2 f3 f4 f5
    obtain ⟨d0, d1, d2, d3, d4, d5, d6, d7, d8, d9, d10, d11, d12, d13⟩ := deed_cells (g := W0.heap.size) (HD4.out.at 1 rfl)
    obtain ⟨i0, i1, i2, i3, i4, i5⟩ := ino_cells (g := u) (HD4.out.at 0 rfl)
    dsimp only at i0 i1 i2 i3 i4 i5
    go_wp2_with fail
    refine (HD4.out.set x.id x.mode dd).mono ?_
    rintro e w5 ⟨rfl, hD5⟩
    rw [HI.out] at hD5
    go_wp2_with fail
    exact bodyPost_end (results_none rfl _ _ _) rfl ⟨rfl, by rw [HR.out]; exact hD5.fin⟩
  · have HR := Lib.hid hgr
    have hD4 := HD2.out.put (fun p hp => by simp at hp; rw [hp]; dsimp only; omega) (but_cell w2 u 4 (.int .i64 o.off)) (ino_store4 (HD2.out.at 0 rfl) o.off)
    have HD4 := Lib.hid hD4
    clear hgr HC HD2 hD4
    go_upto_region 9 with fail
    change Code.wp _ _ _ _ (w2.setCell ⟨u, 4, none⟩ (.int .i64 o.off))
    generalize w2.setCell ⟨u, 4, none⟩ (.int .i64 o.off) = w4 at HD4 ⊢
    clear d0 d1 d2 d3 d4 d5 d6 d7 d8 d9 d10 d11 d12 d13 i0 i1 i2 i3 i4 i5 f0 f1 f2 f3 f4 f5
    obtain ⟨d0, d1, d2, d3, d4, d5, d6, d7, d8, d9, d10, d11, d12, d13⟩ := deed_cells (g := W0.heap.size) (HD4.out.at 1 rfl)
    obtain ⟨i0, i1, i2, i3, i4, i5⟩ := ino_cells (g := u) (HD4.out.at 0 rfl)
    dsimp only at i0 i1 i2 i3 i4 i5
    go_wp2_with fail
    refine (HD4.out.set x.id o.off x.data).mono ?_
    rintro e w5 ⟨rfl, hD5⟩
    rw [HI.out] at hD5
    go_wp2_with fail
    exact bodyPost_end (results_none rfl _ _ _) rfl ⟨rfl, by rw [HR.out]; exact hD5.fin⟩

end Go.Proofs.YtlhdbccemgofjaaGreatDoor

/-
  The landed apply: Why of what may not be, and of no graph; what changes; Do.
-/
namespace Go.Proofs.YtlhdbccemgofjaaGreatDoor
open Go.RowKit StampMath GraphMath OpMath PackMath ExtentMath

set_option maxRecDepth 100000 in
theorem whyBad (a : Addr) (g : Gr) (o : Opn) (w : World) [Tab w] (hm : mayO o = false) (hf : OpFit o) :
    Calls Tryz.prog 15 #[.pointer (some a), .agg (opA o)] w fun e w' => e = .returned (.int .i64 (whyA g o)) ∧ Below w.heap.size w w' := by
  have hw : whyA g o = 1 := by unfold whyA; rw [if_pos hm]
  rw [hw]
  have HM : Hid (∀ (W : World) [Tab W], Calls Tryz.prog 27 #[.agg #[.int .i64 o.st, .int .i64 o.sr, .int .i64 o.k, .int .i64 o.pt, .int .i64 o.pr, .int .i64 o.it, .int .i64 o.ir, .int .i64 o.tt, .int .i64 o.tr, .string o.name, .string o.new, .int .i64 o.off, .string o.data]] W fun e w' => e = .returned (.bool false) ∧ Below W.heap.size W w') := Lib.hid fun W _ => by rw [← hm]; exact opMay_any o W hf.ok hf.name hf.new hf.data
  have hS0 : Held w [(w.heap.size, .cells (opA o) 37 (0, 0))] (w.alloc (.cells (opA o) 37)) := (Held.refl w).alloc (.cells (opA o) 37) rfl
  have i0 : Tab (w.alloc (.cells (opA o) 37)) := inferInstance
  clear hm hf hw
  unfold opA
  go_enter Tryz.func15, Tryz.ntmps15
  go_upto_region 1 with fail
  change Code.wp _ _ _ _ (w.alloc (.cells (opA o) 37))
  generalize w.alloc (.cells (opA o) 37) = w0 at hS0 i0 ⊢
  obtain ⟨e0, e1, e2, e3, e4, e5, e6, e7, e8, e9, e10, e11, e12⟩ := op_cells (o := o) (g := w.heap.size) (hS0.at 0 rfl)
  go_wp2_with fail
  refine (HM.out _).mono ?_
  rintro e w1 ⟨rfl, hb1⟩
  have hS1 := hS0.step hb1
  clear hS0 hb1 HM
  go_wp2_with fail
  go_ret
  exact ⟨rfl, hS1.below⟩

set_option maxRecDepth 100000 in
theorem whyNil (o : Opn) (w : World) :
    Calls Tryz.prog 15 #[.pointer none, .agg (opA o)] w fun e w' => e = .returned (.int .i64 1) ∧ Below w.heap.size w w' := by
  unfold opA
  go_enter Tryz.func15, Tryz.ntmps15
  go_wp2_with fail
  go_ret
  exact ⟨rfl, (Below.refl _ _).alloc (Nat.le_refl _) _⟩

theorem why_code (H : GraphHave) (a : Addr) (S : Nat → Prop) (g : Gr) (o : Opn) (w : World) [Tab w] (h : H.rep w S a g) (hg : g.ok) (hf : OpFit o) :
    Calls Tryz.prog 15 #[.pointer (some a), .agg (opA o)] w fun e w' => e = .returned (.int .i64 (whyA g o)) ∧ Below w.heap.size w w' := by
  cases hm : mayO o with
  | true => exact whyGood H a S g o w h hg hm hf
  | false => exact whyBad a g o w hm hf

section
variable {H : GraphHave} {w W0 W : World} {N : Nat → Prop} {a : Addr} {g : Gr} {L : List (Nat × Obj)}

theorem DX.did (h : DX H w W0 W N a g L) {f : FuncId} {args : Array Value} {g' : Gr} (k : Calls Tryz.prog f args W (Did H w W (fun i => N i ∨ ∃ p ∈ L, p.1 = i) a g')) :
    Calls Tryz.prog f args W fun e w' => e = .returned (.tuple #[]) ∧ DX H w W0 w' N a g' L := k.mono fun _ _ ⟨he, q⟩ => ⟨he, h.call q⟩

end

set_option maxRecDepth 100000 in
set_option maxHeartbeats 3200000 in
theorem change_code (H : GraphHave) (XH : ExtentHave) (w W0 : World) (N : Nat → Prop) (a : Addr) (g : Gr) (o : Opn) (h : GX H w W0 N a g) (hf : g.fine) (hw : whyA g o = 0) (ho : OpFit o) :
    Calls Tryz.prog 37 #[.agg (deedA a o)] W0 (Did H w W0 N a (madeA g o)) := by
  have hm := whyA_may hw
  obtain ⟨p1, p2, _⟩ := mayO_parts hm
  have hD0 := (DX.start h).alloc (.cells (deedA a o) 73) rfl
  have HP := Lib.hid (And.intro hf (And.intro hw ho))
  clear hf hw ho hm h
  unfold Did
  rcases show o.k = 1 ∨ o.k = 2 ∨ o.k = 3 ∨ o.k = 4 ∨ o.k = 5 ∨ o.k = 6 ∨ o.k = 7 ∨ o.k = 8 ∨ o.k = 9 ∨ o.k = 10 by omega with q | q | q | q | q | q | q | q | q | q
  · -- kind 1
    have HK : Hid (∀ W, DX H w W0 W N a g [(W0.heap.size, .cells (deedA a o) 73)] → Calls Tryz.prog 70 #[.agg (deedA a o)] W fun e w' => e = .returned (.tuple #[]) ∧ DX H w W0 w' N a (madeA g o) [(W0.heap.size, .cells (deedA a o) 73)]) := Lib.hid fun W hW => hW.did (add_code H w W _ a g o hW.gx HP.out.2.2.name (by omega) (by omega))
    have k1 : (o.k == 1) = true := by rw [q]; rfl
    have k2 : (o.k == 2) = false := by rw [q]; rfl
    have k3 : (o.k == 3) = false := by rw [q]; rfl
    have k4 : (o.k == 4) = false := by rw [q]; rfl
    have k5 : (o.k == 5) = false := by rw [q]; rfl
    have k6 : (o.k == 6) = false := by rw [q]; rfl
    have k7 : (o.k == 7) = false := by rw [q]; rfl
    have k8 : (o.k == 8) = false := by rw [q]; rfl
    have k9 : (o.k == 9) = false := by rw [q]; rfl
    have k10 : (o.k == 10) = false := by rw [q]; rfl
    clear q p1 p2 HP
    go_enter Tryz.func37, Tryz.ntmps37
    go_upto_region 1 with fail
    change Code.wp _ _ _ _ (W0.alloc (.cells (deedA a o) 73))
    generalize W0.alloc (.cells (deedA a o) 73) = w0 at hD0 ⊢
    obtain ⟨d0, d1, d2, d3, d4, d5, d6, d7, d8, d9, d10, d11, d12, d13⟩ := deed_cells (g := W0.heap.size) (hD0.at 0 rfl)
    go_wp2_with fail
    refine (HK.out _ hD0).mono ?_
    rintro e w1 ⟨rfl, hD1⟩
    go_wp2_with fail
    exact bodyPost_end (results_none rfl _ _ _) rfl ⟨rfl, hD1.fin⟩
  · -- kind 2
    have HK : Hid (∀ W, DX H w W0 W N a g [(W0.heap.size, .cells (deedA a o) 73)] → Calls Tryz.prog 70 #[.agg (deedA a o)] W fun e w' => e = .returned (.tuple #[]) ∧ DX H w W0 w' N a (madeA g o) [(W0.heap.size, .cells (deedA a o) 73)]) := Lib.hid fun W hW => hW.did (add_code H w W _ a g o hW.gx HP.out.2.2.name (by omega) (by omega))
    have k1 : (o.k == 1) = false := by rw [q]; rfl
    have k2 : (o.k == 2) = true := by rw [q]; rfl
    have k3 : (o.k == 3) = false := by rw [q]; rfl
    have k4 : (o.k == 4) = false := by rw [q]; rfl
    have k5 : (o.k == 5) = false := by rw [q]; rfl
    have k6 : (o.k == 6) = false := by rw [q]; rfl
    have k7 : (o.k == 7) = false := by rw [q]; rfl
    have k8 : (o.k == 8) = false := by rw [q]; rfl
    have k9 : (o.k == 9) = false := by rw [q]; rfl
    have k10 : (o.k == 10) = false := by rw [q]; rfl
    clear q p1 p2 HP
    go_enter Tryz.func37, Tryz.ntmps37
    go_upto_region 1 with fail
    change Code.wp _ _ _ _ (W0.alloc (.cells (deedA a o) 73))
    generalize W0.alloc (.cells (deedA a o) 73) = w0 at hD0 ⊢
    obtain ⟨d0, d1, d2, d3, d4, d5, d6, d7, d8, d9, d10, d11, d12, d13⟩ := deed_cells (g := W0.heap.size) (hD0.at 0 rfl)
    go_wp2_with fail
    refine (HK.out _ hD0).mono ?_
    rintro e w1 ⟨rfl, hD1⟩
    go_wp2_with fail
    exact bodyPost_end (results_none rfl _ _ _) rfl ⟨rfl, hD1.fin⟩
  · -- kind 3
    have HK : Hid (∀ W, DX H w W0 W N a g [(W0.heap.size, .cells (deedA a o) 73)] → Calls Tryz.prog 70 #[.agg (deedA a o)] W fun e w' => e = .returned (.tuple #[]) ∧ DX H w W0 w' N a (madeA g o) [(W0.heap.size, .cells (deedA a o) 73)]) := Lib.hid fun W hW => hW.did (add_code H w W _ a g o hW.gx HP.out.2.2.name (by omega) (by omega))
    have k1 : (o.k == 1) = false := by rw [q]; rfl
    have k2 : (o.k == 2) = false := by rw [q]; rfl
    have k3 : (o.k == 3) = true := by rw [q]; rfl
    have k4 : (o.k == 4) = false := by rw [q]; rfl
    have k5 : (o.k == 5) = false := by rw [q]; rfl
    have k6 : (o.k == 6) = false := by rw [q]; rfl
    have k7 : (o.k == 7) = false := by rw [q]; rfl
    have k8 : (o.k == 8) = false := by rw [q]; rfl
    have k9 : (o.k == 9) = false := by rw [q]; rfl
    have k10 : (o.k == 10) = false := by rw [q]; rfl
    clear q p1 p2 HP
    go_enter Tryz.func37, Tryz.ntmps37
    go_upto_region 1 with fail
    change Code.wp _ _ _ _ (W0.alloc (.cells (deedA a o) 73))
    generalize W0.alloc (.cells (deedA a o) 73) = w0 at hD0 ⊢
    obtain ⟨d0, d1, d2, d3, d4, d5, d6, d7, d8, d9, d10, d11, d12, d13⟩ := deed_cells (g := W0.heap.size) (hD0.at 0 rfl)
    go_wp2_with fail
    refine (HK.out _ hD0).mono ?_
    rintro e w1 ⟨rfl, hD1⟩
    go_wp2_with fail
    exact bodyPost_end (results_none rfl _ _ _) rfl ⟨rfl, hD1.fin⟩
  · -- kind 4
    have HE := Lib.hid (link_made (g := g) q)
    have HK : Hid (∀ W, DX H w W0 W N a g [(W0.heap.size, .cells (deedA a o) 73)] → Calls Tryz.prog 71 #[.pointer (some a), .agg #[.int .i64 o.pt, .int .i64 o.pr, .string o.name, .int .i64 o.it, .int .i64 o.ir]] W fun e w' => e = .returned (.int .i64 (tieG (nameB o.name) g ⟨oAt o, o.name, oIno o⟩).2) ∧ DX H w W0 w' N a (tieG (nameB o.name) g ⟨oAt o, o.name, oIno o⟩).1 [(W0.heap.size, .cells (deedA a o) 73)]) := Lib.hid fun W hW => hW.tie (o.pt, o.pr) o.name (o.it, o.ir) HP.out.2.2.name
    generalize (tieG (nameB o.name) g ⟨oAt o, o.name, oIno o⟩).2 = er at HK
    have k1 : (o.k == 1) = false := by rw [q]; rfl
    have k2 : (o.k == 2) = false := by rw [q]; rfl
    have k3 : (o.k == 3) = false := by rw [q]; rfl
    have k4 : (o.k == 4) = true := by rw [q]; rfl
    have k5 : (o.k == 5) = false := by rw [q]; rfl
    have k6 : (o.k == 6) = false := by rw [q]; rfl
    have k7 : (o.k == 7) = false := by rw [q]; rfl
    have k8 : (o.k == 8) = false := by rw [q]; rfl
    have k9 : (o.k == 9) = false := by rw [q]; rfl
    have k10 : (o.k == 10) = false := by rw [q]; rfl
    clear q p1 p2 HP
    go_enter Tryz.func37, Tryz.ntmps37
    go_upto_region 1 with fail
    change Code.wp _ _ _ _ (W0.alloc (.cells (deedA a o) 73))
    generalize W0.alloc (.cells (deedA a o) 73) = w0 at hD0 ⊢
    obtain ⟨d0, d1, d2, d3, d4, d5, d6, d7, d8, d9, d10, d11, d12, d13⟩ := deed_cells (g := W0.heap.size) (hD0.at 0 rfl)
    go_wp2_with fail
    refine (HK.out _ hD0).mono ?_
    rintro e w1 ⟨rfl, hD1⟩
    go_wp2_with fail
    exact bodyPost_end (results_none rfl _ _ _) rfl ⟨rfl, by rw [HE.out]; exact hD1.fin⟩
  · -- kind 5
    have HE := Lib.hid (take_made (g := g) (show o.k = 5 ∨ o.k = 6 by omega))
    have HK : Hid (∀ W, DX H w W0 W N a g [(W0.heap.size, .cells (deedA a o) 73)] → Calls Tryz.prog 72 #[.agg (deedA a o), .agg #[.int .i64 o.pt, .int .i64 o.pr], .string o.name] W fun e w' => e = .returned (.tuple #[]) ∧ DX H w W0 w' N a (goneG g (oAt o) o.name) [(W0.heap.size, .cells (deedA a o) 73)]) := Lib.hid fun W hW => hW.did (remove_code H w W _ a g o (o.pt, o.pr) o.name hW.gx HP.out.2.2.name)
    have k1 : (o.k == 1) = false := by rw [q]; rfl
    have k2 : (o.k == 2) = false := by rw [q]; rfl
    have k3 : (o.k == 3) = false := by rw [q]; rfl
    have k4 : (o.k == 4) = false := by rw [q]; rfl
    have k5 : (o.k == 5) = true := by rw [q]; rfl
    have k6 : (o.k == 6) = false := by rw [q]; rfl
    have k7 : (o.k == 7) = false := by rw [q]; rfl
    have k8 : (o.k == 8) = false := by rw [q]; rfl
    have k9 : (o.k == 9) = false := by rw [q]; rfl
    have k10 : (o.k == 10) = false := by rw [q]; rfl
    clear q p1 p2 HP
    go_enter Tryz.func37, Tryz.ntmps37
    go_upto_region 1 with fail
    change Code.wp _ _ _ _ (W0.alloc (.cells (deedA a o) 73))
    generalize W0.alloc (.cells (deedA a o) 73) = w0 at hD0 ⊢
    obtain ⟨d0, d1, d2, d3, d4, d5, d6, d7, d8, d9, d10, d11, d12, d13⟩ := deed_cells (g := W0.heap.size) (hD0.at 0 rfl)
    go_wp2_with fail
    refine (HK.out _ hD0).mono ?_
    rintro e w1 ⟨rfl, hD1⟩
    go_wp2_with fail
    exact bodyPost_end (results_none rfl _ _ _) rfl ⟨rfl, by rw [HE.out]; exact hD1.fin⟩
  · -- kind 6
    have HE := Lib.hid (take_made (g := g) (show o.k = 5 ∨ o.k = 6 by omega))
    have HK : Hid (∀ W, DX H w W0 W N a g [(W0.heap.size, .cells (deedA a o) 73)] → Calls Tryz.prog 72 #[.agg (deedA a o), .agg #[.int .i64 o.pt, .int .i64 o.pr], .string o.name] W fun e w' => e = .returned (.tuple #[]) ∧ DX H w W0 w' N a (goneG g (oAt o) o.name) [(W0.heap.size, .cells (deedA a o) 73)]) := Lib.hid fun W hW => hW.did (remove_code H w W _ a g o (o.pt, o.pr) o.name hW.gx HP.out.2.2.name)
    have k1 : (o.k == 1) = false := by rw [q]; rfl
    have k2 : (o.k == 2) = false := by rw [q]; rfl
    have k3 : (o.k == 3) = false := by rw [q]; rfl
    have k4 : (o.k == 4) = false := by rw [q]; rfl
    have k5 : (o.k == 5) = false := by rw [q]; rfl
    have k6 : (o.k == 6) = true := by rw [q]; rfl
    have k7 : (o.k == 7) = false := by rw [q]; rfl
    have k8 : (o.k == 8) = false := by rw [q]; rfl
    have k9 : (o.k == 9) = false := by rw [q]; rfl
    have k10 : (o.k == 10) = false := by rw [q]; rfl
    clear q p1 p2 HP
    go_enter Tryz.func37, Tryz.ntmps37
    go_upto_region 1 with fail
    change Code.wp _ _ _ _ (W0.alloc (.cells (deedA a o) 73))
    generalize W0.alloc (.cells (deedA a o) 73) = w0 at hD0 ⊢
    obtain ⟨d0, d1, d2, d3, d4, d5, d6, d7, d8, d9, d10, d11, d12, d13⟩ := deed_cells (g := W0.heap.size) (hD0.at 0 rfl)
    go_wp2_with fail
    refine (HK.out _ hD0).mono ?_
    rintro e w1 ⟨rfl, hD1⟩
    go_wp2_with fail
    exact bodyPost_end (results_none rfl _ _ _) rfl ⟨rfl, by rw [HE.out]; exact hD1.fin⟩
  · -- kind 7
    have HK : Hid (∀ W, DX H w W0 W N a g [(W0.heap.size, .cells (deedA a o) 73)] → Calls Tryz.prog 73 #[.agg (deedA a o)] W fun e w' => e = .returned (.tuple #[]) ∧ DX H w W0 w' N a (madeA g o) [(W0.heap.size, .cells (deedA a o) 73)]) := Lib.hid fun W hW => hW.did (rename_code H w W _ a g o hW.gx HP.out.2.2.name HP.out.2.2.new q)
    have k1 : (o.k == 1) = false := by rw [q]; rfl
    have k2 : (o.k == 2) = false := by rw [q]; rfl
    have k3 : (o.k == 3) = false := by rw [q]; rfl
    have k4 : (o.k == 4) = false := by rw [q]; rfl
    have k5 : (o.k == 5) = false := by rw [q]; rfl
    have k6 : (o.k == 6) = false := by rw [q]; rfl
    have k7 : (o.k == 7) = true := by rw [q]; rfl
    have k8 : (o.k == 8) = false := by rw [q]; rfl
    have k9 : (o.k == 9) = false := by rw [q]; rfl
    have k10 : (o.k == 10) = false := by rw [q]; rfl
    clear q p1 p2 HP
    go_enter Tryz.func37, Tryz.ntmps37
    go_upto_region 1 with fail
    change Code.wp _ _ _ _ (W0.alloc (.cells (deedA a o) 73))
    generalize W0.alloc (.cells (deedA a o) 73) = w0 at hD0 ⊢
    obtain ⟨d0, d1, d2, d3, d4, d5, d6, d7, d8, d9, d10, d11, d12, d13⟩ := deed_cells (g := W0.heap.size) (hD0.at 0 rfl)
    go_wp2_with fail
    refine (HK.out _ hD0).mono ?_
    rintro e w1 ⟨rfl, hD1⟩
    go_wp2_with fail
    exact bodyPost_end (results_none rfl _ _ _) rfl ⟨rfl, hD1.fin⟩
  · -- kind 8
    have HK : Hid (∀ W, DX H w W0 W N a g [(W0.heap.size, .cells (deedA a o) 73)] → Calls Tryz.prog 74 #[.agg (deedA a o)] W fun e w' => e = .returned (.tuple #[]) ∧ DX H w W0 w' N a (madeA g o) [(W0.heap.size, .cells (deedA a o) 73)]) := Lib.hid fun W hW => hW.did (set_code' H XH w W _ a g o hW.gx HP.out.1 HP.out.2.1 HP.out.2.2 (by omega) (by omega))
    have k1 : (o.k == 1) = false := by rw [q]; rfl
    have k2 : (o.k == 2) = false := by rw [q]; rfl
    have k3 : (o.k == 3) = false := by rw [q]; rfl
    have k4 : (o.k == 4) = false := by rw [q]; rfl
    have k5 : (o.k == 5) = false := by rw [q]; rfl
    have k6 : (o.k == 6) = false := by rw [q]; rfl
    have k7 : (o.k == 7) = false := by rw [q]; rfl
    have k8 : (o.k == 8) = true := by rw [q]; rfl
    have k9 : (o.k == 9) = false := by rw [q]; rfl
    have k10 : (o.k == 10) = false := by rw [q]; rfl
    clear q p1 p2 HP
    go_enter Tryz.func37, Tryz.ntmps37
    go_upto_region 1 with fail
    change Code.wp _ _ _ _ (W0.alloc (.cells (deedA a o) 73))
    generalize W0.alloc (.cells (deedA a o) 73) = w0 at hD0 ⊢
    obtain ⟨d0, d1, d2, d3, d4, d5, d6, d7, d8, d9, d10, d11, d12, d13⟩ := deed_cells (g := W0.heap.size) (hD0.at 0 rfl)
    go_wp2_with fail
    refine (HK.out _ hD0).mono ?_
    rintro e w1 ⟨rfl, hD1⟩
    go_wp2_with fail
    exact bodyPost_end (results_none rfl _ _ _) rfl ⟨rfl, hD1.fin⟩
  · -- kind 9
    have HK : Hid (∀ W, DX H w W0 W N a g [(W0.heap.size, .cells (deedA a o) 73)] → Calls Tryz.prog 74 #[.agg (deedA a o)] W fun e w' => e = .returned (.tuple #[]) ∧ DX H w W0 w' N a (madeA g o) [(W0.heap.size, .cells (deedA a o) 73)]) := Lib.hid fun W hW => hW.did (set_code' H XH w W _ a g o hW.gx HP.out.1 HP.out.2.1 HP.out.2.2 (by omega) (by omega))
    have k1 : (o.k == 1) = false := by rw [q]; rfl
    have k2 : (o.k == 2) = false := by rw [q]; rfl
    have k3 : (o.k == 3) = false := by rw [q]; rfl
    have k4 : (o.k == 4) = false := by rw [q]; rfl
    have k5 : (o.k == 5) = false := by rw [q]; rfl
    have k6 : (o.k == 6) = false := by rw [q]; rfl
    have k7 : (o.k == 7) = false := by rw [q]; rfl
    have k8 : (o.k == 8) = false := by rw [q]; rfl
    have k9 : (o.k == 9) = true := by rw [q]; rfl
    have k10 : (o.k == 10) = false := by rw [q]; rfl
    clear q p1 p2 HP
    go_enter Tryz.func37, Tryz.ntmps37
    go_upto_region 1 with fail
    change Code.wp _ _ _ _ (W0.alloc (.cells (deedA a o) 73))
    generalize W0.alloc (.cells (deedA a o) 73) = w0 at hD0 ⊢
    obtain ⟨d0, d1, d2, d3, d4, d5, d6, d7, d8, d9, d10, d11, d12, d13⟩ := deed_cells (g := W0.heap.size) (hD0.at 0 rfl)
    go_wp2_with fail
    refine (HK.out _ hD0).mono ?_
    rintro e w1 ⟨rfl, hD1⟩
    go_wp2_with fail
    exact bodyPost_end (results_none rfl _ _ _) rfl ⟨rfl, hD1.fin⟩
  · -- kind 10
    have HK : Hid (∀ W, DX H w W0 W N a g [(W0.heap.size, .cells (deedA a o) 73)] → Calls Tryz.prog 74 #[.agg (deedA a o)] W fun e w' => e = .returned (.tuple #[]) ∧ DX H w W0 w' N a (madeA g o) [(W0.heap.size, .cells (deedA a o) 73)]) := Lib.hid fun W hW => hW.did (set_code' H XH w W _ a g o hW.gx HP.out.1 HP.out.2.1 HP.out.2.2 (by omega) (by omega))
    have k1 : (o.k == 1) = false := by rw [q]; rfl
    have k2 : (o.k == 2) = false := by rw [q]; rfl
    have k3 : (o.k == 3) = false := by rw [q]; rfl
    have k4 : (o.k == 4) = false := by rw [q]; rfl
    have k5 : (o.k == 5) = false := by rw [q]; rfl
    have k6 : (o.k == 6) = false := by rw [q]; rfl
    have k7 : (o.k == 7) = false := by rw [q]; rfl
    have k8 : (o.k == 8) = false := by rw [q]; rfl
    have k9 : (o.k == 9) = false := by rw [q]; rfl
    have k10 : (o.k == 10) = true := by rw [q]; rfl
    clear q p1 p2 HP
    go_enter Tryz.func37, Tryz.ntmps37
    go_upto_region 1 with fail
    change Code.wp _ _ _ _ (W0.alloc (.cells (deedA a o) 73))
    generalize W0.alloc (.cells (deedA a o) 73) = w0 at hD0 ⊢
    obtain ⟨d0, d1, d2, d3, d4, d5, d6, d7, d8, d9, d10, d11, d12, d13⟩ := deed_cells (g := W0.heap.size) (hD0.at 0 rfl)
    go_wp2_with fail
    refine (HK.out _ hD0).mono ?_
    rintro e w1 ⟨rfl, hD1⟩
    go_wp2_with fail
    exact bodyPost_end (results_none rfl _ _ _) rfl ⟨rfl, hD1.fin⟩

/-- The same world with nothing in it. -/
def bare (w : World) : World := { w with heap := #[] }

theorem bare_gx {H : GraphHave} {a : Addr} {S : Nat → Prop} {g : Gr} {w : World} (h : H.rep w S a g) (hg : g.ok) : GX H (bare w) w (fun i => i < w.heap.size ∧ ¬ S i) a g :=
  ⟨⟨S, h, fun _ _ => Nat.zero_le _, fun _ hi => hi.2⟩, hg, fun _ hi => hi.1, ⟨rfl, rfl, rfl, Nat.zero_le _, fun k hk => absurd hk (Nat.not_lt_zero k)⟩⟩

theorem gx_bare {H : GraphHave} {a : Addr} {S : Nat → Prop} {g : Gr} {w w' : World} (h : GX H (bare w) w' (fun i => i < w.heap.size ∧ ¬ S i) a g ∧ Same (fun i => i < w.heap.size ∧ ¬ S i) w w') :
    ∃ S', H.rep w' S' a g ∧ (∀ i, S' i → S i ∨ w.heap.size ≤ i) ∧ But S w w' := by
  obtain ⟨⟨⟨S', h1, _, h3⟩, _, _, h6⟩, h7, h8⟩ := h
  refine ⟨S', h1, fun i hi => ?_, ⟨h6.os, h6.tape, h6.output, h7, fun k hk hn => h8 k ⟨hk, hn⟩⟩⟩
  by_cases q : i < w.heap.size
  · by_cases z : S i
    · exact Or.inl z
    · exact absurd hi (h3 i ⟨q, z⟩)
  · exact Or.inr (by omega)

set_option maxRecDepth 100000 in
set_option maxHeartbeats 1600000 in
theorem do_core (H : GraphHave) (XH : ExtentHave) (w W0 : World) (N : Nat → Prop) (a : Addr) (g : Gr) (o : Opn) [Tab W0] (h : GX H w W0 N a g) (hf : g.fine) (ho : OpFit o) :
    Calls Tryz.prog 16 #[.pointer (some a), .agg (opA o)] W0 fun e w' => e = .returned (.int .i64 (doA g o).2) ∧ GX H w w' N a (doA g o).1 ∧ Same N W0 w' := by
  have hD0 := (DX.start h).alloc (.cells (opA o) 37) rfl
  have i0 : Tab (W0.alloc (.cells (opA o) 37)) := inferInstance
  have HW : Hid (∀ (W : World) [Tab W], DX H w W0 W N a g [(W0.heap.size, .cells (opA o) 37)] → Calls Tryz.prog 15 #[.pointer (some a), .agg #[.int .i64 o.st, .int .i64 o.sr, .int .i64 o.k, .int .i64 o.pt, .int .i64 o.pr, .int .i64 o.it, .int .i64 o.ir, .int .i64 o.tt, .int .i64 o.tr, .string o.name, .string o.new, .int .i64 o.off, .string o.data]] W fun e w' => e = .returned (.int .i64 (whyA g o)) ∧ DX H w W0 w' N a g [(W0.heap.size, .cells (opA o) 37)]) := Lib.hid fun W _ hW => by
    obtain ⟨S, h1, _⟩ := hW.gx.at'
    exact (why_code H a S g o W h1 hW.ok ho).mono fun _ _ ⟨he, hb⟩ => ⟨he, hW.step hb⟩
  by_cases hw : whyA g o = 0
  · have HC : Hid (∀ (W : World), DX H w W0 W N a g [(W0.heap.size, .cells (opA o) 37)] → Calls Tryz.prog 37 #[.agg #[.pointer (some a), .int .i64 o.st, .int .i64 o.sr, .int .i64 o.k, .int .i64 o.pt, .int .i64 o.pr, .int .i64 o.it, .int .i64 o.ir, .int .i64 o.tt, .int .i64 o.tr, .string o.name, .string o.new, .int .i64 o.off, .string o.data]] W fun e w' => e = .returned (.tuple #[]) ∧ DX H w W0 w' N a (madeA g o) [(W0.heap.size, .cells (opA o) 37)]) := Lib.hid fun W hW => hW.did (change_code H XH w W _ a g o hW.gx hf hw ho)
    have hdo : doA g o = (madeA g o, 0) := by unfold doA; rw [if_pos hw]
    rw [hdo]
    rw [hw] at HW
    clear hdo hw hf ho h
    unfold opA
    go_enter Tryz.func16, Tryz.ntmps16
    go_upto_region 1 with fail
    change Code.wp _ _ _ _ (W0.alloc (.cells (opA o) 37))
    generalize W0.alloc (.cells (opA o) 37) = w0 at hD0 i0 ⊢
    obtain ⟨e0, e1, e2, e3, e4, e5, e6, e7, e8, e9, e10, e11, e12⟩ := op_cells (o := o) (g := W0.heap.size) (hD0.at 0 rfl)
    go_wp2_with fail
    refine (HW.out _ hD0).mono ?_
    rintro e w1 ⟨rfl, hD1⟩
    clear hD0 i0 HW e0 e1 e2 e3 e4 e5 e6 e7 e8 e9 e10 e11 e12
    obtain ⟨e0, e1, e2, e3, e4, e5, e6, e7, e8, e9, e10, e11, e12⟩ := op_cells (o := o) (g := W0.heap.size) (hD1.at 0 rfl)
    go_wp2_with fail
    refine (HC.out _ hD1).mono ?_
    rintro e w2 ⟨rfl, hD2⟩
    go_wp2_with fail
    go_ret
    exact ⟨rfl, hD2.fin⟩
  · have hdo : doA g o = (g, whyA g o) := by unfold doA; rw [if_neg hw]
    rw [hdo]
    have hz : (whyA g o == 0) = false := beq_eq_false_iff_ne.2 hw
    generalize whyA g o = bad at HW hz ⊢
    clear hdo hf ho h hw
    unfold opA
    go_enter Tryz.func16, Tryz.ntmps16
    go_upto_region 1 with fail
    change Code.wp _ _ _ _ (W0.alloc (.cells (opA o) 37))
    generalize W0.alloc (.cells (opA o) 37) = w0 at hD0 i0 ⊢
    obtain ⟨e0, e1, e2, e3, e4, e5, e6, e7, e8, e9, e10, e11, e12⟩ := op_cells (o := o) (g := W0.heap.size) (hD0.at 0 rfl)
    go_wp2_with fail
    refine (HW.out _ hD0).mono ?_
    rintro e w1 ⟨rfl, hD1⟩
    go_wp2_with fail
    go_ret
    exact ⟨rfl, hD1.fin⟩

set_option maxRecDepth 100000 in
theorem do_nil (o : Opn) (w : World) :
    Calls Tryz.prog 16 #[.pointer none, .agg (opA o)] w fun e w' => e = .returned (.int .i64 1) ∧ Below w.heap.size w w' := by
  have HW : Hid (∀ W : World, Calls Tryz.prog 15 #[.pointer none, .agg #[.int .i64 o.st, .int .i64 o.sr, .int .i64 o.k, .int .i64 o.pt, .int .i64 o.pr, .int .i64 o.it, .int .i64 o.ir, .int .i64 o.tt, .int .i64 o.tr, .string o.name, .string o.new, .int .i64 o.off, .string o.data]] W fun e w' => e = .returned (.int .i64 1) ∧ Below W.heap.size W w') := Lib.hid (whyNil o)
  have hb0 : Below w.heap.size w (w.alloc (.cells (opA o) 37)) := (Below.refl _ _).alloc (Nat.le_refl _) _
  unfold opA at hb0 ⊢
  go_enter Tryz.func16, Tryz.ntmps16
  go_wp2_with fail
  refine (HW.out _).mono ?_
  rintro e w1 ⟨rfl, hb1⟩
  have hb2 := below_step hb0 hb1
  go_wp2_with fail
  go_ret
  exact ⟨rfl, hb2⟩

end Go.Proofs.YtlhdbccemgofjaaGreatDoor

/-
  Stamps as a map's keys.
-/
namespace Go.Proofs.YtlhdbccemgofjaaGreatDoor
open Go.RowKit StampMath GraphMath

def stV (x : St) : Value := .agg (stA x)

theorem stV_inj (x y : St) (h : stV x = stV y) : x = y := by
  unfold stV stA at h
  simp at h
  exact Prod.ext h.1 h.2

theorem checkKey_st (w : World) (em : Bool) (n : Nat) (x : St) : (Instr.checkKey em (n + 2) 35 (.agg (stA x))).run Tryz.prog w = .ok () w := by
  refine checkKey_struct (n := n + 1) Tryz.underlying35 w em (stA x) fun f hf => ?_
  simp at hf
  rcases hf with rfl | rfl
  · exact ⟨by decide, .int .i64 x.1, by unfold stA; go_simp, checkKey_int Tryz.underlying2 w em n x.1⟩
  · exact ⟨by decide, .int .i64 x.2, by unfold stA; go_simp, checkKey_int Tryz.underlying3 w em n x.2⟩

theorem stShape : KShape Tryz.prog 35 stV :=
  KShape.of_equal (by kernel_rfl) stV_inj (fun w x y => run_eqSt x.1 x.2 y.1 y.2 w) (fun w em x => checkKey_st w em 9998 x) (fun x => by
    unfold stV stA
    show Instr.sameBits (9999 + 1) _ _ = true
    simp [Instr.sameBits])

end Go.Proofs.YtlhdbccemgofjaaGreatDoor

/-
  The shapes of a graph's maps: places as keys.
-/
namespace Go.Proofs.YtlhdbccemgofjaaGreatDoor
open Go.RowKit StampMath GraphMath

def inoV (x : Ino) : Value := .agg (inoA x)
def plV (p : St × ByteArray) : Value := .agg #[.int .i64 p.1.1, .int .i64 p.1.2, .string p.2]

theorem plV_inj (x y : St × ByteArray) (h : plV x = plV y) : x = y := by
  unfold plV at h
  simp at h
  exact Prod.ext (Prod.ext h.1 h.2.1) h.2.2

theorem run_eqPl (a b : Int) (s : ByteArray) (c d : Int) (u : ByteArray) (W : World) : (Op.equalIn 10000 101 (.agg #[.int .i64 a, .int .i64 b, .string s]) (.agg #[.int .i64 c, .int .i64 d, .string u])).run Tryz.prog W = .ok (decide (((a, b), s) = ((c, d), u))) W := by
  go_simp
  by_cases h1 : a = c
  · by_cases h2 : b = d
    · by_cases h3 : s = u
      · simp [h1, h2, h3]
      · simp [h1, h2, h3]
        intro h4
        exact h3 (bytes_same h4)
    · simp [h1, h2]
  · simp [h1]

theorem checkKey_pl (w : World) (em : Bool) (n : Nat) (p : St × ByteArray) : (Instr.checkKey em (n + 3) 101 (plV p)).run Tryz.prog w = .ok () w := by
  refine checkKey_struct (n := n + 2) Tryz.underlying101 w em _ fun f hf => ?_
  simp at hf
  rcases hf with rfl | rfl
  · exact ⟨by decide, .agg (stA p.1), by unfold stA; go_simp, checkKey_st w em n p.1⟩
  · exact ⟨by decide, .string p.2, by go_simp, checkKey_string Tryz.underlying9 w em (n + 1) p.2⟩

theorem plShape : KShape Tryz.prog 101 plV :=
  KShape.of_equal (by kernel_rfl) plV_inj (fun w x y => run_eqPl x.1.1 x.1.2 x.2 y.1.1 y.1.2 y.2 w) (fun w em x => checkKey_pl w em 9997 x) (fun x => by
    unfold plV
    show Instr.sameBits (9999 + 1) _ _ = true
    simp [Instr.sameBits, MapKept.bytes_beq])

end Go.Proofs.YtlhdbccemgofjaaGreatDoor

/-
  The code of package graph (as it landed): a graph in memory is a block of two maps; root, Get.
-/
namespace Go.Proofs.YtlhdbccemgofjaaGreatDoor
open Go.RowKit StampMath GraphMath

/-- A graph in memory. -/
def GIn (W : World) (S : Nat → Prop) (a : Addr) (g : Gr) : Prop :=
  ∃ b bi be, a = ⟨b, 0, none⟩ ∧ b ≠ bi ∧ b ≠ be ∧ bi ≠ be ∧ W.heap[b]? = some (.cells #[.map (some bi), .map (some be)] 68 (0, 0)) ∧
    KMap stV inoV W bi (pairsI g) ∧ KMap plV stV W be (pairsE g) ∧ ∀ i, S i ↔ i = b ∨ i = bi ∨ i = be

theorem GIn.lt {W : World} {S : Nat → Prop} {a : Addr} {g : Gr} (h : GIn W S a g) : ∀ i, S i → i < W.heap.size := by
  obtain ⟨b, bi, be, rfl, _, _, _, hb, hi, he, hS⟩ := h
  intro i hs
  rcases (hS i).1 hs with rfl | rfl | rfl
  · exact heap_lt hb
  · exact hi.lt
  · exact he.lt

theorem GIn.keep {W W' : World} {S : Nat → Prop} {a : Addr} {g : Gr} (h : GIn W S a g) (hk : ∀ i, S i → W'.heap[i]? = W.heap[i]?) : GIn W' S a g := by
  obtain ⟨b, bi, be, rfl, h1, h2, h3, hb, hi, he, hS⟩ := h
  exact ⟨b, bi, be, rfl, h1, h2, h3, (hk b ((hS b).2 (.inl rfl))).trans hb, hi.kept (hk bi ((hS bi).2 (.inr (.inl rfl)))), he.kept (hk be ((hS be).2 (.inr (.inr rfl)))), hS⟩

theorem zeroIno (w : World) : (zeroValue 54).run Tryz.prog w = .ok (inoV noIno) w := by kernel_rfl
theorem zeroSt (w : World) : (zeroValue 35).run Tryz.prog w = .ok (stV (0, 0)) w := by kernel_rfl

theorem root_any (w : World) : Calls Tryz.prog 35 #[] w fun e w' => e = .returned (.agg #[.int .i64 0, .int .i64 0]) ∧ Below w.heap.size w w' := by
  go_enter Tryz.func35, Tryz.ntmps35
  go_wp2_with fail
  obtain ⟨z0, z1⟩ := two_cells (heap_alloc_new w (.cells #[.int .i64 0, .int .i64 0] 35))
  exact bodyPost_ret (v := .agg #[.int .i64 0, .int .i64 0]) (by simp [results, Tryz.results35, go_sem, z0, z1]) rfl ⟨rfl, (Below.refl _ _).alloc (Nat.le_refl _) _⟩

set_option maxRecDepth 100000 in
theorem get_code (a : Addr) (S : Nat → Prop) (g : Gr) (id : St) (w : World) (h : GIn w S a g) (hg : g.ok) :
    Calls Tryz.prog 30 #[.pointer (some a), .agg (stA id)] w fun e w' => e = .returned (.tuple #[.agg (inoA ((getG g id).getD noIno)), .bool (getG g id).isSome]) ∧ Below w.heap.size w w' := by
  obtain ⟨b, bi, be, rfl, h1, h2, h3, hb, hi, he, hS⟩ := h
  obtain ⟨c0, c1⟩ := two_cells hb
  obtain ⟨ok, hok⟩ : ∃ ok, ok = (getG g id).isSome := ⟨_, rfl⟩
  obtain ⟨v, hv⟩ : ∃ v, v = (getG g id).getD noIno := ⟨_, rfl⟩
  rw [← hok, ← hv]
  have hlook : ∀ W : World, Hid (Below w.heap.size w W) → (Instr.lookup 65 (.map (some bi)) (.agg #[.int .i64 id.1, .int .i64 id.2]) true).run Tryz.prog W = .ok (.tuple #[.agg #[.int .i64 v.id.1, .int .i64 v.id.2, .int .i64 v.kind, .int .i64 v.links, .int .i64 v.mode, .string v.data], .bool ok]) W := fun W hW => by
    have hl := (hi.kept (hW.out.block bi hi.lt)).look stShape Tryz.underlying65 (zeroIno W) id true
    rw [look_pairsI hg, if_pos rfl, show ((getG g id).map inoV).getD (inoV noIno) = inoV v by rw [hv]; cases getG g id <;> rfl, ← hok] at hl
    exact hl
  have hlt := heap_lt hb
  have HL := Lib.hid hlook
  clear hi he hb hS hlook hok hv
  unfold stA
  go_enter Tryz.func30, Tryz.ntmps30
  go_wp2_with fail
  have hbW : Below w.heap.size w ((w.alloc (.cells #[.int .i64 id.1, .int .i64 id.2] 35)).alloc (.cells #[.int .i64 0, .int .i64 0, .int .i64 0, .int .i64 0, .int .i64 0, .string ⟨#[]⟩] 54)) := ((Below.refl _ _).alloc (Nat.le_refl _) _).alloc (by simp) _
  have hb1 := (hbW.alloc hbW.size (.cells #[.int .i64 0, .int .i64 0, .int .i64 0, .int .i64 0, .int .i64 0, .string ⟨#[]⟩] 54)).drew
  have d0 := (hb1.cell (p := ⟨b, 0, none⟩) hlt).trans c0
  have hl := HL.out _ hb1
  have c0w := (hbW.cell (p := ⟨b, 0, none⟩) hlt).trans c0
  have hl0 := HL.out _ hbW.drew
  have HB := Lib.hid hbW
  clear hbW hb1
  go_region
  all_goals clear d0 hl c0w hl0
  all_goals go_wp2_with fail
  all_goals exact bodyPost_ret (v := .tuple #[.agg (inoA v), .bool ok]) (by simp [results, Tryz.results30, go_sem, inoA]) rfl ⟨rfl, by
    repeat (first | exact Below.refl _ _ | apply Below.drew | refine Below.alloc ?_ (by simp <;> omega) _)⟩

end Go.Proofs.YtlhdbccemgofjaaGreatDoor

/-
  The walks of package cmp's functions and of stamp's Compare, with what they leave: the world, so many draws on and so many blocks more.
-/
namespace Go.Proofs.YtlhdbccemgofjaaGreatDoor
open Go.RowKit StampMath

theorem nan64 (t : Int) (w : World) : Calls Tryz.prog 132 #[.int .i64 t] w fun e w' => e = .returned (.bool false) ∧ w = w' := by
  go_enter Tryz.func132, Tryz.ntmps132
  go_wp2_with fail
  go_ret
  exact ⟨by simp, rfl⟩

theorem nanInt (t : Int) (w : World) : Calls Tryz.prog 133 #[.int .i64 t] w fun e w' => e = .returned (.bool false) ∧ w = w' := by
  go_enter Tryz.func133, Tryz.ntmps133
  go_wp2_with fail
  go_ret
  exact ⟨by simp, rfl⟩

theorem cell_alloc {W : World} {o : Obj} {a : Addr} {v : Value} (h : W.cell? a = some v) : (W.alloc o).cell? a = some v :=
  (World.cell?_alloc_lt W o a (World.block_lt_of_cell? _ _ h)).trans h

theorem kept_alloc4 {w W : World} {a b c d : Addr} {u v x y : Value} (o : Obj) (h : (W.cell? a = some u ∧ W.cell? b = some v ∧ W.cell? c = some x ∧ W.cell? d = some y) ∧ KeptFrom w W) :
    ((W.alloc o).cell? a = some u ∧ (W.alloc o).cell? b = some v ∧ (W.alloc o).cell? c = some x ∧ (W.alloc o).cell? d = some y) ∧ KeptFrom w (W.alloc o) :=
  ⟨⟨cell_alloc h.1.1, cell_alloc h.1.2.1, cell_alloc h.1.2.2.1, cell_alloc h.1.2.2.2⟩, (kept_below h.2).alloc (kept_below h.2).size o⟩

theorem cell_third (w : World) (o1 o2 : Obj) (a b : Value) (T : TypeId) :
    (((w.alloc o1).alloc o2).alloc (.cells #[a, b] T)).drew.cell? ⟨w.heap.size + 1 + 1, 0, none⟩ = some a ∧ (((w.alloc o1).alloc o2).alloc (.cells #[a, b] T)).drew.cell? ⟨w.heap.size + 1 + 1, 1, none⟩ = some b := by
  have h := heap_alloc_new ((w.alloc o1).alloc o2) (.cells #[a, b] T)
  have e : ((w.alloc o1).alloc o2).heap.size = w.heap.size + 1 + 1 := by simp
  rw [e] at h
  exact ⟨cell_of_row _ _ 0 _ _ (0, 0) h, cell_of_row _ _ 1 _ _ (0, 0) h⟩

/-- Which of two numbers is first. -/
def cmp1 (x y : Int) : Int := if x < y then -1 else if y < x then 1 else 0

set_option maxHeartbeats 400000 in
theorem compare64 (x y : Int) (w : World) : Calls Tryz.prog 92 #[.int .i64 x, .int .i64 y] w fun e w' => e = .returned (.int .i64 (cmp1 x y)) ∧ w = w' := by
  have hcase : (x < y ∧ cmp1 x y = -1) ∨ (¬ x < y ∧ y < x ∧ cmp1 x y = 1) ∨ (¬ x < y ∧ ¬ y < x ∧ cmp1 x y = 0) := by
    unfold cmp1
    by_cases h1 : x < y
    · exact Or.inl ⟨h1, by rw [if_pos h1]⟩
    · by_cases h2 : y < x
      · exact Or.inr (Or.inl ⟨h1, h2, by rw [if_neg h1, if_pos h2]⟩)
      · exact Or.inr (Or.inr ⟨h1, h2, by rw [if_neg h1, if_neg h2]⟩)
  rcases hcase with ⟨h1, h⟩ | ⟨h1, h2, h⟩ | ⟨h1, h2, h⟩
  all_goals
    rw [h]
    clear h
    go_enter Tryz.func92, Tryz.ntmps92
    go_wp2_with fail
    refine (nan64 _ _).mono ?_
    rintro e w' ⟨rfl, rfl⟩
    go_wp2_with fail
    refine (nan64 _ _).mono ?_
    rintro e w' ⟨rfl, rfl⟩
    go_wp2_with fail
    go_ret
    exact ⟨rfl, rfl⟩

set_option maxHeartbeats 400000 in
theorem compareInt (x y : Int) (w : World) : Calls Tryz.prog 93 #[.int .i64 x, .int .i64 y] w fun e w' => e = .returned (.int .i64 (cmp1 x y)) ∧ w = w' := by
  have hcase : (x < y ∧ cmp1 x y = -1) ∨ (¬ x < y ∧ y < x ∧ cmp1 x y = 1) ∨ (¬ x < y ∧ ¬ y < x ∧ cmp1 x y = 0) := by
    unfold cmp1
    by_cases h1 : x < y
    · exact Or.inl ⟨h1, by rw [if_pos h1]⟩
    · by_cases h2 : y < x
      · exact Or.inr (Or.inl ⟨h1, h2, by rw [if_neg h1, if_pos h2]⟩)
      · exact Or.inr (Or.inr ⟨h1, h2, by rw [if_neg h1, if_neg h2]⟩)
  rcases hcase with ⟨h1, h⟩ | ⟨h1, h2, h⟩ | ⟨h1, h2, h⟩
  all_goals
    rw [h]
    clear h
    go_enter Tryz.func93, Tryz.ntmps93
    go_wp2_with fail
    refine (nanInt _ _).mono ?_
    rintro e w' ⟨rfl, rfl⟩
    go_wp2_with fail
    refine (nanInt _ _).mono ?_
    rintro e w' ⟨rfl, rfl⟩
    go_wp2_with fail
    go_ret
    exact ⟨rfl, rfl⟩

/-- The first of two numbers that is not zero. -/
def or2 (a b : Int) : Int := if a = 0 then b else a

theorem or2_cmp (t r t' r' : Int) : or2 (cmp1 t t') (cmp1 r r') = cmp t r t' r' := by
  have h := cmp_cases t r t' r'
  unfold or2 cmp1
  split <;> split <;> (try split) <;> (try split) <;> omega

set_option maxHeartbeats 400000 in
theorem or_any (g : Nat) (a b : Int) (W : World) (h0 : W.cell? ⟨g, 0, none⟩ = some (.int .i64 a)) (h1 : W.cell? ⟨g, 1, none⟩ = some (.int .i64 b)) :
    Calls Tryz.prog 91 #[.slice (some ⟨g, 0, none⟩) 2 2] W fun e w' => e = .returned (.int .i64 (or2 a b)) ∧ W = w' := by
  go_enter Tryz.func91, Tryz.ntmps91
  go_wp2_with fail
  go_loop [8] (fun i => ∃ k : Nat, i = .int .i64 (k : Int) ∧ k ≤ 2 ∧ (0 < k → a = 0) ∧ (1 < k → b = 0)) (fun i => 2 - (intOf i).toNat)
  case atStart => exact ⟨0, rfl, by omega, by omega, by omega⟩
  case round =>
    obtain ⟨k, rfl, hk, ha, hb⟩ := hrel
    have HA := Lib.hid ha
    have HB := Lib.hid hb
    clear ha hb
    have hk3 : k = 0 ∨ k = 1 ∨ k = 2 := by omega
    clear hk
    rcases hk3 with rfl | rfl | rfl
    · by_cases hz : a = 0
      · have hz' : (a == 0) = true := by simp [hz]
        have HZ := Lib.hid hz
        clear hz
        go_wp2_with fail
        exact ⟨⟨1, by go_num, by omega, fun _ => HZ.out, by omega⟩, by simp [intOf]⟩
      · have hz' : (a == 0) = false := by simp [hz]
        have HZ := Lib.hid hz
        clear hz
        go_wp2_with fail
        go_ret
        exact ⟨by rw [or2, if_neg HZ.out]; rfl, rfl⟩
    · by_cases hz : b = 0
      · have hz' : (b == 0) = true := by simp [hz]
        have HZ := Lib.hid hz
        clear hz
        go_wp2_with fail
        exact ⟨⟨2, by go_num, by omega, fun _ => HA.out (by omega), fun _ => HZ.out⟩, by simp [intOf]⟩
      · have hz' : (b == 0) = false := by simp [hz]
        have HZ := Lib.hid hz
        clear hz
        go_wp2_with fail
        go_ret
        exact ⟨by rw [or2, if_pos (HA.out (by omega))]; rfl, rfl⟩
    · go_wp2_with fail
      go_ret
      exact ⟨by rw [or2, if_pos (HA.out (by omega)), HB.out (by omega)]; rfl, rfl⟩

/-- All that was there is as it was; draws and blocks have come. -/
def Grown (w W : World) : Prop := Below w.heap.size w W ∧ w.drawn ≤ W.drawn

theorem Grown.refl (w : World) : Grown w w := ⟨Below.refl _ _, Nat.le_refl _⟩
theorem Grown.alloc {w W : World} (h : Grown w W) (o : Obj) : Grown w (W.alloc o) := ⟨(kept_below h.1).alloc h.1.size o, h.2⟩
theorem Grown.drew {w W : World} (h : Grown w W) : Grown w W.drew := ⟨h.1.drew, Nat.le_trans h.2 (Nat.le_succ _)⟩
theorem Grown.trans {a b c : World} (h : Grown a b) (k : Grown b c) : Grown a c := ⟨below_step h.1 k.1, Nat.le_trans h.2 k.2⟩

theorem Grown.grow {w W : World} (h : Grown w W) : ∃ q os, W = Sort.grow (w.drewN q) os := by
  obtain ⟨hb, hd⟩ := h
  refine ⟨W.drawn - w.drawn, W.heap.extract w.heap.size W.heap.size, ?_⟩
  have hh : W.heap = w.heap ++ W.heap.extract w.heap.size W.heap.size := by
    apply Array.ext_getElem?
    intro i
    have hs := hb.size
    by_cases hi : i < w.heap.size
    · rw [hb.block i hi, Array.getElem?_append_left hi]
    · rw [Array.getElem?_append_right (by omega)]
      simp only [Array.getElem?_extract]
      by_cases hi2 : i < W.heap.size
      · rw [if_pos (by omega), show w.heap.size + (i - w.heap.size) = i by omega]
      · rw [if_neg (by omega), Array.getElem?_eq_none (by omega)]
  have e1 := hb.os
  have e2 := hb.tape
  have e3 := hb.output
  obtain ⟨H, T, D, O, U⟩ := W
  obtain ⟨H', T', D', O', U'⟩ := w
  simp only at hh e1 e2 e3 hd
  subst e1 e2 e3
  have e4 : D' + (D - D') = D := by omega
  unfold Sort.grow World.drewN
  simp only [World.mk.injEq, true_and, and_true]
  exact ⟨hh, e4.symm⟩

theorem grown_alloc4 {w W : World} {a b c d : Addr} {u v x y : Value} (o : Obj) (h : (W.cell? a = some u ∧ W.cell? b = some v ∧ W.cell? c = some x ∧ W.cell? d = some y) ∧ Grown w W) :
    ((W.alloc o).cell? a = some u ∧ (W.alloc o).cell? b = some v ∧ (W.alloc o).cell? c = some x ∧ (W.alloc o).cell? d = some y) ∧ Grown w (W.alloc o) :=
  ⟨⟨cell_alloc h.1.1, cell_alloc h.1.2.1, cell_alloc h.1.2.2.1, cell_alloc h.1.2.2.2⟩, h.2.alloc o⟩

set_option maxHeartbeats 800000 in
theorem compare_grown (t r t' r' : Int) (w : World) :
    Calls Tryz.prog 51 #[.agg #[.int .i64 t, .int .i64 r], .agg #[.int .i64 t', .int .i64 r']] w fun e w' => e = .returned (.int .i64 (cmp t r t' r')) ∧ Grown w w' := by
  have hv := or2_cmp t r t' r'
  obtain ⟨x, hx⟩ : ∃ x, x = cmp1 t t' := ⟨_, rfl⟩
  obtain ⟨y, hy⟩ : ∃ y, y = cmp1 r r' := ⟨_, rfl⟩
  have H1 : Hid (∀ W : World, Calls Tryz.prog 92 #[.int .i64 t, .int .i64 t'] W fun e w' => e = .returned (.int .i64 x) ∧ W = w') := fun W => by rw [hx]; exact compare64 _ _ W
  have H2 : Hid (∀ W : World, Calls Tryz.prog 93 #[.int .i64 r, .int .i64 r'] W fun e w' => e = .returned (.int .i64 y) ∧ W = w') := fun W => by rw [hy]; exact compareInt _ _ W
  rw [← hx, ← hy] at hv
  have HV := Lib.hid hv
  clear hv hx hy
  go_enter Tryz.func51, Tryz.ntmps51
  go_wp2_with fail
  have hS0 : (((w.alloc (.cells #[.int .i64 t, .int .i64 r] 35)).alloc (.cells #[.int .i64 t', .int .i64 r'] 35)).drew.cell? ⟨w.heap.size, 0, none⟩ = some (.int .i64 t) ∧ ((w.alloc (.cells #[.int .i64 t, .int .i64 r] 35)).alloc (.cells #[.int .i64 t', .int .i64 r'] 35)).drew.cell? ⟨w.heap.size, 1, none⟩ = some (.int .i64 r) ∧ ((w.alloc (.cells #[.int .i64 t, .int .i64 r] 35)).alloc (.cells #[.int .i64 t', .int .i64 r'] 35)).drew.cell? ⟨w.heap.size + 1, 0, none⟩ = some (.int .i64 t') ∧ ((w.alloc (.cells #[.int .i64 t, .int .i64 r] 35)).alloc (.cells #[.int .i64 t', .int .i64 r'] 35)).drew.cell? ⟨w.heap.size + 1, 1, none⟩ = some (.int .i64 r')) ∧ Grown w ((w.alloc (.cells #[.int .i64 t, .int .i64 r] 35)).alloc (.cells #[.int .i64 t', .int .i64 r'] 35)).drew := by
    refine ⟨⟨?_, ?_, ?_, ?_⟩, (((Grown.refl _).alloc _).alloc _).drew⟩
    · exact cell_of_row _ _ 0 _ _ (0, 0) (heap_alloc2_old w _ _)
    · exact cell_of_row _ _ 1 _ _ (0, 0) (heap_alloc2_old w _ _)
    · exact cell_of_row _ _ 0 _ _ (0, 0) (heap_alloc2_new w _ _)
    · exact cell_of_row _ _ 1 _ _ (0, 0) (heap_alloc2_new w _ _)
  go_region_held3 (fun W => (W.cell? ⟨w.heap.size, 0, none⟩ = some (.int .i64 t) ∧ W.cell? ⟨w.heap.size, 1, none⟩ = some (.int .i64 r) ∧ W.cell? ⟨w.heap.size + 1, 0, none⟩ = some (.int .i64 t') ∧ W.cell? ⟨w.heap.size + 1, 1, none⟩ = some (.int .i64 r')) ∧ Grown w W) (first | assumption | exact grown_alloc4 _ (by assumption) | (refine ⟨⟨?_, ?_, ?_, ?_⟩, ?_⟩ <;> assumption))
    (first
      | (go_at_call 92; (with_reducible refine (H1.out _).mono ?_); rintro e w' ⟨rfl, rfl⟩; have hS := hS0)
      | (go_at_call 93; (with_reducible refine (H2.out _).mono ?_); rintro e w' ⟨rfl, rfl⟩; have hS := hS0)
      | (go_at_call 91; refine (or_any _ x y _ ?_ ?_).mono ?_; exact (cell_third w _ _ _ _ _).1; exact (cell_third w _ _ _ _ _).2; rintro e w' ⟨rfl, rfl⟩; have hS := ‹(_ ∧ _ ∧ _ ∧ _) ∧ Grown w _›))
  have hB := (show Grown w _ from And.right ‹(_ ∧ _ ∧ _ ∧ _) ∧ Grown w _›)
  clear hS0
  go_wp2_with fail
  go_ret
  exact ⟨by rw [← HV.out]; rfl, hB⟩

end Go.Proofs.YtlhdbccemgofjaaGreatDoor

/-
  The order of entries and of inodes as a sort's own: it needs no program.
-/
namespace Go.Proofs.YtlhdbccemgofjaaGreatDoor.GraphMath
open StampMath

instance entThere : Inhabited Ent := ⟨⟨(0, 0), ⟨#[]⟩, (0, 0)⟩⟩
instance inoThere : Inhabited Ino := ⟨noIno⟩

theorem sorted_only {α : Type} {r : α → α → Bool} (irr : ∀ x, r x x = false) (tr : ∀ x y z, r x y = true → r y z = true → r x z = true) {l E : List α} (hE : E.Pairwise fun a b => r a b = true) (hp : l.Perm E) (hs : l.Pairwise fun x y => r y x = false) : l = E := by
  have asym : ∀ x y, r x y = true → r y x = false := fun x y h => by
    cases hq : r y x with
    | false => rfl
    | true => have := tr x y x h hq; rw [irr] at this; cases this
  refine List.Perm.eq_of_pairwise (le := fun x y => r y x = false) (fun a b ha hb h1 h2 => ?_) hs (hE.imp fun h => asym _ _ h) hp
  have all : ∀ x ∈ E, ∀ y ∈ E, x = y ∨ r x y = true ∨ r y x = true := by
    intro x hx y hy
    obtain ⟨i, hi, rfl⟩ := List.getElem_of_mem hx
    obtain ⟨j, hj, rfl⟩ := List.getElem_of_mem hy
    have q := List.pairwise_iff_getElem.1 hE
    rcases Nat.lt_trichotomy i j with h | h | h
    · exact Or.inr (Or.inl (q i j hi hj h))
    · subst h; exact Or.inl rfl
    · exact Or.inr (Or.inr (q j i hj hi h))
  rcases all a (hp.mem_iff.1 ha) b hb with h | h | h
  · exact h
  · rw [h] at h2; cases h2
  · rw [h] at h1; cases h1

theorem bytesLess_eq : ∀ (x y : List UInt8), Op.bytesLess x y = decide (x < y)
  | [], [] => by simp [Op.bytesLess]
  | _ :: _, [] => by simp [Op.bytesLess]
  | [], _ :: _ => by simp [Op.bytesLess]
  | a :: x, b :: y => by
    rw [Op.bytesLess, bytesLess_eq x y]
    simp only [List.cons_lt_cons_iff]
    by_cases h1 : a < b <;> by_cases h2 : a = b <;> by_cases h3 : x < y <;> simp [h1, h2, h3]

theorem namesLess_eq (a b : ByteArray) : Op.bytesLess a.toList b.toList = decide (a.data.toList < b.data.toList) := by
  rw [bytesLess_eq, ByteArray.toList_eq, ByteArray.toList_eq]

/-- What package cmp's Compare tells of two strings. -/
def cmpB (a b : List UInt8) : Int := if a < b then -1 else if a = b then 0 else 1

theorem cmpB_lt (a b : List UInt8) : cmpB a b < 0 ↔ a < b := by
  unfold cmpB
  by_cases h : a < b
  · simp [h]
  · rw [if_neg h]
    by_cases h2 : a = b <;> simp [h, h2]

/-- What comparing two entries tells. -/
def aheadI (x y : Ent) : Int := if cmp x.dir.1 x.dir.2 y.dir.1 y.dir.2 = 0 then cmpB x.name.data.toList y.name.data.toList else cmp x.dir.1 x.dir.2 y.dir.1 y.dir.2

theorem cmp_lt (a b : St) : cmp a.1 a.2 b.1 b.2 < 0 ↔ lessS a b = true := by
  show (if lessS a b = true then (-1 : Int) else if lessS b a = true then 1 else 0) < 0 ↔ _
  by_cases h : lessS a b = true
  · simp [h]
  · rw [if_neg h]
    by_cases h2 : lessS b a = true <;> simp [h, h2]

theorem cmp_zero (a b : St) : cmp a.1 a.2 b.1 b.2 = 0 ↔ a = b := by
  show (if lessS a b = true then (-1 : Int) else if lessS b a = true then 1 else 0) = 0 ↔ _
  constructor
  · intro h
    by_cases h1 : lessS a b = true
    · rw [if_pos h1] at h; omega
    · rw [if_neg h1] at h
      by_cases h2 : lessS b a = true
      · rw [if_pos h2] at h; omega
      · by_cases he : a = b
        · exact he
        · exact absurd (lessS_total (Bool.eq_false_iff.2 h1) he) h2
  · rintro rfl
    rw [if_neg (by rw [lessS_irrefl]; simp), if_neg (by rw [lessS_irrefl]; simp)]

theorem aheadI_lt (x y : Ent) : ltOf aheadI x y = aheadE x y := by
  unfold ltOf aheadI
  rw [Bool.eq_iff_iff, decide_eq_true_iff, aheadE_iff]
  by_cases h : x.dir = y.dir
  · rw [if_pos ((cmp_zero _ _).2 h), cmpB_lt, h, lessS_irrefl]
    simp
  · rw [if_neg (fun q => h ((cmp_zero _ _).1 q)), cmp_lt]
    simp [h]

theorem aheadE_irrefl (x : Ent) : aheadE x x = false := by
  rw [Bool.eq_false_iff]
  intro h
  rcases (aheadE_iff x x).1 h with q | ⟨_, q⟩
  · rw [lessS_irrefl] at q; cases q
  · exact bytes_irrefl _ q

theorem aheadE_ntrans {x y z : Ent} (h1 : aheadE x y = false) (h2 : aheadE y z = false) : aheadE x z = false := by
  rw [Bool.eq_false_iff]
  intro h
  by_cases he : x.dir = y.dir ∧ x.name = y.name
  · rw [aheadE_iff, he.1, he.2, ← aheadE_iff, h2] at h
    cases h
  · have := aheadE_trans (aheadE_total h1 he) h
    rw [h2] at this
    cases this

theorem swo_ents : Sort.SWO (ltOf aheadI) where
  irrefl x := by rw [aheadI_lt]; exact aheadE_irrefl x
  trans x y z h1 h2 := by rw [aheadI_lt] at *; exact aheadE_trans h1 h2
  ntrans x y z h1 h2 := by rw [aheadI_lt] at *; exact aheadE_ntrans h1 h2

/-- What comparing two inodes tells. -/
def inoI (x y : Ino) : Int := cmp x.id.1 x.id.2 y.id.1 y.id.2

theorem inoI_lt (x y : Ino) : ltOf inoI x y = lessS x.id y.id := by
  unfold ltOf inoI
  rw [Bool.eq_iff_iff, decide_eq_true_iff, cmp_lt]

theorem swo_inos : Sort.SWO (ltOf inoI) where
  irrefl x := by rw [inoI_lt]; exact lessS_irrefl _
  trans x y z h1 h2 := by rw [inoI_lt] at *; exact lessS_trans h1 h2
  ntrans x y z h1 h2 := by
    rw [inoI_lt] at *
    rw [Bool.eq_false_iff]
    intro h
    by_cases he : x.id = y.id
    · rw [he, h2] at h; cases h
    · have := lessS_trans (lessS_total h1 he) h
      rw [h2] at this; cases this

theorem sorted_ents {l E : List Ent} (hE : E.Pairwise fun a b => aheadE a b = true) (hp : l.Perm E) (hs : l.Pairwise fun x y => ltOf aheadI y x = false) : l = E :=
  sorted_only aheadE_irrefl (fun _ _ _ => aheadE_trans) hE hp (hs.imp fun h => by rwa [aheadI_lt] at h)

theorem sorted_inos {l I : List Ino} (hI : I.Pairwise fun a b => lessS a.id b.id = true) (hp : l.Perm I) (hs : l.Pairwise fun x y => ltOf inoI y x = false) : l = I :=
  sorted_only (r := fun a b => lessS a.id b.id) (fun _ => lessS_irrefl _) (fun _ _ _ => lessS_trans) hI hp (hs.imp fun h => by rwa [inoI_lt] at h)

end Go.Proofs.YtlhdbccemgofjaaGreatDoor.GraphMath

/-
  The walks of package cmp's functions at strings; cells that are kept beside them.
-/
namespace Go.Proofs.YtlhdbccemgofjaaGreatDoor
open Go.RowKit StampMath GraphMath

theorem nanStr (s : ByteArray) (w : World) : Calls Tryz.prog 177 #[.string s] w fun e w' => e = .returned (.bool false) ∧ w = w' := by
  go_enter Tryz.func177, Tryz.ntmps177
  go_wp2_with fail
  go_ret
  exact ⟨by simp, rfl⟩

set_option maxHeartbeats 400000 in
theorem compareStr (x y : ByteArray) (w : World) : Calls Tryz.prog 135 #[.string x, .string y] w fun e w' => e = .returned (.int .i64 (cmpB x.data.toList y.data.toList)) ∧ w = w' := by
  have hcase : (Op.bytesLess x.toList y.toList = true ∧ cmpB x.data.toList y.data.toList = -1) ∨ (Op.bytesLess x.toList y.toList = false ∧ (x.toList == y.toList) = true ∧ cmpB x.data.toList y.data.toList = 0) ∨ (Op.bytesLess x.toList y.toList = false ∧ (x.toList == y.toList) = false ∧ cmpB x.data.toList y.data.toList = 1) := by
    rw [namesLess_eq, ByteArray.toList_eq, ByteArray.toList_eq]
    unfold cmpB
    by_cases h1 : x.data.toList < y.data.toList
    · exact Or.inl ⟨decide_eq_true h1, by rw [if_pos h1]⟩
    · by_cases h2 : x.data.toList = y.data.toList
      · exact Or.inr (Or.inl ⟨decide_eq_false h1, beq_iff_eq.2 h2, by rw [if_neg h1, if_pos h2]⟩)
      · exact Or.inr (Or.inr ⟨decide_eq_false h1, beq_eq_false_iff_ne.2 h2, by rw [if_neg h1, if_neg h2]⟩)
  rcases hcase with ⟨h1, h⟩ | ⟨h1, h2, h⟩ | ⟨h1, h2, h⟩
  all_goals
    rw [h]
    clear h
    go_enter Tryz.func135, Tryz.ntmps135
    go_wp2_with fail
    refine (nanStr _ _).mono ?_
    rintro e w' ⟨rfl, rfl⟩
    go_wp2_with fail
    refine (nanStr _ _).mono ?_
    rintro e w' ⟨rfl, rfl⟩
    go_wp2_with fail
    go_ret
    exact ⟨rfl, rfl⟩

theorem cells6_alloc {w W : World} {a b c d a' b' : Addr} {u v x y z t : Value} (o : Obj) (h : (W.cell? a = some u ∧ W.cell? b = some v ∧ W.cell? c = some x ∧ W.cell? d = some y ∧ W.cell? a' = some z ∧ W.cell? b' = some t) ∧ Grown w W) :
    ((W.alloc o).cell? a = some u ∧ (W.alloc o).cell? b = some v ∧ (W.alloc o).cell? c = some x ∧ (W.alloc o).cell? d = some y ∧ (W.alloc o).cell? a' = some z ∧ (W.alloc o).cell? b' = some t) ∧ Grown w (W.alloc o) :=
  ⟨⟨cell_alloc h.1.1, cell_alloc h.1.2.1, cell_alloc h.1.2.2.1, cell_alloc h.1.2.2.2.1, cell_alloc h.1.2.2.2.2.1, cell_alloc h.1.2.2.2.2.2⟩, h.2.alloc o⟩

theorem cells6_later {w W W' : World} {a b c d a' b' : Addr} {u v x y z t : Value} (hg : Grown W W') (h : (W.cell? a = some u ∧ W.cell? b = some v ∧ W.cell? c = some x ∧ W.cell? d = some y ∧ W.cell? a' = some z ∧ W.cell? b' = some t) ∧ Grown w W) :
    (W'.cell? a = some u ∧ W'.cell? b = some v ∧ W'.cell? c = some x ∧ W'.cell? d = some y ∧ W'.cell? a' = some z ∧ W'.cell? b' = some t) ∧ Grown w W' :=
  ⟨⟨cell_later hg.1 h.1.1, cell_later hg.1 h.1.2.1, cell_later hg.1 h.1.2.2.1, cell_later hg.1 h.1.2.2.2.1, cell_later hg.1 h.1.2.2.2.2.1, cell_later hg.1 h.1.2.2.2.2.2⟩, h.2.trans hg⟩

theorem cell_two (w : World) (a b : Value) (T : TypeId) :
    (w.alloc (.cells #[a, b] T)).cell? ⟨w.heap.size, 0, none⟩ = some a ∧ (w.alloc (.cells #[a, b] T)).cell? ⟨w.heap.size, 1, none⟩ = some b :=
  ⟨cell_of_row _ _ 0 _ _ (0, 0) (heap_alloc_new w _), cell_of_row _ _ 1 _ _ (0, 0) (heap_alloc_new w _)⟩

end Go.Proofs.YtlhdbccemgofjaaGreatDoor

/-
  The walk of the landed order of entries, with what it leaves.
-/
namespace Go.Proofs.YtlhdbccemgofjaaGreatDoor
open Go.RowKit StampMath GraphMath

set_option maxRecDepth 100000 in
set_option maxHeartbeats 1600000 in
theorem ahead_grown (x y : Ent) (w : World) :
    Calls Tryz.prog 95 #[.agg (entA x), .agg (entA y)] w fun e w' => e = .returned (.int .i64 (aheadI x y)) ∧ Grown w w' := by
  have hv : or2 (cmp x.dir.1 x.dir.2 y.dir.1 y.dir.2) (cmpB x.name.data.toList y.name.data.toList) = aheadI x y := rfl
  obtain ⟨⟨xd1, xd2⟩, xn, ⟨xi1, xi2⟩⟩ := x
  obtain ⟨⟨yd1, yd2⟩, yn, ⟨yi1, yi2⟩⟩ := y
  unfold entA
  obtain ⟨c, hc⟩ : ∃ c, c = cmp xd1 xd2 yd1 yd2 := ⟨_, rfl⟩
  obtain ⟨k, hk⟩ : ∃ k, k = cmpB xn.data.toList yn.data.toList := ⟨_, rfl⟩
  simp only [← hc, ← hk] at hv
  have HC : Hid (∀ W : World, Calls Tryz.prog 51 #[.agg #[.int .i64 xd1, .int .i64 xd2], .agg #[.int .i64 yd1, .int .i64 yd2]] W fun e w' => e = .returned (.int .i64 c) ∧ Grown W w') := fun W => by rw [hc]; exact compare_grown _ _ _ _ W
  have HK : Hid (∀ W : World, Calls Tryz.prog 135 #[.string xn, .string yn] W fun e w' => e = .returned (.int .i64 k) ∧ W = w') := fun W => by rw [hk]; exact compareStr _ _ W
  have HV := Lib.hid hv
  clear hv hc hk
  go_enter Tryz.func95, Tryz.ntmps95
  go_wp2_with fail
  have hS0 : (((w.alloc (.cells #[.int .i64 xd1, .int .i64 xd2, .string xn, .int .i64 xi1, .int .i64 xi2] 93)).alloc (.cells #[.int .i64 yd1, .int .i64 yd2, .string yn, .int .i64 yi1, .int .i64 yi2] 93)).drew.cell? ⟨w.heap.size, 0, none⟩ = some (.int .i64 xd1) ∧ ((w.alloc (.cells #[.int .i64 xd1, .int .i64 xd2, .string xn, .int .i64 xi1, .int .i64 xi2] 93)).alloc (.cells #[.int .i64 yd1, .int .i64 yd2, .string yn, .int .i64 yi1, .int .i64 yi2] 93)).drew.cell? ⟨w.heap.size, 1, none⟩ = some (.int .i64 xd2) ∧ ((w.alloc (.cells #[.int .i64 xd1, .int .i64 xd2, .string xn, .int .i64 xi1, .int .i64 xi2] 93)).alloc (.cells #[.int .i64 yd1, .int .i64 yd2, .string yn, .int .i64 yi1, .int .i64 yi2] 93)).drew.cell? ⟨w.heap.size, 2, none⟩ = some (.string xn) ∧ ((w.alloc (.cells #[.int .i64 xd1, .int .i64 xd2, .string xn, .int .i64 xi1, .int .i64 xi2] 93)).alloc (.cells #[.int .i64 yd1, .int .i64 yd2, .string yn, .int .i64 yi1, .int .i64 yi2] 93)).drew.cell? ⟨w.heap.size + 1, 0, none⟩ = some (.int .i64 yd1) ∧ ((w.alloc (.cells #[.int .i64 xd1, .int .i64 xd2, .string xn, .int .i64 xi1, .int .i64 xi2] 93)).alloc (.cells #[.int .i64 yd1, .int .i64 yd2, .string yn, .int .i64 yi1, .int .i64 yi2] 93)).drew.cell? ⟨w.heap.size + 1, 1, none⟩ = some (.int .i64 yd2) ∧ ((w.alloc (.cells #[.int .i64 xd1, .int .i64 xd2, .string xn, .int .i64 xi1, .int .i64 xi2] 93)).alloc (.cells #[.int .i64 yd1, .int .i64 yd2, .string yn, .int .i64 yi1, .int .i64 yi2] 93)).drew.cell? ⟨w.heap.size + 1, 2, none⟩ = some (.string yn)) ∧ Grown w ((w.alloc (.cells #[.int .i64 xd1, .int .i64 xd2, .string xn, .int .i64 xi1, .int .i64 xi2] 93)).alloc (.cells #[.int .i64 yd1, .int .i64 yd2, .string yn, .int .i64 yi1, .int .i64 yi2] 93)).drew := by
    refine ⟨⟨?_, ?_, ?_, ?_, ?_, ?_⟩, (((Grown.refl _).alloc _).alloc _).drew⟩
    · exact cell_of_row _ _ 0 _ _ (0, 0) (heap_alloc2_old w _ _)
    · exact cell_of_row _ _ 1 _ _ (0, 0) (heap_alloc2_old w _ _)
    · exact cell_of_row _ _ 2 _ _ (0, 0) (heap_alloc2_old w _ _)
    · exact cell_of_row _ _ 0 _ _ (0, 0) (heap_alloc2_new w _ _)
    · exact cell_of_row _ _ 1 _ _ (0, 0) (heap_alloc2_new w _ _)
    · exact cell_of_row _ _ 2 _ _ (0, 0) (heap_alloc2_new w _ _)
  go_region_held3 (fun W => (W.cell? ⟨w.heap.size, 0, none⟩ = some (.int .i64 xd1) ∧ W.cell? ⟨w.heap.size, 1, none⟩ = some (.int .i64 xd2) ∧ W.cell? ⟨w.heap.size, 2, none⟩ = some (.string xn) ∧ W.cell? ⟨w.heap.size + 1, 0, none⟩ = some (.int .i64 yd1) ∧ W.cell? ⟨w.heap.size + 1, 1, none⟩ = some (.int .i64 yd2) ∧ W.cell? ⟨w.heap.size + 1, 2, none⟩ = some (.string yn)) ∧ Grown w W) (first | assumption | exact cells6_alloc _ (by assumption) | (refine ⟨⟨?_, ?_, ?_, ?_, ?_, ?_⟩, ?_⟩ <;> assumption))
    (first
      | (go_at_call 51; (with_reducible refine (HC.out _).mono ?_); rintro e w' ⟨rfl, hg⟩; have hS := cells6_later hg ‹(_ ∧ _ ∧ _ ∧ _ ∧ _ ∧ _) ∧ Grown w _›)
      | (go_at_call 135; (with_reducible refine (HK.out _).mono ?_); rintro e w' ⟨rfl, rfl⟩; have hS := ‹(_ ∧ _ ∧ _ ∧ _ ∧ _ ∧ _) ∧ Grown w _›)
      | (go_at_call 91; refine (or_any _ c k _ ?_ ?_).mono ?_; exact (cell_two _ _ _ _).1; exact (cell_two _ _ _ _).2; rintro e w' ⟨rfl, rfl⟩; have hS := ‹(_ ∧ _ ∧ _ ∧ _ ∧ _ ∧ _) ∧ Grown w _›))
  have hB := (show Grown w _ from And.right ‹(_ ∧ _ ∧ _ ∧ _ ∧ _ ∧ _) ∧ Grown w _›)
  clear hS0
  go_wp2_with fail
  go_ret
  exact ⟨by rw [← HV.out]; rfl, hB⟩

end Go.Proofs.YtlhdbccemgofjaaGreatDoor

/-
  Closures of the library's functions, laid at this program (made by the kit's lay-plain.mjs).
-/
namespace Go.Proofs
open Go.Shelf
def Tryz.sortIno_ren : Go.Shelf.Ren := ⟨fun | 6 => 89 | 15 => 131 | 14 => 130 | 28 => 167 | 29 => 168 | 20 => 159 | 21 => 160 | 22 => 161 | 23 => 162 | 24 => 163 | 25 => 164 | 26 => 165 | 27 => 166 | 46 => 183 | 47 => 184 | 48 => 185 | 49 => 186 | 50 => 187 | 57 => 192 | n => n, fun | 22 => 27 | 24 => 54 | 25 => 91 | 3 => 3 | 39 => 150 | 0 => 0 | 53 => 179 | 55 => 181 | 4 => 4 | 46 => 172 | 45 => 171 | 50 => 176 | 5 => 5 | 9 => 9 | 66 => 194 | 70 => 198 | 76 => 202 | 77 => 203 | n => n, fun | n => n⟩
theorem Tryz.sortIno : Go.Proofs.SlLaysF0.n6 Tryz.prog Tryz.sortIno_ren := {
  mixed := by kernel_rfl
  f6 := ⟨Tryz.f89.name, by decide, Tryz.func89.trans (congrArg some (by kernel_rfl))⟩
  f14 := ⟨Tryz.f130.name, by decide, Tryz.func130.trans (congrArg some (by kernel_rfl))⟩
  f15 := Tryz.func131.trans (congrArg some (by kernel_rfl))
  f20 := ⟨Tryz.f159.name, by decide, Tryz.func159.trans (congrArg some (by kernel_rfl))⟩
  f21 := ⟨Tryz.f160.name, by decide, Tryz.func160.trans (congrArg some (by kernel_rfl))⟩
  f22 := ⟨Tryz.f161.name, by decide, Tryz.func161.trans (congrArg some (by kernel_rfl))⟩
  f23 := ⟨Tryz.f162.name, by decide, Tryz.func162.trans (congrArg some (by kernel_rfl))⟩
  f24 := ⟨Tryz.f163.name, by decide, Tryz.func163.trans (congrArg some (by kernel_rfl))⟩
  f25 := ⟨Tryz.f164.name, by decide, Tryz.func164.trans (congrArg some (by kernel_rfl))⟩
  f26 := ⟨Tryz.f165.name, by decide, Tryz.func165.trans (congrArg some (by kernel_rfl))⟩
  f27 := ⟨Tryz.f166.name, by decide, Tryz.func166.trans (congrArg some (by kernel_rfl))⟩
  f28 := Tryz.func167.trans (congrArg some (by kernel_rfl))
  f29 := Tryz.func168.trans (congrArg some (by kernel_rfl))
  f46 := ⟨Tryz.f183.name, by decide, Tryz.func183.trans (congrArg some (by kernel_rfl))⟩
  f47 := Tryz.func184.trans (congrArg some (by kernel_rfl))
  f48 := Tryz.func185.trans (congrArg some (by kernel_rfl))
  f49 := ⟨Tryz.f186.name, by decide, Tryz.func186.trans (congrArg some (by kernel_rfl))⟩
  f50 := ⟨Tryz.f187.name, by decide, Tryz.func187.trans (congrArg some (by kernel_rfl))⟩
  f57 := ⟨Tryz.f192.name, by decide, Tryz.func192.trans (congrArg some (by kernel_rfl))⟩
  t0 := Tryz.underlying0
  a0 := Tryz.isAgg0
  z0 := Tryz.sizeOf0
  v0 := Tryz.zeroValue0
  t3 := Tryz.underlying3
  a3 := Tryz.isAgg3
  z3 := Tryz.sizeOf3
  v3 := Tryz.zeroValue3
  t4 := Tryz.underlying4
  a4 := Tryz.isAgg4
  z4 := Tryz.sizeOf4
  v4 := Tryz.zeroValue4
  t5 := Tryz.underlying5
  a5 := Tryz.isAgg5
  z5 := Tryz.sizeOf5
  v5 := Tryz.zeroValue5
  t9 := Tryz.underlying9
  a9 := Tryz.isAgg9
  z9 := Tryz.sizeOf9
  v9 := Tryz.zeroValue9
  t22 := Tryz.underlying27
  a22 := Tryz.isAgg27
  z22 := Tryz.sizeOf27
  v22 := Tryz.zeroValue27
  t25 := Tryz.underlying91
  a25 := Tryz.isAgg91
  z25 := Tryz.sizeOf91
  v25 := Tryz.zeroValue91
  t39 := Tryz.underlying150
  a39 := Tryz.isAgg150
  z39 := Tryz.sizeOf150
  v39 := Tryz.zeroValue150
  t45 := Tryz.underlying171
  a45 := Tryz.isAgg171
  z45 := Tryz.sizeOf171
  v45 := Tryz.zeroValue171
  t46 := Tryz.underlying172
  a46 := Tryz.isAgg172
  z46 := Tryz.sizeOf172
  v46 := Tryz.zeroValue172
  t50 := Tryz.underlying176
  a50 := Tryz.isAgg176
  z50 := Tryz.sizeOf176
  v50 := Tryz.zeroValue176
  t53 := Tryz.underlying179
  a53 := Tryz.isAgg179
  z53 := Tryz.sizeOf179
  v53 := Tryz.zeroValue179
  t55 := Tryz.underlying181
  a55 := Tryz.isAgg181
  z55 := Tryz.sizeOf181
  v55 := Tryz.zeroValue181
  t66 := Tryz.underlying194
  a66 := Tryz.isAgg194
  z66 := Tryz.sizeOf194
  v66 := Tryz.zeroValue194
  t70 := Tryz.underlying198
  a70 := Tryz.isAgg198
  z70 := Tryz.sizeOf198
  v70 := Tryz.zeroValue198
  t76 := Tryz.underlying202
  a76 := Tryz.isAgg202
  z76 := Tryz.sizeOf202
  v76 := Tryz.zeroValue202
  t77 := Tryz.underlying203
  a77 := Tryz.isAgg203
  z77 := Tryz.sizeOf203
  v77 := Tryz.zeroValue203 }
def Tryz.sortEnt_ren : Go.Shelf.Ren := ⟨fun | 6 => 94 | 15 => 131 | 14 => 134 | 28 => 167 | 29 => 168 | 20 => 169 | 21 => 170 | 22 => 171 | 23 => 172 | 24 => 173 | 25 => 174 | 26 => 175 | 27 => 176 | 46 => 188 | 47 => 184 | 48 => 185 | 49 => 189 | 50 => 190 | 57 => 193 | n => n, fun | 22 => 28 | 24 => 93 | 25 => 123 | 3 => 3 | 39 => 150 | 0 => 0 | 53 => 179 | 55 => 181 | 4 => 4 | 46 => 172 | 45 => 171 | 50 => 176 | 5 => 5 | 9 => 9 | 66 => 194 | 70 => 198 | 76 => 202 | 77 => 203 | n => n, fun | n => n⟩
theorem Tryz.sortEnt : Go.Proofs.SlLaysF0.n6 Tryz.prog Tryz.sortEnt_ren := {
  mixed := by kernel_rfl
  f6 := ⟨Tryz.f94.name, by decide, Tryz.func94.trans (congrArg some (by kernel_rfl))⟩
  f14 := ⟨Tryz.f134.name, by decide, Tryz.func134.trans (congrArg some (by kernel_rfl))⟩
  f15 := Tryz.func131.trans (congrArg some (by kernel_rfl))
  f20 := ⟨Tryz.f169.name, by decide, Tryz.func169.trans (congrArg some (by kernel_rfl))⟩
  f21 := ⟨Tryz.f170.name, by decide, Tryz.func170.trans (congrArg some (by kernel_rfl))⟩
  f22 := ⟨Tryz.f171.name, by decide, Tryz.func171.trans (congrArg some (by kernel_rfl))⟩
  f23 := ⟨Tryz.f172.name, by decide, Tryz.func172.trans (congrArg some (by kernel_rfl))⟩
  f24 := ⟨Tryz.f173.name, by decide, Tryz.func173.trans (congrArg some (by kernel_rfl))⟩
  f25 := ⟨Tryz.f174.name, by decide, Tryz.func174.trans (congrArg some (by kernel_rfl))⟩
  f26 := ⟨Tryz.f175.name, by decide, Tryz.func175.trans (congrArg some (by kernel_rfl))⟩
  f27 := ⟨Tryz.f176.name, by decide, Tryz.func176.trans (congrArg some (by kernel_rfl))⟩
  f28 := Tryz.func167.trans (congrArg some (by kernel_rfl))
  f29 := Tryz.func168.trans (congrArg some (by kernel_rfl))
  f46 := ⟨Tryz.f188.name, by decide, Tryz.func188.trans (congrArg some (by kernel_rfl))⟩
  f47 := Tryz.func184.trans (congrArg some (by kernel_rfl))
  f48 := Tryz.func185.trans (congrArg some (by kernel_rfl))
  f49 := ⟨Tryz.f189.name, by decide, Tryz.func189.trans (congrArg some (by kernel_rfl))⟩
  f50 := ⟨Tryz.f190.name, by decide, Tryz.func190.trans (congrArg some (by kernel_rfl))⟩
  f57 := ⟨Tryz.f193.name, by decide, Tryz.func193.trans (congrArg some (by kernel_rfl))⟩
  t0 := Tryz.underlying0
  a0 := Tryz.isAgg0
  z0 := Tryz.sizeOf0
  v0 := Tryz.zeroValue0
  t3 := Tryz.underlying3
  a3 := Tryz.isAgg3
  z3 := Tryz.sizeOf3
  v3 := Tryz.zeroValue3
  t4 := Tryz.underlying4
  a4 := Tryz.isAgg4
  z4 := Tryz.sizeOf4
  v4 := Tryz.zeroValue4
  t5 := Tryz.underlying5
  a5 := Tryz.isAgg5
  z5 := Tryz.sizeOf5
  v5 := Tryz.zeroValue5
  t9 := Tryz.underlying9
  a9 := Tryz.isAgg9
  z9 := Tryz.sizeOf9
  v9 := Tryz.zeroValue9
  t22 := Tryz.underlying28
  a22 := Tryz.isAgg28
  z22 := Tryz.sizeOf28
  v22 := Tryz.zeroValue28
  t25 := Tryz.underlying123
  a25 := Tryz.isAgg123
  z25 := Tryz.sizeOf123
  v25 := Tryz.zeroValue123
  t39 := Tryz.underlying150
  a39 := Tryz.isAgg150
  z39 := Tryz.sizeOf150
  v39 := Tryz.zeroValue150
  t45 := Tryz.underlying171
  a45 := Tryz.isAgg171
  z45 := Tryz.sizeOf171
  v45 := Tryz.zeroValue171
  t46 := Tryz.underlying172
  a46 := Tryz.isAgg172
  z46 := Tryz.sizeOf172
  v46 := Tryz.zeroValue172
  t50 := Tryz.underlying176
  a50 := Tryz.isAgg176
  z50 := Tryz.sizeOf176
  v50 := Tryz.zeroValue176
  t53 := Tryz.underlying179
  a53 := Tryz.isAgg179
  z53 := Tryz.sizeOf179
  v53 := Tryz.zeroValue179
  t55 := Tryz.underlying181
  a55 := Tryz.isAgg181
  z55 := Tryz.sizeOf181
  v55 := Tryz.zeroValue181
  t66 := Tryz.underlying194
  a66 := Tryz.isAgg194
  z66 := Tryz.sizeOf194
  v66 := Tryz.zeroValue194
  t70 := Tryz.underlying198
  a70 := Tryz.isAgg198
  z70 := Tryz.sizeOf198
  v70 := Tryz.zeroValue198
  t76 := Tryz.underlying202
  a76 := Tryz.isAgg202
  z76 := Tryz.sizeOf202
  v76 := Tryz.zeroValue202
  t77 := Tryz.underlying203
  a77 := Tryz.isAgg203
  z77 := Tryz.sizeOf203
  v77 := Tryz.zeroValue203 }
def Tryz.cloneIno_ren : Go.Shelf.Ren := ⟨fun | 5 => 55 | 7 => 104 | n => n, fun | 23 => 65 | 25 => 35 | 3 => 54 | 4 => 4 | 20 => 20 | n => n, fun | n => n⟩
theorem Tryz.cloneIno : Go.Proofs.SlLaysW.n5 Tryz.prog Tryz.cloneIno_ren := {
  mixed := by kernel_rfl
  f5 := ⟨Tryz.f55.name, by decide, Tryz.func55.trans (congrArg some (by kernel_rfl))⟩
  f7 := Tryz.func104.trans (congrArg some (by kernel_rfl))
  t4 := Tryz.underlying4
  a4 := Tryz.isAgg4
  z4 := Tryz.sizeOf4
  v4 := Tryz.zeroValue4
  t20 := Tryz.underlying20
  a20 := Tryz.isAgg20
  z20 := Tryz.sizeOf20
  v20 := Tryz.zeroValue20
  t23 := Tryz.underlying65
  a23 := Tryz.isAgg65
  z23 := Tryz.sizeOf65
  v23 := Tryz.zeroValue65 }
def Tryz.cloneEnt_ren : Go.Shelf.Ren := ⟨fun | 5 => 56 | 7 => 104 | n => n, fun | 23 => 66 | 25 => 101 | 3 => 35 | 4 => 4 | 20 => 20 | n => n, fun | n => n⟩
theorem Tryz.cloneEnt : Go.Proofs.SlLaysW.n5 Tryz.prog Tryz.cloneEnt_ren := {
  mixed := by kernel_rfl
  f5 := ⟨Tryz.f56.name, by decide, Tryz.func56.trans (congrArg some (by kernel_rfl))⟩
  f7 := Tryz.func104.trans (congrArg some (by kernel_rfl))
  t4 := Tryz.underlying4
  a4 := Tryz.isAgg4
  z4 := Tryz.sizeOf4
  v4 := Tryz.zeroValue4
  t20 := Tryz.underlying20
  a20 := Tryz.isAgg20
  z20 := Tryz.sizeOf20
  v20 := Tryz.zeroValue20
  t23 := Tryz.underlying66
  a23 := Tryz.isAgg66
  z23 := Tryz.sizeOf66
  v23 := Tryz.zeroValue66 }
end Go.Proofs

/-
  A row of the call's own, sorted by slices.SortFunc: it holds the same elements in order, and is the call's own still.
-/
namespace Go.Proofs.YtlhdbccemgofjaaGreatDoor
open Go.RowKit Go.Shelf Go.Sort

section
variable {α : Type} [Inhabited α]

theorem flatK_flat (encA : α → Array Value) {k : Nat} (hk : ∀ x, (encA x).size = k) (xs : List α) : flatK (fun x => (encA x).toList) k xs.toArray = (flat (xs.map encA)).toArray := by
  have hk' : ∀ r ∈ xs.map encA, r.size = k := fun r hr => by
    obtain ⟨x, _, rfl⟩ := List.mem_map.1 hr
    exact hk x
  have hl := flat_len hk'
  rw [List.length_map] at hl
  refine ext_get! (by simp [hl]) fun t ht => ?_
  have ht' : t < xs.length * k := by simpa using ht
  rw [get_flatK _ _ _ _ (by simpa using ht')]
  have k0 : 0 < k := by
    rcases Nat.eq_zero_or_pos k with h | h
    · subst h; simp at ht'
    · exact h
  have hd : t / k < xs.length := (Nat.div_lt_iff_lt_mul k0).2 ht'
  have hm := Nat.mod_lt t k0
  have e := flat_at hk' (t / k) (by simpa using hd) (t % k) hm
  rw [show t / k * k + t % k = t by rw [Nat.mul_comm]; exact Nat.div_add_mod t k] at e
  have hs : t % k < (encA xs[t / k]).size := by rw [hk]; exact hm
  have hf : t < (flat (xs.map encA)).length := by rw [hl]; exact ht'
  rw [List.getElem?_eq_getElem hf, List.getElem_map, Array.getElem?_eq_getElem hs] at e
  have e' := Option.some.inj e
  rw [getElem!_pos ((flat (xs.map encA)).toArray) t (by simpa using hf), List.getElem_toArray, e', getElem!_pos xs.toArray (t / k) (by simpa using hd), List.getElem_toArray, getElem!_pos _ _ (by simpa using hs), Array.getElem_toList]

theorem perm_of {d d' : Array α} (h : PermIn 0 d.size d d') : d'.toList.Perm d.toList := by
  obtain ⟨hs, _, hp⟩ := h
  rw [Array.extract_size] at hp
  have e : d'.extract 0 d.size = d' := by rw [← hs]; exact Array.extract_size
  rwa [e] at hp

theorem sorted_of {lt : α → α → Bool} {d : Array α} (h : SortedIn lt 0 d.size d) : d.toList.Pairwise fun x y => lt y x = false := by
  rw [List.pairwise_iff_getElem]
  intro i j hi hj hij
  have q := h i j (Nat.zero_le _) hij (by simpa using hj)
  rwa [getElem!_pos d j (by simpa using hj), getElem!_pos d i (by simpa using hi)] at q
end

/-- A row that lies in a block of the call's own holds these cells, none of them frozen. -/
theorem own_holds {w : World} {g : Nat} {e : TypeId} {cur : Array Value} {F : Array Value} (hg : w.heap[g]? = some (.cells cur e (0, 0))) (hF : cur.toList.take F.size = F.toList) : Holds id w g 0 F := by
  intro j hj
  refine ⟨?_, ?_⟩
  · have e1 : (cur.toList.take F.size)[j]? = F.toList[j]? := by rw [hF]
    rw [List.getElem?_take_of_lt hj] at e1
    simp only [World.cell?, hg, Nat.zero_add, Option.isSome_none, Bool.false_eq_true, if_false, id]
    rw [getElem!_pos F j hj]
    simpa [hj] using e1
  · simp only [World.frozen?, hg]
    simp

theorem putCells_take (F cur : Array Value) (h : F.size ≤ cur.size) : (putCells id 0 F cur).toList.take F.size = F.toList := by
  apply List.ext_getElem?
  intro j
  by_cases hj : j < F.size
  · rw [List.getElem?_take_of_lt hj]
    have hc : j < cur.size := by omega
    simp [putCells, hj, hc]
  · rw [List.getElem?_eq_none (by simp; omega), List.getElem?_eq_none (by simp; omega)]

theorem sort_own {P : Program} {ρ : Ren} {α : Type} [Inhabited α] (L : SlLaysF0.n6 P ρ) (k : Nat) (aE : ∀ w, (isAgg (ρ.t 24)).run P w = .ok true w) (zE : ∀ w, (Go.sizeOf (ρ.t 24)).run P w = .ok k w) (encA : α → Array Value) (hk : ∀ x, (encA x).size = k) (h1 : ∀ x, ∀ v ∈ (encA x).toList, v.oneCell' = true)
    (cf : α → α → Int) (hO : SWO (ltOf cf)) (g : Nat) (cb : Array Value) (eg : ∀ args w, (callFunc g args).run P w = .ok (.enter g args) w)
    (hc : ∀ (W : World) (x y : α), Calls P g (#[.agg (encA x), .agg (encA y)] ++ cb) W fun e W' => e = .returned (.int .i64 (cf x y)) ∧ ∃ q os', W' = grow (W.drewN q) os')
    {w : World} {base : Nat} {e : TypeId} {v : Value} {n : Nat} {xs : List α} (hn : xs.length = n) (h : w.ownsRow base e k v n (flat (xs.map encA))) (hsz : n < 4611686018427387904) :
    Calls P (ρ.f 6) #[v, .func (.func g) #[] cb] w fun r w' => r = .returned (.tuple #[]) ∧ ∃ ys : List α, ys.Perm xs ∧ (ys.Pairwise fun x y => ltOf cf y x = false) ∧ w'.ownsRow base e k v n (flat (ys.map encA)) ∧ But (fun i => v.ownBlock = some i) w w' := by
  subst hn
  obtain ⟨hl, h⟩ := h
  rcases h with ⟨rfl, h0⟩ | ⟨b, cap, cur, rfl, hb, hg, hc1, hc2, hcs, ht⟩
  · refine (AnyF.slices_SortFunc_none (P := P) (ρ := ρ) { L with } none 0 (.func (.func g) #[] cb) w).mono ?_
    rintro r w' ⟨rfl, rfl⟩
    have hx : xs = [] := List.length_eq_zero_iff.1 h0
    subst hx
    exact ⟨rfl, [], List.Perm.refl _, List.Pairwise.nil, ⟨hl, Or.inl ⟨rfl, rfl⟩⟩, But.refl _ _⟩
  · have hk' : ∀ (l : List α), ∀ r ∈ l.map encA, r.size = k := fun l r hr => by
      obtain ⟨x, _, rfl⟩ := List.mem_map.1 hr
      exact hk x
    have fl : ∀ l : List α, (flat (l.map encA)).length = l.length * k := fun l => by have := flat_len (hk' l); rwa [List.length_map] at this
    have hH : HoldsK (fun x => (encA x).toList) k w b 0 xs.toArray := by
      unfold HoldsK
      rw [flatK_flat encA hk]
      exact own_holds hg (by simpa [fl] using ht)
    have hcmp : CmpLays P g cb (fun x => (encA x).toList) k cf b 0 xs.toArray.size w := fun m os dk _ x y => hc _ x y
    have hs := AnyQ.slices_SortFunc L k aE zE (fun x => (encA x).toList) (fun x => by simpa using hk x) h1 cf hO g cb b 0 cap xs.toArray w eg hcmp hH (heap_lt hg) (by simpa using hsz)
    rw [List.size_toArray] at hs
    refine hs.mono ?_
    rintro r w' ⟨rfl, d', q, os, hp, hsd, rfl⟩
    refine ⟨rfl, d'.toList, ?_, ?_, ?_, ?_⟩
    · simpa using perm_of (d := xs.toArray) (by simpa using hp)
    · refine sorted_of ?_
      have hd : d'.size = xs.length := by simpa using hp.1
      rw [hd]
      exact hsd
    · have hd : d'.size = xs.length := by simpa using hp.1
      have hF : flatK (fun x => (encA x).toList) k d' = (flat (d'.toList.map encA)).toArray := by
        have := flatK_flat encA hk d'.toList
        rwa [Array.toArray_toList] at this
      have hle : (flatK (fun x => (encA x).toList) k d').size ≤ cur.size := by
        rw [size_flatK, hcs, hd]
        exact Nat.mul_le_mul_right k hc1
      refine ⟨by rw [fl, Array.length_toList, hd], Or.inr ⟨b, cap, putCells id 0 (flatK (fun x => (encA x).toList) k d') cur, rfl, hb, ?_, hc1, hc2, by simpa [putCells] using hcs, ?_⟩⟩
      · unfold sortWorldK
        rw [heap_grow_old _ _ (by rw [size_putRowK]; exact heap_lt hg)]
        simp [putRowK, putRow, mapBlock, Array.getElem?_modify, hg, onCells]
      · have e2 := putCells_take _ cur hle
        rw [size_flatK, hd] at e2
        rw [e2, hF]
    · unfold sortWorldK
      refine ⟨rfl, rfl, rfl, ?_, fun i hi hne => ?_⟩
      · rw [size_grow, size_putRowK]
        exact Nat.le_add_right _ _
      · rw [heap_grow_old _ _ (by rw [size_putRowK]; exact hi)]
        have hib : b ≠ i := fun q => hne (by rw [← q]; rfl)
        simp [putRowK, putRow, mapBlock, Array.getElem?_modify, hib]

end Go.Proofs.YtlhdbccemgofjaaGreatDoor

/-
  Rows of a call's own, kept through calls and through a write to another block. It needs no program.
-/
namespace Go.Proofs.YtlhdbccemgofjaaGreatDoor
open Go.RowKit

/-- Has the call made the block r, and the blocks from base on alone? -/
theorem own_iter {w w' : World} {base r : Nat} {e : TypeId} {k : Nat} {v : Value} {n : Nat} {xs : List Value} (h : w.ownsRow base e k v n xs) (hb : But (fun i => i = r) w w') (hr : r < base) : w'.ownsRow base e k v n xs :=
  h.kept (row := some r) ⟨hb.os, hb.tape, hb.output, hb.size, fun i hi hn => hb.block i hi fun q => hn (by rw [q])⟩ (by
    cases hv : v.ownBlock with
    | none => exact .inl rfl
    | some j => exact .inr (fun q => by have := (h.lt j hv).1; injection q with q; omega))

/-- A call that leaves all that was there leaves the row. -/
theorem own_call {w w' : World} {base : Nat} {e : TypeId} {k : Nat} {v : Value} {n : Nat} {xs : List Value} (h : w.ownsRow base e k v n xs) (hb : Below w.heap.size w w') : w'.ownsRow base e k v n xs :=
  h.kept (row := none) ⟨hb.os, hb.tape, hb.output, hb.size, fun i hi _ => hb.block i hi⟩ (by
    cases hv : v.ownBlock with
    | none => exact .inl rfl
    | some j => exact .inr (fun q => by cases q))

theorem own_lower {w : World} {b b' : Nat} {e : TypeId} {k : Nat} {v : Value} {n : Nat} {xs : List Value} (h : w.ownsRow b e k v n xs) (hb : b' ≤ b) : w.ownsRow b' e k v n xs := by
  obtain ⟨h0, h1 | ⟨g, cap, cur, h1, h2, h3⟩⟩ := h
  · exact ⟨h0, Or.inl h1⟩
  · exact ⟨h0, Or.inr ⟨g, cap, cur, h1, Nat.le_trans hb h2, h3⟩⟩

end Go.Proofs.YtlhdbccemgofjaaGreatDoor
