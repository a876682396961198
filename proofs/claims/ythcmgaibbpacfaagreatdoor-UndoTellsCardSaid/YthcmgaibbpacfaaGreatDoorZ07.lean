/-
  The landed undo's Back: what came is untied and dropped, what was is made and set, and tied again.
-/
import Derived.Test.YthcmgaibbpacfaaGreatDoorZ02
import Derived.Test.YthcmgaibbpacfaaGreatDoorZ06
import Derived.Test.YthcmgaibbpacfaaGreatDoorZ01
import Derived.Deep.LoopGhost
import Derived.Test.YthcmgaibbpacfaaGreatDoorZ00
import Derived.Test.YthcmgaibbpacfaaGreatDoorZ00
import Derived.Test.YthcmgaibbpacfaaGreatDoorZ00
import Derived.Test.YthcmgaibbpacfaaGreatDoorRows
import Derived.Deep.RegionHeld3
import Derived.Sort.Grow
import Derived.Sort.Statements
import Derived.Shelf.SlSortCmp.Insertion
import Derived.Shelf.SlGeneric
import Derived.Shelf.SlLaysF0
import Derived.Shelf.SlLaysW
import Derived.Test.YthcmgaibbpacfaaGreatDoorProg
import Derived.Shelf.SlSortCmp.WholeK
import Derived.Shelf.SlSortCmp.NoneTotal
import Derived.Deep.Cut
import Derived.Sort.MapsRangeIn
import Derived.RangeFuncSeq
import Derived.RangeFuncNested
import Derived.RangeFuncBound
import Derived.RangeFuncBox
import Derived.RangeFuncLeaves
import Derived.Shelf.Abstract
import Derived.WalkKit
import Derived.OwnWalkIn
import Derived.TacticsInMore
import Derived.LoopNIn
import Derived.LoopIn
import Derived.Sort.LoopGhostIn
import Derived.Sort.QuietIn
import Derived.Test.YthcmgaibbpacfaaGreatDoorZ03
import Derived.Maps.Own
import Derived.Maps.OwnOps
namespace Go.Proofs.YthcmgaibbpacfaaGreatDoor
open Go.RowKit StampMath GraphMath OpMath PackMath

theorem untieAll_next (g : Gr) {l : List Ent} {k : Nat} (h : k < l.length) : untieAll g (l.take (k + 1)) = (untieG (untieAll g (l.take k)) l[k].dir l[k].name).1 := foldl_next _ g h
theorem dropAll_next (g : Gr) {l : List St} {k : Nat} (h : k < l.length) : dropAll g (l.take (k + 1)) = (dropG (dropAll g (l.take k)) l[k]).1 := foldl_next _ g h
theorem remakeAll_next (g : Gr) {l : List Ino} {k : Nat} (h : k < l.length) : remakeAll g (l.take (k + 1)) = (setG (makeG (remakeAll g (l.take k)) l[k].id l[k].kind).1 l[k].id l[k].mode l[k].data).1 := foldl_next _ g h
theorem tieAll_next (g : Gr) {l : List Ent} {k : Nat} (h : k < l.length) : tieAll g (l.take (k + 1)) = (tieG (nameB l[k].name) (tieAll g (l.take k)) l[k]).1 := foldl_next _ g h

/-- A row of a record is read where N is as it was. -/
theorem TabAt.now {T N : Nat → Prop} {k : Nat} {W W' : World} {A : Option Addr} {n : Nat} {rows : List (Array Value)} (h : TabAt T k W A n rows) (hT : ∀ i, T i → i < W.heap.size → N i) (hs : Same N W W') : TabIn k W' W'.heap.size A n rows :=
  (h.keep (fun i hi hl => hs.2 i (hT i hi hl)) hs.1).tab

set_option maxRecDepth 100000 in
set_option maxHeartbeats 3200000 in
theorem back_core (H : GraphHave) (w W0 : World) (N T : Nat → Prop) (a : Addr) (γ : Gr) (r : Rec) (v : Value) (h : GX H w W0 N a γ) (hr : RecAt T W0 v r) (hT : ∀ i, T i → i < W0.heap.size → N i)
    (l1 : r.lost.length ≤ 1000) (l2 : r.made.length ≤ 1000) (l3 : r.was.length ≤ 1000) (l4 : r.new.length ≤ 1000) (m1 : ∀ e ∈ r.lost, e.name.size ≤ maxLen) (m2 : ∀ e ∈ r.made, e.name.size ≤ maxLen) :
    Calls Tryz.prog 21 #[.pointer (some a), v] W0 (Did H w W0 N a (backG γ r)) := by
  obtain ⟨A1, n1, c1, A2, n2, c2, A3, n3, c3, A4, n4, c4, rfl, t1, t2, t3, t4, _, _⟩ := hr
  have e1 : r.lost.length = n1 := by have := t1.1; rwa [List.length_map] at this
  have e2 : r.made.length = n2 := by have := t2.1; rwa [List.length_map] at this
  have e3 : r.was.length = n3 := by have := t3.1; rwa [List.length_map] at this
  have e4 : r.new.length = n4 := by have := t4.1; rwa [List.length_map] at this
  have LL := Lib.hid (And.intro e1 (And.intro e2 (And.intro e3 e4)))
  have K1 : Hid (∀ W, Same N W0 W → EntsIn W W.heap.size A1 n1 r.lost) := Lib.hid fun W hW => t1.now hT hW
  have K2 : Hid (∀ W, Same N W0 W → EntsIn W W.heap.size A2 n2 r.made) := Lib.hid fun W hW => t2.now hT hW
  have K3 : Hid (∀ W, Same N W0 W → InosIn W W.heap.size A3 n3 r.was) := Lib.hid fun W hW => t3.now hT hW
  have K4 : Hid (∀ W, Same N W0 W → StsIn W W.heap.size A4 n4 r.new) := Lib.hid fun W hW => t4.now hT hW
  have M1 := Lib.hid m1
  have M2 := Lib.hid m2
  rw [e1] at l1
  rw [e2] at l2
  rw [e3] at l3
  rw [e4] at l4
  obtain ⟨er, her⟩ : ∃ er, er = r.err := ⟨_, rfl⟩
  rw [← her]
  obtain ⟨u, hu⟩ : ∃ u, u = W0.heap.size := ⟨_, rfl⟩
  have hD0 := (DX.start h).alloc (.cells #[.slice A1 n1 c1, .slice A2 n2 c2, .slice A3 n3 c3, .slice A4 n4 c4, .int .i64 er] 36) hu.symm
  clear e1 e2 e3 e4 t1 t2 t3 t4 m1 m2 h hT her
  go_enter Tryz.func21, Tryz.ntmps21
  go_upto_region 1 with fail
  rw [← hu]
  change Code.wp _ _ _ _ (W0.alloc (.cells #[.slice A1 n1 c1, .slice A2 n2 c2, .slice A3 n3 c3, .slice A4 n4 c4, .int .i64 er] 36))
  clear hu
  generalize W0.alloc (.cells #[.slice A1 n1 c1, .slice A2 n2 c2, .slice A3 n3 c3, .slice A4 n4 c4, .int .i64 er] 36) = w1 at hD0 ⊢
  have D0 := Lib.hid hD0
  clear hD0
  obtain ⟨p0, p1, p2, p3, p4⟩ := rec_cells (D0.out.at 0 rfl)
  go_wp2_with fail
  clear p0 p1 p2 p3 p4
  go_loopg [15] (n2 + 1) (fun gk i wr => ∃ (k : Nat), i = .int .i64 (k : Int) ∧ gk + k = n2 + 1 ∧ k ≤ n2 ∧ Hid (DX H w W0 wr N a (untieAll γ (r.made.take k)) [(u, .cells #[.slice A1 n1 c1, .slice A2 n2 c2, .slice A3 n3 c3, .slice A4 n4 c4, .int .i64 er] 36)]))
  case atStart => exact ⟨0, rfl, by omega, by omega, D0⟩
  case round =>
    obtain ⟨k, rfl, hgk, hk, hD⟩ := hrel
    have HG := Lib.hid hgk
    clear hgk D0
    by_cases hlt : k < n2
    · obtain ⟨gi, ofs, rfl, hg, hrow⟩ := (K2.out wr hD.out.same).row (by omega)
      have lk : k < r.made.length := by have := LL.out.2.1; omega
      obtain ⟨e0, e1, e2, e3, e4⟩ := hrow k lk
      have hnx := untieAll_next γ lk
      have hnm := M2.out _ (List.getElem_mem lk)
      obtain ⟨x, hx⟩ : ∃ x, r.made[k] = x := ⟨_, rfl⟩
      rw [hx] at e0 e1 e2 e3 e4 hnx hnm
      have HNX := Lib.hid hnx
      have DA := Lib.hid ((hD.out.alloc (.cells (entA x) 66) rfl).untie x.dir x.name hnm)
      clear hrow hx hnx lk hnm
      have hi0' : (0 : Int) ≤ (k : Int) := by omega
      have hi1' : (k : Int) < (n2 : Int) := by omega
      unfold entA at DA
      go_wp2_with fail
      refine DA.out.mono ?_
      rintro e w5 ⟨rfl, hD5⟩
      have D5 := Lib.hid hD5.tail
      clear hD5 DA hD e0 e1 e2 e3 e4
      go_wp2_with fail
      go_roundg (gk - 1)
      case measure => have := HG.out; omega
      case rel => exact ⟨k + 1, by go_num, by have := HG.out; omega, by omega, by rw [HNX.out]; exact D5⟩
    · have hD1 : Hid (DX H w W0 wr N a (untieAll γ r.made) [(u, .cells #[.slice A1 n1 c1, .slice A2 n2 c2, .slice A3 n3 c3, .slice A4 n4 c4, .int .i64 er] 36)]) := by
        have := hD.out
        rwa [List.take_of_length_le (by have := LL.out.2.1; omega)] at this
      have hc : ¬ (k : Int) < (n2 : Int) := by omega
      clear hD hlt
      obtain ⟨w2, hw2⟩ : ∃ W, W = wr := ⟨_, rfl⟩
      rw [← hw2] at hD1 ⊢
      clear hw2
      obtain ⟨γ1, hγ1⟩ : ∃ x, x = untieAll γ r.made := ⟨_, rfl⟩
      rw [← hγ1] at hD1
      have HΓ1 := Lib.hid hγ1
      clear hγ1
      obtain ⟨p0, p1, p2, p3, p4⟩ := rec_cells (hD1.out.at 0 rfl)
      go_wp2_with fail
      clear p0 p1 p2 p3 p4 hc
      go_loopg [29] (n4 + 1) (fun gk i wr => ∃ (k : Nat), i = .int .i64 (k : Int) ∧ gk + k = n4 + 1 ∧ k ≤ n4 ∧ Hid (DX H w W0 wr N a (dropAll γ1 (r.new.take k)) [(u, .cells #[.slice A1 n1 c1, .slice A2 n2 c2, .slice A3 n3 c3, .slice A4 n4 c4, .int .i64 er] 36)]))
      case atStart => exact ⟨0, rfl, by omega, by omega, hD1⟩
      case round =>
        obtain ⟨k, rfl, hgk, hk, hD⟩ := hrel
        have HG := Lib.hid hgk
        clear hgk hD1
        by_cases hlt : k < n4
        · obtain ⟨gi, ofs, rfl, hg, hrow⟩ := (K4.out wr hD.out.same).row (by omega)
          have lk : k < r.new.length := by have := LL.out.2.2.2; omega
          obtain ⟨e0, e1⟩ := hrow k lk
          have hnx := dropAll_next γ1 lk
          obtain ⟨x, hx⟩ : ∃ x, r.new[k] = x := ⟨_, rfl⟩
          rw [hx] at e0 e1 hnx
          have HNX := Lib.hid hnx
          have DA := Lib.hid ((hD.out.alloc (.cells (stA x) 24) rfl).drop x)
          clear hrow hx hnx lk
          have hi0' : (0 : Int) ≤ (k : Int) := by omega
          have hi1' : (k : Int) < (n4 : Int) := by omega
          unfold stA at DA
          go_wp2_with fail
          refine DA.out.mono ?_
          rintro e w5 ⟨rfl, hD5⟩
          have D5 := Lib.hid hD5.tail
          clear hD5 DA hD e0 e1
          go_wp2_with fail
          go_roundg (gk - 1)
          case measure => have := HG.out; omega
          case rel => exact ⟨k + 1, by go_num, by have := HG.out; omega, by omega, by rw [HNX.out]; exact D5⟩
        · have hD2 : Hid (DX H w W0 wr N a (dropAll γ1 r.new) [(u, .cells #[.slice A1 n1 c1, .slice A2 n2 c2, .slice A3 n3 c3, .slice A4 n4 c4, .int .i64 er] 36)]) := by
            have := hD.out
            rwa [List.take_of_length_le (by have := LL.out.2.2.2; omega)] at this
          have hc : ¬ (k : Int) < (n4 : Int) := by omega
          clear hD hlt
          obtain ⟨w3, hw3⟩ : ∃ W, W = wr := ⟨_, rfl⟩
          rw [← hw3] at hD2 ⊢
          clear hw3
          obtain ⟨γ2, hγ2⟩ : ∃ x, x = dropAll γ1 r.new := ⟨_, rfl⟩
          rw [← hγ2] at hD2
          have HΓ2 := Lib.hid hγ2
          clear hγ2
          obtain ⟨p0, p1, p2, p3, p4⟩ := rec_cells (hD2.out.at 0 rfl)
          go_wp2_with fail
          clear p0 p1 p2 p3 p4 hc
          go_loopg [40] (n3 + 1) (fun gk i wr => ∃ (k : Nat), i = .int .i64 (k : Int) ∧ gk + k = n3 + 1 ∧ k ≤ n3 ∧ Hid (DX H w W0 wr N a (remakeAll γ2 (r.was.take k)) [(u, .cells #[.slice A1 n1 c1, .slice A2 n2 c2, .slice A3 n3 c3, .slice A4 n4 c4, .int .i64 er] 36)]))
          case atStart => exact ⟨0, rfl, by omega, by omega, hD2⟩
          case round =>
            obtain ⟨k, rfl, hgk, hk, hD⟩ := hrel
            have HG := Lib.hid hgk
            clear hgk hD2
            by_cases hlt : k < n3
            · obtain ⟨gi, ofs, rfl, hg, hrow⟩ := (K3.out wr hD.out.same).row (by omega)
              have lk : k < r.was.length := by have := LL.out.2.2.1; omega
              obtain ⟨e0, e1, e2, e3, e4, e5⟩ := hrow k lk
              have hnx := remakeAll_next γ2 lk
              obtain ⟨x, hx⟩ : ∃ x, r.was[k] = x := ⟨_, rfl⟩
              rw [hx] at e0 e1 e2 e3 e4 e5 hnx
              have HNX := Lib.hid hnx
              obtain ⟨z, hz⟩ : ∃ z, z = wr.heap.size := ⟨_, rfl⟩
              have DA := Lib.hid ((hD.out.alloc (.cells (inoA x) 70) hz.symm).make x.id x.kind)
              clear hrow hx hnx lk
              have hi0' : (0 : Int) ≤ (k : Int) := by omega
              have hi1' : (k : Int) < (n3 : Int) := by omega
              unfold inoA at DA
              go_wp2_with fail
              rw [← hz]
              refine DA.out.mono ?_
              rintro e w5 ⟨rfl, hD5⟩
              have D5 := Lib.hid hD5
              clear hD5 DA hD e0 e1 e2 e3 e4 e5 hz hg
              obtain ⟨y0, y1, y2, y3, y4, y5⟩ := ino_cells (x := x) (g := z) (D5.out.at 0 rfl)
              have DB := Lib.hid (D5.out.set x.id x.mode x.data)
              go_wp2_with fail
              refine DB.out.mono ?_
              rintro e w6 ⟨rfl, hD6⟩
              have D6 := Lib.hid hD6.tail
              clear hD6 DB D5 y0 y1 y2 y3 y4 y5
              go_wp2_with fail
              go_roundg (gk - 1)
              case measure => have := HG.out; omega
              case rel => exact ⟨k + 1, by go_num, by have := HG.out; omega, by omega, by rw [HNX.out]; exact D6⟩
            · have hD3 : Hid (DX H w W0 wr N a (remakeAll γ2 r.was) [(u, .cells #[.slice A1 n1 c1, .slice A2 n2 c2, .slice A3 n3 c3, .slice A4 n4 c4, .int .i64 er] 36)]) := by
                have := hD.out
                rwa [List.take_of_length_le (by have := LL.out.2.2.1; omega)] at this
              have hc : ¬ (k : Int) < (n3 : Int) := by omega
              clear hD hlt
              obtain ⟨w4, hw4⟩ : ∃ W, W = wr := ⟨_, rfl⟩
              rw [← hw4] at hD3 ⊢
              clear hw4
              obtain ⟨γ3, hγ3⟩ : ∃ x, x = remakeAll γ2 r.was := ⟨_, rfl⟩
              rw [← hγ3] at hD3
              have HΓ3 := Lib.hid hγ3
              clear hγ3
              obtain ⟨p0, p1, p2, p3, p4⟩ := rec_cells (hD3.out.at 0 rfl)
              go_wp2_with fail
              clear p0 p1 p2 p3 p4 hc
              go_loopg [62] (n1 + 1) (fun gk i wr => ∃ (k : Nat), i = .int .i64 (k : Int) ∧ gk + k = n1 + 1 ∧ k ≤ n1 ∧ Hid (DX H w W0 wr N a (tieAll γ3 (r.lost.take k)) [(u, .cells #[.slice A1 n1 c1, .slice A2 n2 c2, .slice A3 n3 c3, .slice A4 n4 c4, .int .i64 er] 36)]))
              case atStart => exact ⟨0, rfl, by omega, by omega, hD3⟩
              case round =>
                obtain ⟨k, rfl, hgk, hk, hD⟩ := hrel
                have HG := Lib.hid hgk
                clear hgk hD3
                by_cases hlt : k < n1
                · obtain ⟨gi, ofs, rfl, hg, hrow⟩ := (K1.out wr hD.out.same).row (by omega)
                  have lk : k < r.lost.length := by have := LL.out.1; omega
                  obtain ⟨e0, e1, e2, e3, e4⟩ := hrow k lk
                  have hnx := tieAll_next γ3 lk
                  have hnm := M1.out _ (List.getElem_mem lk)
                  obtain ⟨x, hx⟩ : ∃ x, r.lost[k] = x := ⟨_, rfl⟩
                  rw [hx] at e0 e1 e2 e3 e4 hnx hnm
                  have HNX := Lib.hid hnx
                  have DA := Lib.hid ((hD.out.alloc (.cells (entA x) 66) rfl).tie x.dir x.name x.ino hnm)
                  clear hrow hx hnx lk hnm
                  have hi0' : (0 : Int) ≤ (k : Int) := by omega
                  have hi1' : (k : Int) < (n1 : Int) := by omega
                  unfold entA at DA
                  go_wp2_with fail
                  refine DA.out.mono ?_
                  rintro e w5 ⟨rfl, hD5⟩
                  have D5 := Lib.hid hD5.tail
                  clear hD5 DA hD e0 e1 e2 e3 e4
                  go_wp2_with fail
                  go_roundg (gk - 1)
                  case measure => have := HG.out; omega
                  case rel => exact ⟨k + 1, by go_num, by have := HG.out; omega, by omega, by rw [HNX.out]; exact D5⟩
                · have hD4 : Hid (DX H w W0 wr N a (tieAll γ3 r.lost) [(u, .cells #[.slice A1 n1 c1, .slice A2 n2 c2, .slice A3 n3 c3, .slice A4 n4 c4, .int .i64 er] 36)]) := by
                    have := hD.out
                    rwa [List.take_of_length_le (by have := LL.out.1; omega)] at this
                  have hc : ¬ (k : Int) < (n1 : Int) := by omega
                  clear hD hlt
                  go_wp2_with fail
                  refine bodyPost_end (results_none rfl _ _ _) rfl ⟨rfl, ?_⟩
                  have := hD4.out.fin
                  rw [HΓ3.out, HΓ2.out, HΓ1.out] at this
                  exact this

end Go.Proofs.YthcmgaibbpacfaaGreatDoor

/-
  The code of package graph (as it landed): a graph in memory is a block of two maps; root, Get.
-/
namespace Go.Proofs.YthcmgaibbpacfaaGreatDoor
open Go.RowKit StampMath GraphMath

/-- A graph in memory. -/
def GIn (W : World) (S : Nat → Prop) (a : Addr) (g : Gr) : Prop :=
  ∃ b bi be, a = ⟨b, 0, none⟩ ∧ b ≠ bi ∧ b ≠ be ∧ bi ≠ be ∧ W.heap[b]? = some (.cells #[.map (some bi), .map (some be)] 96 (0, 0)) ∧
    KMap stV inoV W bi (pairsI g) ∧ KMap plV stV W be (pairsE g) ∧ ∀ i, S i ↔ i = b ∨ i = bi ∨ i = be

theorem GIn.lt {W : World} {S : Nat → Prop} {a : Addr} {g : Gr} (h : GIn W S a g) : ∀ i, S i → i < W.heap.size := by
  obtain ⟨b, bi, be, rfl, _, _, _, hb, hi, he, hS⟩ := h
  intro i hs
  rcases (hS i).1 hs with rfl | rfl | rfl
  · exact heap_lt hb
  · exact hi.lt
  · exact he.lt

theorem GIn.keep {W W' : World} {S : Nat → Prop} {a : Addr} {g : Gr} (h : GIn W S a g) (hk : ∀ i, S i → W'.heap[i]? = W.heap[i]?) : GIn W' S a g := by
  obtain ⟨b, bi, be, rfl, h1, h2, h3, hb, hi, he, hS⟩ := h
  exact ⟨b, bi, be, rfl, h1, h2, h3, (hk b ((hS b).2 (.inl rfl))).trans hb, hi.kept (hk bi ((hS bi).2 (.inr (.inl rfl)))), he.kept (hk be ((hS be).2 (.inr (.inr rfl)))), hS⟩

theorem zeroIno (w : World) : (zeroValue 70).run Tryz.prog w = .ok (inoV noIno) w := by kernel_rfl
theorem zeroSt (w : World) : (zeroValue 24).run Tryz.prog w = .ok (stV (0, 0)) w := by kernel_rfl

theorem root_any (w : World) : Calls Tryz.prog 48 #[] w fun e w' => e = .returned (.agg #[.int .i64 0, .int .i64 0]) ∧ Below w.heap.size w w' := by
  go_enter Tryz.func48, Tryz.ntmps48
  go_wp2_with fail
  obtain ⟨z0, z1⟩ := two_cells (heap_alloc_new w (.cells #[.int .i64 0, .int .i64 0] 24))
  exact bodyPost_ret (v := .agg #[.int .i64 0, .int .i64 0]) (by simp [results, Tryz.results48, go_sem, z0, z1]) rfl ⟨rfl, (Below.refl _ _).alloc (Nat.le_refl _) _⟩

set_option maxRecDepth 100000 in
theorem get_code (a : Addr) (S : Nat → Prop) (g : Gr) (id : St) (w : World) (h : GIn w S a g) (hg : g.ok) :
    Calls Tryz.prog 81 #[.pointer (some a), .agg (stA id)] w fun e w' => e = .returned (.tuple #[.agg (inoA ((getG g id).getD noIno)), .bool (getG g id).isSome]) ∧ Below w.heap.size w w' := by
  obtain ⟨b, bi, be, rfl, h1, h2, h3, hb, hi, he, hS⟩ := h
  obtain ⟨c0, c1⟩ := two_cells hb
  obtain ⟨ok, hok⟩ : ∃ ok, ok = (getG g id).isSome := ⟨_, rfl⟩
  obtain ⟨v, hv⟩ : ∃ v, v = (getG g id).getD noIno := ⟨_, rfl⟩
  rw [← hok, ← hv]
  have hlook : ∀ W : World, Hid (Below w.heap.size w W) → (Instr.lookup 93 (.map (some bi)) (.agg #[.int .i64 id.1, .int .i64 id.2]) true).run Tryz.prog W = .ok (.tuple #[.agg #[.int .i64 v.id.1, .int .i64 v.id.2, .int .i64 v.kind, .int .i64 v.links, .int .i64 v.mode, .string v.data], .bool ok]) W := fun W hW => by
    have hl := (hi.kept (hW.out.block bi hi.lt)).look stShape Tryz.underlying93 (zeroIno W) id true
    rw [look_pairsI hg, if_pos rfl, show ((getG g id).map inoV).getD (inoV noIno) = inoV v by rw [hv]; cases getG g id <;> rfl, ← hok] at hl
    exact hl
  have hlt := heap_lt hb
  have HL := Lib.hid hlook
  clear hi he hb hS hlook hok hv
  unfold stA
  go_enter Tryz.func81, Tryz.ntmps81
  go_wp2_with fail
  have hbW : Below w.heap.size w ((w.alloc (.cells #[.int .i64 id.1, .int .i64 id.2] 24)).alloc (.cells #[.int .i64 0, .int .i64 0, .int .i64 0, .int .i64 0, .int .i64 0, .string ⟨#[]⟩] 70)) := ((Below.refl _ _).alloc (Nat.le_refl _) _).alloc (by simp) _
  have hb1 := (hbW.alloc hbW.size (.cells #[.int .i64 0, .int .i64 0, .int .i64 0, .int .i64 0, .int .i64 0, .string ⟨#[]⟩] 70)).drew
  have d0 := (hb1.cell (p := ⟨b, 0, none⟩) hlt).trans c0
  have hl := HL.out _ hb1
  have c0w := (hbW.cell (p := ⟨b, 0, none⟩) hlt).trans c0
  have hl0 := HL.out _ hbW.drew
  have HB := Lib.hid hbW
  clear hbW hb1
  go_region
  all_goals clear d0 hl c0w hl0
  all_goals go_wp2_with fail
  all_goals exact bodyPost_ret (v := .tuple #[.agg (inoA v), .bool ok]) (by simp [results, Tryz.results81, go_sem, inoA]) rfl ⟨rfl, by
    repeat (first | exact Below.refl _ _ | apply Below.drew | refine Below.alloc ?_ (by simp <;> omega) _)⟩

end Go.Proofs.YthcmgaibbpacfaaGreatDoor

/-
  A slice of pairs of integers (structs of two integer fields) that is only read. It needs no program.
-/
namespace Go.Proofs.YthcmgaibbpacfaaGreatDoor
open Go.RowKit

/-- Both cells of a box written. -/
theorem box_set {w : World} {g : Nat} {a b c d : Value} {t : TypeId} (h : w.heap[g]? = some (.cells #[a, b] t (0, 0))) :
    ((w.setCell ⟨g, 0, none⟩ c).setCell ⟨g, 1, none⟩ d).heap[g]? = some (.cells #[c, d] t (0, 0)) := by
  rw [heap_setCell_same _ _ _ _ _ _ (heap_setCell_same _ _ _ _ _ _ h)]
  rfl

/-- The slice with address A and length n reads as the pairs xs, and lies below block B. -/
def PairsIn (W : World) (B : Nat) (A : Option Addr) (n : Nat) (xs : List (Int × Int)) : Prop :=
  xs.length = n ∧ (0 < n → ∃ g o, A = some ⟨g, o, none⟩ ∧ g < B ∧
    ∀ j (h : j < xs.length), W.cell? ⟨g, o + j * 2, none⟩ = some (.int .i64 xs[j].1) ∧ W.cell? ⟨g, o + j * 2 + 1, none⟩ = some (.int .i64 xs[j].2))

theorem PairsIn.below {W W' : World} {B : Nat} {A : Option Addr} {n : Nat} {xs : List (Int × Int)} (h : PairsIn W B A n xs) (hb : Below B W W') : PairsIn W' B A n xs :=
  ⟨h.1, fun hn => by
    obtain ⟨g, o, e, hg, hc⟩ := h.2 hn
    exact ⟨g, o, e, hg, fun j hj => ⟨(hb.cell (p := ⟨g, o + j * 2, none⟩) hg).trans (hc j hj).1, (hb.cell (p := ⟨g, o + j * 2 + 1, none⟩) hg).trans (hc j hj).2⟩⟩⟩

theorem PairsIn.more {W : World} {B B' : Nat} {A : Option Addr} {n : Nat} {xs : List (Int × Int)} (h : PairsIn W B A n xs) (hB : B ≤ B') : PairsIn W B' A n xs :=
  ⟨h.1, fun hn => by
    obtain ⟨g, o, e, hg, hc⟩ := h.2 hn
    exact ⟨g, o, e, by omega, hc⟩⟩

end Go.Proofs.YthcmgaibbpacfaaGreatDoor

/-
  The walks of package cmp's functions and of stamp's Compare, with what they leave: the world, so many draws on and so many blocks more.
-/
namespace Go.Proofs.YthcmgaibbpacfaaGreatDoor
open Go.RowKit StampMath

theorem nan64 (t : Int) (w : World) : Calls Tryz.prog 113 #[.int .i64 t] w fun e w' => e = .returned (.bool false) ∧ w = w' := by
  go_enter Tryz.func113, Tryz.ntmps113
  go_wp2_with fail
  go_ret
  exact ⟨by simp, rfl⟩

theorem nanInt (t : Int) (w : World) : Calls Tryz.prog 114 #[.int .i64 t] w fun e w' => e = .returned (.bool false) ∧ w = w' := by
  go_enter Tryz.func114, Tryz.ntmps114
  go_wp2_with fail
  go_ret
  exact ⟨by simp, rfl⟩

theorem cell_alloc {W : World} {o : Obj} {a : Addr} {v : Value} (h : W.cell? a = some v) : (W.alloc o).cell? a = some v :=
  (World.cell?_alloc_lt W o a (World.block_lt_of_cell? _ _ h)).trans h

theorem kept_alloc4 {w W : World} {a b c d : Addr} {u v x y : Value} (o : Obj) (h : (W.cell? a = some u ∧ W.cell? b = some v ∧ W.cell? c = some x ∧ W.cell? d = some y) ∧ KeptFrom w W) :
    ((W.alloc o).cell? a = some u ∧ (W.alloc o).cell? b = some v ∧ (W.alloc o).cell? c = some x ∧ (W.alloc o).cell? d = some y) ∧ KeptFrom w (W.alloc o) :=
  ⟨⟨cell_alloc h.1.1, cell_alloc h.1.2.1, cell_alloc h.1.2.2.1, cell_alloc h.1.2.2.2⟩, (kept_below h.2).alloc (kept_below h.2).size o⟩

theorem cell_third (w : World) (o1 o2 : Obj) (a b : Value) (T : TypeId) :
    (((w.alloc o1).alloc o2).alloc (.cells #[a, b] T)).drew.cell? ⟨w.heap.size + 1 + 1, 0, none⟩ = some a ∧ (((w.alloc o1).alloc o2).alloc (.cells #[a, b] T)).drew.cell? ⟨w.heap.size + 1 + 1, 1, none⟩ = some b := by
  have h := heap_alloc_new ((w.alloc o1).alloc o2) (.cells #[a, b] T)
  have e : ((w.alloc o1).alloc o2).heap.size = w.heap.size + 1 + 1 := by simp
  rw [e] at h
  exact ⟨cell_of_row _ _ 0 _ _ (0, 0) h, cell_of_row _ _ 1 _ _ (0, 0) h⟩

/-- Which of two numbers is first. -/
def cmp1 (x y : Int) : Int := if x < y then -1 else if y < x then 1 else 0

set_option maxHeartbeats 400000 in
theorem compare64 (x y : Int) (w : World) : Calls Tryz.prog 89 #[.int .i64 x, .int .i64 y] w fun e w' => e = .returned (.int .i64 (cmp1 x y)) ∧ w = w' := by
  have hcase : (x < y ∧ cmp1 x y = -1) ∨ (¬ x < y ∧ y < x ∧ cmp1 x y = 1) ∨ (¬ x < y ∧ ¬ y < x ∧ cmp1 x y = 0) := by
    unfold cmp1
    by_cases h1 : x < y
    · exact Or.inl ⟨h1, by rw [if_pos h1]⟩
    · by_cases h2 : y < x
      · exact Or.inr (Or.inl ⟨h1, h2, by rw [if_neg h1, if_pos h2]⟩)
      · exact Or.inr (Or.inr ⟨h1, h2, by rw [if_neg h1, if_neg h2]⟩)
  rcases hcase with ⟨h1, h⟩ | ⟨h1, h2, h⟩ | ⟨h1, h2, h⟩
  all_goals
    rw [h]
    clear h
    go_enter Tryz.func89, Tryz.ntmps89
    go_wp2_with fail
    refine (nan64 _ _).mono ?_
    rintro e w' ⟨rfl, rfl⟩
    go_wp2_with fail
    refine (nan64 _ _).mono ?_
    rintro e w' ⟨rfl, rfl⟩
    go_wp2_with fail
    go_ret
    exact ⟨rfl, rfl⟩

set_option maxHeartbeats 400000 in
theorem compareInt (x y : Int) (w : World) : Calls Tryz.prog 90 #[.int .i64 x, .int .i64 y] w fun e w' => e = .returned (.int .i64 (cmp1 x y)) ∧ w = w' := by
  have hcase : (x < y ∧ cmp1 x y = -1) ∨ (¬ x < y ∧ y < x ∧ cmp1 x y = 1) ∨ (¬ x < y ∧ ¬ y < x ∧ cmp1 x y = 0) := by
    unfold cmp1
    by_cases h1 : x < y
    · exact Or.inl ⟨h1, by rw [if_pos h1]⟩
    · by_cases h2 : y < x
      · exact Or.inr (Or.inl ⟨h1, h2, by rw [if_neg h1, if_pos h2]⟩)
      · exact Or.inr (Or.inr ⟨h1, h2, by rw [if_neg h1, if_neg h2]⟩)
  rcases hcase with ⟨h1, h⟩ | ⟨h1, h2, h⟩ | ⟨h1, h2, h⟩
  all_goals
    rw [h]
    clear h
    go_enter Tryz.func90, Tryz.ntmps90
    go_wp2_with fail
    refine (nanInt _ _).mono ?_
    rintro e w' ⟨rfl, rfl⟩
    go_wp2_with fail
    refine (nanInt _ _).mono ?_
    rintro e w' ⟨rfl, rfl⟩
    go_wp2_with fail
    go_ret
    exact ⟨rfl, rfl⟩

/-- The first of two numbers that is not zero. -/
def or2 (a b : Int) : Int := if a = 0 then b else a

theorem or2_cmp (t r t' r' : Int) : or2 (cmp1 t t') (cmp1 r r') = cmp t r t' r' := by
  have h := cmp_cases t r t' r'
  unfold or2 cmp1
  split <;> split <;> (try split) <;> (try split) <;> omega

set_option maxHeartbeats 400000 in
theorem or_any (g : Nat) (a b : Int) (W : World) (h0 : W.cell? ⟨g, 0, none⟩ = some (.int .i64 a)) (h1 : W.cell? ⟨g, 1, none⟩ = some (.int .i64 b)) :
    Calls Tryz.prog 88 #[.slice (some ⟨g, 0, none⟩) 2 2] W fun e w' => e = .returned (.int .i64 (or2 a b)) ∧ W = w' := by
  go_enter Tryz.func88, Tryz.ntmps88
  go_wp2_with fail
  go_loop [8] (fun i => ∃ k : Nat, i = .int .i64 (k : Int) ∧ k ≤ 2 ∧ (0 < k → a = 0) ∧ (1 < k → b = 0)) (fun i => 2 - (intOf i).toNat)
  case atStart => exact ⟨0, rfl, by omega, by omega, by omega⟩
  case round =>
    obtain ⟨k, rfl, hk, ha, hb⟩ := hrel
    have HA := Lib.hid ha
    have HB := Lib.hid hb
    clear ha hb
    have hk3 : k = 0 ∨ k = 1 ∨ k = 2 := by omega
    clear hk
    rcases hk3 with rfl | rfl | rfl
    · by_cases hz : a = 0
      · have hz' : (a == 0) = true := by simp [hz]
        have HZ := Lib.hid hz
        clear hz
        go_wp2_with fail
        exact ⟨⟨1, by go_num, by omega, fun _ => HZ.out, by omega⟩, by simp [intOf]⟩
      · have hz' : (a == 0) = false := by simp [hz]
        have HZ := Lib.hid hz
        clear hz
        go_wp2_with fail
        go_ret
        exact ⟨by rw [or2, if_neg HZ.out]; rfl, rfl⟩
    · by_cases hz : b = 0
      · have hz' : (b == 0) = true := by simp [hz]
        have HZ := Lib.hid hz
        clear hz
        go_wp2_with fail
        exact ⟨⟨2, by go_num, by omega, fun _ => HA.out (by omega), fun _ => HZ.out⟩, by simp [intOf]⟩
      · have hz' : (b == 0) = false := by simp [hz]
        have HZ := Lib.hid hz
        clear hz
        go_wp2_with fail
        go_ret
        exact ⟨by rw [or2, if_pos (HA.out (by omega))]; rfl, rfl⟩
    · go_wp2_with fail
      go_ret
      exact ⟨by rw [or2, if_pos (HA.out (by omega)), HB.out (by omega)]; rfl, rfl⟩

/-- All that was there is as it was; draws and blocks have come. -/
def Grown (w W : World) : Prop := Below w.heap.size w W ∧ w.drawn ≤ W.drawn

theorem Grown.refl (w : World) : Grown w w := ⟨Below.refl _ _, Nat.le_refl _⟩
theorem Grown.alloc {w W : World} (h : Grown w W) (o : Obj) : Grown w (W.alloc o) := ⟨(kept_below h.1).alloc h.1.size o, h.2⟩
theorem Grown.drew {w W : World} (h : Grown w W) : Grown w W.drew := ⟨h.1.drew, Nat.le_trans h.2 (Nat.le_succ _)⟩
theorem Grown.trans {a b c : World} (h : Grown a b) (k : Grown b c) : Grown a c := ⟨below_step h.1 k.1, Nat.le_trans h.2 k.2⟩

theorem Grown.grow {w W : World} (h : Grown w W) : ∃ q os, W = Sort.grow (w.drewN q) os := by
  obtain ⟨hb, hd⟩ := h
  refine ⟨W.drawn - w.drawn, W.heap.extract w.heap.size W.heap.size, ?_⟩
  have hh : W.heap = w.heap ++ W.heap.extract w.heap.size W.heap.size := by
    apply Array.ext_getElem?
    intro i
    have hs := hb.size
    by_cases hi : i < w.heap.size
    · rw [hb.block i hi, Array.getElem?_append_left hi]
    · rw [Array.getElem?_append_right (by omega)]
      simp only [Array.getElem?_extract]
      by_cases hi2 : i < W.heap.size
      · rw [if_pos (by omega), show w.heap.size + (i - w.heap.size) = i by omega]
      · rw [if_neg (by omega), Array.getElem?_eq_none (by omega)]
  have e1 := hb.os
  have e2 := hb.tape
  have e3 := hb.output
  obtain ⟨H, T, D, O, U⟩ := W
  obtain ⟨H', T', D', O', U'⟩ := w
  simp only at hh e1 e2 e3 hd
  subst e1 e2 e3
  have e4 : D' + (D - D') = D := by omega
  unfold Sort.grow World.drewN
  simp only [World.mk.injEq, true_and, and_true]
  exact ⟨hh, e4.symm⟩

theorem grown_alloc4 {w W : World} {a b c d : Addr} {u v x y : Value} (o : Obj) (h : (W.cell? a = some u ∧ W.cell? b = some v ∧ W.cell? c = some x ∧ W.cell? d = some y) ∧ Grown w W) :
    ((W.alloc o).cell? a = some u ∧ (W.alloc o).cell? b = some v ∧ (W.alloc o).cell? c = some x ∧ (W.alloc o).cell? d = some y) ∧ Grown w (W.alloc o) :=
  ⟨⟨cell_alloc h.1.1, cell_alloc h.1.2.1, cell_alloc h.1.2.2.1, cell_alloc h.1.2.2.2⟩, h.2.alloc o⟩

set_option maxHeartbeats 800000 in
theorem compare_grown (t r t' r' : Int) (w : World) :
    Calls Tryz.prog 59 #[.agg #[.int .i64 t, .int .i64 r], .agg #[.int .i64 t', .int .i64 r']] w fun e w' => e = .returned (.int .i64 (cmp t r t' r')) ∧ Grown w w' := by
  have hv := or2_cmp t r t' r'
  obtain ⟨x, hx⟩ : ∃ x, x = cmp1 t t' := ⟨_, rfl⟩
  obtain ⟨y, hy⟩ : ∃ y, y = cmp1 r r' := ⟨_, rfl⟩
  have H1 : Hid (∀ W : World, Calls Tryz.prog 89 #[.int .i64 t, .int .i64 t'] W fun e w' => e = .returned (.int .i64 x) ∧ W = w') := fun W => by rw [hx]; exact compare64 _ _ W
  have H2 : Hid (∀ W : World, Calls Tryz.prog 90 #[.int .i64 r, .int .i64 r'] W fun e w' => e = .returned (.int .i64 y) ∧ W = w') := fun W => by rw [hy]; exact compareInt _ _ W
  rw [← hx, ← hy] at hv
  have HV := Lib.hid hv
  clear hv hx hy
  go_enter Tryz.func59, Tryz.ntmps59
  go_wp2_with fail
  have hS0 : (((w.alloc (.cells #[.int .i64 t, .int .i64 r] 24)).alloc (.cells #[.int .i64 t', .int .i64 r'] 24)).drew.cell? ⟨w.heap.size, 0, none⟩ = some (.int .i64 t) ∧ ((w.alloc (.cells #[.int .i64 t, .int .i64 r] 24)).alloc (.cells #[.int .i64 t', .int .i64 r'] 24)).drew.cell? ⟨w.heap.size, 1, none⟩ = some (.int .i64 r) ∧ ((w.alloc (.cells #[.int .i64 t, .int .i64 r] 24)).alloc (.cells #[.int .i64 t', .int .i64 r'] 24)).drew.cell? ⟨w.heap.size + 1, 0, none⟩ = some (.int .i64 t') ∧ ((w.alloc (.cells #[.int .i64 t, .int .i64 r] 24)).alloc (.cells #[.int .i64 t', .int .i64 r'] 24)).drew.cell? ⟨w.heap.size + 1, 1, none⟩ = some (.int .i64 r')) ∧ Grown w ((w.alloc (.cells #[.int .i64 t, .int .i64 r] 24)).alloc (.cells #[.int .i64 t', .int .i64 r'] 24)).drew := by
    refine ⟨⟨?_, ?_, ?_, ?_⟩, (((Grown.refl _).alloc _).alloc _).drew⟩
    · exact cell_of_row _ _ 0 _ _ (0, 0) (heap_alloc2_old w _ _)
    · exact cell_of_row _ _ 1 _ _ (0, 0) (heap_alloc2_old w _ _)
    · exact cell_of_row _ _ 0 _ _ (0, 0) (heap_alloc2_new w _ _)
    · exact cell_of_row _ _ 1 _ _ (0, 0) (heap_alloc2_new w _ _)
  go_region_held3 (fun W => (W.cell? ⟨w.heap.size, 0, none⟩ = some (.int .i64 t) ∧ W.cell? ⟨w.heap.size, 1, none⟩ = some (.int .i64 r) ∧ W.cell? ⟨w.heap.size + 1, 0, none⟩ = some (.int .i64 t') ∧ W.cell? ⟨w.heap.size + 1, 1, none⟩ = some (.int .i64 r')) ∧ Grown w W) (first | assumption | exact grown_alloc4 _ (by assumption) | (refine ⟨⟨?_, ?_, ?_, ?_⟩, ?_⟩ <;> assumption))
    (first
      | (go_at_call 89; (with_reducible refine (H1.out _).mono ?_); rintro e w' ⟨rfl, rfl⟩; have hS := hS0)
      | (go_at_call 90; (with_reducible refine (H2.out _).mono ?_); rintro e w' ⟨rfl, rfl⟩; have hS := hS0)
      | (go_at_call 88; refine (or_any _ x y _ ?_ ?_).mono ?_; exact (cell_third w _ _ _ _ _).1; exact (cell_third w _ _ _ _ _).2; rintro e w' ⟨rfl, rfl⟩; have hS := ‹(_ ∧ _ ∧ _ ∧ _) ∧ Grown w _›))
  have hB := (show Grown w _ from And.right ‹(_ ∧ _ ∧ _ ∧ _) ∧ Grown w _›)
  clear hS0
  go_wp2_with fail
  go_ret
  exact ⟨by rw [← HV.out]; rfl, hB⟩

end Go.Proofs.YthcmgaibbpacfaaGreatDoor

/-
  The order of entries and of inodes as a sort's own: it needs no program.
-/
namespace Go.Proofs.YthcmgaibbpacfaaGreatDoor.GraphMath
open StampMath

instance entThere : Inhabited Ent := ⟨⟨(0, 0), ⟨#[]⟩, (0, 0)⟩⟩
instance inoThere : Inhabited Ino := ⟨noIno⟩

theorem sorted_only {α : Type} {r : α → α → Bool} (irr : ∀ x, r x x = false) (tr : ∀ x y z, r x y = true → r y z = true → r x z = true) {l E : List α} (hE : E.Pairwise fun a b => r a b = true) (hp : l.Perm E) (hs : l.Pairwise fun x y => r y x = false) : l = E := by
  have asym : ∀ x y, r x y = true → r y x = false := fun x y h => by
    cases hq : r y x with
    | false => rfl
    | true => have := tr x y x h hq; rw [irr] at this; cases this
  refine List.Perm.eq_of_pairwise (le := fun x y => r y x = false) (fun a b ha hb h1 h2 => ?_) hs (hE.imp fun h => asym _ _ h) hp
  have all : ∀ x ∈ E, ∀ y ∈ E, x = y ∨ r x y = true ∨ r y x = true := by
    intro x hx y hy
    obtain ⟨i, hi, rfl⟩ := List.getElem_of_mem hx
    obtain ⟨j, hj, rfl⟩ := List.getElem_of_mem hy
    have q := List.pairwise_iff_getElem.1 hE
    rcases Nat.lt_trichotomy i j with h | h | h
    · exact Or.inr (Or.inl (q i j hi hj h))
    · subst h; exact Or.inl rfl
    · exact Or.inr (Or.inr (q j i hj hi h))
  rcases all a (hp.mem_iff.1 ha) b hb with h | h | h
  · exact h
  · rw [h] at h2; cases h2
  · rw [h] at h1; cases h1

theorem bytesLess_eq : ∀ (x y : List UInt8), Op.bytesLess x y = decide (x < y)
  | [], [] => by simp [Op.bytesLess]
  | _ :: _, [] => by simp [Op.bytesLess]
  | [], _ :: _ => by simp [Op.bytesLess]
  | a :: x, b :: y => by
    rw [Op.bytesLess, bytesLess_eq x y]
    simp only [List.cons_lt_cons_iff]
    by_cases h1 : a < b <;> by_cases h2 : a = b <;> by_cases h3 : x < y <;> simp [h1, h2, h3]

theorem namesLess_eq (a b : ByteArray) : Op.bytesLess a.toList b.toList = decide (a.data.toList < b.data.toList) := by
  rw [bytesLess_eq, ByteArray.toList_eq, ByteArray.toList_eq]

/-- What package cmp's Compare tells of two strings. -/
def cmpB (a b : List UInt8) : Int := if a < b then -1 else if a = b then 0 else 1

theorem cmpB_lt (a b : List UInt8) : cmpB a b < 0 ↔ a < b := by
  unfold cmpB
  by_cases h : a < b
  · simp [h]
  · rw [if_neg h]
    by_cases h2 : a = b <;> simp [h, h2]

/-- What comparing two entries tells. -/
def aheadI (x y : Ent) : Int := if cmp x.dir.1 x.dir.2 y.dir.1 y.dir.2 = 0 then cmpB x.name.data.toList y.name.data.toList else cmp x.dir.1 x.dir.2 y.dir.1 y.dir.2

theorem cmp_lt (a b : St) : cmp a.1 a.2 b.1 b.2 < 0 ↔ lessS a b = true := by
  show (if lessS a b = true then (-1 : Int) else if lessS b a = true then 1 else 0) < 0 ↔ _
  by_cases h : lessS a b = true
  · simp [h]
  · rw [if_neg h]
    by_cases h2 : lessS b a = true <;> simp [h, h2]

theorem cmp_zero (a b : St) : cmp a.1 a.2 b.1 b.2 = 0 ↔ a = b := by
  show (if lessS a b = true then (-1 : Int) else if lessS b a = true then 1 else 0) = 0 ↔ _
  constructor
  · intro h
    by_cases h1 : lessS a b = true
    · rw [if_pos h1] at h; omega
    · rw [if_neg h1] at h
      by_cases h2 : lessS b a = true
      · rw [if_pos h2] at h; omega
      · by_cases he : a = b
        · exact he
        · exact absurd (lessS_total (Bool.eq_false_iff.2 h1) he) h2
  · rintro rfl
    rw [if_neg (by rw [lessS_irrefl]; simp), if_neg (by rw [lessS_irrefl]; simp)]

theorem aheadI_lt (x y : Ent) : ltOf aheadI x y = aheadE x y := by
  unfold ltOf aheadI
  rw [Bool.eq_iff_iff, decide_eq_true_iff, aheadE_iff]
  by_cases h : x.dir = y.dir
  · rw [if_pos ((cmp_zero _ _).2 h), cmpB_lt, h, lessS_irrefl]
    simp
  · rw [if_neg (fun q => h ((cmp_zero _ _).1 q)), cmp_lt]
    simp [h]

theorem aheadE_irrefl (x : Ent) : aheadE x x = false := by
  rw [Bool.eq_false_iff]
  intro h
  rcases (aheadE_iff x x).1 h with q | ⟨_, q⟩
  · rw [lessS_irrefl] at q; cases q
  · exact bytes_irrefl _ q

theorem aheadE_ntrans {x y z : Ent} (h1 : aheadE x y = false) (h2 : aheadE y z = false) : aheadE x z = false := by
  rw [Bool.eq_false_iff]
  intro h
  by_cases he : x.dir = y.dir ∧ x.name = y.name
  · rw [aheadE_iff, he.1, he.2, ← aheadE_iff, h2] at h
    cases h
  · have := aheadE_trans (aheadE_total h1 he) h
    rw [h2] at this
    cases this

theorem swo_ents : Sort.SWO (ltOf aheadI) where
  irrefl x := by rw [aheadI_lt]; exact aheadE_irrefl x
  trans x y z h1 h2 := by rw [aheadI_lt] at *; exact aheadE_trans h1 h2
  ntrans x y z h1 h2 := by rw [aheadI_lt] at *; exact aheadE_ntrans h1 h2

/-- What comparing two inodes tells. -/
def inoI (x y : Ino) : Int := cmp x.id.1 x.id.2 y.id.1 y.id.2

theorem inoI_lt (x y : Ino) : ltOf inoI x y = lessS x.id y.id := by
  unfold ltOf inoI
  rw [Bool.eq_iff_iff, decide_eq_true_iff, cmp_lt]

theorem swo_inos : Sort.SWO (ltOf inoI) where
  irrefl x := by rw [inoI_lt]; exact lessS_irrefl _
  trans x y z h1 h2 := by rw [inoI_lt] at *; exact lessS_trans h1 h2
  ntrans x y z h1 h2 := by
    rw [inoI_lt] at *
    rw [Bool.eq_false_iff]
    intro h
    by_cases he : x.id = y.id
    · rw [he, h2] at h; cases h
    · have := lessS_trans (lessS_total h1 he) h
      rw [h2] at this; cases this

theorem sorted_ents {l E : List Ent} (hE : E.Pairwise fun a b => aheadE a b = true) (hp : l.Perm E) (hs : l.Pairwise fun x y => ltOf aheadI y x = false) : l = E :=
  sorted_only aheadE_irrefl (fun _ _ _ => aheadE_trans) hE hp (hs.imp fun h => by rwa [aheadI_lt] at h)

theorem sorted_inos {l I : List Ino} (hI : I.Pairwise fun a b => lessS a.id b.id = true) (hp : l.Perm I) (hs : l.Pairwise fun x y => ltOf inoI y x = false) : l = I :=
  sorted_only (r := fun a b => lessS a.id b.id) (fun _ => lessS_irrefl _) (fun _ _ _ => lessS_trans) hI hp (hs.imp fun h => by rwa [inoI_lt] at h)

end Go.Proofs.YthcmgaibbpacfaaGreatDoor.GraphMath

/-
  The walks of package cmp's functions at strings; cells that are kept beside them.
-/
namespace Go.Proofs.YthcmgaibbpacfaaGreatDoor
open Go.RowKit StampMath GraphMath

theorem nanStr (s : ByteArray) (w : World) : Calls Tryz.prog 152 #[.string s] w fun e w' => e = .returned (.bool false) ∧ w = w' := by
  go_enter Tryz.func152, Tryz.ntmps152
  go_wp2_with fail
  go_ret
  exact ⟨by simp, rfl⟩

set_option maxHeartbeats 400000 in
theorem compareStr (x y : ByteArray) (w : World) : Calls Tryz.prog 116 #[.string x, .string y] w fun e w' => e = .returned (.int .i64 (cmpB x.data.toList y.data.toList)) ∧ w = w' := by
  have hcase : (Op.bytesLess x.toList y.toList = true ∧ cmpB x.data.toList y.data.toList = -1) ∨ (Op.bytesLess x.toList y.toList = false ∧ (x.toList == y.toList) = true ∧ cmpB x.data.toList y.data.toList = 0) ∨ (Op.bytesLess x.toList y.toList = false ∧ (x.toList == y.toList) = false ∧ cmpB x.data.toList y.data.toList = 1) := by
    rw [namesLess_eq, ByteArray.toList_eq, ByteArray.toList_eq]
    unfold cmpB
    by_cases h1 : x.data.toList < y.data.toList
    · exact Or.inl ⟨decide_eq_true h1, by rw [if_pos h1]⟩
    · by_cases h2 : x.data.toList = y.data.toList
      · exact Or.inr (Or.inl ⟨decide_eq_false h1, beq_iff_eq.2 h2, by rw [if_neg h1, if_pos h2]⟩)
      · exact Or.inr (Or.inr ⟨decide_eq_false h1, beq_eq_false_iff_ne.2 h2, by rw [if_neg h1, if_neg h2]⟩)
  rcases hcase with ⟨h1, h⟩ | ⟨h1, h2, h⟩ | ⟨h1, h2, h⟩
  all_goals
    rw [h]
    clear h
    go_enter Tryz.func116, Tryz.ntmps116
    go_wp2_with fail
    refine (nanStr _ _).mono ?_
    rintro e w' ⟨rfl, rfl⟩
    go_wp2_with fail
    refine (nanStr _ _).mono ?_
    rintro e w' ⟨rfl, rfl⟩
    go_wp2_with fail
    go_ret
    exact ⟨rfl, rfl⟩

theorem cells6_alloc {w W : World} {a b c d a' b' : Addr} {u v x y z t : Value} (o : Obj) (h : (W.cell? a = some u ∧ W.cell? b = some v ∧ W.cell? c = some x ∧ W.cell? d = some y ∧ W.cell? a' = some z ∧ W.cell? b' = some t) ∧ Grown w W) :
    ((W.alloc o).cell? a = some u ∧ (W.alloc o).cell? b = some v ∧ (W.alloc o).cell? c = some x ∧ (W.alloc o).cell? d = some y ∧ (W.alloc o).cell? a' = some z ∧ (W.alloc o).cell? b' = some t) ∧ Grown w (W.alloc o) :=
  ⟨⟨cell_alloc h.1.1, cell_alloc h.1.2.1, cell_alloc h.1.2.2.1, cell_alloc h.1.2.2.2.1, cell_alloc h.1.2.2.2.2.1, cell_alloc h.1.2.2.2.2.2⟩, h.2.alloc o⟩

theorem cells6_later {w W W' : World} {a b c d a' b' : Addr} {u v x y z t : Value} (hg : Grown W W') (h : (W.cell? a = some u ∧ W.cell? b = some v ∧ W.cell? c = some x ∧ W.cell? d = some y ∧ W.cell? a' = some z ∧ W.cell? b' = some t) ∧ Grown w W) :
    (W'.cell? a = some u ∧ W'.cell? b = some v ∧ W'.cell? c = some x ∧ W'.cell? d = some y ∧ W'.cell? a' = some z ∧ W'.cell? b' = some t) ∧ Grown w W' :=
  ⟨⟨cell_later hg.1 h.1.1, cell_later hg.1 h.1.2.1, cell_later hg.1 h.1.2.2.1, cell_later hg.1 h.1.2.2.2.1, cell_later hg.1 h.1.2.2.2.2.1, cell_later hg.1 h.1.2.2.2.2.2⟩, h.2.trans hg⟩

theorem cell_two (w : World) (a b : Value) (T : TypeId) :
    (w.alloc (.cells #[a, b] T)).cell? ⟨w.heap.size, 0, none⟩ = some a ∧ (w.alloc (.cells #[a, b] T)).cell? ⟨w.heap.size, 1, none⟩ = some b :=
  ⟨cell_of_row _ _ 0 _ _ (0, 0) (heap_alloc_new w _), cell_of_row _ _ 1 _ _ (0, 0) (heap_alloc_new w _)⟩

end Go.Proofs.YthcmgaibbpacfaaGreatDoor

/-
  The walk of the landed order of entries, with what it leaves.
-/
namespace Go.Proofs.YthcmgaibbpacfaaGreatDoor
open Go.RowKit StampMath GraphMath

set_option maxRecDepth 100000 in
set_option maxHeartbeats 1600000 in
theorem ahead_grown (x y : Ent) (w : World) :
    Calls Tryz.prog 92 #[.agg (entA x), .agg (entA y)] w fun e w' => e = .returned (.int .i64 (aheadI x y)) ∧ Grown w w' := by
  have hv : or2 (cmp x.dir.1 x.dir.2 y.dir.1 y.dir.2) (cmpB x.name.data.toList y.name.data.toList) = aheadI x y := rfl
  obtain ⟨⟨xd1, xd2⟩, xn, ⟨xi1, xi2⟩⟩ := x
  obtain ⟨⟨yd1, yd2⟩, yn, ⟨yi1, yi2⟩⟩ := y
  unfold entA
  obtain ⟨c, hc⟩ : ∃ c, c = cmp xd1 xd2 yd1 yd2 := ⟨_, rfl⟩
  obtain ⟨k, hk⟩ : ∃ k, k = cmpB xn.data.toList yn.data.toList := ⟨_, rfl⟩
  simp only [← hc, ← hk] at hv
  have HC : Hid (∀ W : World, Calls Tryz.prog 59 #[.agg #[.int .i64 xd1, .int .i64 xd2], .agg #[.int .i64 yd1, .int .i64 yd2]] W fun e w' => e = .returned (.int .i64 c) ∧ Grown W w') := fun W => by rw [hc]; exact compare_grown _ _ _ _ W
  have HK : Hid (∀ W : World, Calls Tryz.prog 116 #[.string xn, .string yn] W fun e w' => e = .returned (.int .i64 k) ∧ W = w') := fun W => by rw [hk]; exact compareStr _ _ W
  have HV := Lib.hid hv
  clear hv hc hk
  go_enter Tryz.func92, Tryz.ntmps92
  go_wp2_with fail
  have hS0 : (((w.alloc (.cells #[.int .i64 xd1, .int .i64 xd2, .string xn, .int .i64 xi1, .int .i64 xi2] 66)).alloc (.cells #[.int .i64 yd1, .int .i64 yd2, .string yn, .int .i64 yi1, .int .i64 yi2] 66)).drew.cell? ⟨w.heap.size, 0, none⟩ = some (.int .i64 xd1) ∧ ((w.alloc (.cells #[.int .i64 xd1, .int .i64 xd2, .string xn, .int .i64 xi1, .int .i64 xi2] 66)).alloc (.cells #[.int .i64 yd1, .int .i64 yd2, .string yn, .int .i64 yi1, .int .i64 yi2] 66)).drew.cell? ⟨w.heap.size, 1, none⟩ = some (.int .i64 xd2) ∧ ((w.alloc (.cells #[.int .i64 xd1, .int .i64 xd2, .string xn, .int .i64 xi1, .int .i64 xi2] 66)).alloc (.cells #[.int .i64 yd1, .int .i64 yd2, .string yn, .int .i64 yi1, .int .i64 yi2] 66)).drew.cell? ⟨w.heap.size, 2, none⟩ = some (.string xn) ∧ ((w.alloc (.cells #[.int .i64 xd1, .int .i64 xd2, .string xn, .int .i64 xi1, .int .i64 xi2] 66)).alloc (.cells #[.int .i64 yd1, .int .i64 yd2, .string yn, .int .i64 yi1, .int .i64 yi2] 66)).drew.cell? ⟨w.heap.size + 1, 0, none⟩ = some (.int .i64 yd1) ∧ ((w.alloc (.cells #[.int .i64 xd1, .int .i64 xd2, .string xn, .int .i64 xi1, .int .i64 xi2] 66)).alloc (.cells #[.int .i64 yd1, .int .i64 yd2, .string yn, .int .i64 yi1, .int .i64 yi2] 66)).drew.cell? ⟨w.heap.size + 1, 1, none⟩ = some (.int .i64 yd2) ∧ ((w.alloc (.cells #[.int .i64 xd1, .int .i64 xd2, .string xn, .int .i64 xi1, .int .i64 xi2] 66)).alloc (.cells #[.int .i64 yd1, .int .i64 yd2, .string yn, .int .i64 yi1, .int .i64 yi2] 66)).drew.cell? ⟨w.heap.size + 1, 2, none⟩ = some (.string yn)) ∧ Grown w ((w.alloc (.cells #[.int .i64 xd1, .int .i64 xd2, .string xn, .int .i64 xi1, .int .i64 xi2] 66)).alloc (.cells #[.int .i64 yd1, .int .i64 yd2, .string yn, .int .i64 yi1, .int .i64 yi2] 66)).drew := by
    refine ⟨⟨?_, ?_, ?_, ?_, ?_, ?_⟩, (((Grown.refl _).alloc _).alloc _).drew⟩
    · exact cell_of_row _ _ 0 _ _ (0, 0) (heap_alloc2_old w _ _)
    · exact cell_of_row _ _ 1 _ _ (0, 0) (heap_alloc2_old w _ _)
    · exact cell_of_row _ _ 2 _ _ (0, 0) (heap_alloc2_old w _ _)
    · exact cell_of_row _ _ 0 _ _ (0, 0) (heap_alloc2_new w _ _)
    · exact cell_of_row _ _ 1 _ _ (0, 0) (heap_alloc2_new w _ _)
    · exact cell_of_row _ _ 2 _ _ (0, 0) (heap_alloc2_new w _ _)
  go_region_held3 (fun W => (W.cell? ⟨w.heap.size, 0, none⟩ = some (.int .i64 xd1) ∧ W.cell? ⟨w.heap.size, 1, none⟩ = some (.int .i64 xd2) ∧ W.cell? ⟨w.heap.size, 2, none⟩ = some (.string xn) ∧ W.cell? ⟨w.heap.size + 1, 0, none⟩ = some (.int .i64 yd1) ∧ W.cell? ⟨w.heap.size + 1, 1, none⟩ = some (.int .i64 yd2) ∧ W.cell? ⟨w.heap.size + 1, 2, none⟩ = some (.string yn)) ∧ Grown w W) (first | assumption | exact cells6_alloc _ (by assumption) | (refine ⟨⟨?_, ?_, ?_, ?_, ?_, ?_⟩, ?_⟩ <;> assumption))
    (first
      | (go_at_call 59; (with_reducible refine (HC.out _).mono ?_); rintro e w' ⟨rfl, hg⟩; have hS := cells6_later hg ‹(_ ∧ _ ∧ _ ∧ _ ∧ _ ∧ _) ∧ Grown w _›)
      | (go_at_call 116; (with_reducible refine (HK.out _).mono ?_); rintro e w' ⟨rfl, rfl⟩; have hS := ‹(_ ∧ _ ∧ _ ∧ _ ∧ _ ∧ _) ∧ Grown w _›)
      | (go_at_call 88; refine (or_any _ c k _ ?_ ?_).mono ?_; exact (cell_two _ _ _ _).1; exact (cell_two _ _ _ _).2; rintro e w' ⟨rfl, rfl⟩; have hS := ‹(_ ∧ _ ∧ _ ∧ _ ∧ _ ∧ _) ∧ Grown w _›))
  have hB := (show Grown w _ from And.right ‹(_ ∧ _ ∧ _ ∧ _ ∧ _ ∧ _) ∧ Grown w _›)
  clear hS0
  go_wp2_with fail
  go_ret
  exact ⟨by rw [← HV.out]; rfl, hB⟩

end Go.Proofs.YthcmgaibbpacfaaGreatDoor

/-
  Closures of the library's functions, laid at this program (made by the kit's lay-plain.mjs).
-/
namespace Go.Proofs
open Go.Shelf
def Tryz.sortIno_ren : Go.Shelf.Ren := ⟨fun | 6 => 86 | 15 => 112 | 14 => 111 | 28 => 142 | 29 => 143 | 20 => 134 | 21 => 135 | 22 => 136 | 23 => 137 | 24 => 138 | 25 => 139 | 26 => 140 | 27 => 141 | 46 => 162 | 47 => 163 | 48 => 164 | 49 => 165 | 50 => 166 | 57 => 171 | n => n, fun | 22 => 32 | 24 => 70 | 25 => 112 | 3 => 3 | 39 => 160 | 0 => 0 | 53 => 181 | 55 => 183 | 4 => 4 | 46 => 174 | 45 => 173 | 50 => 178 | 5 => 5 | 9 => 9 | 66 => 195 | 70 => 199 | 76 => 204 | 77 => 205 | n => n, fun | n => n⟩
theorem Tryz.sortIno : Go.Proofs.SlLaysF0.n6 Tryz.prog Tryz.sortIno_ren := {
  mixed := by kernel_rfl
  f6 := ⟨Tryz.f86.name, by decide, Tryz.func86.trans (congrArg some (by kernel_rfl))⟩
  f14 := ⟨Tryz.f111.name, by decide, Tryz.func111.trans (congrArg some (by kernel_rfl))⟩
  f15 := Tryz.func112.trans (congrArg some (by kernel_rfl))
  f20 := ⟨Tryz.f134.name, by decide, Tryz.func134.trans (congrArg some (by kernel_rfl))⟩
  f21 := ⟨Tryz.f135.name, by decide, Tryz.func135.trans (congrArg some (by kernel_rfl))⟩
  f22 := ⟨Tryz.f136.name, by decide, Tryz.func136.trans (congrArg some (by kernel_rfl))⟩
  f23 := ⟨Tryz.f137.name, by decide, Tryz.func137.trans (congrArg some (by kernel_rfl))⟩
  f24 := ⟨Tryz.f138.name, by decide, Tryz.func138.trans (congrArg some (by kernel_rfl))⟩
  f25 := ⟨Tryz.f139.name, by decide, Tryz.func139.trans (congrArg some (by kernel_rfl))⟩
  f26 := ⟨Tryz.f140.name, by decide, Tryz.func140.trans (congrArg some (by kernel_rfl))⟩
  f27 := ⟨Tryz.f141.name, by decide, Tryz.func141.trans (congrArg some (by kernel_rfl))⟩
  f28 := Tryz.func142.trans (congrArg some (by kernel_rfl))
  f29 := Tryz.func143.trans (congrArg some (by kernel_rfl))
  f46 := ⟨Tryz.f162.name, by decide, Tryz.func162.trans (congrArg some (by kernel_rfl))⟩
  f47 := Tryz.func163.trans (congrArg some (by kernel_rfl))
  f48 := Tryz.func164.trans (congrArg some (by kernel_rfl))
  f49 := ⟨Tryz.f165.name, by decide, Tryz.func165.trans (congrArg some (by kernel_rfl))⟩
  f50 := ⟨Tryz.f166.name, by decide, Tryz.func166.trans (congrArg some (by kernel_rfl))⟩
  f57 := ⟨Tryz.f171.name, by decide, Tryz.func171.trans (congrArg some (by kernel_rfl))⟩
  t0 := Tryz.underlying0
  a0 := Tryz.isAgg0
  z0 := Tryz.sizeOf0
  v0 := Tryz.zeroValue0
  t3 := Tryz.underlying3
  a3 := Tryz.isAgg3
  z3 := Tryz.sizeOf3
  v3 := Tryz.zeroValue3
  t4 := Tryz.underlying4
  a4 := Tryz.isAgg4
  z4 := Tryz.sizeOf4
  v4 := Tryz.zeroValue4
  t5 := Tryz.underlying5
  a5 := Tryz.isAgg5
  z5 := Tryz.sizeOf5
  v5 := Tryz.zeroValue5
  t9 := Tryz.underlying9
  a9 := Tryz.isAgg9
  z9 := Tryz.sizeOf9
  v9 := Tryz.zeroValue9
  t22 := Tryz.underlying32
  a22 := Tryz.isAgg32
  z22 := Tryz.sizeOf32
  v22 := Tryz.zeroValue32
  t25 := Tryz.underlying112
  a25 := Tryz.isAgg112
  z25 := Tryz.sizeOf112
  v25 := Tryz.zeroValue112
  t39 := Tryz.underlying160
  a39 := Tryz.isAgg160
  z39 := Tryz.sizeOf160
  v39 := Tryz.zeroValue160
  t45 := Tryz.underlying173
  a45 := Tryz.isAgg173
  z45 := Tryz.sizeOf173
  v45 := Tryz.zeroValue173
  t46 := Tryz.underlying174
  a46 := Tryz.isAgg174
  z46 := Tryz.sizeOf174
  v46 := Tryz.zeroValue174
  t50 := Tryz.underlying178
  a50 := Tryz.isAgg178
  z50 := Tryz.sizeOf178
  v50 := Tryz.zeroValue178
  t53 := Tryz.underlying181
  a53 := Tryz.isAgg181
  z53 := Tryz.sizeOf181
  v53 := Tryz.zeroValue181
  t55 := Tryz.underlying183
  a55 := Tryz.isAgg183
  z55 := Tryz.sizeOf183
  v55 := Tryz.zeroValue183
  t66 := Tryz.underlying195
  a66 := Tryz.isAgg195
  z66 := Tryz.sizeOf195
  v66 := Tryz.zeroValue195
  t70 := Tryz.underlying199
  a70 := Tryz.isAgg199
  z70 := Tryz.sizeOf199
  v70 := Tryz.zeroValue199
  t76 := Tryz.underlying204
  a76 := Tryz.isAgg204
  z76 := Tryz.sizeOf204
  v76 := Tryz.zeroValue204
  t77 := Tryz.underlying205
  a77 := Tryz.isAgg205
  z77 := Tryz.sizeOf205
  v77 := Tryz.zeroValue205 }
def Tryz.sortEnt_ren : Go.Shelf.Ren := ⟨fun | 6 => 91 | 15 => 112 | 14 => 115 | 28 => 142 | 29 => 143 | 20 => 144 | 21 => 145 | 22 => 146 | 23 => 147 | 24 => 148 | 25 => 149 | 26 => 150 | 27 => 151 | 46 => 167 | 47 => 163 | 48 => 164 | 49 => 168 | 50 => 169 | 57 => 172 | n => n, fun | 22 => 31 | 24 => 66 | 25 => 145 | 3 => 3 | 39 => 160 | 0 => 0 | 53 => 181 | 55 => 183 | 4 => 4 | 46 => 174 | 45 => 173 | 50 => 178 | 5 => 5 | 9 => 9 | 66 => 195 | 70 => 199 | 76 => 204 | 77 => 205 | n => n, fun | n => n⟩
theorem Tryz.sortEnt : Go.Proofs.SlLaysF0.n6 Tryz.prog Tryz.sortEnt_ren := {
  mixed := by kernel_rfl
  f6 := ⟨Tryz.f91.name, by decide, Tryz.func91.trans (congrArg some (by kernel_rfl))⟩
  f14 := ⟨Tryz.f115.name, by decide, Tryz.func115.trans (congrArg some (by kernel_rfl))⟩
  f15 := Tryz.func112.trans (congrArg some (by kernel_rfl))
  f20 := ⟨Tryz.f144.name, by decide, Tryz.func144.trans (congrArg some (by kernel_rfl))⟩
  f21 := ⟨Tryz.f145.name, by decide, Tryz.func145.trans (congrArg some (by kernel_rfl))⟩
  f22 := ⟨Tryz.f146.name, by decide, Tryz.func146.trans (congrArg some (by kernel_rfl))⟩
  f23 := ⟨Tryz.f147.name, by decide, Tryz.func147.trans (congrArg some (by kernel_rfl))⟩
  f24 := ⟨Tryz.f148.name, by decide, Tryz.func148.trans (congrArg some (by kernel_rfl))⟩
  f25 := ⟨Tryz.f149.name, by decide, Tryz.func149.trans (congrArg some (by kernel_rfl))⟩
  f26 := ⟨Tryz.f150.name, by decide, Tryz.func150.trans (congrArg some (by kernel_rfl))⟩
  f27 := ⟨Tryz.f151.name, by decide, Tryz.func151.trans (congrArg some (by kernel_rfl))⟩
  f28 := Tryz.func142.trans (congrArg some (by kernel_rfl))
  f29 := Tryz.func143.trans (congrArg some (by kernel_rfl))
  f46 := ⟨Tryz.f167.name, by decide, Tryz.func167.trans (congrArg some (by kernel_rfl))⟩
  f47 := Tryz.func163.trans (congrArg some (by kernel_rfl))
  f48 := Tryz.func164.trans (congrArg some (by kernel_rfl))
  f49 := ⟨Tryz.f168.name, by decide, Tryz.func168.trans (congrArg some (by kernel_rfl))⟩
  f50 := ⟨Tryz.f169.name, by decide, Tryz.func169.trans (congrArg some (by kernel_rfl))⟩
  f57 := ⟨Tryz.f172.name, by decide, Tryz.func172.trans (congrArg some (by kernel_rfl))⟩
  t0 := Tryz.underlying0
  a0 := Tryz.isAgg0
  z0 := Tryz.sizeOf0
  v0 := Tryz.zeroValue0
  t3 := Tryz.underlying3
  a3 := Tryz.isAgg3
  z3 := Tryz.sizeOf3
  v3 := Tryz.zeroValue3
  t4 := Tryz.underlying4
  a4 := Tryz.isAgg4
  z4 := Tryz.sizeOf4
  v4 := Tryz.zeroValue4
  t5 := Tryz.underlying5
  a5 := Tryz.isAgg5
  z5 := Tryz.sizeOf5
  v5 := Tryz.zeroValue5
  t9 := Tryz.underlying9
  a9 := Tryz.isAgg9
  z9 := Tryz.sizeOf9
  v9 := Tryz.zeroValue9
  t22 := Tryz.underlying31
  a22 := Tryz.isAgg31
  z22 := Tryz.sizeOf31
  v22 := Tryz.zeroValue31
  t25 := Tryz.underlying145
  a25 := Tryz.isAgg145
  z25 := Tryz.sizeOf145
  v25 := Tryz.zeroValue145
  t39 := Tryz.underlying160
  a39 := Tryz.isAgg160
  z39 := Tryz.sizeOf160
  v39 := Tryz.zeroValue160
  t45 := Tryz.underlying173
  a45 := Tryz.isAgg173
  z45 := Tryz.sizeOf173
  v45 := Tryz.zeroValue173
  t46 := Tryz.underlying174
  a46 := Tryz.isAgg174
  z46 := Tryz.sizeOf174
  v46 := Tryz.zeroValue174
  t50 := Tryz.underlying178
  a50 := Tryz.isAgg178
  z50 := Tryz.sizeOf178
  v50 := Tryz.zeroValue178
  t53 := Tryz.underlying181
  a53 := Tryz.isAgg181
  z53 := Tryz.sizeOf181
  v53 := Tryz.zeroValue181
  t55 := Tryz.underlying183
  a55 := Tryz.isAgg183
  z55 := Tryz.sizeOf183
  v55 := Tryz.zeroValue183
  t66 := Tryz.underlying195
  a66 := Tryz.isAgg195
  z66 := Tryz.sizeOf195
  v66 := Tryz.zeroValue195
  t70 := Tryz.underlying199
  a70 := Tryz.isAgg199
  z70 := Tryz.sizeOf199
  v70 := Tryz.zeroValue199
  t76 := Tryz.underlying204
  a76 := Tryz.isAgg204
  z76 := Tryz.sizeOf204
  v76 := Tryz.zeroValue204
  t77 := Tryz.underlying205
  a77 := Tryz.isAgg205
  z77 := Tryz.sizeOf205
  v77 := Tryz.zeroValue205 }
def Tryz.cloneIno_ren : Go.Shelf.Ren := ⟨fun | 5 => 49 | 7 => 78 | n => n, fun | 23 => 93 | 25 => 24 | 3 => 70 | 4 => 4 | 20 => 20 | n => n, fun | n => n⟩
theorem Tryz.cloneIno : Go.Proofs.SlLaysW.n5 Tryz.prog Tryz.cloneIno_ren := {
  mixed := by kernel_rfl
  f5 := ⟨Tryz.f49.name, by decide, Tryz.func49.trans (congrArg some (by kernel_rfl))⟩
  f7 := Tryz.func78.trans (congrArg some (by kernel_rfl))
  t4 := Tryz.underlying4
  a4 := Tryz.isAgg4
  z4 := Tryz.sizeOf4
  v4 := Tryz.zeroValue4
  t20 := Tryz.underlying20
  a20 := Tryz.isAgg20
  z20 := Tryz.sizeOf20
  v20 := Tryz.zeroValue20
  t23 := Tryz.underlying93
  a23 := Tryz.isAgg93
  z23 := Tryz.sizeOf93
  v23 := Tryz.zeroValue93 }
def Tryz.cloneEnt_ren : Go.Shelf.Ren := ⟨fun | 5 => 50 | 7 => 78 | n => n, fun | 23 => 94 | 25 => 100 | 3 => 24 | 4 => 4 | 20 => 20 | n => n, fun | n => n⟩
theorem Tryz.cloneEnt : Go.Proofs.SlLaysW.n5 Tryz.prog Tryz.cloneEnt_ren := {
  mixed := by kernel_rfl
  f5 := ⟨Tryz.f50.name, by decide, Tryz.func50.trans (congrArg some (by kernel_rfl))⟩
  f7 := Tryz.func78.trans (congrArg some (by kernel_rfl))
  t4 := Tryz.underlying4
  a4 := Tryz.isAgg4
  z4 := Tryz.sizeOf4
  v4 := Tryz.zeroValue4
  t20 := Tryz.underlying20
  a20 := Tryz.isAgg20
  z20 := Tryz.sizeOf20
  v20 := Tryz.zeroValue20
  t23 := Tryz.underlying94
  a23 := Tryz.isAgg94
  z23 := Tryz.sizeOf94
  v23 := Tryz.zeroValue94 }
end Go.Proofs

/-
  A row of the call's own, sorted by slices.SortFunc: it holds the same elements in order, and is the call's own still.
-/
namespace Go.Proofs.YthcmgaibbpacfaaGreatDoor
open Go.RowKit Go.Shelf Go.Sort

section
variable {α : Type} [Inhabited α]

theorem flatK_flat (encA : α → Array Value) {k : Nat} (hk : ∀ x, (encA x).size = k) (xs : List α) : flatK (fun x => (encA x).toList) k xs.toArray = (flat (xs.map encA)).toArray := by
  have hk' : ∀ r ∈ xs.map encA, r.size = k := fun r hr => by
    obtain ⟨x, _, rfl⟩ := List.mem_map.1 hr
    exact hk x
  have hl := flat_len hk'
  rw [List.length_map] at hl
  refine ext_get! (by simp [hl]) fun t ht => ?_
  have ht' : t < xs.length * k := by simpa using ht
  rw [get_flatK _ _ _ _ (by simpa using ht')]
  have k0 : 0 < k := by
    rcases Nat.eq_zero_or_pos k with h | h
    · subst h; simp at ht'
    · exact h
  have hd : t / k < xs.length := (Nat.div_lt_iff_lt_mul k0).2 ht'
  have hm := Nat.mod_lt t k0
  have e := flat_at hk' (t / k) (by simpa using hd) (t % k) hm
  rw [show t / k * k + t % k = t by rw [Nat.mul_comm]; exact Nat.div_add_mod t k] at e
  have hs : t % k < (encA xs[t / k]).size := by rw [hk]; exact hm
  have hf : t < (flat (xs.map encA)).length := by rw [hl]; exact ht'
  rw [List.getElem?_eq_getElem hf, List.getElem_map, Array.getElem?_eq_getElem hs] at e
  have e' := Option.some.inj e
  rw [getElem!_pos ((flat (xs.map encA)).toArray) t (by simpa using hf), List.getElem_toArray, e', getElem!_pos xs.toArray (t / k) (by simpa using hd), List.getElem_toArray, getElem!_pos _ _ (by simpa using hs), Array.getElem_toList]

theorem perm_of {d d' : Array α} (h : PermIn 0 d.size d d') : d'.toList.Perm d.toList := by
  obtain ⟨hs, _, hp⟩ := h
  rw [Array.extract_size] at hp
  have e : d'.extract 0 d.size = d' := by rw [← hs]; exact Array.extract_size
  rwa [e] at hp

theorem sorted_of {lt : α → α → Bool} {d : Array α} (h : SortedIn lt 0 d.size d) : d.toList.Pairwise fun x y => lt y x = false := by
  rw [List.pairwise_iff_getElem]
  intro i j hi hj hij
  have q := h i j (Nat.zero_le _) hij (by simpa using hj)
  rwa [getElem!_pos d j (by simpa using hj), getElem!_pos d i (by simpa using hi)] at q
end

/-- A row that lies in a block of the call's own holds these cells, none of them frozen. -/
theorem own_holds {w : World} {g : Nat} {e : TypeId} {cur : Array Value} {F : Array Value} (hg : w.heap[g]? = some (.cells cur e (0, 0))) (hF : cur.toList.take F.size = F.toList) : Holds id w g 0 F := by
  intro j hj
  refine ⟨?_, ?_⟩
  · have e1 : (cur.toList.take F.size)[j]? = F.toList[j]? := by rw [hF]
    rw [List.getElem?_take_of_lt hj] at e1
    simp only [World.cell?, hg, Nat.zero_add, Option.isSome_none, Bool.false_eq_true, if_false, id]
    rw [getElem!_pos F j hj]
    simpa [hj] using e1
  · simp only [World.frozen?, hg]
    simp

theorem putCells_take (F cur : Array Value) (h : F.size ≤ cur.size) : (putCells id 0 F cur).toList.take F.size = F.toList := by
  apply List.ext_getElem?
  intro j
  by_cases hj : j < F.size
  · rw [List.getElem?_take_of_lt hj]
    have hc : j < cur.size := by omega
    simp [putCells, hj, hc]
  · rw [List.getElem?_eq_none (by simp; omega), List.getElem?_eq_none (by simp; omega)]

theorem sort_own {P : Program} {ρ : Ren} {α : Type} [Inhabited α] (L : SlLaysF0.n6 P ρ) (k : Nat) (aE : ∀ w, (isAgg (ρ.t 24)).run P w = .ok true w) (zE : ∀ w, (Go.sizeOf (ρ.t 24)).run P w = .ok k w) (encA : α → Array Value) (hk : ∀ x, (encA x).size = k) (h1 : ∀ x, ∀ v ∈ (encA x).toList, v.oneCell' = true)
    (cf : α → α → Int) (hO : SWO (ltOf cf)) (g : Nat) (cb : Array Value) (eg : ∀ args w, (callFunc g args).run P w = .ok (.enter g args) w)
    (hc : ∀ (W : World) (x y : α), Calls P g (#[.agg (encA x), .agg (encA y)] ++ cb) W fun e W' => e = .returned (.int .i64 (cf x y)) ∧ ∃ q os', W' = grow (W.drewN q) os')
    {w : World} {base : Nat} {e : TypeId} {v : Value} {n : Nat} {xs : List α} (hn : xs.length = n) (h : w.ownsRow base e k v n (flat (xs.map encA))) (hsz : n < 4611686018427387904) :
    Calls P (ρ.f 6) #[v, .func (.func g) #[] cb] w fun r w' => r = .returned (.tuple #[]) ∧ ∃ ys : List α, ys.Perm xs ∧ (ys.Pairwise fun x y => ltOf cf y x = false) ∧ w'.ownsRow base e k v n (flat (ys.map encA)) ∧ But (fun i => v.ownBlock = some i) w w' := by
  subst hn
  obtain ⟨hl, h⟩ := h
  rcases h with ⟨rfl, h0⟩ | ⟨b, cap, cur, rfl, hb, hg, hc1, hc2, hcs, ht⟩
  · refine (AnyF.slices_SortFunc_none (P := P) (ρ := ρ) { L with } none 0 (.func (.func g) #[] cb) w).mono ?_
    rintro r w' ⟨rfl, rfl⟩
    have hx : xs = [] := List.length_eq_zero_iff.1 h0
    subst hx
    exact ⟨rfl, [], List.Perm.refl _, List.Pairwise.nil, ⟨hl, Or.inl ⟨rfl, rfl⟩⟩, But.refl _ _⟩
  · have hk' : ∀ (l : List α), ∀ r ∈ l.map encA, r.size = k := fun l r hr => by
      obtain ⟨x, _, rfl⟩ := List.mem_map.1 hr
      exact hk x
    have fl : ∀ l : List α, (flat (l.map encA)).length = l.length * k := fun l => by have := flat_len (hk' l); rwa [List.length_map] at this
    have hH : HoldsK (fun x => (encA x).toList) k w b 0 xs.toArray := by
      unfold HoldsK
      rw [flatK_flat encA hk]
      exact own_holds hg (by simpa [fl] using ht)
    have hcmp : CmpLays P g cb (fun x => (encA x).toList) k cf b 0 xs.toArray.size w := fun m os dk _ x y => hc _ x y
    have hs := AnyQ.slices_SortFunc L k aE zE (fun x => (encA x).toList) (fun x => by simpa using hk x) h1 cf hO g cb b 0 cap xs.toArray w eg hcmp hH (heap_lt hg) (by simpa using hsz)
    rw [List.size_toArray] at hs
    refine hs.mono ?_
    rintro r w' ⟨rfl, d', q, os, hp, hsd, rfl⟩
    refine ⟨rfl, d'.toList, ?_, ?_, ?_, ?_⟩
    · simpa using perm_of (d := xs.toArray) (by simpa using hp)
    · refine sorted_of ?_
      have hd : d'.size = xs.length := by simpa using hp.1
      rw [hd]
      exact hsd
    · have hd : d'.size = xs.length := by simpa using hp.1
      have hF : flatK (fun x => (encA x).toList) k d' = (flat (d'.toList.map encA)).toArray := by
        have := flatK_flat encA hk d'.toList
        rwa [Array.toArray_toList] at this
      have hle : (flatK (fun x => (encA x).toList) k d').size ≤ cur.size := by
        rw [size_flatK, hcs, hd]
        exact Nat.mul_le_mul_right k hc1
      refine ⟨by rw [fl, Array.length_toList, hd], Or.inr ⟨b, cap, putCells id 0 (flatK (fun x => (encA x).toList) k d') cur, rfl, hb, ?_, hc1, hc2, by simpa [putCells] using hcs, ?_⟩⟩
      · unfold sortWorldK
        rw [heap_grow_old _ _ (by rw [size_putRowK]; exact heap_lt hg)]
        simp [putRowK, putRow, mapBlock, Array.getElem?_modify, hg, onCells]
      · have e2 := putCells_take _ cur hle
        rw [size_flatK, hd] at e2
        rw [e2, hF]
    · unfold sortWorldK
      refine ⟨rfl, rfl, rfl, ?_, fun i hi hne => ?_⟩
      · rw [size_grow, size_putRowK]
        exact Nat.le_add_right _ _
      · rw [heap_grow_old _ _ (by rw [size_putRowK]; exact hi)]
        have hib : b ≠ i := fun q => hne (by rw [← q]; rfl)
        simp [putRowK, putRow, mapBlock, Array.getElem?_modify, hib]

end Go.Proofs.YthcmgaibbpacfaaGreatDoor

/-
  The landed graph's sorted (made by gen_graphsorted.py), at Entries' closure; Entries.
-/
namespace Go.Proofs.YthcmgaibbpacfaaGreatDoor
open Go.RowKit StampMath GraphMath

def entOf (p : (St × ByteArray) × St) : Ent := ⟨p.1.1, p.1.2, p.2⟩

theorem allClo (e : St) (W : World) :
    Calls Tryz.prog 61 #[.agg #[.int .i64 e.1, .int .i64 e.2]] W fun x W' => x = .returned (.bool true) ∧ Below W.heap.size W W' := by
  go_enter Tryz.func61, Tryz.ntmps61
  go_wp2_with fail
  go_ret
  exact ⟨rfl, (Below.refl _ _).alloc (Nat.le_refl _) _⟩

set_option maxRecDepth 100000 in
set_option maxHeartbeats 1600000 in
theorem sortedAll_code (a : Addr) (S : Nat → Prop) (g : Gr) (q : St → Bool) (hq : ∀ x, q x = true) (w : World) (h : GIn w S a g) (hg : g.ok) :
    Calls Tryz.prog 60 #[.pointer (some a), .func (.func 61) #[] #[]] w (EntsNew (g.E.filter fun e => q e.dir) w) := by
  have HC : Hid (∀ (e : St) (W : World), Below w.heap.size w W → Calls Tryz.prog 61 #[.agg #[.int .i64 e.1, .int .i64 e.2]] W fun x W' => x = .returned (.bool (q e)) ∧ Below W.heap.size W W') := fun e W hW => by rw [hq]; exact allClo e W
  clear hq
  obtain ⟨b, bi, be, rfl, h1, h2, h3, hb, hi, he, hS⟩ := h
  obtain ⟨c0, c1⟩ := two_cells hb
  obtain ⟨i0, hi0, hz0, hz1, hz2⟩ := info_parts ent_infos
  have HE := Lib.hid he
  have hlt := heap_lt hb
  have hltE := he.lt
  clear hi he hb hS
  have hlen : Hid ((pairsE g).length ≤ 1000) := by
    show (pairsE g).length ≤ 1000
    unfold pairsE
    rw [List.length_map]
    exact Nat.le_trans hg.entsFew (by decide)
  have hgE := Lib.hid (hg.sortE.filter fun e => q e.dir)
  go_enter Tryz.func60, Tryz.ntmps60
  go_wp2_with (at_range; refine wpList_k_range (by rfl) _ _ (by rfl) Tryz.underlying94 be _ (by rfl) HE.out ?_; intro w1 HR1 HB1 HS1)
  go_frame
  go_loopg [5] ((pairsE g).length + 1) (fun gk l wr => ∃ (done todo : List ((St × ByteArray) × St)), gk = todo.length + 1 ∧ Hid (KRange plV stV wr be w.heap.size (pairsE g) todo) ∧ Hid ((done ++ todo).Perm (pairsE g)) ∧ wr.ownsRow (w.heap.size + 1) 66 5 l ((done.map entOf).filter fun e => q e.dir).length (flat (((done.map entOf).filter fun e => q e.dir).map entA)) ∧ Hid (Below w.heap.size w wr) ∧ w.heap.size + 1 ≤ wr.heap.size)
  case atStart => exact ⟨[], pairsE g, rfl, HR1, List.Perm.refl _, World.ownsRow_nil _ _ _ _, HB1, by rw [HS1.out]; omega⟩
  case round =>
    obtain ⟨done, todo, rfl, hR, hP, hown, hB, hs1⟩ := hrel
    clear HR1 HB1 HS1
    go_wp2_with (refine wpList_k_next (by rfl) _ (by rfl) be w.heap.size _ _ (by rfl) hR.out ?_ ?_)
    · intro h0
      have hdone : ((done.map entOf).filter fun e => q e.dir).Perm (g.E.filter fun e => q e.dir) := by
        refine List.Perm.filter _ ?_
        have h5 := hP.out
        rw [h0, List.append_nil] at h5
        have h6 := h5.map entOf
        unfold pairsE at h6
        rwa [List.map_map, show entOf ∘ (fun e : Ent => ((e.dir, e.name), e.ino)) = id from rfl, List.map_id] at h6
      have h1000 : ((done.map entOf).filter fun e => q e.dir).length < 4611686018427387904 := by
        have h5 := hlen.out
        have h6 := hP.out.length_eq
        have h7 := List.length_filter_le (fun e : Ent => q e.dir) (done.map entOf)
        simp only [List.length_append, List.length_map] at h6 h7
        omega
      generalize ((done.map entOf).filter fun e => q e.dir) = fs at hdone h1000 hown ⊢
      have HD := Lib.hid hdone
      clear hdone
      have hs := sort_own (w := wr) Tryz.sortEnt 5 Tryz.isAgg66 Tryz.sizeOf66 entA (fun _ => rfl) ent_one aheadI swo_ents 92 #[] (enters_of Tryz.func92 (by kernel_rfl) rfl)
        (fun W x y => (ahead_grown x y W).mono fun _ _ h => ⟨h.1, h.2.grow⟩) (by simp) hown h1000
      change Calls Tryz.prog 91 _ _ _ at hs
      have hrow := hown.lt
      clear hown
      have HS := Lib.hid hs
      clear hs
      go_wp2_with fail
      refine (HS.out).mono ?_
      rintro e w2 ⟨rfl, ys, hp, hsd, hown2, hbut⟩
      have hys : ys = g.E.filter fun e => q e.dir := sorted_ents hgE.out (hp.trans HD.out) hsd
      have hl : fs.length = (g.E.filter fun e => q e.dir).length := HD.out.length_eq
      rw [hys, hl] at hown2
      clear hp hsd hys
      go_wp2_with fail
      go_ret
      refine ⟨_, rfl, ?_, ?_⟩
      · exact own_lower hown2 (Nat.le_succ _)
      · exact hB.out.trans (hbut.below (fun i hi => Nat.le_of_succ_le (hrow i hi).1) (by omega))
    · intro t r nm t' r' todo' w2 hp hR2 hB2 hs2 hen
      simp only [plV, stV, stA] at hen ⊢
      have hown2 := own_iter hown hB2.out (by omega)
      have h1000 : ((done.map entOf).filter fun e => q e.dir).length ≤ 1000 := by
        have h5 := hlen.out
        have h6 := hP.out.length_eq
        have h7 := List.length_filter_le (fun e : Ent => q e.dir) (done.map entOf)
        simp only [List.length_append, List.length_map] at h6 h7
        omega
      have hfs : ∀ b : Bool, q (t, r) = b → ((done ++ [(((t, r), nm), (t', r'))]).map entOf).filter (fun e => q e.dir) = ((done.map entOf).filter fun e => q e.dir) ++ (if b = true then [⟨(t, r), nm, (t', r')⟩] else []) := by
        intro b hb
        rw [List.map_append, List.filter_append]
        congr 1
        simp only [List.map_cons, List.map_nil, entOf, List.filter_cons, List.filter_nil, hb]
      have HF := Lib.hid hfs
      clear hfs
      have e2 : Below w.heap.size wr w2 := hB2.out.below (fun i hi => by omega) (by omega)
      have hb2 := hB.out.trans e2
      have hP2 : Hid ((done ++ [(((t, r), nm), (t', r'))] ++ todo').Perm (pairsE g)) := by
        have e1 : (done ++ todo).Perm (done ++ ((((t, r), nm), (t', r')) :: todo')) := hp.out.append_left _
        show (done ++ [(((t, r), nm), (t', r'))] ++ todo').Perm _
        rw [List.append_assoc]
        exact e1.symm.trans hP.out
      have hlen2 := hp.out.length_eq
      simp only [List.length_cons] at hlen2
      generalize ((done.map entOf).filter fun e => q e.dir) = fs at hown2 h1000 HF
      have hm : fs.length + 1 ≤ maxLen := by unfold maxLen; omega
      have hs2' : w.heap.size + 1 ≤ w2.heap.size := by rw [hs2.out]; exact hs1
      clear hown hB hB2 hs2 hP hp hR e2
      go_upto_region 7 with fail
      obtain ⟨z, hz⟩ : ∃ z, z = w2.heap.size := ⟨_, rfl⟩
      have k0 : ((w2.alloc (.cells #[.int .i64 t, .int .i64 r, .string nm] 100)).alloc (.cells #[.int .i64 t', .int .i64 r'] 24)).heap[z]? = some (.cells #[.int .i64 t, .int .i64 r, .string nm] 100 (0, 0)) := by rw [hz]; exact heap_alloc2_old w2 _ _
      have k1 : ((w2.alloc (.cells #[.int .i64 t, .int .i64 r, .string nm] 100)).alloc (.cells #[.int .i64 t', .int .i64 r'] 24)).heap[z + 1]? = some (.cells #[.int .i64 t', .int .i64 r'] 24 (0, 0)) := by rw [hz]; exact heap_alloc2_new w2 _ _
      have hbA : Below w2.heap.size w2 ((w2.alloc (.cells #[.int .i64 t, .int .i64 r, .string nm] 100)).alloc (.cells #[.int .i64 t', .int .i64 r'] 24)) := ((Below.refl _ _).alloc (Nat.le_refl _) _).alloc (by simp) _
      rw [← hz]
      generalize ((w2.alloc (.cells #[.int .i64 t, .int .i64 r, .string nm] 100)).alloc (.cells #[.int .i64 t', .int .i64 r'] 24)) = w3 at k0 k1 hbA ⊢
      have hz3 := hbA.size
      have hown3 := own_call hown2 hbA
      have hR3 := hR2.out.kept (hbA.block _ (by omega)) (hbA.block _ (by omega))
      have hb3 := below_step hb2 hbA
      clear hown2 hR2 hb2 hbA hen hz
      have x0 := cell_of_row _ _ 0 _ _ (0, 0) k0
      have x1 := cell_of_row _ _ 1 _ _ (0, 0) k0
      go_wp2_with fail
      refine (HC.out (t, r) w3 hb3).mono ?_
      rintro e w4 ⟨rfl, hb4⟩
      have l0 := (hb4.block _ (heap_lt k0)).trans k0
      have l1 := (hb4.block _ (heap_lt k1)).trans k1
      have hz4 := hb4.size
      have hown4 := own_call hown3 hb4
      have hR4 := hR3.kept (hb4.block _ (by omega)) (hb4.block _ (by omega))
      have hb5 := below_step hb3 hb4
      have HR4 := Lib.hid hR4
      have HB5 := Lib.hid hb5
      have HL0 := Lib.hid l0
      clear hown3 hR3 hb3 hb4 x0 x1 k0 k1 hR4 hb5
      obtain ⟨qb, hqb⟩ : ∃ qb, qb = q (t, r) := ⟨_, rfl⟩
      have hF := HF.out qb hqb.symm
      rw [← hqb]
      clear hqb HF
      cases qb with
      | false =>
        rw [if_neg (by decide), List.append_nil] at hF
        have HF := Lib.hid hF
        clear hF
        go_wp2_with fail
        go_roundg (todo'.length + 1)
        case measure => omega
        case rel => exact ⟨done ++ [(((t, r), nm), (t', r'))], todo', rfl, HR4.out, hP2.out, by rw [HF.out]; exact hown4, HB5.out, by omega⟩
      | true =>
        rw [if_pos rfl] at hF
        have HF := Lib.hid hF
        clear hF
        have x0 := cell_of_row _ _ 0 _ _ (0, 0) HL0.out
        have x1 := cell_of_row _ _ 1 _ _ (0, 0) HL0.out
        have x2 := cell_of_row _ _ 2 _ _ (0, 0) HL0.out
        obtain ⟨y0, y1⟩ := two_cells l1
        have HW := Lib.hid (row_there w4 66 (entA ⟨(t, r), nm, (t', r')⟩))
        go_wp2_with (at_builtin; refine wpList_append_own _ rfl (.tmp 24) (.tmp 31) 31 rfl (w.heap.size + 1) 66 i0 _ 5 48 Tryz.underlying31 hi0 hz0 hz1 hz2 rfl (by decide) _ _ _ rfl (hown4.alloc _) ⟨w4.heap.size, 0, none⟩ 1 1 (entA ⟨(t, r), nm, (t', r')⟩).toList rfl rfl HW.out (ent_one _) hm (by omega) (by simp; omega) ?_; intro v2 w5 hown5 hg5 _)
        have hbw : Below (w.heap.size + 1) w4 w5 := (((Below.refl w4.heap.size w4).alloc (Nat.le_refl _) _).mono (by omega)).grown hg5 (by simp; omega) (fun j hj => (hown4.lt j hj).1)
        go_roundg (todo'.length + 1)
        case measure => omega
        case rel =>
          refine ⟨done ++ [(((t, r), nm), (t', r'))], todo', rfl, HR4.out.kept (hbw.block _ (by omega)) (hbw.block _ (by omega)), hP2.out, ?_, HB5.out.trans (hbw.mono (by omega)), by have := hbw.size; omega⟩
          rw [HF.out, List.length_append]
          show w5.ownsRow _ _ 5 v2 (fs.length + 1) _
          rw [← flat_ent]
          exact hown5

set_option maxRecDepth 100000 in
theorem entries_code (a : Addr) (S : Nat → Prop) (g : Gr) (w : World) (h : GIn w S a g) (hg : g.ok) :
    Calls Tryz.prog 26 #[.pointer (some a)] w (EntsNew g.E w) := by
  have hs := sortedAll_code a S g (fun _ => true) (fun _ => rfl) w h hg
  rw [show (g.E.filter fun e => (fun _ : St => true) e.dir) = g.E from List.filter_eq_self.2 fun _ _ => rfl] at hs
  have HS := Lib.hid hs
  clear h hs
  go_enter Tryz.func26, Tryz.ntmps26
  go_wp2_with fail
  refine (HS.out).mono ?_
  rintro e w2 ⟨v, rfl, hown, hb⟩
  go_wp2_with fail
  go_ret
  exact ⟨v, rfl, hown, hb⟩

end Go.Proofs.YthcmgaibbpacfaaGreatDoor

/-
  A map of any shape gone through inside a fence (by an iterator's own body).
-/
namespace Go.Proofs.YthcmgaibbpacfaaGreatDoor
open Go.RowKit

section
variable {K V : Type} {ek : K → Value} {ev : V → Value} {P : Program} {k e : TypeId}

theorem KRange.walks {w w' : World} {b r : Nat} {L todo : List (K × V)} (h : KRange ek ev w b r L todo) (hk : KeepsWalks w w') : KRange ek ev w' b r L todo := by
  obtain ⟨es, clock, since, seen, c0, M, T, h1, h2, h3, h4, h5, rest⟩ := h
  exact ⟨es, clock, since, seen, c0, M, T, hk.same b _ h1 rfl, h2, h3, h4, hk.same r _ h5 rfl, rest⟩

theorem KRange.iter_walk {w : World} {b r : Nat} {L todo : List (K × V)} (h : KRange ek ev w b r L todo) : ∃ o : Obj, w.heap[r]? = some o ∧ o.isWalk = true := by
  obtain ⟨es, clock, since, seen, c0, M, T, h1, h2, h3, h4, h5, rest⟩ := h
  exact ⟨_, h5, rfl⟩

/-- 'range m'. -/
theorem wpListIn_k_range {F : Fence} {n : Nat} {w : World} {ops : Array Oper} {rest : List Oper} {o : Oper} {a : Act} {Q : Exit → Act → World → Prop} (hg : o.guard = none) (m : Operand) (t : TypeId)
    (hop : o.op = Op.range t m) (ht : P.underlying t = some (.map k e)) (b : Nat) (L : List (K × V)) (hm : a.eval m = .map (some b)) (h : KMap ek ev w b L)
    (hK : ∀ w', Hid (KRange ek ev w' b w.heap.size L L) → Hid (Below w.heap.size w w') → Hid (w'.heap.size = w.heap.size + 1) → wpListIn F n P ops Q rest (a.put o.dst (.pointer (some ⟨w.heap.size, 0, none⟩))) w') : wpListIn F n P ops Q (o :: rest) a w := by
  refine wpListIn_plain hg fun K' hK' => ?_
  obtain ⟨w', hrun, r1, r2, r3⟩ := h.range (P := P) ht
  unfold Oper.wpIn
  refine ⟨by simp [Oper.about, hop], ?_⟩
  rw [Oper.semAt_plain F _ _ (by rw [hop]; intro c hc'; cases hc')]
  simp [execOp, hop, hm, hrun, Result.andThen]
  exact hK' _ _ (hK w' r1 r2 r3)

/-- The step. -/
theorem wpListIn_k_next {F : Fence} {n : Nat} {w : World} {ops : Array Oper} {rest : List Oper} {o : Oper} {a : Act} {Q : Exit → Act → World → Prop} (hg : o.guard = none) (it : Operand) (hop : o.op = Op.next it false)
    (b r : Nat) (L todo : List (K × V)) (hit : a.eval it = .pointer (some ⟨r, 0, none⟩)) (h : KRange ek ev w b r L todo)
    (hDone : todo = [] → wpListIn F n P ops Q rest (a.put o.dst (.tuple #[.bool false])) w)
    (hMore : ∀ (p : K × V) (todo' : List (K × V)) (w' : World), Hid (todo.Perm (p :: todo')) → Hid (KRange ek ev w' b r L todo') → Hid (But (fun i => i = r) w w') → Hid (w'.heap.size = w.heap.size) →
      (Instr.entry (.pointer (some ⟨r, 0, none⟩))).run P w' = .ok (.tuple #[ek p.1, ev p.2]) w' → wpListIn F n P ops Q rest (a.put o.dst (.tuple #[.bool true, ek p.1, ev p.2])) w') :
    wpListIn F n P ops Q (o :: rest) a w := by
  refine wpListIn_plain hg fun K' hK' => ?_
  unfold Oper.wpIn
  refine ⟨by simp [Oper.about, hop], ?_⟩
  rw [Oper.semAt_plain F _ _ (by rw [hop]; intro c hc'; cases hc')]
  rcases h.next (P := P) o.type with ⟨h0, hrun⟩ | ⟨p, todo', w', hp, hrun, hr, hb, hs, hen⟩
  · simp [execOp, hop, hit, hrun, Result.andThen]
    exact hK' _ _ (hDone h0)
  · simp [execOp, hop, hit, hrun, Result.andThen]
    exact hK' _ _ (hMore p todo' w' hp hr hb hs hen)

/-- 'm[k] = v'. -/
theorem wpListIn_k_store [DecidableEq K] (S : KShape P k ek) {F : Fence} {n : Nat} {w : World} {ops : Array Oper} {rest : List Oper} {o : Oper} {a : Act} {Q : Exit → Act → World → Prop} (hg : o.guard = none) (m x v : Operand) (t : TypeId)
    (hop : o.op = Op.mapUpdate t m x v) (ht : P.underlying t = some (.map k e)) (b : Nat) (L : List (K × V)) (hm : a.eval m = .map (some b)) (h : KMap ek ev w b L) (key : K) (hx : a.eval x = ek key) (val : V) (hv : a.eval v = ev val)
    (hK : ∀ w', Hid (KMap ek ev w' b ((key, val) :: offL L key)) → Hid (But (fun i => i = b) w w') → Hid (w'.heap.size = w.heap.size) → wpListIn F n P ops Q rest (a.put o.dst undef) w') : wpListIn F n P ops Q (o :: rest) a w := by
  refine wpListIn_plain hg fun K' hK' => ?_
  obtain ⟨w', hrun, r1, r2, r3⟩ := h.store S ht key val
  unfold Oper.wpIn
  refine ⟨by simp [Oper.about, hop], ?_⟩
  rw [Oper.semAt_plain F _ _ (by rw [hop]; intro c hc'; cases hc')]
  simp [execOp, hop, hm, hx, hv, hrun, Result.andThen]
  exact hK' _ _ (hK w' r1 r2 r3)

end
end Go.Proofs.YthcmgaibbpacfaaGreatDoor

/-
  The library's maps.Values and slices.AppendSeq, Collect and SortedFunc as the landed graph calls them: at a map of inodes.
-/
namespace Go.Proofs.YthcmgaibbpacfaaGreatDoor
open Go.RowKit StampMath GraphMath

attribute [local go_sem] Oper.semAt_some

/-- What a round hands on: an inode. -/
abbrev handed (x : Ino) : Array Value := #[.agg (inoA x)]

set_option maxHeartbeats 1000000 in
theorem values_code (b : Nat) (w : World) :
    Calls Tryz.prog 57 #[.map (some b)] w fun e w' => e = .returned (.func (.func 87) #[] #[.pointer (some ⟨w.heap.size, 0, none⟩)]) ∧ w' = w.alloc (.cells #[.map (some b)] 93) := by
  go_enter Tryz.func57, Tryz.ntmps57
  go_wp2_with fail
  go_ret
  exact ⟨rfl, rfl⟩

set_option maxRecDepth 100000 in
set_option maxHeartbeats 2000000 in
theorem values_in (n : Nat) (hn : 1 ≤ n) (l Bm b : Nat) (L : List (St × Ino)) (J Jx : List Ino → World → Prop) (W0 : World) (hJ : AbidesFrom W0.heap.size J)
    (hY : ∀ pre x W, J pre W → pre.length < 1001 → YieldAt Fence.wide (n - 1) Tryz.prog l (handed x) W fun e W' =>
      (e = .returned (.bool true) ∧ J (pre ++ [x]) W' ∧ KeepsWalks W W') ∨ (e = .returned (.bool false) ∧ Jx (pre ++ [x]) W'))
    (hm : W0.cell? ⟨Bm, 0, none⟩ = some (.map (some b))) (hown : KMap stV inoV W0 b L) (hL : L.length ≤ 1000) (h0 : J [] W0) :
    CallsIn Fence.wide n Tryz.prog 87 #[.func (.yield l) #[] #[], .pointer (some ⟨Bm, 0, none⟩)] W0 fun e W' => (∃ v, e = .returned v) ∧
      ((∃ ys : List Ino, ys.Perm (L.map Prod.snd) ∧ J ys W') ∨ (∃ pre, True ∧ Jx pre W')) := by
  have HO := Lib.hid hown
  have HJ := Lib.hid hJ
  have HLn := Lib.hid hL
  clear hown hJ hL
  refine callsIn_of_wp Tryz.func87 rfl trivial ?_ rfl
  simp only [Tryz.ntmps87, List.size_toArray, List.length_cons, List.length_nil, Nat.reduceAdd, Nat.reduceSub, Array.replicate_succ, Array.replicate_zero, List.push_toArray, List.append_toArray, List.nil_append, List.cons_append]
  gi_wp2_with (gi_at_range; refine wpListIn_k_range (by rfl) _ _ (by rfl) Tryz.underlying93 b _ (by rfl) HO.out ?_; intro w1 HR1 HB1 HS1)
  go_frame
  gi_loopg [] (L.length + 1) (fun gk wr => ∃ (done todo : List (St × Ino)), gk = todo.length + 1 ∧ Hid (KRange stV inoV wr b W0.heap.size L todo) ∧ Hid ((done ++ todo).Perm L) ∧ Hid (J (done.map Prod.snd) wr))
  case atStart =>
    exact ⟨[], L, rfl, HR1, List.Perm.refl _, HJ.out [] W0 w1 none h0 ⟨HB1.out.os, HB1.out.tape, HB1.out.output, HB1.out.size, fun q hq _ => HB1.out.block q hq⟩ (fun r e => by cases e)⟩
  case round =>
    obtain ⟨done, todo, rfl, hR, hP, hJs⟩ := hrel
    clear HR1 HB1 HS1
    gi_wp2_with (gi_at_next; refine wpListIn_k_next (by rfl) _ (by rfl) b W0.heap.size _ _ (by rfl) hR.out ?_ ?_)
    · intro ht
      gi_wp2_with fail
      go_end0
      refine ⟨⟨_, rfl⟩, .inl ⟨done.map Prod.snd, ?_, hJs.out⟩⟩
      have h5 := hP.out
      rw [ht, List.append_nil] at h5
      exact h5.map _
    · intro t r x todo' w2 hp hR2 hB2 hs2 hen
      have hlen2 := hp.out.length_eq
      simp only [List.length_cons] at hlen2
      have hlen3 : done.length + todo.length = L.length := by have := hP.out.length_eq; rwa [List.length_append] at this
      have hJ2 : J (done.map Prod.snd) w2 := HJ.out _ wr w2 (some W0.heap.size) hJs.out ⟨hB2.out.os, hB2.out.tape, hB2.out.output, hB2.out.size, fun i hi hne => hB2.out.block i hi fun q => hne (by rw [q])⟩ (fun r e => by cases e; exact ⟨Nat.le_refl _, hR.out.iter_walk⟩)
      have hJ3 : J (done.map Prod.snd) (w2.alloc (.cells (inoA x) 70)) := HJ.out _ w2 _ none hJ2 (World.grownBy_alloc w2 _ none) (fun r e => by cases e)
      have hR3 : KRange stV inoV (w2.alloc (.cells (inoA x) 70)) b W0.heap.size L todo' := hR2.out.walks (KeepsWalks.alloc _ _)
      have HP2 : Hid ((done ++ [((t, r), x)] ++ todo').Perm L) := by
        have e1 : (done ++ todo).Perm (done ++ (((t, r), x) :: todo')) := hp.out.append_left _
        show (done ++ [((t, r), x)] ++ todo').Perm _
        rw [List.append_assoc]
        exact e1.symm.trans hP.out
      have HJm : Hid (∀ W, J (done.map Prod.snd ++ [x]) W → J ((done ++ [((t, r), x)]).map Prod.snd) W) := fun W h => by rw [List.map_append]; exact h
      have hy0 := hY (done.map Prod.snd) x (w2.alloc (.cells (inoA x) 70)) hJ3 (by rw [List.length_map]; have := HLn.out; omega)
      have HR3 := Lib.hid hR3
      have hJ3' := Lib.hid hJ3
      obtain ⟨⟨i1, i2⟩, xk, xl, xm, xd⟩ := x
      obtain ⟨fn, tmps, assign, body, hy, hRd⟩ := hy0
      simp only [stV, stA, inoV, inoA, handed] at hen hy ⊢
      have HRd := Lib.hid hRd
      clear hJ2 hJ3 hR3 hRd hR hP hB2 hs2 hR2 hp hJs
      gi_wp2_with fail
      refine HRd.out.mono ?_
      rintro e W3 (⟨rfl, hJ4, hk3⟩ | ⟨rfl, hJx3⟩)
      · have hR4 := HR3.out.walks hk3
        clear hy
        gi_wp2_with fail
        gi_roundg (todo'.length + 1)
        case measure => omega
        case rel => exact ⟨done ++ [((t, r), Ino.mk (i1, i2) xk xl xm xd)], todo', rfl, hR4, HP2.out, HJm.out _ hJ4⟩
      · clear hy
        gi_wp2_with fail
        refine bodyPost_ret (results_none rfl _ _ _) rfl ?_
        exact ⟨⟨_, rfl⟩, .inr ⟨_, trivial, hJx3⟩⟩

theorem values_stops (n : Nat) (hn : 1 ≤ n) (Bm b : Nat) (L : List (St × Ino)) (hL : L.length ≤ 1000) (w : World) (hm : w.heap[Bm]? = some (.cells #[.map (some b)] 93 (0, 0))) (hown : KMap stV inoV w b L) :
    SeqStopsK Fence.wide n Tryz.prog 87 #[.pointer (some ⟨Bm, 0, none⟩)] handed KeepsWalks (fun ys => ys.Perm (L.map Prod.snd)) (fun _ => True) 1001 w := fun l J Jx W hW hJ _ hY h0 =>
  values_in n hn l Bm b L J Jx W hJ hY (cell_of_row _ _ 0 _ _ (0, 0) ((hW.block Bm (heap_lt hm)).trans hm)) (hown.kept (hW.block b hown.lt)) hL h0

end Go.Proofs.YthcmgaibbpacfaaGreatDoor

/-
  The landed graph's Inodes: slices.SortedFunc over maps.Values.
-/
namespace Go.Proofs.YthcmgaibbpacfaaGreatDoor
open Go.RowKit StampMath GraphMath

set_option maxRecDepth 100000 in
theorem inoClosure_grown (x y : Ino) (w : World) :
    Calls Tryz.prog 58 #[.agg (inoA x), .agg (inoA y)] w fun e w' => e = .returned (.int .i64 (inoI x y)) ∧ Grown w w' := by
  obtain ⟨⟨xd1, xd2⟩, xk, xl, xm, xd⟩ := x
  obtain ⟨⟨yd1, yd2⟩, yk, yl, ym, yd⟩ := y
  unfold inoA inoI
  obtain ⟨c, hc⟩ : ∃ c, c = cmp xd1 xd2 yd1 yd2 := ⟨_, rfl⟩
  simp only [← hc]
  have HC : Hid (∀ W : World, Calls Tryz.prog 59 #[.agg #[.int .i64 xd1, .int .i64 xd2], .agg #[.int .i64 yd1, .int .i64 yd2]] W fun e w' => e = .returned (.int .i64 c) ∧ Grown W w') := fun W => by rw [hc]; exact compare_grown _ _ _ _ W
  clear hc
  go_enter Tryz.func58, Tryz.ntmps58
  go_wp2_with fail
  refine (HC.out _).mono ?_
  rintro e w1 ⟨rfl, hg1⟩
  go_wp2_with fail
  go_ret
  exact ⟨rfl, (((Grown.refl _).alloc _).alloc _).trans hg1⟩

section
attribute [local go_sem] Oper.semAt_some

/-- A box below the row's base is as it was behind an append. -/
theorem box_appended {W w1 : World} {base B k n : Nat} {t e : TypeId} {u v : Value} {xs : List Value} {tmp : Obj} (hb : Boxed W B t u) (hlt : B < base) (hrow : W.ownsRow base e k v n xs) (hgrow : (W.alloc tmp).grownBy w1 v.ownBlock) : Boxed w1 B t u :=
  (hb.alloc tmp).kept hgrow fun q => by have := (hrow.lt B q.symm).1; omega

/-- What a round of AppendSeq's loop holds: its own inode in a box. -/
def RoundAt (sv : Value) (B : Nat) (x : Ino) (a : Act) (W : World) : Prop :=
  ∃ q, a = { tmps := #[.slice none 0 0, sv, .pointer (some ⟨B, 0, none⟩), undef, .slice none 0 0, .pointer (some ⟨q, 0, none⟩), sv, .agg (inoA x), undef, undef, undef, undef, undef], defers := [] } ∧ W.heap[q]? = some (.cells (inoA x) 70 (0, 0))

theorem round_own (sv : Value) (B B0 : Nat) (x : Ino) (a : Act) : OwnFrom B0 (fun (_ : Unit) W => RoundAt sv B x a W) := by
  rintro _ W W' row ⟨q, ha, hq⟩ hg hr
  refine ⟨q, ha, (hg.block q (heap_lt hq) fun e => ?_).trans hq⟩
  obtain ⟨_, o, ho, hc⟩ := hr q e.symm
  rw [hq] at ho
  cases ho
  cases hc

set_option maxRecDepth 100000 in
set_option maxHeartbeats 2000000 in
theorem appendSeq_code (bm b : Nat) (L : List (St × Ino)) (hL : L.length ≤ 1000) (w : World) (hbm : w.heap[bm]? = some (.cells #[.map (some b)] 93 (0, 0))) (hown : KMap stV inoV w b L) :
    Calls Tryz.prog 110 #[.slice none 0 0, .func (.func 87) #[] #[.pointer (some ⟨bm, 0, none⟩)]] w fun e w' =>
      ∃ (v : Value) (ys : List Ino), e = .returned v ∧ ys.Perm (L.map Prod.snd) ∧ w'.ownsRow w.heap.size 70 6 v ys.length (flat (ys.map inoA)) ∧ Below w.heap.size w w' := by
  obtain ⟨i0, hi0, hz0, hz1, hz2⟩ := info_parts ino_infos
  refine (callsIn_wide (n := 5)).1 ?_
  refine callsIn_of_wp_marks Tryz.func110 rfl trivial ?_ rfl
  simp only [Tryz.ntmps110, List.size_toArray, List.length_cons, List.length_nil, Nat.reduceAdd, Nat.reduceSub, Array.replicate_succ, Array.replicate_zero, List.push_toArray, List.append_toArray, List.nil_append, List.cons_append]
  gi_wp2_with fail
  have b1 := Boxed.new w 32 (.slice none 0 0)
  have hB0 := (Below.refl w.heap.size w).alloc (Nat.le_refl _) (.cells #[.slice none 0 0] 32)
  obtain ⟨W0, hW0⟩ : ∃ W0, w.alloc (.cells #[.slice none 0 0] 32) = W0 := ⟨_, rfl⟩
  have hsz : W0.heap.size = w.heap.size + 1 := by rw [← hW0]; simp
  rw [hW0] at b1 hB0 ⊢
  clear hW0
  refine wpIn_rangeFunc_ownH rfl (by decide) (gf := 87) (lb := #[.pointer (some ⟨bm, 0, none⟩)]) rfl trivial (enters_of Tryz.func87 (by kernel_rfl) rfl)
    (values_stops (5 - 1) (by decide) bm b L hL W0 ((hB0.block bm (heap_lt hbm)).trans hbm) (hown.kept (hB0.block b hown.lt))) (fun h k => KeepsWalks.trans h k) (fun W l o o' _ hl _ ho => KeepsWalks.putObj o' hl ho) (Below.refl _ _) (fun _ => rfl)
    (fun (pre : List Ino) W => (∃ v, Boxed W w.heap.size 32 v ∧ W.ownsRow (w.heap.size + 1) 70 6 v pre.length (flat (pre.map inoA)) ∧ True) ∧ Below w.heap.size w W)
    (fun _ _ _ => False)
    (OwnFrom.and (Own.from (holdsRow_own (w.heap.size + 1) w.heap.size 32 70 6 (fun pre : List Ino => pre.length) (fun pre => flat (pre.map inoA)) (fun _ _ => True)) _) (ownFrom_below (Nat.le_refl _) (by omega)))
    (fun _ _ _ _ _ hs _ _ => hs)
    ⟨⟨_, b1, World.ownsRow_nil _ _ _ _, trivial⟩, hB0⟩
    (fun x a' W => RoundAt (.func (.func 87) #[] #[.pointer (some ⟨bm, 0, none⟩)]) w.heap.size x a' W) (fun x a' => round_own _ _ _ x a') ?assign ?body ?done ?stop
  case assign =>
    rintro l pre x W K ⟨⟨v, hv, hrow, _⟩, hB⟩ hK
    have hK' := hK { tmps := #[.slice none 0 0, .func (.func 87) #[] #[.pointer (some ⟨bm, 0, none⟩)], .pointer (some ⟨w.heap.size, 0, none⟩), undef, .slice none 0 0, .pointer (some ⟨W.heap.size, 0, none⟩), .func (.func 87) #[] #[.pointer (some ⟨bm, 0, none⟩)], .agg (inoA x), undef, undef, undef, undef, undef], defers := [] } (W.alloc (.cells (inoA x) 70))
      ((KeepsOthers.alloc _ _).from _) (KeepsWalks.alloc _ _) ⟨⟨v, hv.alloc _, hrow.alloc _, trivial⟩, hB.alloc hB.size _⟩ ⟨W.heap.size, rfl, heap_alloc_new _ _⟩
    have HK := Lib.hid hK'
    clear hK hK'
    obtain ⟨⟨i1, i2⟩, xk, xl, xm, xd⟩ := x
    simp only [handed, inoA] at HK ⊢
    gi_wp2_with fail
    exact HK.out
  case body =>
    rintro l pre x a' W hl _ ⟨⟨v, hv, hrow, _⟩, hB⟩ ⟨q, rfl, hq⟩ hlt
    have hc := hv.cell
    have hsz2 := hB.size
    have hm : pre.length + 1 ≤ maxLen := by unfold maxLen; omega
    have hlow := heap_lt hq
    have hlow2 := hv.lt
    have HW := Lib.hid (row_there W 70 (inoA x))
    have HO := Lib.hid (ino_one x)
    obtain ⟨x0, x1, x2, x3, x4, x5⟩ := ino_cells hq
    have HF := Lib.hid (flat_ino pre x)
    obtain ⟨⟨i1, i2⟩, xk, xl, xm, xd⟩ := x
    unfold inoA at HW HO ⊢
    gi_wp2_with (gi_at_builtin; refine wpListIn_append_own _ rfl _ _ 32 rfl (w.heap.size + 1) 70 i0 _ 6 56 Tryz.underlying32 hi0 hz0 hz1 hz2 rfl (by decide) _ _ _ rfl (hrow.alloc _) ⟨W.heap.size, 0, none⟩ 1 1 (inoA ⟨(i1, i2), xk, xl, xm, xd⟩).toList rfl rfl HW.out HO.out hm (by omega) (by simp; omega) ?_; intro v' w1 hown' hgrow _; obtain ⟨g', cap', rfl⟩ := ownsRow_succ hown'; have hv1 := box_appended hv (by omega) hrow hgrow; have hc1 := hv1.cell; have hf1 := hv1.frozen)
    have hg : (W.alloc (.cells (inoA ⟨(i1, i2), xk, xl, xm, xd⟩) 70)).grownBy w1 v.ownBlock := hgrow
    obtain ⟨_, a2, a3, a4, a5⟩ := hv.appended (n₀ := w.heap.size) (by decide) (own_lower hrow (Nat.le_succ _)) hsz2 (Nat.le_refl _) (own_lower hown' (Nat.le_succ _)) hg
    have hr2 := hown'.kept (grownBy_setCell' w1 w.heap.size (.slice (some ⟨g', 0, none⟩) (pre.length + 1) cap')) (.inr (hv1.not_row (by decide) hown').symm)
    have hr3 : (w1.setCell ⟨w.heap.size, 0, none⟩ (.slice (some ⟨g', 0, none⟩) (pre.length + 1) cap')).ownsRow (w.heap.size + 1) 70 6 (.slice (some ⟨g', 0, none⟩) (pre.length + 1) cap') (pre ++ [Ino.mk (i1, i2) xk xl xm xd]).length (flat ((pre ++ [Ino.mk (i1, i2) xk xl xm xd]).map inoA)) := by
      rw [List.length_append, ← HF.out]
      exact hr2
    exact ⟨a4.from _, a4.walks, ⟨_, a2, hr3⟩, hB.trans a5⟩
  case done =>
    rintro D ys W hD hS ⟨⟨v, hv, hrow, _⟩, hB⟩ hK
    have hc := hv.cell
    gi_wp2_with fail
    refine ⟨by simp, .inl ⟨_, _, rfl, run_takeDeferred hK, ?_⟩⟩
    have hrow2 := ownsRow_putObj hrow (.deferred none) hK rfl
    have hB2 := hB.trans (belowK_b (n₀ := w.heap.size) (w := w) (Nat.le_refl _) W D _ (.deferred none) (by omega) hK rfl rfl)
    exact ⟨_, results_tmp rfl _ _ _, v, ys, rfl, hS, own_lower hrow2 (Nat.le_succ _), hB2⟩
  case stop =>
    rintro D c pre W _ _ h _
    exact h.elim
end

set_option maxRecDepth 100000 in
theorem collect_code (bm b : Nat) (L : List (St × Ino)) (hL : L.length ≤ 1000) (w : World) (hbm : w.heap[bm]? = some (.cells #[.map (some b)] 93 (0, 0))) (hown : KMap stV inoV w b L) :
    Calls Tryz.prog 85 #[.func (.func 87) #[] #[.pointer (some ⟨bm, 0, none⟩)]] w fun e w' =>
      ∃ (v : Value) (ys : List Ino), e = .returned v ∧ ys.Perm (L.map Prod.snd) ∧ w'.ownsRow w.heap.size 70 6 v ys.length (flat (ys.map inoA)) ∧ Below w.heap.size w w' := by
  have HA := Lib.hid (appendSeq_code bm b L hL w hbm hown)
  clear hown hbm
  go_enter Tryz.func85, Tryz.ntmps85
  go_wp2_with fail
  refine HA.out.mono ?_
  rintro e w' ⟨v, ys, rfl, h1, h2, h3⟩
  go_wp2_with fail
  go_ret
  exact ⟨v, ys, rfl, h1, h2, h3⟩

set_option maxRecDepth 100000 in
theorem sortedFunc_code (bm b : Nat) (L : List (St × Ino)) (hL : L.length ≤ 1000) (I : List Ino) (hI : I.Pairwise fun a b => lessS a.id b.id = true) (hp : (L.map Prod.snd).Perm I) (w : World) (hbm : w.heap[bm]? = some (.cells #[.map (some b)] 93 (0, 0))) (hown : KMap stV inoV w b L) :
    Calls Tryz.prog 56 #[.func (.func 87) #[] #[.pointer (some ⟨bm, 0, none⟩)], .func (.func 58) #[] #[]] w (InosNew I w) := by
  have HA := Lib.hid (collect_code bm b L hL w hbm hown)
  have HI := Lib.hid hI
  have HP := Lib.hid hp
  clear hown hbm hI hp
  go_enter Tryz.func56, Tryz.ntmps56
  go_wp2_with fail
  refine HA.out.mono ?_
  rintro e wr ⟨v, ys, rfl, hy, hown, hB⟩
  have h1000 : ys.length < 4611686018427387904 := by
    have := hy.length_eq
    rw [List.length_map] at this
    omega
  have HY := Lib.hid hy
  clear hy
  have hs := sort_own (w := wr) Tryz.sortIno 6 Tryz.isAgg70 Tryz.sizeOf70 inoA (fun _ => rfl) ino_one inoI swo_inos 58 #[] (enters_of Tryz.func58 (by kernel_rfl) rfl)
    (fun W x y => (inoClosure_grown x y W).mono fun _ _ h => ⟨h.1, h.2.grow⟩) (rfl : ys.length = ys.length) hown h1000
  change Calls Tryz.prog 86 _ _ _ at hs
  have hrow := hown.lt
  clear hown
  have HS := Lib.hid hs
  clear hs
  go_wp2_with fail
  refine (HS.out).mono ?_
  rintro e w2 ⟨rfl, zs, hz, hsd, hown2, hbut⟩
  have hzs : zs = I := sorted_inos HI.out (hz.trans (HY.out.trans HP.out)) hsd
  have hl : ys.length = I.length := (HY.out.trans HP.out).length_eq
  rw [hzs, hl] at hown2
  clear hz hsd hzs
  go_wp2_with fail
  go_ret
  exact ⟨_, rfl, hown2, hB.trans (hbut.below (fun i hi => (hrow i hi).1) hB.size)⟩

set_option maxRecDepth 100000 in
theorem inodes_code (a : Addr) (S : Nat → Prop) (g : Gr) (w : World) (h : GIn w S a g) (hg : g.ok) :
    Calls Tryz.prog 25 #[.pointer (some a)] w (InosNew (inodesG g) w) := by
  obtain ⟨b, bi, be, rfl, h1, h2, h3, hb, hi, he, hS⟩ := h
  obtain ⟨c0, c1⟩ := two_cells hb
  have hlt := heap_lt hb
  have hlen : (pairsI g).length ≤ 1000 := by
    unfold pairsI
    rw [List.length_map, hg.inodes, List.length_map]
    exact Nat.le_trans hg.few (by decide)
  have hgE : (inodesG g).Pairwise fun a b => lessS a.id b.id = true := by
    rw [hg.inodes]
    exact List.pairwise_map.2 hg.sortI
  have hp : ((pairsI g).map Prod.snd).Perm (inodesG g) := by
    unfold pairsI
    rw [List.map_map, show Prod.snd ∘ (fun x : Ino => (x.id, x)) = id from rfl, List.map_id]
  have HQ : Hid (∀ W, Below w.heap.size w W → ∀ B, W.heap[B]? = some (.cells #[.map (some bi)] 93 (0, 0)) → Calls Tryz.prog 56 #[.func (.func 87) #[] #[.pointer (some ⟨B, 0, none⟩)], .func (.func 58) #[] #[]] W (InosNew (inodesG g) W)) :=
    fun W hW B hB => sortedFunc_code B bi (pairsI g) hlen (inodesG g) hgE hp W hB (hi.kept (hW.block bi hi.lt))
  clear hi he hb hS hlen hgE hp hg
  go_enter Tryz.func25, Tryz.ntmps25
  go_wp2_with fail
  refine (values_code bi w).mono ?_
  rintro e w' ⟨rfl, rfl⟩
  have hb1 := (Below.refl w.heap.size w).alloc (Nat.le_refl _) (.cells #[.map (some bi)] 93)
  go_wp2_with fail
  refine (HQ.out _ hb1 _ (heap_alloc_new _ _)).mono ?_
  rintro e w2 ⟨v, rfl, hown, hb⟩
  go_wp2_with fail
  go_ret
  exact ⟨v, rfl, own_lower hown hb1.size, below_step hb1 hb⟩

end Go.Proofs.YthcmgaibbpacfaaGreatDoor

/-
  The landed graph's Make.
-/
namespace Go.Proofs.YthcmgaibbpacfaaGreatDoor
open Go.RowKit StampMath GraphMath

set_option maxRecDepth 100000 in
set_option maxHeartbeats 1600000 in
theorem make_code (a : Addr) (S : Nat → Prop) (g : Gr) (id : St) (kind : Int) (w : World) (h : GIn w S a g) (hg : g.ok) :
    Calls Tryz.prog 53 #[.pointer (some a), .agg (stA id), .int .i64 kind] w fun e w' => e = .returned (.int .i64 (makeG g id kind).2) ∧ GIn w' S a (makeG g id kind).1 ∧ But S w w' := by
  have HM : Hid (∀ W : World, Calls Tryz.prog 83 #[.agg #[.int .i64 id.1, .int .i64 id.2]] W fun e w' => e = .returned (.bool (mayB id.1 id.2)) ∧ Below W.heap.size W w') := fun W => may_any _ _ W
  have HRt : Hid (∀ W : World, Calls Tryz.prog 48 #[] W fun e w' => e = .returned (.agg #[.int .i64 0, .int .i64 0]) ∧ Below W.heap.size W w') := root_any
  have hGet : ∀ (x : St) (W : World), Below w.heap.size w W → Calls Tryz.prog 81 #[.pointer (some a), .agg #[.int .i64 x.1, .int .i64 x.2]] W fun e w' => e = .returned (.tuple #[.agg (inoA ((getG g x).getD noIno)), .bool (getG g x).isSome]) ∧ Below W.heap.size W w' := fun x W hW => get_code a S g x W (h.keep fun i hi => hW.block i (h.lt i hi)) hg
  obtain ⟨R, hR⟩ : ∃ R, getG g (0, 0) = some R := by
    obtain ⟨y, hy, hyi, _⟩ := hg.root
    exact ⟨_, by rw [← hyi]; exact hg.get hy⟩
  have HGR : Hid (∀ W : World, Below w.heap.size w W → Calls Tryz.prog 81 #[.pointer (some a), .agg #[.int .i64 0, .int .i64 0]] W fun e w' => e = .returned (.tuple #[.agg #[.int .i64 R.id.1, .int .i64 R.id.2, .int .i64 R.kind, .int .i64 R.links, .int .i64 R.mode, .string R.data], .bool true]) ∧ Below W.heap.size W w') := fun W hW => by
    have := hGet (0, 0) W hW
    rw [hR] at this
    exact this
  clear hR
  obtain ⟨m, hm⟩ : ∃ m, m = mayB id.1 id.2 := ⟨_, rfl⟩
  by_cases c1 : mayB id.1 id.2 = false ∨ kind < 1 ∨ 3 < kind
  · have e1 : makeG g id kind = (g, 1) := by unfold makeG; rw [if_pos c1]
    rw [e1]
    have hG := Lib.hid h
    have hltS := Lib.hid h.lt
    clear h hGet HGR
    rw [← hm] at c1 HM
    clear hm e1
    have c1' : (m = false) ∨ (m = true ∧ kind < 1) ∨ (m = true ∧ ¬ kind < 1 ∧ 3 < kind) := by
      cases m
      · exact Or.inl rfl
      · by_cases q : kind < 1
        · exact Or.inr (Or.inl ⟨rfl, q⟩)
        · refine Or.inr (Or.inr ⟨rfl, q, ?_⟩)
          rcases c1 with h | h | h
          · cases h
          · exact absurd h q
          · exact h
    clear c1
    unfold stA
    rcases c1' with rfl | ⟨rfl, k1⟩ | ⟨rfl, k1, k3⟩
    all_goals
      go_enter Tryz.func53, Tryz.ntmps53
      go_wp2_with fail
      refine (HM.out _).mono ?_
      rintro e w1 ⟨rfl, hb1⟩
      go_wp2_with fail
      go_ret
      have hb : Below w.heap.size w w1 := below_step ((Below.refl _ _).alloc (Nat.le_refl _) _) hb1
      exact ⟨rfl, hG.out.keep fun i hi => hb.block i (hltS.out i hi), But.of_below hb⟩
  · have c1' : m = true ∧ ¬ kind < 1 ∧ ¬ 3 < kind := by
      rw [← hm] at c1
      refine ⟨?_, fun q => c1 (Or.inr (Or.inl q)), fun q => c1 (Or.inr (Or.inr q))⟩
      cases m
      · exact absurd (Or.inl rfl) c1
      · rfl
    rw [← hm] at HM
    obtain ⟨rfl, k1, k3⟩ := c1'
    have hmk : makeG g id kind = if (getG g id).isSome then (g, 4) else if 40 ≤ g.I.length then (g, 13) else (⟨putIn (fun x => lessS x.id id) g.I ⟨id, kind, 0, 0, ⟨#[]⟩⟩, g.E⟩, 0) := by
      unfold makeG
      rw [if_neg c1]
    clear hm
    obtain ⟨ok, hok⟩ : ∃ ok, ok = (getG g id).isSome := ⟨_, rfl⟩
    obtain ⟨X, hX⟩ : ∃ X, X = (getG g id).getD noIno := ⟨_, rfl⟩
    have HGI : Hid (∀ W : World, Below w.heap.size w W → Calls Tryz.prog 81 #[.pointer (some a), .agg #[.int .i64 id.1, .int .i64 id.2]] W fun e w' => e = .returned (.tuple #[.agg #[.int .i64 X.id.1, .int .i64 X.id.2, .int .i64 X.kind, .int .i64 X.links, .int .i64 X.mode, .string X.data], .bool ok]) ∧ Below W.heap.size W w') := fun W hW => by
      rw [hX, hok]
      exact hGet id W hW
    have hG := Lib.hid h
    obtain ⟨b, bi, be, rfl, h1, h2, h3, hb, hi, he, hS⟩ := h
    obtain ⟨d0, d1⟩ := two_cells hb
    have hlt := heap_lt hb
    have HBlk := Lib.hid hb
    have HI := Lib.hid hi
    have HE := Lib.hid he
    have HS := Lib.hid hS
    have HK := Lib.hid hmk
    have HO : Hid (ok = (getG g id).isSome) := hok
    have hb0 : Below w.heap.size w (w.alloc (.cells #[.int .i64 id.1, .int .i64 id.2] 24)) := (Below.refl _ _).alloc (Nat.le_refl _) _
    clear hi he hb hS c1 hmk hok hX hGet d1
    unfold stA
    go_enter Tryz.func53, Tryz.ntmps53
    go_wp2_with fail
    refine (HM.out _).mono ?_
    rintro e w1 ⟨rfl, hb1⟩
    have q0 : w1.heap[w.heap.size]? = some (.cells #[.int .i64 id.1, .int .i64 id.2] 24 (0, 0)) := (hb1.block _ (by simp)).trans (heap_alloc_new w _)
    have hb2 := below_step hb0 hb1
    clear hb0 hb1 HM
    go_wp2_with fail
    refine (HRt.out _).mono ?_
    rintro e w2 ⟨rfl, hb3⟩
    have q1 := (hb3.block _ (heap_lt q0)).trans q0
    have hb4 := below_step hb2 hb3
    clear q0 hb2 hb3 HRt
    go_wp2_with fail
    refine (HGR.out _ hb4).mono ?_
    rintro e w3 ⟨rfl, hb5⟩
    have q2 := (hb5.block _ (heap_lt q1)).trans q1
    have hb6 := below_step hb4 hb5
    clear q1 hb4 hb5 HGR
    go_upto_region 4 with fail
    change Code.wp _ _ _ _ (w3.alloc (.cells (inoA R) 70))
    have q3 := (heap_alloc_old w3 (.cells (inoA R) 70) (heap_lt q2)).trans q2
    have hb7 := hb6.alloc hb6.size (.cells (inoA R) 70)
    generalize w3.alloc (.cells (inoA R) 70) = w4 at q3 hb7 ⊢
    clear q2 hb6
    obtain ⟨x0, x1⟩ := two_cells q3
    go_wp2_with fail
    refine (HGI.out _ hb7).mono ?_
    rintro e w5 ⟨rfl, hb8⟩
    have q4 := (hb8.block _ (heap_lt q3)).trans q3
    have hb9 := below_step hb7 hb8
    clear q3 hb7 hb8 HGI x0 x1
    go_upto_region 7 with fail
    change Code.wp _ _ _ _ (w5.alloc (.cells (inoA X) 70))
    have q5 := (heap_alloc_old w5 (.cells (inoA X) 70) (heap_lt q4)).trans q4
    have hb10 := hb9.alloc hb9.size (.cells (inoA X) 70)
    generalize w5.alloc (.cells (inoA X) 70) = w6 at q5 hb10 ⊢
    clear q4 hb9
    obtain ⟨x0, x1⟩ := two_cells q5
    have d0w := (hb10.cell (p := ⟨b, 0, none⟩) hlt).trans d0
    cases ok with
    | true =>
      go_wp2_with fail
      go_ret
      rw [HK.out, if_pos HO.out.symm]
      exact ⟨rfl, hG.out.keep fun i hi => hb10.block i (hG.out.lt i hi), But.of_below hb10⟩
    | false =>
      have hln := (HI.out.kept (hb10.block bi HI.out.lt)).len (P := Tryz.prog) Tryz.underlying93 3
      by_cases c3 : 40 ≤ g.I.length
      · have hlen : (40 : Int) ≤ ((pairsI g).length : Int) := by unfold pairsI; rw [List.length_map, hg.inodes, List.length_map]; omega
        generalize ((pairsI g).length : Int) = ln at hln hlen
        go_wp2_with fail
        go_ret
        rw [HK.out, if_neg (by rw [← HO.out]; simp), if_pos c3]
        exact ⟨rfl, hG.out.keep fun i hi => hb10.block i (hG.out.lt i hi), But.of_below hb10⟩
      · have hlen : ¬ (40 : Int) ≤ ((pairsI g).length : Int) := by unfold pairsI; rw [List.length_map, hg.inodes, List.length_map]; omega
        generalize ((pairsI g).length : Int) = ln at hln hlen
        obtain ⟨w7, hrun, hm7, hbut7, hsz7⟩ := (HI.out.kept (hb10.drew.block bi HI.out.lt)).store stShape Tryz.underlying93 id ⟨id, kind, 0, 0, ⟨#[]⟩⟩
        simp only [stV, stA, inoV, inoA] at hrun
        have HM7 := Lib.hid hm7
        have HB7 := Lib.hid hbut7
        have HB10 := Lib.hid hb10
        clear hm7 hbut7 hb10 q5 hsz7
        go_wp2_with fail
        go_region
        go_wp2_with fail
        go_ret
        have hb8 : But (fun i => i = bi) w w7 := (But.of_below HB10.out.drew).trans HB7.out fun i hi _ => hi
        have he : makeG g id kind = (⟨putIn (fun x => lessS x.id id) g.I ⟨id, kind, 0, 0, ⟨#[]⟩⟩, g.E⟩, 0) := by rw [HK.out, if_neg (by rw [← HO.out]; simp), if_neg c3]
        have h0 : (makeG g id kind).2 = 0 := by rw [he]
        have hok := hg.make id kind
        refine ⟨by rw [h0]; rfl, ⟨b, bi, be, rfl, h1, h2, h3, ?_, ?_, ?_, HS.out⟩, hb8.mono fun i hi => (HS.out i).2 (Or.inr (Or.inl hi))⟩
        · exact hb8.heap HBlk.out (fun q => h1 q)
        · refine HM7.out.perm (put_perm (keys_pairsI hg) (keys_pairsI hok) fun k => ?_)
          rw [look_pairsI hok, look_pairsI hg, make_get hg h0]
        · have e1 : pairsE (makeG g id kind).1 = pairsE g := by unfold pairsE; rw [make_ents]
          rw [e1]
          exact HE.out.kept (hb8.block be HE.out.lt fun q => h3 q.symm)

end Go.Proofs.YthcmgaibbpacfaaGreatDoor

/-
  The landed graph's New.
-/
namespace Go.Proofs.YthcmgaibbpacfaaGreatDoor
open Go.RowKit StampMath GraphMath

theorem pairsI_new : pairsI newG = [((0, 0), ⟨(0, 0), 1, 0, 0, ⟨#[]⟩⟩)] := by rw [pairsI, new_okG.inodes]; rfl

set_option maxRecDepth 100000 in
theorem new_code (w : World) : Calls Tryz.prog 19 #[] w fun e w' => ∃ a S, e = .returned (.pointer (some a)) ∧ GIn w' S a newG ∧ (∀ i, S i → w.heap.size ≤ i) ∧ Below w.heap.size w w' := by
  have HR : Hid (∀ W : World, Calls Tryz.prog 48 #[] W fun e w' => e = .returned (.agg #[.int .i64 0, .int .i64 0]) ∧ Below W.heap.size W w') := root_any
  have hmk0 : (Instr.makeMap 93 none).run Tryz.prog w = .ok (.map (some w.heap.size)) (w.alloc (.map #[] 0)) := rfl
  have hb0 : Below w.heap.size w (w.alloc (.map #[] 0)) := (Below.refl _ _).alloc (Nat.le_refl _) _
  have HM0 := Lib.hid (KMap.made (ek := stV) (ev := inoV) w)
  go_enter Tryz.func19, Tryz.ntmps19
  go_wp2_with fail
  refine (HR.out _).mono ?_
  rintro e w1 ⟨rfl, hb1⟩
  have hm1 := Lib.hid (HM0.out.kept (hb1.block _ (by simp)))
  have hb2 := below_step hb0 hb1
  have hz1 : w.heap.size < w1.heap.size := hm1.out.lt
  clear hmk0 hb0 hb1 HM0
  go_wp2_with fail
  refine (HR.out _).mono ?_
  rintro e w2 ⟨rfl, hb3⟩
  have hm2 := hm1.out.kept (hb3.block _ hz1)
  have hb4 := below_step hb2 hb3
  have hz2 : w.heap.size < w2.heap.size := hm2.lt
  clear hm1 hb2 hb3 hz1
  obtain ⟨w3, hrun, hm3, hbut, hsz⟩ := hm2.store stShape Tryz.underlying93 (0, 0) ⟨(0, 0), 1, 0, 0, ⟨#[]⟩⟩
  simp only [stV, stA, inoV, inoA] at hrun
  have hb5 : Below w.heap.size w w3 := hb4.trans (hbut.below (fun i hi => by omega) (by omega))
  have HM := Lib.hid hm3
  have HB := Lib.hid hb5
  have hz3 : w.heap.size < w3.heap.size := by rw [hsz]; exact hz2
  clear hm2 hb4 hz2 hm3 hbut hb5 hsz
  have hmk1 : (Instr.makeMap 94 none).run Tryz.prog w3 = .ok (.map (some w3.heap.size)) (w3.alloc (.map #[] 0)) := rfl
  go_wp2_with fail
  go_ret
  refine ⟨⟨w3.heap.size + 1, 0, none⟩, fun i => i = w3.heap.size + 1 ∨ i = w.heap.size ∨ i = w3.heap.size, ?_, ⟨w3.heap.size + 1, w.heap.size, w3.heap.size, rfl, by omega, by omega, by omega, ?_, ?_, ?_, fun i => Iff.rfl⟩, fun i hi => by omega, ?_⟩
  · rfl
  · rw [show w3.heap.size + 1 = (w3.alloc (.map #[] 0)).heap.size by simp]
    exact heap_alloc_new _ _
  · have hk : KMap stV inoV w3 w.heap.size (pairsI newG) := by
      have := HM.out
      rw [pairsI_new]
      exact this
    refine hk.kept ?_
    rw [heap_alloc_old _ _ (by simp; omega), heap_alloc_old _ _ (by omega)]
  · have hk : KMap plV stV (w3.alloc (.map #[] 0)) w3.heap.size [] := KMap.made w3
    refine hk.kept ?_
    rw [heap_alloc_old _ _ (by simp)]
  · exact (HB.out.alloc HB.out.size _).alloc (by simp; omega) _

end Go.Proofs.YthcmgaibbpacfaaGreatDoor

/-
  The code of package graph (a draft): Look.
-/
namespace Go.Proofs.YthcmgaibbpacfaaGreatDoor
open Go.RowKit StampMath GraphMath

set_option maxRecDepth 100000 in
theorem look_code (a : Addr) (S : Nat → Prop) (g : Gr) (d : St) (nm : ByteArray) (w : World) (h : GIn w S a g) :
    Calls Tryz.prog 79 #[.pointer (some a), .agg (stA d), .string nm] w fun e w' => e = .returned (.tuple #[.agg (stA ((lookE g.E d nm).getD (0, 0))), .bool (lookE g.E d nm).isSome]) ∧ Below w.heap.size w w' := by
  obtain ⟨b, bi, be, rfl, h1, h2, h3, hb, hi, he, hS⟩ := h
  obtain ⟨c0, c1⟩ := two_cells hb
  obtain ⟨ok, hok⟩ : ∃ ok, ok = (lookE g.E d nm).isSome := ⟨_, rfl⟩
  obtain ⟨v, hv⟩ : ∃ v, v = (lookE g.E d nm).getD (0, 0) := ⟨_, rfl⟩
  rw [← hok, ← hv]
  have hlook : ∀ W : World, Hid (Below w.heap.size w W) → (Instr.lookup 94 (.map (some be)) (.agg #[.int .i64 d.1, .int .i64 d.2, .string nm]) true).run Tryz.prog W = .ok (.tuple #[.agg #[.int .i64 v.1, .int .i64 v.2], .bool ok]) W := fun W hW => by
    have hl := (he.kept (hW.out.block be he.lt)).look plShape Tryz.underlying94 (zeroSt W) (d, nm) true
    rw [look_pairsE, if_pos rfl, show ((lookE g.E d nm).map stV).getD (stV (0, 0)) = stV v by rw [hv]; cases lookE g.E d nm <;> rfl, ← hok] at hl
    exact hl
  have hlt := heap_lt hb
  have HL := Lib.hid hlook
  clear hi he hb hS hlook hok hv
  unfold stA
  go_enter Tryz.func79, Tryz.ntmps79
  go_wp2_with fail
  have hbW : Below w.heap.size w ((w.alloc (.cells #[.int .i64 d.1, .int .i64 d.2] 24)).alloc (.cells #[.int .i64 0, .int .i64 0] 24)) := ((Below.refl _ _).alloc (Nat.le_refl _) _).alloc (by simp) _
  have hb1 := (hbW.alloc hbW.size (.cells #[.int .i64 0, .int .i64 0] 24)).drew
  have d0 := (hb1.cell (p := ⟨b, 1, none⟩) hlt).trans c1
  have hl := HL.out _ hb1
  have c0w := (hbW.cell (p := ⟨b, 1, none⟩) hlt).trans c1
  have hl0 := HL.out _ hbW.drew
  have HB := Lib.hid hbW
  clear hbW hb1
  go_region
  all_goals clear d0 hl c0w hl0
  all_goals go_wp2_with fail
  all_goals exact bodyPost_ret (v := .tuple #[.agg (stA v), .bool ok]) (by simp [results, Tryz.results79, go_sem, stA]) rfl ⟨rfl, by
    repeat (first | exact Below.refl _ _ | apply Below.drew | refine Below.alloc ?_ (by simp <;> omega) _)⟩

end Go.Proofs.YthcmgaibbpacfaaGreatDoor

/-
  The landed graph's full and count.
-/
namespace Go.Proofs.YthcmgaibbpacfaaGreatDoor
open Go.RowKit StampMath GraphMath

/-- Can no more entries be of an inode? -/
def fullB (X : Ino) : Bool := if X.kind = 1 then decide (0 < X.links) else decide (6 ≤ X.links)

set_option maxRecDepth 100000 in
theorem full_code (X : Ino) (w : World) :
    Calls Tryz.prog 109 #[.agg #[.int .i64 X.id.1, .int .i64 X.id.2, .int .i64 X.kind, .int .i64 X.links, .int .i64 X.mode, .string X.data]] w fun e w' => e = .returned (.bool (fullB X)) ∧ Below w.heap.size w w' := by
  by_cases hk : X.kind = 1
  · have hv : Hid (fullB X = decide (0 < X.links)) := if_pos hk
    have hk' : (X.kind == 1) = true := beq_iff_eq.2 hk
    clear hk
    go_enter Tryz.func109, Tryz.ntmps109
    go_wp2_with fail
    go_ret
    exact ⟨by rw [hv.out]; rfl, (Below.refl _ _).alloc (Nat.le_refl _) _⟩
  · have hv : Hid (fullB X = decide (6 ≤ X.links)) := if_neg hk
    have hk' : (X.kind == 1) = false := beq_eq_false_iff_ne.2 hk
    clear hk
    go_enter Tryz.func109, Tryz.ntmps109
    go_wp2_with fail
    go_ret
    exact ⟨by rw [hv.out]; rfl, (Below.refl _ _).alloc (Nat.le_refl _) _⟩

set_option maxRecDepth 100000 in
set_option maxHeartbeats 1600000 in
theorem count_code (b bi be : Nat) (LI : List (St × Ino)) (id : St) (more : Int) (X : Ino) (w : World) (hb : w.heap[b]? = some (.cells #[.map (some bi), .map (some be)] 96 (0, 0))) (hi : KMap stV inoV w bi LI) (hX : lookL LI id = some X) (hwr : wrap64 (X.links + more) = X.links + more) :
    Calls Tryz.prog 80 #[.pointer (some ⟨b, 0, none⟩), .agg #[.int .i64 id.1, .int .i64 id.2], .int .i64 more] w fun e w' => e = .returned (.tuple #[]) ∧ KMap stV inoV w' bi ((id, { X with links := X.links + more }) :: offL LI id) ∧ But (fun i => i = bi) w w' := by
  obtain ⟨d0, d1⟩ := two_cells hb
  have hlt := heap_lt hb
  have hlook : ∀ W : World, Hid (Below w.heap.size w W) → (Instr.lookup 93 (.map (some bi)) (.agg #[.int .i64 id.1, .int .i64 id.2]) false).run Tryz.prog W = .ok (.agg #[.int .i64 X.id.1, .int .i64 X.id.2, .int .i64 X.kind, .int .i64 X.links, .int .i64 X.mode, .string X.data]) W := fun W hW => by
    have hl := (hi.kept (hW.out.block bi hi.lt)).look stShape Tryz.underlying93 (zeroIno W) id false
    rw [if_neg (by decide), hX] at hl
    exact hl
  have HL := Lib.hid hlook
  have HI := Lib.hid hi
  clear hlook hi hb hX d1
  go_enter Tryz.func80, Tryz.ntmps80
  go_upto_region 1 with fail
  obtain ⟨u, hu⟩ : ∃ u, u = w.heap.size := ⟨_, rfl⟩
  have q2 : (w.alloc (.cells #[.int .i64 id.1, .int .i64 id.2] 24)).heap[u]? = some (.cells #[.int .i64 id.1, .int .i64 id.2] 24 (0, 0)) := by rw [hu]; exact heap_alloc_new _ _
  have hsz : (w.alloc (.cells #[.int .i64 id.1, .int .i64 id.2] 24)).heap.size = u + 1 := by simp [hu]
  have hb3 : Below w.heap.size w (w.alloc (.cells #[.int .i64 id.1, .int .i64 id.2] 24)) := (Below.refl _ _).alloc (Nat.le_refl _) _
  have hlow : w.heap.size ≤ u := Nat.le_of_eq hu.symm
  rw [← hu]
  generalize w.alloc (.cells #[.int .i64 id.1, .int .i64 id.2] 24) = w2 at q2 hsz hb3 ⊢
  clear hu
  obtain ⟨x0, x1⟩ := two_cells q2
  have d0w := (hb3.cell (p := ⟨b, 0, none⟩) hlt).trans d0
  have hbC := (hb3.alloc hb3.size (.cells #[.int .i64 0, .int .i64 0, .int .i64 0, .int .i64 0, .int .i64 0, .string ⟨#[]⟩] 70)).drew
  have l0 := HL.out _ hb3.drew
  have l1 := HL.out _ hbC
  have d0c := (hbC.cell (p := ⟨b, 0, none⟩) hlt).trans d0
  have x0c : ((w2.alloc (.cells #[.int .i64 0, .int .i64 0, .int .i64 0, .int .i64 0, .int .i64 0, .string ⟨#[]⟩] 70)).drew).cell? ⟨u, 0, none⟩ = some (.int .i64 id.1) := (World.cell?_alloc_lt w2 _ _ (World.block_lt_of_cell? _ _ x0)).trans x0
  have x1c : ((w2.alloc (.cells #[.int .i64 0, .int .i64 0, .int .i64 0, .int .i64 0, .int .i64 0, .string ⟨#[]⟩] 70)).drew).cell? ⟨u, 1, none⟩ = some (.int .i64 id.2) := (World.cell?_alloc_lt w2 _ _ (World.block_lt_of_cell? _ _ x1)).trans x1
  have HB := Lib.hid hb3
  clear hbC hb3
  go_region
  all_goals clear l0 l1 d0c x0c x1c
  all_goals
    have q3 : ((w2.alloc (.cells #[.int .i64 X.id.1, .int .i64 X.id.2, .int .i64 X.kind, .int .i64 X.links, .int .i64 X.mode, .string X.data] 70)).drew).heap[u + 1]? = some (.cells (inoA X) 70 (0, 0)) := by rw [← hsz]; exact heap_alloc_new _ _
    have r2 : ((w2.alloc (.cells #[.int .i64 X.id.1, .int .i64 X.id.2, .int .i64 X.kind, .int .i64 X.links, .int .i64 X.mode, .string X.data] 70)).drew).heap[u]? = _ := (heap_alloc_old w2 _ (by omega)).trans q2
    have hb4 := (HB.out.alloc HB.out.size (.cells #[.int .i64 X.id.1, .int .i64 X.id.2, .int .i64 X.kind, .int .i64 X.links, .int .i64 X.mode, .string X.data] 70)).drew
    generalize ((w2.alloc (.cells #[.int .i64 X.id.1, .int .i64 X.id.2, .int .i64 X.kind, .int .i64 X.links, .int .i64 X.mode, .string X.data] 70)).drew) = w3 at q3 r2 hb4 ⊢
    clear q2 x0 x1 d0w HB hsz
    have q3l := (ino_cells q3).2.2.2.1
    have q3f := (ino_free q3).2.2.2.1
    have d0w := (hb4.cell (p := ⟨b, 0, none⟩) hlt).trans d0
    go_upto_region 3 with fail
    rw [hwr]
    have s3 : (w3.setCell ⟨u + 1, 3, none⟩ (.int .i64 (X.links + more))).heap[u + 1]? = some (.cells (inoA { X with links := X.links + more }) 70 (0, 0)) := heap_setCell_same _ _ _ _ _ _ q3
    have s2 : (w3.setCell ⟨u + 1, 3, none⟩ (.int .i64 (X.links + more))).heap[u]? = _ := (heap_setCell_other _ _ _ _ (by dsimp only; omega)).trans r2
    have hb5 := hb4.setCell (p := ⟨u + 1, 3, none⟩) (by dsimp only; omega) (.int .i64 (X.links + more))
    generalize w3.setCell ⟨u + 1, 3, none⟩ (.int .i64 (X.links + more)) = w4 at s2 s3 hb5 ⊢
    clear q3 r2 hb4 q3l q3f d0w
    obtain ⟨y0, y1, y2, y3, y4, y5⟩ := ino_cells s3
    obtain ⟨x0, x1⟩ := two_cells s2
    have d0w := (hb5.cell (p := ⟨b, 0, none⟩) hlt).trans d0
    obtain ⟨w5, hrun, hm5, hbut5, hsz5⟩ := (HI.out.kept (hb5.drew.block bi HI.out.lt)).store stShape Tryz.underlying93 id { X with links := X.links + more }
    simp only [stV, stA, inoV, inoA] at hrun
    have HM5 := Lib.hid hm5
    have hb6 : But (fun i => i = bi) w w5 := (But.of_below hb5.drew).trans hbut5 fun i hi _ => hi
    have HB6 := Lib.hid hb6
    clear hm5 hb5 hbut5 s2 s3 hb6
    go_region
    go_end0
    exact ⟨rfl, HM5.out, HB6.out⟩

end Go.Proofs.YthcmgaibbpacfaaGreatDoor
