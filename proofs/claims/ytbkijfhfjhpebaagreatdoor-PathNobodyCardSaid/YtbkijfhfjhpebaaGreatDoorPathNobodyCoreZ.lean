/-
  In a graph that is nil, and from an inode that there isn't, nothing is found; the root's parent is the root: for any path (of 500 bytes at most) and inode.
-/
import Derived.Test.YtbkijfhfjhpebaaGreatDoorZ01
import Derived.Test.YtbkijfhfjhpebaaGreatDoorZ02
import Derived.OpenShut
namespace Go.Proofs.YtbkijfhfjhpebaaGreatDoor.lawPathNobody
open Go.RowKit StampMath GraphMath OpMath PackMath

set_option maxRecDepth 100000 in
theorem up_new : findG newG (0, 0) [46, 46, 47, 46, 46, 47, 46, 46] true = (⟨(0, 0), ⟨#[]⟩, (0, 0), true⟩, 0) ∧ findG newG (5, 0) [46] false = (noSpt, 3) := by decide +kernel

set_option maxRecDepth 100000 in
set_option maxHeartbeats 1600000 in
theorem core {H : GraphHave} (P : FoldHave H) (Q : PathHave H) (p : ByteArray) (at_ : St) (w : World) (T : Tab w) :
    Calls Tryz.prog 6 #[.string p, .agg (stA at_)] w fun e w' => e = .returned (.bool true) ∧ Below w.heap.size w w' := by
  have HU := Lib.hid up_new
  go_enter Tryz.func6, Tryz.ntmps6
  go_wp2_with fail
  obtain ⟨u, hu⟩ : ∃ u, u = w.heap.size := ⟨_, rfl⟩
  have hA := heap_alloc_new w (.cells (stA at_) 24)
  have hB0 : Below w.heap.size w (w.alloc (.cells (stA at_) 24)) := (Below.refl _ _).alloc (Nat.le_refl _) _
  rw [← hu] at hA ⊢
  refine (PathHave.shown P Q _ (tab_below T (Nat.le_refl _) hB0)).mono ?_
  rintro e w1 ⟨rfl, hb1⟩
  have B1 := Lib.hid (below_step hB0 hb1)
  have hlt := heap_lt hA
  obtain ⟨c0, c1⟩ := two_cells ((hb1.block u hlt).trans hA)
  clear hb1 hA hB0 hu hlt
  by_cases hl : 500 < (p.size : Int)
  case pos =>
    go_wp2_with fail
    go_ret
    exact ⟨rfl, B1.out⟩
  have N1 := Lib.hid (Q.nilFind at_ p true w1 (by omega))
  have hne : (if errP p.data.toList ≠ 0 then errP p.data.toList else 3) ≠ 0 := by split; assumption; decide
  obtain ⟨er, her⟩ : ∃ er, er = (if errP p.data.toList ≠ 0 then errP p.data.toList else 3) := ⟨_, rfl⟩
  rw [← her] at N1 hne
  change Hid (Calls _ _ _ _ fun e w' => e = .returned (.tuple #[.agg #[.int .i64 0, .int .i64 0, .string ⟨#[]⟩, .int .i64 0, .int .i64 0, .bool false], .int .i64 er]) ∧ Below w1.heap.size w1 w') at N1
  have he0 : (er != 0) = true := bne_iff_ne.2 hne
  clear her hne
  go_wp2_with fail
  refine N1.out.mono ?_
  rintro e w2 ⟨rfl, hb2⟩
  have B2 := Lib.hid (below_step B1.out hb2)
  clear hb2 B1 N1 c0 c1
  go_wp2_with fail
  obtain ⟨u2, hu2⟩ : ∃ u2, u2 = w2.heap.size := ⟨_, rfl⟩
  have H2 := Lib.hid ((Held.refl w2).alloc (.cells #[.int .i64 0, .int .i64 0, .string ⟨#[]⟩, .int .i64 0, .int .i64 0, .bool false] 38) hu2.symm)
  rw [← hu2]
  generalize w2.alloc (.cells #[.int .i64 0, .int .i64 0, .string ⟨#[]⟩, .int .i64 0, .int .i64 0, .bool false] 38) = w3 at H2 ⊢
  refine (H.new w3).mono ?_
  rintro e w4 ⟨a, S, rfl, r4, hS4, hb4⟩
  have F4 := Q.find a S newG (0, 0) ⟨#[46, 46, 47, 46, 46, 47, 46, 46]⟩ true w4 r4 new_fine (by decide)
  rw [show (⟨#[46, 46, 47, 46, 46, 47, 46, 46]⟩ : ByteArray).data.toList = [46, 46, 47, 46, 46, 47, 46, 46] from rfl, HU.out.1] at F4
  change Calls _ _ #[_, .agg #[.int .i64 0, .int .i64 0], _, _] _ fun e w' => e = .returned (.tuple #[.agg #[.int .i64 0, .int .i64 0, .string ⟨#[]⟩, .int .i64 0, .int .i64 0, .bool true], .int .i64 0]) ∧ Below w4.heap.size w4 w' at F4
  have FF := Lib.hid F4
  have H4 := Lib.hid (H2.out.step hb4)
  clear F4 r4 hS4 hb4 H2 hu2
  go_wp2_with fail
  refine FF.out.mono ?_
  rintro e w5 ⟨rfl, hb5⟩
  have hH5 := H4.out.step hb5
  clear hb5 FF H4
  go_wp2_with fail
  obtain ⟨u5, hu5⟩ : ∃ u5, u5 = w5.heap.size := ⟨_, rfl⟩
  have H6 := Lib.hid (hH5.alloc (.cells #[.int .i64 0, .int .i64 0, .string ⟨#[]⟩, .int .i64 0, .int .i64 0, .bool true] 38) hu5.symm)
  rw [← hu5]
  generalize w5.alloc (.cells #[.int .i64 0, .int .i64 0, .string ⟨#[]⟩, .int .i64 0, .int .i64 0, .bool true] 38) = w6 at H6 ⊢
  refine (H.new w6).mono ?_
  rintro e w7 ⟨a2, S2, rfl, r7, hS7, hb7⟩
  have F7 := Q.find a2 S2 newG (5, 0) ⟨#[46]⟩ false w7 r7 new_fine (by decide)
  rw [show (⟨#[46]⟩ : ByteArray).data.toList = [46] from rfl, HU.out.2] at F7
  change Calls _ _ #[_, .agg #[.int .i64 5, .int .i64 0], _, _] _ fun e w' => e = .returned (.tuple #[.agg #[.int .i64 0, .int .i64 0, .string ⟨#[]⟩, .int .i64 0, .int .i64 0, .bool false], .int .i64 3]) ∧ Below w7.heap.size w7 w' at F7
  have FF := Lib.hid F7
  have H7 := Lib.hid (H6.out.step hb7)
  clear F7 r7 hS7 hb7 H6 hH5 hu5
  go_wp2_with fail
  refine FF.out.mono ?_
  rintro e w8 ⟨rfl, hb8⟩
  have H8 := (H7.out.step hb8).step ((Below.refl w8.heap.size w8).alloc (Nat.le_refl _) (.cells #[.int .i64 0, .int .i64 0, .string ⟨#[]⟩, .int .i64 0, .int .i64 0, .bool false] 38))
  obtain ⟨r0, r1, r2, r3, r4, r5⟩ := spt_cells (H8.at 0 rfl)
  obtain ⟨s0, s1, s2, s3, s4, s5⟩ := spt_cells (H8.at 1 rfl)
  have B8 := Lib.hid (below_step B2.out H8.below)
  clear hb8 FF H7 H8
  go_wp2_with fail
  go_ret
  exact ⟨rfl, B8.out⟩

theorem walk0 {H : GraphHave} (P : FoldHave H) (Q : PathHave H) (p : ByteArray) (at_ : St) (w : World) [T : Tab w] (_ : p.size ≤ maxLen) :
    Calls Tryz.prog 6 #[.string p, .agg (stA at_)] w fun e w' => e = .returned (.bool true) ∧ Below w.heap.size w w' :=
  core P Q p at_ w T

end Go.Proofs.YtbkijfhfjhpebaaGreatDoor.lawPathNobody
