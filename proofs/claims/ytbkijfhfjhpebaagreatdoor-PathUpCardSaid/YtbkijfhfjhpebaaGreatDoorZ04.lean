/-
  The walk of the landed order of entries, with what it leaves.
-/
import Derived.Test.YtbkijfhfjhpebaaGreatDoorZ03
import Derived.Test.YtbkijfhfjhpebaaGreatDoorZ01
import Derived.Shelf.SlGeneric
import Derived.Shelf.SlLaysF0
import Derived.Shelf.SlLaysW
import Derived.Test.YtbkijfhfjhpebaaGreatDoorProg
import Derived.Test.YtbkijfhfjhpebaaGreatDoorZ00
import Derived.Shelf.SlSortCmp.WholeK
import Derived.Shelf.SlSortCmp.NoneTotal
import Derived.Deep.Cut
import Derived.Sort.MapsRangeIn
import Derived.RangeFuncSeq
import Derived.RangeFuncNested
import Derived.RangeFuncBound
import Derived.RangeFuncBox
import Derived.RangeFuncLeaves
import Derived.Shelf.Abstract
import Derived.WalkKit
import Derived.OwnWalkIn
import Derived.TacticsInMore
import Derived.LoopNIn
import Derived.LoopIn
import Derived.Sort.LoopGhostIn
import Derived.Sort.QuietIn
import Derived.Test.YtbkijfhfjhpebaaGreatDoorRows
import Derived.Maps.Own
import Derived.Maps.OwnOps
import Derived.BigQuiet
import Derived.Lib.Bytealg
import Derived.Deep.DeepCutAuto
namespace Go.Proofs.YtbkijfhfjhpebaaGreatDoor
open Go.RowKit StampMath GraphMath

set_option maxRecDepth 100000 in
set_option maxHeartbeats 1600000 in
theorem ahead_grown (x y : Ent) (w : World) :
    Calls Tryz.prog 102 #[.agg (entA x), .agg (entA y)] w fun e w' => e = .returned (.int .i64 (aheadI x y)) ∧ Grown w w' := by
  have hv : or2 (cmp x.dir.1 x.dir.2 y.dir.1 y.dir.2) (cmpB x.name.data.toList y.name.data.toList) = aheadI x y := rfl
  obtain ⟨⟨xd1, xd2⟩, xn, ⟨xi1, xi2⟩⟩ := x
  obtain ⟨⟨yd1, yd2⟩, yn, ⟨yi1, yi2⟩⟩ := y
  unfold entA
  obtain ⟨c, hc⟩ : ∃ c, c = cmp xd1 xd2 yd1 yd2 := ⟨_, rfl⟩
  obtain ⟨k, hk⟩ : ∃ k, k = cmpB xn.data.toList yn.data.toList := ⟨_, rfl⟩
  simp only [← hc, ← hk] at hv
  have HC : Hid (∀ W : World, Calls Tryz.prog 24 #[.agg #[.int .i64 xd1, .int .i64 xd2], .agg #[.int .i64 yd1, .int .i64 yd2]] W fun e w' => e = .returned (.int .i64 c) ∧ Grown W w') := fun W => by rw [hc]; exact compare_grown _ _ _ _ W
  have HK : Hid (∀ W : World, Calls Tryz.prog 140 #[.string xn, .string yn] W fun e w' => e = .returned (.int .i64 k) ∧ W = w') := fun W => by rw [hk]; exact compareStr _ _ W
  have HV := Lib.hid hv
  clear hv hc hk
  go_enter Tryz.func102, Tryz.ntmps102
  go_wp2_with fail
  have hS0 : (((w.alloc (.cells #[.int .i64 xd1, .int .i64 xd2, .string xn, .int .i64 xi1, .int .i64 xi2] 70)).alloc (.cells #[.int .i64 yd1, .int .i64 yd2, .string yn, .int .i64 yi1, .int .i64 yi2] 70)).drew.cell? ⟨w.heap.size, 0, none⟩ = some (.int .i64 xd1) ∧ ((w.alloc (.cells #[.int .i64 xd1, .int .i64 xd2, .string xn, .int .i64 xi1, .int .i64 xi2] 70)).alloc (.cells #[.int .i64 yd1, .int .i64 yd2, .string yn, .int .i64 yi1, .int .i64 yi2] 70)).drew.cell? ⟨w.heap.size, 1, none⟩ = some (.int .i64 xd2) ∧ ((w.alloc (.cells #[.int .i64 xd1, .int .i64 xd2, .string xn, .int .i64 xi1, .int .i64 xi2] 70)).alloc (.cells #[.int .i64 yd1, .int .i64 yd2, .string yn, .int .i64 yi1, .int .i64 yi2] 70)).drew.cell? ⟨w.heap.size, 2, none⟩ = some (.string xn) ∧ ((w.alloc (.cells #[.int .i64 xd1, .int .i64 xd2, .string xn, .int .i64 xi1, .int .i64 xi2] 70)).alloc (.cells #[.int .i64 yd1, .int .i64 yd2, .string yn, .int .i64 yi1, .int .i64 yi2] 70)).drew.cell? ⟨w.heap.size + 1, 0, none⟩ = some (.int .i64 yd1) ∧ ((w.alloc (.cells #[.int .i64 xd1, .int .i64 xd2, .string xn, .int .i64 xi1, .int .i64 xi2] 70)).alloc (.cells #[.int .i64 yd1, .int .i64 yd2, .string yn, .int .i64 yi1, .int .i64 yi2] 70)).drew.cell? ⟨w.heap.size + 1, 1, none⟩ = some (.int .i64 yd2) ∧ ((w.alloc (.cells #[.int .i64 xd1, .int .i64 xd2, .string xn, .int .i64 xi1, .int .i64 xi2] 70)).alloc (.cells #[.int .i64 yd1, .int .i64 yd2, .string yn, .int .i64 yi1, .int .i64 yi2] 70)).drew.cell? ⟨w.heap.size + 1, 2, none⟩ = some (.string yn)) ∧ Grown w ((w.alloc (.cells #[.int .i64 xd1, .int .i64 xd2, .string xn, .int .i64 xi1, .int .i64 xi2] 70)).alloc (.cells #[.int .i64 yd1, .int .i64 yd2, .string yn, .int .i64 yi1, .int .i64 yi2] 70)).drew := by
    refine ⟨⟨?_, ?_, ?_, ?_, ?_, ?_⟩, (((Grown.refl _).alloc _).alloc _).drew⟩
    · exact cell_of_row _ _ 0 _ _ (0, 0) (heap_alloc2_old w _ _)
    · exact cell_of_row _ _ 1 _ _ (0, 0) (heap_alloc2_old w _ _)
    · exact cell_of_row _ _ 2 _ _ (0, 0) (heap_alloc2_old w _ _)
    · exact cell_of_row _ _ 0 _ _ (0, 0) (heap_alloc2_new w _ _)
    · exact cell_of_row _ _ 1 _ _ (0, 0) (heap_alloc2_new w _ _)
    · exact cell_of_row _ _ 2 _ _ (0, 0) (heap_alloc2_new w _ _)
  go_region_held3 (fun W => (W.cell? ⟨w.heap.size, 0, none⟩ = some (.int .i64 xd1) ∧ W.cell? ⟨w.heap.size, 1, none⟩ = some (.int .i64 xd2) ∧ W.cell? ⟨w.heap.size, 2, none⟩ = some (.string xn) ∧ W.cell? ⟨w.heap.size + 1, 0, none⟩ = some (.int .i64 yd1) ∧ W.cell? ⟨w.heap.size + 1, 1, none⟩ = some (.int .i64 yd2) ∧ W.cell? ⟨w.heap.size + 1, 2, none⟩ = some (.string yn)) ∧ Grown w W) (first | assumption | exact cells6_alloc _ (by assumption) | (refine ⟨⟨?_, ?_, ?_, ?_, ?_, ?_⟩, ?_⟩ <;> assumption))
    (first
      | (go_at_call 24; (with_reducible refine (HC.out _).mono ?_); rintro e w' ⟨rfl, hg⟩; have hS := cells6_later hg ‹(_ ∧ _ ∧ _ ∧ _ ∧ _ ∧ _) ∧ Grown w _›)
      | (go_at_call 140; (with_reducible refine (HK.out _).mono ?_); rintro e w' ⟨rfl, rfl⟩; have hS := ‹(_ ∧ _ ∧ _ ∧ _ ∧ _ ∧ _) ∧ Grown w _›)
      | (go_at_call 43; refine (or_any _ c k _ ?_ ?_).mono ?_; exact (cell_two _ _ _ _).1; exact (cell_two _ _ _ _).2; rintro e w' ⟨rfl, rfl⟩; have hS := ‹(_ ∧ _ ∧ _ ∧ _ ∧ _ ∧ _) ∧ Grown w _›))
  have hB := (show Grown w _ from And.right ‹(_ ∧ _ ∧ _ ∧ _ ∧ _ ∧ _) ∧ Grown w _›)
  clear hS0
  go_wp2_with fail
  go_ret
  exact ⟨by rw [← HV.out]; rfl, hB⟩

end Go.Proofs.YtbkijfhfjhpebaaGreatDoor

/-
  Closures of the library's functions, laid at this program (made by the kit's lay-plain.mjs).
-/
namespace Go.Proofs
open Go.Shelf
def Tryz.sortIno_ren : Go.Shelf.Ren := ⟨fun | 6 => 41 | 15 => 67 | 14 => 66 | 28 => 99 | 29 => 100 | 20 => 91 | 21 => 92 | 22 => 93 | 23 => 94 | 24 => 95 | 25 => 96 | 26 => 97 | 27 => 98 | 46 => 134 | 47 => 135 | 48 => 136 | 49 => 137 | 50 => 138 | 57 => 154 | n => n, fun | 22 => 29 | 24 => 32 | 25 => 67 | 3 => 3 | 39 => 114 | 0 => 0 | 53 => 141 | 55 => 143 | 4 => 4 | 46 => 134 | 45 => 133 | 50 => 138 | 5 => 5 | 9 => 9 | 66 => 169 | 70 => 173 | 76 => 182 | 77 => 183 | n => n, fun | n => n⟩
theorem Tryz.sortIno : Go.Proofs.SlLaysF0.n6 Tryz.prog Tryz.sortIno_ren := {
  mixed := by kernel_rfl
  f6 := ⟨Tryz.f41.name, by decide, Tryz.func41.trans (congrArg some (by kernel_rfl))⟩
  f14 := ⟨Tryz.f66.name, by decide, Tryz.func66.trans (congrArg some (by kernel_rfl))⟩
  f15 := Tryz.func67.trans (congrArg some (by kernel_rfl))
  f20 := ⟨Tryz.f91.name, by decide, Tryz.func91.trans (congrArg some (by kernel_rfl))⟩
  f21 := ⟨Tryz.f92.name, by decide, Tryz.func92.trans (congrArg some (by kernel_rfl))⟩
  f22 := ⟨Tryz.f93.name, by decide, Tryz.func93.trans (congrArg some (by kernel_rfl))⟩
  f23 := ⟨Tryz.f94.name, by decide, Tryz.func94.trans (congrArg some (by kernel_rfl))⟩
  f24 := ⟨Tryz.f95.name, by decide, Tryz.func95.trans (congrArg some (by kernel_rfl))⟩
  f25 := ⟨Tryz.f96.name, by decide, Tryz.func96.trans (congrArg some (by kernel_rfl))⟩
  f26 := ⟨Tryz.f97.name, by decide, Tryz.func97.trans (congrArg some (by kernel_rfl))⟩
  f27 := ⟨Tryz.f98.name, by decide, Tryz.func98.trans (congrArg some (by kernel_rfl))⟩
  f28 := Tryz.func99.trans (congrArg some (by kernel_rfl))
  f29 := Tryz.func100.trans (congrArg some (by kernel_rfl))
  f46 := ⟨Tryz.f134.name, by decide, Tryz.func134.trans (congrArg some (by kernel_rfl))⟩
  f47 := Tryz.func135.trans (congrArg some (by kernel_rfl))
  f48 := Tryz.func136.trans (congrArg some (by kernel_rfl))
  f49 := ⟨Tryz.f137.name, by decide, Tryz.func137.trans (congrArg some (by kernel_rfl))⟩
  f50 := ⟨Tryz.f138.name, by decide, Tryz.func138.trans (congrArg some (by kernel_rfl))⟩
  f57 := ⟨Tryz.f154.name, by decide, Tryz.func154.trans (congrArg some (by kernel_rfl))⟩
  t0 := Tryz.underlying0
  a0 := Tryz.isAgg0
  z0 := Tryz.sizeOf0
  v0 := Tryz.zeroValue0
  t3 := Tryz.underlying3
  a3 := Tryz.isAgg3
  z3 := Tryz.sizeOf3
  v3 := Tryz.zeroValue3
  t4 := Tryz.underlying4
  a4 := Tryz.isAgg4
  z4 := Tryz.sizeOf4
  v4 := Tryz.zeroValue4
  t5 := Tryz.underlying5
  a5 := Tryz.isAgg5
  z5 := Tryz.sizeOf5
  v5 := Tryz.zeroValue5
  t9 := Tryz.underlying9
  a9 := Tryz.isAgg9
  z9 := Tryz.sizeOf9
  v9 := Tryz.zeroValue9
  t22 := Tryz.underlying29
  a22 := Tryz.isAgg29
  z22 := Tryz.sizeOf29
  v22 := Tryz.zeroValue29
  t25 := Tryz.underlying67
  a25 := Tryz.isAgg67
  z25 := Tryz.sizeOf67
  v25 := Tryz.zeroValue67
  t39 := Tryz.underlying114
  a39 := Tryz.isAgg114
  z39 := Tryz.sizeOf114
  v39 := Tryz.zeroValue114
  t45 := Tryz.underlying133
  a45 := Tryz.isAgg133
  z45 := Tryz.sizeOf133
  v45 := Tryz.zeroValue133
  t46 := Tryz.underlying134
  a46 := Tryz.isAgg134
  z46 := Tryz.sizeOf134
  v46 := Tryz.zeroValue134
  t50 := Tryz.underlying138
  a50 := Tryz.isAgg138
  z50 := Tryz.sizeOf138
  v50 := Tryz.zeroValue138
  t53 := Tryz.underlying141
  a53 := Tryz.isAgg141
  z53 := Tryz.sizeOf141
  v53 := Tryz.zeroValue141
  t55 := Tryz.underlying143
  a55 := Tryz.isAgg143
  z55 := Tryz.sizeOf143
  v55 := Tryz.zeroValue143
  t66 := Tryz.underlying169
  a66 := Tryz.isAgg169
  z66 := Tryz.sizeOf169
  v66 := Tryz.zeroValue169
  t70 := Tryz.underlying173
  a70 := Tryz.isAgg173
  z70 := Tryz.sizeOf173
  v70 := Tryz.zeroValue173
  t76 := Tryz.underlying182
  a76 := Tryz.isAgg182
  z76 := Tryz.sizeOf182
  v76 := Tryz.zeroValue182
  t77 := Tryz.underlying183
  a77 := Tryz.isAgg183
  z77 := Tryz.sizeOf183
  v77 := Tryz.zeroValue183 }
def Tryz.sortEnt_ren : Go.Shelf.Ren := ⟨fun | 6 => 101 | 15 => 67 | 14 => 139 | 28 => 99 | 29 => 100 | 20 => 155 | 21 => 156 | 22 => 157 | 23 => 158 | 24 => 159 | 25 => 160 | 26 => 161 | 27 => 162 | 46 => 167 | 47 => 135 | 48 => 136 | 49 => 168 | 50 => 169 | 57 => 170 | n => n, fun | 22 => 91 | 24 => 70 | 25 => 145 | 3 => 3 | 39 => 114 | 0 => 0 | 53 => 141 | 55 => 143 | 4 => 4 | 46 => 134 | 45 => 133 | 50 => 138 | 5 => 5 | 9 => 9 | 66 => 169 | 70 => 173 | 76 => 182 | 77 => 183 | n => n, fun | n => n⟩
theorem Tryz.sortEnt : Go.Proofs.SlLaysF0.n6 Tryz.prog Tryz.sortEnt_ren := {
  mixed := by kernel_rfl
  f6 := ⟨Tryz.f101.name, by decide, Tryz.func101.trans (congrArg some (by kernel_rfl))⟩
  f14 := ⟨Tryz.f139.name, by decide, Tryz.func139.trans (congrArg some (by kernel_rfl))⟩
  f15 := Tryz.func67.trans (congrArg some (by kernel_rfl))
  f20 := ⟨Tryz.f155.name, by decide, Tryz.func155.trans (congrArg some (by kernel_rfl))⟩
  f21 := ⟨Tryz.f156.name, by decide, Tryz.func156.trans (congrArg some (by kernel_rfl))⟩
  f22 := ⟨Tryz.f157.name, by decide, Tryz.func157.trans (congrArg some (by kernel_rfl))⟩
  f23 := ⟨Tryz.f158.name, by decide, Tryz.func158.trans (congrArg some (by kernel_rfl))⟩
  f24 := ⟨Tryz.f159.name, by decide, Tryz.func159.trans (congrArg some (by kernel_rfl))⟩
  f25 := ⟨Tryz.f160.name, by decide, Tryz.func160.trans (congrArg some (by kernel_rfl))⟩
  f26 := ⟨Tryz.f161.name, by decide, Tryz.func161.trans (congrArg some (by kernel_rfl))⟩
  f27 := ⟨Tryz.f162.name, by decide, Tryz.func162.trans (congrArg some (by kernel_rfl))⟩
  f28 := Tryz.func99.trans (congrArg some (by kernel_rfl))
  f29 := Tryz.func100.trans (congrArg some (by kernel_rfl))
  f46 := ⟨Tryz.f167.name, by decide, Tryz.func167.trans (congrArg some (by kernel_rfl))⟩
  f47 := Tryz.func135.trans (congrArg some (by kernel_rfl))
  f48 := Tryz.func136.trans (congrArg some (by kernel_rfl))
  f49 := ⟨Tryz.f168.name, by decide, Tryz.func168.trans (congrArg some (by kernel_rfl))⟩
  f50 := ⟨Tryz.f169.name, by decide, Tryz.func169.trans (congrArg some (by kernel_rfl))⟩
  f57 := ⟨Tryz.f170.name, by decide, Tryz.func170.trans (congrArg some (by kernel_rfl))⟩
  t0 := Tryz.underlying0
  a0 := Tryz.isAgg0
  z0 := Tryz.sizeOf0
  v0 := Tryz.zeroValue0
  t3 := Tryz.underlying3
  a3 := Tryz.isAgg3
  z3 := Tryz.sizeOf3
  v3 := Tryz.zeroValue3
  t4 := Tryz.underlying4
  a4 := Tryz.isAgg4
  z4 := Tryz.sizeOf4
  v4 := Tryz.zeroValue4
  t5 := Tryz.underlying5
  a5 := Tryz.isAgg5
  z5 := Tryz.sizeOf5
  v5 := Tryz.zeroValue5
  t9 := Tryz.underlying9
  a9 := Tryz.isAgg9
  z9 := Tryz.sizeOf9
  v9 := Tryz.zeroValue9
  t22 := Tryz.underlying91
  a22 := Tryz.isAgg91
  z22 := Tryz.sizeOf91
  v22 := Tryz.zeroValue91
  t25 := Tryz.underlying145
  a25 := Tryz.isAgg145
  z25 := Tryz.sizeOf145
  v25 := Tryz.zeroValue145
  t39 := Tryz.underlying114
  a39 := Tryz.isAgg114
  z39 := Tryz.sizeOf114
  v39 := Tryz.zeroValue114
  t45 := Tryz.underlying133
  a45 := Tryz.isAgg133
  z45 := Tryz.sizeOf133
  v45 := Tryz.zeroValue133
  t46 := Tryz.underlying134
  a46 := Tryz.isAgg134
  z46 := Tryz.sizeOf134
  v46 := Tryz.zeroValue134
  t50 := Tryz.underlying138
  a50 := Tryz.isAgg138
  z50 := Tryz.sizeOf138
  v50 := Tryz.zeroValue138
  t53 := Tryz.underlying141
  a53 := Tryz.isAgg141
  z53 := Tryz.sizeOf141
  v53 := Tryz.zeroValue141
  t55 := Tryz.underlying143
  a55 := Tryz.isAgg143
  z55 := Tryz.sizeOf143
  v55 := Tryz.zeroValue143
  t66 := Tryz.underlying169
  a66 := Tryz.isAgg169
  z66 := Tryz.sizeOf169
  v66 := Tryz.zeroValue169
  t70 := Tryz.underlying173
  a70 := Tryz.isAgg173
  z70 := Tryz.sizeOf173
  v70 := Tryz.zeroValue173
  t76 := Tryz.underlying182
  a76 := Tryz.isAgg182
  z76 := Tryz.sizeOf182
  v76 := Tryz.zeroValue182
  t77 := Tryz.underlying183
  a77 := Tryz.isAgg183
  z77 := Tryz.sizeOf183
  v77 := Tryz.zeroValue183 }
def Tryz.cloneIno_ren : Go.Shelf.Ren := ⟨fun | 5 => 56 | 7 => 79 | n => n, fun | 23 => 62 | 25 => 24 | 3 => 32 | 4 => 4 | 20 => 20 | n => n, fun | n => n⟩
theorem Tryz.cloneIno : Go.Proofs.SlLaysW.n5 Tryz.prog Tryz.cloneIno_ren := {
  mixed := by kernel_rfl
  f5 := ⟨Tryz.f56.name, by decide, Tryz.func56.trans (congrArg some (by kernel_rfl))⟩
  f7 := Tryz.func79.trans (congrArg some (by kernel_rfl))
  t4 := Tryz.underlying4
  a4 := Tryz.isAgg4
  z4 := Tryz.sizeOf4
  v4 := Tryz.zeroValue4
  t20 := Tryz.underlying20
  a20 := Tryz.isAgg20
  z20 := Tryz.sizeOf20
  v20 := Tryz.zeroValue20
  t23 := Tryz.underlying62
  a23 := Tryz.isAgg62
  z23 := Tryz.sizeOf62
  v23 := Tryz.zeroValue62 }
def Tryz.cloneEnt_ren : Go.Shelf.Ren := ⟨fun | 5 => 57 | 7 => 79 | n => n, fun | 23 => 63 | 25 => 78 | 3 => 24 | 4 => 4 | 20 => 20 | n => n, fun | n => n⟩
theorem Tryz.cloneEnt : Go.Proofs.SlLaysW.n5 Tryz.prog Tryz.cloneEnt_ren := {
  mixed := by kernel_rfl
  f5 := ⟨Tryz.f57.name, by decide, Tryz.func57.trans (congrArg some (by kernel_rfl))⟩
  f7 := Tryz.func79.trans (congrArg some (by kernel_rfl))
  t4 := Tryz.underlying4
  a4 := Tryz.isAgg4
  z4 := Tryz.sizeOf4
  v4 := Tryz.zeroValue4
  t20 := Tryz.underlying20
  a20 := Tryz.isAgg20
  z20 := Tryz.sizeOf20
  v20 := Tryz.zeroValue20
  t23 := Tryz.underlying63
  a23 := Tryz.isAgg63
  z23 := Tryz.sizeOf63
  v23 := Tryz.zeroValue63 }
end Go.Proofs

/-
  A row of the call's own, sorted by slices.SortFunc: it holds the same elements in order, and is the call's own still.
-/
namespace Go.Proofs.YtbkijfhfjhpebaaGreatDoor
open Go.RowKit Go.Shelf Go.Sort

section
variable {α : Type} [Inhabited α]

theorem flatK_flat (encA : α → Array Value) {k : Nat} (hk : ∀ x, (encA x).size = k) (xs : List α) : flatK (fun x => (encA x).toList) k xs.toArray = (flat (xs.map encA)).toArray := by
  have hk' : ∀ r ∈ xs.map encA, r.size = k := fun r hr => by
    obtain ⟨x, _, rfl⟩ := List.mem_map.1 hr
    exact hk x
  have hl := flat_len hk'
  rw [List.length_map] at hl
  refine ext_get! (by simp [hl]) fun t ht => ?_
  have ht' : t < xs.length * k := by simpa using ht
  rw [get_flatK _ _ _ _ (by simpa using ht')]
  have k0 : 0 < k := by
    rcases Nat.eq_zero_or_pos k with h | h
    · subst h; simp at ht'
    · exact h
  have hd : t / k < xs.length := (Nat.div_lt_iff_lt_mul k0).2 ht'
  have hm := Nat.mod_lt t k0
  have e := flat_at hk' (t / k) (by simpa using hd) (t % k) hm
  rw [show t / k * k + t % k = t by rw [Nat.mul_comm]; exact Nat.div_add_mod t k] at e
  have hs : t % k < (encA xs[t / k]).size := by rw [hk]; exact hm
  have hf : t < (flat (xs.map encA)).length := by rw [hl]; exact ht'
  rw [List.getElem?_eq_getElem hf, List.getElem_map, Array.getElem?_eq_getElem hs] at e
  have e' := Option.some.inj e
  rw [getElem!_pos ((flat (xs.map encA)).toArray) t (by simpa using hf), List.getElem_toArray, e', getElem!_pos xs.toArray (t / k) (by simpa using hd), List.getElem_toArray, getElem!_pos _ _ (by simpa using hs), Array.getElem_toList]

theorem perm_of {d d' : Array α} (h : PermIn 0 d.size d d') : d'.toList.Perm d.toList := by
  obtain ⟨hs, _, hp⟩ := h
  rw [Array.extract_size] at hp
  have e : d'.extract 0 d.size = d' := by rw [← hs]; exact Array.extract_size
  rwa [e] at hp

theorem sorted_of {lt : α → α → Bool} {d : Array α} (h : SortedIn lt 0 d.size d) : d.toList.Pairwise fun x y => lt y x = false := by
  rw [List.pairwise_iff_getElem]
  intro i j hi hj hij
  have q := h i j (Nat.zero_le _) hij (by simpa using hj)
  rwa [getElem!_pos d j (by simpa using hj), getElem!_pos d i (by simpa using hi)] at q
end

/-- A row that lies in a block of the call's own holds these cells, none of them frozen. -/
theorem own_holds {w : World} {g : Nat} {e : TypeId} {cur : Array Value} {F : Array Value} (hg : w.heap[g]? = some (.cells cur e (0, 0))) (hF : cur.toList.take F.size = F.toList) : Holds id w g 0 F := by
  intro j hj
  refine ⟨?_, ?_⟩
  · have e1 : (cur.toList.take F.size)[j]? = F.toList[j]? := by rw [hF]
    rw [List.getElem?_take_of_lt hj] at e1
    simp only [World.cell?, hg, Nat.zero_add, Option.isSome_none, Bool.false_eq_true, if_false, id]
    rw [getElem!_pos F j hj]
    simpa [hj] using e1
  · simp only [World.frozen?, hg]
    simp

theorem putCells_take (F cur : Array Value) (h : F.size ≤ cur.size) : (putCells id 0 F cur).toList.take F.size = F.toList := by
  apply List.ext_getElem?
  intro j
  by_cases hj : j < F.size
  · rw [List.getElem?_take_of_lt hj]
    have hc : j < cur.size := by omega
    simp [putCells, hj, hc]
  · rw [List.getElem?_eq_none (by simp; omega), List.getElem?_eq_none (by simp; omega)]

theorem sort_own {P : Program} {ρ : Ren} {α : Type} [Inhabited α] (L : SlLaysF0.n6 P ρ) (k : Nat) (aE : ∀ w, (isAgg (ρ.t 24)).run P w = .ok true w) (zE : ∀ w, (Go.sizeOf (ρ.t 24)).run P w = .ok k w) (encA : α → Array Value) (hk : ∀ x, (encA x).size = k) (h1 : ∀ x, ∀ v ∈ (encA x).toList, v.oneCell' = true)
    (cf : α → α → Int) (hO : SWO (ltOf cf)) (g : Nat) (cb : Array Value) (eg : ∀ args w, (callFunc g args).run P w = .ok (.enter g args) w)
    (hc : ∀ (W : World) (x y : α), Calls P g (#[.agg (encA x), .agg (encA y)] ++ cb) W fun e W' => e = .returned (.int .i64 (cf x y)) ∧ ∃ q os', W' = grow (W.drewN q) os')
    {w : World} {base : Nat} {e : TypeId} {v : Value} {n : Nat} {xs : List α} (hn : xs.length = n) (h : w.ownsRow base e k v n (flat (xs.map encA))) (hsz : n < 4611686018427387904) :
    Calls P (ρ.f 6) #[v, .func (.func g) #[] cb] w fun r w' => r = .returned (.tuple #[]) ∧ ∃ ys : List α, ys.Perm xs ∧ (ys.Pairwise fun x y => ltOf cf y x = false) ∧ w'.ownsRow base e k v n (flat (ys.map encA)) ∧ But (fun i => v.ownBlock = some i) w w' := by
  subst hn
  obtain ⟨hl, h⟩ := h
  rcases h with ⟨rfl, h0⟩ | ⟨b, cap, cur, rfl, hb, hg, hc1, hc2, hcs, ht⟩
  · refine (AnyF.slices_SortFunc_none (P := P) (ρ := ρ) { L with } none 0 (.func (.func g) #[] cb) w).mono ?_
    rintro r w' ⟨rfl, rfl⟩
    have hx : xs = [] := List.length_eq_zero_iff.1 h0
    subst hx
    exact ⟨rfl, [], List.Perm.refl _, List.Pairwise.nil, ⟨hl, Or.inl ⟨rfl, rfl⟩⟩, But.refl _ _⟩
  · have hk' : ∀ (l : List α), ∀ r ∈ l.map encA, r.size = k := fun l r hr => by
      obtain ⟨x, _, rfl⟩ := List.mem_map.1 hr
      exact hk x
    have fl : ∀ l : List α, (flat (l.map encA)).length = l.length * k := fun l => by have := flat_len (hk' l); rwa [List.length_map] at this
    have hH : HoldsK (fun x => (encA x).toList) k w b 0 xs.toArray := by
      unfold HoldsK
      rw [flatK_flat encA hk]
      exact own_holds hg (by simpa [fl] using ht)
    have hcmp : CmpLays P g cb (fun x => (encA x).toList) k cf b 0 xs.toArray.size w := fun m os dk _ x y => hc _ x y
    have hs := AnyQ.slices_SortFunc L k aE zE (fun x => (encA x).toList) (fun x => by simpa using hk x) h1 cf hO g cb b 0 cap xs.toArray w eg hcmp hH (heap_lt hg) (by simpa using hsz)
    rw [List.size_toArray] at hs
    refine hs.mono ?_
    rintro r w' ⟨rfl, d', q, os, hp, hsd, rfl⟩
    refine ⟨rfl, d'.toList, ?_, ?_, ?_, ?_⟩
    · simpa using perm_of (d := xs.toArray) (by simpa using hp)
    · refine sorted_of ?_
      have hd : d'.size = xs.length := by simpa using hp.1
      rw [hd]
      exact hsd
    · have hd : d'.size = xs.length := by simpa using hp.1
      have hF : flatK (fun x => (encA x).toList) k d' = (flat (d'.toList.map encA)).toArray := by
        have := flatK_flat encA hk d'.toList
        rwa [Array.toArray_toList] at this
      have hle : (flatK (fun x => (encA x).toList) k d').size ≤ cur.size := by
        rw [size_flatK, hcs, hd]
        exact Nat.mul_le_mul_right k hc1
      refine ⟨by rw [fl, Array.length_toList, hd], Or.inr ⟨b, cap, putCells id 0 (flatK (fun x => (encA x).toList) k d') cur, rfl, hb, ?_, hc1, hc2, by simpa [putCells] using hcs, ?_⟩⟩
      · unfold sortWorldK
        rw [heap_grow_old _ _ (by rw [size_putRowK]; exact heap_lt hg)]
        simp [putRowK, putRow, mapBlock, Array.getElem?_modify, hg, onCells]
      · have e2 := putCells_take _ cur hle
        rw [size_flatK, hd] at e2
        rw [e2, hF]
    · unfold sortWorldK
      refine ⟨rfl, rfl, rfl, ?_, fun i hi hne => ?_⟩
      · rw [size_grow, size_putRowK]
        exact Nat.le_add_right _ _
      · rw [heap_grow_old _ _ (by rw [size_putRowK]; exact hi)]
        have hib : b ≠ i := fun q => hne (by rw [← q]; rfl)
        simp [putRowK, putRow, mapBlock, Array.getElem?_modify, hib]

end Go.Proofs.YtbkijfhfjhpebaaGreatDoor

/-
  Rows of a call's own, kept through calls and through a write to another block. It needs no program.
-/
namespace Go.Proofs.YtbkijfhfjhpebaaGreatDoor
open Go.RowKit

/-- Has the call made the block r, and the blocks from base on alone? -/
theorem own_iter {w w' : World} {base r : Nat} {e : TypeId} {k : Nat} {v : Value} {n : Nat} {xs : List Value} (h : w.ownsRow base e k v n xs) (hb : But (fun i => i = r) w w') (hr : r < base) : w'.ownsRow base e k v n xs :=
  h.kept (row := some r) ⟨hb.os, hb.tape, hb.output, hb.size, fun i hi hn => hb.block i hi fun q => hn (by rw [q])⟩ (by
    cases hv : v.ownBlock with
    | none => exact .inl rfl
    | some j => exact .inr (fun q => by have := (h.lt j hv).1; injection q with q; omega))

/-- A call that leaves all that was there leaves the row. -/
theorem own_call {w w' : World} {base : Nat} {e : TypeId} {k : Nat} {v : Value} {n : Nat} {xs : List Value} (h : w.ownsRow base e k v n xs) (hb : Below w.heap.size w w') : w'.ownsRow base e k v n xs :=
  h.kept (row := none) ⟨hb.os, hb.tape, hb.output, hb.size, fun i hi _ => hb.block i hi⟩ (by
    cases hv : v.ownBlock with
    | none => exact .inl rfl
    | some j => exact .inr (fun q => by cases q))

theorem own_lower {w : World} {b b' : Nat} {e : TypeId} {k : Nat} {v : Value} {n : Nat} {xs : List Value} (h : w.ownsRow b e k v n xs) (hb : b' ≤ b) : w.ownsRow b' e k v n xs := by
  obtain ⟨h0, h1 | ⟨g, cap, cur, h1, h2, h3⟩⟩ := h
  · exact ⟨h0, Or.inl h1⟩
  · exact ⟨h0, Or.inr ⟨g, cap, cur, h1, Nat.le_trans hb h2, h3⟩⟩

end Go.Proofs.YtbkijfhfjhpebaaGreatDoor

/-
  The landed graph's sorted (made by gen_graphsorted.py), at Entries' closure; Entries.
-/
namespace Go.Proofs.YtbkijfhfjhpebaaGreatDoor
open Go.RowKit StampMath GraphMath

def entOf (p : (St × ByteArray) × St) : Ent := ⟨p.1.1, p.1.2, p.2⟩

theorem allClo (e : St) (W : World) :
    Calls Tryz.prog 71 #[.agg #[.int .i64 e.1, .int .i64 e.2]] W fun x W' => x = .returned (.bool true) ∧ Below W.heap.size W W' := by
  go_enter Tryz.func71, Tryz.ntmps71
  go_wp2_with fail
  go_ret
  exact ⟨rfl, (Below.refl _ _).alloc (Nat.le_refl _) _⟩

set_option maxRecDepth 100000 in
set_option maxHeartbeats 1600000 in
theorem sortedAll_code (a : Addr) (S : Nat → Prop) (g : Gr) (q : St → Bool) (hq : ∀ x, q x = true) (w : World) (h : GIn w S a g) (hg : g.ok) :
    Calls Tryz.prog 70 #[.pointer (some a), .func (.func 71) #[] #[]] w (EntsNew (g.E.filter fun e => q e.dir) w) := by
  have HC : Hid (∀ (e : St) (W : World), Below w.heap.size w W → Calls Tryz.prog 71 #[.agg #[.int .i64 e.1, .int .i64 e.2]] W fun x W' => x = .returned (.bool (q e)) ∧ Below W.heap.size W W') := fun e W hW => by rw [hq]; exact allClo e W
  clear hq
  obtain ⟨b, bi, be, rfl, h1, h2, h3, hb, hi, he, hS⟩ := h
  obtain ⟨c0, c1⟩ := two_cells hb
  obtain ⟨i0, hi0, hz0, hz1, hz2⟩ := info_parts ent_infos
  have HE := Lib.hid he
  have hlt := heap_lt hb
  have hltE := he.lt
  clear hi he hb hS
  have hlen : Hid ((pairsE g).length ≤ 1000) := by
    show (pairsE g).length ≤ 1000
    unfold pairsE
    rw [List.length_map]
    exact Nat.le_trans hg.entsFew (by decide)
  have hgE := Lib.hid (hg.sortE.filter fun e => q e.dir)
  go_enter Tryz.func70, Tryz.ntmps70
  go_wp2_with (at_range; refine wpList_k_range (by rfl) _ _ (by rfl) Tryz.underlying63 be _ (by rfl) HE.out ?_; intro w1 HR1 HB1 HS1)
  go_frame
  go_loopg [5] ((pairsE g).length + 1) (fun gk l wr => ∃ (done todo : List ((St × ByteArray) × St)), gk = todo.length + 1 ∧ Hid (KRange plV stV wr be w.heap.size (pairsE g) todo) ∧ Hid ((done ++ todo).Perm (pairsE g)) ∧ wr.ownsRow (w.heap.size + 1) 70 5 l ((done.map entOf).filter fun e => q e.dir).length (flat (((done.map entOf).filter fun e => q e.dir).map entA)) ∧ Hid (Below w.heap.size w wr) ∧ w.heap.size + 1 ≤ wr.heap.size)
  case atStart => exact ⟨[], pairsE g, rfl, HR1, List.Perm.refl _, World.ownsRow_nil _ _ _ _, HB1, by rw [HS1.out]; omega⟩
  case round =>
    obtain ⟨done, todo, rfl, hR, hP, hown, hB, hs1⟩ := hrel
    clear HR1 HB1 HS1
    go_wp2_with (refine wpList_k_next (by rfl) _ (by rfl) be w.heap.size _ _ (by rfl) hR.out ?_ ?_)
    · intro h0
      have hdone : ((done.map entOf).filter fun e => q e.dir).Perm (g.E.filter fun e => q e.dir) := by
        refine List.Perm.filter _ ?_
        have h5 := hP.out
        rw [h0, List.append_nil] at h5
        have h6 := h5.map entOf
        unfold pairsE at h6
        rwa [List.map_map, show entOf ∘ (fun e : Ent => ((e.dir, e.name), e.ino)) = id from rfl, List.map_id] at h6
      have h1000 : ((done.map entOf).filter fun e => q e.dir).length < 4611686018427387904 := by
        have h5 := hlen.out
        have h6 := hP.out.length_eq
        have h7 := List.length_filter_le (fun e : Ent => q e.dir) (done.map entOf)
        simp only [List.length_append, List.length_map] at h6 h7
        omega
      generalize ((done.map entOf).filter fun e => q e.dir) = fs at hdone h1000 hown ⊢
      have HD := Lib.hid hdone
      clear hdone
      have hs := sort_own (w := wr) Tryz.sortEnt 5 Tryz.isAgg70 Tryz.sizeOf70 entA (fun _ => rfl) ent_one aheadI swo_ents 102 #[] (enters_of Tryz.func102 (by kernel_rfl) rfl)
        (fun W x y => (ahead_grown x y W).mono fun _ _ h => ⟨h.1, h.2.grow⟩) (by simp) hown h1000
      change Calls Tryz.prog 101 _ _ _ at hs
      have hrow := hown.lt
      clear hown
      have HS := Lib.hid hs
      clear hs
      go_wp2_with fail
      refine (HS.out).mono ?_
      rintro e w2 ⟨rfl, ys, hp, hsd, hown2, hbut⟩
      have hys : ys = g.E.filter fun e => q e.dir := sorted_ents hgE.out (hp.trans HD.out) hsd
      have hl : fs.length = (g.E.filter fun e => q e.dir).length := HD.out.length_eq
      rw [hys, hl] at hown2
      clear hp hsd hys
      go_wp2_with fail
      go_ret
      refine ⟨_, rfl, ?_, ?_⟩
      · exact own_lower hown2 (Nat.le_succ _)
      · exact hB.out.trans (hbut.below (fun i hi => Nat.le_of_succ_le (hrow i hi).1) (by omega))
    · intro t r nm t' r' todo' w2 hp hR2 hB2 hs2 hen
      simp only [plV, stV, stA] at hen ⊢
      have hown2 := own_iter hown hB2.out (by omega)
      have h1000 : ((done.map entOf).filter fun e => q e.dir).length ≤ 1000 := by
        have h5 := hlen.out
        have h6 := hP.out.length_eq
        have h7 := List.length_filter_le (fun e : Ent => q e.dir) (done.map entOf)
        simp only [List.length_append, List.length_map] at h6 h7
        omega
      have hfs : ∀ b : Bool, q (t, r) = b → ((done ++ [(((t, r), nm), (t', r'))]).map entOf).filter (fun e => q e.dir) = ((done.map entOf).filter fun e => q e.dir) ++ (if b = true then [⟨(t, r), nm, (t', r')⟩] else []) := by
        intro b hb
        rw [List.map_append, List.filter_append]
        congr 1
        simp only [List.map_cons, List.map_nil, entOf, List.filter_cons, List.filter_nil, hb]
      have HF := Lib.hid hfs
      clear hfs
      have e2 : Below w.heap.size wr w2 := hB2.out.below (fun i hi => by omega) (by omega)
      have hb2 := hB.out.trans e2
      have hP2 : Hid ((done ++ [(((t, r), nm), (t', r'))] ++ todo').Perm (pairsE g)) := by
        have e1 : (done ++ todo).Perm (done ++ ((((t, r), nm), (t', r')) :: todo')) := hp.out.append_left _
        show (done ++ [(((t, r), nm), (t', r'))] ++ todo').Perm _
        rw [List.append_assoc]
        exact e1.symm.trans hP.out
      have hlen2 := hp.out.length_eq
      simp only [List.length_cons] at hlen2
      generalize ((done.map entOf).filter fun e => q e.dir) = fs at hown2 h1000 HF
      have hm : fs.length + 1 ≤ maxLen := by unfold maxLen; omega
      have hs2' : w.heap.size + 1 ≤ w2.heap.size := by rw [hs2.out]; exact hs1
      clear hown hB hB2 hs2 hP hp hR e2
      go_upto_region 7 with fail
      obtain ⟨z, hz⟩ : ∃ z, z = w2.heap.size := ⟨_, rfl⟩
      have k0 : ((w2.alloc (.cells #[.int .i64 t, .int .i64 r, .string nm] 78)).alloc (.cells #[.int .i64 t', .int .i64 r'] 24)).heap[z]? = some (.cells #[.int .i64 t, .int .i64 r, .string nm] 78 (0, 0)) := by rw [hz]; exact heap_alloc2_old w2 _ _
      have k1 : ((w2.alloc (.cells #[.int .i64 t, .int .i64 r, .string nm] 78)).alloc (.cells #[.int .i64 t', .int .i64 r'] 24)).heap[z + 1]? = some (.cells #[.int .i64 t', .int .i64 r'] 24 (0, 0)) := by rw [hz]; exact heap_alloc2_new w2 _ _
      have hbA : Below w2.heap.size w2 ((w2.alloc (.cells #[.int .i64 t, .int .i64 r, .string nm] 78)).alloc (.cells #[.int .i64 t', .int .i64 r'] 24)) := ((Below.refl _ _).alloc (Nat.le_refl _) _).alloc (by simp) _
      rw [← hz]
      generalize ((w2.alloc (.cells #[.int .i64 t, .int .i64 r, .string nm] 78)).alloc (.cells #[.int .i64 t', .int .i64 r'] 24)) = w3 at k0 k1 hbA ⊢
      have hz3 := hbA.size
      have hown3 := own_call hown2 hbA
      have hR3 := hR2.out.kept (hbA.block _ (by omega)) (hbA.block _ (by omega))
      have hb3 := below_step hb2 hbA
      clear hown2 hR2 hb2 hbA hen hz
      have x0 := cell_of_row _ _ 0 _ _ (0, 0) k0
      have x1 := cell_of_row _ _ 1 _ _ (0, 0) k0
      go_wp2_with fail
      refine (HC.out (t, r) w3 hb3).mono ?_
      rintro e w4 ⟨rfl, hb4⟩
      have l0 := (hb4.block _ (heap_lt k0)).trans k0
      have l1 := (hb4.block _ (heap_lt k1)).trans k1
      have hz4 := hb4.size
      have hown4 := own_call hown3 hb4
      have hR4 := hR3.kept (hb4.block _ (by omega)) (hb4.block _ (by omega))
      have hb5 := below_step hb3 hb4
      have HR4 := Lib.hid hR4
      have HB5 := Lib.hid hb5
      have HL0 := Lib.hid l0
      clear hown3 hR3 hb3 hb4 x0 x1 k0 k1 hR4 hb5
      obtain ⟨qb, hqb⟩ : ∃ qb, qb = q (t, r) := ⟨_, rfl⟩
      have hF := HF.out qb hqb.symm
      rw [← hqb]
      clear hqb HF
      cases qb with
      | false =>
        rw [if_neg (by decide), List.append_nil] at hF
        have HF := Lib.hid hF
        clear hF
        go_wp2_with fail
        go_roundg (todo'.length + 1)
        case measure => omega
        case rel => exact ⟨done ++ [(((t, r), nm), (t', r'))], todo', rfl, HR4.out, hP2.out, by rw [HF.out]; exact hown4, HB5.out, by omega⟩
      | true =>
        rw [if_pos rfl] at hF
        have HF := Lib.hid hF
        clear hF
        have x0 := cell_of_row _ _ 0 _ _ (0, 0) HL0.out
        have x1 := cell_of_row _ _ 1 _ _ (0, 0) HL0.out
        have x2 := cell_of_row _ _ 2 _ _ (0, 0) HL0.out
        obtain ⟨y0, y1⟩ := two_cells l1
        have HW := Lib.hid (row_there w4 70 (entA ⟨(t, r), nm, (t', r')⟩))
        go_wp2_with (at_builtin; refine wpList_append_own _ rfl (.tmp 24) (.tmp 31) 91 rfl (w.heap.size + 1) 70 i0 _ 5 48 Tryz.underlying91 hi0 hz0 hz1 hz2 rfl (by decide) _ _ _ rfl (hown4.alloc _) ⟨w4.heap.size, 0, none⟩ 1 1 (entA ⟨(t, r), nm, (t', r')⟩).toList rfl rfl HW.out (ent_one _) hm (by omega) (by simp; omega) ?_; intro v2 w5 hown5 hg5 _)
        have hbw : Below (w.heap.size + 1) w4 w5 := (((Below.refl w4.heap.size w4).alloc (Nat.le_refl _) _).mono (by omega)).grown hg5 (by simp; omega) (fun j hj => (hown4.lt j hj).1)
        go_roundg (todo'.length + 1)
        case measure => omega
        case rel =>
          refine ⟨done ++ [(((t, r), nm), (t', r'))], todo', rfl, HR4.out.kept (hbw.block _ (by omega)) (hbw.block _ (by omega)), hP2.out, ?_, HB5.out.trans (hbw.mono (by omega)), by have := hbw.size; omega⟩
          rw [HF.out, List.length_append]
          show w5.ownsRow _ _ 5 v2 (fs.length + 1) _
          rw [← flat_ent]
          exact hown5

set_option maxRecDepth 100000 in
theorem entries_code (a : Addr) (S : Nat → Prop) (g : Gr) (w : World) (h : GIn w S a g) (hg : g.ok) :
    Calls Tryz.prog 46 #[.pointer (some a)] w (EntsNew g.E w) := by
  have hs := sortedAll_code a S g (fun _ => true) (fun _ => rfl) w h hg
  rw [show (g.E.filter fun e => (fun _ : St => true) e.dir) = g.E from List.filter_eq_self.2 fun _ _ => rfl] at hs
  have HS := Lib.hid hs
  clear h hs
  go_enter Tryz.func46, Tryz.ntmps46
  go_wp2_with fail
  refine (HS.out).mono ?_
  rintro e w2 ⟨v, rfl, hown, hb⟩
  go_wp2_with fail
  go_ret
  exact ⟨v, rfl, hown, hb⟩

end Go.Proofs.YtbkijfhfjhpebaaGreatDoor

/-
  A map of any shape gone through inside a fence (by an iterator's own body).
-/
namespace Go.Proofs.YtbkijfhfjhpebaaGreatDoor
open Go.RowKit

section
variable {K V : Type} {ek : K → Value} {ev : V → Value} {P : Program} {k e : TypeId}

theorem KRange.walks {w w' : World} {b r : Nat} {L todo : List (K × V)} (h : KRange ek ev w b r L todo) (hk : KeepsWalks w w') : KRange ek ev w' b r L todo := by
  obtain ⟨es, clock, since, seen, c0, M, T, h1, h2, h3, h4, h5, rest⟩ := h
  exact ⟨es, clock, since, seen, c0, M, T, hk.same b _ h1 rfl, h2, h3, h4, hk.same r _ h5 rfl, rest⟩

theorem KRange.iter_walk {w : World} {b r : Nat} {L todo : List (K × V)} (h : KRange ek ev w b r L todo) : ∃ o : Obj, w.heap[r]? = some o ∧ o.isWalk = true := by
  obtain ⟨es, clock, since, seen, c0, M, T, h1, h2, h3, h4, h5, rest⟩ := h
  exact ⟨_, h5, rfl⟩

/-- 'range m'. -/
theorem wpListIn_k_range {F : Fence} {n : Nat} {w : World} {ops : Array Oper} {rest : List Oper} {o : Oper} {a : Act} {Q : Exit → Act → World → Prop} (hg : o.guard = none) (m : Operand) (t : TypeId)
    (hop : o.op = Op.range t m) (ht : P.underlying t = some (.map k e)) (b : Nat) (L : List (K × V)) (hm : a.eval m = .map (some b)) (h : KMap ek ev w b L)
    (hK : ∀ w', Hid (KRange ek ev w' b w.heap.size L L) → Hid (Below w.heap.size w w') → Hid (w'.heap.size = w.heap.size + 1) → wpListIn F n P ops Q rest (a.put o.dst (.pointer (some ⟨w.heap.size, 0, none⟩))) w') : wpListIn F n P ops Q (o :: rest) a w := by
  refine wpListIn_plain hg fun K' hK' => ?_
  obtain ⟨w', hrun, r1, r2, r3⟩ := h.range (P := P) ht
  unfold Oper.wpIn
  refine ⟨by simp [Oper.about, hop], ?_⟩
  rw [Oper.semAt_plain F _ _ (by rw [hop]; intro c hc'; cases hc')]
  simp [execOp, hop, hm, hrun, Result.andThen]
  exact hK' _ _ (hK w' r1 r2 r3)

/-- The step. -/
theorem wpListIn_k_next {F : Fence} {n : Nat} {w : World} {ops : Array Oper} {rest : List Oper} {o : Oper} {a : Act} {Q : Exit → Act → World → Prop} (hg : o.guard = none) (it : Operand) (hop : o.op = Op.next it false)
    (b r : Nat) (L todo : List (K × V)) (hit : a.eval it = .pointer (some ⟨r, 0, none⟩)) (h : KRange ek ev w b r L todo)
    (hDone : todo = [] → wpListIn F n P ops Q rest (a.put o.dst (.tuple #[.bool false])) w)
    (hMore : ∀ (p : K × V) (todo' : List (K × V)) (w' : World), Hid (todo.Perm (p :: todo')) → Hid (KRange ek ev w' b r L todo') → Hid (But (fun i => i = r) w w') → Hid (w'.heap.size = w.heap.size) →
      (Instr.entry (.pointer (some ⟨r, 0, none⟩))).run P w' = .ok (.tuple #[ek p.1, ev p.2]) w' → wpListIn F n P ops Q rest (a.put o.dst (.tuple #[.bool true, ek p.1, ev p.2])) w') :
    wpListIn F n P ops Q (o :: rest) a w := by
  refine wpListIn_plain hg fun K' hK' => ?_
  unfold Oper.wpIn
  refine ⟨by simp [Oper.about, hop], ?_⟩
  rw [Oper.semAt_plain F _ _ (by rw [hop]; intro c hc'; cases hc')]
  rcases h.next (P := P) o.type with ⟨h0, hrun⟩ | ⟨p, todo', w', hp, hrun, hr, hb, hs, hen⟩
  · simp [execOp, hop, hit, hrun, Result.andThen]
    exact hK' _ _ (hDone h0)
  · simp [execOp, hop, hit, hrun, Result.andThen]
    exact hK' _ _ (hMore p todo' w' hp hr hb hs hen)

/-- 'm[k] = v'. -/
theorem wpListIn_k_store [DecidableEq K] (S : KShape P k ek) {F : Fence} {n : Nat} {w : World} {ops : Array Oper} {rest : List Oper} {o : Oper} {a : Act} {Q : Exit → Act → World → Prop} (hg : o.guard = none) (m x v : Operand) (t : TypeId)
    (hop : o.op = Op.mapUpdate t m x v) (ht : P.underlying t = some (.map k e)) (b : Nat) (L : List (K × V)) (hm : a.eval m = .map (some b)) (h : KMap ek ev w b L) (key : K) (hx : a.eval x = ek key) (val : V) (hv : a.eval v = ev val)
    (hK : ∀ w', Hid (KMap ek ev w' b ((key, val) :: offL L key)) → Hid (But (fun i => i = b) w w') → Hid (w'.heap.size = w.heap.size) → wpListIn F n P ops Q rest (a.put o.dst undef) w') : wpListIn F n P ops Q (o :: rest) a w := by
  refine wpListIn_plain hg fun K' hK' => ?_
  obtain ⟨w', hrun, r1, r2, r3⟩ := h.store S ht key val
  unfold Oper.wpIn
  refine ⟨by simp [Oper.about, hop], ?_⟩
  rw [Oper.semAt_plain F _ _ (by rw [hop]; intro c hc'; cases hc')]
  simp [execOp, hop, hm, hx, hv, hrun, Result.andThen]
  exact hK' _ _ (hK w' r1 r2 r3)

end
end Go.Proofs.YtbkijfhfjhpebaaGreatDoor

/-
  The library's maps.Values and slices.AppendSeq, Collect and SortedFunc as the landed graph calls them: at a map of inodes.
-/
namespace Go.Proofs.YtbkijfhfjhpebaaGreatDoor
open Go.RowKit StampMath GraphMath

attribute [local go_sem] Oper.semAt_some

/-- What a round hands on: an inode. -/
abbrev handed (x : Ino) : Array Value := #[.agg (inoA x)]

set_option maxHeartbeats 1000000 in
theorem values_code (b : Nat) (w : World) :
    Calls Tryz.prog 22 #[.map (some b)] w fun e w' => e = .returned (.func (.func 42) #[] #[.pointer (some ⟨w.heap.size, 0, none⟩)]) ∧ w' = w.alloc (.cells #[.map (some b)] 62) := by
  go_enter Tryz.func22, Tryz.ntmps22
  go_wp2_with fail
  go_ret
  exact ⟨rfl, rfl⟩

set_option maxRecDepth 100000 in
set_option maxHeartbeats 2000000 in
theorem values_in (n : Nat) (hn : 1 ≤ n) (l Bm b : Nat) (L : List (St × Ino)) (J Jx : List Ino → World → Prop) (W0 : World) (hJ : AbidesFrom W0.heap.size J)
    (hY : ∀ pre x W, J pre W → pre.length < 1001 → YieldAt Fence.wide (n - 1) Tryz.prog l (handed x) W fun e W' =>
      (e = .returned (.bool true) ∧ J (pre ++ [x]) W' ∧ KeepsWalks W W') ∨ (e = .returned (.bool false) ∧ Jx (pre ++ [x]) W'))
    (hm : W0.cell? ⟨Bm, 0, none⟩ = some (.map (some b))) (hown : KMap stV inoV W0 b L) (hL : L.length ≤ 1000) (h0 : J [] W0) :
    CallsIn Fence.wide n Tryz.prog 42 #[.func (.yield l) #[] #[], .pointer (some ⟨Bm, 0, none⟩)] W0 fun e W' => (∃ v, e = .returned v) ∧
      ((∃ ys : List Ino, ys.Perm (L.map Prod.snd) ∧ J ys W') ∨ (∃ pre, True ∧ Jx pre W')) := by
  have HO := Lib.hid hown
  have HJ := Lib.hid hJ
  have HLn := Lib.hid hL
  clear hown hJ hL
  refine callsIn_of_wp Tryz.func42 rfl trivial ?_ rfl
  simp only [Tryz.ntmps42, List.size_toArray, List.length_cons, List.length_nil, Nat.reduceAdd, Nat.reduceSub, Array.replicate_succ, Array.replicate_zero, List.push_toArray, List.append_toArray, List.nil_append, List.cons_append]
  gi_wp2_with (gi_at_range; refine wpListIn_k_range (by rfl) _ _ (by rfl) Tryz.underlying62 b _ (by rfl) HO.out ?_; intro w1 HR1 HB1 HS1)
  go_frame
  gi_loopg [] (L.length + 1) (fun gk wr => ∃ (done todo : List (St × Ino)), gk = todo.length + 1 ∧ Hid (KRange stV inoV wr b W0.heap.size L todo) ∧ Hid ((done ++ todo).Perm L) ∧ Hid (J (done.map Prod.snd) wr))
  case atStart =>
    exact ⟨[], L, rfl, HR1, List.Perm.refl _, HJ.out [] W0 w1 none h0 ⟨HB1.out.os, HB1.out.tape, HB1.out.output, HB1.out.size, fun q hq _ => HB1.out.block q hq⟩ (fun r e => by cases e)⟩
  case round =>
    obtain ⟨done, todo, rfl, hR, hP, hJs⟩ := hrel
    clear HR1 HB1 HS1
    gi_wp2_with (gi_at_next; refine wpListIn_k_next (by rfl) _ (by rfl) b W0.heap.size _ _ (by rfl) hR.out ?_ ?_)
    · intro ht
      gi_wp2_with fail
      go_end0
      refine ⟨⟨_, rfl⟩, .inl ⟨done.map Prod.snd, ?_, hJs.out⟩⟩
      have h5 := hP.out
      rw [ht, List.append_nil] at h5
      exact h5.map _
    · intro t r x todo' w2 hp hR2 hB2 hs2 hen
      have hlen2 := hp.out.length_eq
      simp only [List.length_cons] at hlen2
      have hlen3 : done.length + todo.length = L.length := by have := hP.out.length_eq; rwa [List.length_append] at this
      have hJ2 : J (done.map Prod.snd) w2 := HJ.out _ wr w2 (some W0.heap.size) hJs.out ⟨hB2.out.os, hB2.out.tape, hB2.out.output, hB2.out.size, fun i hi hne => hB2.out.block i hi fun q => hne (by rw [q])⟩ (fun r e => by cases e; exact ⟨Nat.le_refl _, hR.out.iter_walk⟩)
      have hJ3 : J (done.map Prod.snd) (w2.alloc (.cells (inoA x) 32)) := HJ.out _ w2 _ none hJ2 (World.grownBy_alloc w2 _ none) (fun r e => by cases e)
      have hR3 : KRange stV inoV (w2.alloc (.cells (inoA x) 32)) b W0.heap.size L todo' := hR2.out.walks (KeepsWalks.alloc _ _)
      have HP2 : Hid ((done ++ [((t, r), x)] ++ todo').Perm L) := by
        have e1 : (done ++ todo).Perm (done ++ (((t, r), x) :: todo')) := hp.out.append_left _
        show (done ++ [((t, r), x)] ++ todo').Perm _
        rw [List.append_assoc]
        exact e1.symm.trans hP.out
      have HJm : Hid (∀ W, J (done.map Prod.snd ++ [x]) W → J ((done ++ [((t, r), x)]).map Prod.snd) W) := fun W h => by rw [List.map_append]; exact h
      have hy0 := hY (done.map Prod.snd) x (w2.alloc (.cells (inoA x) 32)) hJ3 (by rw [List.length_map]; have := HLn.out; omega)
      have HR3 := Lib.hid hR3
      have hJ3' := Lib.hid hJ3
      obtain ⟨⟨i1, i2⟩, xk, xl, xm, xd⟩ := x
      obtain ⟨fn, tmps, assign, body, hy, hRd⟩ := hy0
      simp only [stV, stA, inoV, inoA, handed] at hen hy ⊢
      have HRd := Lib.hid hRd
      clear hJ2 hJ3 hR3 hRd hR hP hB2 hs2 hR2 hp hJs
      gi_wp2_with fail
      refine HRd.out.mono ?_
      rintro e W3 (⟨rfl, hJ4, hk3⟩ | ⟨rfl, hJx3⟩)
      · have hR4 := HR3.out.walks hk3
        clear hy
        gi_wp2_with fail
        gi_roundg (todo'.length + 1)
        case measure => omega
        case rel => exact ⟨done ++ [((t, r), Ino.mk (i1, i2) xk xl xm xd)], todo', rfl, hR4, HP2.out, HJm.out _ hJ4⟩
      · clear hy
        gi_wp2_with fail
        refine bodyPost_ret (results_none rfl _ _ _) rfl ?_
        exact ⟨⟨_, rfl⟩, .inr ⟨_, trivial, hJx3⟩⟩

theorem values_stops (n : Nat) (hn : 1 ≤ n) (Bm b : Nat) (L : List (St × Ino)) (hL : L.length ≤ 1000) (w : World) (hm : w.heap[Bm]? = some (.cells #[.map (some b)] 62 (0, 0))) (hown : KMap stV inoV w b L) :
    SeqStopsK Fence.wide n Tryz.prog 42 #[.pointer (some ⟨Bm, 0, none⟩)] handed KeepsWalks (fun ys => ys.Perm (L.map Prod.snd)) (fun _ => True) 1001 w := fun l J Jx W hW hJ _ hY h0 =>
  values_in n hn l Bm b L J Jx W hJ hY (cell_of_row _ _ 0 _ _ (0, 0) ((hW.block Bm (heap_lt hm)).trans hm)) (hown.kept (hW.block b hown.lt)) hL h0

end Go.Proofs.YtbkijfhfjhpebaaGreatDoor

/-
  The landed graph's Inodes: slices.SortedFunc over maps.Values.
-/
namespace Go.Proofs.YtbkijfhfjhpebaaGreatDoor
open Go.RowKit StampMath GraphMath

set_option maxRecDepth 100000 in
theorem inoClosure_grown (x y : Ino) (w : World) :
    Calls Tryz.prog 23 #[.agg (inoA x), .agg (inoA y)] w fun e w' => e = .returned (.int .i64 (inoI x y)) ∧ Grown w w' := by
  obtain ⟨⟨xd1, xd2⟩, xk, xl, xm, xd⟩ := x
  obtain ⟨⟨yd1, yd2⟩, yk, yl, ym, yd⟩ := y
  unfold inoA inoI
  obtain ⟨c, hc⟩ : ∃ c, c = cmp xd1 xd2 yd1 yd2 := ⟨_, rfl⟩
  simp only [← hc]
  have HC : Hid (∀ W : World, Calls Tryz.prog 24 #[.agg #[.int .i64 xd1, .int .i64 xd2], .agg #[.int .i64 yd1, .int .i64 yd2]] W fun e w' => e = .returned (.int .i64 c) ∧ Grown W w') := fun W => by rw [hc]; exact compare_grown _ _ _ _ W
  clear hc
  go_enter Tryz.func23, Tryz.ntmps23
  go_wp2_with fail
  refine (HC.out _).mono ?_
  rintro e w1 ⟨rfl, hg1⟩
  go_wp2_with fail
  go_ret
  exact ⟨rfl, (((Grown.refl _).alloc _).alloc _).trans hg1⟩

section
attribute [local go_sem] Oper.semAt_some

/-- A box below the row's base is as it was behind an append. -/
theorem box_appended {W w1 : World} {base B k n : Nat} {t e : TypeId} {u v : Value} {xs : List Value} {tmp : Obj} (hb : Boxed W B t u) (hlt : B < base) (hrow : W.ownsRow base e k v n xs) (hgrow : (W.alloc tmp).grownBy w1 v.ownBlock) : Boxed w1 B t u :=
  (hb.alloc tmp).kept hgrow fun q => by have := (hrow.lt B q.symm).1; omega

/-- What a round of AppendSeq's loop holds: its own inode in a box. -/
def RoundAt (sv : Value) (B : Nat) (x : Ino) (a : Act) (W : World) : Prop :=
  ∃ q, a = { tmps := #[.slice none 0 0, sv, .pointer (some ⟨B, 0, none⟩), undef, .slice none 0 0, .pointer (some ⟨q, 0, none⟩), sv, .agg (inoA x), undef, undef, undef, undef, undef], defers := [] } ∧ W.heap[q]? = some (.cells (inoA x) 32 (0, 0))

theorem round_own (sv : Value) (B B0 : Nat) (x : Ino) (a : Act) : OwnFrom B0 (fun (_ : Unit) W => RoundAt sv B x a W) := by
  rintro _ W W' row ⟨q, ha, hq⟩ hg hr
  refine ⟨q, ha, (hg.block q (heap_lt hq) fun e => ?_).trans hq⟩
  obtain ⟨_, o, ho, hc⟩ := hr q e.symm
  rw [hq] at ho
  cases ho
  cases hc

set_option maxRecDepth 100000 in
set_option maxHeartbeats 2000000 in
theorem appendSeq_code (bm b : Nat) (L : List (St × Ino)) (hL : L.length ≤ 1000) (w : World) (hbm : w.heap[bm]? = some (.cells #[.map (some b)] 62 (0, 0))) (hown : KMap stV inoV w b L) :
    Calls Tryz.prog 65 #[.slice none 0 0, .func (.func 42) #[] #[.pointer (some ⟨bm, 0, none⟩)]] w fun e w' =>
      ∃ (v : Value) (ys : List Ino), e = .returned v ∧ ys.Perm (L.map Prod.snd) ∧ w'.ownsRow w.heap.size 32 6 v ys.length (flat (ys.map inoA)) ∧ Below w.heap.size w w' := by
  obtain ⟨i0, hi0, hz0, hz1, hz2⟩ := info_parts ino_infos
  refine (callsIn_wide (n := 5)).1 ?_
  refine callsIn_of_wp_marks Tryz.func65 rfl trivial ?_ rfl
  simp only [Tryz.ntmps65, List.size_toArray, List.length_cons, List.length_nil, Nat.reduceAdd, Nat.reduceSub, Array.replicate_succ, Array.replicate_zero, List.push_toArray, List.append_toArray, List.nil_append, List.cons_append]
  gi_wp2_with fail
  have b1 := Boxed.new w 29 (.slice none 0 0)
  have hB0 := (Below.refl w.heap.size w).alloc (Nat.le_refl _) (.cells #[.slice none 0 0] 29)
  obtain ⟨W0, hW0⟩ : ∃ W0, w.alloc (.cells #[.slice none 0 0] 29) = W0 := ⟨_, rfl⟩
  have hsz : W0.heap.size = w.heap.size + 1 := by rw [← hW0]; simp
  rw [hW0] at b1 hB0 ⊢
  clear hW0
  refine wpIn_rangeFunc_ownH rfl (by decide) (gf := 42) (lb := #[.pointer (some ⟨bm, 0, none⟩)]) rfl trivial (enters_of Tryz.func42 (by kernel_rfl) rfl)
    (values_stops (5 - 1) (by decide) bm b L hL W0 ((hB0.block bm (heap_lt hbm)).trans hbm) (hown.kept (hB0.block b hown.lt))) (fun h k => KeepsWalks.trans h k) (fun W l o o' _ hl _ ho => KeepsWalks.putObj o' hl ho) (Below.refl _ _) (fun _ => rfl)
    (fun (pre : List Ino) W => (∃ v, Boxed W w.heap.size 29 v ∧ W.ownsRow (w.heap.size + 1) 32 6 v pre.length (flat (pre.map inoA)) ∧ True) ∧ Below w.heap.size w W)
    (fun _ _ _ => False)
    (OwnFrom.and (Own.from (holdsRow_own (w.heap.size + 1) w.heap.size 29 32 6 (fun pre : List Ino => pre.length) (fun pre => flat (pre.map inoA)) (fun _ _ => True)) _) (ownFrom_below (Nat.le_refl _) (by omega)))
    (fun _ _ _ _ _ hs _ _ => hs)
    ⟨⟨_, b1, World.ownsRow_nil _ _ _ _, trivial⟩, hB0⟩
    (fun x a' W => RoundAt (.func (.func 42) #[] #[.pointer (some ⟨bm, 0, none⟩)]) w.heap.size x a' W) (fun x a' => round_own _ _ _ x a') ?assign ?body ?done ?stop
  case assign =>
    rintro l pre x W K ⟨⟨v, hv, hrow, _⟩, hB⟩ hK
    have hK' := hK { tmps := #[.slice none 0 0, .func (.func 42) #[] #[.pointer (some ⟨bm, 0, none⟩)], .pointer (some ⟨w.heap.size, 0, none⟩), undef, .slice none 0 0, .pointer (some ⟨W.heap.size, 0, none⟩), .func (.func 42) #[] #[.pointer (some ⟨bm, 0, none⟩)], .agg (inoA x), undef, undef, undef, undef, undef], defers := [] } (W.alloc (.cells (inoA x) 32))
      ((KeepsOthers.alloc _ _).from _) (KeepsWalks.alloc _ _) ⟨⟨v, hv.alloc _, hrow.alloc _, trivial⟩, hB.alloc hB.size _⟩ ⟨W.heap.size, rfl, heap_alloc_new _ _⟩
    have HK := Lib.hid hK'
    clear hK hK'
    obtain ⟨⟨i1, i2⟩, xk, xl, xm, xd⟩ := x
    simp only [handed, inoA] at HK ⊢
    gi_wp2_with fail
    exact HK.out
  case body =>
    rintro l pre x a' W hl _ ⟨⟨v, hv, hrow, _⟩, hB⟩ ⟨q, rfl, hq⟩ hlt
    have hc := hv.cell
    have hsz2 := hB.size
    have hm : pre.length + 1 ≤ maxLen := by unfold maxLen; omega
    have hlow := heap_lt hq
    have hlow2 := hv.lt
    have HW := Lib.hid (row_there W 32 (inoA x))
    have HO := Lib.hid (ino_one x)
    obtain ⟨x0, x1, x2, x3, x4, x5⟩ := ino_cells hq
    have HF := Lib.hid (flat_ino pre x)
    obtain ⟨⟨i1, i2⟩, xk, xl, xm, xd⟩ := x
    unfold inoA at HW HO ⊢
    gi_wp2_with (gi_at_builtin; refine wpListIn_append_own _ rfl _ _ 29 rfl (w.heap.size + 1) 32 i0 _ 6 56 Tryz.underlying29 hi0 hz0 hz1 hz2 rfl (by decide) _ _ _ rfl (hrow.alloc _) ⟨W.heap.size, 0, none⟩ 1 1 (inoA ⟨(i1, i2), xk, xl, xm, xd⟩).toList rfl rfl HW.out HO.out hm (by omega) (by simp; omega) ?_; intro v' w1 hown' hgrow _; obtain ⟨g', cap', rfl⟩ := ownsRow_succ hown'; have hv1 := box_appended hv (by omega) hrow hgrow; have hc1 := hv1.cell; have hf1 := hv1.frozen)
    have hg : (W.alloc (.cells (inoA ⟨(i1, i2), xk, xl, xm, xd⟩) 32)).grownBy w1 v.ownBlock := hgrow
    obtain ⟨_, a2, a3, a4, a5⟩ := hv.appended (n₀ := w.heap.size) (by decide) (own_lower hrow (Nat.le_succ _)) hsz2 (Nat.le_refl _) (own_lower hown' (Nat.le_succ _)) hg
    have hr2 := hown'.kept (grownBy_setCell' w1 w.heap.size (.slice (some ⟨g', 0, none⟩) (pre.length + 1) cap')) (.inr (hv1.not_row (by decide) hown').symm)
    have hr3 : (w1.setCell ⟨w.heap.size, 0, none⟩ (.slice (some ⟨g', 0, none⟩) (pre.length + 1) cap')).ownsRow (w.heap.size + 1) 32 6 (.slice (some ⟨g', 0, none⟩) (pre.length + 1) cap') (pre ++ [Ino.mk (i1, i2) xk xl xm xd]).length (flat ((pre ++ [Ino.mk (i1, i2) xk xl xm xd]).map inoA)) := by
      rw [List.length_append, ← HF.out]
      exact hr2
    exact ⟨a4.from _, a4.walks, ⟨_, a2, hr3⟩, hB.trans a5⟩
  case done =>
    rintro D ys W hD hS ⟨⟨v, hv, hrow, _⟩, hB⟩ hK
    have hc := hv.cell
    gi_wp2_with fail
    refine ⟨by simp, .inl ⟨_, _, rfl, run_takeDeferred hK, ?_⟩⟩
    have hrow2 := ownsRow_putObj hrow (.deferred none) hK rfl
    have hB2 := hB.trans (belowK_b (n₀ := w.heap.size) (w := w) (Nat.le_refl _) W D _ (.deferred none) (by omega) hK rfl rfl)
    exact ⟨_, results_tmp rfl _ _ _, v, ys, rfl, hS, own_lower hrow2 (Nat.le_succ _), hB2⟩
  case stop =>
    rintro D c pre W _ _ h _
    exact h.elim
end

set_option maxRecDepth 100000 in
theorem collect_code (bm b : Nat) (L : List (St × Ino)) (hL : L.length ≤ 1000) (w : World) (hbm : w.heap[bm]? = some (.cells #[.map (some b)] 62 (0, 0))) (hown : KMap stV inoV w b L) :
    Calls Tryz.prog 40 #[.func (.func 42) #[] #[.pointer (some ⟨bm, 0, none⟩)]] w fun e w' =>
      ∃ (v : Value) (ys : List Ino), e = .returned v ∧ ys.Perm (L.map Prod.snd) ∧ w'.ownsRow w.heap.size 32 6 v ys.length (flat (ys.map inoA)) ∧ Below w.heap.size w w' := by
  have HA := Lib.hid (appendSeq_code bm b L hL w hbm hown)
  clear hown hbm
  go_enter Tryz.func40, Tryz.ntmps40
  go_wp2_with fail
  refine HA.out.mono ?_
  rintro e w' ⟨v, ys, rfl, h1, h2, h3⟩
  go_wp2_with fail
  go_ret
  exact ⟨v, ys, rfl, h1, h2, h3⟩

set_option maxRecDepth 100000 in
theorem sortedFunc_code (bm b : Nat) (L : List (St × Ino)) (hL : L.length ≤ 1000) (I : List Ino) (hI : I.Pairwise fun a b => lessS a.id b.id = true) (hp : (L.map Prod.snd).Perm I) (w : World) (hbm : w.heap[bm]? = some (.cells #[.map (some b)] 62 (0, 0))) (hown : KMap stV inoV w b L) :
    Calls Tryz.prog 21 #[.func (.func 42) #[] #[.pointer (some ⟨bm, 0, none⟩)], .func (.func 23) #[] #[]] w (InosNew I w) := by
  have HA := Lib.hid (collect_code bm b L hL w hbm hown)
  have HI := Lib.hid hI
  have HP := Lib.hid hp
  clear hown hbm hI hp
  go_enter Tryz.func21, Tryz.ntmps21
  go_wp2_with fail
  refine HA.out.mono ?_
  rintro e wr ⟨v, ys, rfl, hy, hown, hB⟩
  have h1000 : ys.length < 4611686018427387904 := by
    have := hy.length_eq
    rw [List.length_map] at this
    omega
  have HY := Lib.hid hy
  clear hy
  have hs := sort_own (w := wr) Tryz.sortIno 6 Tryz.isAgg32 Tryz.sizeOf32 inoA (fun _ => rfl) ino_one inoI swo_inos 23 #[] (enters_of Tryz.func23 (by kernel_rfl) rfl)
    (fun W x y => (inoClosure_grown x y W).mono fun _ _ h => ⟨h.1, h.2.grow⟩) (rfl : ys.length = ys.length) hown h1000
  change Calls Tryz.prog 41 _ _ _ at hs
  have hrow := hown.lt
  clear hown
  have HS := Lib.hid hs
  clear hs
  go_wp2_with fail
  refine (HS.out).mono ?_
  rintro e w2 ⟨rfl, zs, hz, hsd, hown2, hbut⟩
  have hzs : zs = I := sorted_inos HI.out (hz.trans (HY.out.trans HP.out)) hsd
  have hl : ys.length = I.length := (HY.out.trans HP.out).length_eq
  rw [hzs, hl] at hown2
  clear hz hsd hzs
  go_wp2_with fail
  go_ret
  exact ⟨_, rfl, hown2, hB.trans (hbut.below (fun i hi => (hrow i hi).1) hB.size)⟩

set_option maxRecDepth 100000 in
theorem inodes_code (a : Addr) (S : Nat → Prop) (g : Gr) (w : World) (h : GIn w S a g) (hg : g.ok) :
    Calls Tryz.prog 11 #[.pointer (some a)] w (InosNew (inodesG g) w) := by
  obtain ⟨b, bi, be, rfl, h1, h2, h3, hb, hi, he, hS⟩ := h
  obtain ⟨c0, c1⟩ := two_cells hb
  have hlt := heap_lt hb
  have hlen : (pairsI g).length ≤ 1000 := by
    unfold pairsI
    rw [List.length_map, hg.inodes, List.length_map]
    exact Nat.le_trans hg.few (by decide)
  have hgE : (inodesG g).Pairwise fun a b => lessS a.id b.id = true := by
    rw [hg.inodes]
    exact List.pairwise_map.2 hg.sortI
  have hp : ((pairsI g).map Prod.snd).Perm (inodesG g) := by
    unfold pairsI
    rw [List.map_map, show Prod.snd ∘ (fun x : Ino => (x.id, x)) = id from rfl, List.map_id]
  have HQ : Hid (∀ W, Below w.heap.size w W → ∀ B, W.heap[B]? = some (.cells #[.map (some bi)] 62 (0, 0)) → Calls Tryz.prog 21 #[.func (.func 42) #[] #[.pointer (some ⟨B, 0, none⟩)], .func (.func 23) #[] #[]] W (InosNew (inodesG g) W)) :=
    fun W hW B hB => sortedFunc_code B bi (pairsI g) hlen (inodesG g) hgE hp W hB (hi.kept (hW.block bi hi.lt))
  clear hi he hb hS hlen hgE hp hg
  go_enter Tryz.func11, Tryz.ntmps11
  go_wp2_with fail
  refine (values_code bi w).mono ?_
  rintro e w' ⟨rfl, rfl⟩
  have hb1 := (Below.refl w.heap.size w).alloc (Nat.le_refl _) (.cells #[.map (some bi)] 62)
  go_wp2_with fail
  refine (HQ.out _ hb1 _ (heap_alloc_new _ _)).mono ?_
  rintro e w2 ⟨v, rfl, hown, hb⟩
  go_wp2_with fail
  go_ret
  exact ⟨v, rfl, own_lower hown hb1.size, below_step hb1 hb⟩

end Go.Proofs.YtbkijfhfjhpebaaGreatDoor

/-
  The walks of stamp's isRep and May.
-/
namespace Go.Proofs.YtbkijfhfjhpebaaGreatDoor
open Go.RowKit StampMath PackMath

theorem isRep_any (r : Int) (w : World) :
    Calls Tryz.prog 145 #[.int .i64 r] w fun e w' => e = .returned (.bool (decide (0 ≤ r) && decide (r < 8))) ∧ w = w' := by
  have hcase : (decide (0 ≤ r) = false) ∨ 0 ≤ r := by
    by_cases h : 0 ≤ r
    · exact Or.inr h
    · exact Or.inl (by simp; omega)
  rcases hcase with h | h
  all_goals
    go_enter Tryz.func145, Tryz.ntmps145
    go_wp2_with fail
    go_ret
    exact ⟨by simp [h], rfl⟩

set_option maxHeartbeats 400000 in
theorem may_any (t r : Int) (w : World) :
    Calls Tryz.prog 111 #[.agg #[.int .i64 t, .int .i64 r]] w fun e w' => e = .returned (.bool (mayB t r)) ∧ Below w.heap.size w w' := by
  have hcase : ((t == 0) = true ∧ mayB t r = (r == 0)) ∨ ((t == 0) = false ∧ decide (0 < t) = false ∧ mayB t r = false) ∨ ((t == 0) = false ∧ 0 < t ∧ decide (t ≤ 1073741824) = false ∧ mayB t r = false) ∨
      ((t == 0) = false ∧ 0 < t ∧ t ≤ 1073741824 ∧ mayB t r = (decide (0 ≤ r) && decide (r < 8))) := by
    unfold mayB
    by_cases h0 : t = 0
    · exact Or.inl ⟨by simp [h0], by rw [if_pos h0]⟩
    · rw [if_neg h0]
      by_cases h1 : 0 < t
      · by_cases h2 : t ≤ 1073741824
        · refine Or.inr (Or.inr (Or.inr ⟨by simp [h0], h1, h2, ?_⟩))
          have e1 : decide (1 ≤ t) = true := by simp; omega
          have e2 : decide (r ≤ 7) = decide (r < 8) := by rw [decide_eq_decide]; omega
          rw [e1, e2]
          simp [h2]
        · exact Or.inr (Or.inr (Or.inl ⟨by simp [h0], h1, by simp; omega, by simp [h2]⟩))
      · exact Or.inr (Or.inl ⟨by simp [h0], by simp; omega, by simp; omega⟩)
  rcases hcase with ⟨h0, h⟩ | ⟨h0, h1, h⟩ | ⟨h0, h1, h2, h⟩ | ⟨h0, h1, h2, h⟩
  · have H := Lib.hid h
    clear h
    go_enter Tryz.func111, Tryz.ntmps111
    go_wp2_with fail
    go_ret
    exact ⟨by rw [H.out]; rfl, (Below.refl _ _).alloc (Nat.le_refl _) _⟩
  · have H := Lib.hid h
    clear h
    go_enter Tryz.func111, Tryz.ntmps111
    go_wp2_with fail
    go_ret
    exact ⟨by rw [H.out]; rfl, (Below.refl _ _).alloc (Nat.le_refl _) _⟩
  · have H := Lib.hid h
    clear h
    go_enter Tryz.func111, Tryz.ntmps111
    go_wp2_with fail
    go_ret
    exact ⟨by rw [H.out]; rfl, (Below.refl _ _).alloc (Nat.le_refl _) _⟩
  · have H := Lib.hid h
    clear h
    go_enter Tryz.func111, Tryz.ntmps111
    go_wp2_with fail
    refine (isRep_any _ _).mono ?_
    rintro e w' ⟨rfl, rfl⟩
    go_wp2_with fail
    go_ret
    exact ⟨by rw [H.out]; rfl, (Below.refl _ _).alloc (Nat.le_refl _) _⟩

end Go.Proofs.YtbkijfhfjhpebaaGreatDoor

/-
  The landed graph's Make.
-/
namespace Go.Proofs.YtbkijfhfjhpebaaGreatDoor
open Go.RowKit StampMath GraphMath

set_option maxRecDepth 100000 in
set_option maxHeartbeats 1600000 in
theorem make_code (a : Addr) (S : Nat → Prop) (g : Gr) (id : St) (kind : Int) (w : World) (h : GIn w S a g) (hg : g.ok) :
    Calls Tryz.prog 124 #[.pointer (some a), .agg (stA id), .int .i64 kind] w fun e w' => e = .returned (.int .i64 (makeG g id kind).2) ∧ GIn w' S a (makeG g id kind).1 ∧ But S w w' := by
  have HM : Hid (∀ W : World, Calls Tryz.prog 111 #[.agg #[.int .i64 id.1, .int .i64 id.2]] W fun e w' => e = .returned (.bool (mayB id.1 id.2)) ∧ Below W.heap.size W w') := fun W => may_any _ _ W
  have HRt : Hid (∀ W : World, Calls Tryz.prog 36 #[] W fun e w' => e = .returned (.agg #[.int .i64 0, .int .i64 0]) ∧ Below W.heap.size W w') := root_any
  have hGet : ∀ (x : St) (W : World), Below w.heap.size w W → Calls Tryz.prog 12 #[.pointer (some a), .agg #[.int .i64 x.1, .int .i64 x.2]] W fun e w' => e = .returned (.tuple #[.agg (inoA ((getG g x).getD noIno)), .bool (getG g x).isSome]) ∧ Below W.heap.size W w' := fun x W hW => get_code a S g x W (h.keep fun i hi => hW.block i (h.lt i hi)) hg
  obtain ⟨R, hR⟩ : ∃ R, getG g (0, 0) = some R := by
    obtain ⟨y, hy, hyi, _⟩ := hg.root
    exact ⟨_, by rw [← hyi]; exact hg.get hy⟩
  have HGR : Hid (∀ W : World, Below w.heap.size w W → Calls Tryz.prog 12 #[.pointer (some a), .agg #[.int .i64 0, .int .i64 0]] W fun e w' => e = .returned (.tuple #[.agg #[.int .i64 R.id.1, .int .i64 R.id.2, .int .i64 R.kind, .int .i64 R.links, .int .i64 R.mode, .string R.data], .bool true]) ∧ Below W.heap.size W w') := fun W hW => by
    have := hGet (0, 0) W hW
    rw [hR] at this
    exact this
  clear hR
  obtain ⟨m, hm⟩ : ∃ m, m = mayB id.1 id.2 := ⟨_, rfl⟩
  by_cases c1 : mayB id.1 id.2 = false ∨ kind < 1 ∨ 3 < kind
  · have e1 : makeG g id kind = (g, 1) := by unfold makeG; rw [if_pos c1]
    rw [e1]
    have hG := Lib.hid h
    have hltS := Lib.hid h.lt
    clear h hGet HGR
    rw [← hm] at c1 HM
    clear hm e1
    have c1' : (m = false) ∨ (m = true ∧ kind < 1) ∨ (m = true ∧ ¬ kind < 1 ∧ 3 < kind) := by
      cases m
      · exact Or.inl rfl
      · by_cases q : kind < 1
        · exact Or.inr (Or.inl ⟨rfl, q⟩)
        · refine Or.inr (Or.inr ⟨rfl, q, ?_⟩)
          rcases c1 with h | h | h
          · cases h
          · exact absurd h q
          · exact h
    clear c1
    unfold stA
    rcases c1' with rfl | ⟨rfl, k1⟩ | ⟨rfl, k1, k3⟩
    all_goals
      go_enter Tryz.func124, Tryz.ntmps124
      go_wp2_with fail
      refine (HM.out _).mono ?_
      rintro e w1 ⟨rfl, hb1⟩
      go_wp2_with fail
      go_ret
      have hb : Below w.heap.size w w1 := below_step ((Below.refl _ _).alloc (Nat.le_refl _) _) hb1
      exact ⟨rfl, hG.out.keep fun i hi => hb.block i (hltS.out i hi), But.of_below hb⟩
  · have c1' : m = true ∧ ¬ kind < 1 ∧ ¬ 3 < kind := by
      rw [← hm] at c1
      refine ⟨?_, fun q => c1 (Or.inr (Or.inl q)), fun q => c1 (Or.inr (Or.inr q))⟩
      cases m
      · exact absurd (Or.inl rfl) c1
      · rfl
    rw [← hm] at HM
    obtain ⟨rfl, k1, k3⟩ := c1'
    have hmk : makeG g id kind = if (getG g id).isSome then (g, 4) else if 40 ≤ g.I.length then (g, 13) else (⟨putIn (fun x => lessS x.id id) g.I ⟨id, kind, 0, 0, ⟨#[]⟩⟩, g.E⟩, 0) := by
      unfold makeG
      rw [if_neg c1]
    clear hm
    obtain ⟨ok, hok⟩ : ∃ ok, ok = (getG g id).isSome := ⟨_, rfl⟩
    obtain ⟨X, hX⟩ : ∃ X, X = (getG g id).getD noIno := ⟨_, rfl⟩
    have HGI : Hid (∀ W : World, Below w.heap.size w W → Calls Tryz.prog 12 #[.pointer (some a), .agg #[.int .i64 id.1, .int .i64 id.2]] W fun e w' => e = .returned (.tuple #[.agg #[.int .i64 X.id.1, .int .i64 X.id.2, .int .i64 X.kind, .int .i64 X.links, .int .i64 X.mode, .string X.data], .bool ok]) ∧ Below W.heap.size W w') := fun W hW => by
      rw [hX, hok]
      exact hGet id W hW
    have hG := Lib.hid h
    obtain ⟨b, bi, be, rfl, h1, h2, h3, hb, hi, he, hS⟩ := h
    obtain ⟨d0, d1⟩ := two_cells hb
    have hlt := heap_lt hb
    have HBlk := Lib.hid hb
    have HI := Lib.hid hi
    have HE := Lib.hid he
    have HS := Lib.hid hS
    have HK := Lib.hid hmk
    have HO : Hid (ok = (getG g id).isSome) := hok
    have hb0 : Below w.heap.size w (w.alloc (.cells #[.int .i64 id.1, .int .i64 id.2] 24)) := (Below.refl _ _).alloc (Nat.le_refl _) _
    clear hi he hb hS c1 hmk hok hX hGet d1
    unfold stA
    go_enter Tryz.func124, Tryz.ntmps124
    go_wp2_with fail
    refine (HM.out _).mono ?_
    rintro e w1 ⟨rfl, hb1⟩
    have q0 : w1.heap[w.heap.size]? = some (.cells #[.int .i64 id.1, .int .i64 id.2] 24 (0, 0)) := (hb1.block _ (by simp)).trans (heap_alloc_new w _)
    have hb2 := below_step hb0 hb1
    clear hb0 hb1 HM
    go_wp2_with fail
    refine (HRt.out _).mono ?_
    rintro e w2 ⟨rfl, hb3⟩
    have q1 := (hb3.block _ (heap_lt q0)).trans q0
    have hb4 := below_step hb2 hb3
    clear q0 hb2 hb3 HRt
    go_wp2_with fail
    refine (HGR.out _ hb4).mono ?_
    rintro e w3 ⟨rfl, hb5⟩
    have q2 := (hb5.block _ (heap_lt q1)).trans q1
    have hb6 := below_step hb4 hb5
    clear q1 hb4 hb5 HGR
    go_upto_region 4 with fail
    change Code.wp _ _ _ _ (w3.alloc (.cells (inoA R) 32))
    have q3 := (heap_alloc_old w3 (.cells (inoA R) 32) (heap_lt q2)).trans q2
    have hb7 := hb6.alloc hb6.size (.cells (inoA R) 32)
    generalize w3.alloc (.cells (inoA R) 32) = w4 at q3 hb7 ⊢
    clear q2 hb6
    obtain ⟨x0, x1⟩ := two_cells q3
    go_wp2_with fail
    refine (HGI.out _ hb7).mono ?_
    rintro e w5 ⟨rfl, hb8⟩
    have q4 := (hb8.block _ (heap_lt q3)).trans q3
    have hb9 := below_step hb7 hb8
    clear q3 hb7 hb8 HGI x0 x1
    go_upto_region 7 with fail
    change Code.wp _ _ _ _ (w5.alloc (.cells (inoA X) 32))
    have q5 := (heap_alloc_old w5 (.cells (inoA X) 32) (heap_lt q4)).trans q4
    have hb10 := hb9.alloc hb9.size (.cells (inoA X) 32)
    generalize w5.alloc (.cells (inoA X) 32) = w6 at q5 hb10 ⊢
    clear q4 hb9
    obtain ⟨x0, x1⟩ := two_cells q5
    have d0w := (hb10.cell (p := ⟨b, 0, none⟩) hlt).trans d0
    cases ok with
    | true =>
      go_wp2_with fail
      go_ret
      rw [HK.out, if_pos HO.out.symm]
      exact ⟨rfl, hG.out.keep fun i hi => hb10.block i (hG.out.lt i hi), But.of_below hb10⟩
    | false =>
      have hln := (HI.out.kept (hb10.block bi HI.out.lt)).len (P := Tryz.prog) Tryz.underlying62 3
      by_cases c3 : 40 ≤ g.I.length
      · have hlen : (40 : Int) ≤ ((pairsI g).length : Int) := by unfold pairsI; rw [List.length_map, hg.inodes, List.length_map]; omega
        generalize ((pairsI g).length : Int) = ln at hln hlen
        go_wp2_with fail
        go_ret
        rw [HK.out, if_neg (by rw [← HO.out]; simp), if_pos c3]
        exact ⟨rfl, hG.out.keep fun i hi => hb10.block i (hG.out.lt i hi), But.of_below hb10⟩
      · have hlen : ¬ (40 : Int) ≤ ((pairsI g).length : Int) := by unfold pairsI; rw [List.length_map, hg.inodes, List.length_map]; omega
        generalize ((pairsI g).length : Int) = ln at hln hlen
        obtain ⟨w7, hrun, hm7, hbut7, hsz7⟩ := (HI.out.kept (hb10.drew.block bi HI.out.lt)).store stShape Tryz.underlying62 id ⟨id, kind, 0, 0, ⟨#[]⟩⟩
        simp only [stV, stA, inoV, inoA] at hrun
        have HM7 := Lib.hid hm7
        have HB7 := Lib.hid hbut7
        have HB10 := Lib.hid hb10
        clear hm7 hbut7 hb10 q5 hsz7
        go_wp2_with fail
        go_region
        go_wp2_with fail
        go_ret
        have hb8 : But (fun i => i = bi) w w7 := (But.of_below HB10.out.drew).trans HB7.out fun i hi _ => hi
        have he : makeG g id kind = (⟨putIn (fun x => lessS x.id id) g.I ⟨id, kind, 0, 0, ⟨#[]⟩⟩, g.E⟩, 0) := by rw [HK.out, if_neg (by rw [← HO.out]; simp), if_neg c3]
        have h0 : (makeG g id kind).2 = 0 := by rw [he]
        have hok := hg.make id kind
        refine ⟨by rw [h0]; rfl, ⟨b, bi, be, rfl, h1, h2, h3, ?_, ?_, ?_, HS.out⟩, hb8.mono fun i hi => (HS.out i).2 (Or.inr (Or.inl hi))⟩
        · exact hb8.heap HBlk.out (fun q => h1 q)
        · refine HM7.out.perm (put_perm (keys_pairsI hg) (keys_pairsI hok) fun k => ?_)
          rw [look_pairsI hok, look_pairsI hg, make_get hg h0]
        · have e1 : pairsE (makeG g id kind).1 = pairsE g := by unfold pairsE; rw [make_ents]
          rw [e1]
          exact HE.out.kept (hb8.block be HE.out.lt fun q => h3 q.symm)

end Go.Proofs.YtbkijfhfjhpebaaGreatDoor

/-
  The landed graph's New.
-/
namespace Go.Proofs.YtbkijfhfjhpebaaGreatDoor
open Go.RowKit StampMath GraphMath

theorem pairsI_new : pairsI newG = [((0, 0), ⟨(0, 0), 1, 0, 0, ⟨#[]⟩⟩)] := by rw [pairsI, new_okG.inodes]; rfl

set_option maxRecDepth 100000 in
theorem new_code (w : World) : Calls Tryz.prog 18 #[] w fun e w' => ∃ a S, e = .returned (.pointer (some a)) ∧ GIn w' S a newG ∧ (∀ i, S i → w.heap.size ≤ i) ∧ Below w.heap.size w w' := by
  have HR : Hid (∀ W : World, Calls Tryz.prog 36 #[] W fun e w' => e = .returned (.agg #[.int .i64 0, .int .i64 0]) ∧ Below W.heap.size W w') := root_any
  have hmk0 : (Instr.makeMap 62 none).run Tryz.prog w = .ok (.map (some w.heap.size)) (w.alloc (.map #[] 0)) := rfl
  have hb0 : Below w.heap.size w (w.alloc (.map #[] 0)) := (Below.refl _ _).alloc (Nat.le_refl _) _
  have HM0 := Lib.hid (KMap.made (ek := stV) (ev := inoV) w)
  go_enter Tryz.func18, Tryz.ntmps18
  go_wp2_with fail
  refine (HR.out _).mono ?_
  rintro e w1 ⟨rfl, hb1⟩
  have hm1 := Lib.hid (HM0.out.kept (hb1.block _ (by simp)))
  have hb2 := below_step hb0 hb1
  have hz1 : w.heap.size < w1.heap.size := hm1.out.lt
  clear hmk0 hb0 hb1 HM0
  go_wp2_with fail
  refine (HR.out _).mono ?_
  rintro e w2 ⟨rfl, hb3⟩
  have hm2 := hm1.out.kept (hb3.block _ hz1)
  have hb4 := below_step hb2 hb3
  have hz2 : w.heap.size < w2.heap.size := hm2.lt
  clear hm1 hb2 hb3 hz1
  obtain ⟨w3, hrun, hm3, hbut, hsz⟩ := hm2.store stShape Tryz.underlying62 (0, 0) ⟨(0, 0), 1, 0, 0, ⟨#[]⟩⟩
  simp only [stV, stA, inoV, inoA] at hrun
  have hb5 : Below w.heap.size w w3 := hb4.trans (hbut.below (fun i hi => by omega) (by omega))
  have HM := Lib.hid hm3
  have HB := Lib.hid hb5
  have hz3 : w.heap.size < w3.heap.size := by rw [hsz]; exact hz2
  clear hm2 hb4 hz2 hm3 hbut hb5 hsz
  have hmk1 : (Instr.makeMap 63 none).run Tryz.prog w3 = .ok (.map (some w3.heap.size)) (w3.alloc (.map #[] 0)) := rfl
  go_wp2_with fail
  go_ret
  refine ⟨⟨w3.heap.size + 1, 0, none⟩, fun i => i = w3.heap.size + 1 ∨ i = w.heap.size ∨ i = w3.heap.size, ?_, ⟨w3.heap.size + 1, w.heap.size, w3.heap.size, rfl, by omega, by omega, by omega, ?_, ?_, ?_, fun i => Iff.rfl⟩, fun i hi => by omega, ?_⟩
  · rfl
  · rw [show w3.heap.size + 1 = (w3.alloc (.map #[] 0)).heap.size by simp]
    exact heap_alloc_new _ _
  · have hk : KMap stV inoV w3 w.heap.size (pairsI newG) := by
      have := HM.out
      rw [pairsI_new]
      exact this
    refine hk.kept ?_
    rw [heap_alloc_old _ _ (by simp; omega), heap_alloc_old _ _ (by omega)]
  · have hk : KMap plV stV (w3.alloc (.map #[] 0)) w3.heap.size [] := KMap.made w3
    refine hk.kept ?_
    rw [heap_alloc_old _ _ (by simp)]
  · exact (HB.out.alloc HB.out.size _).alloc (by simp; omega) _

end Go.Proofs.YtbkijfhfjhpebaaGreatDoor

/-
  The code of package graph (a draft): Look.
-/
namespace Go.Proofs.YtbkijfhfjhpebaaGreatDoor
open Go.RowKit StampMath GraphMath

set_option maxRecDepth 100000 in
theorem look_code (a : Addr) (S : Nat → Prop) (g : Gr) (d : St) (nm : ByteArray) (w : World) (h : GIn w S a g) :
    Calls Tryz.prog 15 #[.pointer (some a), .agg (stA d), .string nm] w fun e w' => e = .returned (.tuple #[.agg (stA ((lookE g.E d nm).getD (0, 0))), .bool (lookE g.E d nm).isSome]) ∧ Below w.heap.size w w' := by
  obtain ⟨b, bi, be, rfl, h1, h2, h3, hb, hi, he, hS⟩ := h
  obtain ⟨c0, c1⟩ := two_cells hb
  obtain ⟨ok, hok⟩ : ∃ ok, ok = (lookE g.E d nm).isSome := ⟨_, rfl⟩
  obtain ⟨v, hv⟩ : ∃ v, v = (lookE g.E d nm).getD (0, 0) := ⟨_, rfl⟩
  rw [← hok, ← hv]
  have hlook : ∀ W : World, Hid (Below w.heap.size w W) → (Instr.lookup 63 (.map (some be)) (.agg #[.int .i64 d.1, .int .i64 d.2, .string nm]) true).run Tryz.prog W = .ok (.tuple #[.agg #[.int .i64 v.1, .int .i64 v.2], .bool ok]) W := fun W hW => by
    have hl := (he.kept (hW.out.block be he.lt)).look plShape Tryz.underlying63 (zeroSt W) (d, nm) true
    rw [look_pairsE, if_pos rfl, show ((lookE g.E d nm).map stV).getD (stV (0, 0)) = stV v by rw [hv]; cases lookE g.E d nm <;> rfl, ← hok] at hl
    exact hl
  have hlt := heap_lt hb
  have HL := Lib.hid hlook
  clear hi he hb hS hlook hok hv
  unfold stA
  go_enter Tryz.func15, Tryz.ntmps15
  go_wp2_with fail
  have hbW : Below w.heap.size w ((w.alloc (.cells #[.int .i64 d.1, .int .i64 d.2] 24)).alloc (.cells #[.int .i64 0, .int .i64 0] 24)) := ((Below.refl _ _).alloc (Nat.le_refl _) _).alloc (by simp) _
  have hb1 := (hbW.alloc hbW.size (.cells #[.int .i64 0, .int .i64 0] 24)).drew
  have d0 := (hb1.cell (p := ⟨b, 1, none⟩) hlt).trans c1
  have hl := HL.out _ hb1
  have c0w := (hbW.cell (p := ⟨b, 1, none⟩) hlt).trans c1
  have hl0 := HL.out _ hbW.drew
  have HB := Lib.hid hbW
  clear hbW hb1
  go_region
  all_goals clear d0 hl c0w hl0
  all_goals go_wp2_with fail
  all_goals exact bodyPost_ret (v := .tuple #[.agg (stA v), .bool ok]) (by simp [results, Tryz.results15, go_sem, stA]) rfl ⟨rfl, by
    repeat (first | exact Below.refl _ _ | apply Below.drew | refine Below.alloc ?_ (by simp <;> omega) _)⟩

end Go.Proofs.YtbkijfhfjhpebaaGreatDoor

/-
  The landed graph's full and count.
-/
namespace Go.Proofs.YtbkijfhfjhpebaaGreatDoor
open Go.RowKit StampMath GraphMath

/-- Can no more entries be of an inode? -/
def fullB (X : Ino) : Bool := if X.kind = 1 then decide (0 < X.links) else decide (6 ≤ X.links)

set_option maxRecDepth 100000 in
theorem full_code (X : Ino) (w : World) :
    Calls Tryz.prog 152 #[.agg #[.int .i64 X.id.1, .int .i64 X.id.2, .int .i64 X.kind, .int .i64 X.links, .int .i64 X.mode, .string X.data]] w fun e w' => e = .returned (.bool (fullB X)) ∧ Below w.heap.size w w' := by
  by_cases hk : X.kind = 1
  · have hv : Hid (fullB X = decide (0 < X.links)) := if_pos hk
    have hk' : (X.kind == 1) = true := beq_iff_eq.2 hk
    clear hk
    go_enter Tryz.func152, Tryz.ntmps152
    go_wp2_with fail
    go_ret
    exact ⟨by rw [hv.out]; rfl, (Below.refl _ _).alloc (Nat.le_refl _) _⟩
  · have hv : Hid (fullB X = decide (6 ≤ X.links)) := if_neg hk
    have hk' : (X.kind == 1) = false := beq_eq_false_iff_ne.2 hk
    clear hk
    go_enter Tryz.func152, Tryz.ntmps152
    go_wp2_with fail
    go_ret
    exact ⟨by rw [hv.out]; rfl, (Below.refl _ _).alloc (Nat.le_refl _) _⟩

set_option maxRecDepth 100000 in
set_option maxHeartbeats 1600000 in
theorem count_code (b bi be : Nat) (LI : List (St × Ino)) (id : St) (more : Int) (X : Ino) (w : World) (hb : w.heap[b]? = some (.cells #[.map (some bi), .map (some be)] 65 (0, 0))) (hi : KMap stV inoV w bi LI) (hX : lookL LI id = some X) (hwr : wrap64 (X.links + more) = X.links + more) :
    Calls Tryz.prog 128 #[.pointer (some ⟨b, 0, none⟩), .agg #[.int .i64 id.1, .int .i64 id.2], .int .i64 more] w fun e w' => e = .returned (.tuple #[]) ∧ KMap stV inoV w' bi ((id, { X with links := X.links + more }) :: offL LI id) ∧ But (fun i => i = bi) w w' := by
  obtain ⟨d0, d1⟩ := two_cells hb
  have hlt := heap_lt hb
  have hlook : ∀ W : World, Hid (Below w.heap.size w W) → (Instr.lookup 62 (.map (some bi)) (.agg #[.int .i64 id.1, .int .i64 id.2]) false).run Tryz.prog W = .ok (.agg #[.int .i64 X.id.1, .int .i64 X.id.2, .int .i64 X.kind, .int .i64 X.links, .int .i64 X.mode, .string X.data]) W := fun W hW => by
    have hl := (hi.kept (hW.out.block bi hi.lt)).look stShape Tryz.underlying62 (zeroIno W) id false
    rw [if_neg (by decide), hX] at hl
    exact hl
  have HL := Lib.hid hlook
  have HI := Lib.hid hi
  clear hlook hi hb hX d1
  go_enter Tryz.func128, Tryz.ntmps128
  go_upto_region 1 with fail
  obtain ⟨u, hu⟩ : ∃ u, u = w.heap.size := ⟨_, rfl⟩
  have q2 : (w.alloc (.cells #[.int .i64 id.1, .int .i64 id.2] 24)).heap[u]? = some (.cells #[.int .i64 id.1, .int .i64 id.2] 24 (0, 0)) := by rw [hu]; exact heap_alloc_new _ _
  have hsz : (w.alloc (.cells #[.int .i64 id.1, .int .i64 id.2] 24)).heap.size = u + 1 := by simp [hu]
  have hb3 : Below w.heap.size w (w.alloc (.cells #[.int .i64 id.1, .int .i64 id.2] 24)) := (Below.refl _ _).alloc (Nat.le_refl _) _
  have hlow : w.heap.size ≤ u := Nat.le_of_eq hu.symm
  rw [← hu]
  generalize w.alloc (.cells #[.int .i64 id.1, .int .i64 id.2] 24) = w2 at q2 hsz hb3 ⊢
  clear hu
  obtain ⟨x0, x1⟩ := two_cells q2
  have d0w := (hb3.cell (p := ⟨b, 0, none⟩) hlt).trans d0
  have hbC := (hb3.alloc hb3.size (.cells #[.int .i64 0, .int .i64 0, .int .i64 0, .int .i64 0, .int .i64 0, .string ⟨#[]⟩] 32)).drew
  have l0 := HL.out _ hb3.drew
  have l1 := HL.out _ hbC
  have d0c := (hbC.cell (p := ⟨b, 0, none⟩) hlt).trans d0
  have x0c : ((w2.alloc (.cells #[.int .i64 0, .int .i64 0, .int .i64 0, .int .i64 0, .int .i64 0, .string ⟨#[]⟩] 32)).drew).cell? ⟨u, 0, none⟩ = some (.int .i64 id.1) := (World.cell?_alloc_lt w2 _ _ (World.block_lt_of_cell? _ _ x0)).trans x0
  have x1c : ((w2.alloc (.cells #[.int .i64 0, .int .i64 0, .int .i64 0, .int .i64 0, .int .i64 0, .string ⟨#[]⟩] 32)).drew).cell? ⟨u, 1, none⟩ = some (.int .i64 id.2) := (World.cell?_alloc_lt w2 _ _ (World.block_lt_of_cell? _ _ x1)).trans x1
  have HB := Lib.hid hb3
  clear hbC hb3
  go_region
  all_goals clear l0 l1 d0c x0c x1c
  all_goals
    have q3 : ((w2.alloc (.cells #[.int .i64 X.id.1, .int .i64 X.id.2, .int .i64 X.kind, .int .i64 X.links, .int .i64 X.mode, .string X.data] 32)).drew).heap[u + 1]? = some (.cells (inoA X) 32 (0, 0)) := by rw [← hsz]; exact heap_alloc_new _ _
    have r2 : ((w2.alloc (.cells #[.int .i64 X.id.1, .int .i64 X.id.2, .int .i64 X.kind, .int .i64 X.links, .int .i64 X.mode, .string X.data] 32)).drew).heap[u]? = _ := (heap_alloc_old w2 _ (by omega)).trans q2
    have hb4 := (HB.out.alloc HB.out.size (.cells #[.int .i64 X.id.1, .int .i64 X.id.2, .int .i64 X.kind, .int .i64 X.links, .int .i64 X.mode, .string X.data] 32)).drew
    generalize ((w2.alloc (.cells #[.int .i64 X.id.1, .int .i64 X.id.2, .int .i64 X.kind, .int .i64 X.links, .int .i64 X.mode, .string X.data] 32)).drew) = w3 at q3 r2 hb4 ⊢
    clear q2 x0 x1 d0w HB hsz
    have q3l := (ino_cells q3).2.2.2.1
    have q3f := (ino_free q3).2.2.2.1
    have d0w := (hb4.cell (p := ⟨b, 0, none⟩) hlt).trans d0
    go_upto_region 3 with fail
    rw [hwr]
    have s3 : (w3.setCell ⟨u + 1, 3, none⟩ (.int .i64 (X.links + more))).heap[u + 1]? = some (.cells (inoA { X with links := X.links + more }) 32 (0, 0)) := heap_setCell_same _ _ _ _ _ _ q3
    have s2 : (w3.setCell ⟨u + 1, 3, none⟩ (.int .i64 (X.links + more))).heap[u]? = _ := (heap_setCell_other _ _ _ _ (by dsimp only; omega)).trans r2
    have hb5 := hb4.setCell (p := ⟨u + 1, 3, none⟩) (by dsimp only; omega) (.int .i64 (X.links + more))
    generalize w3.setCell ⟨u + 1, 3, none⟩ (.int .i64 (X.links + more)) = w4 at s2 s3 hb5 ⊢
    clear q3 r2 hb4 q3l q3f d0w
    obtain ⟨y0, y1, y2, y3, y4, y5⟩ := ino_cells s3
    obtain ⟨x0, x1⟩ := two_cells s2
    have d0w := (hb5.cell (p := ⟨b, 0, none⟩) hlt).trans d0
    obtain ⟨w5, hrun, hm5, hbut5, hsz5⟩ := (HI.out.kept (hb5.drew.block bi HI.out.lt)).store stShape Tryz.underlying62 id { X with links := X.links + more }
    simp only [stV, stA, inoV, inoA] at hrun
    have HM5 := Lib.hid hm5
    have hb6 : But (fun i => i = bi) w w5 := (But.of_below hb5.drew).trans hbut5 fun i hi _ => hi
    have HB6 := Lib.hid hb6
    clear hm5 hb5 hbut5 s2 s3 hb6
    go_region
    go_end0
    exact ⟨rfl, HM5.out, HB6.out⟩

end Go.Proofs.YtbkijfhfjhpebaaGreatDoor

/-
  The landed graph's Untie.
-/
namespace Go.Proofs.YtbkijfhfjhpebaaGreatDoor
open Go.RowKit StampMath GraphMath

set_option maxRecDepth 100000 in
set_option maxHeartbeats 1600000 in
theorem untie_code (a : Addr) (S : Nat → Prop) (g : Gr) (d : St) (nm : ByteArray) (w : World) (h : GIn w S a g) (hg : g.ok) :
    Calls Tryz.prog 129 #[.pointer (some a), .agg (stA d), .string nm] w fun e w' => e = .returned (.tuple #[.agg (stA (untieG g d nm).2.1), .int .i64 (untieG g d nm).2.2]) ∧ GIn w' S a (untieG g d nm).1 ∧ But S w w' := by
  cases hq : lookE g.E d nm with
  | none =>
    have e1 : untieG g d nm = (g, (0, 0), 3) := by unfold untieG; rw [hq]
    have HQ : Hid (∀ W : World, Below w.heap.size w W → Calls Tryz.prog 15 #[.pointer (some a), .agg #[.int .i64 d.1, .int .i64 d.2], .string nm] W fun e w' => e = .returned (.tuple #[.agg #[.int .i64 0, .int .i64 0], .bool false]) ∧ Below W.heap.size W w') := fun W hW => by
      have := look_code a S g d nm W (h.keep fun i hi => hW.block i (h.lt i hi))
      rw [hq] at this
      exact this
    rw [e1]
    have hG := Lib.hid h
    clear h e1 hq
    have hbW : Below w.heap.size w ((w.alloc (.cells #[.int .i64 d.1, .int .i64 d.2] 24)).alloc (.cells #[.int .i64 0, .int .i64 0] 24)) := ((Below.refl _ _).alloc (Nat.le_refl _) _).alloc (by simp) _
    unfold stA
    go_enter Tryz.func129, Tryz.ntmps129
    go_wp2_with fail
    refine (HQ.out _ hbW).mono ?_
    rintro e w1 ⟨rfl, hb1⟩
    have hr : w1.heap[w.heap.size + 1]? = some (.cells #[.int .i64 0, .int .i64 0] 24 (0, 0)) := (hb1.block _ (by simp)).trans (heap_alloc2_new w _ _)
    obtain ⟨m0, m1⟩ := two_cells hr
    obtain ⟨f0, f1⟩ := two_free hr
    have hb2 := below_step hbW hb1
    have hlt := heap_lt hr
    have hHr := Lib.hid hr
    clear hb1 hr hbW
    go_wp2_with fail
    have hb3 := ((hb2.setCell (p := ⟨w.heap.size + 1, 0, none⟩) (by dsimp only; omega) (.int .i64 0)).setCell (p := ⟨w.heap.size + 1, 1, none⟩) (by dsimp only; omega) (.int .i64 0)).alloc (by simp; exact hb2.size) (.cells #[.int .i64 0, .int .i64 0] 24)
    obtain ⟨y0, y1⟩ := two_cells ((heap_alloc_old _ (.cells #[.int .i64 0, .int .i64 0] 24) (by simp; omega)).trans (box_set (c := .int .i64 0) (d := .int .i64 0) hHr.out))
    exact bodyPost_ret (v := .tuple #[.agg (stA (0, 0)), .int .i64 3]) (by simp [results, Tryz.results129, go_sem, stA, y0, y1]) rfl ⟨rfl, hG.out.keep fun i hi => hb3.block i (hG.out.lt i hi), But.of_below hb3⟩
  | some id =>
    have hmem := (look_iff hg).1 hq
    obtain ⟨x0, hx0, hxid⟩ := hg.inos _ hmem
    have hget : getG g id = some { x0 with links := (linksE g.E id : Int) } := (get_iff hg).2 ⟨x0, hx0, hxid, rfl⟩
    obtain ⟨X, hX⟩ : ∃ X : Ino, X = { x0 with links := (linksE g.E id : Int) } := ⟨_, rfl⟩
    rw [← hX] at hget
    have HQ : Hid (∀ W : World, Below w.heap.size w W → Calls Tryz.prog 15 #[.pointer (some a), .agg #[.int .i64 d.1, .int .i64 d.2], .string nm] W fun e w' => e = .returned (.tuple #[.agg #[.int .i64 id.1, .int .i64 id.2], .bool true]) ∧ Below W.heap.size W w') := fun W hW => by
      have := look_code a S g d nm W (h.keep fun i hi => hW.block i (h.lt i hi))
      rw [hq] at this
      exact this
    have hbW : Below w.heap.size w ((w.alloc (.cells #[.int .i64 d.1, .int .i64 d.2] 24)).alloc (.cells #[.int .i64 0, .int .i64 0] 24)) := ((Below.refl _ _).alloc (Nat.le_refl _) _).alloc (by simp) _
    obtain ⟨b, bi, be, rfl, h1, h2, h3, hb, hi, he, hS⟩ := h
    obtain ⟨d0, d1⟩ := two_cells hb
    have hlt := heap_lt hb
    have hwr : wrap64 (X.links + -1) = X.links + -1 := by
      have h6 := hg.six id
      have h7 : X.links = (linksE g.E id : Int) := by rw [hX]
      unfold wrap64
      omega
    have HC : Hid (∀ W : World, W.heap[b]? = some (.cells #[.map (some bi), .map (some be)] 65 (0, 0)) → KMap stV inoV W bi (pairsI g) → Calls Tryz.prog 128 #[.pointer (some ⟨b, 0, none⟩), .agg #[.int .i64 id.1, .int .i64 id.2], .int .i64 (-1)] W fun e w' => e = .returned (.tuple #[]) ∧ KMap stV inoV w' bi ((id, { X with links := X.links + -1 }) :: offL (pairsI g) id) ∧ But (fun i => i = bi) W w') := fun W hb hi => count_code b bi be (pairsI g) id (-1) X W hb hi (by rw [look_pairsI hg]; exact hget) hwr
    have HI := Lib.hid hi
    have HE := Lib.hid he
    have HS := Lib.hid hS
    have HBlk := Lib.hid hb
    have HG := Lib.hid hget
    have HO := Lib.hid hq
    clear hi he hS hb hget hq hmem hx0 hxid hX hwr d0
    unfold stA
    go_enter Tryz.func129, Tryz.ntmps129
    go_wp2_with fail
    refine (HQ.out _ hbW).mono ?_
    rintro e w1 ⟨rfl, hb1⟩
    have hr0 : w1.heap[w.heap.size]? = some (.cells #[.int .i64 d.1, .int .i64 d.2] 24 (0, 0)) := (hb1.block _ (by simp <;> omega)).trans (heap_alloc2_old w _ _)
    have hr1 : w1.heap[w.heap.size + 1]? = some (.cells #[.int .i64 0, .int .i64 0] 24 (0, 0)) := (hb1.block _ (by simp)).trans (heap_alloc2_new w _ _)
    have hb2 := below_step hbW hb1
    clear hb1 hbW
    go_upto_region 4 with fail
    change Code.wp _ _ _ _ (w1.alloc (.cells #[.int .i64 id.1, .int .i64 id.2] 24))
    obtain ⟨u, hu⟩ : ∃ u, u = w1.heap.size := ⟨_, rfl⟩
    have hlow : w.heap.size + 1 < u := by rw [hu]; exact heap_lt hr1
    have q0 : (w1.alloc (.cells #[.int .i64 id.1, .int .i64 id.2] 24)).heap[w.heap.size]? = some (.cells #[.int .i64 d.1, .int .i64 d.2] 24 (0, 0)) := (heap_alloc_old _ _ (by omega)).trans hr0
    have q1 : (w1.alloc (.cells #[.int .i64 id.1, .int .i64 id.2] 24)).heap[w.heap.size + 1]? = some (.cells #[.int .i64 0, .int .i64 0] 24 (0, 0)) := (heap_alloc_old _ _ (by omega)).trans hr1
    have q2 : (w1.alloc (.cells #[.int .i64 id.1, .int .i64 id.2] 24)).heap[u]? = some (.cells #[.int .i64 id.1, .int .i64 id.2] 24 (0, 0)) := by rw [hu]; exact heap_alloc_new _ _
    have hb3 := hb2.alloc hb2.size (.cells #[.int .i64 id.1, .int .i64 id.2] 24)
    rw [← hu]
    generalize w1.alloc (.cells #[.int .i64 id.1, .int .i64 id.2] 24) = w2 at q0 q1 q2 hb3 ⊢
    clear hr0 hr1 hb2 hu
    obtain ⟨x0, x1⟩ := two_cells q0
    have d1w := (hb3.cell (p := ⟨b, 1, none⟩) hlt).trans d1
    obtain ⟨w3, hrun, hm3, hbut3, hsz3⟩ := (HE.out.kept (hb3.drew.block be HE.out.lt)).drop plShape Tryz.underlying63 (d, nm) 0
    simp only [plV] at hrun
    have HM3 := Lib.hid hm3
    have HU3 := Lib.hid hbut3
    have HB3 := Lib.hid hb3
    have HQ1 := Lib.hid q1
    have HQ2 := Lib.hid q2
    have hilt := HI.out.lt
    have helt := HE.out.lt
    clear hm3 hbut3 hb3 q0 q1 q2
    go_region
    clear hrun x0 x1 d1w
    have hb4 : But (fun i => i = be) w w3 := (But.of_below HB3.out.drew).trans HU3.out fun i hi _ => hi
    have z1 : w3.heap[w.heap.size + 1]? = some (.cells #[.int .i64 0, .int .i64 0] 24 (0, 0)) := HU3.out.heap (a := w2.drew) HQ1.out (fun q => by omega)
    have z2 : w3.heap[u]? = some (.cells #[.int .i64 id.1, .int .i64 id.2] 24 (0, 0)) := HU3.out.heap (a := w2.drew) HQ2.out (fun q => by omega)
    have hblk := hb4.heap HBlk.out (fun q => h2 q)
    have hi3 : KMap stV inoV w3 bi (pairsI g) := HI.out.kept (hb4.block bi hilt fun q => h3 q)
    have hs4 := hb4.size
    have hz1 := heap_lt z1
    have hz2 := heap_lt z2
    have HB4 := Lib.hid hb4
    obtain ⟨x0, x1⟩ := two_cells z2
    clear hb4
    go_wp2_with fail
    refine (HC.out _ hblk hi3).mono ?_
    rintro e w4 ⟨rfl, hm4, hb5⟩
    have v1 : w4.heap[w.heap.size + 1]? = some (.cells #[.int .i64 0, .int .i64 0] 24 (0, 0)) := hb5.heap z1 (fun q => by omega)
    have v2 : w4.heap[u]? = some (.cells #[.int .i64 id.1, .int .i64 id.2] 24 (0, 0)) := hb5.heap z2 (fun q => by omega)
    have HM4 := Lib.hid hm4
    have HB5 := Lib.hid hb5
    clear x0 x1 z1 z2 hblk hi3 hm4 hb5
    obtain ⟨x0, x1⟩ := two_cells v2
    obtain ⟨m0, m1⟩ := two_cells v1
    obtain ⟨f0, f1⟩ := two_free v1
    have HV1 := Lib.hid v1
    clear v1 v2
    go_wp2_with fail
    have hb7 : But (fun i => i = bi ∨ i = be) w w4 := (HB4.out.mono (T := fun i => i = bi ∨ i = be) fun i hi => Or.inr hi).trans HB5.out fun i hi _ => Or.inl hi
    have hb8 : But (fun i => i = bi ∨ i = be) w ((w4.setCell ⟨w.heap.size + 1, 0, none⟩ (.int .i64 id.1)).setCell ⟨w.heap.size + 1, 1, none⟩ (.int .i64 id.2)) := (hb7.setCell (p := ⟨w.heap.size + 1, 0, none⟩) (Or.inr (by dsimp only; omega)) _).setCell (p := ⟨w.heap.size + 1, 1, none⟩) (Or.inr (by dsimp only; omega)) _
    have hk6 : ∀ i, i < w.heap.size → ((w4.setCell ⟨w.heap.size + 1, 0, none⟩ (.int .i64 id.1)).setCell ⟨w.heap.size + 1, 1, none⟩ (.int .i64 id.2)).heap[i]? = w4.heap[i]? := fun i hi => (heap_setCell_other _ _ _ _ (by dsimp only; omega)).trans (heap_setCell_other _ _ _ _ (by dsimp only; omega))
    have hu : untieG g d nm = (⟨g.I, g.E.filter fun e => !(decide (e.dir = d) && decide (e.name = nm))⟩, id, 0) := by unfold untieG; rw [HO.out]
    have hok := hg.untie d nm
    obtain ⟨z0, z1⟩ := two_cells (box_set (c := .int .i64 id.1) (d := .int .i64 id.2) HV1.out)
    refine bodyPost_ret (v := .tuple #[.agg (stA id), .int .i64 0]) (by simp [results, Tryz.results129, go_sem, stA, z0, z1]) rfl ⟨by rw [hu]; rfl, ⟨b, bi, be, rfl, h1, h2, h3, ?_, ?_, ?_, HS.out⟩, hb8.mono fun i hi => (HS.out i).2 (Or.inr hi)⟩
    · exact hb8.heap HBlk.out (fun q => q.elim h1 h2)
    · refine KMap.perm ?_ (put_perm (keys_pairsI hg) (keys_pairsI hok) (x := id) (v := { X with links := X.links + -1 }) fun k => ?_)
      · exact HM4.out.kept (hk6 bi hilt)
      · rw [look_pairsI hok, look_pairsI hg, untie_get hg HO.out]
        by_cases hk : k = id
        · rw [if_pos hk, hk, HG.out]
          simp [Int.sub_eq_add_neg]
        · rw [if_neg hk]
          cases getG g k <;> simp [hk]
    · refine KMap.perm ?_ (off_perm (keys_pairsE hg) (keys_pairsE hok) (untie_look hg HO.out))
      exact (HM3.out.kept (HB5.out.block be (by omega) fun q => h3 q.symm)).kept (hk6 be helt)

end Go.Proofs.YtbkijfhfjhpebaaGreatDoor

/-
  The landed graph's sorted (made by gen_graphsorted.py), at List's closure; List.
-/
namespace Go.Proofs.YtbkijfhfjhpebaaGreatDoor
open Go.RowKit StampMath GraphMath

set_option maxRecDepth 100000 in
theorem listClo (d e : St) (b : Nat) (W : World) (hb : W.heap[b]? = some (.cells #[.int .i64 d.1, .int .i64 d.2] 24 (0, 0))) :
    Calls Tryz.prog 166 #[.agg #[.int .i64 e.1, .int .i64 e.2], .pointer (some ⟨b, 0, none⟩)] W fun x W' => x = .returned (.bool (decide (e = d))) ∧ Below W.heap.size W W' := by
  obtain ⟨c0, c1⟩ := two_cells hb
  have hl := heap_lt hb
  by_cases hq : e = d
  · have hv := eqSt_yes hq
    rw [decide_eq_true hq]
    clear hq
    go_enter Tryz.func166, Tryz.ntmps166
    go_wp2_with fail
    go_ret
    exact ⟨rfl, (Below.refl _ _).alloc (Nat.le_refl _) _⟩
  · have hv := eqSt_no hq
    rw [decide_eq_false hq]
    clear hq
    go_enter Tryz.func166, Tryz.ntmps166
    go_wp2_with fail
    go_ret
    exact ⟨rfl, (Below.refl _ _).alloc (Nat.le_refl _) _⟩

set_option maxRecDepth 100000 in
set_option maxHeartbeats 1600000 in
theorem sortedList_code (a : Addr) (S : Nat → Prop) (g : Gr) (d : St) (bc : Nat) (q : St → Bool) (hq : ∀ x, q x = decide (x = d)) (w : World) (h : GIn w S a g) (hg : g.ok) (hc : w.heap[bc]? = some (.cells #[.int .i64 d.1, .int .i64 d.2] 24 (0, 0))) :
    Calls Tryz.prog 70 #[.pointer (some a), .func (.func 166) #[] #[.pointer (some ⟨bc, 0, none⟩)]] w (EntsNew (g.E.filter fun e => q e.dir) w) := by
  have HC : Hid (∀ (e : St) (W : World), Below w.heap.size w W → Calls Tryz.prog 166 #[.agg #[.int .i64 e.1, .int .i64 e.2], .pointer (some ⟨bc, 0, none⟩)] W fun x W' => x = .returned (.bool (q e)) ∧ Below W.heap.size W W') := fun e W hW => by rw [hq]; exact listClo d e bc W ((hW.block bc (heap_lt hc)).trans hc)
  clear hq hc
  obtain ⟨b, bi, be, rfl, h1, h2, h3, hb, hi, he, hS⟩ := h
  obtain ⟨c0, c1⟩ := two_cells hb
  obtain ⟨i0, hi0, hz0, hz1, hz2⟩ := info_parts ent_infos
  have HE := Lib.hid he
  have hlt := heap_lt hb
  have hltE := he.lt
  clear hi he hb hS
  have hlen : Hid ((pairsE g).length ≤ 1000) := by
    show (pairsE g).length ≤ 1000
    unfold pairsE
    rw [List.length_map]
    exact Nat.le_trans hg.entsFew (by decide)
  have hgE := Lib.hid (hg.sortE.filter fun e => q e.dir)
  go_enter Tryz.func70, Tryz.ntmps70
  go_wp2_with (at_range; refine wpList_k_range (by rfl) _ _ (by rfl) Tryz.underlying63 be _ (by rfl) HE.out ?_; intro w1 HR1 HB1 HS1)
  go_frame
  go_loopg [5] ((pairsE g).length + 1) (fun gk l wr => ∃ (done todo : List ((St × ByteArray) × St)), gk = todo.length + 1 ∧ Hid (KRange plV stV wr be w.heap.size (pairsE g) todo) ∧ Hid ((done ++ todo).Perm (pairsE g)) ∧ wr.ownsRow (w.heap.size + 1) 70 5 l ((done.map entOf).filter fun e => q e.dir).length (flat (((done.map entOf).filter fun e => q e.dir).map entA)) ∧ Hid (Below w.heap.size w wr) ∧ w.heap.size + 1 ≤ wr.heap.size)
  case atStart => exact ⟨[], pairsE g, rfl, HR1, List.Perm.refl _, World.ownsRow_nil _ _ _ _, HB1, by rw [HS1.out]; omega⟩
  case round =>
    obtain ⟨done, todo, rfl, hR, hP, hown, hB, hs1⟩ := hrel
    clear HR1 HB1 HS1
    go_wp2_with (refine wpList_k_next (by rfl) _ (by rfl) be w.heap.size _ _ (by rfl) hR.out ?_ ?_)
    · intro h0
      have hdone : ((done.map entOf).filter fun e => q e.dir).Perm (g.E.filter fun e => q e.dir) := by
        refine List.Perm.filter _ ?_
        have h5 := hP.out
        rw [h0, List.append_nil] at h5
        have h6 := h5.map entOf
        unfold pairsE at h6
        rwa [List.map_map, show entOf ∘ (fun e : Ent => ((e.dir, e.name), e.ino)) = id from rfl, List.map_id] at h6
      have h1000 : ((done.map entOf).filter fun e => q e.dir).length < 4611686018427387904 := by
        have h5 := hlen.out
        have h6 := hP.out.length_eq
        have h7 := List.length_filter_le (fun e : Ent => q e.dir) (done.map entOf)
        simp only [List.length_append, List.length_map] at h6 h7
        omega
      generalize ((done.map entOf).filter fun e => q e.dir) = fs at hdone h1000 hown ⊢
      have HD := Lib.hid hdone
      clear hdone
      have hs := sort_own (w := wr) Tryz.sortEnt 5 Tryz.isAgg70 Tryz.sizeOf70 entA (fun _ => rfl) ent_one aheadI swo_ents 102 #[] (enters_of Tryz.func102 (by kernel_rfl) rfl)
        (fun W x y => (ahead_grown x y W).mono fun _ _ h => ⟨h.1, h.2.grow⟩) (by simp) hown h1000
      change Calls Tryz.prog 101 _ _ _ at hs
      have hrow := hown.lt
      clear hown
      have HS := Lib.hid hs
      clear hs
      go_wp2_with fail
      refine (HS.out).mono ?_
      rintro e w2 ⟨rfl, ys, hp, hsd, hown2, hbut⟩
      have hys : ys = g.E.filter fun e => q e.dir := sorted_ents hgE.out (hp.trans HD.out) hsd
      have hl : fs.length = (g.E.filter fun e => q e.dir).length := HD.out.length_eq
      rw [hys, hl] at hown2
      clear hp hsd hys
      go_wp2_with fail
      go_ret
      refine ⟨_, rfl, ?_, ?_⟩
      · exact own_lower hown2 (Nat.le_succ _)
      · exact hB.out.trans (hbut.below (fun i hi => Nat.le_of_succ_le (hrow i hi).1) (by omega))
    · intro t r nm t' r' todo' w2 hp hR2 hB2 hs2 hen
      simp only [plV, stV, stA] at hen ⊢
      have hown2 := own_iter hown hB2.out (by omega)
      have h1000 : ((done.map entOf).filter fun e => q e.dir).length ≤ 1000 := by
        have h5 := hlen.out
        have h6 := hP.out.length_eq
        have h7 := List.length_filter_le (fun e : Ent => q e.dir) (done.map entOf)
        simp only [List.length_append, List.length_map] at h6 h7
        omega
      have hfs : ∀ b : Bool, q (t, r) = b → ((done ++ [(((t, r), nm), (t', r'))]).map entOf).filter (fun e => q e.dir) = ((done.map entOf).filter fun e => q e.dir) ++ (if b = true then [⟨(t, r), nm, (t', r')⟩] else []) := by
        intro b hb
        rw [List.map_append, List.filter_append]
        congr 1
        simp only [List.map_cons, List.map_nil, entOf, List.filter_cons, List.filter_nil, hb]
      have HF := Lib.hid hfs
      clear hfs
      have e2 : Below w.heap.size wr w2 := hB2.out.below (fun i hi => by omega) (by omega)
      have hb2 := hB.out.trans e2
      have hP2 : Hid ((done ++ [(((t, r), nm), (t', r'))] ++ todo').Perm (pairsE g)) := by
        have e1 : (done ++ todo).Perm (done ++ ((((t, r), nm), (t', r')) :: todo')) := hp.out.append_left _
        show (done ++ [(((t, r), nm), (t', r'))] ++ todo').Perm _
        rw [List.append_assoc]
        exact e1.symm.trans hP.out
      have hlen2 := hp.out.length_eq
      simp only [List.length_cons] at hlen2
      generalize ((done.map entOf).filter fun e => q e.dir) = fs at hown2 h1000 HF
      have hm : fs.length + 1 ≤ maxLen := by unfold maxLen; omega
      have hs2' : w.heap.size + 1 ≤ w2.heap.size := by rw [hs2.out]; exact hs1
      clear hown hB hB2 hs2 hP hp hR e2
      go_upto_region 7 with fail
      obtain ⟨z, hz⟩ : ∃ z, z = w2.heap.size := ⟨_, rfl⟩
      have k0 : ((w2.alloc (.cells #[.int .i64 t, .int .i64 r, .string nm] 78)).alloc (.cells #[.int .i64 t', .int .i64 r'] 24)).heap[z]? = some (.cells #[.int .i64 t, .int .i64 r, .string nm] 78 (0, 0)) := by rw [hz]; exact heap_alloc2_old w2 _ _
      have k1 : ((w2.alloc (.cells #[.int .i64 t, .int .i64 r, .string nm] 78)).alloc (.cells #[.int .i64 t', .int .i64 r'] 24)).heap[z + 1]? = some (.cells #[.int .i64 t', .int .i64 r'] 24 (0, 0)) := by rw [hz]; exact heap_alloc2_new w2 _ _
      have hbA : Below w2.heap.size w2 ((w2.alloc (.cells #[.int .i64 t, .int .i64 r, .string nm] 78)).alloc (.cells #[.int .i64 t', .int .i64 r'] 24)) := ((Below.refl _ _).alloc (Nat.le_refl _) _).alloc (by simp) _
      rw [← hz]
      generalize ((w2.alloc (.cells #[.int .i64 t, .int .i64 r, .string nm] 78)).alloc (.cells #[.int .i64 t', .int .i64 r'] 24)) = w3 at k0 k1 hbA ⊢
      have hz3 := hbA.size
      have hown3 := own_call hown2 hbA
      have hR3 := hR2.out.kept (hbA.block _ (by omega)) (hbA.block _ (by omega))
      have hb3 := below_step hb2 hbA
      clear hown2 hR2 hb2 hbA hen hz
      have x0 := cell_of_row _ _ 0 _ _ (0, 0) k0
      have x1 := cell_of_row _ _ 1 _ _ (0, 0) k0
      go_wp2_with fail
      refine (HC.out (t, r) w3 hb3).mono ?_
      rintro e w4 ⟨rfl, hb4⟩
      have l0 := (hb4.block _ (heap_lt k0)).trans k0
      have l1 := (hb4.block _ (heap_lt k1)).trans k1
      have hz4 := hb4.size
      have hown4 := own_call hown3 hb4
      have hR4 := hR3.kept (hb4.block _ (by omega)) (hb4.block _ (by omega))
      have hb5 := below_step hb3 hb4
      have HR4 := Lib.hid hR4
      have HB5 := Lib.hid hb5
      have HL0 := Lib.hid l0
      clear hown3 hR3 hb3 hb4 x0 x1 k0 k1 hR4 hb5
      obtain ⟨qb, hqb⟩ : ∃ qb, qb = q (t, r) := ⟨_, rfl⟩
      have hF := HF.out qb hqb.symm
      rw [← hqb]
      clear hqb HF
      cases qb with
      | false =>
        rw [if_neg (by decide), List.append_nil] at hF
        have HF := Lib.hid hF
        clear hF
        go_wp2_with fail
        go_roundg (todo'.length + 1)
        case measure => omega
        case rel => exact ⟨done ++ [(((t, r), nm), (t', r'))], todo', rfl, HR4.out, hP2.out, by rw [HF.out]; exact hown4, HB5.out, by omega⟩
      | true =>
        rw [if_pos rfl] at hF
        have HF := Lib.hid hF
        clear hF
        have x0 := cell_of_row _ _ 0 _ _ (0, 0) HL0.out
        have x1 := cell_of_row _ _ 1 _ _ (0, 0) HL0.out
        have x2 := cell_of_row _ _ 2 _ _ (0, 0) HL0.out
        obtain ⟨y0, y1⟩ := two_cells l1
        have HW := Lib.hid (row_there w4 70 (entA ⟨(t, r), nm, (t', r')⟩))
        go_wp2_with (at_builtin; refine wpList_append_own _ rfl (.tmp 24) (.tmp 31) 91 rfl (w.heap.size + 1) 70 i0 _ 5 48 Tryz.underlying91 hi0 hz0 hz1 hz2 rfl (by decide) _ _ _ rfl (hown4.alloc _) ⟨w4.heap.size, 0, none⟩ 1 1 (entA ⟨(t, r), nm, (t', r')⟩).toList rfl rfl HW.out (ent_one _) hm (by omega) (by simp; omega) ?_; intro v2 w5 hown5 hg5 _)
        have hbw : Below (w.heap.size + 1) w4 w5 := (((Below.refl w4.heap.size w4).alloc (Nat.le_refl _) _).mono (by omega)).grown hg5 (by simp; omega) (fun j hj => (hown4.lt j hj).1)
        go_roundg (todo'.length + 1)
        case measure => omega
        case rel =>
          refine ⟨done ++ [(((t, r), nm), (t', r'))], todo', rfl, HR4.out.kept (hbw.block _ (by omega)) (hbw.block _ (by omega)), hP2.out, ?_, HB5.out.trans (hbw.mono (by omega)), by have := hbw.size; omega⟩
          rw [HF.out, List.length_append]
          show w5.ownsRow _ _ 5 v2 (fs.length + 1) _
          rw [← flat_ent]
          exact hown5

set_option maxRecDepth 100000 in
theorem list_code (a : Addr) (S : Nat → Prop) (g : Gr) (id : St) (w : World) (h : GIn w S a g) (hg : g.ok) :
    Calls Tryz.prog 153 #[.pointer (some a), .agg (stA id)] w (EntsNew (listE g.E id) w) := by
  have hb0 : Below w.heap.size w (w.alloc (.cells #[.int .i64 id.1, .int .i64 id.2] 24)) := (Below.refl _ _).alloc (Nat.le_refl _) _
  have hs := sortedList_code a S g id w.heap.size (fun x => decide (x = id)) (fun _ => rfl) (w.alloc (.cells #[.int .i64 id.1, .int .i64 id.2] 24)) (h.keep fun i hi => hb0.block i (h.lt i hi)) hg (heap_alloc_new w _)
  have HS := Lib.hid hs
  clear h hs
  unfold stA
  go_enter Tryz.func153, Tryz.ntmps153
  go_wp2_with fail
  refine (HS.out).mono ?_
  rintro e w2 ⟨v, rfl, hown, hb⟩
  go_wp2_with fail
  go_ret
  exact ⟨v, rfl, own_lower hown hb0.size, below_step hb0 hb⟩

end Go.Proofs.YtbkijfhfjhpebaaGreatDoor

/-
  The landed graph's Drop.
-/
namespace Go.Proofs.YtbkijfhfjhpebaaGreatDoor
open Go.RowKit StampMath GraphMath

set_option maxRecDepth 100000 in
set_option maxHeartbeats 1600000 in
theorem drop_code (a : Addr) (S : Nat → Prop) (g : Gr) (id : St) (w : World) (h : GIn w S a g) (hg : g.ok) :
    Calls Tryz.prog 130 #[.pointer (some a), .agg (stA id)] w fun e w' => e = .returned (.int .i64 (dropG g id).2) ∧ GIn w' S a (dropG g id).1 ∧ But S w w' := by
  have hbW : Below w.heap.size w (w.alloc (.cells #[.int .i64 id.1, .int .i64 id.2] 24)) := (Below.refl _ _).alloc (Nat.le_refl _) _
  have hget : ∀ W : World, Below w.heap.size w W → Calls Tryz.prog 12 #[.pointer (some a), .agg (stA id)] W fun e w' => e = .returned (.tuple #[.agg (inoA ((getG g id).getD noIno)), .bool (getG g id).isSome]) ∧ Below W.heap.size W w' := fun W hW => get_code a S g id W (h.keep fun i hi => hW.block i (h.lt i hi)) hg
  cases hq : getG g id with
  | none =>
    have e1 : dropG g id = (g, 3) := by unfold dropG; rw [hq]
    rw [hq] at hget
    have HQ : Hid (∀ W : World, Below w.heap.size w W → Calls Tryz.prog 12 #[.pointer (some a), .agg #[.int .i64 id.1, .int .i64 id.2]] W fun e w' => e = .returned (.tuple #[.agg #[.int .i64 0, .int .i64 0, .int .i64 0, .int .i64 0, .int .i64 0, .string ⟨#[]⟩], .bool false]) ∧ Below W.heap.size W w') := hget
    rw [e1]
    have hG := Lib.hid h
    clear h e1 hq hget
    unfold stA
    go_enter Tryz.func130, Tryz.ntmps130
    go_wp2_with fail
    refine (HQ.out _ hbW).mono ?_
    rintro e w1 ⟨rfl, hb1⟩
    have hb2 := below_step hbW hb1
    go_wp2_with fail
    go_ret
    have hb3 := hb2.alloc hb2.size (.cells #[.int .i64 0, .int .i64 0, .int .i64 0, .int .i64 0, .int .i64 0, .string ⟨#[]⟩] 32)
    exact ⟨rfl, hG.out.keep fun i hi => hb3.block i (hG.out.lt i hi), But.of_below hb3⟩
  | some X =>
    rw [hq] at hget
    have HQ : Hid (∀ W : World, Below w.heap.size w W → Calls Tryz.prog 12 #[.pointer (some a), .agg #[.int .i64 id.1, .int .i64 id.2]] W fun e w' => e = .returned (.tuple #[.agg #[.int .i64 X.id.1, .int .i64 X.id.2, .int .i64 X.kind, .int .i64 X.links, .int .i64 X.mode, .string X.data], .bool true]) ∧ Below W.heap.size W w') := hget
    have hlist : ∀ W : World, Below w.heap.size w W → Calls Tryz.prog 153 #[.pointer (some a), .agg (stA id)] W (EntsNew (listE g.E id) W) := fun W hW => list_code a S g id W (h.keep fun i hi => hW.block i (h.lt i hi)) hg
    have HLs : Hid (∀ W : World, Below w.heap.size w W → Calls Tryz.prog 153 #[.pointer (some a), .agg #[.int .i64 id.1, .int .i64 id.2]] W (EntsNew (listE g.E id) W)) := hlist
    have hG := Lib.hid h
    clear hlist
    obtain ⟨b, bi, be, rfl, h1, h2, h3, hb, hi, he, hS⟩ := h
    obtain ⟨d0, d1⟩ := two_cells hb
    have hlt := heap_lt hb
    have HI := Lib.hid hi
    have HE := Lib.hid he
    have HS := Lib.hid hS
    have HBlk := Lib.hid hb
    have HG := Lib.hid hq
    clear hi he hS hb hget hq d1
    unfold stA
    go_enter Tryz.func130, Tryz.ntmps130
    go_wp2_with fail
    refine (HQ.out _ hbW).mono ?_
    rintro e w1 ⟨rfl, hb1⟩
    have hr0 : w1.heap[w.heap.size]? = some (.cells #[.int .i64 id.1, .int .i64 id.2] 24 (0, 0)) := (hb1.block _ (by simp)).trans (heap_alloc_new w _)
    have hb2 := below_step hbW hb1
    clear hb1 hbW
    go_upto_region 2 with fail
    change Code.wp _ _ _ _ (w1.alloc (.cells (inoA X) 32))
    obtain ⟨u, hu⟩ : ∃ u, u = w1.heap.size := ⟨_, rfl⟩
    have hlow : w.heap.size < u := by rw [hu]; exact heap_lt hr0
    have r0 : (w1.alloc (.cells (inoA X) 32)).heap[w.heap.size]? = _ := (heap_alloc_old w1 _ (by omega)).trans hr0
    have r1 : (w1.alloc (.cells (inoA X) 32)).heap[u]? = some (.cells (inoA X) 32 (0, 0)) := by rw [hu]; exact heap_alloc_new _ _
    have hb3 := hb2.alloc hb2.size (.cells (inoA X) 32)
    rw [← hu]
    generalize w1.alloc (.cells (inoA X) 32) = w2 at r0 r1 hb3 ⊢
    clear hr0 hb2 hu
    obtain ⟨x0, x1⟩ := two_cells r0
    have hD : dropG g id = if id = (0, 0) then (g, 8) else if 0 < X.links ∨ 0 < (listE g.E id).length then (g, 7) else (⟨g.I.filter fun x => !decide (x.id = id), g.E⟩, 0) := by unfold dropG; rw [HG.out]
    have HRl : Hid (∀ y, Calls Tryz.prog 36 #[] (later w2 y) fun e w' => e = .returned (.agg #[.int .i64 0, .int .i64 0]) ∧ Below (later w2 y).heap.size (later w2 y) w') := fun y => root_any _
    have HT0 := Lib.hid r0
    have HT1 := Lib.hid r1
    have HB2 := Lib.hid hb3
    have l0 := later_cell x0
    have l1 := later_cell x1
    clear r0 r1 hb3 x0 x1
    by_cases hz : id = (0, 0)
    · have hv : ∀ W : World, (Op.equalIn 10000 24 (.agg #[.int .i64 id.1, .int .i64 id.2]) (.agg #[.int .i64 0, .int .i64 0])).run Tryz.prog W = .ok true W := fun W => by rw [run_eqSt, decide_eq_true (show ((id.1, id.2) : St) = (0, 0) from hz)]
      rw [if_pos hz] at hD
      have HD := Lib.hid hD
      clear hD hz
      go_upto_region 4 with fail
      refine wp_region_later (by kernel_rfl) (by kernel_rfl) ?_
      repeat (go_big_quiet_step (first | (with_reducible exact later_call (HRl.out _))))
      refine wpQuiet_nil ?_
      intro _ hw'
      obtain ⟨y, rfl⟩ := hw'
      clear l0 l1
      go_wp2_with fail
      go_ret
      rw [HD.out]
      have hb3 := below_step HB2.out (later_below w2 y)
      exact ⟨rfl, hG.out.keep fun i hi => hb3.block i (hG.out.lt i hi), But.of_below hb3⟩
    · have hv : ∀ W : World, (Op.equalIn 10000 24 (.agg #[.int .i64 id.1, .int .i64 id.2]) (.agg #[.int .i64 0, .int .i64 0])).run Tryz.prog W = .ok false W := fun W => by rw [run_eqSt, decide_eq_false (show ¬ ((id.1, id.2) : St) = (0, 0) from hz)]
      rw [if_neg hz] at hD
      clear hz
      go_upto_region 4 with fail
      refine wp_region_later (by kernel_rfl) (by kernel_rfl) ?_
      repeat (go_big_quiet_step (first | (with_reducible exact later_call (HRl.out _))))
      refine wpQuiet_nil ?_
      intro _ hw'
      obtain ⟨y, rfl⟩ := hw'
      clear l0 l1 hv
      have hb3 := below_step HB2.out (later_below w2 y)
      have r0 := ((later_below w2 y).block _ (heap_lt HT0.out)).trans HT0.out
      have r1 := ((later_below w2 y).block _ (heap_lt HT1.out)).trans HT1.out
      generalize later w2 y = w2 at hb3 r0 r1 ⊢
      obtain ⟨x0, x1⟩ := two_cells r0
      have hx3 := (ino_cells r1).2.2.2.1
      by_cases hl : 0 < X.links
      · rw [if_pos (Or.inl hl)] at hD
        have HD := Lib.hid hD
        clear hD
        go_wp2_with fail
        go_ret
        rw [HD.out]
        exact ⟨rfl, hG.out.keep fun i hi => hb3.block i (hG.out.lt i hi), But.of_below hb3⟩
      · have HDp := Lib.hid hD
        clear hD
        go_wp2_with fail
        refine (HLs.out _ hb3).mono ?_
        rintro e w3 ⟨v, rfl, hown, hb4⟩
        obtain ⟨A, c, rfl, hEin, hnc, hcm, _⟩ := ents_own rfl hown
        have hb5 := below_step hb3 hb4
        have t0 : w3.heap[w.heap.size]? = _ := (hb4.block _ (heap_lt r0)).trans r0
        clear hown hEin hb4 r0 r1 x0 x1 hx3
        by_cases hn : 0 < (listE g.E id).length
        · have HD : Hid (dropG g id = (g, 7)) := by
            have := HDp.out
            rwa [if_pos (Or.inr hn)] at this
          have hn' : (0 : Int) < ((listE g.E id).length : Int) := by omega
          generalize ((listE g.E id).length) = ln at hn hn' hnc ⊢
          go_wp2_with fail
          go_ret
          rw [HD.out]
          exact ⟨rfl, hG.out.keep fun i hi => hb5.block i (hG.out.lt i hi), But.of_below hb5⟩
        · have HD : Hid (dropG g id = (⟨g.I.filter fun x => !decide (x.id = id), g.E⟩, 0)) := by
            have := HDp.out
            rwa [if_neg (by omega)] at this
          have hn' : (listE g.E id).length = 0 := by omega
          rw [hn'] at hnc ⊢
          obtain ⟨x0, x1⟩ := two_cells t0
          have d0w := (hb5.cell (p := ⟨b, 0, none⟩) hlt).trans d0
          obtain ⟨w5, hrun, hm5, hbut5, hsz5⟩ := (HI.out.kept (hb5.drew.block bi HI.out.lt)).drop stShape Tryz.underlying62 id 0
          simp only [stV, stA] at hrun
          have HM5 := Lib.hid hm5
          have hb6 : But (fun i => i = bi) w w5 := (But.of_below hb5.drew).trans hbut5 fun i hi _ => hi
          have HB6 := Lib.hid hb6
          clear hm5 hb5 hbut5 t0 hb6
          go_wp2_with fail
          go_region
          go_wp2_with fail
          go_ret
          have h0 : (dropG g id).2 = 0 := by rw [HD.out]
          have hok := hg.drop id
          refine ⟨by rw [h0]; rfl, ⟨b, bi, be, rfl, h1, h2, h3, ?_, ?_, ?_, HS.out⟩, HB6.out.mono fun i hi => (HS.out i).2 (Or.inr (Or.inl hi))⟩
          · exact HB6.out.heap HBlk.out (fun q => h1 q)
          · refine HM5.out.perm (off_perm (keys_pairsI hg) (keys_pairsI hok) fun k => ?_)
            rw [look_pairsI hok, look_pairsI hg, drop_get hg h0]
          · have e1 : pairsE (dropG g id).1 = pairsE g := by unfold pairsE; rw [drop_ents]
            rw [e1]
            exact HE.out.kept (HB6.out.block be HE.out.lt fun q => h3 q.symm)

end Go.Proofs.YtbkijfhfjhpebaaGreatDoor

/-
  The code of package graph (a draft): Set.
-/
namespace Go.Proofs.YtbkijfhfjhpebaaGreatDoor
open Go.RowKit StampMath GraphMath

set_option maxRecDepth 100000 in
set_option maxHeartbeats 1600000 in
theorem set_code (a : Addr) (S : Nat → Prop) (g : Gr) (id : St) (mode : Int) (data : ByteArray) (w : World) (h : GIn w S a g) (hg : g.ok) :
    Calls Tryz.prog 126 #[.pointer (some a), .agg (stA id), .int .i64 mode, .string data] w fun e w' => e = .returned (.int .i64 (setG g id mode data).2) ∧ GIn w' S a (setG g id mode data).1 ∧ But S w w' := by
  have hbW : Below w.heap.size w (w.alloc (.cells #[.int .i64 id.1, .int .i64 id.2] 24)) := (Below.refl _ _).alloc (Nat.le_refl _) _
  have hget : ∀ W : World, Below w.heap.size w W → Calls Tryz.prog 12 #[.pointer (some a), .agg (stA id)] W fun e w' => e = .returned (.tuple #[.agg (inoA ((getG g id).getD noIno)), .bool (getG g id).isSome]) ∧ Below W.heap.size W w' := fun W hW => get_code a S g id W (h.keep fun i hi => hW.block i (h.lt i hi)) hg
  cases hq : getG g id with
  | none =>
    have e1 : setG g id mode data = (g, 3) := by unfold setG; rw [hq]
    rw [hq] at hget
    have HQ : Hid (∀ W : World, Below w.heap.size w W → Calls Tryz.prog 12 #[.pointer (some a), .agg #[.int .i64 id.1, .int .i64 id.2]] W fun e w' => e = .returned (.tuple #[.agg #[.int .i64 0, .int .i64 0, .int .i64 0, .int .i64 0, .int .i64 0, .string ⟨#[]⟩], .bool false]) ∧ Below W.heap.size W w') := hget
    rw [e1]
    have hG := Lib.hid h
    clear h e1 hq hget
    unfold stA
    go_enter Tryz.func126, Tryz.ntmps126
    go_wp2_with fail
    refine (HQ.out _ hbW).mono ?_
    rintro e w1 ⟨rfl, hb1⟩
    have hb2 := below_step hbW hb1
    go_wp2_with fail
    go_ret
    have hb3 := hb2.alloc hb2.size (.cells #[.int .i64 0, .int .i64 0, .int .i64 0, .int .i64 0, .int .i64 0, .string ⟨#[]⟩] 32)
    exact ⟨rfl, hG.out.keep fun i hi => hb3.block i (hG.out.lt i hi), But.of_below hb3⟩
  | some X =>
    rw [hq] at hget
    have HQ : Hid (∀ W : World, Below w.heap.size w W → Calls Tryz.prog 12 #[.pointer (some a), .agg #[.int .i64 id.1, .int .i64 id.2]] W fun e w' => e = .returned (.tuple #[.agg #[.int .i64 X.id.1, .int .i64 X.id.2, .int .i64 X.kind, .int .i64 X.links, .int .i64 X.mode, .string X.data], .bool true]) ∧ Below W.heap.size W w') := hget
    obtain ⟨b, bi, be, rfl, h1, h2, h3, hb, hi, he, hS⟩ := h
    obtain ⟨d0, d1⟩ := two_cells hb
    have hlt := heap_lt hb
    have HI := Lib.hid hi
    have HE := Lib.hid he
    have HS := Lib.hid hS
    have HBlk := Lib.hid hb
    have HG := Lib.hid hq
    clear hi he hS hb hget hq d1
    unfold stA
    go_enter Tryz.func126, Tryz.ntmps126
    go_wp2_with fail
    refine (HQ.out _ hbW).mono ?_
    rintro e w1 ⟨rfl, hb1⟩
    have hr0 : w1.heap[w.heap.size]? = some (.cells #[.int .i64 id.1, .int .i64 id.2] 24 (0, 0)) := (hb1.block _ (by simp)).trans (heap_alloc_new w _)
    have hb2 := below_step hbW hb1
    clear hb1 hbW
    go_upto_region 2 with fail
    change Code.wp _ _ _ _ (w1.alloc (.cells (inoA X) 32))
    obtain ⟨u, hu⟩ : ∃ u, u = w1.heap.size := ⟨_, rfl⟩
    have hlow : w.heap.size < u := by rw [hu]; exact heap_lt hr0
    have r0 : (w1.alloc (.cells (inoA X) 32)).heap[w.heap.size]? = _ := (heap_alloc_old w1 _ (by omega)).trans hr0
    have r1 : (w1.alloc (.cells (inoA X) 32)).heap[u]? = some (.cells (inoA X) 32 (0, 0)) := by rw [hu]; exact heap_alloc_new _ _
    have hb3 := hb2.alloc hb2.size (.cells (inoA X) 32)
    rw [← hu]
    generalize w1.alloc (.cells (inoA X) 32) = w2 at r0 r1 hb3 ⊢
    clear hr0 hb2 hu
    obtain ⟨y0, y1, y2, y3, y4, y5⟩ := ino_cells r1
    obtain ⟨f0, f1, f2, f3, f4, f5⟩ := ino_free r1
    go_wp2_with fail
    have s1 : ((w2.setCell ⟨u, 4, none⟩ (.int .i64 mode)).setCell ⟨u, 5, none⟩ (.string data)).heap[u]? = some (.cells (inoA { X with mode := mode, data := data }) 32 (0, 0)) := heap_setCell_same _ _ _ _ _ _ (heap_setCell_same _ _ _ _ _ _ r1)
    have s0 : ((w2.setCell ⟨u, 4, none⟩ (.int .i64 mode)).setCell ⟨u, 5, none⟩ (.string data)).heap[w.heap.size]? = _ := (heap_setCell_other _ _ _ _ (by dsimp only; omega)).trans ((heap_setCell_other _ _ _ _ (by dsimp only; omega)).trans r0)
    have hb5 := (hb3.setCell (p := ⟨u, 4, none⟩) (by dsimp only; omega) (.int .i64 mode)).setCell (p := ⟨u, 5, none⟩) (by dsimp only; omega) (.string data)
    generalize (w2.setCell ⟨u, 4, none⟩ (.int .i64 mode)).setCell ⟨u, 5, none⟩ (.string data) = w4 at s0 s1 hb5 ⊢
    clear r0 r1 hb3 y0 y1 y2 y3 y4 y5 f0 f1 f2 f3 f4 f5
    obtain ⟨y0, y1, y2, y3, y4, y5⟩ := ino_cells s1
    obtain ⟨x0, x1⟩ := two_cells s0
    have d0w := (hb5.cell (p := ⟨b, 0, none⟩) hlt).trans d0
    obtain ⟨w5, hrun, hm5, hbut5, hsz5⟩ := (HI.out.kept (hb5.drew.block bi HI.out.lt)).store stShape Tryz.underlying62 id { X with mode := mode, data := data }
    simp only [stV, stA, inoV, inoA] at hrun
    have HM5 := Lib.hid hm5
    have hb6 : But (fun i => i = bi) w w5 := (But.of_below hb5.drew).trans hbut5 fun i hi _ => hi
    have HB6 := Lib.hid hb6
    clear hm5 hb5 hbut5 s0 s1 hb6
    go_region
    go_wp2_with fail
    go_ret
    have hu : setG g id mode data = (⟨g.I.map fun x => if x.id = id then { x with mode := mode, data := data } else x, g.E⟩, 0) := by unfold setG; rw [HG.out]
    have hok := hg.set id mode data
    refine ⟨by rw [hu]; rfl, ⟨b, bi, be, rfl, h1, h2, h3, ?_, ?_, ?_, HS.out⟩, HB6.out.mono fun i hi => (HS.out i).2 (Or.inr (Or.inl hi))⟩
    · exact HB6.out.heap HBlk.out (fun q => h1 q)
    · refine HM5.out.perm (put_perm (keys_pairsI hg) (keys_pairsI hok) fun k => ?_)
      rw [look_pairsI hok, look_pairsI hg, set_get]
      by_cases hk : k = id
      · rw [if_pos hk, hk, HG.out]
        simp
      · rw [if_neg hk]
        cases getG g k <;> simp [hk]
    · have e1 : pairsE (setG g id mode data).1 = pairsE g := by unfold pairsE; rw [set_ents]
      rw [e1]
      exact HE.out.kept (HB6.out.block be HE.out.lt fun q => h3 q.symm)

end Go.Proofs.YtbkijfhfjhpebaaGreatDoor

/-
  The landed graph's Parent: the first entry of a directory that comes is the only one.
-/
namespace Go.Proofs.YtbkijfhfjhpebaaGreatDoor
open Go.RowKit StampMath GraphMath

theorem parent_kind {g : Gr} {d : St} (h : ¬ ((getG g d).getD noIno).kind = 1) : parentG g d = none := by
  unfold parentG
  cases hq : getG g d with
  | none => rfl
  | some x =>
    rw [hq] at h
    exact if_neg h

theorem dir_kind {g : Gr} {d : St} (h : ((getG g d).getD noIno).kind = 1) : g.isDir d := by
  cases hq : getG g d with
  | none => rw [hq] at h; exact absurd h (by decide)
  | some x =>
    rw [hq] at h
    exact getDir_of hq h

set_option maxRecDepth 100000 in
set_option maxHeartbeats 1600000 in
theorem parent_code (a : Addr) (S : Nat → Prop) (g : Gr) (d : St) (w : World) (h : GIn w S a g) (hg : g.ok) :
    Calls Tryz.prog 19 #[.pointer (some a), .agg (stA d)] w fun e w' => e = .returned (.tuple #[.agg (stA ((parentG g d).getD (0, 0))), .bool (parentG g d).isSome]) ∧ Below w.heap.size w w' := by
  obtain ⟨X, hX⟩ : ∃ X, X = (getG g d).getD noIno := ⟨_, rfl⟩
  obtain ⟨is, his⟩ : ∃ is, is = (getG g d).isSome := ⟨_, rfl⟩
  have HG : Hid (∀ W : World, Below w.heap.size w W → Calls Tryz.prog 12 #[.pointer (some a), .agg #[.int .i64 d.1, .int .i64 d.2]] W fun e w' => e = .returned (.tuple #[.agg #[.int .i64 X.id.1, .int .i64 X.id.2, .int .i64 X.kind, .int .i64 X.links, .int .i64 X.mode, .string X.data], .bool is]) ∧ Below W.heap.size W w') := fun W hW => by
    rw [hX, his]
    exact get_code a S g d W (h.keep fun i hi => hW.block i (h.lt i hi)) hg
  have HN : Hid (¬ X.kind = 1 → parentG g d = none) := fun q => parent_kind (by rw [← hX]; exact q)
  have HD : Hid (X.kind = 1 → g.isDir d) := fun q => dir_kind (by rw [← hX]; exact q)
  obtain ⟨b, bi, be, rfl, h1, h2, h3, hb, hi, he, hS⟩ := h
  obtain ⟨d0, d1⟩ := two_cells hb
  have hlt := heap_lt hb
  have HE := Lib.hid he
  clear hX his hi he hb hS d0
  have hb0 : Below w.heap.size w ((w.alloc (.cells #[.int .i64 d.1, .int .i64 d.2] 24)).alloc (.cells #[.int .i64 0, .int .i64 0] 24)) := ((Below.refl _ _).alloc (Nat.le_refl _) _).alloc (by simp) _
  unfold stA
  go_enter Tryz.func19, Tryz.ntmps19
  go_wp2_with fail
  refine (HG.out _ hb0).mono ?_
  rintro e w1 ⟨rfl, hb1⟩
  have q0 : w1.heap[w.heap.size]? = some (.cells #[.int .i64 d.1, .int .i64 d.2] 24 (0, 0)) := (hb1.block _ (by simp <;> omega)).trans (heap_alloc2_old w _ _)
  have q1 : w1.heap[w.heap.size + 1]? = some (.cells #[.int .i64 0, .int .i64 0] 24 (0, 0)) := (hb1.block _ (by simp)).trans (heap_alloc2_new w _ _)
  have hb2 := below_step hb0 hb1
  clear hb0 hb1
  go_upto_region 2 with fail
  change Code.wp _ _ _ _ (w1.alloc (.cells (inoA X) 32))
  obtain ⟨u, hu⟩ : ∃ u, u = w1.heap.size := ⟨_, rfl⟩
  have hlow : w.heap.size + 1 < u := by rw [hu]; exact heap_lt q1
  have r0 : (w1.alloc (.cells (inoA X) 32)).heap[w.heap.size]? = _ := (heap_alloc_old w1 _ (by omega)).trans q0
  have r1 : (w1.alloc (.cells (inoA X) 32)).heap[w.heap.size + 1]? = _ := (heap_alloc_old w1 _ (by omega)).trans q1
  have r2 : (w1.alloc (.cells (inoA X) 32)).heap[u]? = some (.cells (inoA X) 32 (0, 0)) := by rw [hu]; exact heap_alloc_new _ _
  have hb3 := hb2.alloc hb2.size (.cells (inoA X) 32)
  rw [← hu]
  generalize w1.alloc (.cells (inoA X) 32) = w2 at r0 r1 r2 hb3 ⊢
  clear q0 q1 hb2 hu
  have hx2 := (ino_cells r2).2.2.1
  have hu2 := heap_lt r2
  by_cases hk : X.kind = 1
  · have hkd : (X.kind == 1) = true := beq_iff_eq.2 hk
    have HDir := Lib.hid (HD.out hk)
    have d1w := (hb3.cell (p := ⟨b, 1, none⟩) hlt).trans d1
    have HE2 := Lib.hid (HE.out.kept (hb3.block be HE.out.lt))
    have hltE := HE2.out.lt
    have HR0 := Lib.hid r0
    have HR1 := Lib.hid r1
    have HB3 := Lib.hid hb3
    clear hk HN HD r0 r1 r2 hb3
    go_wp2_with (at_range; refine wpList_k_range (by rfl) _ _ (by rfl) Tryz.underlying63 be _ (by rfl) HE2.out ?_; intro v1 HRg HB1 HS1)
    rw [show (X.kind != 1) = false by rw [bne, hkd]; rfl]
    clear hx2 hkd d1w
    go_frame
    go_loopg [] ((pairsE g).length + 1) (fun gk wr => ∃ (done todo : List ((St × ByteArray) × St)), gk = todo.length + 1 ∧ Hid (KRange plV stV wr be w2.heap.size (pairsE g) todo) ∧ Hid ((done ++ todo).Perm (pairsE g)) ∧ Hid (∀ p ∈ done, p.2 ≠ d) ∧ Hid (Below w2.heap.size w2 wr) ∧ w2.heap.size + 1 ≤ wr.heap.size)
    case atStart => exact ⟨[], pairsE g, rfl, HRg, List.Perm.refl _, (fun p hp => by cases hp), HB1, by rw [HS1.out]; omega⟩
    case round =>
      obtain ⟨done, todo, rfl, hR, hP, hnone, hB, hs1⟩ := hrel
      clear HRg HB1 HS1
      have t0 := (hB.out.block _ (by omega)).trans HR0.out
      have t1 := (hB.out.block _ (by omega)).trans HR1.out
      go_wp2_with (refine wpList_k_next (by rfl) _ (by rfl) be w2.heap.size _ _ (by rfl) hR.out ?_ ?_)
      · intro h0
        have hR : parentG g d = none := by
          cases hq : parentG g d with
          | none => rfl
          | some up =>
            obtain ⟨e, he, hei, _⟩ := parent_of hq
            have hm : ((e.dir, e.name), e.ino) ∈ pairsE g := List.mem_map.2 ⟨e, he, rfl⟩
            rw [h0, List.append_nil] at hP
            exact absurd hei (hnone.out _ (hP.out.mem_iff.2 hm))
        have HQ := Lib.hid hR
        clear hR h0
        obtain ⟨m0, m1⟩ := two_cells t1
        obtain ⟨f0, f1⟩ := two_free t1
        go_wp2_with fail
        obtain ⟨z0, z1⟩ := two_cells (box_set (c := .int .i64 0) (d := .int .i64 0) t1)
        exact bodyPost_ret (v := .tuple #[.agg (stA (0, 0)), .bool false]) (by simp [results, Tryz.results19, go_sem, stA, z0, z1]) rfl ⟨by rw [HQ.out]; rfl, (below_step HB3.out hB.out |>.setCell (by dsimp only; omega) _).setCell (by dsimp only; omega) _⟩
      · intro t r nm t' r' todo' w4 hp hR2 hB2 hs2 hen
        simp only [plV, stV, stA] at hen ⊢
        have hs2' : w2.heap.size + 1 ≤ w4.heap.size := by rw [hs2.out]; exact hs1
        have n0 := (hB2.out.block _ (by omega) (by omega)).trans t0
        have n1 := (hB2.out.block _ (by omega) (by omega)).trans t1
        have hb4 := hB.out.trans (hB2.out.below (fun i hi => by omega) (by omega))
        have hP2 : Hid ((done ++ [(((t, r), nm), (t', r'))] ++ todo').Perm (pairsE g)) := by
          have e1 : (done ++ todo).Perm (done ++ ((((t, r), nm), (t', r')) :: todo')) := hp.out.append_left _
          show (done ++ [(((t, r), nm), (t', r'))] ++ todo').Perm _
          rw [List.append_assoc]
          exact e1.symm.trans hP.out
        have hlen2 := hp.out.length_eq
        simp only [List.length_cons] at hlen2
        clear t0 t1 hB hB2 hs2 hP hp hR
        go_upto_region 7 with fail
        obtain ⟨z, hz⟩ : ∃ z, z = w4.heap.size := ⟨_, rfl⟩
        have k0 : ((w4.alloc (.cells #[.int .i64 t, .int .i64 r, .string nm] 78)).alloc (.cells #[.int .i64 t', .int .i64 r'] 24)).heap[z]? = some (.cells #[.int .i64 t, .int .i64 r, .string nm] 78 (0, 0)) := by rw [hz]; exact heap_alloc2_old w4 _ _
        have k1 : ((w4.alloc (.cells #[.int .i64 t, .int .i64 r, .string nm] 78)).alloc (.cells #[.int .i64 t', .int .i64 r'] 24)).heap[z + 1]? = some (.cells #[.int .i64 t', .int .i64 r'] 24 (0, 0)) := by rw [hz]; exact heap_alloc2_new w4 _ _
        have hbA : Below w4.heap.size w4 ((w4.alloc (.cells #[.int .i64 t, .int .i64 r, .string nm] 78)).alloc (.cells #[.int .i64 t', .int .i64 r'] 24)) := ((Below.refl _ _).alloc (Nat.le_refl _) _).alloc (by simp) _
        rw [← hz]
        generalize ((w4.alloc (.cells #[.int .i64 t, .int .i64 r, .string nm] 78)).alloc (.cells #[.int .i64 t', .int .i64 r'] 24)) = w5 at k0 k1 hbA ⊢
        have hz5 := hbA.size
        have hR5 := Lib.hid (hR2.out.kept (hbA.block _ (by omega)) (hbA.block _ (by omega)))
        have hb5 := below_step hb4 hbA
        have t0 := (hbA.block _ (by omega)).trans n0
        have t1 := (hbA.block _ (by omega)).trans n1
        clear hz hbA hR2 hb4 n0 n1 hen
        have x0 := cell_of_row _ _ 0 _ _ (0, 0) k0
        have x1 := cell_of_row _ _ 1 _ _ (0, 0) k0
        obtain ⟨y0, y1⟩ := two_cells k1
        obtain ⟨c3, c4⟩ := two_cells t0
        obtain ⟨m0, m1⟩ := two_cells t1
        obtain ⟨f0, f1⟩ := two_free t1
        have HT1 := Lib.hid t1
        have HB5 := Lib.hid hb5
        clear k0 k1 t0 t1 hb5
        by_cases hq : ((t', r') : St) = d
        · have hv := eqSt_yes hq
          have HQ : Hid (parentG g d = some (t, r)) := by
            have hm : (((t, r), nm), (t', r')) ∈ pairsE g := hP2.out.mem_iff.1 (by simp)
            obtain ⟨e, he, hee⟩ := List.mem_map.1 hm
            have e1 : e.ino = d := by rw [← hq]; exact congrArg Prod.snd hee
            have e2 : e.dir = (t, r) := congrArg (fun p => p.1.1) hee
            have hd := HDir.out
            rw [← e1] at hd
            have := hg.parent he hd
            rw [e1, e2] at this
            exact this
          simp only at hv
          go_wp2_with fail
          obtain ⟨z0, z1⟩ := two_cells (box_set (c := .int .i64 t) (d := .int .i64 r) HT1.out)
          exact bodyPost_ret (v := .tuple #[.agg (stA (t, r)), .bool true]) (by simp [results, Tryz.results19, go_sem, stA, z0, z1]) rfl ⟨by rw [HQ.out]; rfl, (below_step HB3.out HB5.out |>.setCell (by dsimp only; omega) _).setCell (by dsimp only; omega) _⟩
        · have hv := eqSt_no hq
          simp only at hv
          go_wp2_with fail
          go_roundg (todo'.length + 1)
          case measure => omega
          case rel =>
            refine ⟨done ++ [(((t, r), nm), (t', r'))], todo', rfl, hR5.out, hP2.out, fun p hp => ?_, HB5.out, by have := HB5.out.size; omega⟩
            rcases List.mem_append.1 hp with hp | hp
            · exact hnone.out p hp
            · rw [List.mem_singleton.1 hp]
              exact hq
  · have hkd : (X.kind == 1) = false := beq_eq_false_iff_ne.2 hk
    have HQ := Lib.hid (HN.out hk)
    clear hk HN HD
    obtain ⟨m0, m1⟩ := two_cells r1
    obtain ⟨f0, f1⟩ := two_free r1
    go_wp2_with fail
    obtain ⟨z0, z1⟩ := two_cells (box_set (c := .int .i64 0) (d := .int .i64 0) r1)
    exact bodyPost_ret (v := .tuple #[.agg (stA (0, 0)), .bool false]) (by simp [results, Tryz.results19, go_sem, stA, z0, z1]) rfl ⟨by rw [HQ.out]; rfl, ((hb3).setCell (by dsimp only; omega) _).setCell (by dsimp only; omega) _⟩

end Go.Proofs.YtbkijfhfjhpebaaGreatDoor

/-
  The landed graph's Under: upwards by Parent, to the end.
-/
namespace Go.Proofs.YtbkijfhfjhpebaaGreatDoor
open Go.RowKit StampMath GraphMath

theorem under_here (g : Gr) (a : St) : underG g a a = true := by
  unfold underG
  rw [underN_step, if_pos rfl]

theorem under_end {g : Gr} {a b : St} (hq : a ≠ b) (hp : parentG g a = none) : underG g a b = false := by
  unfold underG
  rw [underN_step, if_neg hq, hp]

theorem rank_up {g : Gr} {f : St → Nat} (hf : ∀ e ∈ g.E, g.isDir e.ino → f e.dir < f e.ino) {a p : St} (hp : parentG g a = some p) : f p < f a := by
  obtain ⟨e, he, h1, h2, h3⟩ := parent_of hp
  have := hf e he (by rw [h1]; exact h3)
  rwa [h1, h2] at this

/-- The two boxes that the walk of Under holds. -/
structure VBox (w W : World) (cur dir : St) : Prop where
  b : W.heap[w.heap.size]? = some (.cells #[.int .i64 cur.1, .int .i64 cur.2] 24 (0, 0))
  c : W.heap[w.heap.size + 1]? = some (.cells #[.int .i64 dir.1, .int .i64 dir.2] 24 (0, 0))
  low : Below w.heap.size w W

theorem VBox.step {w W W' : World} {cur dir : St} (h : VBox w W cur dir) (hb : Below W.heap.size W W') : VBox w W' cur dir :=
  ⟨(hb.block _ (heap_lt h.b)).trans h.b, (hb.block _ (heap_lt h.c)).trans h.c, below_step h.low hb⟩

theorem VBox.set {w W : World} {cur dir : St} (h : VBox w W cur dir) (up : St) :
    VBox w ((W.setCell ⟨w.heap.size, 0, none⟩ (.int .i64 up.1)).setCell ⟨w.heap.size, 1, none⟩ (.int .i64 up.2)) up dir :=
  ⟨box_set h.b, (heap_setCell_other _ _ _ _ (by dsimp only; omega)).trans ((heap_setCell_other _ _ _ _ (by dsimp only; omega)).trans h.c),
    (h.low.setCell (Nat.le_refl _) _).setCell (Nat.le_refl _) _⟩

set_option maxRecDepth 100000 in
set_option maxHeartbeats 1600000 in
theorem under_code (a : Addr) (S : Nat → Prop) (g : Gr) (id dir : St) (w : World) (h : GIn w S a g) (hg : g.ok) :
    Calls Tryz.prog 150 #[.pointer (some a), .agg (stA id), .agg (stA dir)] w fun e w' => e = .returned (.bool (underG g id dir)) ∧ Below w.heap.size w w' := by
  obtain ⟨f, hf⟩ := hg.rank
  have HP : Hid (∀ (x : St) (W : World), Below w.heap.size w W → Calls Tryz.prog 19 #[.pointer (some a), .agg #[.int .i64 x.1, .int .i64 x.2]] W fun e w' => e = .returned (.tuple #[.agg #[.int .i64 ((parentG g x).getD (0, 0)).1, .int .i64 ((parentG g x).getD (0, 0)).2], .bool (parentG g x).isSome]) ∧ Below W.heap.size W w') := fun x W hW =>
    parent_code a S g x W (h.keep fun i hi => hW.block i (h.lt i hi)) hg
  have HUp : Hid (∀ x p, parentG g x = some p → f p < f x) := fun x p hp => rank_up hf hp
  have HSt : Hid (∀ x p, parentG g x = some p → x ≠ dir → underG g x dir = underG g p dir) := fun x p hp hq => hg.under_step hp hq
  have HEnd : Hid (∀ x, parentG g x = none → x ≠ dir → underG g x dir = false) := fun x hp hq => under_end hq hp
  obtain ⟨b0, rfl⟩ : ∃ b0, a = ⟨b0, 0, none⟩ := by obtain ⟨b, _, _, rfl, _⟩ := h; exact ⟨b, rfl⟩
  clear h hf
  have hb0 : VBox w ((w.alloc (.cells #[.int .i64 id.1, .int .i64 id.2] 24)).alloc (.cells #[.int .i64 dir.1, .int .i64 dir.2] 24)) id dir :=
    ⟨heap_alloc2_old w _ _, heap_alloc2_new w _ _, ((Below.refl _ _).alloc (Nat.le_refl _) _).alloc (by simp) _⟩
  unfold stA
  go_enter Tryz.func150, Tryz.ntmps150
  go_wp2_with fail
  go_loopg [7] (f id + 2) (fun gk u wr => ∃ (b : Bool) (cur : St), u = .bool b ∧ gk = (if b = true then f cur + 2 else 1) ∧ Hid (if b = true then underG g cur dir = underG g id dir else underG g id dir = false) ∧ VBox w wr cur dir)
  case atStart => exact ⟨true, id, rfl, rfl, rfl, hb0⟩
  case round =>
    obtain ⟨b, cur, rfl, hgk, hun, hH⟩ := hrel
    clear hb0
    cases b with
    | false =>
      have HU : Hid (underG g id dir = false) := hun.out
      clear hun hgk
      go_wp2_with fail
      go_ret
      exact ⟨by rw [HU.out]; rfl, hH.low⟩
    | true =>
      have hgk' : gk = f cur + 2 := hgk
      have HU : Hid (underG g cur dir = underG g id dir) := hun.out
      clear hun hgk
      obtain ⟨c3, c4⟩ := two_cells hH.b
      obtain ⟨c5, c6⟩ := two_cells hH.c
      obtain ⟨f0, f1⟩ := two_free hH.b
      by_cases hq : cur = dir
      · have hv := eqSt_yes hq
        have HT : Hid (underG g id dir = true) := by rw [← HU.out, hq]; exact under_here g dir
        subst hq
        go_wp2_with fail
        go_ret
        exact ⟨by rw [HT.out]; rfl, hH.low⟩
      · have hv := eqSt_no hq
        have HPc := Lib.hid (HP.out cur)
        cases hpar : parentG g cur with
        | none =>
          have HF : Hid (underG g id dir = false) := by rw [← HU.out]; exact HEnd.out cur hpar hq
          rw [hpar] at HPc
          have HQ : Hid (∀ (W : World), Below w.heap.size w W → Calls Tryz.prog 19 #[.pointer (some ⟨b0, 0, none⟩), .agg #[.int .i64 cur.1, .int .i64 cur.2]] W fun e w' => e = .returned (.tuple #[.agg #[.int .i64 0, .int .i64 0], .bool false]) ∧ Below W.heap.size W w') := HPc
          clear HPc hpar HU hq
          go_wp2_with fail
          refine (HQ.out _ hH.low).mono ?_
          rintro e w1 ⟨rfl, hb1⟩
          have hH1 := hH.step hb1
          clear hH hb1 c3 c4 c5 c6 f0 f1 hv
          obtain ⟨c3, c4⟩ := two_cells hH1.b
          obtain ⟨f0, f1⟩ := two_free hH1.b
          go_wp2_with fail
          go_roundg 1
          case measure => omega
          case rel => exact ⟨false, (0, 0), rfl, rfl, HF.out, hH1.set (0, 0)⟩
        | some up =>
          have HS : Hid (underG g up dir = underG g id dir) := by rw [← HU.out]; exact (HSt.out cur up hpar hq).symm
          have hr := HUp.out cur up hpar
          rw [hpar] at HPc
          have HQ : Hid (∀ (W : World), Below w.heap.size w W → Calls Tryz.prog 19 #[.pointer (some ⟨b0, 0, none⟩), .agg #[.int .i64 cur.1, .int .i64 cur.2]] W fun e w' => e = .returned (.tuple #[.agg #[.int .i64 up.1, .int .i64 up.2], .bool true]) ∧ Below W.heap.size W w') := HPc
          clear HPc hpar HU hq
          go_wp2_with fail
          refine (HQ.out _ hH.low).mono ?_
          rintro e w1 ⟨rfl, hb1⟩
          have hH1 := hH.step hb1
          clear hH hb1 c3 c4 c5 c6 f0 f1 hv
          obtain ⟨c3, c4⟩ := two_cells hH1.b
          obtain ⟨f0, f1⟩ := two_free hH1.b
          go_wp2_with fail
          go_roundg (f up + 2)
          case measure => omega
          case rel => exact ⟨true, up, rfl, rfl, HS.out, hH1.set up⟩

end Go.Proofs.YtbkijfhfjhpebaaGreatDoor

/-
  The walk of op's Name.
-/
namespace Go.Proofs.YtbkijfhfjhpebaaGreatDoor
open Go.RowKit OpMath

set_option maxRecDepth 100000 in
theorem code_index (s : ByteArray) (c : Int) (w : World) :
    Calls Tryz.prog 55 #[.string s, .int .u8 c] w fun e w' => e = .returned (.int .i64 (Lib.indexByte s.data.toList c.toNat.toUInt8)) ∧ w = w' := by
  go_enter Tryz.func55, Tryz.ntmps55
  go_wp2
  rw [run_callFunc_extern Tryz.func78 (by kernel_rfl) (by kernel_rfl) (by kernel_rfl) (e := Extern.BytealgIndexByte.indexByte) (by kernel_rfl), Lib.run_indexByteString]
  simp only [Result.andThen]
  rw [Oper.upon_value]
  go_wp2
  go_ret
  exact ⟨rfl, rfl⟩

theorem code_index2 (s : ByteArray) (c : Int) (w : World) :
    Calls Tryz.prog 35 #[.string s, .int .u8 c] w fun e w' => e = .returned (.int .i64 (Lib.indexByte s.data.toList c.toNat.toUInt8)) ∧ w = w' := by
  go_enter Tryz.func35, Tryz.ntmps35
  go_wp2_with fail
  refine (code_index _ _ _).mono ?_
  rintro e w' ⟨rfl, rfl⟩
  go_wp2_with fail
  go_ret
  exact ⟨rfl, rfl⟩

theorem index_any (l : List UInt8) (c : UInt8) : decide (0 ≤ Lib.indexByte l c) = l.any (· == c) := by
  induction l with
  | nil => rfl
  | cons b l ih =>
    unfold Lib.indexByte
    rw [List.any_cons]
    by_cases hb : (b == c) = true
    · rw [if_pos hb, hb]; rfl
    · rw [if_neg hb, Bool.eq_false_iff.2 hb, Bool.false_or, ← ih]
      have hge := Lib.indexByte_ge l c
      by_cases h : (Lib.indexByte l c == -1) = true
      · rw [if_pos h]
        rw [beq_iff_eq.1 h]
      · rw [if_neg h]
        have hne : Lib.indexByte l c ≠ -1 := fun e => h (by rw [e]; rfl)
        rw [decide_eq_decide]
        omega

theorem hasByte_any (s : ByteArray) (c : Int) (w : World) :
    Calls Tryz.prog 114 #[.string s, .int .u8 c] w fun e w' => e = .returned (.bool (hasB s c.toNat.toUInt8)) ∧ w = w' := by
  go_enter Tryz.func114, Tryz.ntmps114
  go_wp2_with fail
  refine (code_index2 _ _ _).mono ?_
  rintro e w' ⟨rfl, rfl⟩
  go_wp2_with fail
  go_ret
  exact ⟨congrArg (fun b => Ending.returned (.bool b)) (index_any s.data.toList c.toNat.toUInt8), rfl⟩

theorem name_any (s : ByteArray) (hs : s.size ≤ maxLen) (w : World) :
    Calls Tryz.prog 112 #[.string s] w fun e w' => e = .returned (.bool (nameB s)) ∧ w = w' := by
  have hs' : s.size ≤ 9223372036854775807 := by unfold maxLen at hs; omega
  clear hs
  have HZ : Hid (∀ W : World, Calls Tryz.prog 114 #[.string s, .int .u8 0] W fun e w' => e = .returned (.bool (hasB s 0)) ∧ W = w') := fun W => hasByte_any s 0 W
  have HL : Hid (∀ W : World, Calls Tryz.prog 114 #[.string s, .int .u8 47] W fun e w' => e = .returned (.bool (hasB s 47)) ∧ W = w') := fun W => hasByte_any s 47 W
  have HN : Hid (nameB s = (decide (1 ≤ s.size) && decide (s.size ≤ 8) && !(s.toList == [46]) && !(s.toList == [46, 46]) && !hasB s 47 && !hasB s 0)) := rfl
  generalize hasB s 0 = z at HZ HN
  generalize hasB s 47 = l at HL HN
  by_cases h1 : (s.toList == [46]) = true
  · have H1 := Lib.hid h1
    go_enter Tryz.func112, Tryz.ntmps112
    go_wp2_with fail
    go_ret
    exact ⟨by rw [HN.out, H1.out]; simp, rfl⟩
  · have h1 : (s.toList == [46]) = false := by simpa using h1
    by_cases h2 : (s.toList == [46, 46]) = true
    · have H2 := Lib.hid h2
      go_enter Tryz.func112, Tryz.ntmps112
      go_wp2_with fail
      go_ret
      exact ⟨by rw [HN.out, H2.out]; simp, rfl⟩
    · have h2 : (s.toList == [46, 46]) = false := by simpa using h2
      have H1 := Lib.hid h1
      have H2 := Lib.hid h2
      cases z
      · cases l
        · by_cases h3 : 1 ≤ s.size
          · by_cases h4 : s.size ≤ 8
            · have H3 := Lib.hid (show decide (1 ≤ s.size) = true by simpa using h3)
              have H4 := Lib.hid (show decide (s.size ≤ 8) = true by simpa using h4)
              have d4 : decide ((s.size : Int) ≤ 8) = true := by simp; omega
              clear h4
              go_enter Tryz.func112, Tryz.ntmps112
              go_wp2_with fail
              refine (HZ.out _).mono ?_
              rintro e w' ⟨rfl, rfl⟩
              go_wp2_with fail
              refine (HL.out _).mono ?_
              rintro e w' ⟨rfl, rfl⟩
              go_wp2_with fail
              go_ret
              exact ⟨by rw [HN.out, H1.out, H2.out, H3.out, H4.out]; rfl, rfl⟩
            · have d4 : decide ((s.size : Int) ≤ 8) = false := by simp; omega
              have H3 := Lib.hid (show decide (1 ≤ s.size) = true by simpa using h3)
              have H4 := Lib.hid (show decide (s.size ≤ 8) = false by simpa using h4)
              clear h4
              go_enter Tryz.func112, Tryz.ntmps112
              go_wp2_with fail
              refine (HZ.out _).mono ?_
              rintro e w' ⟨rfl, rfl⟩
              go_wp2_with fail
              refine (HL.out _).mono ?_
              rintro e w' ⟨rfl, rfl⟩
              go_wp2_with fail
              go_ret
              exact ⟨by rw [HN.out, H3.out, H4.out]; rfl, rfl⟩
          · have d3 : decide (1 ≤ (s.size : Int)) = false := by simp; omega
            have H3 := Lib.hid (show decide (1 ≤ s.size) = false by simpa using h3)
            clear h3
            go_enter Tryz.func112, Tryz.ntmps112
            go_wp2_with fail
            refine (HZ.out _).mono ?_
            rintro e w' ⟨rfl, rfl⟩
            go_wp2_with fail
            refine (HL.out _).mono ?_
            rintro e w' ⟨rfl, rfl⟩
            go_wp2_with fail
            go_ret
            exact ⟨by rw [HN.out, H3.out]; rfl, rfl⟩
        · go_enter Tryz.func112, Tryz.ntmps112
          go_wp2_with fail
          refine (HZ.out _).mono ?_
          rintro e w' ⟨rfl, rfl⟩
          go_wp2_with fail
          refine (HL.out _).mono ?_
          rintro e w' ⟨rfl, rfl⟩
          go_wp2_with fail
          go_ret
          exact ⟨by rw [HN.out]; simp, rfl⟩
      · go_enter Tryz.func112, Tryz.ntmps112
        go_wp2_with fail
        refine (HZ.out _).mono ?_
        rintro e w' ⟨rfl, rfl⟩
        go_wp2_with fail
        go_ret
        exact ⟨by rw [HN.out]; simp, rfl⟩

end Go.Proofs.YtbkijfhfjhpebaaGreatDoor

/-
  The walks of op's has, and of kept.
-/
namespace Go.Proofs.YtbkijfhfjhpebaaGreatDoor
open Go.RowKit OpMath

/-- Has a kind a field? -/
def hasF (k f : Int) : Bool :=
  if f = 1 then decide (1 ≤ k ∧ k ≤ 7)
  else if f = 2 then decide (4 ≤ k ∧ k ≤ 10)
  else if f = 4 then decide (k = 7)
  else if f = 8 then decide (1 ≤ k ∧ k ≤ 7)
  else if f = 16 then decide (k = 7)
  else if f = 32 then decide (8 ≤ k ∧ k ≤ 10)
  else decide (k = 3 ∨ k = 8)

end Go.Proofs.YtbkijfhfjhpebaaGreatDoor

/-
  The landed graph's mayTie: why there can't be an entry.
-/
namespace Go.Proofs.YtbkijfhfjhpebaaGreatDoor
open Go.RowKit StampMath GraphMath OpMath

theorem leads_dir {g : Gr} (h : g.ok) {a b : St} (hl : Leads g a b) (ha : g.isDir a) : g.isDir b := by
  induction hl with
  | here => exact ha
  | up e d he _ _ ih => exact ih (h.dirs e he)

theorem why_asked {g : Gr} (h : g.ok) {dir ino : St} {nm : ByteArray} {A X : Ino} (hA : getG g dir = some A) (hX : getG g ino = some X) :
    whyG true g ⟨dir, nm, ino⟩ = if A.kind ≠ 1 then 6 else if (lookE g.E dir nm).isSome then 4 else if ino = (0, 0) ∨ underG g dir ino = true then 8 else if fullB X = true then 12 else 0 := by
  unfold whyG
  rw [if_neg (by simp)]
  simp only [hA, hX]
  by_cases hk : A.kind = 1
  · have hk' : ¬ A.kind ≠ 1 := fun q => q hk
    rw [if_neg hk', if_neg hk']
    have hdir := getDir_of hA hk
    have hkind : ino = (0, 0) ∨ underG g dir ino = true → X.kind = 1 := by
      rintro (hz | hu)
      · obtain ⟨y, hy, hyi, hyk⟩ := h.root
        rw [hz, ← hyi, h.get hy] at hX
        injection hX with hX
        rw [← hX]
        exact hyk
      · obtain ⟨x, hx, hxk⟩ := h.getDir (leads_dir h (h.leads.1 hu) hdir)
        rw [hX] at hx
        injection hx with hx
        rw [hx]
        exact hxk
    by_cases hl : (lookE g.E dir nm).isSome = true
    · rw [if_pos hl, if_pos hl]
    · rw [if_neg hl, if_neg hl]
      by_cases hu : ino = (0, 0) ∨ underG g dir ino = true
      · rw [if_pos ⟨hkind hu, hu⟩, if_pos hu]
      · rw [if_neg fun q => hu q.2, if_neg hu]
        have hf : (X.kind = 1 ∧ 0 < X.links ∨ 6 ≤ X.links) ↔ fullB X = true := by
          unfold fullB
          by_cases hx : X.kind = 1
          · rw [if_pos hx, decide_eq_true_iff]; omega
          · rw [if_neg hx, decide_eq_true_iff]; omega
        by_cases hq : X.kind = 1 ∧ 0 < X.links ∨ 6 ≤ X.links
        · rw [if_pos hq, if_pos (hf.1 hq)]
        · rw [if_neg hq, if_neg fun r => hq (hf.2 r)]
  · rw [if_pos hk, if_pos hk]

theorem why_none {g : Gr} {dir ino : St} {nm : ByteArray} (h : (getG g dir).isSome = false ∨ (getG g ino).isSome = false) : whyG true g ⟨dir, nm, ino⟩ = 3 := by
  unfold whyG
  rw [if_neg (by simp)]
  cases h1 : getG g dir with
  | none => simp
  | some p =>
    cases h2 : getG g ino with
    | none => simp
    | some q => rw [h1, h2] at h; simp at h

set_option maxRecDepth 100000 in
set_option maxHeartbeats 4000000 in
theorem mayTie_code (a : Addr) (S : Nat → Prop) (g : Gr) (x : Ent) (w : World) (h : GIn w S a g) (hg : g.ok) (hsz : x.name.size ≤ maxLen) :
    Calls Tryz.prog 127 #[.pointer (some a), .agg (entA x)] w fun e w' => e = .returned (.int .i64 (whyG (nameB x.name) g x)) ∧ Below w.heap.size w w' := by
  obtain ⟨b, hb⟩ : ∃ b, b = nameB x.name := ⟨_, rfl⟩
  have HN : Hid (∀ W : World, Calls Tryz.prog 112 #[.string x.name] W fun e w' => e = .returned (.bool b) ∧ W = w') := fun W => by rw [hb]; exact name_any _ hsz W
  rw [← hb]
  clear hb hsz
  have HGet : Hid (∀ (id : St) (W : World), Below w.heap.size w W → Calls Tryz.prog 12 #[.pointer (some a), .agg #[.int .i64 id.1, .int .i64 id.2]] W fun e w' => e = .returned (.tuple #[.agg (inoA ((getG g id).getD noIno)), .bool (getG g id).isSome]) ∧ Below W.heap.size W w') := fun id W hW => get_code a S g id W (h.keep fun i hi => hW.block i (h.lt i hi)) hg
  have HLk : Hid (∀ W : World, Below w.heap.size w W → Calls Tryz.prog 15 #[.pointer (some a), .agg #[.int .i64 x.dir.1, .int .i64 x.dir.2], .string x.name] W fun e w' => e = .returned (.tuple #[.agg (stA ((lookE g.E x.dir x.name).getD (0, 0))), .bool (lookE g.E x.dir x.name).isSome]) ∧ Below W.heap.size W w') := fun W hW => look_code a S g x.dir x.name W (h.keep fun i hi => hW.block i (h.lt i hi))
  have HUn : Hid (∀ W : World, Below w.heap.size w W → Calls Tryz.prog 150 #[.pointer (some a), .agg #[.int .i64 x.dir.1, .int .i64 x.dir.2], .agg #[.int .i64 x.ino.1, .int .i64 x.ino.2]] W fun e w' => e = .returned (.bool (underG g x.dir x.ino)) ∧ Below W.heap.size W w') := fun W hW => under_code a S g x.dir x.ino W (h.keep fun i hi => hW.block i (h.lt i hi)) hg
  have HRt : Hid (∀ W : World, Calls Tryz.prog 36 #[] W fun e w' => e = .returned (.agg #[.int .i64 0, .int .i64 0]) ∧ Below W.heap.size W w') := root_any
  clear h
  obtain ⟨dir, nm, ino⟩ := x
  have hb0 : Below w.heap.size w (w.alloc (.cells (entA ⟨dir, nm, ino⟩) 70)) := (Below.refl _ _).alloc (Nat.le_refl _) _
  have he0 := heap_alloc_new w (.cells (entA ⟨dir, nm, ino⟩) 70)
  unfold entA
  cases b with
  | false =>
    have hw : Hid (whyG false g ⟨dir, nm, ino⟩ = 1) := by unfold whyG; exact if_pos rfl
    go_enter Tryz.func127, Tryz.ntmps127
    go_wp2_with fail
    refine (HN.out _).mono ?_
    rintro e w1 ⟨rfl, rfl⟩
    go_wp2_with fail
    go_ret
    exact ⟨by rw [hw.out]; rfl, hb0⟩
  | true =>
    go_enter Tryz.func127, Tryz.ntmps127
    go_wp2_with fail
    refine (HN.out _).mono ?_
    rintro e w1 ⟨rfl, rfl⟩
    have hW0 : ∃ W0, W0 = w.alloc (.cells (entA ⟨dir, nm, ino⟩) 70) := ⟨_, rfl⟩
    obtain ⟨W0, hW0⟩ := hW0
    have hW0' : w.alloc (.cells #[.int .i64 dir.1, .int .i64 dir.2, .string nm, .int .i64 ino.1, .int .i64 ino.2] 70) = W0 := hW0.symm
    rw [hW0']
    rw [← hW0] at he0 hb0
    clear hW0 hW0'
    obtain ⟨A, hA⟩ : ∃ A, A = (getG g dir).getD noIno := ⟨_, rfl⟩
    obtain ⟨ia, hia⟩ : ∃ ia, ia = (getG g dir).isSome := ⟨_, rfl⟩
    obtain ⟨X, hX⟩ : ∃ X, X = (getG g ino).getD noIno := ⟨_, rfl⟩
    obtain ⟨ix, hix⟩ : ∃ ix, ix = (getG g ino).isSome := ⟨_, rfl⟩
    have HA : Hid (∀ W : World, Below w.heap.size w W → Calls Tryz.prog 12 #[.pointer (some a), .agg #[.int .i64 dir.1, .int .i64 dir.2]] W fun e w' => e = .returned (.tuple #[.agg #[.int .i64 A.id.1, .int .i64 A.id.2, .int .i64 A.kind, .int .i64 A.links, .int .i64 A.mode, .string A.data], .bool ia]) ∧ Below W.heap.size W w') := by rw [hA, hia]; exact HGet.out dir
    have HX : Hid (∀ W : World, Below w.heap.size w W → Calls Tryz.prog 12 #[.pointer (some a), .agg #[.int .i64 ino.1, .int .i64 ino.2]] W fun e w' => e = .returned (.tuple #[.agg #[.int .i64 X.id.1, .int .i64 X.id.2, .int .i64 X.kind, .int .i64 X.links, .int .i64 X.mode, .string X.data], .bool ix]) ∧ Below W.heap.size W w') := by rw [hX, hix]; exact HGet.out ino
    have HFl : Hid (∀ W : World, Calls Tryz.prog 152 #[.agg #[.int .i64 X.id.1, .int .i64 X.id.2, .int .i64 X.kind, .int .i64 X.links, .int .i64 X.mode, .string X.data]] W fun e w' => e = .returned (.bool (fullB X)) ∧ Below W.heap.size W w') := fun W => full_code X W
    have HNo : Hid (ia = false ∨ ix = false → whyG true g ⟨dir, nm, ino⟩ = 3) := fun q => why_none (by rw [← hia, ← hix]; exact q)
    have HWh : Hid (ia = true → ix = true → whyG true g ⟨dir, nm, ino⟩ = if A.kind ≠ 1 then 6 else if (lookE g.E dir nm).isSome then 4 else if ino = (0, 0) ∨ underG g dir ino = true then 8 else if fullB X = true then 12 else 0) := fun q1 q2 => by
      rw [hia] at q1
      rw [hix] at q2
      refine why_asked hg ?_ ?_
      · rw [hA]
        cases h2 : getG g dir with
        | none => rw [h2] at q1; cases q1
        | some _ => rfl
      · rw [hX]
        cases h2 : getG g ino with
        | none => rw [h2] at q2; cases q2
        | some _ => rfl
    clear hA hia hX hix HGet
    obtain ⟨e0, e1, e2, e3, e4⟩ := ent_cells he0
    go_wp2_with fail
    refine (HA.out _ hb0).mono ?_
    rintro e w1 ⟨rfl, hb1⟩
    go_upto_region 4 with fail
    change Code.wp _ _ _ _ (w1.alloc (.cells (inoA A) 32))
    obtain ⟨u1, hu1⟩ : ∃ u, u = w1.heap.size := ⟨_, rfl⟩
    have hq0 := (hb1.block _ (heap_lt he0)).trans he0
    have hlow1 : w.heap.size < u1 := by rw [hu1]; exact heap_lt hq0
    have r0 := (heap_alloc_old w1 (.cells (inoA A) 32) (by omega)).trans hq0
    have r1 : (w1.alloc (.cells (inoA A) 32)).heap[u1]? = some (.cells (inoA A) 32 (0, 0)) := by rw [hu1]; exact heap_alloc_new _ _
    have hb2 := (below_step hb0 hb1).alloc (below_step hb0 hb1).size (.cells (inoA A) 32)
    rw [← hu1]
    generalize w1.alloc (.cells (inoA A) 32) = w2 at r0 r1 hb2 ⊢
    clear hq0 hb0 hb1 hu1 he0 e0 e1 e2 e3 e4
    obtain ⟨e0, e1, e2, e3, e4⟩ := ent_cells r0
    go_wp2_with fail
    refine (HX.out _ hb2).mono ?_
    rintro e w3 ⟨rfl, hb3⟩
    go_upto_region 5 with fail
    change Code.wp _ _ _ _ (w3.alloc (.cells (inoA X) 32))
    obtain ⟨u2, hu2⟩ : ∃ u, u = w3.heap.size := ⟨_, rfl⟩
    have q0 := (hb3.block _ (heap_lt r0)).trans r0
    have q1 := (hb3.block _ (heap_lt r1)).trans r1
    have hlow2 : u1 < u2 := by rw [hu2]; exact heap_lt q1
    have s0 := (heap_alloc_old w3 (.cells (inoA X) 32) (by omega)).trans q0
    have s1 := (heap_alloc_old w3 (.cells (inoA X) 32) (by omega)).trans q1
    have s2 : (w3.alloc (.cells (inoA X) 32)).heap[u2]? = some (.cells (inoA X) 32 (0, 0)) := by rw [hu2]; exact heap_alloc_new _ _
    have hb4 := (below_step hb2 hb3).alloc (below_step hb2 hb3).size (.cells (inoA X) 32)
    rw [← hu2]
    generalize w3.alloc (.cells (inoA X) 32) = w4 at s0 s1 s2 hb4 ⊢
    clear q0 q1 hb2 hb3 hu2 r0 r1 e0 e1 e2 e3 e4 HA HX
    obtain ⟨e0, e1, e2, e3, e4⟩ := ent_cells s0
    have a2 := (ino_cells s1).2.2.1
    have hcase : (ia = false ∨ (ia = true ∧ ix = false)) ∨ (ia = true ∧ ix = true) := by cases ia <;> cases ix <;> simp
    rcases hcase with hcase | ⟨rfl, rfl⟩
    · have hw : Hid (whyG true g ⟨dir, nm, ino⟩ = 3) := HNo.out (by rcases hcase with h | ⟨_, h⟩ <;> simp [h])
      rcases hcase with rfl | ⟨rfl, rfl⟩
      all_goals
        go_wp2_with fail
        go_ret
        exact ⟨by rw [hw.out]; rfl, hb4⟩
    · have hwhy := HWh.out rfl rfl
      by_cases hak : A.kind = 1
      · rw [if_neg (by simp [hak])] at hwhy
        have hak' : (A.kind != 1) = false := by simp [hak]
        obtain ⟨lk, hlk⟩ : ∃ lk, lk = (lookE g.E dir nm).isSome := ⟨_, rfl⟩
        obtain ⟨lv, hlv⟩ : ∃ lv, lv = (lookE g.E dir nm).getD (0, 0) := ⟨_, rfl⟩
        have HL : Hid (∀ W : World, Below w.heap.size w W → Calls Tryz.prog 15 #[.pointer (some a), .agg #[.int .i64 dir.1, .int .i64 dir.2], .string nm] W fun e w' => e = .returned (.tuple #[.agg #[.int .i64 lv.1, .int .i64 lv.2], .bool lk]) ∧ Below W.heap.size W w') := by rw [hlk, hlv]; exact HLk.out
        rw [← hlk] at hwhy
        have HW2 := Lib.hid hwhy
        clear hlk hlv hwhy HLk HWh HNo hak
        go_wp2_with fail
        refine (HL.out _ hb4).mono ?_
        rintro e w5 ⟨rfl, hb5⟩
        go_upto_region 10 with fail
        change Code.wp _ _ _ _ (w5.alloc (.cells #[.int .i64 lv.1, .int .i64 lv.2] 24))
        obtain ⟨u3, hu3⟩ : ∃ u, u = w5.heap.size := ⟨_, rfl⟩
        have q0 := (hb5.block _ (heap_lt s0)).trans s0
        have q2 := (hb5.block _ (heap_lt s2)).trans s2
        have hlow3 : u2 < u3 := by rw [hu3]; exact heap_lt q2
        have t0 := (heap_alloc_old w5 (.cells #[.int .i64 lv.1, .int .i64 lv.2] 24) (by omega)).trans q0
        have t2 := (heap_alloc_old w5 (.cells #[.int .i64 lv.1, .int .i64 lv.2] 24) (by omega)).trans q2
        have hb6 := (below_step hb4 hb5).alloc (below_step hb4 hb5).size (.cells #[.int .i64 lv.1, .int .i64 lv.2] 24)
        rw [← hu3]
        generalize w5.alloc (.cells #[.int .i64 lv.1, .int .i64 lv.2] 24) = w6 at t0 t2 hb6 ⊢
        clear q0 q2 hb4 hb5 hu3 s0 s1 s2 e0 e1 e2 e3 e4 a2 HL
        obtain ⟨e0, e1, e2, e3, e4⟩ := ent_cells t0
        cases lk with
        | true =>
          have hw : Hid (whyG true g ⟨dir, nm, ino⟩ = 4) := HW2.out.trans (if_pos rfl)
          go_wp2_with fail
          go_ret
          exact ⟨by rw [hw.out]; rfl, hb6⟩
        | false =>
          have hwhy3 : whyG true g ⟨dir, nm, ino⟩ = if ino = (0, 0) ∨ underG g dir ino = true then 8 else if fullB X = true then 12 else 0 := HW2.out.trans (if_neg (by simp))
          obtain ⟨un, hun⟩ : ∃ un, un = underG g dir ino := ⟨_, rfl⟩
          obtain ⟨fl, hfl⟩ : ∃ fl, fl = fullB X := ⟨_, rfl⟩
          have HU : Hid (∀ W : World, Below w.heap.size w W → Calls Tryz.prog 150 #[.pointer (some a), .agg #[.int .i64 dir.1, .int .i64 dir.2], .agg #[.int .i64 ino.1, .int .i64 ino.2]] W fun e w' => e = .returned (.bool un) ∧ Below W.heap.size W w') := by rw [hun]; exact HUn.out
          rw [← hun, ← hfl] at hwhy3
          rw [← hfl] at HFl
          have HW3 := Lib.hid hwhy3
          have HB6 := Lib.hid hb6
          have HT2 := Lib.hid t2
          have HT0 := Lib.hid t0
          have HRl : Hid (∀ y, Calls Tryz.prog 36 #[] (later w6 y) fun e w' => e = .returned (.agg #[.int .i64 0, .int .i64 0]) ∧ Below (later w6 y).heap.size (later w6 y) w') := fun y => HRt.out _
          have HUl : Hid (∀ y, Calls Tryz.prog 150 #[.pointer (some a), .agg #[.int .i64 dir.1, .int .i64 dir.2], .agg #[.int .i64 ino.1, .int .i64 ino.2]] (later w6 y) fun e w' => e = .returned (.bool un) ∧ Below (later w6 y).heap.size (later w6 y) w') := fun y => HU.out _ (below_step HB6.out (later_below w6 y))
          clear hun hfl hwhy3 HUn HW2 HU HRt
          by_cases hz : ino = (0, 0)
          · have hw : Hid (whyG true g ⟨dir, nm, ino⟩ = 8) := HW3.out.trans (if_pos (Or.inl hz))
            have hv : ∀ W : World, (Op.equalIn 10000 24 (.agg #[.int .i64 ino.1, .int .i64 ino.2]) (.agg #[.int .i64 0, .int .i64 0])).run Tryz.prog W = .ok true W := fun W => by rw [run_eqSt, decide_eq_true (show ((ino.1, ino.2) : St) = (0, 0) from hz)]
            clear hz
            have c0 := later_cell e0
            have c1 := later_cell e1
            have c3 := later_cell e3
            have c4 := later_cell e4
            clear e0 e1 e2 e3 e4
            go_upto_region 12 with fail
            refine wp_region_later (by kernel_rfl) (by kernel_rfl) ?_
            repeat (go_big_quiet_step (first | (with_reducible exact later_call (HRl.out _)) | (with_reducible exact later_call (HUl.out _))))
            refine wpQuiet_nil ?_
            intro _ hw'
            obtain ⟨y, rfl⟩ := hw'
            clear c0 c1 c3 c4
            go_wp2_with fail
            go_ret
            exact ⟨by rw [hw.out]; rfl, below_step HB6.out (later_below w6 y)⟩
          · have hv : ∀ W : World, (Op.equalIn 10000 24 (.agg #[.int .i64 ino.1, .int .i64 ino.2]) (.agg #[.int .i64 0, .int .i64 0])).run Tryz.prog W = .ok false W := fun W => by rw [run_eqSt, decide_eq_false (show ¬ ((ino.1, ino.2) : St) = (0, 0) from hz)]
            have hz' := Lib.hid hz
            clear hz
            cases un with
            | true =>
              have hw : Hid (whyG true g ⟨dir, nm, ino⟩ = 8) := HW3.out.trans (if_pos (Or.inr rfl))
              have c0 := later_cell e0
              have c1 := later_cell e1
              have c3 := later_cell e3
              have c4 := later_cell e4
              clear e0 e1 e2 e3 e4
              go_upto_region 12 with fail
              refine wp_region_later (by kernel_rfl) (by kernel_rfl) ?_
              repeat (go_big_quiet_step (first | (with_reducible exact later_call (HRl.out _)) | (with_reducible exact later_call (HUl.out _))))
              refine wpQuiet_nil ?_
              intro _ hw'
              obtain ⟨y, rfl⟩ := hw'
              clear c0 c1 c3 c4
              go_wp2_with fail
              go_ret
              exact ⟨by rw [hw.out]; rfl, below_step HB6.out (later_below w6 y)⟩
            | false =>
              have hwhy4 : Hid (whyG true g ⟨dir, nm, ino⟩ = if fl = true then 12 else 0) := HW3.out.trans (if_neg fun q => q.elim hz'.out (by simp))
              have c0 := later_cell e0
              have c1 := later_cell e1
              have c3 := later_cell e3
              have c4 := later_cell e4
              clear e0 e1 e2 e3 e4
              go_upto_region 12 with fail
              refine wp_region_later (by kernel_rfl) (by kernel_rfl) ?_
              repeat (go_big_quiet_step (first | (with_reducible exact later_call (HRl.out _)) | (with_reducible exact later_call (HUl.out _))))
              refine wpQuiet_nil ?_
              intro _ hw'
              obtain ⟨y, rfl⟩ := hw'
              clear c0 c1 c3 c4
              have hb9 := later_below w6 y
              have t2 := (hb9.block _ (heap_lt HT2.out)).trans HT2.out
              have hb10 := below_step HB6.out hb9
              obtain ⟨y0, y1, y2, y3, y4, y5⟩ := ino_cells t2
              clear t2 hb9
              cases fl with
              | true =>
                have hw : Hid (whyG true g ⟨dir, nm, ino⟩ = 12) := hwhy4.out.trans (if_pos rfl)
                go_wp2_with fail
                refine (HFl.out _).mono ?_
                rintro e w11 ⟨rfl, hb11⟩
                go_wp2_with fail
                go_ret
                exact ⟨by rw [hw.out]; rfl, below_step hb10 hb11⟩
              | false =>
                have hw : Hid (whyG true g ⟨dir, nm, ino⟩ = 0) := hwhy4.out.trans (if_neg (by simp))
                go_wp2_with fail
                refine (HFl.out _).mono ?_
                rintro e w11 ⟨rfl, hb11⟩
                go_wp2_with fail
                go_ret
                exact ⟨by rw [hw.out]; rfl, below_step hb10 hb11⟩
      · rw [if_pos hak] at hwhy
        have hw := Lib.hid hwhy
        have hak' : (A.kind != 1) = true := by simp [hak]
        clear hwhy hak
        go_wp2_with fail
        go_ret
        exact ⟨by rw [hw.out]; rfl, hb4⟩

end Go.Proofs.YtbkijfhfjhpebaaGreatDoor
