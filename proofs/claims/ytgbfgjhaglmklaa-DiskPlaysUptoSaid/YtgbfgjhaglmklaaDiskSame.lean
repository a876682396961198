/-
  The walk of the statements' own same: a disk is as the document has it.
-/
import Derived.Test.YtgbfgjhaglmklaaDiskLaw
import Derived.Test.YtgbfgjhaglmklaaLater
import Derived.Deep.DeepCutAuto
namespace Go.Proofs.Ytgbfgjhaglmklaa
open Go.RowKit DiskMath PackMath

set_option maxRecDepth 100000 in
set_option maxHeartbeats 1600000 in
theorem same_any (H : DiskHave) (a : Addr) (S : Nat → Prop) (x : Dsk) (hok : x.ok) (hsz : x.safe.size + x.rest.size ≤ H.most) (w : World) (h : H.rep w S a x) :
    Calls Try.prog 20 #[.pointer (some a), .agg #[.int .i64 x.room, .string x.snap, .string x.safe, .string x.rest]] w fun e w' => e = .returned (.bool true) ∧ Below w.heap.size w w' := by
  have hadd : ∀ W : World, (Op.stringOp .add x.safe x.rest).run Try.prog W = .ok (.string (x.safe ++ x.rest)) W := fun W => run_string_add_sum W _ _ (Nat.le_trans hsz H.most_le)
  have hbx : Below w.heap.size w (w.alloc (.cells (dskA x) 27)) := (Below.refl _ _).alloc (Nat.le_refl _) _
  have hrep : ∀ y : World, H.rep (later (w.alloc (.cells (dskA x) 27)) y) S a x := fun y => H.keep h fun i hi => (below_step hbx (later_below _ y)).block i (H.lt h i hi)
  have hcell := dsk_cells (heap_alloc_new w (.cells (dskA x) 27))
  obtain ⟨W0, hW0⟩ : ∃ W0, W0 = w.alloc (.cells (dskA x) 27) := ⟨_, rfl⟩
  rw [← hW0] at hbx hrep hcell
  have hsafe : (x.safe.size : Int) ≤ 9223372036854775807 := by have := H.most_le; omega
  have C1 : Hid (∀ y : World, Calls Try.prog 22 #[.pointer (some a)] (later W0 y) fun e w' => e = .returned (.string x.snap) ∧ Below (later W0 y).heap.size (later W0 y) w') := fun y => H.snap a S x _ (hrep y) hok hsz
  have C2 : Hid (∀ y : World, Calls Try.prog 21 #[.pointer (some a)] (later W0 y) fun e w' => e = .returned (.string (x.safe ++ x.rest)) ∧ Below (later W0 y).heap.size (later W0 y) w') := fun y => H.log a S x _ (hrep y) hok hsz
  have C3 : Hid (∀ y : World, Calls Try.prog 23 #[.pointer (some a)] (later W0 y) fun e w' => e = .returned (.int .i64 (x.safe.size : Int)) ∧ Below (later W0 y).heap.size (later W0 y) w') := fun y => H.synced a S x _ (hrep y) hok hsz
  have C4 : Hid (∀ y : World, Calls Try.prog 24 #[.pointer (some a)] (later W0 y) fun e w' => e = .returned (.int .i64 x.free) ∧ Below (later W0 y).heap.size (later W0 y) w') := fun y => H.free a S x _ (hrep y) hok hsz
  have C5 : Hid (∀ y : World, Calls Try.prog 27 #[.agg #[.int .i64 x.room, .string x.snap, .string x.safe, .string x.rest]] (later W0 y) fun e w' => e = .returned (.int .i64 x.free) ∧ Below (later W0 y).heap.size (later W0 y) w') := fun y => refDiskFree x hok _
  have HK := Lib.hid hbx
  clear hrep hok hsz h hbx
  obtain ⟨l, hl⟩ : ∃ l, l = x.safe ++ x.rest := ⟨_, rfl⟩
  rw [← hl] at C2 hadd
  clear hl
  have HW := Lib.hid hW0
  go_enter Try.func20, Try.ntmps20
  go_upto_region 1 with (fail)
  change Code.wp _ _ _ _ (w.alloc (.cells (dskA x) 27))
  rw [← HW.out]
  obtain ⟨n0, n1, n2, n3⟩ := hcell
  have q0 := later_cell n0
  have q1 := later_cell n1
  have q2 := later_cell n2
  have q3 := later_cell n3
  clear n0 n1 n2 n3 hW0
  refine wp_region_later (by kernel_rfl) (by kernel_rfl) ?_
  repeat (go_big_quiet_step (first | (with_reducible exact later_call (C1.out _)) | (with_reducible exact later_call (C2.out _)) | (with_reducible exact later_call (C3.out _)) | (with_reducible exact later_call (C4.out _)) | (with_reducible exact later_call (C5.out _))))
  refine wpQuiet_nil ?_
  intro _ hw'
  obtain ⟨y, rfl⟩ := hw'
  go_wp2_with fail
  go_ret
  exact ⟨rfl, below_step HK.out (later_below _ _)⟩

end Go.Proofs.Ytgbfgjhaglmklaa
