/-
  The walks of the document's own disk.
-/
import Derived.Test.YtgbfgjhaglmklaaDiskMath
import Derived.Test.YtgbfgjhaglmklaaRows
import Derived.Test.YtgbfgjhaglmklaaHeld
import Derived.Deep.QuietTactic
import Derived.BigQuiet
import Derived.RegionTactic
import Derived.ChangeAlike
import Derived.Deep.LoopGhost
namespace Go.Proofs.Ytgbfgjhaglmklaa
open Go.RowKit DiskMath

set_option maxRecDepth 100000 in
set_option maxHeartbeats 800000 in
theorem refDiskNew (room : Int) (w : World) :
    Calls Try.prog 10 #[.int .i64 room] w fun e w' => e = .returned (.agg (dskA (newD room))) ∧ Below w.heap.size w w' := by
  by_cases h : room < 0
  · rw [show newD room = ⟨0, ⟨#[]⟩, ⟨#[]⟩, ⟨#[]⟩⟩ by unfold newD; rw [if_pos h]]
    go_enter Try.func10, Try.ntmps10
    go_wp2_with fail
    exact bodyPost_ret (v := .agg (dskA ⟨0, ⟨#[]⟩, ⟨#[]⟩, ⟨#[]⟩⟩)) (by simp [results, Try.results10, go_sem, dskA]) rfl ⟨rfl, (Below.refl _ _).alloc (Nat.le_refl _) _⟩
  · rw [show newD room = ⟨room, ⟨#[]⟩, ⟨#[]⟩, ⟨#[]⟩⟩ by unfold newD; rw [if_neg h]]
    go_enter Try.func10, Try.ntmps10
    go_wp2_with fail
    exact bodyPost_ret (v := .agg (dskA ⟨room, ⟨#[]⟩, ⟨#[]⟩, ⟨#[]⟩⟩)) (by simp [results, Try.results10, go_sem, dskA]) rfl ⟨rfl, (Below.refl _ _).alloc (Nat.le_refl _) _⟩

set_option maxRecDepth 100000 in
set_option maxHeartbeats 800000 in
theorem refDiskFree (x : Dsk) (h : x.ok) (w : World) :
    Calls Try.prog 27 #[.agg #[.int .i64 x.room, .string x.snap, .string x.safe, .string x.rest]] w fun e w' => e = .returned (.int .i64 x.free) ∧ Below w.heap.size w w' := by
  obtain ⟨h1, h2, h3⟩ := h
  have hf : x.room - (x.snap.size : Int) - (x.safe.size : Int) - (x.rest.size : Int) = x.free := rfl
  have b1 : 0 ≤ x.room - (x.snap.size : Int) - (x.safe.size : Int) - (x.rest.size : Int) := h3
  have HF := Lib.hid hf
  clear hf h3
  go_enter Try.func27, Try.ntmps27
  go_wp2_with fail
  go_ret
  exact ⟨by rw [← HF.out]; rfl, (Below.refl _ _).alloc (Nat.le_refl _) _⟩

set_option maxRecDepth 100000 in
set_option maxHeartbeats 800000 in
theorem refDiskSync (x : Dsk) (h : x.ok) (w : World) :
    Calls Try.prog 15 #[.agg #[.int .i64 x.room, .string x.snap, .string x.safe, .string x.rest]] w fun e w' => e = .returned (.agg (dskA (syncD x))) ∧ Below w.heap.size w w' := by
  obtain ⟨h1, h2, h3⟩ := h
  unfold Dsk.free at h3
  have hadd : ∀ W : World, (Op.stringOp .add x.safe x.rest).run Try.prog W = .ok (.string (x.safe ++ x.rest)) W := fun W => run_string_add_sum W _ _ (by omega)
  clear h1 h2 h3
  go_enter Try.func15, Try.ntmps15
  go_wp2_with fail
  exact bodyPost_ret (v := .agg (dskA (syncD x))) (by simp [results, Try.results15, go_sem, dskA, syncD]) rfl ⟨rfl, ((Below.refl _ _).alloc (Nat.le_refl _) _).alloc (by simp) _⟩

set_option maxRecDepth 100000 in
set_option maxHeartbeats 800000 in
theorem refDiskSwitch (x : Dsk) (s : ByteArray) (h : x.ok) (w : World) :
    Calls Try.prog 17 #[.agg #[.int .i64 x.room, .string x.snap, .string x.safe, .string x.rest], .string s] w fun e w' => e = .returned (.tuple #[.agg (dskA (swD x s)), .int .i64 (swE x s)]) ∧ Below w.heap.size w w' := by
  obtain ⟨h1, h2, h3⟩ := h
  clear h3
  by_cases h : x.room < (s.size : Int)
  · rw [show swD x s = x from if_pos h, show swE x s = 13 from if_pos h]
    go_enter Try.func17, Try.ntmps17
    go_wp2_with fail
    exact bodyPost_ret (v := .tuple #[.agg (dskA x), .int .i64 13]) (by simp [results, Try.results17, go_sem, dskA]) rfl ⟨rfl, ((Below.refl _ _).alloc (Nat.le_refl _) _).alloc (by simp) _⟩
  · rw [show swD x s = ⟨x.room, s, ⟨#[]⟩, ⟨#[]⟩⟩ from if_neg h, show swE x s = 0 from if_neg h]
    go_enter Try.func17, Try.ntmps17
    go_wp2_with fail
    exact bodyPost_ret (v := .tuple #[.agg (dskA ⟨x.room, s, ⟨#[]⟩, ⟨#[]⟩⟩), .int .i64 0]) (by simp [results, Try.results17, go_sem, dskA]) rfl ⟨rfl, ((Below.refl _ _).alloc (Nat.le_refl _) _).alloc (by simp) _⟩

/-- A disk's four cells. -/
theorem dsk_cells {w : World} {g : Nat} {x : Dsk} {T : TypeId} (h : w.heap[g]? = some (.cells (dskA x) T (0, 0))) :
    w.cell? ⟨g, 0, none⟩ = some (.int .i64 x.room) ∧ w.cell? ⟨g, 1, none⟩ = some (.string x.snap) ∧ w.cell? ⟨g, 2, none⟩ = some (.string x.safe) ∧ w.cell? ⟨g, 3, none⟩ = some (.string x.rest) :=
  ⟨cell_of_row _ _ 0 _ _ (0, 0) h, cell_of_row _ _ 1 _ _ (0, 0) h, cell_of_row _ _ 2 _ _ (0, 0) h, cell_of_row _ _ 3 _ _ (0, 0) h⟩

theorem dsk_free {w : World} {g : Nat} {x : Dsk} {T : TypeId} (h : w.heap[g]? = some (.cells (dskA x) T (0, 0))) :
    w.frozen? ⟨g, 0, none⟩ = false ∧ w.frozen? ⟨g, 1, none⟩ = false ∧ w.frozen? ⟨g, 2, none⟩ = false ∧ w.frozen? ⟨g, 3, none⟩ = false :=
  ⟨frozen_of_row _ _ 0 _ _ h, frozen_of_row _ _ 1 _ _ h, frozen_of_row _ _ 2 _ _ h, frozen_of_row _ _ 3 _ _ h⟩

set_option maxRecDepth 100000 in
set_option maxHeartbeats 800000 in
theorem refDiskAppend (x : Dsk) (s : ByteArray) (h : x.ok) (w : World) :
    Calls Try.prog 13 #[.agg #[.int .i64 x.room, .string x.snap, .string x.safe, .string x.rest], .string s] w fun e w' => e = .returned (.tuple #[.agg (dskA (appD x s)), .int .i64 (appE x s)]) ∧ Below w.heap.size w w' := by
  have HF : Hid (∀ W : World, Calls Try.prog 27 #[.agg #[.int .i64 x.room, .string x.snap, .string x.safe, .string x.rest]] W fun e w' => e = .returned (.int .i64 x.free) ∧ Below W.heap.size W w') := fun W => refDiskFree x h W
  obtain ⟨h1, h2, h3⟩ := h
  have hb1 : Held w [(w.heap.size + 1, .cells #[.int .i64 0, .string ⟨#[]⟩, .string ⟨#[]⟩, .string ⟨#[]⟩] 27), (w.heap.size, .cells (dskA x) 27)] ((w.alloc (.cells #[.int .i64 x.room, .string x.snap, .string x.safe, .string x.rest] 27)).alloc (.cells #[.int .i64 0, .string ⟨#[]⟩, .string ⟨#[]⟩, .string ⟨#[]⟩] 27)) := ((Held.refl w).alloc (.cells (dskA x) 27) rfl).alloc (.cells #[.int .i64 0, .string ⟨#[]⟩, .string ⟨#[]⟩, .string ⟨#[]⟩] 27) (by simp)
  by_cases h : x.free < (s.size : Int)
  · rw [show appD x s = x from if_pos h, show appE x s = 13 from if_pos h]
    go_enter Try.func13, Try.ntmps13
    go_wp2_with fail
    refine (HF.out _).mono ?_
    rintro e w1 ⟨rfl, hb⟩
    have HH := hb1.step hb
    obtain ⟨n0, n1, n2, n3⟩ := dsk_cells (HH.at 1 rfl)
    obtain ⟨f0, f1, f2, f3⟩ := dsk_free (x := ⟨0, ⟨#[]⟩, ⟨#[]⟩, ⟨#[]⟩⟩) (HH.at 0 rfl)
    obtain ⟨m0, m1, m2, m3⟩ := dsk_cells (x := ⟨0, ⟨#[]⟩, ⟨#[]⟩, ⟨#[]⟩⟩) (HH.at 0 rfl)
    have HB := Lib.hid HH.below
    clear hb hb1 HH
    go_wp2_with fail
    exact bodyPost_ret (v := .tuple #[.agg (dskA x), .int .i64 13]) (by simp [results, Try.results13, go_sem, dskA, m0, m1, m2, m3]) rfl ⟨rfl, (((HB.out.setCell (by simp) _).setCell (by simp) _).setCell (by simp) _).setCell (by simp) _⟩
  · rw [show appD x s = ⟨x.room, x.snap, x.safe, x.rest ++ s⟩ from if_neg h, show appE x s = 0 from if_neg h]
    have hle : x.rest.size + s.size ≤ 9223372036854775807 := by unfold Dsk.free at h h3; omega
    have hadd : ∀ W : World, (Op.stringOp .add x.rest s).run Try.prog W = .ok (.string (x.rest ++ s)) W := fun W => run_string_add_sum W _ _ hle
    clear hle h3
    go_enter Try.func13, Try.ntmps13
    go_wp2_with fail
    refine (HF.out _).mono ?_
    rintro e w1 ⟨rfl, hb⟩
    have HH := hb1.step hb
    obtain ⟨n0, n1, n2, n3⟩ := dsk_cells (HH.at 1 rfl)
    obtain ⟨g0, g1, g2, g3⟩ := dsk_free (HH.at 1 rfl)
    obtain ⟨f0, f1, f2, f3⟩ := dsk_free (x := ⟨0, ⟨#[]⟩, ⟨#[]⟩, ⟨#[]⟩⟩) (HH.at 0 rfl)
    obtain ⟨m0, m1, m2, m3⟩ := dsk_cells (x := ⟨0, ⟨#[]⟩, ⟨#[]⟩, ⟨#[]⟩⟩) (HH.at 0 rfl)
    have HB := Lib.hid HH.below
    clear hb hb1 HH
    go_wp2_with fail
    exact bodyPost_ret (v := .tuple #[.agg (dskA ⟨x.room, x.snap, x.safe, x.rest ++ s⟩), .int .i64 0]) (by simp [results, Try.results13, go_sem, dskA, m0, m1, m2, m3]) rfl ⟨rfl, ((((HB.out.setCell (Nat.le_refl _) _).setCell (by simp) _).setCell (by simp) _).setCell (by simp) _).setCell (by simp) _⟩

set_option maxRecDepth 100000 in
set_option maxHeartbeats 800000 in
theorem refDiskCrash (x : Dsk) (keep : Int) (h : x.ok) (w : World) :
    Calls Try.prog 19 #[.agg #[.int .i64 x.room, .string x.snap, .string x.safe, .string x.rest], .int .i64 keep] w fun e w' => e = .returned (.agg (dskA (crashD x keep))) ∧ Below w.heap.size w w' := by
  obtain ⟨h1, h2, h3⟩ := h
  have hle : x.safe.size + x.rest.size ≤ 9223372036854775807 := by unfold Dsk.free at h3; omega
  have hadd : ∀ k : Nat, k ≤ x.rest.size → ∀ W : World, (Op.stringOp .add x.safe (x.rest.extract 0 k)).run Try.prog W = .ok (.string (x.safe ++ x.rest.extract 0 k)) W := fun k hk W => run_string_add_sum W _ _ (by rw [ByteArray.size_extract]; omega)
  have hrs : (x.rest.size : Int) ≤ 9223372036854775807 := by omega
  have HA := Lib.hid hadd
  clear hadd h1 h2 h3 hle
  go_enter Try.func19, Try.ntmps19
  go_wp2_with fail
  go_loop [5] (fun i => ∃ k : Nat, i = .int .i64 (k : Int) ∧ k ≤ x.rest.size ∧ (k = 0 ∨ (k : Int) ≤ keep)) (fun i => x.rest.size - (intOf i).toNat)
  case atStart => exact ⟨0, rfl, by omega, Or.inl rfl⟩
  case round =>
    obtain ⟨k, rfl, hk, hk2⟩ := hrel
    by_cases hlt : k < x.rest.size ∧ (k : Int) < keep
    · obtain ⟨hl1, hl2⟩ := hlt
      have hl3 : (k : Int) < (x.rest.size : Int) := by omega
      clear hk2
      go_wp2_with fail
      exact ⟨⟨k + 1, by go_num, by omega, Or.inr (by omega)⟩, by simp [intOf]; omega⟩
    · have hcut : x.rest.extract 0 k = x.rest.extract 0 keep.toNat := cut_most x.rest k keep (by omega)
      have HC := Lib.hid hcut
      have hadd := HA.out k hk
      have hk0 : (0 : Int) ≤ (k : Int) := by omega
      have hk1 : (k : Int) ≤ (x.rest.size : Int) := by omega
      have hcase : ¬ (k : Int) < (x.rest.size : Int) ∨ ((k : Int) < (x.rest.size : Int) ∧ ¬ (k : Int) < keep) := by omega
      clear hlt hk2 hcut
      rcases hcase with hl | ⟨hl, hl2⟩
      all_goals
        go_wp2_with fail
        go_region
      all_goals
        go_wp2_with fail
        exact bodyPost_ret (v := .agg (dskA ⟨x.room, x.snap, x.safe ++ x.rest.extract 0 k, ⟨#[]⟩⟩)) (by simp [results, Try.results19, go_sem, dskA]) rfl ⟨by rw [HC.out]; rfl, (((Below.refl _ _).alloc (Nat.le_refl _) _).alloc (by simp) _).drew⟩

end Go.Proofs.Ytgbfgjhaglmklaa
