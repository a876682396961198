/-
  The walks of the document's own Bare.
-/
import Derived.Test.YthcmgaibbpacfaaGreatDoorZ00
import Derived.Test.YthcmgaibbpacfaaGreatDoorRows
namespace Go.Proofs.YthcmgaibbpacfaaGreatDoor
open Go.RowKit OpMath

set_option maxRecDepth 100000 in
set_option maxHeartbeats 1600000 in
theorem refBare (o : Opn) (w : World) :
    Calls Tryz.prog 99 #[.agg #[.int .i64 o.st, .int .i64 o.sr, .int .i64 o.k, .int .i64 o.pt, .int .i64 o.pr, .int .i64 o.it, .int .i64 o.ir, .int .i64 o.tt, .int .i64 o.tr, .string o.name, .string o.new, .int .i64 o.off, .string o.data]] w fun e w' => e = .returned (.agg (opA (bareO o))) ∧ Below w.heap.size w w' := by
  have hcase : (o.k ≤ 2 ∧ (o.k == 7) = false ∧ (o.k == 3) = false ∧ (o.k == 8) = false) ∨ ((o.k == 3) = true ∧ (o.k == 7) = false ∧ o.k = 3) ∨ (4 ≤ o.k ∧ o.k ≤ 6 ∧ (o.k == 7) = false ∧ (o.k == 3) = false ∧ (o.k == 8) = false) ∨
      ((o.k == 7) = true ∧ (o.k == 3) = false ∧ (o.k == 8) = false ∧ o.k = 7) ∨ ((o.k == 7) = false ∧ (o.k == 3) = false ∧ (o.k == 8) = true ∧ o.k = 8) ∨ (9 ≤ o.k ∧ (o.k == 7) = false ∧ (o.k == 3) = false ∧ (o.k == 8) = false) := by
    simp only [beq_iff_eq, beq_eq_false_iff_ne]
    omega
  rcases hcase with ⟨h1, h2, h3, h4⟩ | ⟨h1, h2, h3⟩ | ⟨h1, h2, h3, h4, h5⟩ | ⟨h1, h2, h3, h4⟩ | ⟨h1, h2, h3, h4⟩ | ⟨h1, h2, h3, h4⟩
  · have HB : Hid (opA (bareO o) = #[.int .i64 o.st, .int .i64 o.sr, .int .i64 o.k, .int .i64 o.pt, .int .i64 o.pr, .int .i64 0, .int .i64 0, .int .i64 0, .int .i64 0, .string o.name, .string ⟨#[]⟩, .int .i64 0, .string ⟨#[]⟩]) := by
      show opA (bareO o) = _
      simp [opA, bareO, show o.k ≤ 7 by omega, show ¬ 4 ≤ o.k by omega, show ¬ o.k = 7 by omega, show ¬ 8 ≤ o.k by omega, show ¬ o.k = 3 by omega, show ¬ o.k = 8 by omega]
    go_enter Tryz.func99, Tryz.ntmps99
    go_wp2_with fail
    refine bodyPost_ret ?_ rfl ⟨by rw [HB.out], (((Below.refl _ _).alloc (Nat.le_refl _) _).alloc (by simp) _).alloc (by simp; omega) _⟩
    simp [results, Tryz.results99, go_sem]
  · have HB : Hid (opA (bareO o) = #[.int .i64 o.st, .int .i64 o.sr, .int .i64 o.k, .int .i64 o.pt, .int .i64 o.pr, .int .i64 0, .int .i64 0, .int .i64 0, .int .i64 0, .string o.name, .string ⟨#[]⟩, .int .i64 0, .string o.data]) := by
      show opA (bareO o) = _
      simp [opA, bareO, h3]
    have hu : o.k ≤ 3 := by omega
    have hl : 3 ≤ o.k := by omega
    clear h3
    go_enter Tryz.func99, Tryz.ntmps99
    go_wp2_with fail
    refine bodyPost_ret ?_ rfl ⟨by rw [HB.out], (((Below.refl _ _).alloc (Nat.le_refl _) _).alloc (by simp) _).alloc (by simp; omega) _⟩
    simp [results, Tryz.results99, go_sem]
  · have HB : Hid (opA (bareO o) = #[.int .i64 o.st, .int .i64 o.sr, .int .i64 o.k, .int .i64 o.pt, .int .i64 o.pr, .int .i64 o.it, .int .i64 o.ir, .int .i64 0, .int .i64 0, .string o.name, .string ⟨#[]⟩, .int .i64 0, .string ⟨#[]⟩]) := by
      show opA (bareO o) = _
      simp [opA, bareO, show o.k ≤ 7 by omega, show 4 ≤ o.k by omega, show ¬ o.k = 7 by omega, show ¬ 8 ≤ o.k by omega, show ¬ o.k = 3 by omega, show ¬ o.k = 8 by omega]
    go_enter Tryz.func99, Tryz.ntmps99
    go_wp2_with fail
    refine bodyPost_ret ?_ rfl ⟨by rw [HB.out], (((Below.refl _ _).alloc (Nat.le_refl _) _).alloc (by simp) _).alloc (by simp; omega) _⟩
    simp [results, Tryz.results99, go_sem]
  · have HB : Hid (opA (bareO o) = #[.int .i64 o.st, .int .i64 o.sr, .int .i64 o.k, .int .i64 o.pt, .int .i64 o.pr, .int .i64 o.it, .int .i64 o.ir, .int .i64 o.tt, .int .i64 o.tr, .string o.name, .string o.new, .int .i64 0, .string ⟨#[]⟩]) := by
      show opA (bareO o) = _
      simp [opA, bareO, h4]
    have hu : o.k ≤ 7 := by omega
    have hl : 7 ≤ o.k := by omega
    clear h4
    go_enter Tryz.func99, Tryz.ntmps99
    go_wp2_with fail
    refine bodyPost_ret ?_ rfl ⟨by rw [HB.out], (((Below.refl _ _).alloc (Nat.le_refl _) _).alloc (by simp) _).alloc (by simp; omega) _⟩
    simp [results, Tryz.results99, go_sem]
  · have HB : Hid (opA (bareO o) = #[.int .i64 o.st, .int .i64 o.sr, .int .i64 o.k, .int .i64 0, .int .i64 0, .int .i64 o.it, .int .i64 o.ir, .int .i64 0, .int .i64 0, .string ⟨#[]⟩, .string ⟨#[]⟩, .int .i64 o.off, .string o.data]) := by
      show opA (bareO o) = _
      simp [opA, bareO, h4]
    have hu : o.k ≤ 8 := by omega
    have hl : 8 ≤ o.k := by omega
    clear h4
    go_enter Tryz.func99, Tryz.ntmps99
    go_wp2_with fail
    refine bodyPost_ret ?_ rfl ⟨by rw [HB.out], (((Below.refl _ _).alloc (Nat.le_refl _) _).alloc (by simp) _).alloc (by simp; omega) _⟩
    simp [results, Tryz.results99, go_sem]
  · have HB : Hid (opA (bareO o) = #[.int .i64 o.st, .int .i64 o.sr, .int .i64 o.k, .int .i64 0, .int .i64 0, .int .i64 o.it, .int .i64 o.ir, .int .i64 0, .int .i64 0, .string ⟨#[]⟩, .string ⟨#[]⟩, .int .i64 o.off, .string ⟨#[]⟩]) := by
      show opA (bareO o) = _
      simp [opA, bareO, show ¬ o.k ≤ 7 by omega, show 4 ≤ o.k by omega, show ¬ o.k = 7 by omega, show 8 ≤ o.k by omega, show ¬ o.k = 3 by omega, show ¬ o.k = 8 by omega]
    go_enter Tryz.func99, Tryz.ntmps99
    go_wp2_with fail
    refine bodyPost_ret ?_ rfl ⟨by rw [HB.out], (((Below.refl _ _).alloc (Nat.le_refl _) _).alloc (by simp) _).alloc (by simp; omega) _⟩
    simp [results, Tryz.results99, go_sem]

end Go.Proofs.YthcmgaibbpacfaaGreatDoor
