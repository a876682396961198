/-
  Two vectors held against each other, as the walk meets it.
-/
import Derived.Test.YtonpafakhbinmaaVecMath
import Derived.Test.YtonpafakhbinmaaRows
import Derived.Laws.StructEq
import Derived.ChangeKeysEq
namespace Go.Proofs.Ytonpafakhbinmaa
open Go.RowKit VecMath

theorem run_items (a b : Nat → Int) (W : World) : ∀ is : List Nat, (∀ i ∈ is, i < 8) → (Op.eqItems 9999 3 1 (arr a) (arr b) is).run Try.prog W = .ok (is.all fun i => a i == b i) W := by
  intro is
  induction is with
  | nil => intro _; simp [Op.eqItems]
  | cons i is ih =>
    intro h
    have hi : i < 8 := h i (List.mem_cons_self ..)
    have pa : ∀ v : Nat → Int, (part 3 (arr v) (i * 1)).run Try.prog W = .ok (.int .i64 (v i)) W := fun v => by
      rw [Nat.mul_one]
      unfold part
      simp [isAgg, run_underlying Try.underlying3, arr_at v hi]
    have pe : (Op.equalIn 9999 3 (.int .i64 (a i)) (.int .i64 (b i))).run Try.prog W = .ok (a i == b i) W := run_equalIn_int W 9998 3 .i64 .i64 _ _ Try.underlying3
    simp only [Op.eqItems, Sem.run_bind, pa, pe, Result.andThen_ok, List.all_cons]
    cases hb : (a i == b i)
    · simp
    · simp only [Bool.not_true, Bool.false_eq_true, if_false, Bool.true_and]
      exact ih fun j hj => h j (List.mem_cons_of_mem _ hj)

theorem int_info : ∃ i, Try.prog.info? 3 = some i := by
  have h : (Try.prog.info? 3).isSome = true := by kernel_rfl
  exact Option.isSome_iff_exists.1 h

theorem run_eqV (a b : Nat → Int) (W : World) : (Op.equalIn 10000 24 (.agg (arr a)) (.agg (arr b))).run Try.prog W = .ok (eqV a b) W := by
  obtain ⟨i, hi⟩ := int_info
  have hc : Try.prog.cellsOf 3 = 1 := by kernel_rfl
  rw [run_equalIn_array (P := Try.prog) (w := W) 9999 (arr a) (arr b) Try.underlying24 hi, hc]
  exact run_items a b W _ fun i hi => List.mem_range.1 hi

theorem run_eqA (a b : Nat → Int) (W : World) : (Op.equalIn 10000 22 (.agg (arr a)) (.agg (arr b))).run Try.prog W = .ok (eqV a b) W := by
  obtain ⟨i, hi⟩ := int_info
  have hc : Try.prog.cellsOf 3 = 1 := by kernel_rfl
  rw [run_equalIn_array (P := Try.prog) (w := W) 9999 (arr a) (arr b) Try.underlying22 hi, hc]
  exact run_items a b W _ fun i hi => List.mem_range.1 hi

theorem eqV_same (a : Nat → Int) : eqV a a = true := eqV_iff.2 fun _ _ => rfl

theorem run_eqV_same (a : Nat → Int) (W : World) : (Op.equalIn 10000 24 (.agg (arr a)) (.agg (arr a))).run Try.prog W = .ok true W := by
  rw [run_eqV, eqV_same]

end Go.Proofs.Ytonpafakhbinmaa
