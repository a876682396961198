/-
  What the statements of layer 2 need of the package's own functions.
-/
import Derived.Test.YtckobhfomphcpaaCrcRef
import Derived.Deep.WholeRow
namespace Go.Proofs.Ytckobhfomphcpaa
open Go.RowKit CrcMath

/-- The table. -/
def tab : Array Value := Array.ofFn (n := 256) fun i => .int .u32 ((cstep8 i.val : Nat) : Int)

theorem tab_size : tab.size = 256 := by simp [tab]
theorem tab_at {j : Nat} (h : j < 256) : tab[j]? = some (.int .u32 ((cstep8 j : Nat) : Int)) := by simp [tab, h]
theorem tab_one : tab.all (·.oneCell') = true := by
  rw [Array.all_eq_true]
  intro i hi
  simp [tab, Value.oneCell']

theorem tab_info : (Try.prog.info? 67).map (fun i => (i.zero, i.size)) = some (some (.agg (Array.replicate 256 (.int .u32 0))), 256) := by kernel_rfl

theorem tab_zero : ∃ Z : Array Value, (∀ w, (zeroValue 67).run Try.prog w = .ok (.agg Z) w) ∧
    (∀ w : World, (storeCells ⟨w.heap.size, 0, none⟩ tab.toList 0).run Try.prog (w.alloc (.cells Z 67)) = .ok () (w.alloc (.cells tab 67))) := by
  obtain ⟨h1, h2⟩ := zero_of_info tab_info
  exact ⟨_, h1, fun w => run_storeCells_new w _ _ tab (by rw [h2, tab_size]) (by rw [tab_size, Array.size_replicate]) tab_one⟩

structure CrcHave : Prop where
  table : ∀ w : World, Calls Try.prog 38 #[] w fun e w' => e = .returned (.agg tab) ∧ Below w.heap.size w w'
  more : ∀ (c : Nat) (s : ByteArray) (w : World), c < 4294967296 → s.size ≤ 70000 → Calls Try.prog 34 #[.int .u32 c, .string s] w fun e w' => e = .returned (.int .u32 ((cmore c s.data.toList : Nat) : Int)) ∧ Below w.heap.size w w'
  of : ∀ (s : ByteArray) (w : World), s.size ≤ 70000 → Calls Try.prog 27 #[.string s] w fun e w' => e = .returned (.int .u32 ((cmore 0 s.data.toList : Nat) : Int)) ∧ Below w.heap.size w w'

end Go.Proofs.Ytckobhfomphcpaa
