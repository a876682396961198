/-
  What the statements of layer 2 need of the package's own functions.
-/
import Derived.Test.YtonbdgliokhaaaaCrcRef
import Derived.Deep.WholeRow
namespace Go.Proofs.Ytonbdgliokhaaaa
open Go.RowKit CrcMath

/-- The table. -/
def tab : Array Value := Array.ofFn (n := 256) fun i => .int .u32 ((cstep8 i.val : Nat) : Int)

theorem tab_size : tab.size = 256 := by simp [tab]
theorem tab_at {j : Nat} (h : j < 256) : tab[j]? = some (.int .u32 ((cstep8 j : Nat) : Int)) := by simp [tab, h]
theorem tab_one : tab.all (·.oneCell') = true := by
  rw [Array.all_eq_true]
  intro i hi
  simp [tab, Value.oneCell']

theorem tab_info : (Try.prog.info? 24).map (fun i => (i.zero, i.size)) = some (some (.agg (Array.replicate 256 (.int .u32 0))), 256) := by kernel_rfl

theorem tab_zero : ∃ Z : Array Value, (∀ w, (zeroValue 24).run Try.prog w = .ok (.agg Z) w) ∧
    (∀ w : World, (storeCells ⟨w.heap.size, 0, none⟩ tab.toList 0).run Try.prog (w.alloc (.cells Z 24)) = .ok () (w.alloc (.cells tab 24))) := by
  obtain ⟨h1, h2⟩ := zero_of_info tab_info
  exact ⟨_, h1, fun w => run_storeCells_new w _ _ tab (by rw [h2, tab_size]) (by rw [tab_size, Array.size_replicate]) tab_one⟩

structure CrcHave : Prop where
  table : ∀ w : World, Calls Try.prog 9 #[] w fun e w' => e = .returned (.agg tab) ∧ Below w.heap.size w w'
  more : ∀ (c : Nat) (s : ByteArray) (w : World), c < 4294967296 → s.size ≤ 5000 → Calls Try.prog 12 #[.int .u32 c, .string s] w fun e w' => e = .returned (.int .u32 ((cmore c s.data.toList : Nat) : Int)) ∧ Below w.heap.size w w'
  of : ∀ (s : ByteArray) (w : World), s.size ≤ 5000 → Calls Try.prog 10 #[.string s] w fun e w' => e = .returned (.int .u32 ((cmore 0 s.data.toList : Nat) : Int)) ∧ Below w.heap.size w w'

theorem sum_shown : cmore 0 [49, 50, 51, 52, 53, 54, 55, 56, 57] = 3421780262 := by decide +kernel

set_option maxHeartbeats 400000 in
theorem CrcHave.shown (H : CrcHave) (w : World) :
    Calls Try.prog 8 #[] w fun e w' => e = .returned (.bool true) ∧ Below w.heap.size w w' := by
  have h := H.of ⟨#[49, 50, 51, 52, 53, 54, 55, 56, 57]⟩
  rw [sum_shown] at h
  have H2 := Lib.hid h
  clear h
  go_enter Try.func8, Try.ntmps8
  go_wp2_with fail
  refine (H2.out _ (by decide)).mono ?_
  rintro e w1 ⟨rfl, hb1⟩
  go_wp2_with fail
  go_ret
  exact ⟨rfl, hb1⟩

end Go.Proofs.Ytonbdgliokhaaaa
