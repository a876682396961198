/-
  What the statements of layer 3 need of the package's own functions; and the statements' head.
-/
import Derived.Test.YtgfgcfmifebnbaaStampMath
import Derived.Test.YtgfgcfmifebnbaaStampVals
import Derived.Test.YtgfgcfmifebnbaaPairs
import Derived.Test.YtgfgcfmifebnbaaRows
namespace Go.Proofs.Ytgfgcfmifebnbaa
open Go.RowKit StampMath PackMath

structure StampHave : Prop where
  may : ∀ (t r : Int) (w : World), Calls Try.prog 14 #[.agg #[.int .i64 t, .int .i64 r]] w fun e w' => e = .returned (.bool (mayB t r)) ∧ Below w.heap.size w w'
  compare : ∀ (t r t' r' : Int) (w : World), Calls Try.prog 16 #[.agg #[.int .i64 t, .int .i64 r], .agg #[.int .i64 t', .int .i64 r']] w fun e w' => e = .returned (.int .i64 (cmp t r t' r')) ∧ Below w.heap.size w w'
  next : ∀ (t r : Int) (w : World), Calls Try.prog 12 #[.int .i64 t, .int .i64 r] w fun e w' => e = .returned (nextV t r) ∧ Below w.heap.size w w'
  put : ∀ (t r : Int) (w : World), IsI64 t → IsI64 r → Calls Try.prog 18 #[.agg #[.int .i64 t, .int .i64 r]] w fun e w' => e = .returned (.string ⟨(putL t r).toArray⟩) ∧ Below w.heap.size w w'
  take : ∀ (s : ByteArray) (w : World), s.size ≤ 4000 → Calls Try.prog 10 #[.string s] w fun e w' => e = .returned (stampRes (stampL s.data.toList)) ∧ Below w.heap.size w w'

structure StampMaxHave : Prop where
  max : ∀ (A : Option Addr) (n c : Nat) (xs : List (Int × Int)) (w : World), n ≤ 4000 → n ≤ c → c ≤ maxLen → PairsIn w w.heap.size A n xs → Calls Try.prog 20 #[.slice A n c] w fun e w' => e = .returned (.agg #[.int .i64 (maxL xs).1, .int .i64 (maxL xs).2]) ∧ Below w.heap.size w w'

theorem next_4_2 : nextV 4 2 = .tuple #[.agg #[.int .i64 5, .int .i64 2], .int .i64 0] := by
  unfold nextV; rw [if_neg (by omega), if_neg (by omega)]; rfl
theorem cmp_shown : cmp 5 2 5 1 = 1 := by decide

set_option maxHeartbeats 400000 in
theorem StampHave.shown (H : StampHave) (w : World) :
    Calls Try.prog 9 #[] w fun e w' => e = .returned (.bool true) ∧ Below w.heap.size w w' := by
  have h1 := H.next 4 2
  rw [next_4_2] at h1
  have h2 := H.compare 5 2 5 1
  rw [cmp_shown] at h2
  have H1 := Lib.hid h1
  have H2 := Lib.hid h2
  clear h1 h2
  go_enter Try.func9, Try.ntmps9
  go_wp2_with fail
  refine (H1.out _).mono ?_
  rintro e w1 ⟨rfl, hb1⟩
  go_wp2_with fail
  refine (H2.out _).mono ?_
  rintro e w2 ⟨rfl, hb2⟩
  go_wp2_with fail
  go_ret
  exact ⟨rfl, below_step (hb1.alloc hb1.size _) hb2⟩

end Go.Proofs.Ytgfgcfmifebnbaa
