/-
  The walks of the landed frame's own sum, Put, Take.
-/
import Derived.Test.YtckobhfomphcpaaFrameRef
import Derived.Test.YtckobhfomphcpaaPackTakeText
import Derived.Test.YtckobhfomphcpaaPackText
import Derived.Test.YtckobhfomphcpaaCrcCode
namespace Go.Proofs.Ytckobhfomphcpaa
open Go.RowKit FrameMath PackMath CrcMath

set_option maxRecDepth 100000 in
set_option maxHeartbeats 800000 in
theorem sum_code (s : ByteArray) (hs : s.size ≤ 70000) (w : World) :
    Calls Try.prog 19 #[.string s] w fun e w' => e = .returned (.string ⟨(be4 (cmore 0 s.data.toList)).toArray⟩) ∧ Below w.heap.size w w' := by
  have hO := fun W => crcHave.of s W hs
  have hlt := more_lt 0 s.data.toList
  obtain ⟨c, hc⟩ : ∃ c, c = cmore 0 s.data.toList := ⟨_, rfl⟩
  rw [← hc] at hO hlt ⊢
  have hc2 : (c : Int) ≤ 4294967295 := by omega
  have hcv := fun b W => conv_be4 b W c hc2
  have HO := Lib.hid hO
  clear hO hlt hc
  go_enter Try.func19, Try.ntmps19
  go_wp2_with fail
  refine (HO.out _).mono ?_
  rintro e w1 ⟨rfl, hb1⟩
  go_wp2_with fail
  go_ret
  exact ⟨rfl, hb1.alloc hb1.size _⟩

set_option maxRecDepth 100000 in
set_option maxHeartbeats 800000 in
theorem framePut_code (s : ByteArray) (hs : s.size ≤ 20000) (w : World) :
    Calls Try.prog 9 #[.string s] w fun e w' => e = .returned (.tuple #[.string ⟨(recL s.data.toList).toArray⟩, .int .i64 0]) ∧ Below w.heap.size w w' := by
  have hl : s.data.toList.length = s.size := by simp
  have hT : ∀ W : World, Calls Try.prog 18 #[.string s] W fun e w' => e = .returned (.string ⟨(textN s.data.toList).toArray⟩) ∧ Below W.heap.size W w' := fun W => by
    have h := text_any s (by omega) W
    unfold textN
    rw [hl]
    exact h
  have hn := (numL_length s.size).2
  have htl : (textN s.data.toList).length ≤ 20010 := by unfold textN; rw [List.length_append, hl]; omega
  have hO : ∀ W : World, Calls Try.prog 19 #[.string ⟨(textN s.data.toList).toArray⟩] W fun e w' => e = .returned (.string ⟨(be4 (cmore 0 (textN s.data.toList))).toArray⟩) ∧ Below W.heap.size W w' := fun W => sum_code ⟨(textN s.data.toList).toArray⟩ (by show (textN s.data.toList).length ≤ 70000; omega) W
  have hR : recL s.data.toList = textN s.data.toList ++ be4 (cmore 0 (textN s.data.toList)) := rfl
  rw [hR]
  obtain ⟨t, ht⟩ : ∃ t, t = textN s.data.toList := ⟨_, rfl⟩
  rw [← ht] at hT hO htl ⊢
  obtain ⟨q, hq⟩ : ∃ q, q = be4 (cmore 0 t) := ⟨_, rfl⟩
  have hql : q.length = 4 := by rw [hq]; rfl
  rw [← hq] at hO ⊢
  have hadd : ∀ W : World, (Op.stringOp .add ⟨t.toArray⟩ ⟨q.toArray⟩).run Try.prog W = .ok (.string ⟨(t ++ q).toArray⟩) W := fun W => by
    rw [run_string_add_sum W _ _ (by show t.length + q.length ≤ _; omega), mk_append_data]
  have HT := Lib.hid hT
  have HO := Lib.hid hO
  clear hT hO htl hn hl ht hq hR hql
  go_enter Try.func9, Try.ntmps9
  go_wp2_with fail
  refine (HT.out _).mono ?_
  rintro e w1 ⟨rfl, hb1⟩
  go_wp2_with fail
  refine (HO.out _).mono ?_
  rintro e w2 ⟨rfl, hb2⟩
  go_wp2_with fail
  go_ret2
  exact ⟨rfl, below_step hb1 hb2⟩

end Go.Proofs.Ytckobhfomphcpaa
