/-
  Any body's record, what any string begins with, and all of it, are the document's: for all bodies and strings of 2000 bytes at most; longer ones are let go.
-/
import Derived.Test.YtckobhfomphcpaaFrameLaw
import Derived.Test.YtckobhfomphcpaaFrameRefTexts
namespace Go.Proofs.Ytckobhfomphcpaa.lawFrameTells
open Go.RowKit FrameMath PackMath CrcMath

set_option maxHeartbeats 400000 in
theorem long1 (H : FrameHave) (a s : ByteArray) (h : 2000 < a.size) (ha : a.size ≤ maxLen) (w : World) :
    Calls Try.prog 3 #[.string a, .string s] w fun e w' => e = .returned (.bool true) ∧ Below w.heap.size w w' := by
  unfold maxLen at ha
  go_enter Try.func3, Try.ntmps3
  go_wp2_with fail
  refine (H.shown _).mono ?_
  rintro e w1 ⟨rfl, hb1⟩
  go_wp2_with fail
  go_ret
  exact ⟨rfl, hb1⟩

set_option maxHeartbeats 400000 in
theorem long2 (H : FrameHave) (a s : ByteArray) (h : ¬ 2000 < a.size) (h2 : 2000 < s.size) (hs : s.size ≤ maxLen) (w : World) :
    Calls Try.prog 3 #[.string a, .string s] w fun e w' => e = .returned (.bool true) ∧ Below w.heap.size w w' := by
  unfold maxLen at hs
  go_enter Try.func3, Try.ntmps3
  go_wp2_with fail
  refine (H.shown _).mono ?_
  rintro e w1 ⟨rfl, hb1⟩
  go_wp2_with fail
  go_ret
  exact ⟨rfl, hb1⟩

set_option maxRecDepth 100000 in
set_option maxHeartbeats 1600000 in
theorem core (H : FrameHave) (a s p c d : ByteArray) (f m : Int) (hf : 0 ≤ f ∧ f ≤ 2) (xs : List (List UInt8)) (hn : xs.length ≤ 100000) (ha : ¬ 2000 < a.size) (hs : ¬ 2000 < s.size) (w : World)
    (P1 : Hid (∀ W : World, Calls Try.prog 9 #[.string a] W fun e w' => e = .returned (.tuple #[.string p, .int .i64 0]) ∧ Below W.heap.size W w'))
    (P2 : Hid (∀ W : World, Calls Try.prog 10 #[.string a] W fun e w' => e = .returned (.tuple #[.string p, .int .i64 0]) ∧ Below W.heap.size W w'))
    (T1 : Hid (∀ W : World, Calls Try.prog 11 #[.string s] W fun e w' => e = .returned (.tuple #[.string c, .string d, .int .i64 f]) ∧ Below W.heap.size W w'))
    (T2 : Hid (∀ W : World, Calls Try.prog 12 #[.string s] W fun e w' => e = .returned (.tuple #[.string c, .string d, .int .i64 f]) ∧ Below W.heap.size W w'))
    (A1 : Hid (∀ W : World, Calls Try.prog 13 #[.string s] W (AllPost xs m W)))
    (A2 : Hid (∀ W : World, Calls Try.prog 14 #[.string s] W (AllPost xs m W))) :
    Calls Try.prog 3 #[.string a, .string s] w fun e w' => e = .returned (.bool true) ∧ Below w.heap.size w w' := by
  obtain ⟨hf0, hf2⟩ := hf
  go_enter Try.func3, Try.ntmps3
  go_wp2_with fail
  refine (H.shown _).mono ?_
  rintro e w1 ⟨rfl, hb1⟩
  go_wp2_with fail
  refine (P1.out _).mono ?_
  rintro e w2 ⟨rfl, hb2⟩
  go_wp2_with fail
  refine (P2.out _).mono ?_
  rintro e w3 ⟨rfl, hb3⟩
  have hB3 := below_step (below_step hb1 hb2) hb3
  clear hb1 hb2 hb3
  go_wp2_with fail
  refine (T1.out _).mono ?_
  rintro e w4 ⟨rfl, hb4⟩
  go_wp2_with fail
  refine (T2.out _).mono ?_
  rintro e w5 ⟨rfl, hb5⟩
  have hB5 := below_step (below_step hB3 hb4) hb5
  clear hB3 hb4 hb5
  go_wp2_with fail
  refine (A1.out _).mono ?_
  rintro e w6 ⟨B1, c1, rfl, q1, _, _, hb6⟩
  go_wp2_with fail
  refine (A2.out _).mono ?_
  rintro e w7 ⟨B2, c2, rfl, q2, _, _, hb7⟩
  have hB7 := below_step (below_step hB5 hb6) hb7
  have q3 := (q1.below hb7).more hb7.size
  clear hB5 hb6 hb7 q1
  go_wp2_with fail
  refine (refTexts B1 xs.length c1 xs B2 xs.length c2 xs hn hn _ q3 q2).mono ?_
  rintro e w8 ⟨rfl, hb8⟩
  rw [sameS_self]
  go_wp2_with fail
  go_ret
  exact ⟨rfl, below_step hB7 hb8⟩

theorem short (H : FrameHave) (a s : ByteArray) (ha : ¬ 2000 < a.size) (hs : ¬ 2000 < s.size) (w : World) :
    Calls Try.prog 3 #[.string a, .string s] w fun e w' => e = .returned (.bool true) ∧ Below w.heap.size w w' := by
  obtain ⟨c, d, f, hf, hT⟩ : ∃ (c d : ByteArray) (f : Int), (0 ≤ f ∧ f ≤ 2) ∧ textRes (takeR s.data.toList) = .tuple #[.string c, .string d, .int .i64 f] := by
    cases takeR s.data.toList with
    | none => exact ⟨⟨#[]⟩, ⟨#[]⟩, 2, by omega, rfl⟩
    | some x => exact ⟨⟨x.1.toArray⟩, ⟨x.2.toArray⟩, 0, by omega, rfl⟩
  have hl0 : s.data.toList.length = s.size := by simp
  have hc : (allR s.data.toList).1.length ≤ 100000 := by
    have e := congrArg List.length (allR_very s.data.toList).1
    have k : ∀ bs : List (List UInt8), bs.length ≤ (recs bs).length := by
      intro bs
      induction bs with
      | nil => exact Nat.zero_le _
      | cons b bs ih =>
        have h1 := (recL_lens b).1
        rw [recs_cons, List.length_append, List.length_cons]
        omega
    have := k (allR s.data.toList).1
    rw [List.length_append] at e
    omega
  refine core H a s ⟨(recL a.data.toList).toArray⟩ c d f ((s.size : Int) - ((allR s.data.toList).2.length : Int)) hf (allR s.data.toList).1 hc ha hs w (fun W => H.put a W (by omega)) (fun W => refFramePut a (by omega) W)
    (fun W => by rw [← hT]; exact H.take s W (by omega)) (fun W => by rw [← hT]; exact refFrameTake s (by omega) W) (fun W => H.all s W (by omega)) (fun W => refFrameAll s (by omega) W)

theorem walk0 (H : FrameHave) (a0 a1 : ByteArray) (w0 : a0.size ≤ maxLen) (w1 : a1.size ≤ maxLen) (w : World) :
    Calls Try.prog 3 #[.string a0, .string a1] w fun e w' => e = .returned (.bool true) ∧ Below w.heap.size w w' :=
  if h : 2000 < a0.size then long1 H a0 a1 h w0 w else if h2 : 2000 < a1.size then long2 H a0 a1 h h2 w1 w else short H a0 a1 h h2 w

end Go.Proofs.Ytckobhfomphcpaa.lawFrameTells
