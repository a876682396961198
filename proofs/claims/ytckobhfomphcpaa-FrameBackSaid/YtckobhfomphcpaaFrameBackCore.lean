/-
  What is found, laid again, is what it was found in; behind it is no record: for all strings of 2000 bytes at most; longer ones are let go.
-/
import Derived.Test.YtckobhfomphcpaaFrameLaw
namespace Go.Proofs.Ytckobhfomphcpaa.lawFrameBack
open Go.RowKit FrameMath PackMath CrcMath

set_option maxHeartbeats 400000 in
theorem long (H : FrameHave) (s : ByteArray) (h : 2000 < s.size) (hs : s.size ≤ maxLen) (w : World) :
    Calls Try.prog 6 #[.string s] w fun e w' => e = .returned (.bool true) ∧ Below w.heap.size w w' := by
  unfold maxLen at hs
  go_enter Try.func6, Try.ntmps6
  go_wp2_with fail
  refine (H.shown _).mono ?_
  rintro e w1 ⟨rfl, hb1⟩
  go_wp2_with fail
  go_ret
  exact ⟨rfl, hb1⟩

theorem recs_count : ∀ bs : List (List UInt8), bs.length ≤ (recs bs).length
  | [] => Nat.zero_le _
  | b :: bs => by
    have ih := recs_count bs
    have h1 := (recL_lens b).1
    rw [recs_cons, List.length_append, List.length_cons]
    omega

set_option maxRecDepth 100000 in
set_option maxHeartbeats 1600000 in
theorem short (H : FrameHave) (s : ByteArray) (hs : s.size ≤ 2000) (w : World) :
    Calls Try.prog 6 #[.string s] w fun e w' => e = .returned (.bool true) ∧ Below w.heap.size w w' := by
  have hl0 : s.data.toList.length = s.size := by simp
  obtain ⟨v1, v2, v3⟩ := allR_very s.data.toList
  obtain ⟨xs, hxs⟩ : ∃ xs, xs = (allR s.data.toList).1 := ⟨_, rfl⟩
  obtain ⟨r, hr⟩ : ∃ r, r = (allR s.data.toList).2 := ⟨_, rfl⟩
  have hA : ∀ W : World, Calls Try.prog 13 #[.string s] W (AllPost xs ((s.size : Int) - (r.length : Int)) W) := fun W => by rw [hxs, hr]; exact H.all s W (by omega)
  rw [← hxs, ← hr] at v1
  rw [← hr] at v2
  rw [← hxs] at v3
  have hlen := congrArg List.length v1
  rw [List.length_append, hl0] at hlen
  obtain ⟨m, hm⟩ : ∃ m, m = (recs xs).length := ⟨_, rfl⟩
  have hm2 : (s.size : Int) - (r.length : Int) = (m : Int) := by omega
  rw [hm2] at hA
  have hm3 : m ≤ s.size := by omega
  have hc := recs_count xs
  have hb : ∀ x ∈ xs, x.length ≤ 5000 := fun x hx => by
    obtain ⟨j, hj, rfl⟩ := List.getElem_of_mem hx
    have q := congrArg List.length (recs_split xs hj)
    rw [List.length_append, List.length_append] at q
    have := (recL_lens xs[j]).1
    omega
  have e1 : s.extract 0 m = ⟨(recs xs).toArray⟩ := by
    rw [extract_take, ← v1, hm]
    simp
  have e2 : s.extract m s.size = ⟨r.toArray⟩ := by
    rw [extract_rest, ← v1, hm]
    simp
  have hq : (recs xs == (s.extract 0 m).toList) = true := by rw [e1, ByteArray.toList_eq]; exact beq_iff_eq.2 rfl
  have HA := Lib.hid hA
  have HT : Hid (∀ W : World, Calls Try.prog 11 #[.string (s.extract m s.size)] W fun e w' => e = .returned (.tuple #[.string ⟨#[]⟩, .string ⟨#[]⟩, .int .i64 2]) ∧ Below W.heap.size W w') := fun W => by
    have h := H.take ⟨r.toArray⟩ W (by show r.length ≤ 10000; omega)
    rw [show takeR (⟨r.toArray⟩ : ByteArray).data.toList = none from v2] at h
    rw [e2]
    exact h
  have HL : Hid (∀ (A : Option Addr) (c : Nat) (W : World), StrsIn W W.heap.size A xs.length xs → Calls Try.prog 17 #[.slice A xs.length c] W (LaidPost xs W)) := fun A c W h => laid_any H A xs.length c xs (by omega) hb (by omega) W h
  clear hxs hr v1 v2 v3 hl0 hm hm2 e1 e2 hA hb hlen hc
  go_enter Try.func6, Try.ntmps6
  go_wp2_with fail
  refine (H.shown _).mono ?_
  rintro e w1 ⟨rfl, hb1⟩
  go_wp2_with fail
  refine (HA.out _).mono ?_
  rintro e w2 ⟨A, c, rfl, q1, _, _, hb2⟩
  go_wp2_with fail
  refine (HL.out A c _ q1).mono ?_
  rintro e w3 ⟨A', c', rfl, _, _, _, hb3⟩
  have hB := below_step (below_step hb1 hb2) hb3
  clear hb1 hb2 hb3 q1
  go_wp2_with fail
  refine (HT.out _).mono ?_
  rintro e w4 ⟨rfl, hb4⟩
  go_wp2_with fail
  go_ret
  exact ⟨rfl, below_step hB hb4⟩

theorem walk0 (H : FrameHave) (a0 : ByteArray) (w0 : a0.size ≤ maxLen) (w : World) :
    Calls Try.prog 6 #[.string a0] w fun e w' => e = .returned (.bool true) ∧ Below w.heap.size w w' :=
  if h : 2000 < a0.size then long H a0 h w0 w else short H a0 (by omega) w

end Go.Proofs.Ytckobhfomphcpaa.lawFrameBack
