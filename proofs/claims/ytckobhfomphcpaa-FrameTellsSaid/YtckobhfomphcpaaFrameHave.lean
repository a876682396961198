/-
  What the statements of layer 6 need of the package's own functions; and the statements' head.
-/
import Derived.Test.YtckobhfomphcpaaFrameRefAll
namespace Go.Proofs.Ytckobhfomphcpaa
open Go.RowKit FrameMath PackMath CrcMath

structure FrameHave : Prop where
  put : ∀ (b : ByteArray) (w : World), b.size ≤ 5000 → Calls Try.prog 9 #[.string b] w fun e w' => e = .returned (.tuple #[.string ⟨(recL b.data.toList).toArray⟩, .int .i64 0]) ∧ Below w.heap.size w w'
  take : ∀ (s : ByteArray) (w : World), s.size ≤ 10000 → Calls Try.prog 11 #[.string s] w fun e w' => e = .returned (textRes (takeR s.data.toList)) ∧ Below w.heap.size w w'
  all : ∀ (s : ByteArray) (w : World), s.size ≤ 10000 → Calls Try.prog 13 #[.string s] w (AllPost (allR s.data.toList).1 ((s.size : Int) - ((allR s.data.toList).2.length : Int)) w)

/-- A record of two bytes, and half another one. -/
theorem half_found : allR (recL [97, 98] ++ (recL [97, 98]).take 3) = ([[97, 98]], (recL [97, 98]).take 3) := by
  have h := allR_recs [[97, 98]] ((recL [97, 98]).take 3) (fun b hb => by simp at hb; subst hb; decide)
  have hn : takeR ((recL [97, 98]).take 3) = none := takeR_cut (List.take_append_drop 3 _) (by decide) fun e => by
    have := congrArg List.length e
    rw [List.length_drop, recL_len] at this
    exact absurd this (by decide)
  rw [show recs [[97, 98]] = recL [97, 98] from List.append_nil _, allR_none hn] at h
  exact h

set_option maxRecDepth 100000 in
set_option maxHeartbeats 800000 in
theorem FrameHave.shown (H : FrameHave) (w : World) :
    Calls Try.prog 8 #[] w fun e w' => e = .returned (.bool true) ∧ Below w.heap.size w w' := by
  have hP := fun W => H.put ⟨#[97, 98]⟩ W (by decide)
  have h7 : (recL [97, 98]).length = 7 := by rw [recL_len]; rfl
  have hA := fun W => H.all ⟨(recL [97, 98] ++ (recL [97, 98]).take 3).toArray⟩ W (by show (recL [97, 98] ++ (recL [97, 98]).take 3).length ≤ 10000; rw [List.length_append, List.length_take, h7]; decide)
  have hlen : (recL [97, 98] ++ (recL [97, 98]).take 3).length = 10 := by rw [List.length_append, List.length_take, h7]; rfl
  have hlen3 : ((recL [97, 98]).take 3).length = 3 := by rw [List.length_take, h7]; rfl
  have hA2 : ∀ W : World, Calls Try.prog 13 #[.string ⟨(recL [97, 98] ++ (recL [97, 98]).take 3).toArray⟩] W (AllPost [[97, 98]] 7 W) := fun W => by
    have h := hA W
    rw [show (⟨(recL [97, 98] ++ (recL [97, 98]).take 3).toArray⟩ : ByteArray).data.toList = recL [97, 98] ++ (recL [97, 98]).take 3 from rfl, half_found] at h
    rw [show (⟨(recL [97, 98] ++ (recL [97, 98]).take 3).toArray⟩ : ByteArray).size = 10 from hlen] at h
    simp only [hlen3] at h
    exact h
  have HP : Hid (∀ W : World, Calls Try.prog 9 #[.string ⟨#[97, 98]⟩] W fun e w' => e = .returned (.tuple #[.string ⟨(recL [97, 98]).toArray⟩, .int .i64 0]) ∧ Below W.heap.size W w') := hP
  clear hA hlen hlen3 hP
  obtain ⟨p, hp⟩ : ∃ p, p = recL [97, 98] := ⟨_, rfl⟩
  rw [← hp] at HP h7 hA2
  have HA := Lib.hid hA2
  have hx : (⟨p.toArray⟩ : ByteArray).extract 0 3 = ⟨(p.take 3).toArray⟩ := extract_take _ 3
  have hadd : ∀ W : World, (Op.stringOp .add ⟨p.toArray⟩ ⟨(p.take 3).toArray⟩).run Try.prog W = .ok (.string ⟨(p ++ p.take 3).toArray⟩) W := fun W => by
    rw [run_string_add_sum W _ _ (by show p.length + (p.take 3).length ≤ _; rw [List.length_take, h7]; decide), mk_append_data]
  clear hp hA2
  go_enter Try.func8, Try.ntmps8
  go_wp2_with fail
  refine (HP.out _).mono ?_
  rintro e w1 ⟨rfl, hb1⟩
  go_wp2_with fail
  refine (HA.out _).mono ?_
  rintro e w2 ⟨A, c, rfl, q1, q2, q3, hb2⟩
  obtain ⟨g, o, rfl, hg, hc⟩ := q1.2 (by decide)
  have c0 : w2.cell? ⟨g, o, none⟩ = some (.string ⟨#[97, 98]⟩) := hc 0 (by decide)
  have hB := below_step hb1 hb2
  clear hc q1 hb1 hb2
  go_wp2_with fail
  go_ret
  exact ⟨rfl, hB⟩

end Go.Proofs.Ytckobhfomphcpaa
