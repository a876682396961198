/-
  The walks of the document's own Put and Take (records).
-/
import Derived.Test.YtckobhfomphcpaaFrameMath
import Derived.Test.YtckobhfomphcpaaBytes
import Derived.Test.YtckobhfomphcpaaCrcRef
import Derived.Test.YtckobhfomphcpaaPackRefText
import Derived.Test.YtckobhfomphcpaaPackRefTakeText
import Derived.Deep.QuietTactic
import Derived.BigQuiet
namespace Go.Proofs.Ytckobhfomphcpaa
open Go.RowKit FrameMath PackMath CrcMath

/-- Four bytes in memory as a string. -/
theorem conv_be4 (b : Nat) (w : World) (c : Nat) (hc : (c : Int) ≤ 4294967295) (h0 : w.cell? ⟨b, 0, none⟩ = some (.int .u8 ((c : Int) / 16777216))) (h1 : w.cell? ⟨b, 1, none⟩ = some (.int .u8 ((c : Int) / 65536 % 256)))
    (h2 : w.cell? ⟨b, 2, none⟩ = some (.int .u8 ((c : Int) / 256 % 256))) (h3 : w.cell? ⟨b, 3, none⟩ = some (.int .u8 ((c : Int) % 256))) :
    (convert 43 9 (.slice (some ⟨b, 0, none⟩) 4 4)).run Try.prog w = .ok (.string ⟨(be4 c).toArray⟩) w := by
  have k : ∀ (n : Nat) (x : Int), n < 256 → x = (n : Int) → (UInt8.ofNat n).toNat = n ∧ ((UInt8.ofNat n).toNat : Int) = x := fun n x hn e => by
    have := UInt8.toNat_ofNat_of_lt' (show n < 256 from hn)
    exact ⟨this, by rw [this, e]⟩
  refine run_convert_bytes_back w _ _ _ _ 4 (be4 c) Try.underlying43 Try.underlying5 Try.underlying9 (fun j hj => ?_)
  have hj4 : j = 0 ∨ j = 1 ∨ j = 2 ∨ j = 3 := by rw [be4_len] at hj; omega
  rcases hj4 with rfl | rfl | rfl | rfl
  · exact h0.trans (by rw [← (k (c / 16777216) ((c : Int) / 16777216) (by omega) (by omega)).2]; rfl)
  · exact h1.trans (by rw [← (k (c / 65536 % 256) ((c : Int) / 65536 % 256) (by omega) (by omega)).2]; rfl)
  · exact h2.trans (by rw [← (k (c / 256 % 256) ((c : Int) / 256 % 256) (by omega) (by omega)).2]; rfl)
  · exact h3.trans (by rw [← (k (c % 256) ((c : Int) % 256) (by omega) (by omega)).2]; rfl)

set_option maxRecDepth 100000 in
set_option maxHeartbeats 800000 in
theorem refFramePut (s : ByteArray) (hs : s.size ≤ 3000) (w : World) :
    Calls Try.prog 10 #[.string s] w fun e w' => e = .returned (.tuple #[.string ⟨(recL s.data.toList).toArray⟩, .int .i64 0]) ∧ Below w.heap.size w w' := by
  have hl : s.data.toList.length = s.size := by simp
  have hT : ∀ W : World, Calls Try.prog 20 #[.string s] W fun e w' => e = .returned (.string ⟨(textN s.data.toList).toArray⟩) ∧ Below W.heap.size W w' := fun W => by
    have h := refText s (by omega) W
    unfold textN
    rw [hl]
    exact h
  have hn := (numL_length s.size).2
  have htl : (textN s.data.toList).length ≤ 3010 := by unfold textN; rw [List.length_append, hl]; omega
  have hO : ∀ W : World, Calls Try.prog 21 #[.string ⟨(textN s.data.toList).toArray⟩] W fun e w' => e = .returned (.int .u32 (cmore 0 (textN s.data.toList) : Nat)) ∧ W = w' := fun W => refOf ⟨(textN s.data.toList).toArray⟩ (by show (textN s.data.toList).length ≤ 70000; omega) W
  have hR : recL s.data.toList = textN s.data.toList ++ be4 (cmore 0 (textN s.data.toList)) := rfl
  have hlt := more_lt 0 (textN s.data.toList)
  rw [hR]
  obtain ⟨t, ht⟩ : ∃ t, t = textN s.data.toList := ⟨_, rfl⟩
  rw [← ht] at hT hO hlt htl ⊢
  obtain ⟨c, hc⟩ : ∃ c, c = cmore 0 t := ⟨_, rfl⟩
  rw [← hc] at hO hlt ⊢
  have hc2 : (c : Int) ≤ 4294967295 := by omega
  have hadd : ∀ W : World, (Op.stringOp .add ⟨t.toArray⟩ ⟨(be4 c).toArray⟩).run Try.prog W = .ok (.string ⟨(t ++ be4 c).toArray⟩) W := fun W => by
    rw [run_string_add_sum W _ _ (by show t.length + (be4 c).length ≤ _; rw [be4_len]; omega), mk_append_data]
  have hcv := fun b W => conv_be4 b W c hc2
  have HT := Lib.hid hT
  have HO := Lib.hid hO
  clear hT hO hlt htl hn hl ht hc hR
  go_enter Try.func10, Try.ntmps10
  go_wp2_with fail
  refine (HT.out _).mono ?_
  rintro e w1 ⟨rfl, hb1⟩
  go_wp2_with fail
  refine (HO.out _).mono ?_
  rintro e w2 ⟨rfl, rfl⟩
  go_wp2_with fail
  go_ret2
  exact ⟨rfl, hb1.alloc hb1.size _⟩

theorem take_parts {s b r : List UInt8} (h : textL s 65536 = some (b, r)) :
    s.take (s.length - r.length + 4) = textN b ++ r.take 4 ∧ s.drop (s.length - r.length + 4) = r.drop 4 ∧ b.length ≤ s.length ∧ r.length ≤ s.length := by
  obtain ⟨e, _, hb⟩ := text_textL h
  have e2 : textN b ++ r = s := e
  have hl := congrArg List.length e2
  rw [List.length_append] at hl
  have hn : s.length - r.length + 4 = (textN b).length + 4 := by omega
  refine ⟨?_, ?_, hb, by omega⟩
  · rw [hn, ← e2, List.take_length_add_append]
  · rw [hn, ← e2, List.drop_length_add_append]

set_option maxRecDepth 100000 in
set_option maxHeartbeats 800000 in
theorem refFrameTake (s : ByteArray) (hs : s.size ≤ 3000) (w : World) :
    Calls Try.prog 12 #[.string s] w fun e w' => e = .returned (textRes (takeR s.data.toList)) ∧ Below w.heap.size w w' := by
  have hl : s.data.toList.length = s.size := by simp
  have hT := fun W => refTakeText_any s (by omega) 65536 (by unfold IsI64; omega) W
  cases ht : textL s.data.toList 65536 with
  | none =>
    rw [ht] at hT
    have HT : Hid (∀ W : World, Calls Try.prog 24 #[.string s, .int .i64 65536] W fun e w' => e = .returned (.tuple #[.string ⟨#[]⟩, .string ⟨#[]⟩, .int .i64 2]) ∧ Below W.heap.size W w') := hT
    rw [takeR_none ht]
    clear ht hT hl
    go_enter Try.func12, Try.ntmps12
    go_wp2_with fail
    refine (HT.out _).mono ?_
    rintro e w1 ⟨rfl, hb1⟩
    go_wp2_with fail
    go_ret3
    exact ⟨rfl, hb1⟩
  | some x =>
    obtain ⟨b, r⟩ := x
    rw [ht] at hT
    have HT : Hid (∀ W : World, Calls Try.prog 24 #[.string s, .int .i64 65536] W fun e w' => e = .returned (.tuple #[.string ⟨b.toArray⟩, .string ⟨r.toArray⟩, .int .i64 0]) ∧ Below W.heap.size W w') := hT
    clear hT
    by_cases h4 : r.length < 4
    · rw [takeR_no ht (by omega)]
      clear ht hl
      go_enter Try.func12, Try.ntmps12
      go_wp2_with fail
      refine (HT.out _).mono ?_
      rintro e w1 ⟨rfl, hb1⟩
      go_wp2_with fail
      go_ret3
      exact ⟨rfl, hb1⟩
    · obtain ⟨p1, p2, p3, p4⟩ := take_parts ht
      rw [hl] at p1 p2 p3 p4
      obtain ⟨n, hn⟩ : ∃ n, n = s.size - r.length + 4 := ⟨_, rfl⟩
      rw [← hn] at p1 p2
      have hn2 : (s.size : Int) - (r.length : Int) + 4 = (n : Int) := by omega
      have hn3 : n ≤ s.size := by omega
      have h5 : (4 : Int) ≤ (r.length : Int) := by omega
      have e1 : s.extract 0 n = ⟨(textN b ++ r.take 4).toArray⟩ := by rw [extract_take, p1]
      have e2 : s.extract n s.size = ⟨(r.drop 4).toArray⟩ := by rw [extract_rest, p2]
      have hq : ((recL b == (s.extract 0 n).toList) = true ∧ takeR s.data.toList = some (b, r.drop 4)) ∨ ((recL b == (s.extract 0 n).toList) = false ∧ takeR s.data.toList = none) := by
        rw [e1, ByteArray.toList_eq]
        show ((recL b == textN b ++ r.take 4) = true ∧ _) ∨ ((recL b == textN b ++ r.take 4) = false ∧ _)
        rw [beq_iff_eq, beq_eq_false_iff_ne]
        by_cases h : r.take 4 = be4 (cmore 0 (textN b))
        · exact Or.inl ⟨by rw [h]; rfl, takeR_yes ht ⟨by omega, h⟩⟩
        · exact Or.inr ⟨fun e => h (List.append_cancel_left e).symm, takeR_no ht fun k => h k.2⟩
      have hP : Hid (∀ W : World, Calls Try.prog 10 #[.string ⟨b.toArray⟩] W fun e w' => e = .returned (.tuple #[.string ⟨(recL b).toArray⟩, .int .i64 0]) ∧ Below W.heap.size W w') := fun W => refFramePut ⟨b.toArray⟩ (by show b.length ≤ 3000; omega) W
      have E2 := Lib.hid e2
      clear hl ht p1 p2 p3 e1 e2 hn
      rcases hq with ⟨hq, hR⟩ | ⟨hq, hR⟩
      · rw [hR]
        clear hR
        go_enter Try.func12, Try.ntmps12
        go_wp2_with fail
        refine (HT.out _).mono ?_
        rintro e w1 ⟨rfl, hb1⟩
        go_wp2_with fail
        refine (hP.out _).mono ?_
        rintro e w2 ⟨rfl, hb2⟩
        go_wp2_with fail
        go_quiet (fail)
        go_wp2_with fail
        go_ret3
        exact ⟨by rw [E2.out]; rfl, below_drewN' (below_step hb1 hb2) _⟩
      · rw [hR]
        clear hR
        go_enter Try.func12, Try.ntmps12
        go_wp2_with fail
        refine (HT.out _).mono ?_
        rintro e w1 ⟨rfl, hb1⟩
        go_wp2_with fail
        refine (hP.out _).mono ?_
        rintro e w2 ⟨rfl, hb2⟩
        go_wp2_with fail
        go_ret3
        exact ⟨rfl, below_step hb1 hb2⟩

end Go.Proofs.Ytckobhfomphcpaa
