/-
  The walks of the landed frame's own Take, and of the library's CutPrefix.
-/
import Derived.Test.YtckobhfomphcpaaFrameCodeA
namespace Go.Proofs.Ytckobhfomphcpaa
open Go.RowKit FrameMath PackMath CrcMath

/-- Does p begin l? -/
def begins (p l : List UInt8) : Bool := decide (p.length ≤ l.length ∧ l.take p.length = p)

set_option maxRecDepth 100000 in
set_option maxHeartbeats 800000 in
theorem hasPrefix_code (l p : List UInt8) (w : World) :
    Calls Try.prog 36 #[.string ⟨l.toArray⟩, .string ⟨p.toArray⟩] w fun e w' => e = .returned (.bool (begins p l)) ∧ w = w' := by
  have z1 : (⟨l.toArray⟩ : ByteArray).size = l.length := rfl
  have z2 : (⟨p.toArray⟩ : ByteArray).size = p.length := rfl
  by_cases h1 : p.length ≤ l.length
  · have e1 : (⟨l.toArray⟩ : ByteArray).extract 0 p.length = ⟨(l.take p.length).toArray⟩ := extract_take _ _
    have hq : (((⟨l.toArray⟩ : ByteArray).extract 0 p.length).toList == p) = begins p l := by
      rw [e1, ByteArray.toList_eq]
      unfold begins
      by_cases h : l.take p.length = p
      · rw [decide_eq_true ⟨h1, h⟩]; exact beq_iff_eq.2 h
      · rw [decide_eq_false (fun k => h k.2)]; exact beq_eq_false_iff_ne.2 h
    clear e1
    obtain ⟨b, hb⟩ : ∃ b, b = begins p l := ⟨_, rfl⟩
    rw [← hb] at hq ⊢
    have H1 := Lib.hid hb
    clear hb
    go_enter Try.func36, Try.ntmps36
    go_wp2_with fail
    go_ret
    exact ⟨rfl, rfl⟩
  · have hb : begins p l = false := decide_eq_false fun k => h1 k.1
    rw [hb]
    have H1 := Lib.hid hb
    clear hb
    go_enter Try.func36, Try.ntmps36
    go_wp2_with fail
    go_ret
    exact ⟨rfl, rfl⟩

/-- What CutPrefix answers. -/
def cutRes (l p : List UInt8) : Value :=
  if begins p l = true then .tuple #[.string ⟨(l.drop p.length).toArray⟩, .bool true] else .tuple #[.string ⟨l.toArray⟩, .bool false]

theorem begins_len {p l : List UInt8} (h : begins p l = true) : p.length ≤ l.length := (of_decide_eq_true h).1

set_option maxRecDepth 100000 in
set_option maxHeartbeats 800000 in
theorem cutPrefixIn_code (l p : List UInt8) (w : World) :
    Calls Try.prog 31 #[.string ⟨l.toArray⟩, .string ⟨p.toArray⟩] w fun e w' => e = .returned (cutRes l p) ∧ w = w' := by
  have hP := fun W => hasPrefix_code l p W
  have z1 : (⟨l.toArray⟩ : ByteArray).size = l.length := rfl
  have z2 : (⟨p.toArray⟩ : ByteArray).size = p.length := rfl
  unfold cutRes
  by_cases h : begins p l = true
  · have h1 := begins_len h
    rw [if_pos h]
    rw [h] at hP
    have e1 : (⟨l.toArray⟩ : ByteArray).extract p.length l.length = ⟨(l.drop p.length).toArray⟩ := extract_rest ⟨l.toArray⟩ _
    have HP := Lib.hid hP
    have E1 := Lib.hid e1
    clear h hP e1
    go_enter Try.func31, Try.ntmps31
    go_wp2_with fail
    refine (HP.out _).mono ?_
    rintro e w1 ⟨rfl, rfl⟩
    go_wp2_with fail
    go_ret2
    exact ⟨by rw [E1.out]; rfl, rfl⟩
  · rw [if_neg h]
    have hf : begins p l = false := by revert h; cases begins p l <;> simp
    rw [hf] at hP
    have HP := Lib.hid hP
    clear h hP hf
    go_enter Try.func31, Try.ntmps31
    go_wp2_with fail
    refine (HP.out _).mono ?_
    rintro e w1 ⟨rfl, rfl⟩
    go_wp2_with fail
    go_ret2
    exact ⟨rfl, rfl⟩

set_option maxRecDepth 100000 in
set_option maxHeartbeats 800000 in
theorem cutPrefix_code (l p : List UInt8) (w : World) :
    Calls Try.prog 23 #[.string ⟨l.toArray⟩, .string ⟨p.toArray⟩] w fun e w' => e = .returned (cutRes l p) ∧ w = w' := by
  have hP := fun W => cutPrefixIn_code l p W
  unfold cutRes at hP ⊢
  by_cases h : begins p l = true
  · rw [if_pos h]
    rw [if_pos h] at hP
    have HP := Lib.hid hP
    clear h hP
    go_enter Try.func23, Try.ntmps23
    go_wp2_with fail
    refine (HP.out _).mono ?_
    rintro e w1 ⟨rfl, rfl⟩
    go_wp2_with fail
    go_ret2
    exact ⟨rfl, rfl⟩
  · rw [if_neg h]
    rw [if_neg h] at hP
    have HP := Lib.hid hP
    clear h hP
    go_enter Try.func23, Try.ntmps23
    go_wp2_with fail
    refine (HP.out _).mono ?_
    rintro e w1 ⟨rfl, rfl⟩
    go_wp2_with fail
    go_ret2
    exact ⟨rfl, rfl⟩

theorem take_text {s b r : List UInt8} (h : textL s 65536 = some (b, r)) : s.take (s.length - r.length) = textN b ∧ b.length ≤ s.length ∧ r.length ≤ s.length := by
  obtain ⟨e, _, hb⟩ := text_textL h
  have e2 : textN b ++ r = s := e
  have hl := congrArg List.length e2
  rw [List.length_append] at hl
  have hn : s.length - r.length = (textN b).length := by omega
  refine ⟨?_, hb, by omega⟩
  rw [hn, ← e2, List.take_left']
  rfl

set_option maxRecDepth 100000 in
set_option maxHeartbeats 800000 in
theorem frameTake_code (s : ByteArray) (hs : s.size ≤ 30000) (w : World) :
    Calls Try.prog 11 #[.string s] w fun e w' => e = .returned (textRes (takeR s.data.toList)) ∧ Below w.heap.size w w' := by
  have hl : s.data.toList.length = s.size := by simp
  have hT := fun W => takeText_any s (by omega) 65536 (by unfold IsI64; omega) W
  cases ht : textL s.data.toList 65536 with
  | none =>
    rw [ht] at hT
    have HT : Hid (∀ W : World, Calls Try.prog 22 #[.string s, .int .i64 65536] W fun e w' => e = .returned (.tuple #[.string ⟨#[]⟩, .string ⟨#[]⟩, .int .i64 2]) ∧ Below W.heap.size W w') := hT
    rw [takeR_none ht]
    clear ht hT hl
    go_enter Try.func11, Try.ntmps11
    go_wp2_with fail
    refine (HT.out _).mono ?_
    rintro e w1 ⟨rfl, hb1⟩
    go_wp2_with fail
    go_ret3
    exact ⟨rfl, hb1⟩
  | some x =>
    obtain ⟨b, r⟩ := x
    rw [ht] at hT
    have HT : Hid (∀ W : World, Calls Try.prog 22 #[.string s, .int .i64 65536] W fun e w' => e = .returned (.tuple #[.string ⟨b.toArray⟩, .string ⟨r.toArray⟩, .int .i64 0]) ∧ Below W.heap.size W w') := hT
    clear hT
    obtain ⟨p1, p2, p3⟩ := take_text ht
    rw [hl] at p1 p2 p3
    obtain ⟨n, hn⟩ : ∃ n, n = s.size - r.length := ⟨_, rfl⟩
    rw [← hn] at p1
    have hn2 : (s.size : Int) - (r.length : Int) = (n : Int) := by omega
    have hn3 : n ≤ s.size := by omega
    have e1 : s.extract 0 n = ⟨(textN b).toArray⟩ := by rw [extract_take, p1]
    have htl : (textN b).length ≤ s.size := by rw [← p1, List.length_take]; omega
    have hS : Hid (∀ W : World, Calls Try.prog 19 #[.string (s.extract 0 n)] W fun e w' => e = .returned (.string ⟨(be4 (cmore 0 (textN b))).toArray⟩) ∧ Below W.heap.size W w') := fun W => by
      rw [e1]
      exact sum_code ⟨(textN b).toArray⟩ (by show (textN b).length ≤ 70000; omega) W
    obtain ⟨q, hq⟩ : ∃ q, q = be4 (cmore 0 (textN b)) := ⟨_, rfl⟩
    have hql : q.length = 4 := by rw [hq]; rfl
    have hC := fun W => cutPrefix_code r q W
    unfold cutRes at hC
    have hz : (⟨r.toArray⟩ : ByteArray).size = r.length := rfl
    by_cases h : begins q r = true
    · have h2 := of_decide_eq_true h
      rw [takeR_yes ht ⟨by omega, by have h3 := h2.2; rw [hql] at h3; exact h3.trans hq⟩]
      rw [if_pos h, hql] at hC
      rw [← hq] at hS
      have HC := Lib.hid hC
      clear hC h h2 hq hql htl e1 hn p1 p2 p3 ht hl
      go_enter Try.func11, Try.ntmps11
      go_wp2_with fail
      refine (HT.out _).mono ?_
      rintro e w1 ⟨rfl, hb1⟩
      go_wp2_with fail
      refine (hS.out _).mono ?_
      rintro e w2 ⟨rfl, hb2⟩
      go_wp2_with fail
      refine (HC.out _).mono ?_
      rintro e w3 ⟨rfl, rfl⟩
      go_wp2_with fail
      go_ret3
      exact ⟨rfl, below_step hb1 hb2⟩
    · rw [takeR_no ht fun k => h (decide_eq_true ⟨by omega, by rw [hql, k.2, hq]⟩)]
      rw [if_neg h] at hC
      rw [← hq] at hS
      have HC := Lib.hid hC
      clear hC h hq hql htl e1 hn p1 p2 p3 ht hl
      go_enter Try.func11, Try.ntmps11
      go_wp2_with fail
      refine (HT.out _).mono ?_
      rintro e w1 ⟨rfl, hb1⟩
      go_wp2_with fail
      refine (hS.out _).mono ?_
      rintro e w2 ⟨rfl, hb2⟩
      go_wp2_with fail
      refine (HC.out _).mono ?_
      rintro e w3 ⟨rfl, rfl⟩
      go_wp2_with fail
      go_ret3
      exact ⟨rfl, below_step hb1 hb2⟩

end Go.Proofs.Ytckobhfomphcpaa
