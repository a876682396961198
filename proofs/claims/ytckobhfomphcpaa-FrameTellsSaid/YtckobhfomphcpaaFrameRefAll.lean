/-
  The walk of the document's own All (records).
-/
import Derived.Test.YtckobhfomphcpaaFrameRef
import Derived.Test.YtckobhfomphcpaaStrs
import Derived.Deep.LoopGhost
namespace Go.Proofs.Ytckobhfomphcpaa
open Go.RowKit FrameMath PackMath CrcMath

/-- A new list of strings, and a number, are answered. -/
def AllPost (xs : List (List UInt8)) (n : Int) (w : World) (e : Ending) (w' : World) : Prop :=
  ∃ (A : Option Addr) (c : Nat), e = .returned (.tuple #[.slice A xs.length c, .int .i64 n]) ∧ StrsIn w' w'.heap.size A xs.length xs ∧ xs.length ≤ c ∧ (c ≤ maxLen ∧ (A = none → c = 0)) ∧ Below w.heap.size w w'

theorem str_infos : (Try.prog.info? 9).map (fun i => (i.zero, i.size, i.bytes)) = some (some (.string ⟨#[]⟩), 1, 16) := by kernel_rfl

set_option maxRecDepth 100000 in
set_option maxHeartbeats 800000 in
theorem refFrameAll (s : ByteArray) (hs : s.size ≤ 3000) (w : World) :
    Calls Try.prog 14 #[.string s] w (AllPost (allR s.data.toList).1 ((s.size : Int) - ((allR s.data.toList).2.length : Int)) w) := by
  obtain ⟨i0, hi0, hz0, hz1, hz2⟩ := info_parts str_infos
  have hl0 : s.data.toList.length = s.size := by simp
  go_enter Try.func14, Try.ntmps14
  go_wp2_with fail
  go_loopg [4, 5] (s.size + 1) (fun gk out b wr => ∃ (l : List UInt8) (xs : List (List UInt8)), b = .string ⟨l.toArray⟩ ∧ l.length + 1 ≤ gk ∧ gk ≤ s.size + 1 ∧ xs.length + gk ≤ s.size + 1 ∧ Hid ((allR s.data.toList).1 = xs ++ (allR l).1 ∧ (allR s.data.toList).2 = (allR l).2) ∧
    wr.ownsRow w.heap.size 9 1 out xs.length (strV xs) ∧ Below w.heap.size w wr)
  case atStart =>
    exact ⟨s.data.toList, [], by rw [Lib.mk_data s], by omega, by omega, by simp, ⟨rfl, rfl⟩, World.ownsRow_nil _ _ _ _, Below.refl _ _⟩
  case round =>
    obtain ⟨l, xs, rfl, hg1, hg2, hg3, hrest, hown, hB⟩ := hrel
    cases ht : takeR l with
    | none =>
      have HN := Lib.hid hrest.out
      rw [allR_none ht] at HN
      have H : Hid (∀ W : World, Calls Try.prog 12 #[.string ⟨l.toArray⟩] W fun e w' => e = .returned (.tuple #[.string ⟨#[]⟩, .string ⟨#[]⟩, .int .i64 2]) ∧ Below W.heap.size W w') := fun W => by
        have h := refFrameTake ⟨l.toArray⟩ (by show l.length ≤ 3000; omega) W
        rw [show takeR (⟨l.toArray⟩ : ByteArray).data.toList = none from ht] at h
        exact h
      have hll : l.length ≤ s.size := by omega
      clear ht hrest
      go_wp2_with fail
      refine (H.out _).mono ?_
      rintro e w1 ⟨rfl, hb1⟩
      have hown1 := hown.kept (row := none) ⟨hb1.os, hb1.tape, hb1.output, hb1.size, fun q hq _ => hb1.block q hq⟩ (Classical.em _)
      obtain ⟨A, c, rfl, q1, q2, q3⟩ := strs_own hown1
      have qB := below_step hB hb1
      clear hown hB hb1 hown1
      go_wp2_with fail
      go_ret2
      obtain ⟨e1, e2⟩ := HN.out
      rw [e1, e2, List.append_nil]
      exact ⟨A, c, rfl, q1, q2, q3, qB⟩
    | some x =>
      obtain ⟨b, r⟩ := x
      have hr := takeR_less ht
      have HN : Hid ((allR s.data.toList).1 = (xs ++ [b]) ++ (allR r).1 ∧ (allR s.data.toList).2 = (allR r).2) := by
        obtain ⟨e1, e2⟩ := hrest.out
        rw [allR_some ht] at e1 e2
        exact ⟨by rw [e1, List.append_assoc]; rfl, e2⟩
      have H : Hid (∀ W : World, Calls Try.prog 12 #[.string ⟨l.toArray⟩] W fun e w' => e = .returned (.tuple #[.string ⟨b.toArray⟩, .string ⟨r.toArray⟩, .int .i64 0]) ∧ Below W.heap.size W w') := fun W => by
        have h := refFrameTake ⟨l.toArray⟩ (by show l.length ≤ 3000; omega) W
        rw [show takeR (⟨l.toArray⟩ : ByteArray).data.toList = some (b, r) from ht] at h
        exact h
      clear ht hrest
      go_wp2_with fail
      refine (H.out _).mono ?_
      rintro e w1 ⟨rfl, hb1⟩
      have hown1 := hown.kept (row := none) ⟨hb1.os, hb1.tape, hb1.output, hb1.size, fun q hq _ => hb1.block q hq⟩ (Classical.em _)
      have hB1 := below_step hB hb1
      have hsz := hB1.size
      have hm : xs.length + 1 ≤ maxLen := by unfold maxLen; omega
      clear hown hB hb1
      go_wp2_with (at_builtin; refine wpList_append_own _ rfl (.tmp 24) (.tmp 26) 32 rfl w.heap.size 9 i0 _ 1 16 Try.underlying32 hi0 hz0 hz1 hz2 rfl (by decide) _ _ _ rfl (hown1.alloc _) ⟨w1.heap.size, 0, none⟩ 1 1 (strV [b]) rfl rfl (str_there w1 _ _) (str_one _) hm (by omega) (by simp; omega) ?_; intro v2 w2 hown2 hg2 _)
      have hB2 : Below w.heap.size w w2 := (hB1.alloc hB1.size _).grown hg2 (by simp; omega) (fun q hq => (hown1.lt q hq).1)
      rw [show strV xs ++ strV [b] = strV (xs ++ [b]) by simp [strV]] at hown2
      clear hown1 hg2 hB1 hsz hm
      go_roundg (gk - 1)
      case measure => omega
      case rel => exact ⟨r, xs ++ [b], rfl, by omega, by omega, by rw [List.length_append]; show xs.length + 1 + _ ≤ _; omega, HN, by rw [List.length_append]; exact hown2, hB2⟩

end Go.Proofs.Ytckobhfomphcpaa
