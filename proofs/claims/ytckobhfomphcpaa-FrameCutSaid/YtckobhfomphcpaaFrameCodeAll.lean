/-
  The walks of the landed frame's own records (an iterator) and All (a range over it).
-/
import Derived.Test.YtckobhfomphcpaaFrameCodeT
import Derived.Test.YtckobhfomphcpaaFrameRefAll
import Derived.RangeFuncNested
import Derived.RangeFuncBound
import Derived.RangeFuncBox
import Derived.RangeFuncLeaves
import Derived.Shelf.Abstract
import Derived.WalkKit
import Derived.OwnWalkIn
import Derived.TacticsInMore
import Derived.LoopNIn
import Derived.LoopIn
import Derived.Sort.LoopGhostIn
import Derived.Sort.QuietIn
namespace Go.Proofs.Ytckobhfomphcpaa
open Go.RowKit FrameMath PackMath CrcMath

attribute [local go_sem] Oper.semAt_some

/-- What a round hands on: a body, and where its record ends. -/
abbrev found (x : List UInt8 × Int) : Array Value := #[.string ⟨x.1.toArray⟩, .int .i64 x.2]

/-- Block Bn is as it was. -/
def KeepsAt (Bn : Nat) (W W' : World) : Prop := W'.heap[Bn]? = W.heap[Bn]?

/-- Where the last record ended. -/
def endOf (xs : List (List UInt8 × Int)) : Int := (xs.getLast?.map (·.2)).getD 0

theorem endOf_snoc (xs : List (List UInt8 × Int)) (x : List UInt8 × Int) : endOf (xs ++ [x]) = x.2 := by simp [endOf]

/-- What the iterator over s has told when it is at its end. -/
def Told (s : List UInt8) (xs : List (List UInt8 × Int)) : Prop := xs.map (·.1) = (allR s).1 ∧ endOf xs = (s.length : Int) - ((allR s).2.length : Int)

set_option maxHeartbeats 1000000 in
theorem records_code (s : ByteArray) (w : World) :
    Calls Try.prog 25 #[.string s] w fun e w' => e = .returned (.func (.func 33) #[] #[.pointer (some ⟨w.heap.size, 0, none⟩)]) ∧ w' = w.alloc (.cells #[.string s] 9) := by
  go_enter Try.func25, Try.ntmps25
  go_wp2_with fail
  go_ret
  exact ⟨rfl, rfl⟩

/-- What Take answers, as three values. -/
def Got (l b r : List UInt8) (e : Int) : Prop := (takeR l = some (b, r) ∧ e = 0) ∨ (takeR l = none ∧ e = 2)

theorem take_got (l : List UInt8) (hl : l.length ≤ 30000) :
    ∃ b r e, Got l b r e ∧ ∀ W : World, Calls Try.prog 11 #[.string ⟨l.toArray⟩] W fun x w' => x = .returned (.tuple #[.string ⟨b.toArray⟩, .string ⟨r.toArray⟩, .int .i64 e]) ∧ Below W.heap.size W w' := by
  have h := fun W => frameTake_code ⟨l.toArray⟩ hl W
  rw [show (⟨l.toArray⟩ : ByteArray).data.toList = l from rfl] at h
  cases ht : takeR l with
  | none =>
    rw [ht] at h
    exact ⟨[], [], 2, Or.inr ⟨ht, rfl⟩, h⟩
  | some x =>
    obtain ⟨b, r⟩ := x
    rw [ht] at h
    exact ⟨b, r, 0, Or.inl ⟨ht, rfl⟩, h⟩

set_option maxRecDepth 100000 in
set_option maxHeartbeats 2000000 in
theorem records_in (n : Nat) (hn : 1 ≤ n) (l Bn : Nat) (s : ByteArray) (hs : s.size ≤ 30000) (J Jx : List (List UInt8 × Int) → World → Prop) (W0 : World) (hJg : ∀ xs A B, J xs A → Below A.heap.size A B → J xs B)
    (hY : ∀ pre x W, J pre W → pre.length < 30001 → YieldAt Fence.wide (n - 1) Try.prog l (found x) W fun e W' =>
      (e = .returned (.bool true) ∧ J (pre ++ [x]) W' ∧ KeepsAt Bn W W') ∨ (e = .returned (.bool false) ∧ Jx (pre ++ [x]) W'))
    (hc : W0.heap[Bn]? = some (.cells #[.string s] 9 (0, 0))) (h0 : J [] W0) :
    CallsIn Fence.wide n Try.prog 33 #[.func (.yield l) #[] #[], .pointer (some ⟨Bn, 0, none⟩)] W0 fun e W' => (∃ v, e = .returned v) ∧
      ((∃ ys, Told s.data.toList ys ∧ J ys W') ∨ (∃ pre, True ∧ Jx pre W')) := by
  have hz : s.data.toList.length = s.size := by simp
  have hlt0 : ∀ {W : World}, W.heap[Bn]? = some (.cells #[.string s] 9 (0, 0)) → Bn < W.heap.size := fun h => (Array.getElem?_eq_some_iff.1 h).1
  have c0 : W0.cell? ⟨Bn, 0, none⟩ = some (.string s) := cell_of_row _ _ 0 _ _ (0, 0) hc
  obtain ⟨b0, r0, e0, hg0, hT0⟩ := take_got s.data.toList (by omega)
  rw [Lib.mk_data s] at hT0
  have HT0 := Lib.hid hT0
  clear hT0
  refine callsIn_of_wp Try.func33 rfl trivial ?_ rfl
  simp only [Try.ntmps33, List.size_toArray, List.length_cons, List.length_nil, Nat.reduceAdd, Nat.reduceSub, Array.replicate_succ, Array.replicate_zero, List.push_toArray, List.append_toArray, List.nil_append, List.cons_append]
  gi_wp2_with fail
  refine ⟨trivial, (callsIn_wide.2 (HT0.out _)).mono ?_⟩
  rintro e w1 ⟨rfl, hb1⟩
  have hJ1 := hJg _ _ _ h0 hb1
  have hc1 := (hb1.block Bn (hlt0 hc)).trans hc
  clear hb1 h0 hc c0 HT0
  gi_wp2_with fail
  gi_loopg [3, 4, 5] (s.size + 1) (fun gk vb vr ve wr => ∃ (pre : List (List UInt8 × Int)) (cur b r : List UInt8) (e : Int), vb = .string ⟨b.toArray⟩ ∧ vr = .string ⟨r.toArray⟩ ∧ ve = .int .i64 e ∧ cur.length + 1 ≤ gk ∧ gk ≤ s.size + 1 ∧ pre.length + cur.length ≤ s.size ∧
    Hid (Got cur b r e ∧ (allR s.data.toList).1 = pre.map (·.1) ++ (allR cur).1 ∧ (allR s.data.toList).2 = (allR cur).2 ∧ endOf pre = (s.size : Int) - (cur.length : Int)) ∧ Hid (J pre wr) ∧ wr.heap[Bn]? = some (.cells #[.string s] 9 (0, 0)))
  case atStart =>
    exact ⟨[], s.data.toList, b0, r0, e0, rfl, rfl, rfl, by omega, by omega, by simp, ⟨hg0, rfl, rfl, by rw [hz]; simp [endOf]⟩, hJ1, hc1⟩
  case round =>
    obtain ⟨pre, cur, b, r, e, rfl, rfl, rfl, hk1, hk2, hk3, hrest, hJs, hcell⟩ := hrel
    have cc : wr.cell? ⟨Bn, 0, none⟩ = some (.string s) := cell_of_row _ _ 0 _ _ (0, 0) hcell
    obtain ⟨hgot, hr1, hr2, hr3⟩ := hrest.out
    clear hrest
    rcases hgot with ⟨ht, rfl⟩ | ⟨ht, rfl⟩
    · have hless := takeR_less ht
      have hle : r.length ≤ s.size := by omega
      obtain ⟨fn, tmps, assign, body, hy, hR⟩ := hY pre (b, (s.size : Int) - (r.length : Int)) wr hJs.out (by omega)
      dsimp only [found] at hy
      have hq1 : (allR s.data.toList).1 = (pre ++ [(b, (s.size : Int) - (r.length : Int))]).map (·.1) ++ (allR r).1 := by
        rw [hr1, allR_some ht]
        simp
      have hq2 : (allR s.data.toList).2 = (allR r).2 := by rw [hr2, allR_some ht]
      obtain ⟨b2, r2, e2, hg2, hT2⟩ := take_got r (by omega)
      have HT2 := Lib.hid hT2
      have hz2 : (⟨r.toArray⟩ : ByteArray).size = r.length := rfl
      clear hT2 hr1 hr2 hr3 ht hz hg0
      have HQ1 := Lib.hid hq1
      have HQ2 := Lib.hid hq2
      clear hq1 hq2
      gi_wp2_with fail
      refine hR.mono ?_
      rintro e W3 (⟨rfl, hJ3, hk3'⟩ | ⟨rfl, hJx3⟩)
      · have hc3 : W3.heap[Bn]? = some (.cells #[.string s] 9 (0, 0)) := Eq.trans hk3' hcell
        clear hy hR
        gi_wp2_with fail
        refine ⟨trivial, (callsIn_wide.2 (HT2.out _)).mono ?_⟩
        rintro e w4 ⟨rfl, hb4⟩
        have hJ4 := hJg _ _ _ hJ3 hb4
        have hc4 := (hb4.block Bn (hlt0 hc3)).trans hc3
        gi_wp2_with fail
        gi_roundg (gk - 1)
        case measure => omega
        case rel => exact ⟨_, r, b2, r2, e2, rfl, rfl, rfl, by omega, by omega, by rw [List.length_append]; show pre.length + 1 + _ ≤ _; omega, ⟨hg2, HQ1.out, HQ2.out, endOf_snoc _ _⟩, hJ4, hc4⟩
      · clear hy hR
        gi_wp2_with fail
        refine bodyPost_ret (results_none rfl _ _ _) rfl ?_
        exact ⟨⟨_, rfl⟩, .inr ⟨_, trivial, hJx3⟩⟩
    · gi_wp2_with fail
      go_end0
      refine ⟨⟨_, rfl⟩, .inl ⟨pre, ⟨?_, ?_⟩, hJs.out⟩⟩
      · rw [hr1, allR_none ht, List.append_nil]
      · rw [hr2, allR_none ht, hr3, hz]

theorem records_stops (n : Nat) (hn : 1 ≤ n) (Bn : Nat) (s : ByteArray) (hs : s.size ≤ 30000) (w : World) (hc : w.heap[Bn]? = some (.cells #[.string s] 9 (0, 0))) :
    SeqStopsK Fence.wide n Try.prog 33 #[.pointer (some ⟨Bn, 0, none⟩)] found (KeepsAt Bn) (Told s.data.toList) (fun _ => True) 30001 w := fun l J Jx W hW hJ _ hY h0 => by
  have hlt : Bn < w.heap.size := (Array.getElem?_eq_some_iff.1 hc).1
  exact records_in n hn l Bn s hs J Jx W (fun xs A B hj hb => hJ xs A B none hj ⟨hb.os, hb.tape, hb.output, hb.size, fun q hq _ => hb.block q hq⟩ (fun r e => by cases e)) hY ((hW.block Bn hlt).trans hc) h0

end Go.Proofs.Ytckobhfomphcpaa
