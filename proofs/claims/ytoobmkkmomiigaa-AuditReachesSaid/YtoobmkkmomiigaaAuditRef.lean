/-
  The walks of the document's own In and Ints; stamps and numbers in memory.
-/
import Derived.Test.YtoobmkkmomiigaaAuditMath
import Derived.Test.YtoobmkkmomiigaaGraphSlices
import Derived.Test.YtoobmkkmomiigaaHeld
import Derived.Deep.LoopGhost
import Derived.Deep.QuietTactic
import Derived.BigQuiet
import Derived.Deep.Cut
import Derived.Test.YtoobmkkmomiigaaInts
namespace Go.Proofs.Ytoobmkkmomiigaa
open Go.RowKit StampMath GraphMath OpMath

/-- The slice reads as stamps, and lies below block B. -/
def StsIn (W : World) (B : Nat) (A : Option Addr) (n : Nat) (l : List St) : Prop := TabIn 2 W B A n (l.map stA)

theorem StsIn.len {W : World} {B : Nat} {A : Option Addr} {n : Nat} {l : List St} (h : StsIn W B A n l) : l.length = n := by have := h.1; rwa [List.length_map] at this

def StAt (W : World) (g p : Nat) (s : St) : Prop := W.cell? ⟨g, p, none⟩ = some (.int .i64 s.1) ∧ W.cell? ⟨g, p + 1, none⟩ = some (.int .i64 s.2)

theorem StsIn.row {W : World} {B : Nat} {A : Option Addr} {n : Nat} {l : List St} (h : StsIn W B A n l) (hn : 0 < n) : ∃ g o, A = some ⟨g, o, none⟩ ∧ g < B ∧ ∀ k (hk : k < l.length), StAt W g (o + k * 2) l[k] := by
  obtain ⟨g, o, e, hg, hc⟩ := h.2 hn
  refine ⟨g, o, e, hg, fun k hk => ?_⟩
  have hk' : k < (l.map stA).length := by simpa using hk
  have he : (l.map stA)[k] = stA l[k] := by simp
  exact ⟨hc k hk' 0 _ (by rw [he]; rfl), hc k hk' 1 _ (by rw [he]; rfl)⟩

theorem StAt.below {W W' : World} {B g p : Nat} {s : St} (h : StAt W g p s) (hb : Below B W W') (hg : g < B) : StAt W' g p s :=
  ⟨(hb.cell (p := ⟨g, p, none⟩) hg).trans h.1, (hb.cell (p := ⟨g, p + 1, none⟩) hg).trans h.2⟩

theorem sts_own {W : World} {base : Nat} {v : Value} {n : Nat} {l : List St} (hn : l.length = n) (h : W.ownsRow base 29 2 v n (flat (l.map stA))) :
    ∃ (A : Option Addr) (c : Nat), v = .slice A n c ∧ StsIn W W.heap.size A n l ∧ n ≤ c ∧ c ≤ maxLen ∧ (A = Option.none → c = 0) :=
  tab_own (k := 2) (fun r hr => by obtain ⟨e, _, rfl⟩ := List.mem_map.1 hr; rfl) (by simpa using hn) h

theorem mem_snoc {l : List St} {k : Nat} (h : k < l.length) {s : St} (hn : s ∉ l.take k) (hne : l[k] ≠ s) : s ∉ l.take (k + 1) := by
  rw [List.take_succ_eq_append_getElem h]
  intro hm
  rcases List.mem_append.1 hm with hm | hm
  · exact hn hm
  · exact hne (List.mem_singleton.1 hm).symm

set_option maxRecDepth 100000 in
theorem refIn (A : Option Addr) (n c : Nat) (l : List St) (s : St) (hn : n ≤ 1000) (w : World) (h : StsIn w w.heap.size A n l) :
    Calls Try.prog 11 #[.slice A n c, .agg (stA s)] w fun e w' => e = .returned (.bool (decide (s ∈ l))) ∧ Below w.heap.size w w' := by
  have hl := h.len
  have HI : Hid (StsIn w w.heap.size A n l) := h
  clear h
  have hb0 : Held w [(w.heap.size, .cells (stA s) 29)] (w.alloc (.cells #[.int .i64 s.1, .int .i64 s.2] 29)) := (Held.refl w).alloc (.cells (stA s) 29) rfl
  unfold stA
  go_enter Try.func11, Try.ntmps11
  go_wp2_with fail
  go_loopg [5] (n + 1) (fun gk i wr => ∃ k : Nat, i = .int .i64 (k : Int) ∧ gk + k = n + 1 ∧ k ≤ n ∧ Hid (s ∉ l.take k) ∧ Held w [(w.heap.size, .cells (stA s) 29)] wr)
  case atStart => exact ⟨0, rfl, by omega, by omega, show s ∉ l.take 0 by simp, hb0⟩
  case round =>
    obtain ⟨k, rfl, hgk, hk, hnone, hH⟩ := hrel
    clear hb0
    obtain ⟨c0, c1⟩ := two_cells (g := w.heap.size) (hH.at 0 rfl)
    by_cases hlt : k < n
    · obtain ⟨gi, o, rfl, hg, hrow⟩ := HI.out.row (by omega)
      have hrk := (hrow k (by omega)).below hH.below hg
      by_cases hq : l[k] = s
      · have hm : Hid (decide (s ∈ l) = true) := decide_eq_true (by rw [← hq]; exact List.getElem_mem _)
        obtain ⟨t, ht⟩ : ∃ t, l[k] = t := ⟨_, rfl⟩
        rw [ht] at hrk hq
        have hv := eqSt_yes hq
        clear hrow hnone ht
        obtain ⟨e0, e1⟩ := hrk
        go_wp2_with fail
        go_quiet (fail)
        go_wp2_with fail
        go_ret
        exact ⟨by rw [hm.out]; rfl, below_drewN' hH.below _⟩
      · have hv := eqSt_no hq
        have hn2 := mem_snoc (by omega) hnone.out hq
        have HN : Hid (s ∉ l.take (k + 1)) := hn2
        obtain ⟨t, ht⟩ : ∃ t, l[k] = t := ⟨_, rfl⟩
        rw [ht] at hrk hq hv
        clear hrow hnone ht hn2
        obtain ⟨e0, e1⟩ := hrk
        go_wp2_with fail
        go_quiet (fail)
        go_wp2_with fail
        go_roundg (gk - 1)
        case measure => omega
        case rel => exact ⟨k + 1, by go_num, by omega, by omega, HN.out, hH.drewN _⟩
    · have hm : Hid (decide (s ∈ l) = false) := decide_eq_false (by have h := hnone.out; rwa [List.take_of_length_le (by omega)] at h)
      go_wp2_with fail
      go_ret
      exact ⟨by rw [hm.out]; rfl, hH.below⟩

theorem ints_diff {a b : List Int} {k : Nat} (ha : k < a.length) (hb : k < b.length) (h : a[k] ≠ b[k]) : a ≠ b := fun e => h (by subst e; rfl)

set_option maxRecDepth 100000 in
theorem refInts (A : Option Addr) (n c : Nat) (a : List Int) (A' : Option Addr) (m d : Nat) (b : List Int) (_ : n ≤ 1000) (hm : m ≤ 1000) (w : World) (h : IntsIn w w.heap.size A n a) (h' : IntsIn w w.heap.size A' m b) :
    Calls Try.prog 13 #[.slice A n c, .slice A' m d] w fun e w' => e = .returned (.bool (decide (a = b))) ∧ Below w.heap.size w w' := by
  have hl := h.1
  have hl' := h'.1
  by_cases hnm : n = m
  · have HA : Hid (IntsIn w w.heap.size A n a) := h
    have HB : Hid (IntsIn w w.heap.size A' m b) := h'
    clear h h'
    go_enter Try.func13, Try.ntmps13
    go_wp2_with fail
    go_loopg [5] (n + 1) (fun gk i wr => ∃ k : Nat, i = .int .i64 (k : Int) ∧ gk + k = n + 1 ∧ k ≤ n ∧ Hid (a.take k = b.take k) ∧ Hid (Below w.heap.size w wr))
    case atStart => exact ⟨0, rfl, by omega, by omega, show a.take 0 = b.take 0 by simp, Below.refl _ _⟩
    case round =>
      obtain ⟨k, rfl, hgk, hk, hsame, hH⟩ := hrel
      by_cases hlt : k < n
      · obtain ⟨g1, o1, rfl, hg1, hrow1⟩ := HA.out.2 (by omega)
        obtain ⟨g2, o2, rfl, hg2, hrow2⟩ := HB.out.2 (by omega)
        have e1 := (hH.out.cell (p := ⟨g1, o1 + k, none⟩) hg1).trans (hrow1 k (by omega))
        have e2 := (hH.out.cell (p := ⟨g2, o2 + k, none⟩) hg2).trans (hrow2 k (by omega))
        by_cases hq : a[k] = b[k]
        · have HN : Hid (a.take (k + 1) = b.take (k + 1)) := by
            show a.take (k + 1) = b.take (k + 1)
            rw [List.take_succ_eq_append_getElem (by omega), List.take_succ_eq_append_getElem (by omega), hsame.out, hq]
          rw [← hq] at e2
          obtain ⟨t, ht⟩ : ∃ t, a[k] = t := ⟨_, rfl⟩
          rw [ht] at e1 e2
          clear hrow1 hrow2 hsame hq ht
          go_wp2_with fail
          go_quiet (fail)
          go_wp2_with fail
          go_roundg (gk - 1)
          case measure => omega
          case rel => exact ⟨k + 1, by go_num, by omega, by omega, HN.out, below_drewN' hH.out _⟩
        · have hm2 : Hid (decide (a = b) = false) := decide_eq_false (ints_diff (by omega) (by omega) hq)
          obtain ⟨t, ht⟩ : ∃ t, a[k] = t := ⟨_, rfl⟩
          obtain ⟨u, hu⟩ : ∃ u, b[k] = u := ⟨_, rfl⟩
          rw [ht] at e1 hq
          rw [hu] at e2 hq
          clear hrow1 hrow2 hsame ht hu
          go_wp2_with fail
          go_quiet (fail)
          go_wp2_with fail
          go_ret
          exact ⟨by rw [hm2.out]; rfl, below_drewN' hH.out _⟩
      · have hm2 : Hid (decide (a = b) = true) := decide_eq_true (by have h := hsame.out; rwa [List.take_of_length_le (by omega), List.take_of_length_le (by omega)] at h)
        go_wp2_with fail
        go_ret
        exact ⟨by rw [hm2.out]; rfl, hH.out⟩
  · have hne : Hid (decide (a = b) = false) := decide_eq_false fun e => hnm (by rw [← hl, ← hl', e])
    clear h h'
    go_enter Try.func13, Try.ntmps13
    go_wp2_with fail
    go_ret
    exact ⟨by rw [hne.out]; rfl, Below.refl _ _⟩

end Go.Proofs.Ytoobmkkmomiigaa
