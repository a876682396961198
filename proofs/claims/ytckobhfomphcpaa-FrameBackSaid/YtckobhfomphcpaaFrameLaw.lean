/-
  The walks of the statements' own few and laid.
-/
import Derived.Test.YtckobhfomphcpaaFrameHave
import Derived.Test.YtckobhfomphcpaaInts
namespace Go.Proofs.Ytckobhfomphcpaa
open Go.RowKit FrameMath PackMath CrcMath

/-- 20 texts of 200 bytes, at most. -/
def fewB (xs : List (List UInt8)) : Bool := decide (xs.length ≤ 20) && xs.all fun x => decide (x.length ≤ 200)

theorem fewB_iff {xs : List (List UInt8)} : fewB xs = true ↔ xs.length ≤ 20 ∧ ∀ x ∈ xs, x.length ≤ 200 := by
  unfold fewB
  rw [Bool.and_eq_true, decide_eq_true_iff, List.all_eq_true]
  simp only [decide_eq_true_iff]

theorem few_no {xs : List (List UInt8)} {k : Nat} (hk : k < xs.length) (h : 200 < xs[k].length) : fewB xs = false := by
  rw [← Bool.not_eq_true, fewB_iff]
  intro ⟨_, h2⟩
  have := h2 _ (List.getElem_mem hk)
  omega

theorem few_all {xs : List (List UInt8)} {k : Nat} (h1 : k = xs.length ∨ 21 ≤ k) (h : ∀ j (hj : j < xs.length), j < k → xs[j].length ≤ 200) : fewB xs = decide ((xs.length : Int) ≤ 20) := by
  by_cases hl : xs.length ≤ 20
  · rw [decide_eq_true (show (xs.length : Int) ≤ 20 by omega), fewB_iff]
    refine ⟨hl, fun x hx => ?_⟩
    obtain ⟨j, hj, rfl⟩ := List.getElem_of_mem hx
    exact h j hj (by omega)
  · rw [decide_eq_false (show ¬ (xs.length : Int) ≤ 20 by omega), ← Bool.not_eq_true, fewB_iff]
    exact fun h => hl h.1

set_option maxRecDepth 100000 in
set_option maxHeartbeats 800000 in
theorem few_any (A : Option Addr) (n c : Nat) (xs : List (List UInt8)) (hn : n ≤ maxLen) (hx : ∀ x ∈ xs, x.length ≤ maxLen) (w : World) (h : StrsIn w w.heap.size A n xs) :
    Calls Try.prog 16 #[.slice A n c] w fun e w' => e = .returned (.bool (fewB xs)) ∧ w = w' := by
  have hl := h.1
  have HX := Lib.hid h
  have HM := Lib.hid hx
  have HL := Lib.hid hl
  unfold maxLen at hn
  clear h hx hl
  go_enter Try.func16, Try.ntmps16
  go_wp2_with fail
  go_loop [3] (fun i => ∃ k : Nat, i = .int .i64 (k : Int) ∧ k ≤ n ∧ k ≤ 21 ∧ Hid (∀ j (hj : j < xs.length), j < k → xs[j].length ≤ 200)) (fun i => 22 - (intOf i).toNat)
  case atStart => exact ⟨0, rfl, by omega, by omega, fun j _ hj => by omega⟩
  case round =>
    obtain ⟨k, rfl, hk, hk2, hall⟩ := hrel
    by_cases hlt : k < n
    · by_cases h21 : k < 21
      · obtain ⟨g, o, rfl, hg, hcell⟩ := HX.out.2 (by omega)
        have l1 : k < xs.length := by have := HL.out; omega
        have e0 := hcell k l1
        have em := HM.out _ (List.getElem_mem l1)
        unfold maxLen at em
        obtain ⟨x, hxx⟩ : ∃ x, x = xs[k] := ⟨_, rfl⟩
        rw [← hxx] at e0 em
        have HE := Lib.hid hxx
        have hi0 : (0 : Int) ≤ (k : Int) := by omega
        have hi1 : (k : Int) < (n : Int) := by omega
        clear hcell hxx
        by_cases h2 : 200 < x.length
        · go_wp2_with fail
          go_ret
          exact ⟨by rw [few_no l1 (by rw [← HE.out]; exact h2)]; rfl, rfl⟩
        · go_wp2_with fail
          exact ⟨⟨k + 1, by go_num, by omega, by omega, fun j hj hjk => by
            by_cases e : j = k
            · subst e; rw [← HE.out]; omega
            · exact hall.out j hj (by omega)⟩, by simp [intOf]; omega⟩
      · go_wp2_with fail
        go_ret
        exact ⟨by rw [few_all (Or.inr (by omega)) hall.out, HL.out]; rfl, rfl⟩
    · go_wp2_with fail
      go_ret
      exact ⟨by rw [few_all (Or.inl (by have := HL.out; omega)) hall.out, HL.out]; rfl, rfl⟩

/-- Where records end. -/
def endsL (xs : List (List UInt8)) (k : Nat) : List Int := (List.range k).map fun j => (endOf xs (j + 1) : Int)

theorem endsL_len (xs : List (List UInt8)) (k : Nat) : (endsL xs k).length = k := by simp [endsL]
theorem endsL_succ (xs : List (List UInt8)) (k : Nat) : endsL xs (k + 1) = endsL xs k ++ [(endOf xs (k + 1) : Int)] := by
  unfold endsL
  rw [List.range_succ, List.map_append]
  rfl
theorem endsL_at (xs : List (List UInt8)) {k j : Nat} (h : j < (endsL xs k).length) : (endsL xs k)[j] = (endOf xs (j + 1) : Int) := by
  simp [endsL]

/-- Records, and where each ends. -/
def LaidPost (xs : List (List UInt8)) (w : World) (e : Ending) (w' : World) : Prop :=
  ∃ (A : Option Addr) (c : Nat), e = .returned (.tuple #[.string ⟨(recs xs).toArray⟩, .slice A xs.length c]) ∧ IntsIn w' w'.heap.size A xs.length (endsL xs xs.length) ∧ xs.length ≤ c ∧ c ≤ maxLen ∧ Below w.heap.size w w'

theorem recs_take_succ (xs : List (List UInt8)) {k : Nat} (h : k < xs.length) : recs (xs.take (k + 1)) = recs (xs.take k) ++ recL xs[k] := by
  rw [List.take_succ_eq_append_getElem h, recs_append]
  show _ ++ (recL xs[k] ++ []) = _
  rw [List.append_nil]

theorem int_infos : (Try.prog.info? 3).map (fun i => (i.zero, i.size, i.bytes)) = some (some (.int .i64 0), 1, 8) := by kernel_rfl

set_option maxRecDepth 100000 in
set_option maxHeartbeats 800000 in
theorem laid_any (H : FrameHave) (A : Option Addr) (n c : Nat) (xs : List (List UInt8)) (hn : n ≤ 3000) (hx : ∀ x ∈ xs, x.length ≤ 5000) (ht : (recs xs).length ≤ 10000) (w : World) (h : StrsIn w w.heap.size A n xs) :
    Calls Try.prog 17 #[.slice A n c] w (LaidPost xs w) := by
  obtain ⟨i0, hi0, hz0, hz1, hz2⟩ := info_parts int_infos
  have hl := h.1
  have HX := Lib.hid h
  have HM := Lib.hid hx
  have HL := Lib.hid hl
  clear h hx hl
  go_enter Try.func17, Try.ntmps17
  go_wp2_with fail
  go_loopg [4, 5, 6] (n + 1) (fun gk s ends i wr => ∃ k : Nat, i = .int .i64 (k : Int) ∧ gk + k = n + 1 ∧ k ≤ n ∧ s = .string ⟨(recs (xs.take k)).toArray⟩ ∧ wr.ownsRow w.heap.size 3 1 ends k (intV (endsL xs k)) ∧ Below w.heap.size w wr)
  case atStart => exact ⟨0, rfl, by omega, by omega, rfl, World.ownsRow_nil _ _ _ _, Below.refl _ _⟩
  case round =>
    obtain ⟨k, rfl, hgk, hk, rfl, hown, hB⟩ := hrel
    have HG := Lib.hid hgk
    clear hgk
    by_cases hlt : k < n
    · obtain ⟨g, o, rfl, hg, hcell⟩ := HX.out.2 (by omega)
      have l1 : k < xs.length := by have := HL.out; omega
      have e0 : wr.cell? ⟨g, o + k, none⟩ = some (.string ⟨xs[k].toArray⟩) := (hB.cell (p := ⟨g, o + k, none⟩) hg).trans (hcell k l1)
      have hP : Hid (∀ W : World, Calls Try.prog 9 #[.string ⟨xs[k].toArray⟩] W fun e w' => e = .returned (.tuple #[.string ⟨(recL xs[k]).toArray⟩, .int .i64 0]) ∧ Below W.heap.size W w') :=
        fun W => H.put ⟨xs[k].toArray⟩ W (HM.out _ (List.getElem_mem l1))
      have hs := recs_take_succ xs l1
      have hle : (recs (xs.take (k + 1))).length ≤ 10000 := by
        have q := endOf_mono xs (show k + 1 ≤ xs.length by omega) (Nat.le_refl _)
        rw [endOf_all] at q
        exact Nat.le_trans q ht
      have hadd : ∀ W : World, (Op.stringOp .add ⟨(recs (xs.take k)).toArray⟩ ⟨(recL xs[k]).toArray⟩).run Try.prog W = .ok (.string ⟨(recs (xs.take (k + 1))).toArray⟩) W := fun W => by
        rw [hs, List.length_append] at hle
        rw [run_string_add_sum W _ _ (by show (recs (xs.take k)).length + (recL xs[k]).length ≤ _; omega), mk_append_data, hs]
      obtain ⟨y, hy⟩ : ∃ y, y = recs (xs.take (k + 1)) := ⟨_, rfl⟩
      rw [← hy] at hadd hle
      have hend : (y.length : Int) = (endOf xs (k + 1) : Int) := by rw [hy]; rfl
      obtain ⟨r, hr⟩ : ∃ r, r = recL xs[k] := ⟨_, rfl⟩
      rw [← hr] at hadd hP
      obtain ⟨x, hxx⟩ : ∃ x, x = xs[k] := ⟨_, rfl⟩
      rw [← hxx] at e0 hP
      have HY := Lib.hid hy
      have HEnd := Lib.hid hend
      have hi0 : (0 : Int) ≤ (k : Int) := by omega
      have hi1 : (k : Int) < (n : Int) := by omega
      clear hcell hs hy hr hxx hend
      go_wp2_with fail
      refine (hP.out _).mono ?_
      rintro e w1 ⟨rfl, hb1⟩
      have hown1 := hown.kept (row := none) ⟨hb1.os, hb1.tape, hb1.output, hb1.size, fun q hq _ => hb1.block q hq⟩ (Classical.em _)
      have hB1 := below_step hB hb1
      have hsz := hB1.size
      have hm : k + 1 ≤ maxLen := by unfold maxLen; omega
      clear hown hB hb1 e0 hi0 hi1
      go_wp2_with (at_builtin; refine wpList_append_own _ rfl (.tmp 26) (.tmp 29) 39 rfl w.heap.size 3 i0 _ 1 8 Try.underlying39 hi0 hz0 hz1 hz2 rfl (by decide) _ _ _ rfl (hown1.alloc _) ⟨w1.heap.size, 0, none⟩ 1 1 (intV [(y.length : Int)]) rfl rfl (int_there w1 _ _) (int_one _) hm (by omega) (by simp; omega) ?_; intro v2 w2 hown2 hg2 _)
      have hB2 : Below w.heap.size w w2 := (hB1.alloc hB1.size _).grown hg2 (by simp; omega) (fun q hq => (hown1.lt q hq).1)
      rw [show intV (endsL xs k) ++ intV [(y.length : Int)] = intV (endsL xs (k + 1)) by rw [HEnd.out, endsL_succ]; simp [intV]] at hown2
      clear hown1 hg2 hB1 hsz hm
      go_roundg (gk - 1)
      case measure => have := HG.out; omega
      case rel => exact ⟨k + 1, by go_num, by have := HG.out; omega, by omega, by rw [HY.out], hown2, hB2⟩
    · have hk8 : k = n := by omega
      subst hk8
      obtain ⟨A', c', rfl, q1, q2, q3⟩ := ints_own hown
      clear hown
      go_wp2_with fail
      go_ret2
      have hxl := HL.out
      rw [List.take_of_length_le (by omega)]
      refine ⟨A', c', by rw [hxl]; rfl, by rw [hxl]; exact q1, by omega, q3, hB⟩

end Go.Proofs.Ytckobhfomphcpaa
