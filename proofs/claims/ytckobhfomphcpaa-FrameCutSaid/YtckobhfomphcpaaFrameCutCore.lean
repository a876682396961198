/-
  Of records that were laid one behind the other, cut off anywhere, those that are whole are found, in turn, and nothing else: for all lists of texts (20 of 200 bytes at most; others are let go) and places.
-/
import Derived.Test.YtckobhfomphcpaaFrameLaw
import Derived.Test.YtckobhfomphcpaaFrameRefTexts
import Derived.OpenShut
namespace Go.Proofs.Ytckobhfomphcpaa.lawFrameCut
open Go.RowKit FrameMath PackMath CrcMath

set_option maxHeartbeats 400000 in
theorem many (H : FrameHave) (A : Option Addr) (n c : Nat) (xs : List (List UInt8)) (cut : Int) (hn : n ≤ maxLen) (hx : ∀ x ∈ xs, x.length ≤ maxLen) (w : World) (h : StrsIn w w.heap.size A n xs) (hf : fewB xs = false) :
    Calls Try.prog 4 #[.slice A n c, .int .u16 cut] w fun e w' => e = .returned (.bool true) ∧ Below w.heap.size w w' := by
  have HF : Hid (∀ W : World, Below w.heap.size w W → Calls Try.prog 16 #[.slice A n c] W fun e w' => e = .returned (.bool false) ∧ W = w') := fun W hb => by
    rw [← hf]
    exact few_any A n c xs hn hx W ((h.below hb).more hb.size)
  clear hn hx h hf
  go_enter Try.func4, Try.ntmps4
  go_wp2_with fail
  refine (H.shown _).mono ?_
  rintro e w1 ⟨rfl, hb1⟩
  go_wp2_with fail
  refine (HF.out _ hb1).mono ?_
  rintro e w2 ⟨rfl, rfl⟩
  go_wp2_with fail
  go_ret
  exact ⟨rfl, hb1⟩

theorem laid_len {xs : List (List UInt8)} (h1 : xs.length ≤ 20) (h2 : ∀ x ∈ xs, x.length ≤ 200) : (recs xs).length ≤ 4280 := by
  have h := recs_len xs 200 h2
  have : xs.length * (200 + 14) ≤ 20 * 214 := Nat.mul_le_mul h1 (Nat.le_refl _)
  omega

set_option maxRecDepth 100000 in
set_option maxHeartbeats 1600000 in
theorem core (H : FrameHave) (A : Option Addr) (n c : Nat) (hnc : n ≤ c) (xs : List (List UInt8)) (cut : Nat) (hcut : cut ≤ 65535) (hxl : xs.length = n) (h1 : xs.length ≤ 20) (h2 : ∀ x ∈ xs, x.length ≤ 200) (w : World) (h : StrsIn w w.heap.size A n xs) :
    Calls Try.prog 4 #[.slice A n c, .int .u16 (cut : Int)] w fun e w' => e = .returned (.bool true) ∧ Below w.heap.size w w' := by
  have hlen := laid_len h1 h2
  have h20 : n ≤ 20 := by omega
  have hmod := Nat.mod_lt cut (show 0 < (recs xs).length + 1 by omega)
  obtain ⟨k, hk⟩ : ∃ k, k = cut % ((recs xs).length + 1) := ⟨_, rfl⟩
  obtain ⟨s, hs⟩ : ∃ s, s = recs xs := ⟨_, rfl⟩
  have hkl : k ≤ s.length := by rw [hs]; omega
  have hk2 : (cut : Int) % ((s.length : Int) + 1) = (k : Int) := by rw [hs, hk, Int.natCast_emod, Int.natCast_add]; rfl
  have hsl : s.length ≤ 4280 := by rw [hs]; exact hlen
  have HF : Hid (∀ W : World, Below w.heap.size w W → Calls Try.prog 16 #[.slice A n c] W fun e w' => e = .returned (.bool true) ∧ W = w') := fun W hb => by
    rw [← fewB_iff.2 ⟨h1, h2⟩]
    exact few_any A n c xs (by unfold maxLen; omega) (fun x hx => by have := h2 x hx; unfold maxLen; omega) W ((h.below hb).more hb.size)
  have HL : Hid (∀ W : World, Below w.heap.size w W → Calls Try.prog 17 #[.slice A n c] W (fun e w' => ∃ (A' : Option Addr) (c' : Nat), e = .returned (.tuple #[.string ⟨s.toArray⟩, .slice A' n c']) ∧ IntsIn w' w'.heap.size A' n (endsL xs n) ∧ Below W.heap.size W w')) := fun W hb => by
    refine (laid_any H A n c xs (by omega) (fun x hx => by have := h2 x hx; omega) (by omega) W ((h.below hb).more hb.size)).mono ?_
    rintro e w' ⟨A', c', he, q1, _, _, q2⟩
    rw [hxl, ← hs] at he
    rw [hxl] at q1
    exact ⟨A', c', he, q1, q2⟩
  have HX := Lib.hid h
  have HXL := Lib.hid hxl
  have HS := Lib.hid hs
  have H2 := Lib.hid h2
  have hcut2 : (0 : Int) ≤ (cut : Int) := by omega
  clear h hxl hlen hmod hk hs h1 h2
  go_enter Try.func4, Try.ntmps4
  go_wp2_with fail
  refine (H.shown _).mono ?_
  rintro e w1 ⟨rfl, hb1⟩
  go_wp2_with fail
  refine (HF.out _ hb1).mono ?_
  rintro e w2 ⟨rfl, rfl⟩
  go_wp2_with fail
  refine (HL.out _ hb1).mono ?_
  rintro e w3 ⟨A', c', rfl, q1, hb3⟩
  have hB := below_step hb1 hb3
  clear hb1 hb3 HF HL
  go_wp2_with fail
  rw [hk2]
  clear hk2 hcut2 hcut
  go_loop [9, 10, 11] (fun wh us i => ∃ j m : Nat, i = .int .i64 (j : Int) ∧ j ≤ n ∧ wh = .int .i64 (m : Int) ∧ m ≤ j ∧ us = .int .i64 (endOf xs m : Int) ∧ endOf xs m ≤ k ∧ Hid (∀ t, m ≤ t → t < j → k < endOf xs (t + 1))) (fun _ _ i => n - (intOf i).toNat)
  case atStart => exact ⟨0, 0, rfl, by omega, rfl, by omega, by rw [endOf_zero]; rfl, by rw [endOf_zero]; omega, fun t _ ht => by omega⟩
  case round =>
    obtain ⟨j, m, rfl, hj, rfl, hm, rfl, hmk, hrest⟩ := hrel
    by_cases hlt : j < n
    · obtain ⟨g, o, rfl, hg, hcell⟩ := q1.2 (by omega)
      have e0 := hcell j (by rw [endsL_len]; exact hlt)
      rw [endsL_at] at e0
      have hi0 : (0 : Int) ≤ (j : Int) := by omega
      have hi1 : (j : Int) < (n : Int) := by omega
      clear hcell
      by_cases h : endOf xs (j + 1) ≤ k
      · have h' : (endOf xs (j + 1) : Int) ≤ (k : Int) := by omega
        go_wp2_with fail
        exact ⟨⟨j + 1, j + 1, by go_num, by omega, by go_num, by omega, rfl, h, fun t h1 h2 => by omega⟩, by simp [intOf]; omega⟩
      · have h' : ¬ (endOf xs (j + 1) : Int) ≤ (k : Int) := by omega
        go_wp2_with fail
        exact ⟨⟨j + 1, m, by go_num, by omega, rfl, by omega, rfl, hmk, fun t h1 h2 => by
          by_cases e : t = j
          · subst e; omega
          · exact hrest.out t h1 (by omega)⟩, by simp [intOf]; omega⟩
    · have hj2 : j = n := by omega
      subst hj2
      have hxl := HXL.out
      obtain ⟨r1, r2⟩ := allR_cut xs (fun x hx => by have := H2.out x hx; omega) k m (by omega) hmk (fun h => hrest.out m (Nat.le_refl _) (by omega)) (by rw [← HS.out]; exact hkl)
      have hx : (⟨s.toArray⟩ : ByteArray).extract 0 k = ⟨(s.take k).toArray⟩ := extract_take _ k
      have HA : Hid (∀ W : World, Calls Try.prog 13 #[.string ⟨(s.take k).toArray⟩] W (AllPost (xs.take m) (endOf xs m) W)) := fun W => by
        have hl : (s.take k).length = k := by rw [List.length_take]; omega
        have q := H.all ⟨(s.take k).toArray⟩ W (by show (s.take k).length ≤ 10000; omega)
        rw [show (⟨(s.take k).toArray⟩ : ByteArray).data.toList = (recs xs).take k by rw [HS.out], r1, r2, show (⟨(s.take k).toArray⟩ : ByteArray).size = k from hl] at q
        rw [show (k : Int) - ((k - endOf xs m : Nat) : Int) = (endOf xs m : Int) by omega] at q
        exact q
      have hmt : (xs.take m).length = m := by rw [List.length_take]; omega
      have hm0 : (m : Int) ≤ (c : Int) := by omega
      have hq : ∀ W : World, Below w.heap.size w W → StrsIn W W.heap.size A m (xs.take m) := fun W hb => ((HX.out.take (by omega)).below hb).more hb.size
      have HQ := Lib.hid hq
      have HMT := Lib.hid hmt
      clear hxl r1 r2 hrest q1 hq hmt
      go_wp2_with fail
      refine (HA.out _).mono ?_
      rintro e w4 ⟨B, c4, rfl, q4, _, _, hb4⟩
      have hB4 := below_step hB hb4
      rw [HMT.out] at q4 ⊢
      clear hb4
      go_wp2_with fail
      refine (refTexts B m c4 (xs.take m) A m c (xs.take m) (by omega) (by omega) _ q4 (HQ.out _ hB4)).mono ?_
      rintro e w5 ⟨rfl, hb5⟩
      rw [sameS_self]
      go_wp2_with fail
      go_ret
      exact ⟨rfl, below_step hB4 hb5⟩

theorem walk0 (H : FrameHave) (A : Option Addr) (n c : Nat) (xs : List (List UInt8)) (cut : Int) (w : World) (hnc : n ≤ c) (hc : c ≤ maxLen) (_hA : A = none → c = 0) (hx : ∀ x ∈ xs, x.length ≤ maxLen) (h : StrsIn w w.heap.size A n xs) (w1 : (Lit.int .u16 cut).wf = true) :
    Calls Try.prog 4 #[.slice A n c, .int .u16 cut] w fun e w' => e = .returned (.bool true) ∧ Below w.heap.size w w' := by
  cases hf : fewB xs with
  | false => exact many H A n c xs cut (Nat.le_trans hnc hc) hx w h hf
  | true =>
    obtain ⟨f1, f2⟩ := fewB_iff.1 hf
    obtain ⟨k, rfl, hk⟩ := nat_of_int (n := cut) (m := 65535) (bounds_u16 w1)
    exact core H A n c hnc xs k (by omega) h.1 f1 f2 w h

end Go.Proofs.Ytckobhfomphcpaa.lawFrameCut
