/-
  A record of which one byte is another one isn't found, if that is no byte of its length, nor is what is behind it; those ahead are: for all lists of texts (20 of 200 bytes at most; others are let go), places and bytes.
-/
import Derived.Test.YtckobhfomphcpaaFrameLaw
import Derived.Test.YtckobhfomphcpaaFrameRefTexts
import Derived.Test.YtckobhfomphcpaaByteRow
import Derived.OpenShut
namespace Go.Proofs.Ytckobhfomphcpaa.lawFrameTurned
open Go.RowKit FrameMath PackMath CrcMath

set_option maxHeartbeats 400000 in
theorem many (H : FrameHave) (A : Option Addr) (n c : Nat) (xs : List (List UInt8)) (cut y : Int) (hn : n ≤ maxLen) (hx : ∀ x ∈ xs, x.length ≤ maxLen) (w : World) (h : StrsIn w w.heap.size A n xs) (hf : fewB xs = false) :
    Calls Try.prog 5 #[.slice A n c, .int .u16 cut, .int .u8 y] w fun e w' => e = .returned (.bool true) ∧ Below w.heap.size w w' := by
  have HF : Hid (∀ W : World, Below w.heap.size w W → Calls Try.prog 16 #[.slice A n c] W fun e w' => e = .returned (.bool false) ∧ W = w') := fun W hb => by
    rw [← hf]
    exact few_any A n c xs hn hx W ((h.below hb).more hb.size)
  clear hn hx h hf
  go_enter Try.func5, Try.ntmps5
  go_wp2_with fail
  refine (H.shown _).mono ?_
  rintro e w1 ⟨rfl, hb1⟩
  go_wp2_with fail
  refine (HF.out _ hb1).mono ?_
  rintro e w2 ⟨rfl, rfl⟩
  go_wp2_with fail
  go_ret
  exact ⟨rfl, hb1⟩

set_option maxHeartbeats 400000 in
theorem empty (H : FrameHave) (A : Option Addr) (n c : Nat) (xs : List (List UInt8)) (cut y : Int) (hn : n ≤ maxLen) (hx : ∀ x ∈ xs, x.length ≤ maxLen) (w : World) (h : StrsIn w w.heap.size A n xs) (hf : fewB xs = true) (hl : n = 0) :
    Calls Try.prog 5 #[.slice A n c, .int .u16 cut, .int .u8 y] w fun e w' => e = .returned (.bool true) ∧ Below w.heap.size w w' := by
  have HF : Hid (∀ W : World, Below w.heap.size w W → Calls Try.prog 16 #[.slice A n c] W fun e w' => e = .returned (.bool true) ∧ W = w') := fun W hb => by
    rw [← hf]
    exact few_any A n c xs hn hx W ((h.below hb).more hb.size)
  subst hl
  clear hn hx h hf
  go_enter Try.func5, Try.ntmps5
  go_wp2_with fail
  refine (H.shown _).mono ?_
  rintro e w1 ⟨rfl, hb1⟩
  go_wp2_with fail
  refine (HF.out _ hb1).mono ?_
  rintro e w2 ⟨rfl, rfl⟩
  go_wp2_with fail
  go_ret
  exact ⟨rfl, hb1⟩

set_option maxHeartbeats 400000 in
theorem zero (H : FrameHave) (A : Option Addr) (n c : Nat) (xs : List (List UInt8)) (cut : Int) (hn : n ≤ maxLen) (hx : ∀ x ∈ xs, x.length ≤ maxLen) (w : World) (h : StrsIn w w.heap.size A n xs) (hf : fewB xs = true) (hl : 0 < n) :
    Calls Try.prog 5 #[.slice A n c, .int .u16 cut, .int .u8 0] w fun e w' => e = .returned (.bool true) ∧ Below w.heap.size w w' := by
  have HF : Hid (∀ W : World, Below w.heap.size w W → Calls Try.prog 16 #[.slice A n c] W fun e w' => e = .returned (.bool true) ∧ W = w') := fun W hb => by
    rw [← hf]
    exact few_any A n c xs hn hx W ((h.below hb).more hb.size)
  have hne : ((n : Int) == 0) = false := by rw [beq_eq_false_iff_ne]; omega
  clear hn hx h hf
  go_enter Try.func5, Try.ntmps5
  go_wp2_with fail
  refine (H.shown _).mono ?_
  rintro e w1 ⟨rfl, hb1⟩
  go_wp2_with fail
  refine (HF.out _ hb1).mono ?_
  rintro e w2 ⟨rfl, rfl⟩
  go_wp2_with fail
  go_ret
  exact ⟨rfl, hb1⟩

theorem laid_len {xs : List (List UInt8)} (h1 : xs.length ≤ 20) (h2 : ∀ x ∈ xs, x.length ≤ 200) : (recs xs).length ≤ 4280 := by
  have h := recs_len xs 200 h2
  have : xs.length * (200 + 14) ≤ 20 * 214 := Nat.mul_le_mul h1 (Nat.le_refl _)
  omega

theorem numL_head {n : Nat} (h : n ≤ 200) : (numL n).length = if 128 ≤ n then 2 else 1 := by
  unfold numL
  by_cases h1 : 128 ≤ n
  · rw [if_pos h1, numF_big 8 n h1, numF_small 8 (n / 128) (by omega)]
    rfl
  · rw [if_neg h1, numF_small 9 n (by omega)]
    rfl

theorem recs_pos {xs : List (List UInt8)} (h : 0 < xs.length) : 0 < (recs xs).length := by
  match xs, h with
  | b :: bs, _ =>
    have := (recL_lens b).1
    rw [recs_cons, List.length_append]
    omega

set_option maxRecDepth 100000 in
set_option maxHeartbeats 3200000 in
theorem core (H : FrameHave) (A : Option Addr) (n c : Nat) (hnc : n ≤ c) (xs : List (List UInt8)) (cut : Nat) (hcut : cut ≤ 65535) (y : UInt8) (hy : y.toNat ≠ 0) (hn0 : 0 < n) (hxl : xs.length = n) (h1 : xs.length ≤ 20) (h2 : ∀ x ∈ xs, x.length ≤ 200) (w : World) (h : StrsIn w w.heap.size A n xs) :
    Calls Try.prog 5 #[.slice A n c, .int .u16 (cut : Int), .int .u8 (y.toNat : Int)] w fun e w' => e = .returned (.bool true) ∧ Below w.heap.size w w' := by
  have hlen := laid_len h1 h2
  have hpos := recs_pos (xs := xs) (by omega)
  have h20 : n ≤ 20 := by omega
  have hmod := Nat.mod_lt cut hpos
  obtain ⟨k, hk⟩ : ∃ k, k = cut % (recs xs).length := ⟨_, rfl⟩
  obtain ⟨s, hs⟩ : ∃ s, s = recs xs := ⟨_, rfl⟩
  have hkl : k < s.length := by rw [hs, hk]; exact hmod
  have hk2 : (cut : Int) % (s.length : Int) = (k : Int) := by rw [hs, hk, Int.natCast_emod]
  have hsl : s.length ≤ 4280 := by rw [hs]; exact hlen
  obtain ⟨v, hv⟩ : ∃ v, v = s[k] ^^^ y := ⟨_, rfl⟩
  have hvx : bits .xor .u8 (s[k].toNat : Int) (y.toNat : Int) = (v.toNat : Int) := by rw [u8_xor_nat _ _ (UInt8.toNat_lt _) (UInt8.toNat_lt _), hv, UInt8.toNat_xor]
  have hvn : v ≠ s[k] := fun e => hy ((xor_same s[k] y).1 (hv ▸ e))
  have HF : Hid (∀ W : World, Below w.heap.size w W → Calls Try.prog 16 #[.slice A n c] W fun e w' => e = .returned (.bool true) ∧ W = w') := fun W hb => by
    rw [← fewB_iff.2 ⟨h1, h2⟩]
    exact few_any A n c xs (by unfold maxLen; omega) (fun x hx => by have := h2 x hx; unfold maxLen; omega) W ((h.below hb).more hb.size)
  have HL : Hid (∀ W : World, Below w.heap.size w W → Calls Try.prog 17 #[.slice A n c] W (fun e w' => ∃ (A' : Option Addr) (c' : Nat), e = .returned (.tuple #[.string ⟨s.toArray⟩, .slice A' n c']) ∧ IntsIn w' w'.heap.size A' n (endsL xs n) ∧ Below W.heap.size W w')) := fun W hb => by
    refine (laid_any H A n c xs (by omega) (fun x hx => by have := h2 x hx; omega) (by omega) W ((h.below hb).more hb.size)).mono ?_
    rintro e w' ⟨A', c', he, q1, _, _, q2⟩
    rw [hxl, ← hs] at he
    rw [hxl] at q1
    exact ⟨A', c', he, q1, q2⟩
  have HX := Lib.hid h
  have HXL := Lib.hid hxl
  have HS := Lib.hid hs
  have H2 := Lib.hid h2
  have HV := Lib.hid hvn
  have hne : ((n : Int) == 0) = false := by rw [beq_eq_false_iff_ne]; omega
  have hye : ((y.toNat : Int) == 0) = false := by rw [beq_eq_false_iff_ne]; omega
  have hse : ((s.length : Int) == 0) = false := by rw [beq_eq_false_iff_ne]; omega
  have hsp : (0 : Int) < (s.length : Int) := by omega
  have hcut2 : (0 : Int) ≤ (cut : Int) := by omega
  clear h hxl hlen hmod hk hs h1 h2 hv hvn hpos hy
  go_enter Try.func5, Try.ntmps5
  go_wp2_with fail
  refine (H.shown _).mono ?_
  rintro e w1 ⟨rfl, hb1⟩
  go_wp2_with fail
  refine (HF.out _ hb1).mono ?_
  rintro e w2 ⟨rfl, rfl⟩
  go_wp2_with fail
  refine (HL.out _ hb1).mono ?_
  rintro e w3 ⟨A', c', rfl, q1, hb3⟩
  have hB := below_step hb1 hb3
  clear hb1 hb3 HF HL
  obtain ⟨cap, w4, hrun, hby, hb4⟩ := bytes_of w3 ⟨s.toArray⟩
  have hc4 := (hby k hkl).1
  have hf4 := (hby k hkl).2
  have hback := (hby.set k v).back cap
  rw [List.length_set] at hback
  have hsz : (⟨s.toArray⟩ : ByteArray).size = s.length := rfl
  rw [hsz] at hrun
  have HBY := Lib.hid hby
  clear hby hsz
  go_wp2_with fail
  have hB5 : Below w.heap.size w (w4.setCell ⟨w3.heap.size, k, none⟩ (.int .u8 (v.toNat : Int))) := (below_step hB hb4).setCell hB.size _
  have q5 := q1.below (hb4.setCell (Nat.le_refl _) (p := ⟨w3.heap.size, k, none⟩) (.int .u8 (v.toNat : Int)))
  obtain ⟨g3, hg3⟩ : ∃ g, g = w3.heap.size := ⟨_, rfl⟩
  rw [← hg3] at hback hB5 q5 ⊢
  rw [hk2]
  generalize w4.setCell ⟨g3, k, none⟩ (.int .u8 (v.toNat : Int)) = w5 at hback hB5 q5 ⊢
  clear hk2 hcut2 hcut hB hb4 q1 hrun hc4 hf4 HBY hg3 hye hne hse hsp hvx
  go_loop [12, 13, 14] (fun wh us i => ∃ j m : Nat, i = .int .i64 (j : Int) ∧ j ≤ n ∧ wh = .int .i64 (m : Int) ∧ m ≤ j ∧ us = .int .i64 (endOf xs m : Int) ∧ endOf xs m ≤ k ∧ Hid (∀ t, m ≤ t → t < j → k < endOf xs (t + 1))) (fun _ _ i => n - (intOf i).toNat)
  case atStart => exact ⟨0, 0, rfl, by omega, rfl, by omega, by rw [endOf_zero]; rfl, by rw [endOf_zero]; omega, fun t _ ht => by omega⟩
  case round =>
    obtain ⟨j, m, rfl, hj, rfl, hm, rfl, hmk, hrest⟩ := hrel
    by_cases hlt : j < n
    · obtain ⟨g, o, rfl, hg, hcell⟩ := q5.2 (by omega)
      have e0 := hcell j (by rw [endsL_len]; exact hlt)
      rw [endsL_at] at e0
      have hi0 : (0 : Int) ≤ (j : Int) := by omega
      have hi1 : (j : Int) < (n : Int) := by omega
      clear hcell hback
      by_cases h : endOf xs (j + 1) ≤ k
      · have h' : (endOf xs (j + 1) : Int) ≤ (k : Int) := by omega
        go_wp2_with fail
        exact ⟨⟨j + 1, j + 1, by go_num, by omega, by go_num, by omega, rfl, h, fun t h1 h2 => by omega⟩, by simp [intOf]; omega⟩
      · have h' : ¬ (endOf xs (j + 1) : Int) ≤ (k : Int) := by omega
        go_wp2_with fail
        exact ⟨⟨j + 1, m, by go_num, by omega, rfl, by omega, rfl, hmk, fun t h1 h2 => by
          by_cases e : t = j
          · subst e; omega
          · exact hrest.out t h1 (by omega)⟩, by simp [intOf]; omega⟩
    · have hj2 : j = n := by omega
      subst hj2
      have hxl := HXL.out
      have hmn : m < j := by
        by_cases e : m = j
        · exfalso
          rw [e, ← hxl, endOf_all, ← HS.out] at hmk
          omega
        · omega
      have hml : m < xs.length := by omega
      have hnext := hrest.out m (Nat.le_refl _) hmn
      obtain ⟨g, o, rfl, hg, hcell⟩ := HX.out.2 (by omega)
      have e0 : w5.cell? ⟨g, o + m, none⟩ = some (.string ⟨xs[m].toArray⟩) := (hB5.cell (p := ⟨g, o + m, none⟩) hg).trans (hcell m (by omega))
      have hx200 := H2.out _ (List.getElem_mem (show m < xs.length by omega))
      have hhead := numL_head hx200
      obtain ⟨x, hx⟩ : ∃ x, x = xs[m] := ⟨_, rfl⟩
      rw [← hx] at e0 hx200 hhead
      have HXM := Lib.hid hx
      have hem : endOf xs m ≤ 4280 := by omega
      have hi0 : (0 : Int) ≤ (m : Int) := by omega
      have hi1 : (m : Int) < (j : Int) := by omega
      have hm0 : (m : Int) ≤ (c : Int) := by omega
      have hcase : (128 ≤ x.length ∧ (numL x.length).length = 2) ∨ (¬ 128 ≤ x.length ∧ (numL x.length).length = 1) := by
        by_cases e : 128 ≤ x.length
        · exact Or.inl ⟨e, by rw [hhead, if_pos e]⟩
        · exact Or.inr ⟨e, by rw [hhead, if_neg e]⟩
      have HN := Lib.hid hnext
      clear hcell hx hhead hnext hrest
      rcases hcase with ⟨hc1, hc2⟩ | ⟨hc1, hc2⟩
      all_goals
        have HC := Lib.hid hc2
        clear hc2
      · by_cases hkh : k < endOf xs m + 2
        · have hkh' : (k : Int) < (endOf xs m : Int) + 2 := by omega
          clear hback
          go_wp2_with fail
          go_ret
          exact ⟨rfl, hB5⟩
        · have hkh' : ¬ (k : Int) < (endOf xs m : Int) + 2 := by omega
          obtain ⟨r1, r2⟩ := allR_turned xs (fun x hx => by have := H2.out x hx; omega) k m (by omega) (by rw [← HXM.out, HC.out]; omega) HN.out (by rw [← HS.out]; exact hkl) v (fun e => HV.out (e.trans (List.getElem_of_eq HS.out.symm _)))
          have HA : Hid (∀ W : World, Calls Try.prog 13 #[.string ⟨(s.set k v).toArray⟩] W (AllPost (xs.take m) (endOf xs m) W)) := fun W => by
            have hl : (s.set k v).length = s.length := List.length_set
            have q := H.all ⟨(s.set k v).toArray⟩ W (by show (s.set k v).length ≤ 10000; omega)
            rw [show (⟨(s.set k v).toArray⟩ : ByteArray).data.toList = (recs xs).set k v by rw [HS.out], r1, r2, show (⟨(s.set k v).toArray⟩ : ByteArray).size = s.length from hl, ← HS.out] at q
            rw [show (s.length : Int) - ((s.length - endOf xs m : Nat) : Int) = (endOf xs m : Int) by omega] at q
            exact q
          have hmt : (xs.take m).length = m := by rw [List.length_take]; omega
          have hq : ∀ W : World, Below w.heap.size w W → StrsIn W W.heap.size (some ⟨g, o, none⟩) m (xs.take m) := fun W hb => ((HX.out.take (by omega)).below hb).more hb.size
          have HQ := Lib.hid hq
          have HMT := Lib.hid hmt
          clear hxl r1 r2 q5 hq hmt
          go_wp2_with fail
          refine (HA.out _).mono ?_
          rintro e w6 ⟨B, c4, rfl, q6, _, _, hb6⟩
          have hB6 := below_step hB5 hb6
          rw [HMT.out] at q6 ⊢
          clear hb6 hback
          go_wp2_with fail
          refine (refTexts B m c4 (xs.take m) (some ⟨g, o, none⟩) m c (xs.take m) (by omega) (by omega) _ q6 (HQ.out _ hB6)).mono ?_
          rintro e w7 ⟨rfl, hb7⟩
          rw [sameS_self]
          go_wp2_with fail
          go_ret
          exact ⟨rfl, below_step hB6 hb7⟩
      · by_cases hkh : k < endOf xs m + 1
        · have hkh' : (k : Int) < (endOf xs m : Int) + 1 := by omega
          clear hback
          go_wp2_with fail
          go_ret
          exact ⟨rfl, hB5⟩
        · have hkh' : ¬ (k : Int) < (endOf xs m : Int) + 1 := by omega
          obtain ⟨r1, r2⟩ := allR_turned xs (fun x hx => by have := H2.out x hx; omega) k m (by omega) (by rw [← HXM.out, HC.out]; omega) HN.out (by rw [← HS.out]; exact hkl) v (fun e => HV.out (e.trans (List.getElem_of_eq HS.out.symm _)))
          have HA : Hid (∀ W : World, Calls Try.prog 13 #[.string ⟨(s.set k v).toArray⟩] W (AllPost (xs.take m) (endOf xs m) W)) := fun W => by
            have hl : (s.set k v).length = s.length := List.length_set
            have q := H.all ⟨(s.set k v).toArray⟩ W (by show (s.set k v).length ≤ 10000; omega)
            rw [show (⟨(s.set k v).toArray⟩ : ByteArray).data.toList = (recs xs).set k v by rw [HS.out], r1, r2, show (⟨(s.set k v).toArray⟩ : ByteArray).size = s.length from hl, ← HS.out] at q
            rw [show (s.length : Int) - ((s.length - endOf xs m : Nat) : Int) = (endOf xs m : Int) by omega] at q
            exact q
          have hmt : (xs.take m).length = m := by rw [List.length_take]; omega
          have hq : ∀ W : World, Below w.heap.size w W → StrsIn W W.heap.size (some ⟨g, o, none⟩) m (xs.take m) := fun W hb => ((HX.out.take (by omega)).below hb).more hb.size
          have HQ := Lib.hid hq
          have HMT := Lib.hid hmt
          clear hxl r1 r2 q5 hq hmt
          go_wp2_with fail
          refine (HA.out _).mono ?_
          rintro e w6 ⟨B, c4, rfl, q6, _, _, hb6⟩
          have hB6 := below_step hB5 hb6
          rw [HMT.out] at q6 ⊢
          clear hb6 hback
          go_wp2_with fail
          refine (refTexts B m c4 (xs.take m) (some ⟨g, o, none⟩) m c (xs.take m) (by omega) (by omega) _ q6 (HQ.out _ hB6)).mono ?_
          rintro e w7 ⟨rfl, hb7⟩
          rw [sameS_self]
          go_wp2_with fail
          go_ret
          exact ⟨rfl, below_step hB6 hb7⟩

theorem walk0 (H : FrameHave) (A : Option Addr) (n c : Nat) (xs : List (List UInt8)) (cut y : Int) (w : World) (hnc : n ≤ c) (hc : c ≤ maxLen) (_hA : A = none → c = 0) (hx : ∀ x ∈ xs, x.length ≤ maxLen) (h : StrsIn w w.heap.size A n xs) (w1 : (Lit.int .u16 cut).wf = true) (w2 : (Lit.int .u8 y).wf = true) :
    Calls Try.prog 5 #[.slice A n c, .int .u16 cut, .int .u8 y] w fun e w' => e = .returned (.bool true) ∧ Below w.heap.size w w' := by
  cases hf : fewB xs with
  | false => exact many H A n c xs cut y (Nat.le_trans hnc hc) hx w h hf
  | true =>
    obtain ⟨f1, f2⟩ := fewB_iff.1 hf
    obtain ⟨k, rfl, hk⟩ := nat_of_int (n := cut) (m := 65535) (bounds_u16 w1)
    obtain ⟨b, rfl⟩ := byte_of_int (bounds_u8 w2)
    by_cases hn : n = 0
    · exact empty H A n c xs k b.toNat (Nat.le_trans hnc hc) hx w h hf hn
    · by_cases hb : b.toNat = 0
      · rw [hb]
        exact zero H A n c xs k (Nat.le_trans hnc hc) hx w h hf (by omega)
      · exact core H A n c hnc xs k (by omega) b hb (by omega) h.1 f1 f2 w h

end Go.Proofs.Ytckobhfomphcpaa.lawFrameTurned
