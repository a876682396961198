/-
  With one entry less, or one inode, what was fine isn't: for all inodes and entries, 60 of each at most (others are let go), and each byte.
-/
import Derived.Test.YtoobmkkmomiigaaAuditFew
namespace Go.Proofs.Ytoobmkkmomiigaa.lawAuditLess
open Go.RowKit StampMath GraphMath OpMath

set_option maxRecDepth 100000 in
/-- All entries but one, in a slice of the call's own. -/
theorem without_any (A : Option Addr) (m d : Nat) (E : List Ent) (k : Nat) (hk : k < m) (hm : m ≤ 1000) (hd : m ≤ d) (_ : d ≤ maxLen) (w : World) (h : EntsIn w w.heap.size A m E) :
    Calls Try.prog 9 #[.slice A m d, .int .i64 (k : Int)] w (EntsNew (E.take k ++ E.drop (k + 1)) w) := by
  obtain ⟨i0, hi0, hz0, hz1, hz2⟩ := info_parts ent_infos
  have hl := h.len
  obtain ⟨gi, o, rfl, hg, hc⟩ := h.2 (by omega)
  have HI : Hid (EntsIn w w.heap.size (some ⟨gi, o, none⟩) m E) := h
  clear h hc
  have hk1 : 0 + k ≤ maxLen := by unfold maxLen; omega
  have hk3 : k + (m - (k + 1)) ≤ maxLen := by unfold maxLen; omega
  have hTk := TabIn.take (HI.out.below ((Below.refl w.heap.size w).alloc (Nat.le_refl _) (.cells #[] 33))) (show k ≤ m by omega)
  rw [← List.map_take] at hTk
  have hTd := TabIn.drop HI.out (show k + 1 ≤ m by omega)
  rw [← List.map_drop] at hTd
  have HT := Lib.hid hTd
  clear hTd
  by_cases hcut : k + 1 = d
  · have hdrop : E.drop (k + 1) = [] := List.drop_eq_nil_of_le (by omega)
    rw [hdrop, List.append_nil]
    have hk2 : 0 + k + 0 ≤ maxLen := by unfold maxLen; omega
    have hm1 : m = d := by omega
    go_enter Try.func9, Try.ntmps9
    go_wp2_with (first
      | (at_builtin; refine wpList_append_tab rfl (.tmp 6) (.tmp 9) 23 rfl w.heap.size 33 i0 _ 5 48 Try.underlying23 hi0 hz0 hz1 hz2 rfl (by decide) _ 0 [] rfl (own_empty w _ _ _ (Nat.le_refl _)) _ k _ w.heap.size ((E.take k).map entA) rfl hTk (fun h => by cases h) ent_sizes ent_ones hk1 (by omega) (by simp) ?_; intro v1 w1 hown1 hg1; have hb1 : Below w.heap.size w w1 := ((Below.refl _ _).alloc (Nat.le_refl _) _).grown hg1 (by simp) (fun q hq => ((own_empty w w.heap.size 33 5 (Nat.le_refl _)).lt q hq).1); have hT2 := HT.out.below hb1; have HO := Lib.hid hown1; have HB := Lib.hid hb1; clear hown1 hg1 hTk)
      | (at_builtin; refine wpList_append_tab rfl (.tmp 11) (.tmp 15) 23 rfl w.heap.size 33 i0 _ 5 48 Try.underlying23 hi0 hz0 hz1 hz2 rfl (by decide) _ _ _ rfl HO.out _ 0 _ w.heap.size (([] : List Ent).map entA) rfl (TabIn.nil 5 _ _ _) (fun h => by cases h) ent_sizes ent_ones hk2 (by omega) HB.out.size ?_; intro v2 w2 hown2 hg2; have hb2 : Below w.heap.size w w2 := HB.out.grown hg2 HB.out.size (fun q hq => (HO.out.lt q hq).1); have HP := Lib.hid (And.intro hown2 hb2); clear hown2 hg2 hb2))
    go_ret
    refine ⟨v2, rfl, ?_, HP.out.2⟩
    have h := HP.out.1
    simp only [List.nil_append, List.map_nil, List.append_nil, Nat.zero_add, Nat.add_zero] at h
    rw [show (E.take k).length = k by rw [List.length_take]; omega]
    exact h
  · have hk2 : 0 + k + (m - (k + 1)) ≤ maxLen := by unfold maxLen; omega
    have hk4 : k + 1 < d := by omega
    go_enter Try.func9, Try.ntmps9
    go_wp2_with (first
      | (at_builtin; refine wpList_append_tab rfl (.tmp 6) (.tmp 9) 23 rfl w.heap.size 33 i0 _ 5 48 Try.underlying23 hi0 hz0 hz1 hz2 rfl (by decide) _ 0 [] rfl (own_empty w _ _ _ (Nat.le_refl _)) _ k _ w.heap.size ((E.take k).map entA) rfl hTk (fun h => by cases h) ent_sizes ent_ones hk1 (by omega) (by simp) ?_; intro v1 w1 hown1 hg1; have hb1 : Below w.heap.size w w1 := ((Below.refl _ _).alloc (Nat.le_refl _) _).grown hg1 (by simp) (fun q hq => ((own_empty w w.heap.size 33 5 (Nat.le_refl _)).lt q hq).1); have hT2 := HT.out.below hb1; have HO := Lib.hid hown1; have HB := Lib.hid hb1; clear hown1 hg1 hTk)
      | (at_builtin; refine wpList_append_tab rfl (.tmp 11) (.tmp 15) 23 rfl w.heap.size 33 i0 _ 5 48 Try.underlying23 hi0 hz0 hz1 hz2 rfl (by decide) _ _ _ rfl HO.out _ (m - (k + 1)) _ w.heap.size ((E.drop (k + 1)).map entA) rfl hT2 (fun h => by cases h) ent_sizes ent_ones hk2 (by omega) HB.out.size ?_; intro v2 w2 hown2 hg2; have hb2 : Below w.heap.size w w2 := HB.out.grown hg2 HB.out.size (fun q hq => (HO.out.lt q hq).1); have HP := Lib.hid (And.intro hown2 hb2); clear hown2 hg2 hb2))
    go_ret
    refine ⟨v2, rfl, ?_, HP.out.2⟩
    have h := HP.out.1
    simp only [List.nil_append, Nat.zero_add] at h
    rw [← List.map_append] at h
    rw [show (E.take k ++ E.drop (k + 1)).length = k + (m - (k + 1)) by rw [List.length_append, List.length_take, List.length_drop]; omega]
    exact h

set_option maxRecDepth 100000 in
set_option maxHeartbeats 1600000 in
theorem walk0 (H : AuditHave) (A : Option Addr) (n c : Nat) (N : List Ino) (A' : Option Addr) (m d : Nat) (E : List Ent) (k : Int) (w : World) (ha : n ≤ c) (hc : c ≤ maxLen) (hN : ∀ x ∈ N, x.data.size ≤ maxLen) (hI : InosIn w w.heap.size A n N)
    (hb : m ≤ d) (hd : d ≤ maxLen) (hE : ∀ x ∈ E, x.name.size ≤ maxLen) (hJ : EntsIn w w.heap.size A' m E) (hk : (Lit.int .u8 k).wf = true) :
    Calls Try.prog 3 #[.slice A n c, .slice A' m d, .int .u8 k] w fun e w' => e = .returned (.bool true) ∧ Below w.heap.size w w' := by
  have hlI := hI.len
  have hlE := hJ.len
  obtain ⟨kn, rfl, hkn⟩ : ∃ kn : Nat, k = (kn : Int) ∧ kn < 256 := by
    have h : 0 ≤ k ∧ k ≤ 255 := by simpa [Lit.wf, IntKind.min, IntKind.max, IntKind.signed, IntKind.bits] using hk
    exact ⟨k.toNat, by omega, by omega⟩
  obtain ⟨i, hi'⟩ : ∃ i, i = kn % n := ⟨_, rfl⟩
  have hmod' : 0 < n → (kn : Int) % (n : Int) = (i : Int) := fun h0 => by
    rw [hi']
    rfl
  clear hk
  have SH := Lib.hid (fun W => H.shown W)
  have FW := Lib.hid (fun W => few_any A n c A' m d (by omega) (by omega) W)
  by_cases hf : n ≤ 60 ∧ m ≤ 60
  · have hGv : Given w A n N A' m E := ⟨hI, hJ, by omega, by omega, hN, hE⟩
    have HG := Lib.hid hGv
    clear hGv hI hJ hN hE
    rw [decide_eq_true hf] at FW
    go_enter Try.func3, Try.ntmps3
    go_wp2_with fail
    refine (SH.out _).mono ?_
    rintro e w1 ⟨rfl, hb1⟩
    go_wp2_with fail
    refine (FW.out _).mono ?_
    rintro e _ ⟨rfl, rfl⟩
    go_wp2_with fail
    refine (H.fine A n c N A' m d E _ (HG.out.below hb1)).mono ?_
    rintro e w2 ⟨b, rfl, hfine, hb2⟩
    have hB2 := below_step hb1 hb2
    clear hb1 hb2
    cases b with
    | false =>
      go_wp2_with fail
      go_ret
      exact ⟨rfl, hB2⟩
    | true =>
      have hF : fineP N E := hfine.1 rfl
      have hpos := hF.nonempty
      have HF := Lib.hid hF
      clear hF hfine
      obtain ⟨i0, hi0, hz0, hz1, hz2⟩ := info_parts ino_infos
      obtain ⟨gi, o, rfl, hg, -⟩ := HG.out.inos.2 (by omega)
      have hi : i < n := by rw [hi']; exact Nat.mod_lt _ (by omega)
      have hmod := hmod' (by omega)
      have hk1 : 0 + i ≤ maxLen := by unfold maxLen; omega
      have hG2 := HG.out.below hB2
      have hTk := TabIn.take (hG2.inos.below ((Below.refl w2.heap.size w2).alloc (Nat.le_refl _) (.cells #[] 31))) (show i ≤ n by omega)
      rw [← List.map_take] at hTk
      have hTd := TabIn.drop hG2.inos (show i + 1 ≤ n by omega)
      rw [← List.map_drop] at hTd
      have HT := Lib.hid hTd
      clear hTd hG2 hmod' hi'
      by_cases hcut : i + 1 = c
      · have hk2 : 0 + i + 0 ≤ maxLen := by unfold maxLen; omega
        obtain rfl : c = n := by omega
        go_upto_region 8 with (at_builtin; refine wpList_append_tab rfl (.tmp 30) (.tmp 33) 22 rfl w2.heap.size 31 i0 _ 6 56 Try.underlying22 hi0 hz0 hz1 hz2 rfl (by decide) _ 0 [] rfl (own_empty w2 _ _ _ (Nat.le_refl _)) _ i _ w2.heap.size ((N.take i).map inoA) rfl hTk (fun h => by cases h) ino_sizes ino_ones hk1 (by omega) (by simp) ?_; intro v3 w3 hown3 hg3; have hb3 : Below w2.heap.size w2 w3 := ((Below.refl _ _).alloc (Nat.le_refl _) _).grown hg3 (by simp) (fun q hq => ((own_empty w2 w2.heap.size 31 6 (Nat.le_refl _)).lt q hq).1); have hT2 := HT.out.below hb3; have HO := Lib.hid hown3; have HB := Lib.hid hb3; clear hown3 hg3 hb3 hTk)
        go_upto_region 9 with (at_builtin; refine wpList_append_tab rfl (.tmp 35) (.tmp 39) 22 rfl w2.heap.size 31 i0 _ 6 56 Try.underlying22 hi0 hz0 hz1 hz2 rfl (by decide) _ _ _ rfl HO.out _ 0 _ w2.heap.size (([] : List Ino).map inoA) rfl (TabIn.nil 6 _ _ _) (fun h => by cases h) ino_sizes ino_ones hk2 (by omega) HB.out.size ?_; intro v4 w4 hown4 hg4; have hb4 : Below w2.heap.size w2 w4 := HB.out.grown hg4 HB.out.size (fun q hq => (HO.out.lt q hq).1); have HP := Lib.hid (And.intro hown4 hb4); clear hown4 hg4 hb4)
        obtain ⟨L, hL⟩ : ∃ L, L = N.take i ++ N.drop (i + 1) := ⟨_, rfl⟩
        have hown : w4.ownsRow w2.heap.size 31 6 v4 L.length (flat (L.map inoA)) := by
          have h := HP.out.1
          simp only [List.nil_append, List.map_nil, List.append_nil, Nat.zero_add, Nat.add_zero] at h
          rw [← List.append_nil (N.take i), ← List.drop_eq_nil_of_le (show N.length ≤ i + 1 by omega)] at h
          rw [hL, show (N.take i ++ N.drop (i + 1)).length = i by rw [List.length_append, List.length_take, List.length_drop]; omega]
          exact h
        have hB4 := below_step hB2 HP.out.2
        obtain ⟨A2, c2, rfl, hin2, -⟩ := inos_own rfl hown
        have hsub : (∀ x ∈ L, x ∈ N) ∧ L.length ≤ c := by
          rw [hL]
          refine ⟨fun x hx => ?_, by rw [List.length_append, List.length_take, List.length_drop]; omega⟩
          rcases List.mem_append.1 hx with hx | hx
          · exact List.mem_of_mem_take hx
          · exact List.mem_of_mem_drop hx
        have HG4 := Lib.hid (given_own HG.out hB4 hin2 hsub.1 hsub.2)
        have HL : Hid (¬ fineP L E) := by
          show ¬ fineP L E
          rw [hL]
          exact HF.out.less_ino (by omega)
        clear hown hin2 hsub HP HO HB hT2 HT hL
        go_wp2_with fail
        refine (H.fine A2 L.length c2 L A' m d E _ HG4.out).mono ?_
        rintro e w5 ⟨b5, rfl, hf5, hb5⟩
        obtain rfl : b5 = false := by
          cases b5
          · rfl
          · exact absurd (hf5.1 rfl) HL.out
        have hB5 := below_step hB4 hb5
        clear hf5 hb5 HG4 hB4 hB2 hk1 hk2
        by_cases hm0 : m = 0
        · have hn1 : c = 1 := by
            have hE0 : E = [] := List.eq_nil_of_length_eq_zero (by omega)
            have h := HF.out
            rw [hE0] at h
            rw [← hlI]
            exact h.alone
          clear hlI hlE
          go_wp2_with fail
          go_ret
          exact ⟨rfl, hB5⟩
        · obtain ⟨j, hj'⟩ : ∃ j, j = kn % m := ⟨_, rfl⟩
          have hjm : (kn : Int) % (m : Int) = (j : Int) := by rw [hj']; rfl
          have hj : j < m := by rw [hj']; exact Nat.mod_lt _ (by omega)
          have hm1 : 1 ≤ m := by omega
          clear hj'
          go_wp2_with fail
          refine (without_any A' m d E j hj (by omega) hb hd _ ((HG.out.below hB5).ents)).mono ?_
          rintro e w6 ⟨v6, rfl, hown6, hb6⟩
          have hB6 := below_step hB5 hb6
          obtain ⟨M, hM⟩ : ∃ M, M = E.take j ++ E.drop (j + 1) := ⟨_, rfl⟩
          rw [← hM] at hown6
          obtain ⟨A6, c6, rfl, hin6, -⟩ := ents_own rfl hown6
          have hsub : (∀ x ∈ M, x ∈ E) ∧ M.length ≤ m := by
            rw [hM]
            refine ⟨fun x hx => ?_, by rw [List.length_append, List.length_take, List.length_drop]; omega⟩
            rcases List.mem_append.1 hx with hx | hx
            · exact List.mem_of_mem_take hx
            · exact List.mem_of_mem_drop hx
          have HG6 : Hid (Given w6 (some ⟨gi, o, none⟩) c N A6 M.length M) := ⟨(HG.out.below hB6).inos, hin6, HG.out.fewI, by have := HG.out.fewE; omega, HG.out.datas, fun x hx => HG.out.names x (hsub.1 x hx)⟩
          have HM : Hid (¬ fineP N M) := by
            show ¬ fineP N M
            rw [hM]
            exact HF.out.less_ent (by omega)
          clear hown6 hin6 hsub hM hb6
          go_wp2_with fail
          refine (H.fine _ c _ N A6 M.length c6 M _ HG6.out).mono ?_
          rintro e w7 ⟨b7, rfl, hf7, hb7⟩
          obtain rfl : b7 = false := by
            cases b7
            · rfl
            · exact absurd (hf7.1 rfl) HM.out
          have hB7 := below_step hB6 hb7
          clear hf7 hb7 HG6 hB5 hB6
          go_wp2_with fail
          go_ret
          exact ⟨rfl, hB7⟩
      · have hk2 : 0 + i + (n - (i + 1)) ≤ maxLen := by unfold maxLen; omega
        have hk4 : i + 1 < c := by omega
        go_upto_region 8 with (at_builtin; refine wpList_append_tab rfl (.tmp 30) (.tmp 33) 22 rfl w2.heap.size 31 i0 _ 6 56 Try.underlying22 hi0 hz0 hz1 hz2 rfl (by decide) _ 0 [] rfl (own_empty w2 _ _ _ (Nat.le_refl _)) _ i _ w2.heap.size ((N.take i).map inoA) rfl hTk (fun h => by cases h) ino_sizes ino_ones hk1 (by omega) (by simp) ?_; intro v3 w3 hown3 hg3; have hb3 : Below w2.heap.size w2 w3 := ((Below.refl _ _).alloc (Nat.le_refl _) _).grown hg3 (by simp) (fun q hq => ((own_empty w2 w2.heap.size 31 6 (Nat.le_refl _)).lt q hq).1); have hT2 := HT.out.below hb3; have HO := Lib.hid hown3; have HB := Lib.hid hb3; clear hown3 hg3 hb3 hTk)
        go_upto_region 9 with (at_builtin; refine wpList_append_tab rfl (.tmp 35) (.tmp 39) 22 rfl w2.heap.size 31 i0 _ 6 56 Try.underlying22 hi0 hz0 hz1 hz2 rfl (by decide) _ _ _ rfl HO.out _ (n - (i + 1)) _ w2.heap.size ((N.drop (i + 1)).map inoA) rfl hT2 (fun h => by cases h) ino_sizes ino_ones hk2 (by omega) HB.out.size ?_; intro v4 w4 hown4 hg4; have hb4 : Below w2.heap.size w2 w4 := HB.out.grown hg4 HB.out.size (fun q hq => (HO.out.lt q hq).1); have HP := Lib.hid (And.intro hown4 hb4); clear hown4 hg4 hb4)
        obtain ⟨L, hL⟩ : ∃ L, L = N.take i ++ N.drop (i + 1) := ⟨_, rfl⟩
        have hown : w4.ownsRow w2.heap.size 31 6 v4 L.length (flat (L.map inoA)) := by
          have h := HP.out.1
          simp only [List.nil_append, Nat.zero_add] at h
          rw [← List.map_append] at h
          rw [hL, show (N.take i ++ N.drop (i + 1)).length = i + (n - (i + 1)) by rw [List.length_append, List.length_take, List.length_drop]; omega]
          exact h
        have hB4 := below_step hB2 HP.out.2
        obtain ⟨A2, c2, rfl, hin2, -⟩ := inos_own rfl hown
        have hsub : (∀ x ∈ L, x ∈ N) ∧ L.length ≤ n := by
          rw [hL]
          refine ⟨fun x hx => ?_, by rw [List.length_append, List.length_take, List.length_drop]; omega⟩
          rcases List.mem_append.1 hx with hx | hx
          · exact List.mem_of_mem_take hx
          · exact List.mem_of_mem_drop hx
        have HG4 := Lib.hid (given_own HG.out hB4 hin2 hsub.1 hsub.2)
        have HL : Hid (¬ fineP L E) := by
          show ¬ fineP L E
          rw [hL]
          exact HF.out.less_ino (by omega)
        clear hown hin2 hsub HP HO HB hT2 HT hL
        go_wp2_with fail
        refine (H.fine A2 L.length c2 L A' m d E _ HG4.out).mono ?_
        rintro e w5 ⟨b5, rfl, hf5, hb5⟩
        obtain rfl : b5 = false := by
          cases b5
          · rfl
          · exact absurd (hf5.1 rfl) HL.out
        have hB5 := below_step hB4 hb5
        clear hf5 hb5 HG4 hB4 hB2 hk1 hk2
        by_cases hm0 : m = 0
        · have hn1 : n = 1 := by
            have hE0 : E = [] := List.eq_nil_of_length_eq_zero (by omega)
            have h := HF.out
            rw [hE0] at h
            rw [← hlI]
            exact h.alone
          clear hlI hlE
          go_wp2_with fail
          go_ret
          exact ⟨rfl, hB5⟩
        · obtain ⟨j, hj'⟩ : ∃ j, j = kn % m := ⟨_, rfl⟩
          have hjm : (kn : Int) % (m : Int) = (j : Int) := by rw [hj']; rfl
          have hj : j < m := by rw [hj']; exact Nat.mod_lt _ (by omega)
          have hm1 : 1 ≤ m := by omega
          clear hj'
          go_wp2_with fail
          refine (without_any A' m d E j hj (by omega) hb hd _ ((HG.out.below hB5).ents)).mono ?_
          rintro e w6 ⟨v6, rfl, hown6, hb6⟩
          have hB6 := below_step hB5 hb6
          obtain ⟨M, hM⟩ : ∃ M, M = E.take j ++ E.drop (j + 1) := ⟨_, rfl⟩
          rw [← hM] at hown6
          obtain ⟨A6, c6, rfl, hin6, -⟩ := ents_own rfl hown6
          have hsub : (∀ x ∈ M, x ∈ E) ∧ M.length ≤ m := by
            rw [hM]
            refine ⟨fun x hx => ?_, by rw [List.length_append, List.length_take, List.length_drop]; omega⟩
            rcases List.mem_append.1 hx with hx | hx
            · exact List.mem_of_mem_take hx
            · exact List.mem_of_mem_drop hx
          have HG6 : Hid (Given w6 (some ⟨gi, o, none⟩) n N A6 M.length M) := ⟨(HG.out.below hB6).inos, hin6, HG.out.fewI, by have := HG.out.fewE; omega, HG.out.datas, fun x hx => HG.out.names x (hsub.1 x hx)⟩
          have HM : Hid (¬ fineP N M) := by
            show ¬ fineP N M
            rw [hM]
            exact HF.out.less_ent (by omega)
          clear hown6 hin6 hsub hM hb6
          go_wp2_with fail
          refine (H.fine _ n _ N A6 M.length c6 M _ HG6.out).mono ?_
          rintro e w7 ⟨b7, rfl, hf7, hb7⟩
          obtain rfl : b7 = false := by
            cases b7
            · rfl
            · exact absurd (hf7.1 rfl) HM.out
          have hB7 := below_step hB6 hb7
          clear hf7 hb7 HG6 hB5 hB6
          go_wp2_with fail
          go_ret
          exact ⟨rfl, hB7⟩
  · clear hI hJ hN hE
    rw [decide_eq_false hf] at FW
    go_enter Try.func3, Try.ntmps3
    go_wp2_with fail
    refine (SH.out _).mono ?_
    rintro e w1 ⟨rfl, hb1⟩
    go_wp2_with fail
    refine (FW.out _).mono ?_
    rintro e _ ⟨rfl, rfl⟩
    go_wp2_with fail
    go_ret
    exact ⟨rfl, hb1⟩

end Go.Proofs.Ytoobmkkmomiigaa.lawAuditLess
