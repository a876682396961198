/-
  The greatest of some stamps is one of them, and no other one is above; of none it is the zero one: for all lists of stamps, of 200 at most; longer ones are let go.
-/
import Derived.Test.YtgfgcfmifebnbaaStampCodeMax
import Derived.Test.YtgfgcfmifebnbaaStampCode2
import Derived.Test.YtgfgcfmifebnbaaStampMaxMath
import Derived.Test.YtgfgcfmifebnbaaStampSlices
import Derived.ProofKit
import Derived.OpenShut
import Derived.Deep.RegionHeld3
import Derived.Deep.QuietTactic
import Derived.BigQuiet
import Derived.Deep.LoopGhost
namespace Go.Proofs.Ytgfgcfmifebnbaa.lawStampMax
open Go.RowKit StampMath PackMath

set_option maxRecDepth 100000 in
set_option maxHeartbeats 400000 in
theorem long (H : StampHave) (A : Option Addr) (n c : Nat) (h : 200 < n) (hn : n ≤ maxLen) (w : World) :
    Calls Try.prog 7 #[.slice A n c] w fun e w' => e = .returned (.bool true) ∧ Below w.heap.size w w' := by
  unfold maxLen at hn
  go_enter Try.func7, Try.ntmps7
  go_wp2_with fail
  refine (H.shown _).mono ?_
  rintro e w1 ⟨rfl, hb1⟩
  go_wp2_with fail
  go_ret
  exact ⟨rfl, hb1⟩

set_option maxRecDepth 100000 in
set_option maxHeartbeats 800000 in
theorem none_there (H : StampHave) (M : StampMaxHave) (A : Option Addr) (c : Nat) (hc : c ≤ maxLen) (w : World) :
    Calls Try.prog 7 #[.slice A 0 c] w fun e w' => e = .returned (.bool true) ∧ Below w.heap.size w w' := by
  have HM : Hid (∀ W : World, Calls Try.prog 20 #[.slice A 0 c] W fun e w' => e = .returned (.agg #[.int .i64 0, .int .i64 0]) ∧ Below W.heap.size W w') :=
    fun W => M.max A 0 c [] W (by omega) (by omega) hc ⟨rfl, fun h => absurd h (by omega)⟩
  clear hc
  go_enter Try.func7, Try.ntmps7
  go_wp2_with fail
  refine (H.shown _).mono ?_
  rintro e w1 ⟨rfl, hb1⟩
  go_wp2_with fail
  refine (HM.out _).mono ?_
  rintro e w2 ⟨rfl, hb2⟩
  go_wp2_with fail
  go_loopg [5, 6] 1 (fun _ b i wr => b = .bool true ∧ i = .int .i64 0 ∧ Below w.heap.size w wr)
  case atStart => exact ⟨rfl, rfl, (below_step hb1 hb2).alloc (below_step hb1 hb2).size _⟩
  case round =>
    obtain ⟨rfl, rfl, hB⟩ := hrel
    clear hb1 hb2
    go_wp2_with fail
    go_ret
    exact ⟨rfl, hB⟩

set_option maxRecDepth 100000 in
set_option maxHeartbeats 1600000 in
theorem some_there (H : StampHave) (M : StampMaxHave) (g o n c : Nat) (xs : List (Int × Int)) (hn : n ≤ 200) (hn0 : 0 < n) (hc : n ≤ c) (hcm : c ≤ maxLen) (w : World) (hx : PairsIn w w.heap.size (some ⟨g, o, none⟩) n xs) (hg : g < w.heap.size)
    (hcell : ∀ j (h : j < xs.length), w.cell? ⟨g, o + j * 2, none⟩ = some (.int .i64 xs[j].1) ∧ w.cell? ⟨g, o + j * 2 + 1, none⟩ = some (.int .i64 xs[j].2)) :
    Calls Try.prog 7 #[.slice (some ⟨g, o, none⟩) n c] w fun e w' => e = .returned (.bool true) ∧ Below w.heap.size w w' := by
  have hne0 : xs ≠ [] := fun e => by have := hx.1; rw [e] at this; simp at this; omega
  have HSA := Lib.hid (fun k (hk : n ≤ k) => seen_all hne0 k (by rw [hx.1]; exact hk))
  have HGE := Lib.hid (maxL_ge (xs := xs))
  have HST := Lib.hid (seen_step xs (maxL xs))
  obtain ⟨mt, hmt⟩ : ∃ x, x = (maxL xs).1 := ⟨_, rfl⟩
  obtain ⟨mr, hmr⟩ : ∃ x, x = (maxL xs).2 := ⟨_, rfl⟩
  have HMM : Hid (maxL xs = (mt, mr)) := by show maxL xs = (mt, mr); rw [hmt, hmr]
  have HM : Hid (∀ W : World, Below w.heap.size w W → Calls Try.prog 20 #[.slice (some ⟨g, o, none⟩) n c] W fun e w' => e = .returned (.agg #[.int .i64 mt, .int .i64 mr]) ∧ Below W.heap.size W w') := fun W hW => by
    rw [hmt, hmr]
    exact M.max _ n c xs W (by omega) hc hcm ((hx.below hW).more hW.size)
  have hxl := hx.1
  have hnz : ((n : Int) == 0) = false := by rw [beq_eq_false_iff_ne]; omega
  have HCELL := Lib.hid hcell
  clear hx hcell hmt hmr hne0 hc hcm
  go_enter Try.func7, Try.ntmps7
  go_wp2_with fail
  refine (H.shown _).mono ?_
  rintro e w1 ⟨rfl, hb1⟩
  go_wp2_with fail
  refine (HM.out _ hb1).mono ?_
  rintro e w2 ⟨rfl, hb2⟩
  go_wp2_with fail
  have hA2 := below_step hb1 hb2
  clear hb1 hb2
  go_loopg [5, 6] (n + 1) (fun gk b i wr => ∃ k : Nat, i = .int .i64 (k : Int) ∧ gk + k = n + 1 ∧ k ≤ n ∧ b = .bool (seenB xs (mt, mr) k) ∧
    wr.heap[w2.heap.size]? = some (.cells #[.int .i64 mt, .int .i64 mr] 23 (0, 0)) ∧ Below w.heap.size w wr)
  case atStart => exact ⟨0, rfl, by omega, by omega, rfl, heap_alloc_new w2 _, hA2.alloc hA2.size _⟩
  case round =>
    obtain ⟨k, rfl, hgk, hk, rfl, h2, hB⟩ := hrel
    have HG := Lib.hid hgk
    clear hgk
    have c20 : wr.cell? ⟨w2.heap.size, 0, none⟩ = some (.int .i64 mt) := cell_of_row _ _ 0 _ _ (0, 0) h2
    have c21 : wr.cell? ⟨w2.heap.size, 1, none⟩ = some (.int .i64 mr) := cell_of_row _ _ 1 _ _ (0, 0) h2
    by_cases hlt : k < n
    · obtain ⟨e0, e1⟩ := HCELL.out k (by omega)
      obtain ⟨et, hte⟩ : ∃ et, et = (xs[k]'(by omega)).1 := ⟨_, rfl⟩
      obtain ⟨er, hre⟩ : ∃ er, er = (xs[k]'(by omega)).2 := ⟨_, rfl⟩
      rw [← hte] at e0
      rw [← hre] at e1
      have d0 : wr.cell? ⟨g, o + k * 2, none⟩ = some (.int .i64 et) := (hB.cell (p := ⟨g, o + k * 2, none⟩) hg).trans e0
      have d1 : wr.cell? ⟨g, o + k * 2 + 1, none⟩ = some (.int .i64 er) := (hB.cell (p := ⟨g, o + k * 2 + 1, none⟩) hg).trans e1
      have hst := HST.out k (by omega)
      rw [HMM.out, ← hte, ← hre] at hst
      have hge := HGE.out (xs[k]'(by omega)) (List.getElem_mem _)
      unfold Le at hge
      rw [HMM.out, ← hte, ← hre] at hge
      obtain ⟨v, hv⟩ : ∃ v, v = cmp et er mt mr := ⟨_, rfl⟩
      rw [← hv] at hge
      have hvd : ¬ 0 < v := by omega
      have HL : Hid (∀ W : World, Calls Try.prog 16 #[.agg #[.int .i64 et, .int .i64 er], .agg #[.int .i64 mt, .int .i64 mr]] W fun e w' => e = .returned (.int .i64 v) ∧ Below W.heap.size W w') := fun W => by rw [hv]; exact H.compare _ _ _ _ W
      obtain ⟨b, hb⟩ : ∃ b, b = seenB xs (mt, mr) k := ⟨_, rfl⟩
      obtain ⟨q, hq⟩ : ∃ q, q = seenB xs (mt, mr) (k + 1) := ⟨_, rfl⟩
      simp only at hst
      rw [← hb, ← hq] at hst
      rw [← hb]
      have HQ := Lib.hid hq
      have hi0 : (0 : Int) ≤ (k : Int) := by omega
      have hi1 : (k : Int) < (n : Int) := by omega
      clear e0 e1 hte hre hb hq hge hv
      cases b
      · have hcase : ((et == mt) = false ∧ q = false) ∨ ((et == mt) = true ∧ (er == mr) = false ∧ q = false) ∨ ((et == mt) = true ∧ (er == mr) = true ∧ q = true) := by
          rw [hst]
          cases h1 : et == mt <;> cases h2 : er == mr <;> simp
        clear hst
        rcases hcase with ⟨h3, hh⟩ | ⟨h3, h4, hh⟩ | ⟨h3, h4, hh⟩
        all_goals
          have HH := Lib.hid hh
          clear hh
          go_wp2_with fail
          go_quiet (fail)
          go_wp2_with fail
          have hS0 : ((wr.drewN nq).drew.cell? ⟨w2.heap.size, 0, none⟩ = some (.int .i64 mt) ∧ (wr.drewN nq).drew.cell? ⟨w2.heap.size, 1, none⟩ = some (.int .i64 mr) ∧ (wr.drewN nq).drew.cell? ⟨g, o + k * 2, none⟩ = some (.int .i64 et) ∧ (wr.drewN nq).drew.cell? ⟨g, o + k * 2 + 1, none⟩ = some (.int .i64 er)) ∧ KeptFrom wr (wr.drewN nq).drew :=
            ⟨⟨c20, c21, d0, d1⟩, (below_drewN' (Below.refl _ _) nq).drew⟩
          go_region_held3 (fun W => (W.cell? ⟨w2.heap.size, 0, none⟩ = some (.int .i64 mt) ∧ W.cell? ⟨w2.heap.size, 1, none⟩ = some (.int .i64 mr) ∧ W.cell? ⟨g, o + k * 2, none⟩ = some (.int .i64 et) ∧ W.cell? ⟨g, o + k * 2 + 1, none⟩ = some (.int .i64 er)) ∧ KeptFrom wr W) (first | assumption | (refine ⟨⟨?_, ?_, ?_, ?_⟩, ?_⟩ <;> assumption))
            (first
              | (go_at_call 16; (with_reducible refine (HL.out _).mono ?_); rintro e w' ⟨rfl, hb⟩; have hS := kept_call4 hb (by assumption)))
          have hS2 : (_ ∧ _ ∧ _ ∧ _) ∧ KeptFrom wr _ := ‹(_ ∧ _ ∧ _ ∧ _) ∧ KeptFrom wr _›
          have hKB := kept_below hS2.2
          have q2 := (hKB.block w2.heap.size (heap_lt h2)).trans h2
          have qB := below_step hB hKB
          clear hS0 c20 c21 d0 d1 h2 hB hS2 hKB
          go_wp2_with fail
          go_roundg (gk - 1)
          case measure => have := HG.out; omega
          case rel => exact ⟨k + 1, by go_num, by have := HG.out; omega, by omega, by rw [← HQ.out, HH.out], q2, qB⟩
      · have HH : Hid (q = true) := by show q = true; rw [hst]; rfl
        clear hst
        go_wp2_with fail
        go_quiet (fail)
        go_wp2_with fail
        have hS0 : ((wr.drewN nq).drew.cell? ⟨w2.heap.size, 0, none⟩ = some (.int .i64 mt) ∧ (wr.drewN nq).drew.cell? ⟨w2.heap.size, 1, none⟩ = some (.int .i64 mr) ∧ (wr.drewN nq).drew.cell? ⟨g, o + k * 2, none⟩ = some (.int .i64 et) ∧ (wr.drewN nq).drew.cell? ⟨g, o + k * 2 + 1, none⟩ = some (.int .i64 er)) ∧ KeptFrom wr (wr.drewN nq).drew :=
          ⟨⟨c20, c21, d0, d1⟩, (below_drewN' (Below.refl _ _) nq).drew⟩
        go_region_held3 (fun W => (W.cell? ⟨w2.heap.size, 0, none⟩ = some (.int .i64 mt) ∧ W.cell? ⟨w2.heap.size, 1, none⟩ = some (.int .i64 mr) ∧ W.cell? ⟨g, o + k * 2, none⟩ = some (.int .i64 et) ∧ W.cell? ⟨g, o + k * 2 + 1, none⟩ = some (.int .i64 er)) ∧ KeptFrom wr W) (first | assumption | (refine ⟨⟨?_, ?_, ?_, ?_⟩, ?_⟩ <;> assumption))
          (first
            | (go_at_call 16; (with_reducible refine (HL.out _).mono ?_); rintro e w' ⟨rfl, hb⟩; have hS := kept_call4 hb (by assumption)))
        have hS2 : (_ ∧ _ ∧ _ ∧ _) ∧ KeptFrom wr _ := ‹(_ ∧ _ ∧ _ ∧ _) ∧ KeptFrom wr _›
        have hKB := kept_below hS2.2
        have q2 := (hKB.block w2.heap.size (heap_lt h2)).trans h2
        have qB := below_step hB hKB
        clear hS0 c20 c21 d0 d1 h2 hB hS2 hKB
        go_wp2_with fail
        go_roundg (gk - 1)
        case measure => have := HG.out; omega
        case rel => exact ⟨k + 1, by go_num, by have := HG.out; omega, by omega, by rw [← HQ.out, HH.out], q2, qB⟩
    · have hs : seenB xs (mt, mr) k = true := by rw [← HMM.out]; exact HSA.out k (by omega)
      rw [hs]
      clear hs
      go_wp2_with fail
      go_ret
      exact ⟨rfl, hB⟩

theorem walk (A : Option Addr) (n c : Nat) (xs : List (Int × Int)) (w : World) (hc : n ≤ c) (hcm : c ≤ maxLen) (hx : PairsIn w w.heap.size A n xs) :
    Calls Try.prog 7 #[.slice A n c] w fun e w' => e = .returned (.bool true) ∧ Below w.heap.size w w' := by
  by_cases h : 200 < n
  · exact long stampHave A n c h (by omega) w
  · by_cases h0 : n = 0
    · subst h0
      exact none_there stampHave stampMaxHave A c hcm w
    · obtain ⟨g, o, rfl, hg, hcell⟩ := hx.2 (by omega)
      exact some_there stampHave stampMaxHave g o n c xs (by omega) (by omega) hc hcm w hx hg hcell
end Go.Proofs.Ytgfgcfmifebnbaa.lawStampMax

namespace Go.Proofs.Ytgfgcfmifebnbaa.lawStampMax
open Go.ChangeShapes Go.WideShapes Go.ChangeAt Go.RowKit
open Go.ChangeMaps (open_string shut_string)

theorem own : ownKnob Try.prog.godebug = none := by kernel_rfl
theorem laidOut : laidOutB Try.prog = true := by kernel_rfl

set_option maxRecDepth 100000 in
theorem lifted (os : Os) (started : os.Started) (H : Type) (enc : TypeId × Value → H) :
    ReturnsInHanded {} Try.checked os 7 .any (Rows.stampMaxSpec.pre6 enc Try.prog Try.f7 Rows.stampMaxRow.domain false) (Rows.stampMaxSpec.post enc Try.prog Try.f7 false true false false) := by
  refine returnsInHanded_of_change (C := Try.checked) own started (by kernel_rfl) Try.func7
    (ChangeSpec.witness6 (enc := enc) (C := Try.checked) false ⟨#[], #[.slice none 0 0], []⟩ 8 (by kernel_rfl) (by kernel_rfl) (by kernel_rfl) (by kernel_rfl)) ?_
  intro W base args ds gs before hval0 hW hcnd _
  have hval : ∀ (j : Nat) t v, Try.f7.params[j]? = some t → args[j]? = some v → Value.okWide Try.prog W .any base t v := hval0
  have hW' := hW
  obtain ⟨p, q, hA0, hV, rfl, hfz, hnd⟩ := hW
  have hA : DataW.TrodAll enc Try.prog W 0 (fun _ => true) true Try.f7.params.toList args.toList ds p := hA0
  rw [Try.params7] at hA hval
  obtain ⟨v0, vs0, d0, ds0, p0, q0, hargs, rfl, rfl, h0, r0⟩ := trodAll_cons hA
  obtain ⟨rfl, rfl, rfl⟩ := trodAll_nil r0
  obtain rfl : args = #[v0] := by cases args; simp_all
  obtain ⟨rfl, rfl⟩ := trodVars_none hV
  have k0 := h0
  have lt0 : ∀ x ∈ p0, x.block < W.heap.size := by obtain ⟨m, hm⟩ := k0; exact DataW.trod_lt m _ _ _ hm
  obtain ⟨a0A, a0n, a0c, a0x, rfl, w0a, w0b, w0x⟩ := open_stamps (hval 0 39 v0 rfl rfl) h0
  clear hA0 hval0
  simp only [List.append_nil] at hW'
  refine (walk a0A a0n a0c a0x W w0a w0b w0x).mono fun e W' ⟨he, hb⟩ => ?_
  subst he
  exact ⟨_, rfl, _, _, _, [], _, [], hW', trodAll_mk1 (shut_bool Try.underlying4 _), (trodAll_cons_mk (Below.trod laidOut (by kernel_rfl) (of_decide_eq_true (by kernel_rfl)) k0 hb lt0) trodAll_mk0), rfl, hb.frame _, fun h => by cases h⟩

theorem proved : Rows.StampMaxSaid :=
  OpenClaim.holds_of_wide 7 Try.f7 rfl rfl rfl rfl rfl rfl rfl ⟨rfl, rfl, rfl, rfl, rfl⟩ rfl rfl rfl rfl rfl (by kernel_rfl) Try.func7 (by kernel_rfl)
    (of_decide_eq_true (by kernel_rfl)) (by unfold Func.isWrapper; first | (rw [if_pos (by decide +kernel)]; kernel_rfl) | (rw [if_neg (by decide +kernel)]; exact ⟨rfl, rfl⟩))
    (fun os started H enc _ => lifted os started H enc)
#print axioms proved
end Go.Proofs.Ytgfgcfmifebnbaa.lawStampMax
