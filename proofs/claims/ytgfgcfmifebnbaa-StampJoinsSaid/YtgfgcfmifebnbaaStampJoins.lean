/-
  The greatest of two lists of stamps together is the greater one of both; of a list in another order it is the same: for all lists of 1 to 100 stamps; others are let go.
-/
import Derived.Test.YtgfgcfmifebnbaaStampCodeMax
import Derived.Test.YtgfgcfmifebnbaaStampCode2
import Derived.Test.YtgfgcfmifebnbaaStampMaxMath
import Derived.Test.YtgfgcfmifebnbaaStampSlices
import Derived.Test.YtgfgcfmifebnbaaStampFlat
import Derived.ProofKit
import Derived.OpenShut
import Derived.Deep.RegionHeld3
import Derived.Deep.LoopGhost
namespace Go.Proofs.Ytgfgcfmifebnbaa.lawStampJoins
open Go.RowKit StampMath PackMath

set_option maxRecDepth 100000 in
set_option maxHeartbeats 800000 in
theorem let_go (H : StampHave) (A : Option Addr) (n c : Nat) (A' : Option Addr) (n' c' : Nat) (h : n = 0 ∨ n' = 0 ∨ 100 < n ∨ 100 < n') (hn : n ≤ maxLen) (hn' : n' ≤ maxLen) (w : World) :
    Calls Try.prog 8 #[.slice A n c, .slice A' n' c'] w fun e w' => e = .returned (.bool true) ∧ Below w.heap.size w w' := by
  unfold maxLen at hn hn'
  have hcase : (((n : Int) == 0) = true) ∨ (((n : Int) == 0) = false ∧ ((n' : Int) == 0) = true) ∨ (((n : Int) == 0) = false ∧ ((n' : Int) == 0) = false ∧ 100 < n) ∨ (((n : Int) == 0) = false ∧ ((n' : Int) == 0) = false ∧ n ≤ 100 ∧ 100 < n') := by
    simp only [beq_iff_eq, beq_eq_false_iff_ne]
    omega
  clear h
  rcases hcase with h1 | ⟨h1, h2⟩ | ⟨h1, h2, h3⟩ | ⟨h1, h2, h3, h4⟩
  all_goals
    go_enter Try.func8, Try.ntmps8
    go_wp2_with fail
    refine (H.shown _).mono ?_
    rintro e w1 ⟨rfl, hb1⟩
    go_wp2_with fail
    go_ret
    exact ⟨rfl, hb1⟩

theorem stamp_info : (Try.prog.info? 23).map (fun i => (i.zero, i.size, i.bytes)) = some (some (.agg #[.int .i64 0, .int .i64 0]), 2, 16) := by kernel_rfl

theorem kept_alloc2 {w W : World} {a b : Addr} {u v : Value} (o : Obj) (h : (W.cell? a = some u ∧ W.cell? b = some v) ∧ KeptFrom w W) : ((W.alloc o).cell? a = some u ∧ (W.alloc o).cell? b = some v) ∧ KeptFrom w (W.alloc o) :=
  ⟨⟨cell_alloc h.1.1, cell_alloc h.1.2⟩, (kept_below h.2).alloc (kept_below h.2).size o⟩

theorem pair_new (w : World) (T : TypeId) (t r t' r' : Int) : PairsIn (w.alloc (.cells #[.int .i64 t, .int .i64 r, .int .i64 t', .int .i64 r'] T)).drew (w.alloc (.cells #[.int .i64 t, .int .i64 r, .int .i64 t', .int .i64 r'] T)).drew.heap.size (some ⟨w.heap.size, 0, none⟩) 2 [(t, r), (t', r')] :=
  ⟨rfl, fun _ => ⟨w.heap.size, 0, rfl, heap_lt (heap_alloc_new w _), fun j hj => by
    have hj2 : j = 0 ∨ j = 1 := by simp at hj; omega
    rcases hj2 with rfl | rfl
    · exact ⟨cell_of_row _ _ 0 _ _ (0, 0) (heap_alloc_new w _), cell_of_row _ _ 1 _ _ (0, 0) (heap_alloc_new w _)⟩
    · exact ⟨cell_of_row _ _ 2 _ _ (0, 0) (heap_alloc_new w _), cell_of_row _ _ 3 _ _ (0, 0) (heap_alloc_new w _)⟩⟩⟩

theorem new_pair (w : World) (T : TypeId) (a b : Int) : ∀ j u, (flat [(a, b)])[j]? = some u → (w.alloc (.cells #[.int .i64 a, .int .i64 b] T)).cell? (Addr.add ⟨w.heap.size, 0, none⟩ j) = some u :=
  flat_at fun j hj => by
    have hj0 : j = 0 := by simpa using hj
    subst hj0
    exact ⟨cell_of_row _ _ 0 _ _ (0, 0) (heap_alloc_new w _), cell_of_row _ _ 1 _ _ (0, 0) (heap_alloc_new w _)⟩

theorem back_step {W : World} {B : Nat} {T : TypeId} {v : Value} {N r : Nat} {zs : List (Int × Int)} {a b : Int} (hr : r < zs.length) (hN : zs.length = N) (ha : a = zs[r].1) (hb : b = zs[r].2)
    (h : W.ownsRow B T 2 v (N - (r + 1) + 1) (flat (zs.drop (r + 1)).reverse ++ flat [(a, b)])) : W.ownsRow B T 2 v (N - r) (flat (zs.drop r).reverse) := by
  rw [flat_append, show N - (r + 1) + 1 = N - r by omega] at h
  rw [List.drop_eq_getElem_cons hr, List.reverse_cons, show zs[r] = (a, b) from Prod.ext ha.symm hb.symm]
  exact h

set_option maxRecDepth 100000 in
set_option maxHeartbeats 1600000 in
theorem core (H : StampHave) (M : StampMaxHave) (g o n c : Nat) (xs : List (Int × Int)) (g' o' n' c' : Nat) (ys : List (Int × Int)) (hn : n ≤ 100) (hn0 : 0 < n) (hc : n ≤ c) (hcm : c ≤ maxLen)
    (hn' : n' ≤ 100) (hn0' : 0 < n') (hc' : n' ≤ c') (hcm' : c' ≤ maxLen) (w : World)
    (hx : PairsIn w w.heap.size (some ⟨g, o, none⟩) n xs) (hg : g < w.heap.size) (hcell : ∀ j (h : j < xs.length), w.cell? ⟨g, o + j * 2, none⟩ = some (.int .i64 xs[j].1) ∧ w.cell? ⟨g, o + j * 2 + 1, none⟩ = some (.int .i64 xs[j].2))
    (hy : PairsIn w w.heap.size (some ⟨g', o', none⟩) n' ys) (hg' : g' < w.heap.size) (hcell' : ∀ j (h : j < ys.length), w.cell? ⟨g', o' + j * 2, none⟩ = some (.int .i64 ys[j].1) ∧ w.cell? ⟨g', o' + j * 2 + 1, none⟩ = some (.int .i64 ys[j].2)) :
    Calls Try.prog 8 #[.slice (some ⟨g, o, none⟩) n c, .slice (some ⟨g', o', none⟩) n' c'] w fun e w' => e = .returned (.bool true) ∧ Below w.heap.size w w' := by
  have hxl := hx.1
  have hyl := hy.1
  have hnz : ((n : Int) == 0) = false := by rw [beq_eq_false_iff_ne]; omega
  have hnz' : ((n' : Int) == 0) = false := by rw [beq_eq_false_iff_ne]; omega
  obtain ⟨i0, hi0, hz0, hz1, hz2⟩ := info_parts stamp_info
  have hm1 : 0 + n ≤ maxLen := by unfold maxLen; omega
  have hm2 : n + n' ≤ maxLen := by unfold maxLen; omega
  have HCELL := Lib.hid hcell
  have HCELL' := Lib.hid hcell'
  have HX := Lib.hid hx
  have HY := Lib.hid hy
  clear hcell hcell' hx hy
  go_enter Try.func8, Try.ntmps8
  go_wp2_with fail
  refine (H.shown _).mono ?_
  rintro e w1 ⟨rfl, hb1⟩
  have c1 : ∀ j u, (flat xs)[j]? = some u → (w1.alloc (.cells #[] 23)).cell? (Addr.add ⟨g, o, none⟩ j) = some u :=
    flat_at fun j hj => ⟨((hb1.alloc hb1.size _).cell (p := ⟨g, o + j * 2, none⟩) hg).trans (HCELL.out j hj).1, ((hb1.alloc hb1.size _).cell (p := ⟨g, o + j * 2 + 1, none⟩) hg).trans (HCELL.out j hj).2⟩
  have hz1w := hb1.size
  go_wp2_with (first
    | (at_builtin; refine wpList_append_own _ rfl (.tmp 30) (.tmp 31) 39 rfl w1.heap.size 23 i0 _ 2 16 Try.underlying39 hi0 hz0 hz1 hz2 rfl (by decide) _ _ _ rfl (World.ownsRow_made w1 #[] 0 (Nat.le_refl _) (by decide) rfl) ⟨g, o, none⟩ n c (flat xs) rfl (by rw [flat_length, hxl]) c1 (flat_one xs) hm1 (by omega) (by simp) ?_; intro v2 w2 hown2 hg2 _; have hB2 : Below w.heap.size w w2 := (hb1.alloc hb1.size _).grown hg2 (by simp; omega) (fun q hq => Nat.le_trans hz1w ((World.ownsRow_made (e := 23) (size := 2) w1 #[] 0 (Nat.le_refl _) (by decide) rfl).lt q hq).1); have hz2w := hg2.size; simp only [Nat.zero_add, List.nil_append] at hown2; clear hg2 c1)
    | (at_builtin; refine wpList_append_own _ rfl (.tmp 32) (.tmp 33) 39 rfl w1.heap.size 23 i0 _ 2 16 Try.underlying39 hi0 hz0 hz1 hz2 rfl (by decide) _ _ _ rfl hown2 ⟨g', o', none⟩ n' c' (flat ys) rfl (by rw [flat_length, hyl]) ?c2 (flat_one ys) hm2 (by omega) ?c3 ?_; (exact flat_at fun j hj => ⟨(hB2.cell (p := ⟨g', o' + j * 2, none⟩) hg').trans (HCELL'.out j hj).1, (hB2.cell (p := ⟨g', o' + j * 2 + 1, none⟩) hg').trans (HCELL'.out j hj).2⟩); (simp at hz2w; omega); intro v3 w3 hown3 hg3 _; have hB3 : Below w.heap.size w w3 := hB2.grown hg3 (by simp at hz2w; omega) (fun q hq => Nat.le_trans hz1w (hown2.lt q hq).1); rw [flat_append] at hown3; obtain ⟨ga, capa, cura, rfl, hba, hga, hca, hcam, hal, hblk, hcells⟩ := pairs_own hown3 (by omega); clear hown2 hg3 hown3 hB2 hb1 hz2w hba))
  obtain ⟨zs, hzs⟩ : ∃ zs, zs = xs ++ ys := ⟨_, rfl⟩
  rw [← hzs] at hal hcells
  have HZS := Lib.hid hzs
  have HAC := Lib.hid hcells
  clear hzs hcells hi0 hz0 hz1 hz2 hblk
  obtain ⟨i0, hi0, hz0, hz1, hz2⟩ := info_parts stamp_info
  have HN := Lib.hid (show n + n' ≤ 200 by omega)
  go_loopg [7, 8] (n + n' + 1) (fun gk v i wr => ∃ q : Nat, i = .int .i64 ((q : Int) - 1) ∧ gk = q + 1 ∧ q ≤ n + n' ∧ wr.ownsRow w3.heap.size 23 2 v (n + n' - q) (flat (zs.drop q).reverse) ∧ Below w3.heap.size w3 wr)
  case atStart =>
    refine ⟨n + n', by go_num, rfl, Nat.le_refl _, ?_, Below.refl _ _⟩
    rw [Nat.sub_self, List.drop_of_length_le (by omega)]
    exact World.ownsRow_nil _ _ _ _
  case round =>
    obtain ⟨q, rfl, hgk, hq, hown, hB⟩ := hrel
    have HG := Lib.hid hgk
    clear hgk
    cases q with
    | succ r =>
      rw [show ((r + 1 : Nat) : Int) - 1 = (r : Int) by omega]
      obtain ⟨e0, e1⟩ := HAC.out r (by omega)
      obtain ⟨et, hte⟩ : ∃ et, et = (zs[r]'(by omega)).1 := ⟨_, rfl⟩
      obtain ⟨er, hre⟩ : ∃ er, er = (zs[r]'(by omega)).2 := ⟨_, rfl⟩
      rw [← hte] at e0
      rw [← hre] at e1
      have d0 : wr.cell? ⟨ga, 0 + r * 2, none⟩ = some (.int .i64 et) := (hB.cell (p := ⟨ga, 0 + r * 2, none⟩) hga).trans e0
      have d1 : wr.cell? ⟨ga, 0 + r * 2 + 1, none⟩ = some (.int .i64 er) := (hB.cell (p := ⟨ga, 0 + r * 2 + 1, none⟩) hga).trans e1
      rw [Nat.zero_add] at d0 d1
      clear e0 e1
      have HTE := Lib.hid hte
      have HRE := Lib.hid hre
      have hm4 : n + n' - (r + 1) + 1 ≤ maxLen := by unfold maxLen; omega
      have hsz := hB.size
      clear hte hre
      go_wp2_with (at_builtin; refine wpList_append_own _ rfl (.tmp 42) (.tmp 47) 39 rfl w3.heap.size 23 i0 _ 2 16 Try.underlying39 hi0 hz0 hz1 hz2 rfl (by decide) _ _ _ rfl (hown.alloc _) ⟨wr.heap.size, 0, none⟩ 1 1 (flat [(et, er)]) rfl rfl (new_pair wr _ et er) (flat_one _) hm4 (by omega) (by simp; omega) ?_; intro v4 w4 hown4 hg4 _)
      have q4 := back_step (by omega) hal HTE.out HRE.out hown4
      have qB : Below w3.heap.size w3 w4 := (hB.alloc hB.size _).grown hg4 (by simp; omega) (fun q hq => (hown.lt q hq).1)
      clear hown hown4 hg4 hB d0 d1
      go_wp2_with fail
      go_roundg (gk - 1)
      case measure => have := HG.out; omega
      case rel => exact ⟨r, by go_num, by have := HG.out; omega, by omega, q4, qB⟩
    | zero =>
      rw [Nat.sub_zero, List.drop_zero] at hown
      obtain ⟨gb, capb, curb, rfl, hbb, hgb, hcb, hcbm, hbl, hblk, hbcell⟩ := pairs_own hown (by omega)
      clear hblk hown
      have hx0 : xs ≠ [] := fun e => by rw [e] at hxl; simp at hxl; omega
      have hy0 : ys ≠ [] := fun e => by rw [e] at hyl; simp at hyl; omega
      have hz0' : zs ≠ [] := fun e => by rw [e] at hal; simp at hal; omega
      obtain ⟨mt, hmt⟩ : ∃ x, x = (maxL zs).1 := ⟨_, rfl⟩
      obtain ⟨mr, hmr⟩ : ∃ x, x = (maxL zs).2 := ⟨_, rfl⟩
      obtain ⟨m1t, hm1t⟩ : ∃ x, x = (maxL xs).1 := ⟨_, rfl⟩
      obtain ⟨m1r, hm1r⟩ : ∃ x, x = (maxL xs).2 := ⟨_, rfl⟩
      obtain ⟨m2t, hm2t⟩ : ∃ x, x = (maxL ys).1 := ⟨_, rfl⟩
      obtain ⟨m2r, hm2r⟩ : ∃ x, x = (maxL ys).2 := ⟨_, rfl⟩
      have hj : maxL [(m1t, m1r), (m2t, m2r)] = (mt, mr) := by
        rw [hm1t, hm1r, hm2t, hm2r, hmt, hmr, HZS.out]
        exact (maxL_join hx0 hy0).symm
      have hB3w : Below w.heap.size w wr := below_step hB3 hB
      have hKW : ∀ W, KeptFrom wr W → Below w.heap.size w W := fun W h => below_step hB3w (kept_below h)
      have hKW3 : ∀ W, KeptFrom wr W → Below w3.heap.size w3 W := fun W h => below_step hB (kept_below h)
      have HMA : Hid (∀ W : World, KeptFrom wr W → Calls Try.prog 20 #[.slice (some ⟨ga, 0, none⟩) (n + n') capa] W fun e w' => e = .returned (.agg #[.int .i64 mt, .int .i64 mr]) ∧ Below W.heap.size W w') := fun W h => by
        rw [hmt, hmr]
        exact M.max _ _ capa zs W (by omega) hca hcam (((pairs_in hal hga HAC.out).below (hKW3 W h)).more (hKW3 W h).size)
      have HMB : Hid (∀ W : World, KeptFrom wr W → Calls Try.prog 20 #[.slice (some ⟨gb, 0, none⟩) (n + n') capb] W fun e w' => e = .returned (.agg #[.int .i64 mt, .int .i64 mr]) ∧ Below W.heap.size W w') := fun W h => by
        rw [hmt, hmr, ← maxL_reverse hz0']
        exact M.max _ _ capb zs.reverse W (by omega) hcb hcbm (((pairs_in hbl hgb hbcell).below (kept_below h)).more (kept_below h).size)
      have HML : Hid (∀ W : World, KeptFrom wr W → Calls Try.prog 20 #[.slice (some ⟨g, o, none⟩) n c] W fun e w' => e = .returned (.agg #[.int .i64 m1t, .int .i64 m1r]) ∧ Below W.heap.size W w') := fun W h => by
        rw [hm1t, hm1r]
        exact M.max _ _ c xs W (by omega) hc hcm ((HX.out.below (hKW W h)).more (hKW W h).size)
      have HMK : Hid (∀ W : World, KeptFrom wr W → Calls Try.prog 20 #[.slice (some ⟨g', o', none⟩) n' c'] W fun e w' => e = .returned (.agg #[.int .i64 m2t, .int .i64 m2r]) ∧ Below W.heap.size W w') := fun W h => by
        rw [hm2t, hm2r]
        exact M.max _ _ c' ys W (by omega) hc' hcm' ((HY.out.below (hKW W h)).more (hKW W h).size)
      have HMP : Hid (∀ (W : World) (gq : Nat), PairsIn W W.heap.size (some ⟨gq, 0, none⟩) 2 [(m1t, m1r), (m2t, m2r)] → Calls Try.prog 20 #[.slice (some ⟨gq, 0, none⟩) 2 2] W fun e w' => e = .returned (.agg #[.int .i64 mt, .int .i64 mr]) ∧ Below W.heap.size W w') := fun W gq h => by
        have q := M.max _ 2 2 _ W (by omega) (by omega) (by decide) h
        rw [hj] at q
        exact q
      have HKW := Lib.hid hKW
      clear hx0 hy0 hz0' hmt hmr hm1t hm1r hm2t hm2r hj hB3w hKW hKW3 hB3 hB hbcell hbl HAC HX HY HCELL HCELL' HZS hi0 hz0 hz1 hz2
      go_wp2_with fail
      refine (HMA.out _ (Below.refl _ _)).mono ?_
      rintro e w9 ⟨rfl, hb9⟩
      go_wp2_with fail
      have hS0 : ((w9.alloc (.cells #[.int .i64 mt, .int .i64 mr] 23)).drew.cell? ⟨w9.heap.size, 0, none⟩ = some (.int .i64 mt) ∧ (w9.alloc (.cells #[.int .i64 mt, .int .i64 mr] 23)).drew.cell? ⟨w9.heap.size, 1, none⟩ = some (.int .i64 mr)) ∧ KeptFrom wr (w9.alloc (.cells #[.int .i64 mt, .int .i64 mr] 23)).drew :=
        ⟨⟨cell_of_row _ _ 0 _ _ (0, 0) (heap_alloc_new w9 _), cell_of_row _ _ 1 _ _ (0, 0) (heap_alloc_new w9 _)⟩, (Below.alloc hb9 hb9.size _).drew⟩
      go_region_held3 (fun W => (W.cell? ⟨w9.heap.size, 0, none⟩ = some (.int .i64 mt) ∧ W.cell? ⟨w9.heap.size, 1, none⟩ = some (.int .i64 mr)) ∧ KeptFrom wr W) (first | assumption | exact kept_alloc2 _ (by assumption) | (refine ⟨⟨?_, ?_⟩, ?_⟩ <;> assumption))
        (first
          | (go_at_call 20; (with_reducible refine (HML.out _ ?_).mono ?_); (exact And.right (by assumption)); rintro e w' ⟨rfl, hb⟩; have hS := kept_call2 hb (by assumption))
          | (go_at_call 20; (with_reducible refine (HMK.out _ ?_).mono ?_); (exact And.right (by assumption)); rintro e w' ⟨rfl, hb⟩; have hS := kept_call2 hb (by assumption))
          | (go_at_call 20; (with_reducible refine (HMB.out _ ?_).mono ?_); (exact And.right (by assumption)); rintro e w' ⟨rfl, hb⟩; have hS := kept_call2 hb (by assumption))
          | (go_at_call 20; refine (HMP.out _ _ ?_).mono ?_; (exact pair_new _ _ _ _ _ _); rintro e w' ⟨rfl, hb⟩; have hS := kept_call2 hb (by assumption)))
      have hE := HKW.out _ (And.right (a := _ ∧ _) (by assumption))
      clear hS0
      go_wp2_with fail
      go_ret
      exact ⟨rfl, hE⟩

theorem walk (A : Option Addr) (n c : Nat) (xs : List (Int × Int)) (A' : Option Addr) (n' c' : Nat) (ys : List (Int × Int)) (w : World) (hc : n ≤ c) (hcm : c ≤ maxLen) (hx : PairsIn w w.heap.size A n xs) (hc' : n' ≤ c') (hcm' : c' ≤ maxLen) (hy : PairsIn w w.heap.size A' n' ys) :
    Calls Try.prog 8 #[.slice A n c, .slice A' n' c'] w fun e w' => e = .returned (.bool true) ∧ Below w.heap.size w w' := by
  by_cases h : n = 0 ∨ n' = 0 ∨ 100 < n ∨ 100 < n'
  · exact let_go stampHave A n c A' n' c' h (by omega) (by omega) w
  · obtain ⟨g, o, rfl, hg, hcell⟩ := hx.2 (by omega)
    obtain ⟨g', o', rfl, hg', hcell'⟩ := hy.2 (by omega)
    exact core stampHave stampMaxHave g o n c xs g' o' n' c' ys (by omega) (by omega) hc hcm (by omega) (by omega) hc' hcm' w hx hg hcell hy hg' hcell'
end Go.Proofs.Ytgfgcfmifebnbaa.lawStampJoins

namespace Go.Proofs.Ytgfgcfmifebnbaa.lawStampJoins
open Go.ChangeShapes Go.WideShapes Go.ChangeAt Go.RowKit
open Go.ChangeMaps (open_string shut_string)

theorem own : ownKnob Try.prog.godebug = none := by kernel_rfl
theorem laidOut : laidOutB Try.prog = true := by kernel_rfl

set_option maxRecDepth 100000 in
theorem lifted (os : Os) (started : os.Started) (H : Type) (enc : TypeId × Value → H) :
    ReturnsInHanded {} Try.checked os 8 .any (Rows.stampJoinsSpec.pre6 enc Try.prog Try.f8 Rows.stampJoinsRow.domain false) (Rows.stampJoinsSpec.post enc Try.prog Try.f8 false true false false) := by
  refine returnsInHanded_of_change (C := Try.checked) own started (by kernel_rfl) Try.func8
    (ChangeSpec.witness6 (enc := enc) (C := Try.checked) false ⟨#[], #[.slice none 0 0, .slice none 0 0], []⟩ 8 (by kernel_rfl) (by kernel_rfl) (by kernel_rfl) (by kernel_rfl)) ?_
  intro W base args ds gs before hval0 hW hcnd _
  have hval : ∀ (j : Nat) t v, Try.f8.params[j]? = some t → args[j]? = some v → Value.okWide Try.prog W .any base t v := hval0
  have hW' := hW
  obtain ⟨p, q, hA0, hV, rfl, hfz, hnd⟩ := hW
  have hA : DataW.TrodAll enc Try.prog W 0 (fun _ => true) true Try.f8.params.toList args.toList ds p := hA0
  rw [Try.params8] at hA hval
  obtain ⟨v0, vs0, d0, ds0, p0, q0, hargs, rfl, rfl, h0, r0⟩ := trodAll_cons hA
  obtain ⟨v1, vs1, d1, ds1, p1, q1, rfl, rfl, rfl, h1, r1⟩ := trodAll_cons r0
  obtain ⟨rfl, rfl, rfl⟩ := trodAll_nil r1
  obtain rfl : args = #[v0, v1] := by cases args; simp_all
  obtain ⟨rfl, rfl⟩ := trodVars_none hV
  have k0 := h0
  have lt0 : ∀ x ∈ p0, x.block < W.heap.size := by obtain ⟨m, hm⟩ := k0; exact DataW.trod_lt m _ _ _ hm
  obtain ⟨a0A, a0n, a0c, a0x, rfl, w0a, w0b, w0x⟩ := open_stamps (hval 0 39 v0 rfl rfl) h0
  have k1 := h1
  have lt1 : ∀ x ∈ p1, x.block < W.heap.size := by obtain ⟨m, hm⟩ := k1; exact DataW.trod_lt m _ _ _ hm
  obtain ⟨a1A, a1n, a1c, a1x, rfl, w1a, w1b, w1x⟩ := open_stamps (hval 1 39 v1 rfl rfl) h1
  clear hA0 hval0
  simp only [List.append_nil] at hW'
  refine (walk a0A a0n a0c a0x a1A a1n a1c a1x W w0a w0b w0x w1a w1b w1x).mono fun e W' ⟨he, hb⟩ => ?_
  subst he
  exact ⟨_, rfl, _, _, _, [], _, [], hW', trodAll_mk1 (shut_bool Try.underlying4 _), (trodAll_cons_mk (Below.trod laidOut (by kernel_rfl) (of_decide_eq_true (by kernel_rfl)) k0 hb lt0) (trodAll_cons_mk (Below.trod laidOut (by kernel_rfl) (of_decide_eq_true (by kernel_rfl)) k1 hb lt1) trodAll_mk0)), rfl, hb.frame _, fun h => by cases h⟩

theorem proved : Rows.StampJoinsSaid :=
  OpenClaim.holds_of_wide 8 Try.f8 rfl rfl rfl rfl rfl rfl rfl ⟨rfl, rfl, rfl, rfl, rfl⟩ rfl rfl rfl rfl rfl (by kernel_rfl) Try.func8 (by kernel_rfl)
    (of_decide_eq_true (by kernel_rfl)) (by unfold Func.isWrapper; first | (rw [if_pos (by decide +kernel)]; kernel_rfl) | (rw [if_neg (by decide +kernel)]; exact ⟨rfl, rfl⟩))
    (fun os started H enc _ => lifted os started H enc)
#print axioms proved
end Go.Proofs.Ytgfgcfmifebnbaa.lawStampJoins
