/-
  What the statements of layer 10 need of the landed audit: Check and Fine.
-/
import Derived.Test.YtoobmkkmomiigaaGreatZ04
import Derived.Test.YtoobmkkmomiigaaGreatZ01
import Derived.Test.YtoobmkkmomiigaaGreatZ01
import Derived.Deep.LoopGhost
import Derived.Laws.EntriesVeiled
namespace Go.Proofs.YtoobmkkmomiigaaGreat
open Go.RowKit StampMath GraphMath OpMath

section
variable (A A' : Option Addr) (n c m d bk bl : Nat) (N : List Ino) (E : List Ent) (w : World) (h : Given w A n N A' m E) (hL : Looked w bk bl N E)
include h hL

set_option maxRecDepth 100000 in
set_option maxHeartbeats 1600000 in
theorem apart_code : Calls Tryz.prog 23 #[.agg #[.slice A n c, .slice A' m d, .map (some bk), .map (some bl)]] w fun e w' => e = .returned (.bool (badB (apartOk N E))) ∧ Below w.heap.size w w' := by
  obtain ⟨hb0, he0, hg0, hl0⟩ := box_held A A' n c m d bk bl N E w h hL
  obtain ⟨K, hk1, hk2⟩ := hL.kinds
  have HR : Hid (∀ W : World, Below w.heap.size w W → Calls Tryz.prog 52 #[.agg #[.slice A n c, .slice A' m d, .map (some bk), .map (some bl)]] W fun e w' => ∃ (A : Option Addr) (c : Nat) (F : List St), e = .returned (.slice A F.length c) ∧ F.Nodup ∧ (∀ s, s ∈ F ↔ Reached N E s) ∧ Below W.heap.size W w') := fun W hW => (reached_code A A' n c m d bk bl N E W (h.below hW) (hL.below hW)).mono fun _ _ ⟨v, F, q1, q2, q3, q4, q5⟩ => by
    obtain ⟨A, c, rfl, _⟩ := sts_own rfl q4
    exact ⟨A, c, F, q1, q2, q3, q5⟩
  have hlen : ∀ W : World, Below w.heap.size w W → (Builtin.len_ #[56] 3 #[.map (some bk)]).run Tryz.prog W = .ok (.int .i64 (K.length : Int)) W := fun W hW => (hk1.kept (hW.block _ hL.lt.1)).len Tryz.underlying56 _
  have HLen := Lib.hid hlen
  have HK1 := Lib.hid hk1.keys
  have HK2 := Lib.hid hk2
  clear h hL hg0 hl0 hlen hk1 hk2
  go_enter Tryz.func23, Tryz.ntmps23
  go_upto_region 1 with fail
  change Code.wp _ _ _ _ (w.alloc (.cells (listsA A A' n c m d bk bl) 58))
  generalize w.alloc (.cells (listsA A A' n c m d bk bl) 58) = w1 at he0 hb0 ⊢
  obtain ⟨c0, c1, c2, c3⟩ := lists_cells he0
  have hl1 := HLen.out _ hb0
  have hl2 := HLen.out _ hb0.drew
  go_region_with (first
    | (go_at_call 52; (with_reducible refine (HR.out _ (by repeat (first | assumption | apply Below.drew | refine below_step ?_ (by assumption)))).mono ?_); rintro zz w2 ⟨A2, c2', F, rfl, hF1, hF2, hb2⟩; have HF1 := Lib.hid hF1; have HF2 := Lib.hid hF2; clear hF1 hF2; have c0 := cell_later hb2 c0; have c1 := cell_later hb2 c1; have c2 := cell_later hb2 c2; have c3 := cell_later hb2 c3; have hl3 := HLen.out w2 (below_step hb0.drew hb2); have HB2 := Lib.hid (below_step hb0.drew hb2)))
  all_goals
    go_wp2_with fail
    go_ret
    exact ⟨by rw [apart_bad HF1.out HF2.out HK1.out HK2.out, show decide ((F.length : Int) < (K.length : Int)) = decide (F.length < K.length) by simp]; rfl, HB2.out⟩

end

/-- Is there the fault of this number? -/
noncomputable def faultK (N : List Ino) (E : List Ent) (k : Nat) : Bool :=
  if k = 1 then badB (orderOk N E) else if k = 2 then badB (shapeOk N E) else if k = 3 then badB (lostOk N E) else if k = 4 then badB (countOk N E) else if k = 5 then badB (manyOk N E) else if k = 6 then badB (apartOk N E) else if k = 7 then badB (boundsOk N) else false

/-- The faults of smaller numbers. -/
noncomputable def faultsL (N : List Ino) (E : List Ent) (k : Nat) : List Int := ((List.range k).filter (faultK N E)).map fun (j : Nat) => (j : Int)

theorem faultsL_succ (N : List Ino) (E : List Ent) (k : Nat) : faultsL N E (k + 1) = faultsL N E k ++ if faultK N E k = true then [(k : Int)] else [] := by
  unfold faultsL
  rw [List.range_succ, List.filter_append, List.map_append]
  congr 1
  by_cases h : faultK N E k = true
  · rw [if_pos h, List.filter_cons, if_pos h]
    rfl
  · rw [if_neg h, List.filter_cons, if_neg h]
    rfl

theorem faultsL_len (N : List Ino) (E : List Ent) (k : Nat) : (faultsL N E k).length ≤ k := by
  unfold faultsL
  rw [List.length_map]
  exact Nat.le_trans (List.length_filter_le _ _) (by simp)

theorem faultK_iff (N : List Ino) (E : List Ent) (k : Nat) : faultK N E k = true ↔ faultOf N E (k : Int) := by
  unfold faultOf faultK
  by_cases h : k ≤ 7
  · have h7 : k = 0 ∨ k = 1 ∨ k = 2 ∨ k = 3 ∨ k = 4 ∨ k = 5 ∨ k = 6 ∨ k = 7 := by omega
    rcases h7 with rfl | rfl | rfl | rfl | rfl | rfl | rfl | rfl <;> simp [badB_iff]
  · rw [if_neg (by omega), if_neg (by omega), if_neg (by omega), if_neg (by omega), if_neg (by omega), if_neg (by omega), if_neg (by omega)]
    constructor
    · intro q; cases q
    · rintro (⟨q, _⟩ | ⟨q, _⟩ | ⟨q, _⟩ | ⟨q, _⟩ | ⟨q, _⟩ | ⟨q, _⟩ | ⟨q, _⟩) <;> omega

theorem faults_check (N : List Ino) (E : List Ent) : IsCheck N E (faultsL N E 8) := by
  constructor
  · unfold faultsL
    rw [List.pairwise_map]
    refine (List.Pairwise.filter _ List.pairwise_lt_range).imp fun h => ?_
    omega
  · intro k
    unfold faultsL
    rw [List.mem_map]
    constructor
    · rintro ⟨j, hj, rfl⟩
      exact (faultK_iff N E j).1 (List.mem_filter.1 hj).2
    · intro h
      have hk : ∃ j : Nat, j < 8 ∧ k = (j : Int) := by
        refine ⟨k.toNat, ?_⟩
        rcases h with ⟨q, _⟩ | ⟨q, _⟩ | ⟨q, _⟩ | ⟨q, _⟩ | ⟨q, _⟩ | ⟨q, _⟩ | ⟨q, _⟩ <;> omega
      obtain ⟨j, hj, rfl⟩ := hk
      exact ⟨j, List.mem_filter.2 ⟨List.mem_range.2 hj, (faultK_iff N E j).2 h⟩, rfl⟩

theorem int_infos : (Tryz.prog.info? 3).map (fun i => (i.zero, i.size, i.bytes)) = some (some (.int .i64 0), 1, 8) := by kernel_rfl

set_option maxRecDepth 100000 in
set_option maxHeartbeats 4000000 in
theorem check_code (A A' : Option Addr) (n c m d : Nat) (N : List Ino) (E : List Ent) (w : World) (h : Given w A n N A' m E) :
    Calls Tryz.prog 8 #[.slice A n c, .slice A' m d] w fun e w' => ∃ v : Value, e = .returned v ∧ w'.ownsRow w.heap.size 3 1 v (faultsL N E 8).length (intV (faultsL N E 8)) ∧ Below w.heap.size w w' := by
  obtain ⟨i0, hi0, hz0, hz1, hz2⟩ := info_parts int_infos
  have HG := Lib.hid h
  clear h
  go_enter Tryz.func8, Tryz.ntmps8
  go_upto_region 2 with fail
  have hb0 : Below w.heap.size w (w.alloc (.cells #[.nilFunc, .func (.func 18) #[] #[], .func (.func 19) #[] #[], .func (.func 20) #[] #[], .func (.func 21) #[] #[], .func (.func 22) #[] #[], .func (.func 23) #[] #[], .func (.func 24) #[] #[]] 59)) := (Below.refl _ _).alloc (Nat.le_refl _) _
  have he0 := heap_alloc_new w (.cells #[.nilFunc, .func (.func 18) #[] #[], .func (.func 19) #[] #[], .func (.func 20) #[] #[], .func (.func 21) #[] #[], .func (.func 22) #[] #[], .func (.func 23) #[] #[], .func (.func 24) #[] #[]] 59)
  obtain ⟨s, hs⟩ : ∃ s, s = w.heap.size := ⟨_, rfl⟩
  rw [← hs] at he0 ⊢
  generalize w.alloc (.cells #[.nilFunc, .func (.func 18) #[] #[], .func (.func 19) #[] #[], .func (.func 20) #[] #[], .func (.func 21) #[] #[], .func (.func 22) #[] #[], .func (.func 23) #[] #[], .func (.func 24) #[] #[]] 59) = w1 at he0 hb0 ⊢
  have HE0 := Lib.hid he0
  have HB0 := Lib.hid hb0
  clear hs he0 hb0
  go_wp2_with fail
  refine (auLook_code A A' n c m d N E w1 (HG.out.below HB0.out)).mono ?_
  rintro e w2 ⟨bk, bl, rfl, hL2, hb2⟩
  have he2 := (hb2.block _ (heap_lt HE0.out)).trans HE0.out
  have hB2 := below_step HB0.out hb2
  go_upto_region 3 with fail
  change Code.wp _ _ _ _ (w2.alloc (.cells (listsA A A' n c m d bk bl) 58))
  obtain ⟨u, hu⟩ : ∃ u, u = w2.heap.size := ⟨_, rfl⟩
  have hbA : Below w2.heap.size w2 (w2.alloc (.cells (listsA A A' n c m d bk bl) 58)) := (Below.refl _ _).alloc (Nat.le_refl _) _
  have hu3 : (w2.alloc (.cells (listsA A A' n c m d bk bl) 58)).heap[u]? = some (.cells (listsA A A' n c m d bk bl) 58 (0, 0)) := by rw [hu]; exact heap_alloc_new _ _
  rw [← hu]
  generalize w2.alloc (.cells (listsA A A' n c m d bk bl) 58) = wb at hbA hu3 ⊢
  have he3 := (hbA.block _ (heap_lt he2)).trans he2
  have HL := Lib.hid (hL2.below hbA)
  have HB := Lib.hid (below_step hB2 hbA)
  have HG3 := Lib.hid (HG.out.below HB.out)
  have HE3 := Lib.hid he3
  have HU3 := Lib.hid hu3
  clear HE0 HB0 hL2 hb2 he2 hB2 hu hbA hu3 he3 HG
  go_wp2_with fail
  go_loopg [7, 8] 10 (fun gk v i wr => ∃ k : Nat, i = .int .i64 (k : Int) ∧ gk + k = 11 ∧ 1 ≤ k ∧ k ≤ 8 ∧ wr.ownsRow wb.heap.size 3 1 v (faultsL N E k).length (intV (faultsL N E k)) ∧ Hid (Below wb.heap.size wb wr))
  case atStart => exact ⟨1, rfl, rfl, by omega, by omega, World.ownsRow_nil _ _ _ _, Below.refl _ _⟩
  case round =>
    obtain ⟨k, rfl, hgk, hk1, hk8, hown, hB⟩ := hrel
    have hs := hB.out.size
    by_cases hlt : k < 8
    · have q0 := (hB.out.block _ (heap_lt HE3.out)).trans HE3.out
      have q1 := (hB.out.block _ (heap_lt HU3.out)).trans HU3.out
      have hBy : ∀ y, Below wb.heap.size wb (later wr y) := fun y => hB.out.trans ((later_below wr y).mono hs)
      have H1 := Lib.hid fun (y : World) => later_call (disordered_code A A' n c m d bk bl N E (later wr y) (HG3.out.below (hBy y)) (HL.out.below (hBy y)))
      have H2 := Lib.hid fun (y : World) => later_call (misshapen_code A A' n c m d bk bl N E (later wr y) (HG3.out.below (hBy y)) (HL.out.below (hBy y)))
      have H3 := Lib.hid fun (y : World) => later_call (lost_code A A' n c m d bk bl N E (later wr y) (HG3.out.below (hBy y)) (HL.out.below (hBy y)))
      have H4 := Lib.hid fun (y : World) => later_call (miscounted_code A A' n c m d bk bl N E (later wr y) (HG3.out.below (hBy y)) (HL.out.below (hBy y)))
      have H5 := Lib.hid fun (y : World) => later_call (mislinked_code A A' n c m d bk bl N E (later wr y) (HG3.out.below (hBy y)) (HL.out.below (hBy y)))
      have H6 := Lib.hid fun (y : World) => later_call (apart_code A A' n c m d bk bl N E (later wr y) (HG3.out.below (hBy y)) (HL.out.below (hBy y)))
      have H7 := Lib.hid fun (y : World) => later_call (unbounded_code A A' n c m d bk bl N E (later wr y) (HG3.out.below (hBy y)) (HL.out.below (hBy y)))
      obtain ⟨k2, hk2⟩ : ∃ k2, k2 = k + 1 := ⟨_, rfl⟩
      have hnx := faultsL_succ N E k
      rw [← hk2] at hnx
      have HK2 := Lib.hid hk2
      clear hk2
      have hln := faultsL_len N E k
      obtain ⟨b, hb⟩ : ∃ b, b = faultK N E k := ⟨_, rfl⟩
      rw [← hb] at hnx
      generalize faultsL N E k = l at hnx hln hown
      have HNx := Lib.hid hnx
      obtain ⟨c0, c1, c2, c3⟩ := lists_cells q1
      have l0 := later_cell c0
      have l1 := later_cell c1
      have l2 := later_cell c2
      have l3 := later_cell c3
      have a1 := later_cell (cell_of_row _ _ 1 _ _ (0, 0) q0)
      have a2 := later_cell (cell_of_row _ _ 2 _ _ (0, 0) q0)
      have a3 := later_cell (cell_of_row _ _ 3 _ _ (0, 0) q0)
      have a4 := later_cell (cell_of_row _ _ 4 _ _ (0, 0) q0)
      have a5 := later_cell (cell_of_row _ _ 5 _ _ (0, 0) q0)
      have a6 := later_cell (cell_of_row _ _ 6 _ _ (0, 0) q0)
      have a7 := later_cell (cell_of_row _ _ 7 _ _ (0, 0) q0)
      clear hnx hBy q0 q1 c0 c1 c2 c3
      have h7 : k = 1 ∨ k = 2 ∨ k = 3 ∨ k = 4 ∨ k = 5 ∨ k = 6 ∨ k = 7 := by omega
      rcases h7 with rfl | rfl | rfl | rfl | rfl | rfl | rfl
      all_goals
        simp [faultK] at hb
        cases b
        · have hb2 := hb.symm
          rw [if_neg (by decide), List.append_nil] at HNx
          try simp only [hb2] at H1
          try simp only [hb2] at H2
          try simp only [hb2] at H3
          try simp only [hb2] at H4
          try simp only [hb2] at H5
          try simp only [hb2] at H6
          try simp only [hb2] at H7
          clear hb hb2
          go_upto_region 7 with fail
          refine wp_region_later (by kernel_rfl) (by kernel_rfl) ?_
          repeat (go_big_quiet_step (first | (with_reducible exact H1.out _) | (with_reducible exact H2.out _) | (with_reducible exact H3.out _) | (with_reducible exact H4.out _) | (with_reducible exact H5.out _) | (with_reducible exact H6.out _) | (with_reducible exact H7.out _)))
          refine wpQuiet_nil ?_
          intro _ hw'
          obtain ⟨y, rfl⟩ := hw'
          have hB3 := Lib.hid (hB.out.trans ((later_below wr y).mono hs))
          have hown3 := own_call hown (later_below wr y)
          clear l0 l1 l2 l3 a1 a2 a3 a4 a5 a6 a7 H1 H2 H3 H4 H5 H6 H7 hown
          generalize later wr y = w3 at hB3 hown3 ⊢
          go_wp2_with fail
          go_roundg (gk - 1)
          case measure => omega
          case rel =>
            have hk2 := HK2.out
            exact ⟨k2, by rw [hk2]; go_num, by omega, by omega, by omega, by rw [HNx.out]; exact hown3, hB3⟩
        · have hb2 := hb.symm
          rw [if_pos rfl] at HNx
          try simp only [hb2] at H1
          try simp only [hb2] at H2
          try simp only [hb2] at H3
          try simp only [hb2] at H4
          try simp only [hb2] at H5
          try simp only [hb2] at H6
          try simp only [hb2] at H7
          clear hb hb2
          go_upto_region 7 with fail
          refine wp_region_later (by kernel_rfl) (by kernel_rfl) ?_
          repeat (go_big_quiet_step (first | (with_reducible exact H1.out _) | (with_reducible exact H2.out _) | (with_reducible exact H3.out _) | (with_reducible exact H4.out _) | (with_reducible exact H5.out _) | (with_reducible exact H6.out _) | (with_reducible exact H7.out _)))
          refine wpQuiet_nil ?_
          intro _ hw'
          obtain ⟨y, rfl⟩ := hw'
          have hB3 := hB.out.trans ((later_below wr y).mono hs)
          have hown3 := own_call hown (later_below wr y)
          clear l0 l1 l2 l3 a1 a2 a3 a4 a5 a6 a7 H1 H2 H3 H4 H5 H6 H7 hown
          generalize later wr y = w3 at hB3 hown3 ⊢
          have hs3 := hB3.size
          have hm1 : l.length + 1 ≤ maxLen := by unfold maxLen; omega
          go_wp2_with (at_builtin; refine wpList_append_own _ (by rfl) (.tmp 22) (.tmp 24) 23 (by rfl) wb.heap.size 3 i0 _ 1 8 Tryz.underlying23 hi0 hz0 hz1 hz2 (by rfl) (by decide) _ _ _ (by rfl) (hown3.alloc _) ⟨w3.heap.size, 0, none⟩ 1 1 _ (by rfl) (by rfl) (int_there w3 3 _) (int_one _) hm1 (by omega) (by simp; omega) ?_; intro v2 w11 hown11 hg11 _)
          have hb11 := Lib.hid ((hB3.alloc hB3.size _).grown hg11 (hB3.alloc hB3.size _).size (fun q hq => (hown3.lt q hq).1))
          go_roundg (gk - 1)
          case measure => omega
          case rel =>
            have hk2 := HK2.out
            refine ⟨k2, by rw [hk2]; go_num, by omega, by omega, by omega, ?_, hb11⟩
            rw [HNx.out, List.length_append, show ∀ x : Int, intV (l ++ [x]) = intV l ++ intV [x] from fun x => by simp [intV]]
            exact hown11
    · obtain rfl : k = 8 := by omega
      go_wp2_with fail
      go_ret
      exact ⟨_, rfl, own_lower hown HB.out.size, HB.out.trans (hB.out.mono HB.out.size)⟩

set_option maxRecDepth 100000 in
theorem fine_code (A A' : Option Addr) (n c m d : Nat) (N : List Ino) (E : List Ent) (w : World) (h : Given w A n N A' m E) :
    Calls Tryz.prog 11 #[.slice A n c, .slice A' m d] w fun e w' => e = .returned (.bool (decide (faultsL N E 8 = []))) ∧ Below w.heap.size w w' := by
  have HC := Lib.hid (check_code A A' n c m d N E w h)
  have hl8 := faultsL_len N E 8
  clear h
  generalize faultsL N E 8 = l at HC hl8 ⊢
  go_enter Tryz.func11, Tryz.ntmps11
  go_wp2_with fail
  refine HC.out.mono ?_
  rintro e w2 ⟨v, rfl, hown, hb2⟩
  obtain ⟨A2, c2, rfl, _⟩ := ints_own hown
  cases l with
  | nil =>
    go_wp2_with fail
    go_ret
    exact ⟨rfl, hb2⟩
  | cons x l =>
    go_wp2_with fail
    go_ret
    exact ⟨by simp; omega, hb2⟩

theorem auditAsk : AuditAsk where
  check := fun A n c N A' m d E w h => (check_code A A' n c m d N E w h).mono fun _ _ ⟨v, q1, q2, q3⟩ => ⟨v, _, q1, faults_check N E, q2, q3⟩
  fine := fun A n c N A' m d E w h => (fine_code A A' n c m d N E w h).mono fun _ _ ⟨q1, q2⟩ => ⟨_, q1, by rw [decide_eq_true_iff]; exact fineP_iff (faults_check N E), q2⟩

end Go.Proofs.YtoobmkkmomiigaaGreat
