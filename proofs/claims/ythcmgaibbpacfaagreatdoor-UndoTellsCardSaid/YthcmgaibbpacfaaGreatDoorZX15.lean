/-
  What any operation turns, behind any others, and what is another thing in the graph of other operations, are the document's: for all lists of operations (60 at most).
-/
import Derived.Test.YthcmgaibbpacfaaGreatDoorZX14
import Derived.Test.YthcmgaibbpacfaaGreatDoorZX13
import Derived.Test.YthcmgaibbpacfaaGreatDoorZX14
import Derived.OpenShut
namespace Go.Proofs.YthcmgaibbpacfaaGreatDoor.lawUndoTells
open Go.RowKit StampMath GraphMath OpMath PackMath

theorem rec_lists {T : Nat → Prop} {W : World} {v : Value} {r : Rec} (h : RecAt T W v r) : ∃ (A1 : Option Addr) (c1 : Nat) (A2 : Option Addr) (c2 : Nat) (A3 : Option Addr) (c3 : Nat) (A4 : Option Addr) (c4 : Nat),
    v = .agg #[.slice A1 r.lost.length c1, .slice A2 r.made.length c2, .slice A3 r.was.length c3, .slice A4 r.new.length c4, .int .i64 r.err] ∧ Lists4 T W A1 A2 A3 A4 r.lost r.made r.was r.new := by
  obtain ⟨A1, n1, c1, A2, n2, c2, A3, n3, c3, A4, n4, c4, e, h1, h2, h3, h4, _⟩ := h
  obtain rfl : r.lost.length = n1 := by have := h1.1; rwa [List.length_map] at this
  obtain rfl : r.made.length = n2 := by have := h2.1; rwa [List.length_map] at this
  obtain rfl : r.was.length = n3 := by have := h3.1; rwa [List.length_map] at this
  obtain rfl : r.new.length = n4 := by have := h4.1; rwa [List.length_map] at this
  exact ⟨A1, c1, A2, c2, A3, c3, A4, c4, e, h1, h2, h3, h4⟩

theorem diff_lists {T : Nat → Prop} {W : World} {v : Value} {g h : Gr} {er : Int} (r : RecAt T W v (diffG g h er)) : ∃ (A1 : Option Addr) (c1 : Nat) (A2 : Option Addr) (c2 : Nat) (A3 : Option Addr) (c3 : Nat) (A4 : Option Addr) (c4 : Nat),
    v = .agg #[.slice A1 (lostG g h).length c1, .slice A2 (lostG h g).length c2, .slice A3 (wasG g h).length c3, .slice A4 (newN g h).length c4, .int .i64 er] ∧ Lists4 T W A1 A2 A3 A4 (lostG g h) (lostG h g) (wasG g h) (newN g h) := rec_lists r

/-- The same lists twice: each comparison says so. -/
theorem lists_same {T T' : Nat → Prop} {w : World} {A1 A2 A3 A4 L1 L2 L3 L4 : Option Addr} {E F : List Ent} {I : List Ino} {S : List St} (h : Lists4 T w A1 A2 A3 A4 E F I S) (k : Lists4 T' w L1 L2 L3 L4 E F I S) (hE : E.length ≤ 1000) (hF : F.length ≤ 1000) (hI : I.length ≤ 1000) (hS : S.length ≤ 1000) (c1 c2 c3 c4 p1 p2 p3 p4 : Nat) :
    (∀ W, Below w.heap.size w W → Calls Tryz.prog 16 #[.slice A1 E.length c1, .slice L1 E.length p1] W fun e w' => e = .returned (.bool true) ∧ Below W.heap.size W w') ∧
    (∀ W, Below w.heap.size w W → Calls Tryz.prog 16 #[.slice A2 F.length c2, .slice L2 F.length p2] W fun e w' => e = .returned (.bool true) ∧ Below W.heap.size W w') ∧
    (∀ W, Below w.heap.size w W → Calls Tryz.prog 17 #[.slice A3 I.length c3, .slice L3 I.length p3] W fun e w' => e = .returned (.bool true) ∧ Below W.heap.size W w') ∧
    (∀ W, Below w.heap.size w W → Calls Tryz.prog 18 #[.slice A4 S.length c4, .slice L4 S.length p4] W fun e w' => e = .returned (.bool true) ∧ Below W.heap.size W w') := by
  have a1 : EntsIn w w.heap.size A1 E.length E := h.t1.tab
  have a2 : EntsIn w w.heap.size A2 F.length F := h.t2.tab
  have a3 : InosIn w w.heap.size A3 I.length I := h.t3.tab
  have a4 : StsIn w w.heap.size A4 S.length S := h.t4.tab
  have b1 : EntsIn w w.heap.size L1 E.length E := k.t1.tab
  have b2 : EntsIn w w.heap.size L2 F.length F := k.t2.tab
  have b3 : InosIn w w.heap.size L3 I.length I := k.t3.tab
  have b4 : StsIn w w.heap.size L4 S.length S := k.t4.tab
  refine ⟨fun W hW => ?_, fun W hW => ?_, fun W hW => ?_, fun W hW => ?_⟩
  · have := refEnts A1 L1 _ c1 _ p1 E E hE hE W (ents_later a1 hW) (ents_later b1 hW)
    rwa [decide_eq_true rfl] at this
  · have := refEnts A2 L2 _ c2 _ p2 F F hF hF W (ents_later a2 hW) (ents_later b2 hW)
    rwa [decide_eq_true rfl] at this
  · have := refNodes A3 L3 _ c3 _ p3 I I hI hI W (inos_later a3 hW) (inos_later b3 hW)
    rwa [decide_eq_true rfl] at this
  · have := refStsSame A4 L4 _ c4 _ p4 S S hS hS W ((TabIn.below a4 hW).more hW.size) ((TabIn.below b4 hW).more hW.size)
    rwa [decide_eq_true rfl] at this

theorem lens {g h : Gr} (hg : g.ok) (hh : h.ok) : (lostG g h).length ≤ 1000 ∧ (wasG g h).length ≤ 1000 ∧ (newN g h).length ≤ 1000 := by
  refine ⟨Nat.le_trans (List.length_filter_le _ _) (Nat.le_trans hg.entsFew (by decide)), ?_, ?_⟩
  · refine Nat.le_trans (List.length_filter_le _ _) ?_
    unfold inodesG
    rw [List.length_map]
    exact Nat.le_trans hg.few (by decide)
  · refine Nat.le_trans (List.length_filter_le _ _) ?_
    rw [List.length_map]
    exact Nat.le_trans hh.few (by decide)

theorem box_on {w W : World} {u : Nat} {o : Obj} (h : w.heap[u]? = some o) (hb : Below w.heap.size w W) : W.heap[u]? = some o := (hb.block _ (heap_lt h)).trans h

set_option maxRecDepth 100000 in
set_option maxHeartbeats 12800000 in
theorem core {H : GraphHave} (P : UndoHave H) (Q : ApplyHave H) (A : Option Addr) (n c : Nat) (l : List Opn) (o : Opn) (A' : Option Addr) (m d : Nat) (k : List Opn) (hl : ∀ x ∈ l, OpFit x) (ho : OpFit o) (hk : ∀ x ∈ k, OpFit x) (w : World) (T : Tab w) (h : OpsIn w w.heap.size A n l) (h' : OpsIn w w.heap.size A' m k) :
    Calls Tryz.prog 3 #[.slice A n c, .agg (opA o), .slice A' m d] w fun e w' => e = .returned (.bool true) ∧ Below w.heap.size w w' := by
  have hH0 : Held w [(w.heap.size, .cells (opA o) 26)] (w.alloc (.cells (opA o) 26)) := (Held.refl w).alloc (.cells (opA o) 26) rfl
  have HX := Lib.hid h
  have HY := Lib.hid h'
  have HF := Lib.hid hl
  have HG := Lib.hid hk
  have HO := Lib.hid ho
  have H0 := Lib.hid hH0
  clear h h' hl hk ho hH0
  unfold opA at H0 ⊢
  go_enter Tryz.func3, Tryz.ntmps3
  go_wp2_with fail
  refine (P.shown _ (tab_held H0.out)).mono ?_
  rintro e w1 ⟨rfl, hb1⟩
  have H1 := Lib.hid (H0.out.step hb1)
  clear hb1 H0
  go_wp2_with fail
  refine (fewU_any A n c _).mono ?_
  rintro e w2 ⟨rfl, hb2⟩
  have H2 := Lib.hid (H1.out.step hb2)
  clear hb2 H1
  by_cases hn : n ≤ 60
  case neg =>
    have hd : decide (n ≤ 60) = false := decide_eq_false hn
    go_wp2_with fail
    go_ret
    exact ⟨rfl, H2.out.below⟩
  have hd : decide (n ≤ 60) = true := decide_eq_true hn
  go_wp2_with fail
  refine (fewU_any A' m d _).mono ?_
  rintro e w3 ⟨rfl, hb3⟩
  have H3 := Lib.hid (H2.out.step hb3)
  clear hb3 H2 hd
  by_cases hm : m ≤ 60
  case neg =>
    have hd : decide (m ≤ 60) = false := decide_eq_false hm
    go_wp2_with fail
    go_ret
    exact ⟨rfl, H3.out.below⟩
  have hd : decide (m ≤ 60) = true := decide_eq_true hm
  have HNM := Lib.hid (And.intro hn hm)
  clear hn hm
  have T3 : Tab w3 := tab_below T (Nat.le_refl _) H3.out.below
  go_wp2_with fail
  refine (madeU_any Q A n c l HNM.out.1 HF.out _ T3 ((HX.out.below H3.out.below).more H3.out.below.size)).mono ?_
  rintro e w4 ⟨a, rfl, x4⟩
  have X4 := Lib.hid x4
  have H4 := Lib.hid (H3.out.step x4.below)
  have T4 : Tab w4 := tab_below T (Nat.le_refl _) H4.out.below
  clear x4 hd
  go_wp2_with fail
  refine (madeU_any Q A' m d k HNM.out.2 HG.out _ T4 ((HY.out.below H4.out.below).more H4.out.below.size)).mono ?_
  rintro e w5 ⟨b, rfl, y5⟩
  have Y5 := Lib.hid y5
  have B5 := Lib.hid y5.below
  have X5 := Lib.hid (X4.out.step y5.below)
  obtain ⟨G, hG⟩ : ∃ G, G = runA l := ⟨_, rfl⟩
  obtain ⟨K, hK⟩ : ∃ K, K = runA k := ⟨_, rfl⟩
  have RM : Hid (∀ W, Below w.heap.size w W → Calls Tryz.prog 12 #[.slice A n c] W fun e w' => ∃ v, e = .returned v ∧ GrAt (fun i => W.heap.size ≤ i) w' v G ∧ Below W.heap.size W w') := Lib.hid fun W hW => by
    rw [hG]
    exact refMade A n c l HNM.out.1 HF.out W ((HX.out.below hW).more hW.size)
  have RK : Hid (∀ W, Below w.heap.size w W → Calls Tryz.prog 12 #[.slice A' m d] W fun e w' => ∃ v, e = .returned v ∧ GrAt (fun i => W.heap.size ≤ i) w' v K ∧ Below W.heap.size W w') := Lib.hid fun W hW => by
    rw [hK]
    exact refMade A' m d k HNM.out.2 HG.out W ((HY.out.below hW).more hW.size)
  rw [← hG] at X4 X5
  rw [← hK] at Y5
  clear y5 hG hK
  go_wp2_with fail
  refine (FX.diff P X5.out Y5.out).mono ?_
  rintro e w6 ⟨v, rfl, r6, hb6⟩
  have OKK := Lib.hid Y5.out.fine
  have OKG := Lib.hid X4.out.fine
  obtain ⟨A1, c1, A2, c2, A3, c3, A4, c4, e, q6⟩ := diff_lists r6
  subst e
  have LA6 := Lib.hid q6
  have B6 := Lib.hid (below_step B5.out hb6)
  clear r6 q6 hb6 X5 Y5
  go_upto_region 6 with fail
  obtain ⟨u9, hu9⟩ : ∃ u, u = w6.heap.size := ⟨_, rfl⟩
  have hA7 : Below w6.heap.size w6 (w6.alloc (.cells #[.slice A1 (lostG G K).length c1, .slice A2 (lostG K G).length c2, .slice A3 (wasG G K).length c3, .slice A4 (newN G K).length c4, .int .i64 0] 36)) := (Below.refl _ _).alloc (Nat.le_refl _) _
  have a7 := heap_alloc_new w6 (.cells #[.slice A1 (lostG G K).length c1, .slice A2 (lostG K G).length c2, .slice A3 (wasG G K).length c3, .slice A4 (newN G K).length c4, .int .i64 0] 36)
  rw [← hu9] at a7
  have BA7 := Lib.hid a7
  have B7 := Lib.hid (below_step B6.out hA7)
  have LA7 := Lib.hid (LA6.out.keep (fun i _ hi => hA7.block i hi) hA7.size (fun _ hi => hi))
  have HU9 := Lib.hid (show w4.heap.size ≤ u9 by rw [hu9]; exact B6.out.size)
  change Code.wp _ _ _ _ (w6.alloc (.cells #[.slice A1 (lostG G K).length c1, .slice A2 (lostG K G).length c2, .slice A3 (wasG G K).length c3, .slice A4 (newN G K).length c4, .int .i64 0] 36))
  rw [← hu9]
  clear hA7 a7 hu9 LA6 B6
  generalize w6.alloc (.cells #[.slice A1 (lostG G K).length c1, .slice A2 (lostG K G).length c2, .slice A3 (wasG G K).length c3, .slice A4 (newN G K).length c4, .int .i64 0] 36) = w7 at BA7 B7 LA7 ⊢
  go_wp2_with fail
  refine (RM.out _ (below_step H4.out.below B7.out)).mono ?_
  rintro e w8 ⟨v, rfl, g8, hb8⟩
  obtain ⟨X, n1, k1, Y, m1, d1, rfl⟩ := g8.form
  have G8 := Lib.hid g8
  have B8 := Lib.hid (below_step B7.out hb8)
  have BA8 := Lib.hid (box_on BA7.out hb8)
  have LA8 := Lib.hid (LA7.out.keep (fun i _ hi => hb8.block i hi) hb8.size (fun _ hi => hi))
  have Z7 := Lib.hid B7.out.size
  clear g8 hb8 BA7 B7 LA7
  go_upto_region 7 with fail
  obtain ⟨u10, hu10⟩ : ∃ u, u = w8.heap.size := ⟨_, rfl⟩
  have hA9 : Below w8.heap.size w8 (w8.alloc (.cells #[.slice X n1 k1, .slice Y m1 d1] 39)) := (Below.refl _ _).alloc (Nat.le_refl _) _
  have a9 := heap_alloc_new w8 (.cells #[.slice X n1 k1, .slice Y m1 d1] 39)
  rw [← hu10] at a9
  have BX9 := Lib.hid a9
  have B9 := Lib.hid (below_step B8.out hA9)
  have BA9 := Lib.hid (box_on BA8.out hA9)
  have LA9 := Lib.hid (LA8.out.keep (fun i _ hi => hA9.block i hi) hA9.size (fun _ hi => hi))
  have G9 := Lib.hid (G8.out.live.step (N' := fun i => w4.heap.size ≤ i) hA9 (fun i hi => Nat.le_trans Z7.out hi.1))
  have HU10 := Lib.hid (show w4.heap.size ≤ u10 by rw [hu10]; exact B8.out.size)
  change Code.wp _ _ _ _ (w8.alloc (.cells #[.slice X n1 k1, .slice Y m1 d1] 39))
  rw [← hu10]
  clear hA9 a9 hu10 LA8 B8 BA8 G8 Z7
  generalize w8.alloc (.cells #[.slice X n1 k1, .slice Y m1 d1] 39) = w9 at BX9 BA9 B9 LA9 G9 ⊢
  obtain ⟨GX', gn, gk', GY, gm, gd, e, gv9⟩ := G9.out.few (Nat.le_trans OKG.out.ok.few (by decide)) (Nat.le_trans OKG.out.ok.entsFew (by decide))
  cases e
  have GV9 := Lib.hid gv9
  clear gv9
  go_cut [11] from 35 to 38 (fun v wx => Rec4 w9 (lostG G K) (lostG K G) (wasG G K) (newN G K) v wx)
  case first =>
    have hbs : Held w9 [(u10, .cells #[.slice X n1 k1, .slice Y m1 d1] 39)] w9 := ⟨fun p hp => by simp at hp; subst hp; exact BX9.out, Below.refl _ _⟩
    have hS0 := bs_of hbs
    have hSd := bs_drew hS0
    have zz : u10 < w9.heap.size := heap_lt BX9.out
    have RK9 : Hid (∀ W, Below w9.heap.size w9 W → Calls Tryz.prog 12 #[.slice A' m d] W fun e w' => ∃ (X2 : Option Addr) (n2 k2 : Nat) (Y2 : Option Addr) (m2 d2 : Nat), e = .returned (.agg #[.slice X2 n2 k2, .slice Y2 m2 d2]) ∧ GrV w' X2 n2 k2 Y2 m2 d2 K ∧ Below W.heap.size W w') := Lib.hid fun W hW => by
      refine (RK.out W (below_step (below_step H4.out.below B9.out) hW)).mono ?_
      rintro e w' ⟨v, rfl, gv, hb⟩
      obtain ⟨X2, n2, k2, Y2, m2, d2, rfl, gv2⟩ := gv.few (Nat.le_trans OKK.out.ok.few (by decide)) (Nat.le_trans OKK.out.ok.entsFew (by decide))
      exact ⟨X2, n2, k2, Y2, m2, d2, rfl, gv2, hb⟩
    have RD9 : Hid (∀ W (X2 : Option Addr) (n2 k2 : Nat) (Y2 : Option Addr) (m2 d2 : Nat), Below w9.heap.size w9 W → GrV W X2 n2 k2 Y2 m2 d2 K → Calls Tryz.prog 13 #[.agg #[.slice X n1 k1, .slice Y m1 d1], .agg #[.slice X2 n2 k2, .slice Y2 m2 d2]] W fun e w' => ∃ (L1 : Option Addr) (p1 : Nat) (L2 : Option Addr) (p2 : Nat) (L3 : Option Addr) (p3 : Nat) (L4 : Option Addr) (p4 : Nat),
        e = .returned (.agg #[.slice L1 (lostG G K).length p1, .slice L2 (lostG K G).length p2, .slice L3 (wasG G K).length p3, .slice L4 (newN G K).length p4]) ∧ Lists4 (fun i => W.heap.size ≤ i) w' L1 L2 L3 L4 (lostG G K) (lostG K G) (wasG G K) (newN G K) ∧ Below W.heap.size W w') := Lib.hid fun W X2 n2 k2 Y2 m2 d2 hW hv => by
      refine (refDiff X Y X2 Y2 n1 k1 m1 d1 n2 k2 m2 d2 G K W (GV9.out.step hW) hv).mono ?_
      rintro e w' ⟨L1, p1, L2, p2, L3, p3, L4, p4, rfl, t1, t2, t3, t4, hb⟩
      exact ⟨L1, p1, L2, p2, L3, p3, L4, p4, rfl, ⟨t1, t2, t3, t4⟩, hb⟩
    clear hbs RM RK
    unfold BoxS at hS0 hSd
    go_region_held3 (fun W => Held w9 [(u10, .cells #[.slice X n1 k1, .slice Y m1 d1] 39)] W ∧ W.cell? ⟨u10, 0, none⟩ = some (.slice X n1 k1) ∧ W.cell? ⟨u10, 1, none⟩ = some (.slice Y m1 d1)) (first | (with_reducible assumption) | (with_reducible exact bs_alloc (by assumption) _) | (with_reducible exact bs_drew (by assumption)) | (with_reducible exact bs_drew (bs_alloc (by assumption) _)) | (with_reducible exact bs_set4 (by assumption) (by first | assumption | exact zz) (by first | assumption | exact Nat.le_refl _) _ _ _ _))
      (first
        | (go_at_call 12; (with_reducible refine (RK9.out _ ?_).mono ?_); (with_reducible (first | exact hSd.1.below | exact (bs_drew (bs_alloc hS0 _)).1.below | exact (bs_alloc hS0 _).1.below | exact (bs_alloc hSd _).1.below)); rintro e w1 ⟨X2, n2, k2, Y2, m2, d2, rfl, gv1, hb1⟩; have hS1 := bs_step (by with_reducible first | exact hSd | exact bs_drew (bs_alloc hS0 _) | exact bs_alloc hSd _) hb1; unfold BoxS at hS1; have zy1 := hS1.1.below.size; have zy0 := heap_lt (hS1.1.at 0 rfl); (first | ((with_reducible have bx1 := box_behind hb1); obtain ⟨y0, y1, y2, y3⟩ := four_cells bx1; obtain ⟨f0, f1, f2, f3⟩ := four_free bx1) | ((with_reducible have bx1 := box_behind2 hb1); obtain ⟨y0, y1, y2, y3⟩ := four_cells bx1; obtain ⟨f0, f1, f2, f3⟩ := four_free bx1) | skip))
        | (go_at_call 13; (with_reducible refine (RD9.out _ _ _ _ _ _ _ ?_ ?_).mono ?_); (with_reducible (first | exact hS1.1.below | exact (bs_alloc hS1 _).1.below)); (with_reducible (first | exact gv1 | exact gv1.step ((Below.refl _ _).alloc (Nat.le_refl _) _))); rintro e w2 ⟨L1, p1, L2, p2, L3, p3, L4, p4, rfl, ll2, hb2⟩; have hS2 := bs_step (by with_reducible first | exact hS1 | exact bs_alloc hS1 _) hb2; unfold BoxS at hS2; (first | ((with_reducible have bx2 := (hb2.block _ (heap_lt bx1)).trans bx1); obtain ⟨y0, y1, y2, y3⟩ := four_cells bx2; obtain ⟨f0, f1, f2, f3⟩ := four_free bx2) | ((with_reducible have bx2 := box_behind hb2); obtain ⟨y0, y1, y2, y3⟩ := four_cells bx2; obtain ⟨f0, f1, f2, f3⟩ := four_free bx2) | ((with_reducible have bx2 := box_behind2 hb2); obtain ⟨y0, y1, y2, y3⟩ := four_cells bx2; obtain ⟨f0, f1, f2, f3⟩ := four_free bx2) | skip)))
    all_goals
      go_wp2_with fail
      go_meet
    all_goals (have hB1 : Below w9.heap.size w9 w1 := below_step (by repeat (first | exact Below.refl _ _ | assumption | apply Below.drew | exact (Below.refl _ _).alloc (Nat.le_refl _) _)) hb1)
    · exact rec4_alloc hB1 hb2 ll2
    · exact rec4_set (hB1.alloc hB1.size _) hb2 ll2 hB1.size (by simp) bx2
    · exact rec4_set hB1 hb2 ll2 (Nat.le_refl _) (heap_lt bx1) bx2
  case rest =>
    obtain ⟨u11, L1, p1, L2, p2, L3, p3, L4, p4, rfl, hb10, hu11, hx11, ll10⟩ := hcut
    generalize wc = w10 at hb10 hx11 ll10 ⊢
    have B10 := Lib.hid (below_step B9.out hb10)
    have BA10 := Lib.hid (box_on BA9.out hb10)
    have BX10 := Lib.hid (box_on BX9.out hb10)
    have BB10 := Lib.hid hx11
    have LA10 := Lib.hid (LA9.out.keep (fun i _ hi => hb10.block i hi) hb10.size (fun _ hi => hi))
    have LB10 := Lib.hid (ll10.keep (T' := fun i => w4.heap.size ≤ i) (fun _ _ _ => rfl) (Nat.le_refl _) (fun i hi => Nat.le_trans B9.out.size hi))
    have G10 := Lib.hid (G9.out.live.step (N' := fun i => w4.heap.size ≤ i ∧ i < w10.heap.size) hb10 (fun i hi => ⟨hi.1, Nat.lt_of_lt_of_le hi.2 hb10.size⟩))
    have HU11 := Lib.hid (Nat.le_trans B9.out.size hu11)
    have X10 : Hid (FX H w3 w10 (fun i => False ∨ (w4.heap.size ≤ i ∧ i < w10.heap.size)) a G) := Lib.hid ⟨X4.out.gx.grow B10.out, X4.out.fine⟩
    have D10 := Lib.hid (FX.undoes P X10.out T3 o HO.out)
    have H10 := Lib.hid (H4.out.step B10.out)
    have RO : Hid (∀ (N : Nat → Prop) (W : World), GrAt N W (.agg #[.slice X n1 k1, .slice Y m1 d1]) G → Calls Tryz.prog 15 #[.agg #[.slice X n1 k1, .slice Y m1 d1], .agg (opA o)] W fun e w' => ∃ (X : Option Addr) (n1 c1 : Nat) (Y : Option Addr) (m1 d1 : Nat), e = .returned (.tuple #[.agg #[.slice X n1 c1, .slice Y m1 d1], .int .i64 (doA G o).2]) ∧ GrAt (MoreN N W) w' (.agg #[.slice X n1 c1, .slice Y m1 d1]) (doA G o).1 ∧ Below W.heap.size W w') := Lib.hid fun N W hv => by
      have h1 := HO.out.name
      have h2 := HO.out.new
      have h3 := HO.out.data
      unfold maxLen at h1 h2 h3
      refine (refDo N _ G o OKG.out (by omega) (by omega) (by omega) HO.out.ok W hv).mono ?_
      rintro e w' ⟨v, rfl, q1, q2⟩
      obtain ⟨X, n1, c1, Y, m1, d1, rfl⟩ := q1.form
      exact ⟨X, n1, c1, Y, m1, d1, rfl, q1, q2⟩
    have OKD : Hid (doA G o).1.fine := OKG.out.does o
    unfold doR at D10
    unfold opA at D10 RO
    generalize (doA G o).1 = G' at D10 RO OKD
    generalize (doA G o).2 = er at D10 RO
    obtain ⟨e0, e1, e2, e3, e4, e5, e6, e7, e8, e9, e10, e11, e12⟩ := op_cells (o := o) (g := w.heap.size) (H10.out.at 0 rfl)
    clear hb10 hx11 ll10 hu11 BA9 BX9 LA9 G9 GV9 RM RK X4
    go_wp2_with fail
    refine D10.out.mono ?_
    rintro e w11 ⟨Bn, v, rfl, x11, r11, s11, _⟩
    have SM : Hid (∀ i, w4.heap.size ≤ i → i < w10.heap.size → w11.heap[i]? = w10.heap[i]?) := Lib.hid fun i h1 h2 => s11.2 i (Or.inr ⟨h1, h2⟩)
    have S11 := Lib.hid s11.1
    have H11 := Lib.hid (H3.out.step x11.below)
    obtain ⟨R1, q1, R2, q2, R3, q3, R4, q4, e, lr11⟩ := diff_lists r11
    subst e
    have LR11 := Lib.hid (lr11.keep (T' := fun _ => True) (fun _ _ _ => rfl) (Nat.le_refl _) fun _ _ => trivial)
    have BA11 := Lib.hid ((SM.out u9 HU9.out (heap_lt BA10.out)).trans BA10.out)
    have BX11 := Lib.hid ((SM.out u10 HU10.out (heap_lt BX10.out)).trans BX10.out)
    have BB11 := Lib.hid ((SM.out u11 HU11.out (heap_lt BB10.out)).trans BB10.out)
    have LA11 := Lib.hid (LA10.out.keep (T' := fun _ => True) (fun i hi hl => SM.out i (Nat.le_trans B5.out.size hi) hl) S11.out fun _ _ => trivial)
    have LB11 := Lib.hid (LB10.out.keep (T' := fun _ => True) (fun i hi hl => SM.out i hi hl) S11.out fun _ _ => trivial)
    have G11 := Lib.hid (G10.out.keep (N' := fun _ => True) (fun i hi => SM.out i hi.1 hi.2) S11.out fun _ _ => trivial)
    clear e0 e1 e2 e3 e4 e5 e6 e7 e8 e9 e10 e11 e12 r11 s11 x11 lr11 D10 H10 X10 SM S11 BA10 BX10 BB10 LA10 LB10 G10 B9 B10 H4 T4 B5 HU9 HU10 HU11
    go_upto_region 9 with fail
    obtain ⟨u12, hu12⟩ : ∃ u, u = w11.heap.size := ⟨_, rfl⟩
    have hA12 : Below w11.heap.size w11 (w11.alloc (.cells #[.slice R1 (lostG G G').length q1, .slice R2 (lostG G' G).length q2, .slice R3 (wasG G G').length q3, .slice R4 (newN G G').length q4, .int .i64 er] 36)) := (Below.refl _ _).alloc (Nat.le_refl _) _
    have a12 := heap_alloc_new w11 (.cells #[.slice R1 (lostG G G').length q1, .slice R2 (lostG G' G).length q2, .slice R3 (wasG G G').length q3, .slice R4 (newN G G').length q4, .int .i64 er] 36)
    rw [← hu12] at a12
    change Code.wp _ _ _ _ (w11.alloc (.cells #[.slice R1 (lostG G G').length q1, .slice R2 (lostG G' G).length q2, .slice R3 (wasG G G').length q3, .slice R4 (newN G G').length q4, .int .i64 er] 36))
    rw [← hu12]
    have BR12 := Lib.hid a12
    have HA12 := Lib.hid hA12
    clear hu12 a12 hA12
    generalize w11.alloc (.cells #[.slice R1 (lostG G G').length q1, .slice R2 (lostG G' G).length q2, .slice R3 (wasG G G').length q3, .slice R4 (newN G G').length q4, .int .i64 er] 36) = w12 at BR12 HA12 ⊢
    have H12 := Lib.hid (H11.out.step HA12.out)
    have BX12 := Lib.hid (box_on BX11.out HA12.out)
    have G12 := Lib.hid (G11.out.step (N' := fun _ => True) HA12.out fun _ _ => trivial)
    have RO12 := Lib.hid (RO.out _ _ G12.out)
    obtain ⟨x0, x1⟩ := two_cells BX12.out
    obtain ⟨e0, e1, e2, e3, e4, e5, e6, e7, e8, e9, e10, e11, e12⟩ := op_cells (o := o) (g := w.heap.size) (H12.out.at 0 rfl)
    go_wp2_with fail
    refine RO12.out.mono ?_
    rintro e w13 ⟨X2, n2, k2, Y2, m2, d2, rfl, g13, hb13⟩
    have HA13 := Lib.hid (below_step HA12.out hb13)
    have BX13 := Lib.hid (box_on BX12.out hb13)
    have H13 := Lib.hid (H12.out.step hb13)
    have BR13 := Lib.hid (box_on BR12.out hb13)
    have G13 := Lib.hid (G12.out.step (N' := fun _ => True) hb13 fun _ _ => trivial)
    have Q13 := Lib.hid (g13.step (N' := fun _ => True) (Below.refl _ _) fun _ _ => trivial)
    clear e0 e1 e2 e3 e4 e5 e6 e7 e8 e9 e10 e11 e12 x0 x1 g13 hb13 RO12 RO H12 BX12 G12 HA12 BR12 BX11 G11
    go_upto_region 10 with fail
    obtain ⟨u13, hu13⟩ : ∃ u, u = w13.heap.size := ⟨_, rfl⟩
    have hA14 : Below w13.heap.size w13 (w13.alloc (.cells #[.slice X2 n2 k2, .slice Y2 m2 d2] 39)) := (Below.refl _ _).alloc (Nat.le_refl _) _
    have a14 := heap_alloc_new w13 (.cells #[.slice X2 n2 k2, .slice Y2 m2 d2] 39)
    rw [← hu13] at a14
    change Code.wp _ _ _ _ (w13.alloc (.cells #[.slice X2 n2 k2, .slice Y2 m2 d2] 39))
    rw [← hu13]
    have BY14 := Lib.hid a14
    have HB14 := Lib.hid hA14
    clear hu13 a14 hA14
    generalize w13.alloc (.cells #[.slice X2 n2 k2, .slice Y2 m2 d2] 39) = w14 at BY14 HB14 ⊢
    have HA14 := Lib.hid (below_step HA13.out HB14.out)
    have BX14 := Lib.hid (box_on BX13.out HB14.out)
    have BR14 := Lib.hid (box_on BR13.out HB14.out)
    have G14 := Lib.hid (G13.out.step (N' := fun _ => True) HB14.out fun _ _ => trivial)
    have Q14 := Lib.hid (Q13.out.step (N' := fun _ => True) HB14.out fun _ _ => trivial)
    obtain ⟨_, _, _, _, _, _, e, gv⟩ := G14.out.few (Nat.le_trans OKG.out.ok.few (by decide)) (Nat.le_trans OKG.out.ok.entsFew (by decide))
    cases e
    obtain ⟨_, _, _, _, _, _, e, gv2⟩ := Q14.out.few (Nat.le_trans OKD.out.ok.few (by decide)) (Nat.le_trans OKD.out.ok.entsFew (by decide))
    cases e
    have RD14 := Lib.hid (refDiff _ _ _ _ _ _ _ _ _ _ _ _ G G' w14 gv gv2)
    obtain ⟨x0, x1⟩ := two_cells BX14.out
    obtain ⟨y0, y1⟩ := two_cells BY14.out
    clear gv gv2 G14 Q14 G13 Q13 BX13 HA13 BR13 HB14
    go_wp2_with fail
    refine RD14.out.mono ?_
    rintro e w15 ⟨M1, s1, M2, s2, M3, s3, M4, s4, rfl, t1, t2, t3, t4, hb15⟩
    have LW15 : Hid (Lists4 (fun _ => True) w15 M1 M2 M3 M4 (lostG G G') (lostG G' G) (wasG G G') (newN G G')) := Lib.hid ((Lists4.mk t1 t2 t3 t4).keep (fun _ _ _ => rfl) (Nat.le_refl _) fun _ _ => trivial)
    have HA15 := Lib.hid (below_step HA14.out hb15)
    have BR15 := Lib.hid (box_on BR14.out hb15)
    clear x0 x1 y0 y1 t1 t2 t3 t4 hb15 RD14 BX14 BY14 BR14 HA14
    go_upto_region 11 with fail
    obtain ⟨u15, hu15⟩ : ∃ u, u = w15.heap.size := ⟨_, rfl⟩
    have hA16 : Below w15.heap.size w15 (w15.alloc (.cells #[.slice M1 (lostG G G').length s1, .slice M2 (lostG G' G).length s2, .slice M3 (wasG G G').length s3, .slice M4 (newN G G').length s4] 42)) := (Below.refl _ _).alloc (Nat.le_refl _) _
    have a16 := heap_alloc_new w15 (.cells #[.slice M1 (lostG G G').length s1, .slice M2 (lostG G' G).length s2, .slice M3 (wasG G G').length s3, .slice M4 (newN G G').length s4] 42)
    rw [← hu15] at a16
    change Code.wp _ _ _ _ (w15.alloc (.cells #[.slice M1 (lostG G G').length s1, .slice M2 (lostG G' G).length s2, .slice M3 (wasG G G').length s3, .slice M4 (newN G G').length s4] 42))
    rw [← hu15]
    have BW16 := Lib.hid a16
    have HB16 := Lib.hid hA16
    clear hu15 a16 hA16
    generalize w15.alloc (.cells #[.slice M1 (lostG G G').length s1, .slice M2 (lostG G' G).length s2, .slice M3 (wasG G G').length s3, .slice M4 (newN G G').length s4] 42) = w16 at BW16 HB16 ⊢
    have HA16 := Lib.hid (below_step HA15.out HB16.out)
    have BR16 := Lib.hid (box_on BR15.out HB16.out)
    have BA16 := Lib.hid (box_on BA11.out HA16.out)
    have BB16 := Lib.hid (box_on BB11.out HA16.out)
    have LW16 := Lib.hid (LW15.out.keep (T' := fun _ => True) (fun i _ hi => HB16.out.block i hi) HB16.out.size fun _ _ => trivial)
    have LR16 := Lib.hid (LR11.out.keep (T' := fun _ => True) (fun i _ hi => HA16.out.block i hi) HA16.out.size fun _ _ => trivial)
    have LA16 := Lib.hid (LA11.out.keep (T' := fun _ => True) (fun i _ hi => HA16.out.block i hi) HA16.out.size fun _ _ => trivial)
    have LB16 := Lib.hid (LB11.out.keep (T' := fun _ => True) (fun i _ hi => HA16.out.block i hi) HA16.out.size fun _ _ => trivial)
    have H16 := Lib.hid (H11.out.step HA16.out)
    obtain ⟨l1, l3, l4⟩ := lens OKG.out.ok OKK.out.ok
    obtain ⟨l2, _, _⟩ := lens OKK.out.ok OKG.out.ok
    obtain ⟨i1, i3, i4⟩ := lens OKG.out.ok OKD.out.ok
    obtain ⟨i2, _, _⟩ := lens OKD.out.ok OKG.out.ok
    have C1 := Lib.hid (lists_same LA16.out LB16.out l1 l2 l3 l4 c1 c2 c3 c4 p1 p2 p3 p4)
    have C2 := Lib.hid (lists_same LR16.out LW16.out i1 i2 i3 i4 q1 q2 q3 q4 s1 s2 s3 s4)
    clear l1 l2 l3 l4 i1 i2 i3 i4 LW16 LR16 LA16 LB16 LW15 LR11 LA11 LB11 HA16 HB16 HA15 BR15 BA11 BB11 H11 H13 H3 OKG OKK OKD T3
    generalize (lostG G K).length = f1 at C1 BA16 BB16 ⊢
    generalize (lostG K G).length = f2 at C1 BA16 BB16 ⊢
    generalize (wasG G K).length = f3 at C1 BA16 BB16 ⊢
    generalize (newN G K).length = f4 at C1 BA16 BB16 ⊢
    generalize (lostG G G').length = g1 at C2 BR16 BW16 ⊢
    generalize (lostG G' G).length = g2 at C2 BR16 BW16 ⊢
    generalize (wasG G G').length = g3 at C2 BR16 BW16 ⊢
    generalize (newN G G').length = g4 at C2 BR16 BW16 ⊢
    have HW : Hid (Below w16.heap.size w16 w16) := Below.refl _ _
    obtain ⟨a0, a1, a2, a3, a4⟩ := rec_cells BA16.out
    obtain ⟨b0, b1, b2, b3⟩ := four_cells BB16.out
    go_wp2_with fail
    refine (C1.out.1 _ HW.out).mono ?_
    rintro e w17 ⟨rfl, hb⟩
    have HW17 := Lib.hid (below_step HW.out hb)
    clear hb HW a0 a1 a2 a3 a4 b0 b1 b2 b3
    obtain ⟨a0, a1, a2, a3, a4⟩ := rec_cells (box_on BA16.out HW17.out)
    obtain ⟨b0, b1, b2, b3⟩ := four_cells (box_on BB16.out HW17.out)
    go_wp2_with fail
    refine (C1.out.2.1 _ HW17.out).mono ?_
    rintro e w18 ⟨rfl, hb⟩
    have HW18 := Lib.hid (below_step HW17.out hb)
    clear hb HW17 a0 a1 a2 a3 a4 b0 b1 b2 b3
    obtain ⟨a0, a1, a2, a3, a4⟩ := rec_cells (box_on BA16.out HW18.out)
    obtain ⟨b0, b1, b2, b3⟩ := four_cells (box_on BB16.out HW18.out)
    go_wp2_with fail
    refine (C1.out.2.2.1 _ HW18.out).mono ?_
    rintro e w19 ⟨rfl, hb⟩
    have HW19 := Lib.hid (below_step HW18.out hb)
    clear hb HW18 a0 a1 a2 a3 a4 b0 b1 b2 b3
    obtain ⟨a0, a1, a2, a3, a4⟩ := rec_cells (box_on BA16.out HW19.out)
    obtain ⟨b0, b1, b2, b3⟩ := four_cells (box_on BB16.out HW19.out)
    go_wp2_with fail
    refine (C1.out.2.2.2 _ HW19.out).mono ?_
    rintro e w20 ⟨rfl, hb⟩
    have HW20 := Lib.hid (below_step HW19.out hb)
    clear hb HW19 a0 a1 a2 a3 a4 b0 b1 b2 b3
    obtain ⟨a0, a1, a2, a3, a4⟩ := rec_cells (box_on BA16.out HW20.out)
    obtain ⟨b0, b1, b2, b3⟩ := four_cells (box_on BB16.out HW20.out)
    obtain ⟨r0, r1, r2, r3, r4⟩ := rec_cells (box_on BR16.out HW20.out)
    obtain ⟨v0, v1, v2, v3⟩ := four_cells (box_on BW16.out HW20.out)
    go_wp2_with fail
    refine (C2.out.1 _ HW20.out).mono ?_
    rintro e w21 ⟨rfl, hb⟩
    have HW21 := Lib.hid (below_step HW20.out hb)
    clear hb HW20 a0 a1 a2 a3 a4 b0 b1 b2 b3 r0 r1 r2 r3 r4 v0 v1 v2 v3
    obtain ⟨r0, r1, r2, r3, r4⟩ := rec_cells (box_on BR16.out HW21.out)
    obtain ⟨v0, v1, v2, v3⟩ := four_cells (box_on BW16.out HW21.out)
    go_wp2_with fail
    refine (C2.out.2.1 _ HW21.out).mono ?_
    rintro e w22 ⟨rfl, hb⟩
    have HW22 := Lib.hid (below_step HW21.out hb)
    clear hb HW21 r0 r1 r2 r3 r4 v0 v1 v2 v3
    obtain ⟨r0, r1, r2, r3, r4⟩ := rec_cells (box_on BR16.out HW22.out)
    obtain ⟨v0, v1, v2, v3⟩ := four_cells (box_on BW16.out HW22.out)
    go_wp2_with fail
    refine (C2.out.2.2.1 _ HW22.out).mono ?_
    rintro e w23 ⟨rfl, hb⟩
    have HW23 := Lib.hid (below_step HW22.out hb)
    clear hb HW22 r0 r1 r2 r3 r4 v0 v1 v2 v3
    obtain ⟨r0, r1, r2, r3, r4⟩ := rec_cells (box_on BR16.out HW23.out)
    obtain ⟨v0, v1, v2, v3⟩ := four_cells (box_on BW16.out HW23.out)
    go_wp2_with fail
    refine (C2.out.2.2.2 _ HW23.out).mono ?_
    rintro e w24 ⟨rfl, hb⟩
    have HW24 := Lib.hid (below_step HW23.out hb)
    clear hb HW23 r0 r1 r2 r3 r4 v0 v1 v2 v3
    obtain ⟨r0, r1, r2, r3, r4⟩ := rec_cells (box_on BR16.out HW24.out)
    obtain ⟨v0, v1, v2, v3⟩ := four_cells (box_on BW16.out HW24.out)
    go_wp2_with fail
    go_ret
    exact ⟨by first | rfl | simp, below_step H16.out.below HW24.out⟩

theorem walk0 {H : GraphHave} (P : UndoHave H) (Q : ApplyHave H) (a0A : Option Addr) (a0n : Nat) (a0c : Nat) (a0x : List Opn) (a1 : Opn) (a2A : Option Addr) (a2n : Nat) (a2c : Nat) (a2x : List Opn) (w : World) [T : Tab w] (_ : a0n ≤ a0c) (_ : a0c ≤ maxLen) (w0x : ∀ x ∈ a0x, OpFit x) (w0d : OpsIn w w.heap.size a0A a0n a0x) (w1 : Ok64 a1) (w1a : a1.name.size ≤ maxLen) (w1b : a1.new.size ≤ maxLen) (w1c : a1.data.size ≤ maxLen) (_ : a2n ≤ a2c) (_ : a2c ≤ maxLen) (w2x : ∀ x ∈ a2x, OpFit x) (w2d : OpsIn w w.heap.size a2A a2n a2x) :
    Calls Tryz.prog 3 #[.slice a0A a0n a0c, .agg (opA a1), .slice a2A a2n a2c] w fun e w' => e = .returned (.bool true) ∧ Below w.heap.size w w' :=
  core P Q a0A a0n a0c a0x a1 a2A a2n a2c a2x w0x ⟨w1, w1a, w1b, w1c⟩ w2x w T w0d w2d

end Go.Proofs.YthcmgaibbpacfaaGreatDoor.lawUndoTells
