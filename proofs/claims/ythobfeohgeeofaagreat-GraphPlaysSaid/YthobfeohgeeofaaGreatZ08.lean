/-
  The walk of the statements' same: a graph is as the document has it.
-/
import Derived.Test.YthobfeohgeeofaaGreatZ06
import Derived.Test.YthobfeohgeeofaaGreatZ07
import Derived.Test.YthobfeohgeeofaaGreatZ04
import Derived.Test.YthobfeohgeeofaaGreatZ04
import Derived.Deep.LoopGhost
import Derived.OpenShut
namespace Go.Proofs.YthobfeohgeeofaaGreat
open Go.RowKit StampMath GraphMath OpMath

set_option maxRecDepth 100000 in
set_option maxHeartbeats 1600000 in
theorem same_any (H : GraphHave) (N : Nat → Prop) (a : Addr) (S : Nat → Prop) (v : Value) (g : Gr) (w : World) (h : H.rep w S a g) (hg : g.ok) (hv : GrAt N w v g) :
    Calls Tryz.prog 10 #[.pointer (some a), v] w fun e w' => e = .returned (.bool true) ∧ Below w.heap.size w w' := by
  have hn : g.I.length ≤ 1000 := Nat.le_trans hg.few (by decide)
  have hm : g.E.length ≤ 1000 := Nat.le_trans hg.entsFew (by decide)
  obtain ⟨A, n, c, A', m, d, rfl, hI, hc, hE, hd⟩ := hv
  have hin : (inodesG g).length = g.I.length := by unfold inodesG; rw [List.length_map]
  have hl := hE.len
  have hb0 : Below w.heap.size w (w.alloc (.cells #[.slice A n c, .slice A' m d] 29)) := (Below.refl w.heap.size w).alloc (Nat.le_refl _) _
  obtain ⟨e0, e1⟩ := two_cells (heap_alloc_new w (.cells #[.slice A n c, .slice A' m d] 29))
  have C6 : Hid (∀ W, Below w.heap.size w W → Calls Tryz.prog 25 #[.pointer (some a)] W (InosPost (inodesG g) W)) := fun W hW => by
    refine (H.inodes a S g W (H.keep h fun i hi => hW.block i (H.lt h i hi)) hg).mono ?_
    rintro e w' ⟨v, rfl, hown, hb⟩
    obtain ⟨B, c, rfl, q1, q2, q3⟩ := inos_own rfl hown
    exact ⟨B, c, rfl, q1, q2, q3.1, q3.2, hb⟩
  have C12 : Hid (∀ W, Below w.heap.size w W → Calls Tryz.prog 28 #[.pointer (some a)] W (EntsPost g.E W)) := fun W hW => by
    refine (H.entries a S g W (H.keep h fun i hi => hW.block i (H.lt h i hi)) hg).mono ?_
    rintro e w' ⟨v, rfl, hown, hb⟩
    obtain ⟨B, c, rfl, q1, q2, q3⟩ := ents_own rfl hown
    exact ⟨B, c, rfl, q1, q2, q3.1, q3.2, hb⟩
  have C8 : Hid (∀ W, Below w.heap.size w W → Calls Tryz.prog 26 #[.agg #[.slice A n c, .slice A' m d]] W (InosPost (inodesG g) W)) := fun W hW =>
    refInodes A A' n c m d g (by have := hI.len; omega) (by omega) W ((hI.below hW).more hW.size) ((hE.below hW).more hW.size)
  have C9 : Hid (∀ (B B' : Option Addr) (k k' : Nat) (W : World), InosIn W W.heap.size B (inodesG g).length (inodesG g) → InosIn W W.heap.size B' (inodesG g).length (inodesG g) → Calls Tryz.prog 24 #[.slice B (inodesG g).length k, .slice B' (inodesG g).length k'] W fun e w' => e = .returned (.bool true) ∧ Below W.heap.size W w') := fun B B' k k' W h1 h2 => by
    have := refNodes B B' _ k _ k' _ _ (by omega) (by omega) W h1 h2
    simpa using this
  have C15 : Hid (∀ (B : Option Addr) (k : Nat) (W : World), Below w.heap.size w W → EntsIn W W.heap.size B g.E.length g.E → Calls Tryz.prog 27 #[.slice B g.E.length k, .slice A' m d] W fun e w' => e = .returned (.bool true) ∧ Below W.heap.size W w') := fun B k W hW h1 => by
    have := refEnts B A' _ k m d _ _ (by omega) (by omega) W h1 ((hE.below hW).more hW.size)
    simpa using this
  obtain ⟨X, hX⟩ : ∃ X, X = inodesG g := ⟨_, rfl⟩
  rw [← hX] at C6 C8 C9
  obtain ⟨E, hEE⟩ : ∃ E, E = g.E := ⟨_, rfl⟩
  rw [← hEE] at C12 C15
  have HB := Lib.hid hb0
  have hz0 : w.heap.size < (w.alloc (.cells #[.slice A n c, .slice A' m d] 29)).heap.size := by simp
  clear h hg hn hm hI hc hE hd hin hl hb0 hX hEE
  go_enter Tryz.func10, Tryz.ntmps10
  go_upto_region 1 with (fail)
  change Code.wp _ _ _ _ (w.alloc (.cells #[.slice A n c, .slice A' m d] 29))
  generalize w.alloc (.cells #[.slice A n c, .slice A' m d] 29) = W0 at e0 e1 HB hz0 ⊢
  have hb0 := HB.out
  go_region_with (first
    | (go_at_call 25; (with_reducible refine (C6.out _ (by repeat (first | exact Below.refl _ _ | assumption | apply Below.drew | refine below_step ?_ (by assumption)))).mono ?_); rintro z w1 ⟨B1, k1, rfl, q1, _, _, _, hb⟩; have e0 := cell_later hb e0; have e1 := cell_later hb e1)
    | (go_at_call 26; (with_reducible refine (C8.out _ (by repeat (first | exact Below.refl _ _ | assumption | apply Below.drew | refine below_step ?_ (by assumption)))).mono ?_); rintro z w1 ⟨B1, k1, rfl, q1, _, _, _, hb⟩; have e0 := cell_later hb e0; have e1 := cell_later hb e1)
    | (go_at_call 24; (with_reducible refine (C9.out _ _ _ _ _ (InosIn.later (by assumption) (by repeat (first | exact Below.refl _ _ | assumption | apply Below.drew | refine below_step ?_ (by assumption)))) (InosIn.later (by assumption) (by repeat (first | exact Below.refl _ _ | assumption | apply Below.drew | refine below_step ?_ (by assumption))))).mono ?_); rintro z w1 ⟨rfl, hb⟩; have e0 := cell_later hb e0; have e1 := cell_later hb e1)
    | (go_at_call 28; (with_reducible refine (C12.out _ (by repeat (first | exact Below.refl _ _ | assumption | apply Below.drew | refine below_step ?_ (by assumption)))).mono ?_); rintro z w1 ⟨B1, k1, rfl, q1, _, _, _, hb⟩; have e0 := cell_later hb e0; have e1 := cell_later hb e1)
    | (go_at_call 27; (with_reducible refine (C15.out _ _ _ (by repeat (first | exact Below.refl _ _ | assumption | apply Below.drew | refine below_step ?_ (by assumption))) (EntsIn.later (by assumption) (by repeat (first | exact Below.refl _ _ | assumption | apply Below.drew | refine below_step ?_ (by assumption))))).mono ?_); rintro z w1 ⟨rfl, hb⟩; have e0 := cell_later hb e0; have e1 := cell_later hb e1))
  all_goals
    go_wp2_with fail
    go_ret
    exact ⟨rfl, by repeat (first | exact Below.refl _ _ | assumption | apply Below.drew | refine below_step ?_ (by assumption))⟩

end Go.Proofs.YthobfeohgeeofaaGreat

/-
  Whatever inodes are made, tied, untied, dropped and set, each answer, and the graph, are the document's; a copy of it stays as it was: for all lists of deeds (the first 150 are done).
-/
namespace Go.Proofs.YthobfeohgeeofaaGreat.lawGraphPlays
open Go.RowKit StampMath GraphMath OpMath

set_option maxRecDepth 100000 in
set_option maxHeartbeats 3200000 in
theorem core (H : GraphHave) (A : Option Addr) (n c : Nat) (ds : List Dd) (hn : n ≤ maxLen) (hname : ∀ d ∈ ds, d.e.name.size ≤ maxLen) (w : World) (h : DdsIn w w.heap.size A n ds) :
    Calls Tryz.prog 3 #[.slice A n c] w fun e w' => e = .returned (.bool true) ∧ Below w.heap.size w w' := by
  have hl := h.len
  have HX := Lib.hid h
  have HL := Lib.hid hl
  have HN := Lib.hid hname
  unfold maxLen at hn
  clear h hl hname
  go_enter Tryz.func3, Tryz.ntmps3
  go_wp2_with fail
  refine (H.shown _).mono ?_
  rintro e w1 ⟨rfl, hb1⟩
  go_wp2_with fail
  refine (GX.new (H := H) hb1 (fun _ => False) (fun _ h => h.elim)).mono ?_
  rintro e w2 ⟨a, rfl, g2, hb2⟩
  have G2 := Lib.hid g2
  clear g2 hb2 hb1
  go_wp2_with fail
  refine (refGraphNew _).mono ?_
  rintro e w3 ⟨v, rfl, x3, hb3⟩
  obtain ⟨X, n1, c1, Y, m1, d1, rfl⟩ := x3.form
  have q3 := Lib.hid (And.intro x3 hb3)
  clear x3 hb3
  go_wp2_with fail
  have P0 : Hid (∃ N, Play H w (w3.alloc (.cells #[.slice X n1 c1, .slice Y m1 d1] 29)) a w3.heap.size newG X n1 c1 Y m1 d1 N) := by
    obtain ⟨x3, hb3⟩ := q3.out
    have hA := (Below.refl w3.heap.size w3).alloc (Nat.le_refl _) (.cells #[.slice X n1 c1, .slice Y m1 d1] 29)
    have h1 := below_step hb3 hA
    have g1 := G2.out.grow h1
    have hs := hb3.size
    have hs2 := G2.out.below.size
    refine ⟨_, g1, (x3.live.step hA fun i hi => ?_), .inr ⟨hs, by simp⟩, by omega, heap_alloc_new w3 _⟩
    exact ⟨.inr ⟨hi.1, by simp; omega⟩, by omega⟩
  clear q3 G2
  change Code.wp _ _ _ _ (w3.alloc (.cells #[.slice X n1 c1, .slice Y m1 d1] 29))
  obtain ⟨bx, hbx⟩ : ∃ b, b = w3.heap.size := ⟨_, rfl⟩
  rw [← hbx] at P0 ⊢
  generalize w3.alloc (.cells #[.slice X n1 c1, .slice Y m1 d1] 29) = w4 at P0 ⊢
  clear hbx
  go_loopg [6] 151 (fun gk i wr => ∃ (k : Nat) (γ : Gr) (X : Option Addr) (n1 c1 : Nat) (Y : Option Addr) (m1 d1 : Nat), i = .int .i64 (k : Int) ∧ gk + k = 151 ∧ k ≤ n ∧ k ≤ 150 ∧ Hid (∃ N, Play H w wr a bx γ X n1 c1 Y m1 d1 N))
  case atStart => exact ⟨0, newG, X, n1, c1, Y, m1, d1, rfl, by omega, by omega, by omega, P0⟩
  case round =>
    clear P0
    obtain ⟨k, γ, Xa, na, ca, Ya, ma, da, rfl, hgk, hk, hk2, hP⟩ := hrel
    have HG := Lib.hid hgk
    clear hgk
    by_cases hlt : k < n ∧ k < 150
    · obtain ⟨l1, l2⟩ := hlt
      obtain ⟨gi, o, rfl, hg, hcell⟩ := HX.out.row (by omega)
      have lk : k < ds.length := by have := HL.out; omega
      have hnm := HN.out _ (List.getElem_mem lk)
      have hca := hcell k lk
      obtain ⟨d, hd⟩ : ∃ d, ds[k] = d := ⟨_, rfl⟩
      rw [hd] at hca hnm
      have HD : Hid (∀ W, Below w.heap.size w W → DdAt W gi (o + k * 9) d) := fun W hW => hca.below hW hg
      have HNM := Lib.hid hnm
      have hi0 : (0 : Int) ≤ (k : Int) := by omega
      have hi1 : (k : Int) < (n : Int) := by omega
      clear hcell hca hd hnm lk hg
      obtain ⟨N, hP⟩ := hP.out
      have HOK := Lib.hid hP.gr.ok
      have PP := Lib.hid hP
      clear hP
      go_wp2_with fail
      refine PP.out.gr.copy.mono ?_
      rintro e w5 ⟨b, S, T, rfl, ⟨g5, r5, hT⟩, _, hb5⟩
      have x5 := PP.out.x.step (N' := fun i => N i ∧ i ≠ bx) hb5
      have bx5 := (hb5.block _ (heap_lt PP.out.box)).trans PP.out.box
      have PC : Hid ((GX H w w5 (fun i => N i ∨ T i) a γ ∧ H.rep w5 T b γ) ∧ GrAt (fun i => N i ∧ i ≠ bx) w5 (.agg #[.slice Xa na ca, .slice Ya ma da]) γ ∧ (N bx ∧ w.heap.size ≤ bx) ∧ w5.heap[bx]? = some (.cells #[.slice Xa na ca, .slice Ya ma da] 29 (0, 0))) := ⟨⟨g5, r5⟩, x5, ⟨PP.out.here, PP.out.ge⟩, bx5⟩
      obtain ⟨z0, z1, z2, z3, z4, z5, z6, z7, z8⟩ := HD.out _ g5.below
      clear g5 r5 hT hb5 x5 bx5 PP
      have HDO := Lib.hid (PC.out.1.1.deed d HNM.out)
      unfold ddA at HDO
      go_wp2_with fail
      refine HDO.out.mono ?_
      rintro e w6 ⟨rfl, g6, s6⟩
      have P6 : Hid ((GX H w w6 (fun i => N i ∨ T i) a (doG γ d).1 ∧ H.rep w6 T b γ) ∧ GrAt (fun i => N i ∧ i ≠ bx) w6 (.agg #[.slice Xa na ca, .slice Ya ma da]) γ ∧ (N bx ∧ w.heap.size ≤ bx) ∧ w6.heap[bx]? = some (.cells #[.slice Xa na ca, .slice Ya ma da] 29 (0, 0))) := by
        obtain ⟨⟨p1, p2⟩, p3, p4, p5⟩ := PC.out
        exact ⟨⟨g6, H.keep p2 fun i hi => s6.2 i (.inr hi)⟩, p3.keep (fun i hi => s6.2 i (.inl hi.1)) s6.1, p4, (s6.2 _ (.inl p4.1)).trans p5⟩
      clear g6 s6 HDO PC z0 z1 z2 z3 z4 z5 z6 z7 z8
      obtain ⟨z0, z1, z2, z3, z4, z5, z6, z7, z8⟩ := HD.out _ P6.out.1.1.below
      obtain ⟨x0, x1⟩ := two_cells P6.out.2.2.2
      have hok := HOK.out
      have R : Hid (∀ W, Below w6.heap.size w6 W → Calls Tryz.prog 9 #[.agg #[.slice Xa na ca, .slice Ya ma da], .agg #[.int .i64 d.kind, .int .i64 d.kof, .int .i64 d.mode, .int .i64 d.e.dir.1, .int .i64 d.e.dir.2, .string d.e.name, .int .i64 d.e.ino.1, .int .i64 d.e.ino.2, .string d.data]] W fun e w' =>
          ∃ (X : Option Addr) (n1 c1 : Nat) (Y : Option Addr) (m1 d1 : Nat), e = .returned (.tuple #[.agg #[.slice X n1 c1, .slice Y m1 d1], .int .i64 (doG γ d).2]) ∧ GrAt (MoreN (fun i => N i ∧ i ≠ bx) W) w' (.agg #[.slice X n1 c1, .slice Y m1 d1]) (doG γ d).1 ∧ Below W.heap.size W w') := fun W hW => by
        refine (want_any (fun i => N i ∧ i ≠ bx) _ γ d hok (by have := HNM.out; unfold maxLen at this; omega) W (P6.out.2.1.step hW)).mono ?_
        rintro e w' ⟨v, rfl, q1, q2⟩
        obtain ⟨X, n1, c1, Y, m1, d1, rfl⟩ := q1.form
        exact ⟨X, n1, c1, Y, m1, d1, rfl, q1, q2⟩
      go_upto_region 9 with fail
      go_cut [9, 10] from 32 to 40 (fun v1 v2 wx => Told (fun i => N i ∧ i ≠ bx) w6 (doG γ d).1 (doG γ d).2 v1 v2 wx)
      case first =>
        have zb := heap_lt P6.out.2.2.2
        have zg : gi < w6.heap.size := World.block_lt_of_cell? _ _ z0
        go_region_with (first
          | (go_at_call 9; (with_reducible refine (R.out ((w6.alloc (.cells #[.slice none 0 0, .slice none 0 0] 29)).drew) (by repeat (first | exact Below.refl _ _ | assumption | apply Below.drew | exact (Below.refl _ _).alloc (Nat.le_refl _) _))).mono ?_); rintro e w8 ⟨X8, n8, c8, Y8, m8, d8, rfl, q8, hb8⟩; have hx8 := box_behind hb8; obtain ⟨y0, y1⟩ := two_cells hx8; obtain ⟨y2, y3⟩ := two_free hx8)
          | (go_at_call 9; (with_reducible refine (R.out _ (by repeat (first | exact Below.refl _ _ | assumption | apply Below.drew | exact (Below.refl _ _).alloc (Nat.le_refl _) _))).mono ?_); rintro e w8 ⟨X8, n8, c8, Y8, m8, d8, rfl, q8, hb8⟩))
        all_goals
          go_wp2_with fail
          go_meet
        all_goals (case rel => first | exact told_after (by repeat (first | exact Below.refl _ _ | assumption | apply Below.drew)) q8 hb8 | exact told_before (fun i hi => P6.out.1.1.lt i (.inl hi.1)) hx8 q8 hb8)
      case rest =>
        obtain ⟨bn, X8, n8, c8, Y8, m8, d8, rfl, rfl, hB8, hge8, hbox8, q8⟩ := hcut
        generalize wc = w9 at hB8 hbox8 q8 ⊢
        have C1 : Hid (∀ W, Below w6.heap.size w6 W → Calls Tryz.prog 10 #[.pointer (some b), .agg #[.slice Xa na ca, .slice Ya ma da]] W fun e w' => e = .returned (.bool true) ∧ Below W.heap.size W w') := fun W hW =>
          same_any H _ b T _ γ W (H.keep P6.out.1.2 fun i hi => hW.block i (H.lt P6.out.1.2 i hi)) HOK.out (P6.out.2.1.step (N' := fun i => N i ∧ i ≠ bx) hW)
        have C2 : Hid (∀ W, Below w9.heap.size w9 W → Calls Tryz.prog 10 #[.pointer (some a), .agg #[.slice X8 n8 c8, .slice Y8 m8 d8]] W fun e w' => e = .returned (.bool true) ∧ Below W.heap.size W w') := fun W hW => by
          have hg := ((P6.out.1.1.grow hB8).step hW)
          obtain ⟨S', r1, _⟩ := hg.at'
          exact same_any H _ a S' _ (doG γ d).1 W r1 hg.ok (q8.step (N' := MoreN (fun i => N i ∧ i ≠ bx) w6) hW)
        have hx9 := (hB8.block _ (heap_lt P6.out.2.2.2)).trans P6.out.2.2.2
        have HE : Hid (∀ w', Below w9.heap.size w9 w' → ∃ N', Play H w ((w'.setCell ⟨bx, 0, none⟩ (.slice X8 n8 c8)).setCell ⟨bx, 1, none⟩ (.slice Y8 m8 d8)) a bx (doG γ d).1 X8 n8 c8 Y8 m8 d8 N') := fun w' hw' =>
          play_end P6.out.1.1 P6.out.2.2.1.1 P6.out.2.2.1.2 P6.out.2.2.2 hB8 q8 hw'
        clear x0 x1 z0 z1 z2 z3 z4 z5 z6 z7 z8 q8
        obtain ⟨x0, x1⟩ := two_cells hx9
        obtain ⟨y0, y1⟩ := two_cells hbox8
        have f := two_free hx9
        go_wp2_with fail
        refine (C1.out _ hB8).mono ?_
        rintro e w10 ⟨rfl, hb10⟩
        have y0 := cell_later hb10 y0
        have y1 := cell_later hb10 y1
        have hx10 := (hb10.block _ (heap_lt hx9)).trans hx9
        have hy10 := (hb10.block _ (heap_lt hbox8)).trans hbox8
        go_wp2_with fail
        refine (C2.out _ hb10).mono ?_
        rintro e w11 ⟨rfl, hb11⟩
        have hb11' := below_step hb10 hb11
        have hx11 := (hb11.block _ (heap_lt hx10)).trans hx10
        have hy11 := (hb11.block _ (heap_lt hy10)).trans hy10
        clear x0 x1 y0 y1 f
        obtain ⟨x0, x1⟩ := two_cells hx11
        obtain ⟨y0, y1⟩ := two_cells hy11
        obtain ⟨f0, f1⟩ := two_free hx11
        have Q := Lib.hid (HE.out w11 hb11')
        clear hb10 hb11 hb11' hx9 hx10 hx11 hbox8 hy10 hy11 hB8 hge8 HE C1 C2 P6 HD R hok HOK
        go_wp2_with fail
        go_roundg (gk - 1)
        case measure => have := HG.out; omega
        case rel => exact ⟨k + 1, (doG γ d).1, X8, n8, c8, Y8, m8, d8, by go_num, by have := HG.out; omega, by omega, by omega, Q.out⟩
    · have hcase : ¬ (k : Int) < (n : Int) ∨ ((k : Int) < (n : Int) ∧ ¬ (k : Int) < 150) := by omega
      have hB : Hid (Below w.heap.size w wr) := by obtain ⟨N, h⟩ := hP.out; exact h.gr.below
      clear hlt hP
      rcases hcase with c0 | ⟨c0, c1⟩
      all_goals
        go_wp2_with fail
        go_ret
        exact ⟨rfl, hB.out⟩

theorem walk0 (H : GraphHave) (A : Option Addr) (n c : Nat) (ds : List Dd) (w : World) (hnc : n ≤ c) (hc : c ≤ maxLen) (hds : ∀ x ∈ ds, x.e.name.size ≤ maxLen) (h : DdsIn w w.heap.size A n ds) :
    Calls Tryz.prog 3 #[.slice A n c] w fun e w' => e = .returned (.bool true) ∧ Below w.heap.size w w' :=
  core H A n c ds (Nat.le_trans hnc hc) hds w h

end Go.Proofs.YthobfeohgeeofaaGreat.lawGraphPlays
