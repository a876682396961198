/-
  The walk of the document's own Untie (graphs).
-/
import Derived.Test.YtlhdbccemgofjaaGreatDoorGraphRefDropZ
namespace Go.Proofs.YtlhdbccemgofjaaGreatDoor
open Go.RowKit StampMath GraphMath OpMath

/-- A graph, a stamp and a number are answered. -/
def UntPost (N : Nat → Prop) (r : Gr × St × Int) (w : World) (e : Ending) (w' : World) : Prop :=
  ∃ v, e = .returned (.tuple #[v, .agg (stA r.2.1), .int .i64 r.2.2]) ∧ GrAt (MoreN N w) w' v r.1 ∧ Below w.heap.size w w'

theorem untieG_eq (g : Gr) (d : St) (nm : ByteArray) : untieG g d nm = if (lookE g.E d nm).isSome = false then (g, (0, 0), 3) else (⟨g.I, g.E.filter fun e => !isAt d nm e⟩, (lookE g.E d nm).getD (0, 0), 0) := by
  unfold untieG
  cases h : lookE g.E d nm with
  | none => simp
  | some x => rfl

set_option maxRecDepth 100000 in
set_option maxHeartbeats 3200000 in
theorem refUntie (N : Nat → Prop) (v : Value) (g : Gr) (id : St) (nm : ByteArray) (hm : g.E.length ≤ 1000) (w : World) (hv : GrAt N w v g) :
    Calls Tryz.prog 45 #[v, .agg (stA id), .string nm] w (UntPost N (untieG g id nm) w) := by
  obtain ⟨i0, hi0, hz0, hz1, hz2⟩ := info_parts ent_infos
  have HV := Lib.hid hv
  obtain ⟨A, n, c, A', m, d, rfl, hI, hc1, hE, hc2⟩ := hv
  have hl' := hE.len
  obtain ⟨x, hx⟩ : ∃ x, x = (lookE g.E id nm).getD (0, 0) := ⟨_, rfl⟩
  obtain ⟨is, his⟩ : ∃ is, is = (lookE g.E id nm).isSome := ⟨_, rfl⟩
  have HL : Hid (∀ W : World, Below w.heap.size w W → Calls Tryz.prog 44 #[.agg #[.slice A n c, .slice A' m d], .agg #[.int .i64 id.1, .int .i64 id.2], .string nm] W fun z w' => z = .returned (.tuple #[.agg #[.int .i64 x.1, .int .i64 x.2], .bool is]) ∧ Below W.heap.size W w') := fun W hW => by
    rw [hx, his]; exact refLook (.slice A n c) A' m d g.E id nm (by have := hE.len; omega) W ((hE.below hW).more hW.size)
  obtain ⟨R, hR⟩ : ∃ R, R = untieG g id nm := ⟨_, rfl⟩
  have hunt := untieG_eq g id nm
  rw [← hR, ← hx, ← his] at hunt
  rw [← hR]
  have HE : Hid (EntsIn w w.heap.size A' m g.E) := hE
  have HI : Hid (InosIn w w.heap.size A n g.I ∧ Cap N A n c) := ⟨hI, hc1⟩
  have HR := Lib.hid hunt
  clear hI hE hc1 hc2 hx his hR hunt
  have hb0 : Held w [(w.heap.size + 1 + 1 + 1, .cells #[.int .i64 0, .int .i64 0] 35), (w.heap.size + 1 + 1, .cells #[.slice none 0 0, .slice none 0 0] 30), (w.heap.size + 1, .cells (stA id) 35), (w.heap.size, .cells #[.slice A n c, .slice A' m d] 30)]
    ((((w.alloc (.cells #[.slice A n c, .slice A' m d] 30)).alloc (.cells (stA id) 35)).alloc (.cells #[.slice none 0 0, .slice none 0 0] 30)).alloc (.cells #[.int .i64 0, .int .i64 0] 35)) :=
    ((((Held.refl w).alloc (.cells #[.slice A n c, .slice A' m d] 30) rfl).alloc (.cells (stA id) 35) (by simp)).alloc (.cells #[.slice none 0 0, .slice none 0 0] 30) (by simp)).alloc (.cells #[.int .i64 0, .int .i64 0] 35) (by simp)
  unfold stA
  go_enter Tryz.func45, Tryz.ntmps45
  go_upto_region 1 with fail
  change Code.wp _ _ _ _ ((((w.alloc (.cells #[.slice A n c, .slice A' m d] 30)).alloc (.cells (stA id) 35)).alloc (.cells #[.slice none 0 0, .slice none 0 0] 30)).alloc (.cells #[.int .i64 0, .int .i64 0] 35))
  generalize (((w.alloc (.cells #[.slice A n c, .slice A' m d] 30)).alloc (.cells (stA id) 35)).alloc (.cells #[.slice none 0 0, .slice none 0 0] 30)).alloc (.cells #[.int .i64 0, .int .i64 0] 35) = w0 at hb0 ⊢
  obtain ⟨c1, c2⟩ := two_cells (g := w.heap.size) (hb0.at 3 rfl)
  obtain ⟨e0, e1⟩ := two_cells (g := w.heap.size + 1) (hb0.at 2 rfl)
  go_wp2_with fail
  refine (HL.out _ hb0.below).mono ?_
  rintro z w2 ⟨rfl, hb2⟩
  have hH2 := hb0.step hb2
  clear hb0 hb2 c1 c2 e0 e1
  go_upto_region 2 with fail
  change Code.wp _ _ _ _ (w2.alloc (.cells #[.int .i64 x.1, .int .i64 x.2] 35))
  obtain ⟨ux, hux⟩ : ∃ u, u = w2.heap.size := ⟨_, rfl⟩
  have hlx : w.heap.size + 1 + 1 + 1 < ux := by rw [hux]; exact heap_lt (hH2.at 0 rfl)
  have hH3 := hH2.alloc (.cells #[.int .i64 x.1, .int .i64 x.2] 35) hux.symm
  rw [← hux]
  generalize w2.alloc (.cells #[.int .i64 x.1, .int .i64 x.2] 35) = w3 at hH3 ⊢
  clear hH2 hux
  obtain ⟨c1, c2⟩ := two_cells (g := w.heap.size) (hH3.at 4 rfl)
  cases is
  · have HR1 : Hid (R = (g, (0, 0), 3)) := HR.out.trans (if_pos rfl)
    clear HR
    obtain ⟨m0, m1⟩ := two_cells (g := w.heap.size + 1 + 1) (hH3.at 2 rfl)
    obtain ⟨f0, f1⟩ := two_free (g := w.heap.size + 1 + 1) (hH3.at 2 rfl)
    obtain ⟨m2, m3⟩ := two_cells (g := w.heap.size + 1 + 1 + 1) (hH3.at 1 rfl)
    obtain ⟨f2, f3⟩ := two_free (g := w.heap.size + 1 + 1 + 1) (hH3.at 1 rfl)
    go_wp2_with fail
    have hB6 := (((hH3.below.setCell (p := ⟨w.heap.size + 1 + 1, 0, none⟩) (by dsimp only; omega) (.slice A n c)).setCell (p := ⟨w.heap.size + 1 + 1, 1, none⟩) (by dsimp only; omega) (.slice A' m d)).setCell (p := ⟨w.heap.size + 1 + 1 + 1, 0, none⟩) (by dsimp only; omega) (.int .i64 0)).setCell (p := ⟨w.heap.size + 1 + 1 + 1, 1, none⟩) (by dsimp only; omega) (.int .i64 0)
    exact bodyPost_ret (v := .tuple #[.agg #[.slice A n c, .slice A' m d], .agg #[.int .i64 0, .int .i64 0], .int .i64 3]) (by simp [results, Tryz.results45, go_sem, m0, m1, m2, m3]) rfl ⟨_, by rw [HR1.out]; rfl, by rw [HR1.out]; exact HV.out.step hB6, hB6⟩
  have HR2 : Hid (R = (⟨g.I, g.E.filter fun e => !isAt id nm e⟩, x, 0)) := HR.out.trans (if_neg (by decide))
  clear HR HV
  go_upto_region 5 with fail
  change Code.wp _ _ _ _ (w3.alloc (.cells #[.slice A n c, .slice none 0 0] 30))
  obtain ⟨uo, huo⟩ : ∃ u, u = w3.heap.size := ⟨_, rfl⟩
  have hlo : ux < uo := by rw [huo]; exact heap_lt (hH3.at 0 rfl)
  have ho0 : (w3.alloc (.cells #[.slice A n c, .slice none 0 0] 30)).heap[uo]? = some (.cells #[.slice A n c, .slice none 0 0] 30 (0, 0)) := by rw [huo]; exact heap_alloc_new _ _
  have hH5 := (hH3.step ((Below.refl w3.heap.size w3).alloc (Nat.le_refl _) (.cells #[.slice A n c, .slice none 0 0] 30)))
  rw [← huo]
  generalize w3.alloc (.cells #[.slice A n c, .slice none 0 0] 30) = w5 at hH5 ho0 ⊢
  clear hH3 huo c1 c2
  go_wp2_with fail
  go_loopg [12] (m + 1) (fun gk i wr => ∃ (k : Nat) (out : Value), i = .int .i64 (k : Int) ∧ gk + k = m + 1 ∧ k ≤ m ∧ wr.heap[uo]? = some (.cells #[.slice A n c, out] 30 (0, 0)) ∧ wr.ownsRow (uo + 1) 93 5 out ((g.E.take k).filter fun e => !isAt id nm e).length (flat (((g.E.take k).filter fun e => !isAt id nm e).map entA)) ∧
    Held w [(ux, .cells #[.int .i64 x.1, .int .i64 x.2] 35), (w.heap.size + 1 + 1 + 1, .cells #[.int .i64 0, .int .i64 0] 35), (w.heap.size + 1 + 1, .cells #[.slice none 0 0, .slice none 0 0] 30), (w.heap.size + 1, .cells (stA id) 35), (w.heap.size, .cells #[.slice A n c, .slice A' m d] 30)] wr)
  case atStart => exact ⟨0, _, rfl, by omega, by omega, ho0, World.ownsRow_nil _ _ _ _, hH5⟩
  case round =>
    obtain ⟨k, out, rfl, hgk, hk, ho, hown, hH⟩ := hrel
    clear hH5 ho0
    have c2 := (two_cells (g := w.heap.size) (hH.at 4 rfl)).2
    obtain ⟨e0, e1⟩ := two_cells (g := w.heap.size + 1) (hH.at 3 rfl)
    by_cases hlt : k < m
    · obtain ⟨gi, o, rfl, hg, hrow⟩ := HE.out.row (by omega)
      have hsn := filter_snoc (fun e : Ent => !isAt id nm e) g.E k (by omega)
      have hle : ((g.E.take k).filter fun e => !isAt id nm e).length ≤ 1000 := by have := List.length_filter_le (fun e : Ent => !isAt id nm e) (g.E.take k); rw [List.length_take] at this; omega
      have hrk := fun W hb => (hrow k (by omega)).below (B := w.heap.size) (W' := W) hb hg
      obtain ⟨y, hy⟩ : ∃ x, g.E[k] = x := ⟨_, rfl⟩
      rw [hy] at hrk hsn
      clear hrow hy
      obtain ⟨p0, p1, p2, p3, p4⟩ := hrk wr hH.below
      have HRow := Lib.hid hrk
      clear hrk
      have hs := names_same y.name nm
      have hcase : (isAt id nm y = true ∧ y.dir = id ∧ y.name = nm) ∨ (isAt id nm y = false ∧ (¬ y.dir = id ∨ (y.dir = id ∧ ¬ y.name = nm))) := by
        unfold isAt
        by_cases h1 : y.dir = id
        · by_cases h2 : y.name = nm
          · exact Or.inl ⟨by simp [h1, h2], h1, h2⟩
          · exact Or.inr ⟨by simp [h2], Or.inr ⟨h1, h2⟩⟩
        · exact Or.inr ⟨by simp [h1], Or.inl h1⟩
      rcases hcase with ⟨hat, h1, h2⟩ | ⟨hat, hcase⟩
      · have hv := eqSt_yes h1
        rw [decide_eq_true h2] at hs
        rw [if_neg (by simp [hat])] at hsn
        have HS := Lib.hid hsn
        clear hsn h1 h2 hat
        go_wp2_with fail
        go_quiet (fail)
        go_wp2_with fail
        go_roundg (gk - 1)
        case measure => omega
        case rel => exact ⟨k + 1, out, by go_num, by omega, by omega, ho, by rw [HS.out]; exact hown, hH.drewN _⟩
      · rw [if_pos (by simp [hat])] at hsn
        have HS := Lib.hid hsn
        clear hsn hat
        have hcase2 : (∀ W : World, (Op.equalIn 10000 35 (.agg #[.int .i64 y.dir.1, .int .i64 y.dir.2]) (.agg #[.int .i64 id.1, .int .i64 id.2])).run Tryz.prog W = .ok false W) ∨ ((∀ W : World, (Op.equalIn 10000 35 (.agg #[.int .i64 y.dir.1, .int .i64 y.dir.2]) (.agg #[.int .i64 id.1, .int .i64 id.2])).run Tryz.prog W = .ok true W) ∧ (y.name.toList == nm.toList) = false) := by
          rcases hcase with h | ⟨h1, h2⟩
          · exact Or.inl (eqSt_no h)
          · exact Or.inr ⟨eqSt_yes h1, by rw [hs, decide_eq_false h2]⟩
        clear hcase hs
        rcases hcase2 with hv | ⟨hv, hs⟩
        all_goals
          go_upto_region 8 with fail
          go_quiet (fail)
          have hH2 := hH.drewN nq
          have hown2 : (wr.drewN nq).ownsRow (uo + 1) 93 5 out ((g.E.take k).filter fun e => !isAt id nm e).length (flat (((g.E.take k).filter fun e => !isAt id nm e).map entA)) := hown
          have ho2 : (wr.drewN nq).heap[uo]? = some (.cells #[.slice A n c, out] 30 (0, 0)) := ho
          generalize wr.drewN nq = w6 at hH2 hown2 ho2 ⊢
          clear c2 e0 e1 p0 p1 p2 p3 p4 hH hown ho hv
          have c2 := (two_cells (g := w.heap.size) (hH2.at 4 rfl)).2
          have o1 := (two_cells ho2).2
          have f1 := (two_free ho2).2
          obtain ⟨p0, p1, p2, p3, p4⟩ := HRow.out w6 hH2.below
          have hm1 : ((g.E.take k).filter fun e => !isAt id nm e).length + 1 ≤ maxLen := by unfold maxLen; omega
          have hi0' : (0 : Int) ≤ (k : Int) := Int.natCast_nonneg _
          have hi1 : (k : Int) < (m : Int) := by omega
          have no : out.ownBlock ≠ some uo := fun e => by have := (hown2.lt uo e).1; omega
          have lo := heap_lt ho2
          have ho3 : ((w6.alloc (.cells (entA y) 93)).drew).heap[uo]? = some (.cells #[.slice A n c, out] 30 (0, 0)) := (heap_alloc_old w6 _ lo).trans ho2
          have hfa := (two_free ho3).2
          have o3 : ((w6.alloc (.cells #[.int .i64 y.dir.1, .int .i64 y.dir.2, .string y.name, .int .i64 y.ino.1, .int .i64 y.ino.2] 93)).drew).cell? ⟨uo, 1, none⟩ = some out := (two_cells ho3).2
          go_upto_region 9 with fail
          go_region_law
            ((refine step_append_lies _ (by rfl) (.tmp 53) (.tmp 59) _ (by rfl) (uo + 1) 93 i0 _ 5 48 Tryz.underlying28 hi0 hz0 hz1 hz2 rfl (by decide) out _ _ (by rfl) ((hown2.alloc _).drew)
                    ⟨w6.heap.size, 0, none⟩ 1 1 (entA y).toList (by rfl) (by rfl) (World.news_of_block (cs := entA y) (t := 93) (fr := (0, 0)) (heap_alloc_new w6 _)) (ent_one y)
                    (by omega) hm1 (by omega) (by simp; omega) (w6.heap.size + 1) (by simp) ?_; intro gg cap w7 hown7 hgrow hat hlt7; have hf7 : w7.frozen? ⟨uo, 1, none⟩ = false := (hgrow.frozen_far ⟨uo, 1, none⟩ (by simp; omega) (Ne.symm no)).trans hfa; have hc7 : w7.cell? ⟨uo, 1, none⟩ = some out := (hgrow.cell_far ⟨uo, 1, none⟩ (by simp; omega) (Ne.symm no)).trans o3))
          all_goals
            have hH7 := (hH2.step (((Below.refl w6.heap.size w6).alloc (Nat.le_refl _) (.cells (entA y) 93)).drew)).grown (B := uo + 1) hgrow (fun q hq => (hown2.lt q hq).1) (by intro p hp; simp at hp; rcases hp with rfl | rfl | rfl | rfl | rfl <;> (dsimp only; omega)) (by omega)
            have ho7 := (hgrow.block uo (by simp; omega) (Ne.symm no)).trans ho3
            rw [flat_ent] at hown7
            have hown8 := hown7.kept (grownBy_set w7 uo 1 (.slice (some ⟨gg, 0, none⟩) (((g.E.take k).filter fun e => !isAt id nm e).length + 1) cap)) (Or.inr fun e => by have := (hown7.lt uo e).1; omega)
            have ho8 := heap_setCell_same w7 uo 1 _ _ (.slice (some ⟨gg, 0, none⟩) (((g.E.take k).filter fun e => !isAt id nm e).length + 1) cap) ho7
            go_wp2_with fail
            go_roundg (gk - 1)
            case measure => omega
            case rel => exact ⟨k + 1, _, by go_num, by omega, by omega, ho8, by rw [HS.out, List.length_append]; exact hown8, hH7.set (by intro p hp; simp at hp; rcases hp with rfl | rfl | rfl | rfl | rfl <;> (dsimp only; omega)) (by omega) _ _⟩
    · have hk2 : (g.E.take k) = g.E := List.take_of_length_le (by omega)
      rw [hk2] at hown
      obtain ⟨L, hL⟩ : ∃ L, L = g.E.filter fun e => !isAt id nm e := ⟨_, rfl⟩
      rw [← hL] at hown HR2
      obtain ⟨B, cc, rfl, -⟩ := ents_own rfl hown
      obtain ⟨o0, o1⟩ := two_cells ho
      obtain ⟨d0, d1⟩ := two_cells (g := ux) (hH.at 0 rfl)
      obtain ⟨m0, m1⟩ := two_cells (g := w.heap.size + 1 + 1) (hH.at 2 rfl)
      obtain ⟨f0, f1⟩ := two_free (g := w.heap.size + 1 + 1) (hH.at 2 rfl)
      obtain ⟨m2, m3⟩ := two_cells (g := w.heap.size + 1 + 1 + 1) (hH.at 1 rfl)
      obtain ⟨f2, f3⟩ := two_free (g := w.heap.size + 1 + 1 + 1) (hH.at 1 rfl)
      have q4 : ∀ a b c' d' : Value, (((((wr.setCell ⟨w.heap.size + 1 + 1, 0, none⟩ a).setCell ⟨w.heap.size + 1 + 1, 1, none⟩ b).setCell ⟨w.heap.size + 1 + 1 + 1, 0, none⟩ c').setCell ⟨w.heap.size + 1 + 1 + 1, 1, none⟩ d').ownsRow (uo + 1) 93 5 (.slice B L.length cc) L.length (flat (L.map entA)) ∧
          Below w.heap.size w ((((wr.setCell ⟨w.heap.size + 1 + 1, 0, none⟩ a).setCell ⟨w.heap.size + 1 + 1, 1, none⟩ b).setCell ⟨w.heap.size + 1 + 1 + 1, 0, none⟩ c').setCell ⟨w.heap.size + 1 + 1 + 1, 1, none⟩ d')) ∧
          (((((wr.setCell ⟨w.heap.size + 1 + 1 + 1, 0, none⟩ c').setCell ⟨w.heap.size + 1 + 1 + 1, 1, none⟩ d').setCell ⟨w.heap.size + 1 + 1, 0, none⟩ a).setCell ⟨w.heap.size + 1 + 1, 1, none⟩ b).ownsRow (uo + 1) 93 5 (.slice B L.length cc) L.length (flat (L.map entA)) ∧
          Below w.heap.size w ((((wr.setCell ⟨w.heap.size + 1 + 1 + 1, 0, none⟩ c').setCell ⟨w.heap.size + 1 + 1 + 1, 1, none⟩ d').setCell ⟨w.heap.size + 1 + 1, 0, none⟩ a).setCell ⟨w.heap.size + 1 + 1, 1, none⟩ b)) := fun a b c' d' =>
        ⟨⟨own_set2 (own_set2 hown (by omega) a b) (by omega) c' d', (((hH.below.setCell (by dsimp only; omega) _).setCell (by dsimp only; omega) _).setCell (by dsimp only; omega) _).setCell (by dsimp only; omega) _⟩,
          own_set2 (own_set2 hown (by omega) c' d') (by omega) a b, (((hH.below.setCell (by dsimp only; omega) _).setCell (by dsimp only; omega) _).setCell (by dsimp only; omega) _).setCell (by dsimp only; omega) _⟩
      have Q4 := Lib.hid q4
      have hBd := hH.below
      clear q4 hown hk2 hL ho
      go_upto_region 10 with fail
      go_region
      all_goals
        go_wp2_with fail
        exact bodyPost_ret (v := .tuple #[.agg #[.slice A n c, .slice B L.length cc], .agg #[.int .i64 x.1, .int .i64 x.2], .int .i64 0]) (by simp [results, Tryz.results45, go_sem, m0, m1, m2, m3]) rfl (by
          first
            | (have h := (Q4.out (.slice A n c) (.slice B L.length cc) (.int .i64 x.1) (.int .i64 x.2)).1
               obtain ⟨p1, p2⟩ := ents_in h.1
               exact ⟨_, by rw [HR2.out]; rfl, by rw [HR2.out]; exact GrAt.step (N := MoreN N w) (v := .agg #[.slice A n c, .slice B L.length cc]) (g := ⟨g.I, L⟩) ⟨A, n, c, B, _, cc, rfl, (HI.out.1.below h.2).more h.2.size, HI.out.2.to, p1, p2.to⟩ ((Below.refl _ _).drew), h.2.drew⟩)
            | (have h := (Q4.out (.slice A n c) (.slice B L.length cc) (.int .i64 x.1) (.int .i64 x.2)).2
               obtain ⟨p1, p2⟩ := ents_in h.1
               exact ⟨_, by rw [HR2.out]; rfl, by rw [HR2.out]; exact GrAt.step (N := MoreN N w) (v := .agg #[.slice A n c, .slice B L.length cc]) (g := ⟨g.I, L⟩) ⟨A, n, c, B, _, cc, rfl, (HI.out.1.below h.2).more h.2.size, HI.out.2.to, p1, p2.to⟩ ((Below.refl _ _).drew), h.2.drew⟩))

end Go.Proofs.YtlhdbccemgofjaaGreatDoor
