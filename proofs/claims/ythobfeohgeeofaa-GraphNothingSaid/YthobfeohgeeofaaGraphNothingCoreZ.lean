/-
  With an error nothing changes; what is tied is untied again, and then all is as it was; a graph that is nil has nothing: for all lists of deeds (the first 150 are done), and all deeds.
-/
import Derived.Test.YthobfeohgeeofaaZ12
import Derived.Test.YthobfeohgeeofaaZ12
import Derived.Test.YthobfeohgeeofaaGraphLaterZ
import Derived.Test.YthobfeohgeeofaaGraphBackZ
import Derived.Deep.LoopGhost
import Derived.Deep.CutRange
import Derived.Deep.DeepCutAuto
import Derived.Deep.RegionWith
import Derived.ChangeAlike
import Derived.OpenShut
namespace Go.Proofs.Ythobfeohgeeofaa.lawGraphNothing
open Go.RowKit StampMath GraphMath OpMath

theorem doG_err (g : Gr) (d : Dd) (h : (doG g d).2 ≠ 0) : (doG g d).1 = g := by
  unfold doG at *
  split
  · rename_i k; rw [if_pos k] at h; exact make_err _ _ _ h
  · rename_i k0; rw [if_neg k0] at h
    split
    · rename_i k; rw [if_pos k] at h; exact tie_err _ _ _ h
    · rename_i k1; rw [if_neg k1] at h
      split
      · rename_i k; rw [if_pos k] at h; exact untie_err _ _ _ h
      · rename_i k2; rw [if_neg k2] at h
        split
        · rename_i k; rw [if_pos k] at h; exact drop_err _ _ h
        · rename_i k3; rw [if_neg k3] at h; exact set_err _ _ _ _ h

set_option maxRecDepth 100000 in
set_option maxHeartbeats 12800000 in
theorem core (H : GraphHave) (A : Option Addr) (n c : Nat) (ds : List Dd) (dd : Dd) (hn : n ≤ maxLen) (hname : ∀ d ∈ ds, d.e.name.size ≤ maxLen) (hdd : dd.e.name.size ≤ maxLen) (w : World) (h : DdsIn w w.heap.size A n ds) :
    Calls Try.prog 5 #[.slice A n c, .agg (ddA dd)] w fun e w' => e = .returned (.bool true) ∧ Below w.heap.size w w' := by
  have hl := h.len
  have hb0 : Below w.heap.size w (w.alloc (.cells (ddA dd) 38)) := (Below.refl w.heap.size w).alloc (Nat.le_refl _) _
  have hx0 := heap_alloc_new w (.cells (ddA dd) 38)
  have h0 : DdsIn _ _ A n ds := TabIn.more (TabIn.below h hb0) hb0.size
  have HL := Lib.hid hl
  have HN := Lib.hid hname
  have HDD := Lib.hid hdd
  unfold maxLen at hn
  clear h hl hname hdd
  go_enter Try.func5, Try.ntmps5
  go_upto_region 1 with (fail)
  change Code.wp _ _ _ _ (w.alloc (.cells (ddA dd) 38))
  generalize w.alloc (.cells (ddA dd) 38) = W0 at hb0 hx0 h0 ⊢
  have HX := Lib.hid h0
  have HB0 := Lib.hid hb0
  have HX0 := Lib.hid hx0
  clear h0 hb0 hx0
  go_wp2_with fail
  refine (H.shown _).mono ?_
  rintro e w1 ⟨rfl, hb1⟩
  go_wp2_with fail
  refine (GX.new (H := H) hb1 (fun _ => False) (fun _ h => h.elim)).mono ?_
  rintro e w2 ⟨a, rfl, g2, hb2⟩
  have G2 := Lib.hid g2
  clear g2 hb2 hb1
  go_wp2_with fail
  go_loopg [7] 151 (fun gk i wr => ∃ (k : Nat) (γ : Gr), i = .int .i64 (k : Int) ∧ gk + k = 151 ∧ k ≤ n ∧ k ≤ 150 ∧ Hid (GX H W0 wr (fun _ => False) a γ))
  case atStart => exact ⟨0, newG, rfl, by omega, by omega, by omega, G2.out⟩
  case round =>
    obtain ⟨k, γ, rfl, hgk, hk, hk2, hG⟩ := hrel
    have HG := Lib.hid hgk
    clear hgk G2
    by_cases hlt : k < n ∧ k < 150
    · obtain ⟨l1, l2⟩ := hlt
      obtain ⟨gi, o, rfl, hg, hcell⟩ := HX.out.row (by omega)
      have lk : k < ds.length := by have := HL.out; omega
      obtain ⟨d0, d1, d2, d3, d4, d5, d6, d7, d8⟩ := (hcell k lk).below hG.out.below hg
      have hnm := HN.out _ (List.getElem_mem lk)
      obtain ⟨d, hd⟩ : ∃ d, ds[k] = d := ⟨_, rfl⟩
      rw [hd] at d0 d1 d2 d3 d4 d5 d6 d7 d8 hnm
      have HD := Lib.hid (hG.out.deed d hnm)
      unfold ddA at HD
      have hi0 : (0 : Int) ≤ (k : Int) := by omega
      have hi1 : (k : Int) < (n : Int) := by omega
      clear hcell hd hnm lk
      go_wp2_with fail
      refine HD.out.mono ?_
      rintro e w3 ⟨rfl, q, _⟩
      have Q := Lib.hid q
      clear q d0 d1 d2 d3 d4 d5 d6 d7 d8 HD
      go_wp2_with fail
      go_roundg (gk - 1)
      case measure => have := HG.out; omega
      case rel => exact ⟨k + 1, (doG γ d).1, by go_num, by have := HG.out; omega, by omega, by omega, Q.out⟩
    · have hcase : ¬ (k : Int) < (n : Int) ∨ ((k : Int) < (n : Int) ∧ ¬ (k : Int) < 150) := by omega
      clear hlt HX HN HL
      have HF : Hid (∀ W, Below W0.heap.size W0 W → W.cell? ⟨w.heap.size, 0, none⟩ = some (.int .i64 dd.kind) ∧ W.cell? ⟨w.heap.size, 1, none⟩ = some (.int .i64 dd.kof) ∧ W.cell? ⟨w.heap.size, 2, none⟩ = some (.int .i64 dd.mode) ∧ W.cell? ⟨w.heap.size, 3, none⟩ = some (.int .i64 dd.e.dir.1) ∧ W.cell? ⟨w.heap.size, 4, none⟩ = some (.int .i64 dd.e.dir.2) ∧ W.cell? ⟨w.heap.size, 5, none⟩ = some (.string dd.e.name) ∧ W.cell? ⟨w.heap.size, 6, none⟩ = some (.int .i64 dd.e.ino.1) ∧ W.cell? ⟨w.heap.size, 7, none⟩ = some (.int .i64 dd.e.ino.2) ∧ W.cell? ⟨w.heap.size, 8, none⟩ = some (.string dd.data)) := fun W hW => by
        have hE0 := (hW.block _ (heap_lt HX0.out)).trans HX0.out
        exact ⟨cell_of_row _ _ 0 _ _ (0, 0) hE0, cell_of_row _ _ 1 _ _ (0, 0) hE0, cell_of_row _ _ 2 _ _ (0, 0) hE0, cell_of_row _ _ 3 _ _ (0, 0) hE0, cell_of_row _ _ 4 _ _ (0, 0) hE0, cell_of_row _ _ 5 _ _ (0, 0) hE0, cell_of_row _ _ 6 _ _ (0, 0) hE0, cell_of_row _ _ 7 _ _ (0, 0) hE0, cell_of_row _ _ 8 _ _ (0, 0) hE0⟩
      have HOK := Lib.hid hG.out.ok
      rcases hcase with c0 | ⟨c0, c1⟩
      all_goals
        go_wp2_with fail
        refine hG.out.copy.mono ?_
        rintro e w5 ⟨b, S, T, rfl, ⟨g5, r5, hT⟩, -, hb5⟩
        obtain ⟨d0, d1, d2, d3, d4, d5, d6, d7, d8⟩ := HF.out _ g5.below
        have HD := Lib.hid (g5.deed dd HDD.out)
        unfold ddA at HD
        have P5 := Lib.hid (And.intro g5.below r5)
        clear g5 r5 hb5
        go_wp2_with fail
        refine HD.out.mono ?_
        rintro e w6 ⟨rfl, g6, s6⟩
        have P6 : Hid (GX H W0 w6 (fun i => False ∨ T i) a (doG γ dd).1 ∧ H.rep w6 T b γ) := ⟨g6, H.keep P5.out.2 fun i hi => s6.2 i (.inr hi)⟩
        clear g6 s6 HD P5 d0 d1 d2 d3 d4 d5 d6 d7 d8
        have CI : Hid (∀ (p : Addr) (U : Nat → Prop) (φ : Gr) (V : World), H.rep V U p φ → φ.ok → ∀ W, Below V.heap.size V W → Calls Try.prog 25 #[.pointer (some p)] W (InosPost (inodesG φ) W)) := fun p U φ V r hφ W hW => by
          refine (H.inodes p U φ W (H.keep r fun i hi => hW.block i (H.lt r i hi)) hφ).mono ?_
          rintro e w' ⟨v, rfl, hown, hb⟩
          obtain ⟨B, c, rfl, q1, q2, q3⟩ := inos_own rfl hown
          exact ⟨B, c, rfl, q1, q2, q3.1, q3.2, hb⟩
        have CE : Hid (∀ (p : Addr) (U : Nat → Prop) (φ : Gr) (V : World), H.rep V U p φ → φ.ok → ∀ W, Below V.heap.size V W → Calls Try.prog 24 #[.pointer (some p)] W (EntsPost φ.E W)) := fun p U φ V r hφ W hW => by
          refine (H.entries p U φ W (H.keep r fun i hi => hW.block i (H.lt r i hi)) hφ).mono ?_
          rintro e w' ⟨v, rfl, hown, hb⟩
          obtain ⟨B, c, rfl, q1, q2, q3⟩ := ents_own rfl hown
          exact ⟨B, c, rfl, q1, q2, q3.1, q3.2, hb⟩
        obtain ⟨S6, r6, -⟩ := P6.out.1.at'
        have R6 := Lib.hid r6
        clear r6
        have hf1 : (inodesG (doG γ dd).1).length ≤ 1000 := by unfold inodesG; rw [List.length_map]; exact Nat.le_trans P6.out.1.ok.few (by decide)
        have hf2 : (inodesG γ).length ≤ 1000 := by unfold inodesG; rw [List.length_map]; exact Nat.le_trans HOK.out.few (by decide)
        have hf3 : (doG γ dd).1.E.length ≤ 1000 := Nat.le_trans P6.out.1.ok.entsFew (by decide)
        have hf4 : γ.E.length ≤ 1000 := Nat.le_trans HOK.out.entsFew (by decide)
        have HFW := Lib.hid (And.intro (And.intro hf1 hf2) (And.intro hf3 hf4))
        clear hf1 hf2 hf3 hf4
        have herr : (doG γ dd).2 ≠ 0 → (doG γ dd).1 = γ := doG_err γ dd
        go_upto_region 9 with fail
        go_cut [10] from 42 to 53 (fun v wx => ∃ s : Bool, v = .bool s ∧ ((doG γ dd).2 ≠ 0 → s = true) ∧ Below w6.heap.size w6 wx)
        case first =>
          go_wp2_with fail
          refine (CI.out a S6 _ w6 R6.out P6.out.1.ok w6 (Below.refl _ _)).mono ?_
          rintro z w7 ⟨B1, k1, rfl, j1, _, _, _, b7⟩
          go_wp2_with fail
          refine (CI.out b T γ w6 P6.out.2 HOK.out w7 b7).mono ?_
          rintro z w8 ⟨B2, k2, rfl, j2, _, _, _, hb⟩
          have b8 := below_step b7 hb
          have CN := Lib.hid (refNodes B1 B2 _ k1 _ k2 _ _ HFW.out.1.1 HFW.out.1.2 w8 (j1.later hb) j2)
          clear hb j1 j2
          go_wp2_with fail
          refine CN.out.mono ?_
          rintro z w9 ⟨rfl, hb⟩
          have b9 := below_step b8 hb
          clear hb CN b7 b8
          by_cases q1 : inodesG (doG γ dd).1 = inodesG γ
          · rw [decide_eq_true q1]
            go_wp2_with fail
            refine (CE.out a S6 _ w6 R6.out P6.out.1.ok w9 b9).mono ?_
            rintro z w10 ⟨B3, k3, rfl, j3, _, _, _, hb⟩
            have b10 := below_step b9 hb
            clear hb
            go_wp2_with fail
            refine (CE.out b T γ w6 P6.out.2 HOK.out w10 b10).mono ?_
            rintro z w11 ⟨B4, k4, rfl, j4, _, _, _, hb⟩
            have b11 := below_step b10 hb
            have CN := Lib.hid (refEnts B3 B4 _ k3 _ k4 _ _ HFW.out.2.1 HFW.out.2.2 w11 (j3.later hb) j4)
            clear hb j3 j4
            go_wp2_with fail
            refine CN.out.mono ?_
            rintro z w12 ⟨rfl, hb⟩
            have b12 := below_step b11 hb
            clear hb CN
            go_wp2_with fail
            go_meet
            case rel => exact ⟨_, rfl, fun hne => by rw [herr hne]; simp, b12⟩
          · rw [decide_eq_false q1]
            go_wp2_with fail
            go_meet
            case rel => exact ⟨_, rfl, fun hne => absurd (by rw [herr hne]) q1, b9⟩
        case rest =>
          obtain ⟨s, rfl, hs, hB⟩ := hcut
          generalize wc = w9 at hB ⊢
          obtain ⟨er, her⟩ : ∃ er, er = (doG γ dd).2 := ⟨_, rfl⟩
          rw [← her] at hs ⊢
          have r9 := H.keep P6.out.2 fun i hi => hB.block i (H.lt P6.out.2 i hi)
          have hB09 := below_step P6.out.1.below hB
          have HCP := Lib.hid (H.copy b T γ w9 r9 HOK.out)
          have H9 := Lib.hid (And.intro r9 hB09)
          clear her r9 hB hB09 herr HFW R6 P6
          have hways : er = 0 ∨ (¬ er = 0 ∧ s = true) := by
            by_cases h0 : er = 0
            · exact .inl h0
            · exact .inr ⟨h0, hs h0⟩
          clear hs
          rcases hways with rfl | ⟨h0, rfl⟩
          all_goals
            go_wp2_with fail
            refine HCP.out.mono ?_
            rintro z w10 ⟨hh, V, rfl, rV, hV, hb10⟩
            have rT := H.keep H9.out.1 fun i hi => hb10.block i (H.lt H9.out.1 i hi)
            have hB010 := below_step H9.out.2 hb10
            obtain ⟨d0, d1, d2, d3, d4, d5, d6, d7, d8⟩ := HF.out _ hB010
            have HT := Lib.hid (H.tie hh V γ dd.e w10 rV HOK.out HDD.out)
            obtain ⟨e2, he2⟩ : ∃ e2, e2 = (tieG (nameB dd.e.name) γ dd.e).2 := ⟨_, rfl⟩
            rw [← he2] at HT
            have HE2 := Lib.hid he2
            clear he2
            unfold entA at HT
            have H10 := Lib.hid (And.intro (And.intro rT hB010) (And.intro (And.intro hV (H.lt H9.out.1)) hb10))
            clear rV hV hb10 rT hB010
            go_wp2_with fail
            refine HT.out.mono ?_
            rintro z w11 ⟨V', rfl, rV', hV', hbut⟩
            have hb11 : Below w9.heap.size w9 w11 := H10.out.2.2.trans (hbut.below H10.out.2.1.1 H10.out.2.2.size)
            have rT := H.keep H9.out.1 fun i hi => hb11.block i (H.lt H9.out.1 i hi)
            have hB011 := below_step H9.out.2 hb11
            clear d0 d1 d2 d3 d4 d5 d6 d7 d8
            obtain ⟨d0, d1, d2, d3, d4, d5, d6, d7, d8⟩ := HF.out _ hB011
            have H11 := Lib.hid (And.intro (And.intro rT (And.intro hB011 hb11)) (And.intro rV' (fun i hi => (hV' i hi).elim (H10.out.2.1.1 i) (Nat.le_trans H10.out.2.2.size))))
            clear rV' hV' hbut hb11 rT hB011 HT
            by_cases ht : e2 = 0
            · subst ht
              have HU := Lib.hid (H.untie hh V' (tieG (nameB dd.e.name) γ dd.e).1 dd.e.dir dd.e.name w11 H11.out.2.1 (HOK.out.tie _ _) HDD.out)
              rw [tie_untie HE2.out.symm] at HU
              unfold stA at HU
              go_wp2_with fail
              refine HU.out.mono ?_
              rintro z w12 ⟨V2, rfl, rV2, -, hbut⟩
              have hb12 : Below w9.heap.size w9 w12 := H11.out.1.2.2.trans (hbut.below H11.out.2.2 H11.out.1.2.2.size)
              have rT := H.keep H9.out.1 fun i hi => hb12.block i (H.lt H9.out.1 i hi)
              have hB012 := below_step H9.out.2 hb12
              have hA := (Below.refl w12.heap.size w12).alloc (Nat.le_refl _) (.cells #[.int .i64 dd.e.ino.1, .int .i64 dd.e.ino.2] 24)
              clear d0 d1 d2 d3 d4 d5 d6 d7 d8
              obtain ⟨d0, d1, d2, d3, d4, d5, d6, d7, d8⟩ := HF.out _ (below_step hB012 hA)
              obtain ⟨i0, i1⟩ := two_cells (heap_alloc_new w12 (.cells #[.int .i64 dd.e.ino.1, .int .i64 dd.e.ino.2] 24))
              have H12 := Lib.hid (And.intro (And.intro rT (And.intro hB012 hb12)) (And.intro rV2 hA))
              have hin : (inodesG γ).length ≤ 1000 := by unfold inodesG; rw [List.length_map]; exact Nat.le_trans HOK.out.few (by decide)
              have hen : γ.E.length ≤ 1000 := Nat.le_trans HOK.out.entsFew (by decide)
              have HIN := Lib.hid (And.intro hin hen)
              have heq := eqSt_yes (rfl : dd.e.ino = dd.e.ino)
              clear rV2 hbut hb12 rT hB012 hA HU hin hen
              go_wp2_with fail
              refine (CI.out hh V2 γ w12 H12.out.2.1 HOK.out _ H12.out.2.2).mono ?_
              rintro z w13 ⟨B1, k1, rfl, j1, _, _, _, hb⟩
              have b13 := below_step H12.out.2.2 hb
              clear hb
              go_wp2_with fail
              refine (CI.out b T γ w12 H12.out.1.1 HOK.out w13 b13).mono ?_
              rintro z w14 ⟨B2, k2, rfl, j2, _, _, _, hb⟩
              have b14 := below_step b13 hb
              have cn : Calls Try.prog 27 #[.slice B1 (inodesG γ).length k1, .slice B2 (inodesG γ).length k2] w14 fun e w' => e = .returned (.bool true) ∧ Below w14.heap.size w14 w' := by
                have := refNodes B1 B2 _ k1 _ k2 _ _ HIN.out.1 HIN.out.1 w14 (j1.later hb) j2
                simpa using this
              have CN := Lib.hid cn
              clear cn
              clear hb j1 j2 b13
              go_wp2_with fail
              refine CN.out.mono ?_
              rintro z w15 ⟨rfl, hb⟩
              have b15 := below_step b14 hb
              clear hb b14 CN
              go_wp2_with fail
              refine (CE.out hh V2 γ w12 H12.out.2.1 HOK.out _ b15).mono ?_
              rintro z w16 ⟨B3, k3, rfl, j3, _, _, _, hb⟩
              have b16 := below_step b15 hb
              clear hb b15
              go_wp2_with fail
              refine (CE.out b T γ w12 H12.out.1.1 HOK.out w16 b16).mono ?_
              rintro z w17 ⟨B4, k4, rfl, j4, _, _, _, hb⟩
              have b17 := below_step b16 hb
              have cn : Calls Try.prog 19 #[.slice B3 γ.E.length k3, .slice B4 γ.E.length k4] w17 fun e w' => e = .returned (.bool true) ∧ Below w17.heap.size w17 w' := by
                have := refEnts B3 B4 _ k3 _ k4 _ _ HIN.out.2 HIN.out.2 w17 (j3.later hb) j4
                simpa using this
              have CN := Lib.hid cn
              clear cn
              clear hb j3 j4 b16
              go_wp2_with fail
              refine CN.out.mono ?_
              rintro z wt ⟨rfl, hb⟩
              have hBt := below_step H12.out.1.2.1 (below_step b17 hb)
              clear hb b17 CN heq i0 i1 d0 d1 d2 d3 d4 d5 d6 d7 d8
              obtain ⟨d0, d1, d2, d3, d4, d5, d6, d7, d8⟩ := HF.out _ hBt
              go_wp2_with fail
              have HQ := Lib.hid (H.nilGet dd.e.ino wt)
              unfold stA inoA noIno at HQ
              refine HQ.out.mono ?_
              rintro z w20 ⟨rfl, hb⟩
              have B20 := below_step hBt hb
              clear hb HQ hBt d0 d1 d2 d3 d4 d5 d6 d7 d8
              have A20 := below_step B20 ((Below.refl w20.heap.size w20).alloc (Nat.le_refl _) (.cells #[.int .i64 0, .int .i64 0, .int .i64 0, .int .i64 0, .int .i64 0, .string ⟨#[]⟩] 42))
              obtain ⟨d0, d1, d2, d3, d4, d5, d6, d7, d8⟩ := HF.out _ B20
              have z20 : w.heap.size < w20.heap.size := World.block_lt_of_cell? _ _ d0
              go_wp2_with fail
              have HQ := Lib.hid (H.nilLook dd.e.dir dd.e.name (w20.alloc (.cells #[.int .i64 0, .int .i64 0, .int .i64 0, .int .i64 0, .int .i64 0, .string ⟨#[]⟩] 42)))
              unfold stA at HQ
              refine HQ.out.mono ?_
              rintro z w21 ⟨rfl, hb⟩
              have B21 := below_step A20 hb
              clear hb HQ A20 B20 z20 d0 d1 d2 d3 d4 d5 d6 d7 d8
              have A21 := below_step B21 ((Below.refl w21.heap.size w21).alloc (Nat.le_refl _) (.cells #[.int .i64 0, .int .i64 0] 24))
              obtain ⟨d0, d1, d2, d3, d4, d5, d6, d7, d8⟩ := HF.out _ A21
              go_wp2_with fail
              have HQ := Lib.hid (H.nilDrop dd.e.ino (w21.alloc (.cells #[.int .i64 0, .int .i64 0] 24)))
              unfold stA at HQ
              refine HQ.out.mono ?_
              rintro z w22 ⟨rfl, hb⟩
              have B22 := below_step A21 hb
              clear hb HQ A21 B21 d0 d1 d2 d3 d4 d5 d6 d7 d8
              obtain ⟨d0, d1, d2, d3, d4, d5, d6, d7, d8⟩ := HF.out _ B22
              go_wp2_with fail
              have HQ := Lib.hid (H.nilSet dd.e.ino w22)
              unfold stA at HQ
              refine HQ.out.mono ?_
              rintro z w23 ⟨rfl, hb⟩
              have B23 := below_step B22 hb
              clear hb HQ B22 d0 d1 d2 d3 d4 d5 d6 d7 d8
              go_wp2_with fail
              refine (H.nilCopy w23).mono ?_
              rintro z w24 ⟨rfl, hb⟩
              have B24 := below_step B23 hb
              clear hb B23
              go_wp2_with fail
              refine (H.nilInodes w24).mono ?_
              rintro z w25 ⟨v, rfl, own, hb⟩
              obtain ⟨A25, k25, rfl, -⟩ := inos_own (I := []) rfl own
              have B25 := below_step B24 hb
              clear hb B24 own
              go_wp2_with fail
              refine (H.nilEntries w25).mono ?_
              rintro z w26 ⟨v, rfl, own, hb⟩
              obtain ⟨A26, k26, rfl, -⟩ := ents_own (E := []) rfl own
              have B26 := below_step B25 hb
              clear hb B25 own
              go_wp2_with fail
              have HQ := Lib.hid (H.nilTie w26)
              unfold entA at HQ
              refine HQ.out.mono ?_
              rintro z w27 ⟨rfl, hb⟩
              have B27 := below_step B26 hb
              clear hb B26 HQ
              go_wp2_with fail
              have HQ := Lib.hid (H.nilMake w27)
              unfold stA at HQ
              refine HQ.out.mono ?_
              rintro z w28 ⟨rfl, hb⟩
              have B28 := below_step HB0.out (below_step B27 hb)
              clear hb B27 HQ
              go_wp2_with fail
              go_ret
              exact ⟨rfl, B28⟩
            · have hBt := H11.out.1.2.1
              generalize w11 = wt at hBt d0 d1 d2 d3 d4 d5 d6 d7 d8 ⊢
              go_wp2_with fail
              have HQ := Lib.hid (H.nilGet dd.e.ino wt)
              unfold stA inoA noIno at HQ
              refine HQ.out.mono ?_
              rintro z w20 ⟨rfl, hb⟩
              have B20 := below_step hBt hb
              clear hb HQ hBt d0 d1 d2 d3 d4 d5 d6 d7 d8
              have A20 := below_step B20 ((Below.refl w20.heap.size w20).alloc (Nat.le_refl _) (.cells #[.int .i64 0, .int .i64 0, .int .i64 0, .int .i64 0, .int .i64 0, .string ⟨#[]⟩] 42))
              obtain ⟨d0, d1, d2, d3, d4, d5, d6, d7, d8⟩ := HF.out _ B20
              have z20 : w.heap.size < w20.heap.size := World.block_lt_of_cell? _ _ d0
              go_wp2_with fail
              have HQ := Lib.hid (H.nilLook dd.e.dir dd.e.name (w20.alloc (.cells #[.int .i64 0, .int .i64 0, .int .i64 0, .int .i64 0, .int .i64 0, .string ⟨#[]⟩] 42)))
              unfold stA at HQ
              refine HQ.out.mono ?_
              rintro z w21 ⟨rfl, hb⟩
              have B21 := below_step A20 hb
              clear hb HQ A20 B20 z20 d0 d1 d2 d3 d4 d5 d6 d7 d8
              have A21 := below_step B21 ((Below.refl w21.heap.size w21).alloc (Nat.le_refl _) (.cells #[.int .i64 0, .int .i64 0] 24))
              obtain ⟨d0, d1, d2, d3, d4, d5, d6, d7, d8⟩ := HF.out _ A21
              go_wp2_with fail
              have HQ := Lib.hid (H.nilDrop dd.e.ino (w21.alloc (.cells #[.int .i64 0, .int .i64 0] 24)))
              unfold stA at HQ
              refine HQ.out.mono ?_
              rintro z w22 ⟨rfl, hb⟩
              have B22 := below_step A21 hb
              clear hb HQ A21 B21 d0 d1 d2 d3 d4 d5 d6 d7 d8
              obtain ⟨d0, d1, d2, d3, d4, d5, d6, d7, d8⟩ := HF.out _ B22
              go_wp2_with fail
              have HQ := Lib.hid (H.nilSet dd.e.ino w22)
              unfold stA at HQ
              refine HQ.out.mono ?_
              rintro z w23 ⟨rfl, hb⟩
              have B23 := below_step B22 hb
              clear hb HQ B22 d0 d1 d2 d3 d4 d5 d6 d7 d8
              go_wp2_with fail
              refine (H.nilCopy w23).mono ?_
              rintro z w24 ⟨rfl, hb⟩
              have B24 := below_step B23 hb
              clear hb B23
              go_wp2_with fail
              refine (H.nilInodes w24).mono ?_
              rintro z w25 ⟨v, rfl, own, hb⟩
              obtain ⟨A25, k25, rfl, -⟩ := inos_own (I := []) rfl own
              have B25 := below_step B24 hb
              clear hb B24 own
              go_wp2_with fail
              refine (H.nilEntries w25).mono ?_
              rintro z w26 ⟨v, rfl, own, hb⟩
              obtain ⟨A26, k26, rfl, -⟩ := ents_own (E := []) rfl own
              have B26 := below_step B25 hb
              clear hb B25 own
              go_wp2_with fail
              have HQ := Lib.hid (H.nilTie w26)
              unfold entA at HQ
              refine HQ.out.mono ?_
              rintro z w27 ⟨rfl, hb⟩
              have B27 := below_step B26 hb
              clear hb B26 HQ
              go_wp2_with fail
              have HQ := Lib.hid (H.nilMake w27)
              unfold stA at HQ
              refine HQ.out.mono ?_
              rintro z w28 ⟨rfl, hb⟩
              have B28 := below_step HB0.out (below_step B27 hb)
              clear hb B27 HQ
              go_wp2_with fail
              go_ret
              exact ⟨rfl, B28⟩

theorem walk0 (H : GraphHave) (A : Option Addr) (n c : Nat) (ds : List Dd) (dd : Dd) (w : World) (hnc : n ≤ c) (hc : c ≤ maxLen) (hds : ∀ x ∈ ds, x.e.name.size ≤ maxLen) (h : DdsIn w w.heap.size A n ds) (hdd : dd.e.name.size ≤ maxLen) :
    Calls Try.prog 5 #[.slice A n c, .agg (ddA dd)] w fun e w' => e = .returned (.bool true) ∧ Below w.heap.size w w' :=
  core H A n c ds dd (Nat.le_trans hnc hc) hds hdd w h

end Go.Proofs.Ythobfeohgeeofaa.lawGraphNothing
