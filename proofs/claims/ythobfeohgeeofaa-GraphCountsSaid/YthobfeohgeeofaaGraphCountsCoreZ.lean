/-
  Whatever is done, links are counted right, each directory has one at most, the root none, and none is under itself by another one; entries are of inodes that there are, in directories: for all lists of deeds (the first 150 are done).
-/
import Derived.Test.YthobfeohgeeofaaZ12
import Derived.Test.YthobfeohgeeofaaZ12
import Derived.Test.YthobfeohgeeofaaGraphLaterZ
import Derived.Test.YthobfeohgeeofaaZ18
import Derived.Deep.LoopGhost
import Derived.OpenShut
import Derived.Test.YthobfeohgeeofaaZ07
import Derived.BigQuiet
namespace Go.Proofs.Ythobfeohgeeofaa.lawGraphCounts
open Go.RowKit StampMath GraphMath OpMath

theorem kept_of {C : Prop} {V W : World} (h : C ∧ KeptFrom V W) : Below V.heap.size V W := h.2

/-- What is so of each inode that is told. -/
theorem told_ino {γ : Gr} (h : γ.ok) {x : Ino} (hx : x ∈ inodesG γ) : x.links = (linksE γ.E x.id : Nat) ∧ linksE γ.E x.id ≤ 6 ∧ (x.kind = 1 → linksE γ.E x.id ≤ 1) ∧
    (parentG γ x.id).isSome = (decide (x.kind = 1) && decide (linksE γ.E x.id = 1)) ∧ ((parentG γ x.id).isSome = true → underG γ ((parentG γ x.id).getD (0, 0)) x.id = false) := by
  rw [h.inodes] at hx
  obtain ⟨y, hy, rfl⟩ := List.mem_map.1 hx
  refine ⟨rfl, h.six _, fun hk => h.one _ ⟨y, hy, rfl, hk⟩, (by have := h.parent_iff hy; exact this), fun hs => ?_⟩
  obtain ⟨p, hp⟩ := Option.isSome_iff_exists.1 hs
  dsimp only at hp ⊢
  rw [hp]
  exact h.no_loop hp

/-- What is so of each entry. -/
theorem told_ent {γ : Gr} (h : γ.ok) {e : Ent} (he : e ∈ γ.E) : (getG γ e.dir).isSome = true ∧ ((getG γ e.dir).getD noIno).kind = 1 ∧ (getG γ e.ino).isSome = true ∧ ¬ e.ino = (0, 0) := by
  obtain ⟨x, hx, hk⟩ := h.getDir (h.dirs e he)
  obtain ⟨y, hy, hi⟩ := h.inos e he
  rw [hx]
  refine ⟨rfl, hk, ?_, h.noRoot e he⟩
  rw [← hi, h.get hy]
  rfl

theorem told_root {γ : Gr} (h : γ.ok) : (getG γ (0, 0)).isSome = true ∧ ((getG γ (0, 0)).getD noIno).kind = 1 ∧ ((getG γ (0, 0)).getD noIno).links = 0 := by
  obtain ⟨x, hx, hi, hk⟩ := h.root
  have := h.get hx
  rw [hi] at this
  rw [this]
  refine ⟨rfl, hk, ?_⟩
  show ((linksE γ.E (0, 0) : Nat) : Int) = 0
  have h0 : linksE γ.E (0, 0) = 0 := by
    unfold linksE
    rw [List.length_eq_zero_iff, List.filter_eq_nil_iff]
    intro e he
    simpa using h.noRoot e he
  rw [h0]
  rfl

set_option maxRecDepth 100000 in
set_option maxHeartbeats 12800000 in
theorem core (H : GraphHave) (A : Option Addr) (n c : Nat) (ds : List Dd) (hn : n ≤ maxLen) (hname : ∀ d ∈ ds, d.e.name.size ≤ maxLen) (w : World) (h : DdsIn w w.heap.size A n ds) :
    Calls Try.prog 4 #[.slice A n c] w fun e w' => e = .returned (.bool true) ∧ Below w.heap.size w w' := by
  have hl := h.len
  have HX := Lib.hid h
  have HL := Lib.hid hl
  have HN := Lib.hid hname
  unfold maxLen at hn
  clear h hl hname
  go_enter Try.func4, Try.ntmps4
  go_wp2_with fail
  refine (H.shown _).mono ?_
  rintro e w1 ⟨rfl, hb1⟩
  go_wp2_with fail
  refine (GX.new (H := H) hb1 (fun _ => False) (fun _ h => h.elim)).mono ?_
  rintro e w2 ⟨a, rfl, g2, hb2⟩
  have G2 := Lib.hid g2
  clear g2 hb2 hb1
  go_wp2_with fail
  go_loopg [5] 151 (fun gk i wr => ∃ (k : Nat) (γ : Gr), i = .int .i64 (k : Int) ∧ gk + k = 151 ∧ k ≤ n ∧ k ≤ 150 ∧ Hid (GX H w wr (fun _ => False) a γ))
  case atStart => exact ⟨0, newG, rfl, by omega, by omega, by omega, G2.out⟩
  case round =>
    obtain ⟨k, γ, rfl, hgk, hk, hk2, hG⟩ := hrel
    have HG := Lib.hid hgk
    clear hgk G2
    by_cases hlt : k < n ∧ k < 150
    · obtain ⟨l1, l2⟩ := hlt
      obtain ⟨gi, o, rfl, hg, hcell⟩ := HX.out.row (by omega)
      have lk : k < ds.length := by have := HL.out; omega
      obtain ⟨d0, d1, d2, d3, d4, d5, d6, d7, d8⟩ := (hcell k lk).below hG.out.below hg
      have hnm := HN.out _ (List.getElem_mem lk)
      obtain ⟨d, hd⟩ : ∃ d, ds[k] = d := ⟨_, rfl⟩
      rw [hd] at d0 d1 d2 d3 d4 d5 d6 d7 d8 hnm
      have HD := Lib.hid (hG.out.deed d hnm)
      unfold ddA at HD
      have hi0 : (0 : Int) ≤ (k : Int) := by omega
      have hi1 : (k : Int) < (n : Int) := by omega
      clear hcell hd hnm lk
      go_wp2_with fail
      refine HD.out.mono ?_
      rintro e w3 ⟨rfl, q, _⟩
      have Q := Lib.hid q
      clear q d0 d1 d2 d3 d4 d5 d6 d7 d8 HD
      go_wp2_with fail
      go_roundg (gk - 1)
      case measure => have := HG.out; omega
      case rel => exact ⟨k + 1, (doG γ d).1, by go_num, by have := HG.out; omega, by omega, by omega, Q.out⟩
    · have hcase : ¬ (k : Int) < (n : Int) ∨ ((k : Int) < (n : Int) ∧ ¬ (k : Int) < 150) := by omega
      clear hlt HX HN HL
      have HOK := Lib.hid hG.out.ok
      rcases hcase with c0 | ⟨c0, c1⟩
      all_goals
        go_wp2_with fail
        refine hG.out.entries.mono ?_
        rintro e w5 ⟨⟨v5, rfl, own5, hb5⟩, g5⟩
        obtain ⟨A5, k5, rfl, i5, -⟩ := ents_own rfl own5
        have P5 := Lib.hid (And.intro i5 g5)
        clear own5 hb5 i5 g5
        go_wp2_with fail
        refine P5.out.2.inodes.mono ?_
        rintro e w6 ⟨⟨v6, rfl, own6, hb6⟩, g6⟩
        obtain ⟨A6, k6, rfl, i6, -⟩ := inos_own rfl own6
        have P6 := Lib.hid (And.intro (P5.out.1.later hb6) (And.intro i6 g6))
        clear own6 hb6 i6 g6 P5
        have hL1 : (inodesG γ).length ≤ 40 := by unfold inodesG; rw [List.length_map]; exact hG.out.ok.few
        have hL2 : γ.E.length ≤ 240 := hG.out.ok.entsFew
        have HT1 : Hid (∀ x ∈ inodesG γ, _) := fun x hx => told_ino HOK.out hx
        have HT2 : Hid (∀ e ∈ γ.E, _) := fun e he => told_ent HOK.out he
        have HT3 := Lib.hid (told_root HOK.out)
        have KP : Hid (∀ W, Below w6.heap.size w6 W → ∀ s : St, Calls Try.prog 17 #[.pointer (some a), .agg #[.int .i64 s.1, .int .i64 s.2]] W fun e w' => e = .returned (.tuple #[.agg #[.int .i64 ((parentG γ s).getD (0, 0)).1, .int .i64 ((parentG γ s).getD (0, 0)).2], .bool (parentG γ s).isSome]) ∧ Below W.heap.size W w') := fun W hW s =>
          ((P6.out.2.2.step hW).parent s).mono fun e w' h => ⟨h.1, h.2.2⟩
        have KU : Hid (∀ W, Below w6.heap.size w6 W → ∀ x y : St, Calls Try.prog 22 #[.pointer (some a), .agg #[.int .i64 x.1, .int .i64 x.2], .agg #[.int .i64 y.1, .int .i64 y.2]] W fun e w' => e = .returned (.bool (underG γ x y)) ∧ Below W.heap.size W w') := fun W hW x y =>
          ((P6.out.2.2.step hW).under x y).mono fun e w' h => ⟨h.1, h.2.2⟩
        have KG : Hid (∀ W, Below w6.heap.size w6 W → ∀ s : St, Calls Try.prog 13 #[.pointer (some a), .agg #[.int .i64 s.1, .int .i64 s.2]] W fun e w' => e = .returned (.tuple #[.agg (inoA ((getG γ s).getD noIno)), .bool (getG γ s).isSome]) ∧ Below W.heap.size W w') := fun W hW s =>
          ((P6.out.2.2.step hW).get s).mono fun e w' h => ⟨h.1, h.2.2⟩
        have HIx : Hid (InosIn w6 w6.heap.size A6 (inodesG γ).length (inodesG γ)) := P6.out.2.1
        have HEx : Hid (EntsIn w6 w6.heap.size A5 γ.E.length γ.E) := P6.out.1
        have HB6 := Lib.hid P6.out.2.2.below
        clear hG P6
        go_wp2_with fail
        go_loopg [8] 41 (fun gk i wz => ∃ (j : Nat), i = .int .i64 (j : Int) ∧ gk + j = 41 ∧ j ≤ (inodesG γ).length ∧ Hid (Below w6.heap.size w6 wz))
        case atStart => exact ⟨0, rfl, by omega, by omega, Below.refl _ _⟩
        case round =>
          obtain ⟨j, rfl, hgj, hj, hR⟩ := hrel
          obtain ⟨gj, hgg⟩ : ∃ gj, gj = gk := ⟨_, rfl⟩
          subst hgg
          have HJ := Lib.hid hgj
          clear hgj
          by_cases hlj : j < (inodesG γ).length
          · obtain ⟨gx, ox, rfl, hgx, hrow⟩ := HIx.out.row (by omega)
            have hx := hrow j hlj
            have tx := HT1.out _ (List.getElem_mem hlj)
            obtain ⟨x, hxe⟩ : ∃ x, (inodesG γ)[j] = x := ⟨_, rfl⟩
            rw [hxe] at hx tx
            have HXr : Hid (∀ W, Below w6.heap.size w6 W → InoAt W gx (ox + j * 6) x) := fun W hW => hx.below hW hgx
            have hj0 : (0 : Int) ≤ (j : Int) := by omega
            have hj1 : (j : Int) < ((inodesG γ).length : Int) := by omega
            have HTX := Lib.hid tx
            clear hrow hx tx hxe
            go_wp2_with fail
            go_loopg [9, 10] 241 (fun gk m i wz => ∃ q : Nat, i = .int .i64 (q : Int) ∧ m = .int .i64 (linksE (γ.E.take q) x.id : Nat) ∧ gk + q = 241 ∧ q ≤ γ.E.length ∧ Hid (Below w6.heap.size w6 wz))
            case atStart => exact ⟨0, rfl, rfl, by omega, by omega, hR⟩
            case round =>
              clear hR
              obtain ⟨q, rfl, rfl, hgq, hq, hR⟩ := hrel
              have HQ := Lib.hid hgq
              clear hgq
              by_cases hlq : q < γ.E.length
              · obtain ⟨ge, oe, rfl, hge, hrow⟩ := HEx.out.row (by omega)
                obtain ⟨y0, y1, y2, y3, y4⟩ := (hrow q hlq).below hR.out hge
                obtain ⟨x0, x1, x2, x3, x4, x5⟩ := HXr.out _ hR.out
                have hsn := linksE_snoc γ.E q hlq x.id
                have hnum : (linksE (γ.E.take q) x.id : Int) ≤ 1000 := by have := linksE_le (γ.E.take q) x.id; rw [List.length_take] at this; omega
                have hq0 : (0 : Int) ≤ (q : Int) := by omega
                have hq1 : (q : Int) < (γ.E.length : Int) := by omega
                clear hrow
                by_cases hqe : γ.E[q].ino = x.id
                · rw [if_pos hqe] at hsn
                  have hv := eqSt_yes hqe
                  clear hqe
                  go_wp2_with fail
                  go_quiet (fail)
                  go_wp2_with fail
                  go_roundg (gk - 1)
                  case measure => have := HQ.out; omega
                  case rel => exact ⟨q + 1, by go_num, by rw [hsn]; go_num, by have := HQ.out; omega, by omega, below_drewN' hR.out _⟩
                · rw [if_neg hqe] at hsn
                  have hv := eqSt_no hqe
                  clear hqe
                  go_wp2_with fail
                  go_quiet (fail)
                  go_wp2_with fail
                  go_roundg (gk - 1)
                  case measure => have := HQ.out; omega
                  case rel => exact ⟨q + 1, by go_num, by rw [hsn], by have := HQ.out; omega, by omega, below_drewN' hR.out _⟩
              · have hlq' : ¬ (q : Int) < (γ.E.length : Int) := by omega
                rw [List.take_of_length_le (show γ.E.length ≤ q by omega)]
                clear hlq
                obtain ⟨x0, x1, x2, x3, x4, x5⟩ := HXr.out _ hR.out
                have HPc := Lib.hid (KP.out _ hR.out x.id)
                obtain ⟨f1, f2, f3, f4, f5⟩ := HTX.out
                have f5' : (parentG γ x.id).isSome = true → underG γ ((parentG γ x.id).getD (0, 0)) x.id = false := f5
                obtain ⟨m, hm⟩ : ∃ m, m = linksE γ.E x.id := ⟨_, rfl⟩
                obtain ⟨p, hp⟩ : ∃ p, p = (parentG γ x.id).getD (0, 0) := ⟨_, rfl⟩
                obtain ⟨is, his⟩ : ∃ is, is = (parentG γ x.id).isSome := ⟨_, rfl⟩
                rw [← hm] at f1 f2 f3 f4 ⊢
                rw [← hp, ← his] at f5' HPc
                rw [← his] at f4
                rw [f1] at x3
                have HU : Hid (is = true → ∀ W, Below w6.heap.size w6 W → Calls Try.prog 22 #[.pointer (some a), .agg #[.int .i64 p.1, .int .i64 p.2], .agg #[.int .i64 x.id.1, .int .i64 x.id.2]] W fun e w' => e = .returned (.bool false) ∧ Below W.heap.size W w') := fun hs W hW => by
                  rw [← f5' hs]; exact KU.out W hW p x.id
                obtain ⟨M, hM⟩ : ∃ M : Int, M = (m : Int) := ⟨_, rfl⟩
                rw [← hM] at x3 ⊢
                have hways : (((x.kind == 1) = true) ∧ M = 1 ∧ is = true) ∨ (((x.kind == 1) = true) ∧ M = 0 ∧ is = false) ∨ (((x.kind == 1) = false) ∧ is = false ∧ ¬ (6 : Int) < M) := by
                  by_cases hk : x.kind = 1
                  · have h3 := f3 hk
                    rcases (show m = 0 ∨ m = 1 by omega) with h0 | h0
                    · exact .inr (.inl ⟨by simp [hk], by omega, by rw [f4, h0]; simp⟩)
                    · exact .inl ⟨by simp [hk], by omega, by rw [f4, h0]; simp [hk]⟩
                  · exact .inr (.inr ⟨by simp [hk], by rw [f4]; simp [hk], by omega⟩)
                clear f1 f2 f3 f4 f5 f5' hm hp his HTX hM
                go_wp2_with fail
                refine HPc.out.mono ?_
                rintro z w7 ⟨rfl, hb⟩
                have B7 := below_step hR.out hb
                have hA := (Below.refl w7.heap.size w7).alloc (Nat.le_refl _) (.cells #[.int .i64 p.1, .int .i64 p.2] 24)
                have B8 := below_step B7 hA
                obtain ⟨p0, p1⟩ := two_cells (heap_alloc_new w7 (.cells #[.int .i64 p.1, .int .i64 p.2] 24))
                have x0 := cell_later hA (cell_later hb x0)
                have x1 := cell_later hA (cell_later hb x1)
                have x2 := cell_later hA (cell_later hb x2)
                have x3 := cell_later hA (cell_later hb x3)
                have x4 := cell_later hA (cell_later hb x4)
                have x5 := cell_later hA (cell_later hb x5)
                clear hb hA B7 HPc
                go_upto_region 19 with fail
                change Code.wp _ _ _ _ (w7.alloc (.cells #[.int .i64 p.1, .int .i64 p.2] 24))
                obtain ⟨pb, hpb⟩ : ∃ b, b = w7.heap.size := ⟨_, rfl⟩
                rw [← hpb] at p0 p1 ⊢
                generalize w7.alloc (.cells #[.int .i64 p.1, .int .i64 p.2] 24) = VV at B8 p0 p1 x0 x1 x2 x3 x4 x5 ⊢
                clear hpb
                have HS : Hid (∀ W, Below VV.heap.size VV W → (W.cell? ⟨gx, ox + j * 6, none⟩ = some (.int .i64 x.id.1) ∧ W.cell? ⟨gx, ox + j * 6 + 1, none⟩ = some (.int .i64 x.id.2) ∧ W.cell? ⟨gx, ox + j * 6 + 2, none⟩ = some (.int .i64 x.kind) ∧ W.cell? ⟨gx, ox + j * 6 + 3, none⟩ = some (.int .i64 M) ∧ W.cell? ⟨gx, ox + j * 6 + 4, none⟩ = some (.int .i64 x.mode) ∧ W.cell? ⟨gx, ox + j * 6 + 5, none⟩ = some (.string x.data) ∧ W.cell? ⟨pb, 0, none⟩ = some (.int .i64 p.1) ∧ W.cell? ⟨pb, 1, none⟩ = some (.int .i64 p.2)) ∧ KeptFrom VV W) := fun W hW => ⟨⟨cell_later hW x0, cell_later hW x1, cell_later hW x2, cell_later hW x3, cell_later hW x4, cell_later hW x5, cell_later hW p0, cell_later hW p1⟩, hW⟩
                have CV := Lib.hid B8
                clear B8 p0 p1 x0 x1 x2 x3 x4 x5
                obtain ⟨⟨x0, x1, x2, x3, x4, x5, p0, p1⟩, -⟩ := HS.out VV (Below.refl _ _)
                have x0 := later_cell x0
                have x1 := later_cell x1
                have x2 := later_cell x2
                have x3 := later_cell x3
                have x4 := later_cell x4
                have x5 := later_cell x5
                have p0 := later_cell p0
                have p1 := later_cell p1
                have HUL : Hid (is = true → ∀ y : World, Calls Try.prog 22 #[.pointer (some a), .agg #[.int .i64 p.1, .int .i64 p.2], .agg #[.int .i64 x.id.1, .int .i64 x.id.2]] (later VV y) fun e w' => e = .returned (.bool false) ∧ Below (later VV y).heap.size (later VV y) w') := fun hs y => HU.out hs _ (below_step CV.out (later_below VV y))
                clear HU HS
                rcases hways with ⟨k1, rfl, rfl⟩ | ⟨k1, rfl, rfl⟩ | ⟨k1, rfl, k2⟩
                · refine wp_region_later (by kernel_rfl) (by kernel_rfl) ?_
                  repeat (go_big_quiet_step (with_reducible exact later_call (HUL.out rfl _)))
                  refine wpQuiet_nil ?_
                  intro _ hw'
                  obtain ⟨y, rfl⟩ := hw'
                  go_wp2_with fail
                  go_roundg (gj - 1)
                  case measure => have := HJ.out; omega
                  case rel => exact ⟨j + 1, by go_num, by have := HJ.out; omega, by omega, below_step CV.out (later_below _ _)⟩
                · refine wp_region_later (by kernel_rfl) (by kernel_rfl) ?_
                  repeat (go_big_quiet_step (fail))
                  refine wpQuiet_nil ?_
                  intro _ hw'
                  obtain ⟨y, rfl⟩ := hw'
                  go_wp2_with fail
                  go_roundg (gj - 1)
                  case measure => have := HJ.out; omega
                  case rel => exact ⟨j + 1, by go_num, by have := HJ.out; omega, by omega, below_step CV.out (later_below _ _)⟩
                · have k3 : decide ((6 : Int) < M) = false := by simpa using k2
                  refine wp_region_later (by kernel_rfl) (by kernel_rfl) ?_
                  repeat (go_big_quiet_step (fail))
                  refine wpQuiet_nil ?_
                  intro _ hw'
                  obtain ⟨y, rfl⟩ := hw'
                  go_wp2_with fail
                  go_roundg (gj - 1)
                  case measure => have := HJ.out; omega
                  case rel => exact ⟨j + 1, by go_num, by have := HJ.out; omega, by omega, below_step CV.out (later_below _ _)⟩
          · have hlj' : ¬ (j : Int) < ((inodesG γ).length : Int) := by omega
            clear hlj
            go_wp2_with fail
            go_loopg [13] 241 (fun gk i wz => ∃ q : Nat, i = .int .i64 (q : Int) ∧ gk + q = 241 ∧ q ≤ γ.E.length ∧ Hid (Below w6.heap.size w6 wz))
            case atStart => exact ⟨0, rfl, by omega, by omega, hR⟩
            case round =>
              clear hR
              obtain ⟨q, rfl, hgq, hq, hR⟩ := hrel
              have HQ := Lib.hid hgq
              clear hgq
              by_cases hlq : q < γ.E.length
              · obtain ⟨ge, oe, rfl, hge, hrow⟩ := HEx.out.row (by omega)
                have hy := hrow q hlq
                obtain ⟨t1, t2, t3, t4⟩ := HT2.out _ (List.getElem_mem hlq)
                obtain ⟨y, hye⟩ : ∃ y, γ.E[q] = y := ⟨_, rfl⟩
                rw [hye] at hy t1 t2 t3 t4
                have HY : Hid (∀ W, Below w6.heap.size w6 W → EntAt W ge (oe + q * 5) y) := fun W hW => hy.below hW hge
                have hq0 : (0 : Int) ≤ (q : Int) := by omega
                have hq1 : (q : Int) < (γ.E.length : Int) := by omega
                obtain ⟨y0, y1, y2, y3, y4⟩ := HY.out _ hR.out
                have K1 := Lib.hid (KG.out _ hR.out y.dir)
                rw [t1] at K1
                unfold inoA at K1
                obtain ⟨vd, hvd⟩ : ∃ v, v = (getG γ y.dir).getD noIno := ⟨_, rfl⟩
                rw [← hvd] at K1 t2
                have KI : Hid (∀ W, Below w6.heap.size w6 W → ∃ vi : Ino, Calls Try.prog 13 #[.pointer (some a), .agg #[.int .i64 y.ino.1, .int .i64 y.ino.2]] W fun e w' => e = .returned (.tuple #[.agg #[.int .i64 vi.id.1, .int .i64 vi.id.2, .int .i64 vi.kind, .int .i64 vi.links, .int .i64 vi.mode, .string vi.data], .bool true]) ∧ Below W.heap.size W w') := fun W hW =>
                  ⟨_, by have := KG.out W hW y.ino; rw [t3] at this; exact this⟩
                have hz := eqSt_no (c := (0, 0)) t4
                dsimp only at hz
                have T2 := Lib.hid t2
                clear hrow hy hye hlq t1 t2 t3 t4 hvd
                go_wp2_with fail
                refine K1.out.mono ?_
                rintro z w7 ⟨rfl, hb⟩
                have B7 := below_step hR.out hb
                have hA := (Below.refl w7.heap.size w7).alloc (Nat.le_refl _) (.cells #[.int .i64 vd.id.1, .int .i64 vd.id.2, .int .i64 vd.kind, .int .i64 vd.links, .int .i64 vd.mode, .string vd.data] 42)
                have B7' := below_step B7 hA
                have hbx := heap_alloc_new w7 (.cells #[.int .i64 vd.id.1, .int .i64 vd.id.2, .int .i64 vd.kind, .int .i64 vd.links, .int .i64 vd.mode, .string vd.data] 42)
                clear hb y0 y1 y2 y3 y4 K1
                obtain ⟨y0, y1, y2, y3, y4⟩ := HY.out _ B7
                have hzg := World.block_lt_of_cell? _ _ y0
                dsimp only at hzg
                go_wp2_with fail
                obtain ⟨vi, K2⟩ := KI.out _ B7'
                refine K2.mono ?_
                rintro z w8 ⟨rfl, hb⟩
                have B8 := below_step B7' hb
                have hbx := (hb.block _ (heap_lt hbx)).trans hbx
                have hA := (Below.refl w8.heap.size w8).alloc (Nat.le_refl _) (.cells #[.int .i64 vi.id.1, .int .i64 vi.id.2, .int .i64 vi.kind, .int .i64 vi.links, .int .i64 vi.mode, .string vi.data] 42)
                have B8' := below_step B8 hA
                have k2 : w8.cell? ⟨w7.heap.size, 2, none⟩ = some (.int .i64 1) := by rw [← T2.out]; exact cell_of_row _ _ 2 _ _ (0, 0) hbx
                have hz7 : w7.heap.size < w8.heap.size := heap_lt hbx
                clear hb y0 y1 y2 y3 y4 K2 hbx hA B7 B7' hzg
                obtain ⟨y0, y1, y2, y3, y4⟩ := HY.out _ B8
                have hzg := World.block_lt_of_cell? _ _ y0
                dsimp only at hzg
                have B9 := below_step B8 ((Below.refl w8.heap.size w8).alloc (Nat.le_refl _) (.cells #[.int .i64 vi.id.1, .int .i64 vi.id.2, .int .i64 vi.kind, .int .i64 vi.links, .int .i64 vi.mode, .string vi.data] 42))
                have Q9 := Lib.hid B9
                clear B9
                go_wp2_with fail
                go_roundg (gk - 1)
                case measure => have := HQ.out; omega
                case rel => exact ⟨q + 1, by go_num, by have := HQ.out; omega, by omega, Q9.out⟩
              · have hlq' : ¬ (q : Int) < (γ.E.length : Int) := by omega
                have K1 := Lib.hid (KG.out _ hR.out (0, 0))
                obtain ⟨t1, t2, t3⟩ := HT3.out
                rw [t1] at K1
                unfold inoA at K1
                obtain ⟨v, hv⟩ : ∃ v, v = (getG γ (0, 0)).getD noIno := ⟨_, rfl⟩
                rw [← hv] at K1 t2 t3
                rw [t2, t3] at K1
                have hl40 : ¬ (40 : Int) < ((inodesG γ).length : Int) := by omega
                clear hlq t1 t2 t3 hv
                go_wp2_with fail
                refine K1.out.mono ?_
                rintro z w7 ⟨rfl, hb⟩
                have hBe := below_step HB6.out (below_step hR.out hb)
                have hBf := below_step hBe ((Below.refl w7.heap.size w7).alloc (Nat.le_refl _) (.cells #[.int .i64 v.id.1, .int .i64 v.id.2, .int .i64 1, .int .i64 0, .int .i64 v.mode, .string v.data] 42))
                have HBF := Lib.hid hBf
                clear hb hBe hBf K1
                go_wp2_with fail
                go_ret
                exact ⟨rfl, HBF.out⟩

theorem walk0 (H : GraphHave) (A : Option Addr) (n c : Nat) (ds : List Dd) (w : World) (hnc : n ≤ c) (hc : c ≤ maxLen) (hds : ∀ x ∈ ds, x.e.name.size ≤ maxLen) (h : DdsIn w w.heap.size A n ds) :
    Calls Try.prog 4 #[.slice A n c] w fun e w' => e = .returned (.bool true) ∧ Below w.heap.size w w' :=
  core H A n c ds (Nat.le_trans hnc hc) hds w h

end Go.Proofs.Ythobfeohgeeofaa.lawGraphCounts
