/-
  The walk of the document's own Diff (records): what is in one list alone.
-/
import Derived.Test.YthcmgaibbpacfaaGreatDoorZX02
import Derived.Test.YthcmgaibbpacfaaGreatDoorZX00
import Derived.Test.YthcmgaibbpacfaaGreatDoorZX00
import Derived.Test.YthcmgaibbpacfaaGreatDoorZX00
import Derived.Test.YthcmgaibbpacfaaGreatDoorZX01
import Derived.Test.YthcmgaibbpacfaaGreatDoorZX02
import Derived.Test.YthcmgaibbpacfaaGreatDoorZ01
import Derived.Deep.RegionHeld3
import Derived.Deep.RegionWith
import Derived.Deep.RegionLaw
import Derived.Deep.Cut
import Derived.Deep.DeepCutAuto
import Derived.Test.YthcmgaibbpacfaaGreatDoorZ00
import Derived.Test.YthcmgaibbpacfaaGreatDoorRows
namespace Go.Proofs.YthcmgaibbpacfaaGreatDoor
open Go.RowKit StampMath GraphMath

theorem filterI_snoc {α : Type} (p : α → Bool) (l : List α) (k : Nat) (h : k < l.length) : (l.take (k + 1)).filter p = if p l[k] = true then (l.take k).filter p ++ [l[k]] else (l.take k).filter p := by
  rw [List.take_succ_eq_append_getElem h, List.filter_append]
  by_cases e : p l[k] = true
  · rw [if_pos e]; simp [e]
  · rw [if_neg e]; simp [e]

theorem other_is (h : Gr) (x : Ino) : otherI h x = !((getG h x.id).isSome && (decide (((getG h x.id).getD noIno).kind = x.kind) && decide (((getG h x.id).getD noIno).mode = x.mode) && decide (((getG h x.id).getD noIno).data = x.data))) := by
  unfold otherI
  cases getG h x.id <;> rfl

theorem got_after' {w6 W w8 : World} {y : Ino} {is : Bool} (hW : Below w6.heap.size w6 W) (hb8 : Below W.heap.size W w8) : Got w6 y is (.pointer (some ⟨w8.heap.size, 0, none⟩)) (.bool is) (w8.alloc (.cells #[.int .i64 y.id.1, .int .i64 y.id.2, .int .i64 y.kind, .int .i64 y.links, .int .i64 y.mode, .string y.data] 70)) := got_after hW hb8

set_option maxRecDepth 100000 in
set_option maxHeartbeats 3200000 in
theorem refDiff (A A' B B' : Option Addr) (n c m d nb cb mb db : Nat) (g h : Gr) (w : World) (hg : GrV w A n c A' m d g) (hh : GrV w B nb cb B' mb db h) :
    Calls Tryz.prog 13 #[.agg #[.slice A n c, .slice A' m d], .agg #[.slice B nb cb, .slice B' mb db]] w fun e w' => ∃ (L1 : Option Addr) (c1 : Nat) (L2 : Option Addr) (c2 : Nat) (L3 : Option Addr) (c3 : Nat) (L4 : Option Addr) (c4 : Nat),
      e = .returned (.agg #[.slice L1 (lostG g h).length c1, .slice L2 (lostG h g).length c2, .slice L3 (wasG g h).length c3, .slice L4 (newN g h).length c4]) ∧ TabAt (fun i => w.heap.size ≤ i) 5 w' L1 (lostG g h).length ((lostG g h).map entA) ∧ TabAt (fun i => w.heap.size ≤ i) 5 w' L2 (lostG h g).length ((lostG h g).map entA) ∧ TabAt (fun i => w.heap.size ≤ i) 6 w' L3 (wasG g h).length ((wasG g h).map inoA) ∧ TabAt (fun i => w.heap.size ≤ i) 2 w' L4 (newN g h).length ((newN g h).map stA) ∧ Below w.heap.size w w' := by
  have HO1 : Hid (∀ W, Below w.heap.size w W → Calls Tryz.prog 36 #[.agg #[.slice A n c, .slice A' m d], .agg #[.slice B nb cb, .slice B' mb db]] W fun e w' => ∃ v, e = .returned v ∧ w'.ownsRow (W.heap.size + 2) 66 5 v (lostG g h).length (flat ((lostG g h).map entA)) ∧ Below W.heap.size W w') := Lib.hid fun W hW => refOnlyOwn _ _ A' B' m d mb db g.E h.E hg.fewE hh.fewE W (hg.step hW).E (hh.step hW).E
  have HO2 : Hid (∀ W, Below w.heap.size w W → Calls Tryz.prog 36 #[.agg #[.slice B nb cb, .slice B' mb db], .agg #[.slice A n c, .slice A' m d]] W fun e w' => ∃ v, e = .returned v ∧ w'.ownsRow (W.heap.size + 2) 66 5 v (lostG h g).length (flat ((lostG h g).map entA)) ∧ Below W.heap.size W w') := Lib.hid fun W hW => refOnlyOwn _ _ B' A' mb db m d h.E g.E hh.fewE hg.fewE W (hh.step hW).E (hg.step hW).E
  have hH0 : Held w ([(w.heap.size + 1 + 1, .cells #[.slice none 0 0, .slice none 0 0, .slice none 0 0, .slice none 0 0] 42)] ++ [(w.heap.size + 1, .cells #[.slice B nb cb, .slice B' mb db] 39), (w.heap.size, .cells #[.slice A n c, .slice A' m d] 39)])
    (((w.alloc (.cells #[.slice A n c, .slice A' m d] 39)).alloc (.cells #[.slice B nb cb, .slice B' mb db] 39)).alloc (.cells #[.slice none 0 0, .slice none 0 0, .slice none 0 0, .slice none 0 0] 42)) :=
    (((Held.refl w).alloc (.cells #[.slice A n c, .slice A' m d] 39) rfl).alloc (.cells #[.slice B nb cb, .slice B' mb db] 39) (by simp)).alloc (.cells #[.slice none 0 0, .slice none 0 0, .slice none 0 0, .slice none 0 0] 42) (by simp)
  have HG := Lib.hid hg
  have HH := Lib.hid hh
  obtain ⟨j0, hj0, hz0, hz1, hz2⟩ := info_parts ino_infos
  clear hg hh
  go_enter Tryz.func13, Tryz.ntmps13
  go_upto_region 1 with fail
  change Code.wp _ _ _ _ (((w.alloc (.cells #[.slice A n c, .slice A' m d] 39)).alloc (.cells #[.slice B nb cb, .slice B' mb db] 39)).alloc (.cells #[.slice none 0 0, .slice none 0 0, .slice none 0 0, .slice none 0 0] 42))
  generalize ((w.alloc (.cells #[.slice A n c, .slice A' m d] 39)).alloc (.cells #[.slice B nb cb, .slice B' mb db] 39)).alloc (.cells #[.slice none 0 0, .slice none 0 0, .slice none 0 0, .slice none 0 0] 42) = w0 at hH0 ⊢
  have hS0 : DiffS w A A' B B' n c m d nb cb mb db w0 := diff_s hH0
  have hSd : DiffS w A A' B B' n c m d nb cb mb db w0.drew := diff_s hH0.drew
  go_cut [5] from 13 to 20 (fun v wx => DiffRec w A A' B B' n c m d nb cb mb db (lostG g h) (lostG h g) v wx)
  case first =>
    have zz1 := diff_lt hS0
    have zz0 : w.heap.size < w0.heap.size := by omega
    unfold DiffS at hS0 hSd
    go_region_held3 (fun W => Held w [(w.heap.size + 1, .cells #[.slice B nb cb, .slice B' mb db] 39), (w.heap.size, .cells #[.slice A n c, .slice A' m d] 39)] W ∧ W.cell? ⟨w.heap.size, 0, none⟩ = some (.slice A n c) ∧ W.cell? ⟨w.heap.size, 1, none⟩ = some (.slice A' m d) ∧ W.cell? ⟨w.heap.size + 1, 0, none⟩ = some (.slice B nb cb) ∧ W.cell? ⟨w.heap.size + 1, 1, none⟩ = some (.slice B' mb db)) (first | (with_reducible assumption) | (with_reducible exact diff_alloc (by assumption) _) | (with_reducible exact diff_drew (by assumption)) | (with_reducible exact diff_drew (diff_alloc (by assumption) _)) | (with_reducible exact diff_set4 (by assumption) (by first | assumption | exact zz1) _ _ _ _))
      (first
        | (go_at_call 36; (with_reducible refine (HO1.out _ ?_).mono ?_); (with_reducible (first | exact hSd.1.below | exact (diff_drew (diff_alloc hS0 _)).1.below | exact (diff_alloc hS0 _).1.below | exact (diff_alloc hSd _).1.below)); rintro e w1 ⟨v1, rfl, own1, hb1⟩; obtain ⟨D1, p1, rfl, _, _⟩ := ents_own rfl own1; have hS1 := diff_step (by with_reducible first | exact hSd | exact diff_drew (diff_alloc hS0 _) | exact diff_alloc hSd _) hb1; unfold DiffS at hS1; have zy1 := diff_lt hS1; have zy0 : w.heap.size < w1.heap.size := Nat.lt_trans (Nat.lt_succ_self _) zy1; (first | ((with_reducible have bx1 := box_behind hb1); obtain ⟨y0, y1, y2, y3⟩ := four_cells bx1; obtain ⟨f0, f1, f2, f3⟩ := four_free bx1) | ((with_reducible have bx1 := box_behind2 hb1); obtain ⟨y0, y1, y2, y3⟩ := four_cells bx1; obtain ⟨f0, f1, f2, f3⟩ := four_free bx1) | skip))
        | (go_at_call 36; (with_reducible refine (HO2.out _ ?_).mono ?_); (with_reducible (first | exact hS1.1.below | exact (diff_alloc hS1 _).1.below)); rintro e w2 ⟨v2, rfl, own2, hb2⟩; obtain ⟨D2, p2, rfl, _, _⟩ := ents_own rfl own2; have hS2 := diff_step (by with_reducible first | exact hS1 | exact diff_alloc hS1 _) hb2; unfold DiffS at hS2; (first | ((with_reducible have bx2 := (hb2.block _ (heap_lt bx1)).trans bx1); obtain ⟨y0, y1, y2, y3⟩ := four_cells bx2; obtain ⟨f0, f1, f2, f3⟩ := four_free bx2) | ((with_reducible have bx2 := box_behind hb2); obtain ⟨y0, y1, y2, y3⟩ := four_cells bx2; obtain ⟨f0, f1, f2, f3⟩ := four_free bx2) | ((with_reducible have bx2 := box_behind2 hb2); obtain ⟨y0, y1, y2, y3⟩ := four_cells bx2; obtain ⟨f0, f1, f2, f3⟩ := four_free bx2) | skip)))
    all_goals
      go_wp2_with fail
      go_meet
    all_goals (
      have hB1 : Below w0.heap.size w0 w1 := below_step (by repeat (first | exact Below.refl _ _ | assumption | apply Below.drew | exact (Below.refl _ _).alloc (Nat.le_refl _) _)) hb1
      have hB2 : Below w1.heap.size w1 w2 := below_step (by repeat (first | exact Below.refl _ _ | assumption | apply Below.drew | exact (Below.refl _ _).alloc (Nat.le_refl _) _)) hb2
      have hr0 := hH0.at 0 rfl
      have hr2 := (hB2.block _ (Nat.lt_of_lt_of_le (heap_lt hr0) hB1.size)).trans ((hB1.block _ (heap_lt hr0)).trans hr0)
      have lt0 := heap_lt hr0
      have lt1 := hB1.size
      have sd : w0.drew.heap.size = w0.heap.size := rfl
      have q1 := own_block own1
      have q2 := own_block own2
      have own1b := own_call own1 hB2)
    · exact diff_rec_alloc hS2 hr2 own1b own2 (by omega) (by omega)
    · exact diff_rec_set hS2 hr2 own1b own2 (by omega) (by simp; omega) (by omega) bx2 (fun p hp => by have := (q1 p hp).2; omega) (fun p hp => by have := (q2 p hp).1; simp at this; omega)
    · exact diff_rec_set hS2 hr2 own1b own2 (by first | (simp; omega) | (have h9 : ∀ (o : Obj), (w0.alloc o).drew.heap.size = w0.heap.size + 1 := (fun o => by show (w0.alloc o).heap.size = _; simp); rw [h9]; omega)) (by omega) (by omega) bx2 (fun p hp => by have := (q1 p hp).1; have h9 : ∀ (o : Obj), (w0.alloc o).drew.heap.size = w0.heap.size + 1 := (fun o => by show (w0.alloc o).heap.size = _; simp); rw [h9] at this; omega) (fun p hp => by have := (q2 p hp).1; omega)
  case rest =>
    obtain ⟨u, L1, c1, L2, c2, rfl, hS, hr, hu, hx, o1, o2, n1, n2⟩ := hcut
    generalize wc = wA at hS hr hx o1 o2 ⊢
    obtain ⟨hA, a0, a1, a2, a3⟩ := id hS
    have HN : Hid (Calls Tryz.prog 37 #[.agg #[.slice A n c, .slice A' m d]] wA (InosPost (inodesG g) wA)) := Lib.hid (refInodes A A' n c m d g HG.out.fewI HG.out.fewE wA (HG.out.step hA.below).I (HG.out.step hA.below).E)
    clear hSd hS0 hH0 HO1 HO2
    go_wp2_with fail
    refine HN.out.mono ?_
    rintro e w3 ⟨N1, k1, rfl, p3, _, _, _, hb3⟩
    have D3 := Lib.hid (diff_mid_start hS hr hu hx o1 o2 n1 n2 hb3)
    have X3 := Lib.hid D3.out.box
    have P3 : Hid (InosIn w3 w3.heap.size N1 (inodesG g).length (inodesG g)) := p3
    obtain ⟨b, hb⟩ : ∃ b, b = w3.heap.size := ⟨_, rfl⟩
    rw [← hb] at D3
    have HB := Lib.hid hb
    have hlen : (inodesG g).length ≤ 1000 := by unfold inodesG; rw [List.length_map, HG.out.I.len]; exact HG.out.fewI
    obtain ⟨N, hNl⟩ : ∃ N, N = (inodesG g).length := ⟨_, rfl⟩
    have HNL := Lib.hid hNl
    rw [← hNl] at P3 hlen ⊢
    clear hA a0 a1 a2 a3 hS hr hx o1 o2 n1 n2 HN hb3 p3 hb hNl hu
    go_wp2_with fail
    go_loopg [7] (N + 1) (fun gk i wr => ∃ (k : Nat) (v3 : Value), i = .int .i64 (k : Int) ∧ gk + k = N + 1 ∧ k ≤ N ∧ Hid (DiffMid w A A' B B' n c m d nb cb mb db (lostG g h) (lostG h g) (((inodesG g).take k).filter (otherI h)) [] b u L1 c1 L2 c2 v3 (.slice none 0 0) wr ∧ OffU b u w3 wr))
    case atStart => exact ⟨0, _, rfl, by omega, by omega, D3.out, Nat.le_of_eq HB.out, fun _ _ _ => rfl⟩
    case round =>
      clear D3
      obtain ⟨k, v3, rfl, hgk, hk, hD⟩ := hrel
      have HK := Lib.hid hgk
      clear hgk
      by_cases hlt : k < N
      · obtain ⟨gi, o, rfl, hg, hrow⟩ := P3.out.row (by omega)
        have lk : k < (inodesG g).length := by have := HNL.out; omega
        have hsn := filterI_snoc (otherI h) (inodesG g) k lk
        have hgu : gi ≠ u := box_ne X3.out (hrow k lk).1
        have hgb : gi < b := by have := HB.out; omega
        have hrk := fun W (hb : OffU b u w3 W) => hb.ino (hrow k lk) hgb hgu
        obtain ⟨x, hx⟩ : ∃ x, (inodesG g)[k] = x := ⟨_, rfl⟩
        rw [hx] at hrk hsn
        have HRow := Lib.hid hrk
        have HS := Lib.hid hsn
        clear hrow hx hrk hsn lk
        have hi0 : (0 : Int) ≤ (k : Int) := by omega
        have hi1 : (k : Int) < (N : Int) := by omega
        obtain ⟨y, hy⟩ : ∃ y, y = (getG h x.id).getD noIno := ⟨_, rfl⟩
        obtain ⟨is, his⟩ : ∃ is, is = (getG h x.id).isSome := ⟨_, rfl⟩
        obtain ⟨w6, hw6⟩ : ∃ W, W = wr := ⟨_, rfl⟩
        rw [← hw6] at hD ⊢
        clear hw6 hlt
        have R : Hid (∀ W, Below w.heap.size w W → Calls Tryz.prog 38 #[.agg #[.slice B nb cb, .slice B' mb db], .agg #[.int .i64 x.id.1, .int .i64 x.id.2]] W fun e w' => e = .returned (.tuple #[.agg (inoA y), .bool is]) ∧ Below W.heap.size W w') := Lib.hid fun W hW => by
          rw [hy, his]
          exact (HH.out.step hW).get x.id
        have HYI := Lib.hid (And.intro hy his)
        clear hy his
        obtain ⟨p0, p1, p2, p3, p4, p5⟩ := HRow.out w6 hD.out.2
        obtain ⟨_, a0, a1, a2, a3⟩ := id hD.out.1.s
        unfold inoA at R
        go_upto_region 6 with fail
        go_cut [8, 9] from 22 to 38 (fun v1 v2 wx => Got w6 y is v1 v2 wx)
        case first =>
          have hG := dg_of hD.out.1.s p0 p1
          have hGd := dg_drew hG
          have zb := diff_lt hD.out.1.s
          have zb0 : w.heap.size < w6.heap.size := by omega
          have zg : gi < w6.heap.size := World.block_lt_of_cell? _ _ p0
          have zn : gi ≠ w6.heap.size := by omega
          clear p0 p1 p2 p3 p4 p5 a0 a1 a2 a3
          unfold DiffG at hG hGd
          go_region_held3 (fun W => Held w [(w.heap.size + 1, .cells #[.slice B nb cb, .slice B' mb db] 39), (w.heap.size, .cells #[.slice A n c, .slice A' m d] 39)] W ∧ W.cell? ⟨w.heap.size, 0, none⟩ = some (.slice A n c) ∧ W.cell? ⟨w.heap.size, 1, none⟩ = some (.slice A' m d) ∧ W.cell? ⟨w.heap.size + 1, 0, none⟩ = some (.slice B nb cb) ∧ W.cell? ⟨w.heap.size + 1, 1, none⟩ = some (.slice B' mb db) ∧ W.cell? ⟨gi, o + k * 6, none⟩ = some (.int .i64 x.id.1) ∧ W.cell? ⟨gi, o + k * 6 + 1, none⟩ = some (.int .i64 x.id.2)) (first | (with_reducible assumption) | (with_reducible exact dg_alloc (by assumption) _) | (with_reducible exact dg_drew (by assumption)) | (with_reducible exact dg_drew (dg_alloc (by assumption) _)) | (with_reducible exact dg_set6 (by assumption) (by first | assumption | exact zb) (by first | assumption | exact zn) _ _ _ _ _ _))
            (first
              | (go_at_call 38; (with_reducible refine (R.out _ ?_).mono ?_); (with_reducible (first | exact hGd.1.below | exact (dg_drew (dg_alloc hG _)).1.below | exact (dg_alloc hGd _).1.below | exact (dg_alloc hG _).1.below)); rintro e w8 ⟨rfl, hb8⟩; have hG8 := dg_step (by with_reducible first | exact hGd | exact dg_drew (dg_alloc hG _) | exact dg_alloc hGd _) hb8; unfold DiffG at hG8; (first | ((with_reducible have hx8 := box_behind hb8); obtain ⟨y0, y1, y2, y3, y4, y5⟩ := ino_cells (x := noIno) hx8; obtain ⟨f0, f1, f2, f3, f4, f5⟩ := ino_free (x := noIno) hx8) | ((with_reducible have hx8 := box_behind2 hb8); obtain ⟨y0, y1, y2, y3, y4, y5⟩ := ino_cells (x := noIno) hx8; obtain ⟨f0, f1, f2, f3, f4, f5⟩ := ino_free (x := noIno) hx8) | skip)))
          all_goals
            go_wp2_with fail
            go_meet
          all_goals (case rel => first | (with_reducible refine got_after' ?_ hb8; repeat (first | exact Below.refl _ _ | assumption | apply Below.drew)) | (have hx9 : w8.heap[w6.heap.size]? = some (.cells (inoA noIno) 70 (0, 0)) := hx8; with_reducible exact got_before hx9 hb8))
        case rest =>
          obtain ⟨bn, rfl, rfl, hB8, hge8, hbox8⟩ := hcut
          generalize wc = w9 at hB8 hbox8 ⊢
          have D9 := Lib.hid (diff_mid_step hD.out.1 hB8)
          have B9 := Lib.hid (hD.out.2.step hB8)
          have HQ := Lib.hid (other_is h x)
          obtain ⟨q, hq⟩ : ∃ q, q = otherI h x := ⟨_, rfl⟩
          rw [← HYI.out.1, ← HYI.out.2, ← hq] at HQ
          have HQE := Lib.hid hq
          have Y9 := Lib.hid hbox8
          clear hq p0 p1 p2 p3 p4 p5 a0 a1 a2 a3 R hD hB8 hge8 hbox8
          obtain ⟨p0, p1, p2, p3, p4, p5⟩ := HRow.out w9 B9.out
          obtain ⟨y0, y1, y2, y3, y4, y5⟩ := ino_cells Y9.out
          have zb : bn < w9.heap.size := heap_lt Y9.out
          go_upto_region 7 with fail
          go_cut [69] from 38 to 69 (fun v wx => v = .bool q ∧ Below w9.heap.size w9 wx)
          case first =>
            have hBn : ∀ m, Below w9.heap.size w9 (w9.drewN m) := fun m => below_drewN' (Below.refl _ _) m
            cases is with
            | false =>
              have hq : q = true := by rw [HQ.out]; rfl
              subst hq
              go_quiet (fail)
              go_wp2_with fail
              go_meet
              case rel => exact ⟨rfl, hBn _⟩
            | true =>
              by_cases hk2 : y.kind = x.kind
              · have b2 : (y.kind != x.kind) = false := by simp [hk2]
                by_cases hk4 : y.mode = x.mode
                · have b4 : (y.mode != x.mode) = false := by simp [hk4]
                  by_cases hk5 : y.data = x.data
                  · have hq : q = false := by rw [HQ.out, hk2, hk4, hk5]; simp
                    have b5 : (y.data.toList == x.data.toList) = true := by rw [hk5]; exact beq_self_eq_true _
                    subst hq
                    clear hk2 hk4 hk5
                    go_quiet (fail)
                    go_wp2_with fail
                    go_meet
                    case rel => exact ⟨rfl, hBn _⟩
                  · have hq : q = true := by rw [HQ.out]; simp [hk5]
                    have b5 : (y.data.toList == x.data.toList) = false := beq_eq_false_iff_ne.2 fun e => hk5 (bytes_same e)
                    subst hq
                    clear hk2 hk4 hk5
                    go_quiet (fail)
                    go_wp2_with fail
                    go_meet
                    case rel => exact ⟨rfl, hBn _⟩
                · have hq : q = true := by rw [HQ.out]; simp [hk4]
                  have b4 : (y.mode != x.mode) = true := by simp [hk4]
                  subst hq
                  clear hk2 hk4
                  go_quiet (fail)
                  go_wp2_with fail
                  go_meet
                  case rel => exact ⟨rfl, hBn _⟩
              · have hq : q = true := by rw [HQ.out]; simp [hk2]
                have b2 : (y.kind != x.kind) = true := by simp [hk2]
                subst hq
                clear hk2
                go_quiet (fail)
                go_wp2_with fail
                go_meet
                case rel => exact ⟨rfl, hBn _⟩
          case rest =>
            obtain ⟨rfl, hB10⟩ := hcut
            generalize wc = w10 at hB10 ⊢
            have D10 := Lib.hid (diff_mid_step D9.out hB10)
            have B10 := Lib.hid (B9.out.step hB10)
            clear hB10 D9 B9 Y9 zb y0 y1 y2 y3 y4 y5 p0 p1 p2 p3 p4 p5 HQ
            cases q with
            | false =>
              have hS : Hid (((inodesG g).take (k + 1)).filter (otherI h) = ((inodesG g).take k).filter (otherI h)) := by
                have := HS.out
                rwa [if_neg (by rw [← HQE.out]; decide)] at this
              clear HS
              go_wp2_with fail
              go_roundg (gk - 1)
              case measure => have := HK.out; omega
              case rel => exact ⟨k + 1, v3, by go_num, by have := HK.out; omega, by omega, by rw [hS.out]; exact ⟨D10.out, B10.out⟩⟩
            | true =>
              have hS : Hid (((inodesG g).take (k + 1)).filter (otherI h) = ((inodesG g).take k).filter (otherI h) ++ [x]) := by
                have := HS.out
                rwa [if_pos HQE.out.symm] at this
              clear HS
              have hI : (((inodesG g).take k).filter (otherI h)).length ≤ 1000 := by
                have := List.length_filter_le (otherI h) ((inodesG g).take k)
                rw [List.length_take] at this
                omega
              obtain ⟨I, hIe⟩ : ∃ I, I = ((inodesG g).take k).filter (otherI h) := ⟨_, rfl⟩
              rw [← hIe] at hS D10 hI
              clear hIe
              obtain ⟨p0, p1, p2, p3, p4, p5⟩ := HRow.out w10 B10.out
              obtain ⟨x0, x1, x2, x3⟩ := four_cells D10.out.box
              obtain ⟨f0, f1, f2, f3⟩ := four_free D10.out.box
              have hm1 : I.length + 1 ≤ maxLen := by unfold maxLen; omega
              have no : v3.ownBlock ≠ some u := fun e => own_not D10.out.o3 D10.out.box (by decide) u e rfl
              have lo := heap_lt D10.out.box
              have lb : b ≤ w10.heap.size := B10.out.1
              have hx3 : ((w10.alloc (.cells (inoA x) 70)).drew).heap[u]? = some (.cells #[.slice L1 (lostG g h).length c1, .slice L2 (lostG h g).length c2, v3, .slice none 0 0] 42 (0, 0)) := (heap_alloc_old w10 _ lo).trans D10.out.box
              have hfa := (four_free hx3).2.2.1
              have o3 : ((w10.alloc (.cells #[.int .i64 x.id.1, .int .i64 x.id.2, .int .i64 x.kind, .int .i64 x.links, .int .i64 x.mode, .string x.data] 70)).drew).cell? ⟨u, 2, none⟩ = some v3 := (four_cells hx3).2.2.1
              have hown := D10.out.o3
              have zg : gi < w10.heap.size := World.block_lt_of_cell? _ _ p0
              go_upto_region 8 with fail
              go_region_law
                ((refine step_append_lies _ (by rfl) (.tmp 71) (.tmp 76) _ (by rfl) b 70 j0 _ 6 56 Tryz.underlying32 hj0 hz0 hz1 hz2 rfl (by decide) v3 _ _ (by rfl) ((hown.alloc _).drew)
                        ⟨w10.heap.size, 0, none⟩ 1 1 (inoA x).toList (by rfl) (by rfl) (World.news_of_block (cs := inoA x) (t := 70) (fr := (0, 0)) (heap_alloc_new w10 _)) (ino_one x)
                        (by omega) hm1 (by omega) (by simp; omega) (w10.heap.size + 1) (by simp) ?_; intro gg cap w7 hown7 hgrow hat hlt7; have hf7 : w7.frozen? ⟨u, 2, none⟩ = false := (hgrow.frozen_far ⟨u, 2, none⟩ (by simp; omega) (Ne.symm no)).trans hfa; have hc7 : w7.cell? ⟨u, 2, none⟩ = some v3 := (hgrow.cell_far ⟨u, 2, none⟩ (by simp; omega) (Ne.symm no)).trans o3))
              all_goals
                have hbA : Below w10.heap.size w10 ((w10.alloc (.cells (inoA x) 70)).drew) := ((Below.refl w10.heap.size w10).alloc (Nat.le_refl _) _).drew
                have D11 := Lib.hid (diff_mid_ino D10.out hbA hgrow hown7)
                have B11 := Lib.hid ((B10.out.step hbA).put (j := 2) hgrow (fun q hq => (hown.lt q hq).1) (.slice (some ⟨gg, 0, none⟩) (I.length + 1) cap))
                go_wp2_with fail
                go_roundg (gk - 1)
                case measure => have := HK.out; omega
                case rel => exact ⟨k + 1, _, by go_num, by have := HK.out; omega, by omega, by rw [hS.out]; exact ⟨D11.out, B11.out⟩⟩
      · have hcN : ¬ (k : Int) < (N : Int) := by omega
        have hD1 : Hid (DiffMid w A A' B B' n c m d nb cb mb db (lostG g h) (lostG h g) (wasG g h) [] b u L1 c1 L2 c2 v3 (.slice none 0 0) wr ∧ b ≤ wr.heap.size) := by
          have := hD.out.1
          rw [List.take_of_length_le (by have := HNL.out; omega)] at this
          exact ⟨this, hD.out.2.1⟩
        obtain ⟨w4, hw4⟩ : ∃ W, W = wr := ⟨_, rfl⟩
        rw [← hw4] at hD1 ⊢
        clear hw4 hlt hD HB
        obtain ⟨i0, hi0, hy0, hy1, hy2⟩ := info_parts st_infos5
        have hnb : (h.I.map (·.id)).length = nb := by rw [List.length_map]; exact HH.out.I.len
        have HNB := Lib.hid hnb
        have hfb : nb ≤ 1000 := HH.out.fewI
        clear hnb
        go_wp2_with fail
        clear hcN
        go_loopg [10] (nb + 1) (fun gk i wr => ∃ (k : Nat) (v4 : Value), i = .int .i64 (k : Int) ∧ gk + k = nb + 1 ∧ k ≤ nb ∧ Hid (DiffMid w A A' B B' n c m d nb cb mb db (lostG g h) (lostG h g) (wasG g h) (((h.I.map (·.id)).take k).filter fun s => !(getG g s).isSome) b u L1 c1 L2 c2 v3 v4 wr ∧ b ≤ wr.heap.size))
        case atStart => exact ⟨0, _, rfl, by omega, by omega, hD1⟩
        case round =>
          clear hD1
          obtain ⟨k, v4, rfl, hgk, hk, hDb⟩ := hrel
          have hD := Lib.hid hDb.out.1
          have hbw := hDb.out.2
          clear hDb
          have HK := Lib.hid hgk
          clear hgk
          obtain ⟨_, a0, a1, a2, a3⟩ := id hD.out.s
          by_cases hlt : k < nb
          · obtain ⟨gi, o, rfl, hg, hrow⟩ := HH.out.I.row (by omega)
            have lk : k < h.I.length := by have := HNB.out; rw [List.length_map] at this; omega
            have lk' : k < (h.I.map (·.id)).length := by rw [List.length_map]; exact lk
            have hsn := filterI_snoc (fun s => !(getG g s).isSome) (h.I.map (·.id)) k lk'
            have hrk := fun W (hb : Below w.heap.size w W) => (hrow k lk).below (B := w.heap.size) (W' := W) hb hg
            rw [List.getElem_map] at hsn
            obtain ⟨x, hx⟩ : ∃ x, h.I[k] = x := ⟨_, rfl⟩
            rw [hx] at hrk hsn
            have HRow := Lib.hid hrk
            have HS := Lib.hid hsn
            clear hrow hx hrk hsn lk lk'
            have hi0' : (0 : Int) ≤ (k : Int) := by omega
            have hi1' : (k : Int) < (nb : Int) := by omega
            obtain ⟨y, hy⟩ : ∃ y, y = (getG g x.id).getD noIno := ⟨_, rfl⟩
            obtain ⟨is, his⟩ : ∃ is, is = (getG g x.id).isSome := ⟨_, rfl⟩
            obtain ⟨w6, hw6⟩ : ∃ W, W = wr := ⟨_, rfl⟩
            rw [← hw6] at hD hbw a0 a1 a2 a3 ⊢
            clear hw6 hlt
            have R : Hid (∀ W, Below w.heap.size w W → Calls Tryz.prog 38 #[.agg #[.slice A n c, .slice A' m d], .agg #[.int .i64 x.id.1, .int .i64 x.id.2]] W fun e w' => e = .returned (.tuple #[.agg (inoA y), .bool is]) ∧ Below W.heap.size W w') := Lib.hid fun W hW => by
              rw [hy, his]
              exact (HG.out.step hW).get x.id
            have HI := Lib.hid his
            clear hy his
            obtain ⟨p0, p1, p2, p3, p4, p5⟩ := HRow.out w6 hD.out.s.1.below
            unfold inoA at R
            go_upto_region 12 with fail
            go_cut [11, 12] from 79 to 96 (fun v1 v2 wx => Got w6 y is v1 v2 wx)
            case first =>
              have hG := dg_of hD.out.s p0 p1
              have hGd := dg_drew hG
              have zb := diff_lt hD.out.s
              have zb0 : w.heap.size < w6.heap.size := by omega
              have zg : gi < w6.heap.size := World.block_lt_of_cell? _ _ p0
              have zn : gi ≠ w6.heap.size := by omega
              clear p0 p1 p2 p3 p4 p5 a0 a1 a2 a3
              unfold DiffG at hG hGd
              go_region_held3 (fun W => Held w [(w.heap.size + 1, .cells #[.slice (some ⟨gi, o, none⟩) nb cb, .slice B' mb db] 39), (w.heap.size, .cells #[.slice A n c, .slice A' m d] 39)] W ∧ W.cell? ⟨w.heap.size, 0, none⟩ = some (.slice A n c) ∧ W.cell? ⟨w.heap.size, 1, none⟩ = some (.slice A' m d) ∧ W.cell? ⟨w.heap.size + 1, 0, none⟩ = some (.slice (some ⟨gi, o, none⟩) nb cb) ∧ W.cell? ⟨w.heap.size + 1, 1, none⟩ = some (.slice B' mb db) ∧ W.cell? ⟨gi, o + k * 6, none⟩ = some (.int .i64 x.id.1) ∧ W.cell? ⟨gi, o + k * 6 + 1, none⟩ = some (.int .i64 x.id.2)) (first | (with_reducible assumption) | (with_reducible exact dg_alloc (by assumption) _) | (with_reducible exact dg_drew (by assumption)) | (with_reducible exact dg_drew (dg_alloc (by assumption) _)) | (with_reducible exact dg_set6 (by assumption) (by first | assumption | exact zb) (by first | assumption | exact zn) _ _ _ _ _ _))
                (first
                  | (go_at_call 38; (with_reducible refine (R.out _ ?_).mono ?_); (with_reducible (first | exact hGd.1.below | exact (dg_drew (dg_alloc hG _)).1.below | exact (dg_alloc hGd _).1.below | exact (dg_alloc hG _).1.below)); rintro e w8 ⟨rfl, hb8⟩; have hG8 := dg_step (by with_reducible first | exact hGd | exact dg_drew (dg_alloc hG _) | exact dg_alloc hGd _) hb8; unfold DiffG at hG8; (first | ((with_reducible have hx8 := box_behind hb8); obtain ⟨y0, y1, y2, y3, y4, y5⟩ := ino_cells (x := noIno) hx8; obtain ⟨f0, f1, f2, f3, f4, f5⟩ := ino_free (x := noIno) hx8) | ((with_reducible have hx8 := box_behind2 hb8); obtain ⟨y0, y1, y2, y3, y4, y5⟩ := ino_cells (x := noIno) hx8; obtain ⟨f0, f1, f2, f3, f4, f5⟩ := ino_free (x := noIno) hx8) | skip)))
              all_goals
                go_wp2_with fail
                go_meet
              all_goals (case rel => first | (with_reducible refine got_after' ?_ hb8; repeat (first | exact Below.refl _ _ | assumption | apply Below.drew)) | (have hx9 : w8.heap[w6.heap.size]? = some (.cells (inoA noIno) 70 (0, 0)) := hx8; with_reducible exact got_before hx9 hb8))
            case rest =>
              obtain ⟨bn, rfl, rfl, hB8, hge8, hbox8⟩ := hcut
              generalize wc = w9 at hB8 hbox8 ⊢
              have D9 := Lib.hid (diff_mid_step hD.out hB8)
              have lb : b ≤ w9.heap.size := Nat.le_trans hbw hB8.size
              clear p0 p1 p2 p3 p4 p5 a0 a1 a2 a3 R hD hB8 hge8 hbox8
              cases is with
              | true =>
                have hS : Hid (((h.I.map (·.id)).take (k + 1)).filter (fun s => !(getG g s).isSome) = ((h.I.map (·.id)).take k).filter (fun s => !(getG g s).isSome)) := by
                  have := HS.out
                  rwa [if_neg (by rw [← HI.out]; decide)] at this
                clear HS
                go_wp2_with fail
                go_roundg (gk - 1)
                case measure => have := HK.out; omega
                case rel => exact ⟨k + 1, v4, by go_num, by have := HK.out; omega, by omega, by rw [hS.out]; exact ⟨D9.out, lb⟩⟩
              | false =>
                have hS : Hid (((h.I.map (·.id)).take (k + 1)).filter (fun s => !(getG g s).isSome) = ((h.I.map (·.id)).take k).filter (fun s => !(getG g s).isSome) ++ [x.id]) := by
                  have := HS.out
                  rwa [if_pos (by rw [← HI.out]; decide)] at this
                clear HS
                have hI : (((h.I.map (·.id)).take k).filter (fun s => !(getG g s).isSome)).length ≤ 1000 := by
                  have := List.length_filter_le (fun s => !(getG g s).isSome) ((h.I.map (·.id)).take k)
                  rw [List.length_take] at this
                  omega
                obtain ⟨S, hSe⟩ : ∃ S, S = ((h.I.map (·.id)).take k).filter (fun s => !(getG g s).isSome) := ⟨_, rfl⟩
                rw [← hSe] at hS D9 hI
                clear hSe
                obtain ⟨p0, p1, p2, p3, p4, p5⟩ := HRow.out w9 D9.out.s.1.below
                obtain ⟨_, a0, a1, a2, a3⟩ := id D9.out.s
                obtain ⟨x0, x1, x2, x3⟩ := four_cells D9.out.box
                obtain ⟨f0, f1, f2, f3⟩ := four_free D9.out.box
                have hm1 : S.length + 1 ≤ maxLen := by unfold maxLen; omega
                have no : v4.ownBlock ≠ some u := fun e => own_not D9.out.o4 D9.out.box (by decide) u e rfl
                have lo := heap_lt D9.out.box
                have hx3 : ((w9.alloc (.cells (stA x.id) 24)).drew).heap[u]? = some (.cells #[.slice L1 (lostG g h).length c1, .slice L2 (lostG h g).length c2, v3, v4] 42 (0, 0)) := (heap_alloc_old w9 _ lo).trans D9.out.box
                have hfa := (four_free hx3).2.2.2
                have o3 : ((w9.alloc (.cells #[.int .i64 x.id.1, .int .i64 x.id.2] 24)).drew).cell? ⟨u, 3, none⟩ = some v4 := (four_cells hx3).2.2.2
                have hown := D9.out.o4
                have zg : gi < w9.heap.size := World.block_lt_of_cell? _ _ p0
                have zb := diff_lt D9.out.s
                have zb0 : w.heap.size < w9.heap.size := by omega
                go_upto_region 14 with fail
                go_region_law
                  ((refine step_append_lies _ (by rfl) (.tmp 100) (.tmp 107) _ (by rfl) b 24 i0 _ 2 16 Tryz.underlying33 hi0 hy0 hy1 hy2 rfl (by decide) v4 _ _ (by rfl) ((hown.alloc _).drew)
                          ⟨w9.heap.size, 0, none⟩ 1 1 (stA x.id).toList (by rfl) (by rfl) (World.news_of_block (cs := stA x.id) (t := 24) (fr := (0, 0)) (heap_alloc_new w9 _)) (st_one5 x.id)
                          (by omega) hm1 (by omega) (by simp; omega) (w9.heap.size + 1) (by simp) ?_; intro gg cap w7 hown7 hgrow hat hlt7; have hf7 : w7.frozen? ⟨u, 3, none⟩ = false := (hgrow.frozen_far ⟨u, 3, none⟩ (by simp; omega) (Ne.symm no)).trans hfa; have hc7 : w7.cell? ⟨u, 3, none⟩ = some v4 := (hgrow.cell_far ⟨u, 3, none⟩ (by simp; omega) (Ne.symm no)).trans o3))
                all_goals
                  have hbA : Below w9.heap.size w9 ((w9.alloc (.cells (stA x.id) 24)).drew) := ((Below.refl w9.heap.size w9).alloc (Nat.le_refl _) _).drew
                  have D11 := Lib.hid (diff_mid_st D9.out hbA hgrow hown7)
                  have lb7 : b ≤ (w7.setCell ⟨u, 3, none⟩ (.slice (some ⟨gg, 0, none⟩) (S.length + 1) cap)).heap.size := by rw [World.size_setCell]; exact Nat.le_trans lb (Nat.le_trans hbA.size hgrow.size)
                  go_wp2_with fail
                  go_roundg (gk - 1)
                  case measure => have := HK.out; omega
                  case rel => exact ⟨k + 1, _, by go_num, by have := HK.out; omega, by omega, by rw [hS.out]; exact ⟨D11.out, lb7⟩⟩
          · have hc : ¬ (k : Int) < (nb : Int) := by omega
            have hD1 : Hid (DiffMid w A A' B B' n c m d nb cb mb db (lostG g h) (lostG h g) (wasG g h) (newN g h) b u L1 c1 L2 c2 v3 v4 wr) := by
              have := hD.out
              rw [List.take_of_length_le (by have := HNB.out; omega)] at this
              exact this
            have hw : (wasG g h).length ≤ 1000 := Nat.le_trans (List.length_filter_le _ _) (by have := HNL.out; omega)
            clear hD hlt
            obtain ⟨A3, c3, rfl, _⟩ := inos_own rfl hD1.out.o3
            obtain ⟨A4, c4, rfl, _⟩ := sts_own rfl hD1.out.o4
            obtain ⟨x0, x1, x2, x3⟩ := four_cells hD1.out.box
            obtain ⟨r0, r1, r2, r3⟩ := four_cells hD1.out.res
            obtain ⟨f0, f1, f2, f3⟩ := four_free hD1.out.res
            have HF := Lib.hid (diff_done hD1.out)
            clear hD1
            go_wp2_with fail
            obtain ⟨y0, y1, y2, y3⟩ := four_cells HF.out.1
            exact bodyPost_ret (v := .agg #[.slice L1 (lostG g h).length c1, .slice L2 (lostG h g).length c2, .slice A3 (wasG g h).length c3, .slice A4 (newN g h).length c4]) (by simp [results, Tryz.results13, go_sem, y0, y1, y2, y3]) rfl ⟨_, _, _, _, _, _, _, ⟨_, rfl⟩, HF.out.2⟩

end Go.Proofs.YthcmgaibbpacfaaGreatDoor

/-
  The walks of the document's own has and Name.
-/
namespace Go.Proofs.YthcmgaibbpacfaaGreatDoor
open Go.RowKit OpMath

set_option maxRecDepth 100000 in
set_option maxHeartbeats 800000 in
theorem refHas (s : ByteArray) (c : UInt8) (hs : s.size ≤ 9223372036854775807) (w : World) :
    Calls Tryz.prog 101 #[.string s, .int .u8 (c.toNat : Int)] w fun e w' => e = .returned (.bool (hasB s c)) ∧ w = w' := by
  go_enter Tryz.func101, Tryz.ntmps101
  go_wp2_with fail
  go_loop [5] (fun i => ∃ k : Nat, i = .int .i64 (k : Int) ∧ k ≤ s.size ∧ Hid ((s.data.toList.take k).any (· == c) = false)) (fun i => s.size - (intOf i).toNat)
  case atStart => exact ⟨0, rfl, by omega, rfl⟩
  case round =>
    obtain ⟨k, rfl, hk, hno⟩ := hrel
    by_cases hlt : k < s.size
    · have hN := any_next s c k hlt
      rw [hno.out, Bool.false_or] at hN
      by_cases hc : s[k] = c
      · have hd : ((s[k].toNat : Int) == (c.toNat : Int)) = true := by rw [hc]; exact beq_self_eq_true _
        have HY := Lib.hid (any_some s c k hlt hc)
        clear hN hc
        go_wp2_with fail
        go_ret
        exact ⟨by rw [HY.out]; rfl, rfl⟩
      · have hd : ((s[k].toNat : Int) == (c.toNat : Int)) = false := by
          rw [beq_eq_false_iff_ne]
          intro e
          exact hc (UInt8.toNat_inj.1 (by omega))
        rw [beq_eq_false_iff_ne.2 hc] at hN
        have HN := Lib.hid hN
        clear hN hc
        go_wp2_with fail
        exact ⟨⟨k + 1, by go_num, by omega, HN⟩, by simp [intOf]; omega⟩
    · have hE := any_all s c k (by omega)
      rw [hno.out] at hE
      have HE := Lib.hid hE
      clear hE
      go_wp2_with fail
      go_ret
      exact ⟨by rw [← HE.out]; rfl, rfl⟩

set_option maxRecDepth 100000 in
set_option maxHeartbeats 800000 in
theorem refName (s : ByteArray) (hs : s.size ≤ 9223372036854775807) (w : World) :
    Calls Tryz.prog 100 #[.string s] w fun e w' => e = .returned (.bool (nameB s)) ∧ w = w' := by
  obtain ⟨b1, h1⟩ : ∃ b, b = (s.toList == [46]) := ⟨_, rfl⟩
  obtain ⟨b2, h2⟩ : ∃ b, b = (s.toList == [46, 46]) := ⟨_, rfl⟩
  obtain ⟨b3, h3⟩ : ∃ b, b = hasB s 47 := ⟨_, rfl⟩
  obtain ⟨b4, h4⟩ : ∃ b, b = hasB s 0 := ⟨_, rfl⟩
  have H3 : s.size ≤ 8 → Hid (∀ W : World, Calls Tryz.prog 101 #[.string s, .int .u8 47] W fun e w' => e = .returned (.bool b3) ∧ W = w') := fun h8 W => by rw [h3]; exact refHas s 47 (by omega) W
  have H4 : s.size ≤ 8 → Hid (∀ W : World, Calls Tryz.prog 101 #[.string s, .int .u8 0] W fun e w' => e = .returned (.bool b4) ∧ W = w') := fun h8 W => by rw [h4]; exact refHas s 0 (by omega) W
  have hN : nameB s = (decide (1 ≤ s.size) && decide (s.size ≤ 8) && !b1 && !b2 && !b3 && !b4) := by rw [h1, h2, h3, h4]; rfl
  have HN := Lib.hid hN
  have q1 := h1.symm
  have q2 := h2.symm
  clear hN h1 h2 h3 h4
  by_cases hA : 1 ≤ s.size
  · by_cases hB : s.size ≤ 8
    · have H3 := H3 hB
      have H4 := H4 hB
      cases b1
      · cases b2
        · cases b3
          · go_enter Tryz.func100, Tryz.ntmps100
            go_wp2_with fail
            refine (H3.out _).mono ?_
            rintro e w' ⟨rfl, rfl⟩
            go_wp2_with fail
            refine (H4.out _).mono ?_
            rintro e w' ⟨rfl, rfl⟩
            go_wp2_with fail
            go_ret
            exact ⟨by rw [HN.out]; simp [hA, hB], rfl⟩
          · go_enter Tryz.func100, Tryz.ntmps100
            go_wp2_with fail
            refine (H3.out _).mono ?_
            rintro e w' ⟨rfl, rfl⟩
            go_wp2_with fail
            go_ret
            exact ⟨by rw [HN.out]; simp [hA, hB], rfl⟩
        · go_enter Tryz.func100, Tryz.ntmps100
          go_wp2_with fail
          go_ret
          exact ⟨by rw [HN.out]; simp [hA, hB], rfl⟩
      · go_enter Tryz.func100, Tryz.ntmps100
        go_wp2_with fail
        go_ret
        exact ⟨by rw [HN.out]; simp [hA, hB], rfl⟩
    · have hd : decide ((s.size : Int) ≤ 8) = false := by simp; omega
      clear H3 H4
      go_enter Tryz.func100, Tryz.ntmps100
      go_wp2_with fail
      go_ret
      exact ⟨by rw [HN.out]; simp [hB], rfl⟩
  · have hd : decide (1 ≤ (s.size : Int)) = false := by simp; omega
    clear H3 H4
    go_enter Tryz.func100, Tryz.ntmps100
    go_wp2_with fail
    go_ret
    exact ⟨by rw [HN.out]; simp [hA], rfl⟩

end Go.Proofs.YthcmgaibbpacfaaGreatDoor
