/-
  What is under something that is under a third thing is under that; each is under itself; two that are under each other are the same: for all lists of deeds (the first 150 are done), and all stamps.
-/
import Derived.Test.YthobfeohgeeofaaZ12
import Derived.Test.YthobfeohgeeofaaZ12
import Derived.Test.YthobfeohgeeofaaZ18
import Derived.Deep.LoopGhost
import Derived.OpenShut
namespace Go.Proofs.Ythobfeohgeeofaa.lawGraphUnders
open Go.RowKit StampMath GraphMath OpMath

theorem ways {bx by' bz bv is br bq : Bool} {E : Prop} (h1 : bx = true → by' = true → bz = true) (h2 : bx = true → bv = true → E) (h3 : is = true → br = true ∧ (¬ E → bx = bq)) :
    (bx = false ∧ is = false) ∨ (bx = false ∧ is = true ∧ E) ∨ (bx = false ∧ is = true ∧ ¬ E ∧ bq = false) ∨
    (bx = true ∧ by' = false ∧ bv = false ∧ is = false) ∨ (bx = true ∧ by' = false ∧ bv = false ∧ is = true ∧ E) ∨ (bx = true ∧ by' = false ∧ bv = false ∧ is = true ∧ ¬ E ∧ bq = true) ∨
    (bx = true ∧ by' = false ∧ bv = true ∧ E ∧ is = false) ∨ (bx = true ∧ by' = false ∧ bv = true ∧ E ∧ is = true) ∨
    (bx = true ∧ by' = true ∧ bz = true ∧ bv = false ∧ is = false) ∨ (bx = true ∧ by' = true ∧ bz = true ∧ bv = false ∧ is = true ∧ E) ∨ (bx = true ∧ by' = true ∧ bz = true ∧ bv = false ∧ is = true ∧ ¬ E ∧ bq = true) ∨
    (bx = true ∧ by' = true ∧ bz = true ∧ bv = true ∧ E ∧ is = false) ∨ (bx = true ∧ by' = true ∧ bz = true ∧ bv = true ∧ E ∧ is = true) := by
  by_cases hE : E
  · cases bx <;> cases by' <;> cases bv <;> cases is <;> simp_all
  · cases bx <;> cases by' <;> cases bv <;> cases is <;> simp_all

set_option maxRecDepth 100000 in
set_option maxHeartbeats 12800000 in
theorem core (H : GraphHave) (A : Option Addr) (n c : Nat) (ds : List Dd) (s t u : St) (hn : n ≤ maxLen) (hname : ∀ d ∈ ds, d.e.name.size ≤ maxLen) (w : World) (h : DdsIn w w.heap.size A n ds) :
    Calls Try.prog 6 #[.slice A n c, .agg (stA s), .agg (stA t), .agg (stA u)] w fun e w' => e = .returned (.bool true) ∧ Below w.heap.size w w' := by
  have hl := h.len
  have hb0 : Below w.heap.size w (((w.alloc (.cells (stA s) 24)).alloc (.cells (stA t) 24)).alloc (.cells (stA u) 24)) := (((Below.refl w.heap.size w).alloc (Nat.le_refl _) _).alloc (by simp) _).alloc (by simp; omega) _
  have hHeld : Held w [(w.heap.size + 1 + 1, .cells (stA u) 24), (w.heap.size + 1, .cells (stA t) 24), (w.heap.size, .cells (stA s) 24)] (((w.alloc (.cells (stA s) 24)).alloc (.cells (stA t) 24)).alloc (.cells (stA u) 24)) :=
    (((Held.refl w).alloc (.cells (stA s) 24) rfl).alloc (.cells (stA t) 24) (by simp)).alloc (.cells (stA u) 24) (by simp)
  have hsz : (((w.alloc (.cells (stA s) 24)).alloc (.cells (stA t) 24)).alloc (.cells (stA u) 24)).heap.size = w.heap.size + 3 := by simp
  have h0 : DdsIn _ _ A n ds := TabIn.more (TabIn.below h hb0) hb0.size
  have HL := Lib.hid hl
  have HN := Lib.hid hname
  unfold maxLen at hn
  clear h hl hname
  go_enter Try.func6, Try.ntmps6
  go_upto_region 1 with (fail)
  change Code.wp _ _ _ _ (((w.alloc (.cells (stA s) 24)).alloc (.cells (stA t) 24)).alloc (.cells (stA u) 24))
  generalize (((w.alloc (.cells (stA s) 24)).alloc (.cells (stA t) 24)).alloc (.cells (stA u) 24)) = W0 at hb0 hHeld hsz h0 ⊢
  obtain ⟨u0, u1⟩ := two_cells (g := w.heap.size + 1 + 1) (hHeld.at 0 rfl)
  obtain ⟨t0, t1⟩ := two_cells (g := w.heap.size + 1) (hHeld.at 1 rfl)
  obtain ⟨s0, s1⟩ := two_cells (g := w.heap.size) (hHeld.at 2 rfl)
  have HX := Lib.hid h0
  have HB0 := Lib.hid hb0
  have hz0 : w.heap.size < W0.heap.size := by omega
  have hz1 : w.heap.size + 1 < W0.heap.size := by omega
  have hz2 : w.heap.size + 1 + 1 < W0.heap.size := by omega
  have HC : Hid (∀ W, Below W0.heap.size W0 W → (W.cell? ⟨w.heap.size, 0, none⟩ = some (.int .i64 s.1) ∧ W.cell? ⟨w.heap.size, 1, none⟩ = some (.int .i64 s.2)) ∧ (W.cell? ⟨w.heap.size + 1, 0, none⟩ = some (.int .i64 t.1) ∧ W.cell? ⟨w.heap.size + 1, 1, none⟩ = some (.int .i64 t.2)) ∧ (W.cell? ⟨w.heap.size + 1 + 1, 0, none⟩ = some (.int .i64 u.1) ∧ W.cell? ⟨w.heap.size + 1 + 1, 1, none⟩ = some (.int .i64 u.2))) := fun W hW =>
    ⟨⟨(hW.cell (p := ⟨w.heap.size, 0, none⟩) hz0).trans s0, (hW.cell (p := ⟨w.heap.size, 1, none⟩) hz0).trans s1⟩, ⟨(hW.cell (p := ⟨w.heap.size + 1, 0, none⟩) hz1).trans t0, (hW.cell (p := ⟨w.heap.size + 1, 1, none⟩) hz1).trans t1⟩, ⟨(hW.cell (p := ⟨w.heap.size + 1 + 1, 0, none⟩) hz2).trans u0, (hW.cell (p := ⟨w.heap.size + 1 + 1, 1, none⟩) hz2).trans u1⟩⟩
  clear h0 hb0 hHeld s0 s1 t0 t1 u0 u1 hz0 hz1 hz2
  go_wp2_with fail
  refine (H.shown _).mono ?_
  rintro e w1 ⟨rfl, hb1⟩
  go_wp2_with fail
  refine (GX.new (H := H) hb1 (fun _ => False) (fun _ h => h.elim)).mono ?_
  rintro e w2 ⟨a, rfl, g2, hb2⟩
  have G2 := Lib.hid g2
  clear g2 hb2 hb1
  go_wp2_with fail
  go_loopg [11] 151 (fun gk i wr => ∃ (k : Nat) (γ : Gr), i = .int .i64 (k : Int) ∧ gk + k = 151 ∧ k ≤ n ∧ k ≤ 150 ∧ Hid (GX H W0 wr (fun _ => False) a γ))
  case atStart => exact ⟨0, newG, rfl, by omega, by omega, by omega, G2.out⟩
  case round =>
    obtain ⟨k, γ, rfl, hgk, hk, hk2, hG⟩ := hrel
    have HG := Lib.hid hgk
    clear hgk G2
    by_cases hlt : k < n ∧ k < 150
    · obtain ⟨l1, l2⟩ := hlt
      obtain ⟨gi, o, rfl, hg, hcell⟩ := HX.out.row (by omega)
      have lk : k < ds.length := by have := HL.out; omega
      obtain ⟨d0, d1, d2, d3, d4, d5, d6, d7, d8⟩ := (hcell k lk).below hG.out.below hg
      have hnm := HN.out _ (List.getElem_mem lk)
      obtain ⟨d, hd⟩ : ∃ d, ds[k] = d := ⟨_, rfl⟩
      rw [hd] at d0 d1 d2 d3 d4 d5 d6 d7 d8 hnm
      have HD := Lib.hid (hG.out.deed d hnm)
      unfold ddA at HD
      have hi0 : (0 : Int) ≤ (k : Int) := by omega
      have hi1 : (k : Int) < (n : Int) := by omega
      clear hcell hd hnm lk
      go_wp2_with fail
      refine HD.out.mono ?_
      rintro e w3 ⟨rfl, q, _⟩
      have Q := Lib.hid q
      clear q d0 d1 d2 d3 d4 d5 d6 d7 d8 HD
      go_wp2_with fail
      go_roundg (gk - 1)
      case measure => have := HG.out; omega
      case rel => exact ⟨k + 1, (doG γ d).1, by go_num, by have := HG.out; omega, by omega, by omega, Q.out⟩
    · have hcase : ¬ (k : Int) < (n : Int) ∨ ((k : Int) < (n : Int) ∧ ¬ (k : Int) < 150) := by omega
      clear hlt HX HN HL
      obtain ⟨⟨s0, s1⟩, ⟨t0, t1⟩, ⟨u0, u1⟩⟩ := HC.out _ hG.out.below
      have GS : Hid (∀ W, Below wr.heap.size wr W → ∀ x y : St, Calls Try.prog 22 #[.pointer (some a), .agg #[.int .i64 x.1, .int .i64 x.2], .agg #[.int .i64 y.1, .int .i64 y.2]] W fun e w' => e = .returned (.bool (underG γ x y)) ∧ Below W.heap.size W w') := fun W hW x y =>
        ((hG.out.step hW).under x y).mono fun e w' h => ⟨h.1, h.2.2⟩
      have GP : Hid (∀ W, Below wr.heap.size wr W → Calls Try.prog 17 #[.pointer (some a), .agg #[.int .i64 s.1, .int .i64 s.2]] W fun e w' => e = .returned (.tuple #[.agg #[.int .i64 ((parentG γ s).getD (0, 0)).1, .int .i64 ((parentG γ s).getD (0, 0)).2], .bool (parentG γ s).isSome]) ∧ Below W.heap.size W w') := fun W hW =>
        ((hG.out.step hW).parent s).mono fun e w' h => ⟨h.1, h.2.2⟩
      have hss := under_self γ s
      have hok := hG.out.ok
      have hsu : underG γ s t = true → underG γ t u = true → underG γ s u = true := fun h1 h2 => hok.utrans h1 h2
      have hst : underG γ s t = true → underG γ t s = true → s = t := fun h1 h2 => hok.anti h1 h2
      have hpar : (parentG γ s).isSome = true → underG γ s ((parentG γ s).getD (0, 0)) = true ∧ (s ≠ t → underG γ s t = underG γ ((parentG γ s).getD (0, 0)) t) := fun h1 => by
        obtain ⟨p, hp⟩ := Option.isSome_iff_exists.1 h1
        rw [hp]
        exact ⟨hok.under_up hp, fun h2 => hok.under_step hp h2⟩
      have HWR := Lib.hid (below_step HB0.out (hG.out.below.mono (Nat.le_refl _)))
      obtain ⟨p, hp⟩ : ∃ p, p = (parentG γ s).getD (0, 0) := ⟨_, rfl⟩
      obtain ⟨is, his⟩ : ∃ is, is = (parentG γ s).isSome := ⟨_, rfl⟩
      obtain ⟨bx, hbx⟩ : ∃ b, b = underG γ s t := ⟨_, rfl⟩
      obtain ⟨by', hby⟩ : ∃ b, b = underG γ t u := ⟨_, rfl⟩
      obtain ⟨bz, hbz⟩ : ∃ b, b = underG γ s u := ⟨_, rfl⟩
      obtain ⟨bv, hbv⟩ : ∃ b, b = underG γ t s := ⟨_, rfl⟩
      rw [← hp, ← his] at GP hpar
      obtain ⟨bq, hbq⟩ : ∃ b, b = underG γ p t := ⟨_, rfl⟩
      obtain ⟨br, hbr⟩ : ∃ b, b = underG γ s p := ⟨_, rfl⟩
      rw [← hbx, ← hby, ← hbz] at hsu
      rw [← hbx, ← hbv] at hst
      rw [← hbr, ← hbx, ← hbq] at hpar
      have U1 : Hid (∀ W, Below wr.heap.size wr W → Calls Try.prog 22 #[.pointer (some a), .agg #[.int .i64 s.1, .int .i64 s.2], .agg #[.int .i64 s.1, .int .i64 s.2]] W fun e w' => e = .returned (.bool true) ∧ Below W.heap.size W w') := fun W hW => by rw [← hss]; exact GS.out W hW s s
      have U2 : Hid (∀ W, Below wr.heap.size wr W → Calls Try.prog 22 #[.pointer (some a), .agg #[.int .i64 s.1, .int .i64 s.2], .agg #[.int .i64 t.1, .int .i64 t.2]] W fun e w' => e = .returned (.bool bx) ∧ Below W.heap.size W w') := fun W hW => by rw [hbx]; exact GS.out W hW s t
      have U3 : Hid (∀ W, Below wr.heap.size wr W → Calls Try.prog 22 #[.pointer (some a), .agg #[.int .i64 t.1, .int .i64 t.2], .agg #[.int .i64 u.1, .int .i64 u.2]] W fun e w' => e = .returned (.bool by') ∧ Below W.heap.size W w') := fun W hW => by rw [hby]; exact GS.out W hW t u
      have U4 : Hid (∀ W, Below wr.heap.size wr W → Calls Try.prog 22 #[.pointer (some a), .agg #[.int .i64 s.1, .int .i64 s.2], .agg #[.int .i64 u.1, .int .i64 u.2]] W fun e w' => e = .returned (.bool bz) ∧ Below W.heap.size W w') := fun W hW => by rw [hbz]; exact GS.out W hW s u
      have U5 : Hid (∀ W, Below wr.heap.size wr W → Calls Try.prog 22 #[.pointer (some a), .agg #[.int .i64 t.1, .int .i64 t.2], .agg #[.int .i64 s.1, .int .i64 s.2]] W fun e w' => e = .returned (.bool bv) ∧ Below W.heap.size W w') := fun W hW => by rw [hbv]; exact GS.out W hW t s
      have U6 : Hid (∀ W, Below wr.heap.size wr W → Calls Try.prog 22 #[.pointer (some a), .agg #[.int .i64 s.1, .int .i64 s.2], .agg #[.int .i64 p.1, .int .i64 p.2]] W fun e w' => e = .returned (.bool br) ∧ Below W.heap.size W w') := fun W hW => by rw [hbr]; exact GS.out W hW s p
      have U7 : Hid (∀ W, Below wr.heap.size wr W → Calls Try.prog 22 #[.pointer (some a), .agg #[.int .i64 p.1, .int .i64 p.2], .agg #[.int .i64 t.1, .int .i64 t.2]] W fun e w' => e = .returned (.bool bq) ∧ Below W.heap.size W w') := fun W hW => by rw [hbq]; exact GS.out W hW p t
      clear GS hG hss hok hp his hbx hby hbz hbv hbq hbr HC HB0
      rcases hcase with c0 | ⟨c0, c1⟩
      all_goals
        go_wp2_with fail
        refine (U2.out _ (Below.refl _ _)).mono ?_
        rintro e w3 ⟨rfl, hb3⟩
        have B3 := hb3
        have s0 := cell_later hb3 s0
        have s1 := cell_later hb3 s1
        have t0 := cell_later hb3 t0
        have t1 := cell_later hb3 t1
        have u0 := cell_later hb3 u0
        have u1 := cell_later hb3 u1
        go_wp2_with fail
        refine (U3.out _ B3).mono ?_
        rintro e w4 ⟨rfl, hb4⟩
        have B4 := below_step B3 hb4
        have s0 := cell_later hb4 s0
        have s1 := cell_later hb4 s1
        have t0 := cell_later hb4 t0
        have t1 := cell_later hb4 t1
        have u0 := cell_later hb4 u0
        have u1 := cell_later hb4 u1
        go_wp2_with fail
        refine (GP.out _ B4).mono ?_
        rintro e w5 ⟨rfl, hb5⟩
        have B5 := below_step B4 hb5
        have s0 := cell_later hb5 s0
        have s1 := cell_later hb5 s1
        have t0 := cell_later hb5 t0
        have t1 := cell_later hb5 t1
        have u0 := cell_later hb5 u0
        have u1 := cell_later hb5 u1
        have hA := (Below.refl w5.heap.size w5).alloc (Nat.le_refl _) (.cells #[.int .i64 p.1, .int .i64 p.2] 24)
        have s0 := cell_later hA s0
        have s1 := cell_later hA s1
        have t0 := cell_later hA t0
        have t1 := cell_later hA t1
        have u0 := cell_later hA u0
        have u1 := cell_later hA u1
        obtain ⟨p0, p1⟩ := two_cells (heap_alloc_new w5 (.cells #[.int .i64 p.1, .int .i64 p.2] 24))
        obtain ⟨B, hBn⟩ : ∃ B, B = w5.heap.size := ⟨_, rfl⟩
        have B6 := below_step B5 hA
        have HU := Lib.hid (And.intro hsu (And.intro hst hpar))
        clear hb3 hb4 hb5 B3 B4 B5 hA hsu hst hpar
        have hways := ways HU.out.1 HU.out.2.1 HU.out.2.2
        have hbr : is = true → br = true := fun h => (HU.out.2.2 h).1
        rcases hways with ⟨rfl, rfl⟩ | ⟨rfl, rfl, hE⟩ | ⟨rfl, rfl, hE, rfl⟩ | ⟨rfl, rfl, rfl, rfl⟩ | ⟨rfl, rfl, rfl, rfl, hE⟩ | ⟨rfl, rfl, rfl, rfl, hE, rfl⟩ | ⟨rfl, rfl, rfl, hE, rfl⟩ | ⟨rfl, rfl, rfl, hE, rfl⟩ |
          ⟨rfl, rfl, rfl, rfl, rfl⟩ | ⟨rfl, rfl, rfl, rfl, rfl, hE⟩ | ⟨rfl, rfl, rfl, rfl, rfl, hE, rfl⟩ | ⟨rfl, rfl, rfl, rfl, hE, rfl⟩ | ⟨rfl, rfl, rfl, rfl, hE, rfl⟩
      all_goals
        try (have hb := hbr rfl; subst hb)
        clear hbr HU
        try (have he := eqSt_yes hE)
        try (have he := eqSt_no hE)
        try (clear hE)
        go_wp2_with (go_at_call 22
                     first | (with_reducible refine (U1.out _ (by repeat (first | exact Below.refl _ _ | assumption | refine below_step ?_ (by assumption)))).mono ?_) | (with_reducible refine (U4.out _ (by repeat (first | exact Below.refl _ _ | assumption | refine below_step ?_ (by assumption)))).mono ?_) | (with_reducible refine (U5.out _ (by repeat (first | exact Below.refl _ _ | assumption | refine below_step ?_ (by assumption)))).mono ?_) | (with_reducible refine (U6.out _ (by repeat (first | exact Below.refl _ _ | assumption | refine below_step ?_ (by assumption)))).mono ?_) | (with_reducible refine (U7.out _ (by repeat (first | exact Below.refl _ _ | assumption | refine below_step ?_ (by assumption)))).mono ?_)
                     rintro e w7 ⟨rfl, hb⟩
                     have s0 := cell_later hb s0
                     have s1 := cell_later hb s1
                     have t0 := cell_later hb t0
                     have t1 := cell_later hb t1
                     have u0 := cell_later hb u0
                     have u1 := cell_later hb u1
                     have p0 := cell_later hb p0
                     have p1 := cell_later hb p1)
        go_ret
        exact ⟨rfl, below_step HWR.out (by repeat (first | exact Below.refl _ _ | assumption | refine below_step ?_ (by assumption)))⟩

theorem walk0 (H : GraphHave) (A : Option Addr) (n c : Nat) (ds : List Dd) (s t u : St) (w : World) (hnc : n ≤ c) (hc : c ≤ maxLen) (hds : ∀ x ∈ ds, x.e.name.size ≤ maxLen) (h : DdsIn w w.heap.size A n ds) :
    Calls Try.prog 6 #[.slice A n c, .agg (stA s), .agg (stA t), .agg (stA u)] w fun e w' => e = .returned (.bool true) ∧ Below w.heap.size w w' :=
  core H A n c ds s t u (Nat.le_trans hnc hc) hds w h

end Go.Proofs.Ythobfeohgeeofaa.lawGraphUnders
