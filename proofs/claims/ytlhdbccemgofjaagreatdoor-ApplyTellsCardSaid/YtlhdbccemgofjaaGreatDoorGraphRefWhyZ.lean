/-
  The walk of the document's own why (graphs): why an entry can't be.
-/
import Derived.Test.YtlhdbccemgofjaaGreatDoorGraphValsZ
import Derived.Test.YtlhdbccemgofjaaGreatDoorGraphRefUnderZ
import Derived.Test.YtlhdbccemgofjaaGreatDoorOpRefZ
namespace Go.Proofs.YtlhdbccemgofjaaGreatDoor
open Go.RowKit StampMath GraphMath OpMath

/-- The same, of what was looked up. -/
def whyB (nm ai xi : Bool) (ak : Int) (lk : Bool) (xk : Int) (rt u : Bool) (xl : Int) : Int :=
  if nm = false then 1 else if ai = false ∨ xi = false then 3 else if ak ≠ 1 then 6 else if lk = true then 4 else if xk = 1 ∧ (rt = true ∨ u = true) then 8 else if xk = 1 ∧ 0 < xl ∨ 6 ≤ xl then 12 else 0

theorem whyG_eq (nm : Bool) (g : Gr) (e : Ent) : whyG nm g e = whyB nm (getG g e.dir).isSome (getG g e.ino).isSome ((getG g e.dir).getD noIno).kind (lookE g.E e.dir e.name).isSome ((getG g e.ino).getD noIno).kind (decide (e.ino = (0, 0))) (underG g e.dir e.ino) ((getG g e.ino).getD noIno).links := by
  unfold whyG whyB
  cases nm
  · rfl
  · rw [if_neg (by decide), if_neg (by decide)]
    cases h1 : getG g e.dir with
    | none => simp
    | some a =>
      cases h2 : getG g e.ino with
      | none => simp
      | some x => simp

set_option maxRecDepth 100000 in
set_option maxHeartbeats 3200000 in
theorem refWhy (v : Value) (g : Gr) (e : Ent) (hn : g.I.length ≤ 1000) (hm : g.E.length ≤ 1000) (hs : e.name.size ≤ 9223372036854775807) (w : World) {N : Nat → Prop} (hv : GrAt N w v g) :
    Calls Tryz.prog 127 #[v, .agg (entA e)] w fun x w' => x = .returned (.int .i64 (whyG (nameB e.name) g e)) ∧ Below w.heap.size w w' := by
  obtain ⟨A, n, c, A', m, d, rfl, hI, hc1, hE, hc2⟩ := hv
  have hl := hI.len
  have hl' := hE.len
  have hwhy := whyG_eq (nameB e.name) g e
  obtain ⟨a, ha⟩ : ∃ a, a = (getG g e.dir).getD noIno := ⟨_, rfl⟩
  obtain ⟨ai, hai⟩ : ∃ ai, ai = (getG g e.dir).isSome := ⟨_, rfl⟩
  obtain ⟨x, hx⟩ : ∃ x, x = (getG g e.ino).getD noIno := ⟨_, rfl⟩
  obtain ⟨xi, hxi⟩ : ∃ xi, xi = (getG g e.ino).isSome := ⟨_, rfl⟩
  obtain ⟨p, hp⟩ : ∃ p, p = (lookE g.E e.dir e.name).getD (0, 0) := ⟨_, rfl⟩
  obtain ⟨lk, hlk⟩ : ∃ lk, lk = (lookE g.E e.dir e.name).isSome := ⟨_, rfl⟩
  obtain ⟨u, hu⟩ : ∃ u, u = underG g e.dir e.ino := ⟨_, rfl⟩
  obtain ⟨nm, hnm⟩ : ∃ nm, nm = nameB e.name := ⟨_, rfl⟩
  have G1 : Hid (∀ W : World, Below w.heap.size w W → Calls Tryz.prog 39 #[.agg #[.slice A n c, .slice A' m d], .agg #[.int .i64 e.dir.1, .int .i64 e.dir.2]] W fun z w' => z = .returned (.tuple #[.agg #[.int .i64 a.id.1, .int .i64 a.id.2, .int .i64 a.kind, .int .i64 a.links, .int .i64 a.mode, .string a.data], .bool ai]) ∧ Below W.heap.size W w') := fun W hW => by
    rw [ha, hai]; exact refGet A A' n c m d g e.dir (by omega) (by omega) W ((hI.below hW).more hW.size) ((hE.below hW).more hW.size)
  have G2 : Hid (∀ W : World, Below w.heap.size w W → Calls Tryz.prog 39 #[.agg #[.slice A n c, .slice A' m d], .agg #[.int .i64 e.ino.1, .int .i64 e.ino.2]] W fun z w' => z = .returned (.tuple #[.agg #[.int .i64 x.id.1, .int .i64 x.id.2, .int .i64 x.kind, .int .i64 x.links, .int .i64 x.mode, .string x.data], .bool xi]) ∧ Below W.heap.size W w') := fun W hW => by
    rw [hx, hxi]; exact refGet A A' n c m d g e.ino (by omega) (by omega) W ((hI.below hW).more hW.size) ((hE.below hW).more hW.size)
  have L1 : Hid (∀ W : World, Below w.heap.size w W → Calls Tryz.prog 44 #[.agg #[.slice A n c, .slice A' m d], .agg #[.int .i64 e.dir.1, .int .i64 e.dir.2], .string e.name] W fun z w' => z = .returned (.tuple #[.agg #[.int .i64 p.1, .int .i64 p.2], .bool lk]) ∧ Below W.heap.size W w') := fun W hW => by
    rw [hp, hlk]; exact refLook (.slice A n c) A' m d g.E e.dir e.name (by omega) W ((hE.below hW).more hW.size)
  have U1 : Hid (∀ W : World, Below w.heap.size w W → Calls Tryz.prog 126 #[.agg #[.slice A n c, .slice A' m d], .agg #[.int .i64 e.dir.1, .int .i64 e.dir.2], .agg #[.int .i64 e.ino.1, .int .i64 e.ino.2]] W fun z w' => z = .returned (.bool u) ∧ Below W.heap.size W w') := fun W hW => by
    rw [hu]; exact refUnder A A' n c m d g e.dir e.ino (by omega) (by omega) W ((hI.below hW).more hW.size) ((hE.below hW).more hW.size)
  have N1 : Hid (∀ W : World, Calls Tryz.prog 124 #[.string e.name] W fun z w' => z = .returned (.bool nm) ∧ W = w') := fun W => by rw [hnm]; exact refName e.name hs W
  have hroot : decide (e.ino = (0, 0)) = ((e.ino.1 == 0) && (e.ino.2 == 0)) := by
    rw [Bool.eq_iff_iff, decide_eq_true_iff, Bool.and_eq_true, beq_iff_eq, beq_iff_eq]
    exact Prod.ext_iff
  rw [← ha, ← hai, ← hx, ← hxi, ← hlk, ← hu, ← hnm, hroot] at hwhy
  rw [← hnm]
  obtain ⟨r1, hr1⟩ : ∃ r1, (e.ino.1 == 0) = r1 := ⟨_, rfl⟩
  obtain ⟨r2, hr2⟩ : ∃ r2, (e.ino.2 == 0) = r2 := ⟨_, rfl⟩
  rw [hr1, hr2] at hwhy
  have HW := Lib.hid hwhy
  clear hwhy ha hai hx hxi hp hlk hu hnm hI hE hroot hc1 hc2
  have hb0 : Held w [(w.heap.size + 1, .cells (entA e) 93), (w.heap.size, .cells #[.slice A n c, .slice A' m d] 30)]
    ((w.alloc (.cells #[.slice A n c, .slice A' m d] 30)).alloc (.cells (entA e) 93)) :=
    ((Held.refl w).alloc (.cells #[.slice A n c, .slice A' m d] 30) rfl).alloc (.cells (entA e) 93) (by simp)
  unfold entA
  go_enter Tryz.func127, Tryz.ntmps127
  go_upto_region 1 with fail
  change Code.wp _ _ _ _ ((w.alloc (.cells #[.slice A n c, .slice A' m d] 30)).alloc (.cells (entA e) 93))
  generalize (w.alloc (.cells #[.slice A n c, .slice A' m d] 30)).alloc (.cells (entA e) 93) = w0 at hb0 ⊢
  obtain ⟨c1, c2⟩ := two_cells (g := w.heap.size) (hb0.at 1 rfl)
  obtain ⟨e0, e1, e2, e3, e4⟩ := ent_cells (g := w.heap.size + 1) (hb0.at 0 rfl)
  go_wp2_with fail
  refine (G1.out _ hb0.below).mono ?_
  rintro z w1 ⟨rfl, hb1⟩
  have hH1 := hb0.step hb1
  clear hb0 hb1 c1 c2 e0 e1 e2 e3 e4
  go_upto_region 2 with fail
  obtain ⟨ua, hua⟩ : ∃ u, u = w1.heap.size := ⟨_, rfl⟩
  have hla : w.heap.size + 1 < ua := by rw [hua]; exact heap_lt (hH1.at 0 rfl)
  have hH2 := hH1.alloc (.cells (inoA a) 54) hua.symm
  change Code.wp _ _ _ _ (w1.alloc (.cells (inoA a) 54))
  rw [← hua]
  generalize w1.alloc (.cells (inoA a) 54) = w2 at hH2 ⊢
  clear hH1 hua
  obtain ⟨c1, c2⟩ := two_cells (g := w.heap.size) (hH2.at 2 rfl)
  obtain ⟨e0, e1, e2, e3, e4⟩ := ent_cells (g := w.heap.size + 1) (hH2.at 1 rfl)
  go_wp2_with fail
  refine (G2.out _ hH2.below).mono ?_
  rintro z w3 ⟨rfl, hb3⟩
  have hH3 := hH2.step hb3
  clear hH2 hb3 c1 c2 e0 e1 e2 e3 e4
  go_upto_region 3 with fail
  obtain ⟨ux, hux⟩ : ∃ u, u = w3.heap.size := ⟨_, rfl⟩
  have hlx : ua < ux := by rw [hux]; exact heap_lt (hH3.at 0 rfl)
  have hH4 := hH3.alloc (.cells (inoA x) 54) hux.symm
  change Code.wp _ _ _ _ (w3.alloc (.cells (inoA x) 54))
  rw [← hux]
  generalize w3.alloc (.cells (inoA x) 54) = w4 at hH4 ⊢
  clear hH3 hux
  obtain ⟨c1, c2⟩ := two_cells (g := w.heap.size) (hH4.at 3 rfl)
  obtain ⟨e0, e1, e2, e3, e4⟩ := ent_cells (g := w.heap.size + 1) (hH4.at 2 rfl)
  go_wp2_with fail
  refine (L1.out _ hH4.below).mono ?_
  rintro z w5 ⟨rfl, hb5⟩
  have hH5 := hH4.step hb5
  clear hH4 hb5 c1 c2 e0 e1 e2 e3 e4
  go_upto_region 4 with fail
  have hH6 := hH5.alloc (.cells #[.int .i64 p.1, .int .i64 p.2] 35) rfl
  generalize w5.alloc (.cells #[.int .i64 p.1, .int .i64 p.2] 35) = w6 at hH6 ⊢
  obtain ⟨up, hup⟩ : ∃ u, u = w5.heap.size := ⟨_, rfl⟩
  rw [← hup] at hH6 ⊢
  clear hH5 hup
  obtain ⟨c1, c2⟩ := two_cells (g := w.heap.size) (hH6.at 4 rfl)
  obtain ⟨e0, e1, e2, e3, e4⟩ := ent_cells (g := w.heap.size + 1) (hH6.at 3 rfl)
  have ka := (ino_cells (g := ua) (hH6.at 2 rfl)).2.2.1
  have kx := (ino_cells (g := ux) (hH6.at 1 rfl)).2.2.1
  have lx := (ino_cells (g := ux) (hH6.at 1 rfl)).2.2.2.1
  have HB := Lib.hid hH6.below
  clear hH6
  go_wp2_with fail
  refine (N1.out _).mono ?_
  rintro z w7 ⟨rfl, rfl⟩
  cases nm
  · go_wp2_with fail
    go_ret
    exact ⟨by rw [HW.out]; rfl, HB.out⟩
  cases ai
  · go_wp2_with fail
    go_ret
    exact ⟨by rw [HW.out]; simp [whyB], HB.out⟩
  cases xi
  · go_wp2_with fail
    go_ret
    exact ⟨by rw [HW.out]; simp [whyB], HB.out⟩
  by_cases hk : a.kind = 1
  · have hkb : (a.kind == 1) = true := beq_iff_eq.2 hk
    have Hk := Lib.hid hk
    clear hk
    cases lk
    · by_cases hx : x.kind = 1
      · have hxb : (x.kind == 1) = true := beq_iff_eq.2 hx
        have Hx := Lib.hid hx
        clear hx
        cases r1
        · go_wp2_with fail
          refine (U1.out _ HB.out).mono ?_
          rintro z w8 ⟨rfl, hb8⟩
          have kx8 := cell_later hb8 kx
          have lx8 := cell_later hb8 lx
          have HB8 := Lib.hid (below_step HB.out hb8)
          clear hb8
          cases u
          · by_cases h1 : 0 < x.links
            · go_wp2_with fail
              go_ret
              exact ⟨by rw [HW.out]; simp [whyB, Hk.out, Hx.out, h1], HB8.out⟩
            · have h2 : ¬ 6 ≤ x.links := by omega
              go_wp2_with fail
              go_ret
              exact ⟨by rw [HW.out]; simp [whyB, Hk.out, Hx.out, h1, h2], HB8.out⟩
          · go_wp2_with fail
            go_ret
            exact ⟨by rw [HW.out]; simp [whyB, Hk.out, Hx.out], HB8.out⟩
        · cases r2
          · go_wp2_with fail
            refine (U1.out _ HB.out).mono ?_
            rintro z w8 ⟨rfl, hb8⟩
            have kx8 := cell_later hb8 kx
            have lx8 := cell_later hb8 lx
            have HB8 := Lib.hid (below_step HB.out hb8)
            clear hb8
            cases u
            · by_cases h1 : 0 < x.links
              · go_wp2_with fail
                go_ret
                exact ⟨by rw [HW.out]; simp [whyB, Hk.out, Hx.out, h1], HB8.out⟩
              · have h2 : ¬ 6 ≤ x.links := by omega
                go_wp2_with fail
                go_ret
                exact ⟨by rw [HW.out]; simp [whyB, Hk.out, Hx.out, h1, h2], HB8.out⟩
            · go_wp2_with fail
              go_ret
              exact ⟨by rw [HW.out]; simp [whyB, Hk.out, Hx.out], HB8.out⟩
          · go_wp2_with fail
            go_ret
            exact ⟨by rw [HW.out]; simp [whyB, Hk.out, Hx.out], HB.out⟩
      · have hxb : (x.kind == 1) = false := beq_eq_false_iff_ne.2 hx
        have Hx := Lib.hid hx
        clear hx
        by_cases h2 : 6 ≤ x.links
        · go_wp2_with fail
          go_ret
          exact ⟨by rw [HW.out]; simp [whyB, Hk.out, Hx.out, h2], HB.out⟩
        · go_wp2_with fail
          go_ret
          exact ⟨by rw [HW.out]; simp [whyB, Hk.out, Hx.out, h2], HB.out⟩
    · go_wp2_with fail
      go_ret
      exact ⟨by rw [HW.out]; simp [whyB, Hk.out], HB.out⟩
  · have hkb : (a.kind == 1) = false := beq_eq_false_iff_ne.2 hk
    have Hk := Lib.hid hk
    clear hk
    go_wp2_with fail
    go_ret
    exact ⟨by rw [HW.out]; simp [whyB, Hk.out], HB.out⟩

end Go.Proofs.YtlhdbccemgofjaaGreatDoor
