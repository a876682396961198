/-
  The walk of the document's own why (graphs): why an entry can't be.
-/
import Derived.Test.YthcmgaibbpacfaaGreatDoorZX00
import Derived.Test.YthcmgaibbpacfaaGreatDoorZX02
import Derived.Test.YthcmgaibbpacfaaGreatDoorZX03
import Derived.Test.YthcmgaibbpacfaaGreatDoorZ00
import Derived.Test.YthcmgaibbpacfaaGreatDoorRows
import Derived.Test.YthcmgaibbpacfaaGreatDoorZ01
namespace Go.Proofs.YthcmgaibbpacfaaGreatDoor
open Go.RowKit StampMath GraphMath OpMath

/-- The same, of what was looked up. -/
def whyB (nm ai xi : Bool) (ak : Int) (lk : Bool) (xk : Int) (rt u : Bool) (xl : Int) : Int :=
  if nm = false then 1 else if ai = false ∨ xi = false then 3 else if ak ≠ 1 then 6 else if lk = true then 4 else if xk = 1 ∧ (rt = true ∨ u = true) then 8 else if xk = 1 ∧ 0 < xl ∨ 6 ≤ xl then 12 else 0

theorem whyG_eq (nm : Bool) (g : Gr) (e : Ent) : whyG nm g e = whyB nm (getG g e.dir).isSome (getG g e.ino).isSome ((getG g e.dir).getD noIno).kind (lookE g.E e.dir e.name).isSome ((getG g e.ino).getD noIno).kind (decide (e.ino = (0, 0))) (underG g e.dir e.ino) ((getG g e.ino).getD noIno).links := by
  unfold whyG whyB
  cases nm
  · rfl
  · rw [if_neg (by decide), if_neg (by decide)]
    cases h1 : getG g e.dir with
    | none => simp
    | some a =>
      cases h2 : getG g e.ino with
      | none => simp
      | some x => simp

set_option maxRecDepth 100000 in
set_option maxHeartbeats 3200000 in
theorem refWhy (v : Value) (g : Gr) (e : Ent) (hn : g.I.length ≤ 1000) (hm : g.E.length ≤ 1000) (hs : e.name.size ≤ 9223372036854775807) (w : World) {N : Nat → Prop} (hv : GrAt N w v g) :
    Calls Tryz.prog 103 #[v, .agg (entA e)] w fun x w' => x = .returned (.int .i64 (whyG (nameB e.name) g e)) ∧ Below w.heap.size w w' := by
  obtain ⟨A, n, c, A', m, d, rfl, hI, hc1, hE, hc2⟩ := hv
  have hl := hI.len
  have hl' := hE.len
  have hwhy := whyG_eq (nameB e.name) g e
  obtain ⟨a, ha⟩ : ∃ a, a = (getG g e.dir).getD noIno := ⟨_, rfl⟩
  obtain ⟨ai, hai⟩ : ∃ ai, ai = (getG g e.dir).isSome := ⟨_, rfl⟩
  obtain ⟨x, hx⟩ : ∃ x, x = (getG g e.ino).getD noIno := ⟨_, rfl⟩
  obtain ⟨xi, hxi⟩ : ∃ xi, xi = (getG g e.ino).isSome := ⟨_, rfl⟩
  obtain ⟨p, hp⟩ : ∃ p, p = (lookE g.E e.dir e.name).getD (0, 0) := ⟨_, rfl⟩
  obtain ⟨lk, hlk⟩ : ∃ lk, lk = (lookE g.E e.dir e.name).isSome := ⟨_, rfl⟩
  obtain ⟨u, hu⟩ : ∃ u, u = underG g e.dir e.ino := ⟨_, rfl⟩
  obtain ⟨nm, hnm⟩ : ∃ nm, nm = nameB e.name := ⟨_, rfl⟩
  have G1 : Hid (∀ W : World, Below w.heap.size w W → Calls Tryz.prog 38 #[.agg #[.slice A n c, .slice A' m d], .agg #[.int .i64 e.dir.1, .int .i64 e.dir.2]] W fun z w' => z = .returned (.tuple #[.agg #[.int .i64 a.id.1, .int .i64 a.id.2, .int .i64 a.kind, .int .i64 a.links, .int .i64 a.mode, .string a.data], .bool ai]) ∧ Below W.heap.size W w') := fun W hW => by
    rw [ha, hai]; exact refGet A A' n c m d g e.dir (by omega) (by omega) W ((hI.below hW).more hW.size) ((hE.below hW).more hW.size)
  have G2 : Hid (∀ W : World, Below w.heap.size w W → Calls Tryz.prog 38 #[.agg #[.slice A n c, .slice A' m d], .agg #[.int .i64 e.ino.1, .int .i64 e.ino.2]] W fun z w' => z = .returned (.tuple #[.agg #[.int .i64 x.id.1, .int .i64 x.id.2, .int .i64 x.kind, .int .i64 x.links, .int .i64 x.mode, .string x.data], .bool xi]) ∧ Below W.heap.size W w') := fun W hW => by
    rw [hx, hxi]; exact refGet A A' n c m d g e.ino (by omega) (by omega) W ((hI.below hW).more hW.size) ((hE.below hW).more hW.size)
  have L1 : Hid (∀ W : World, Below w.heap.size w W → Calls Tryz.prog 44 #[.agg #[.slice A n c, .slice A' m d], .agg #[.int .i64 e.dir.1, .int .i64 e.dir.2], .string e.name] W fun z w' => z = .returned (.tuple #[.agg #[.int .i64 p.1, .int .i64 p.2], .bool lk]) ∧ Below W.heap.size W w') := fun W hW => by
    rw [hp, hlk]; exact refLook (.slice A n c) A' m d g.E e.dir e.name (by omega) W ((hE.below hW).more hW.size)
  have U1 : Hid (∀ W : World, Below w.heap.size w W → Calls Tryz.prog 102 #[.agg #[.slice A n c, .slice A' m d], .agg #[.int .i64 e.dir.1, .int .i64 e.dir.2], .agg #[.int .i64 e.ino.1, .int .i64 e.ino.2]] W fun z w' => z = .returned (.bool u) ∧ Below W.heap.size W w') := fun W hW => by
    rw [hu]; exact refUnder A A' n c m d g e.dir e.ino (by omega) (by omega) W ((hI.below hW).more hW.size) ((hE.below hW).more hW.size)
  have N1 : Hid (∀ W : World, Calls Tryz.prog 100 #[.string e.name] W fun z w' => z = .returned (.bool nm) ∧ W = w') := fun W => by rw [hnm]; exact refName e.name hs W
  have hroot : decide (e.ino = (0, 0)) = ((e.ino.1 == 0) && (e.ino.2 == 0)) := by
    rw [Bool.eq_iff_iff, decide_eq_true_iff, Bool.and_eq_true, beq_iff_eq, beq_iff_eq]
    exact Prod.ext_iff
  rw [← ha, ← hai, ← hx, ← hxi, ← hlk, ← hu, ← hnm, hroot] at hwhy
  rw [← hnm]
  obtain ⟨r1, hr1⟩ : ∃ r1, (e.ino.1 == 0) = r1 := ⟨_, rfl⟩
  obtain ⟨r2, hr2⟩ : ∃ r2, (e.ino.2 == 0) = r2 := ⟨_, rfl⟩
  rw [hr1, hr2] at hwhy
  have HW := Lib.hid hwhy
  clear hwhy ha hai hx hxi hp hlk hu hnm hI hE hroot hc1 hc2
  have hb0 : Held w [(w.heap.size + 1, .cells (entA e) 66), (w.heap.size, .cells #[.slice A n c, .slice A' m d] 39)]
    ((w.alloc (.cells #[.slice A n c, .slice A' m d] 39)).alloc (.cells (entA e) 66)) :=
    ((Held.refl w).alloc (.cells #[.slice A n c, .slice A' m d] 39) rfl).alloc (.cells (entA e) 66) (by simp)
  unfold entA
  go_enter Tryz.func103, Tryz.ntmps103
  go_upto_region 1 with fail
  change Code.wp _ _ _ _ ((w.alloc (.cells #[.slice A n c, .slice A' m d] 39)).alloc (.cells (entA e) 66))
  generalize (w.alloc (.cells #[.slice A n c, .slice A' m d] 39)).alloc (.cells (entA e) 66) = w0 at hb0 ⊢
  obtain ⟨c1, c2⟩ := two_cells (g := w.heap.size) (hb0.at 1 rfl)
  obtain ⟨e0, e1, e2, e3, e4⟩ := ent_cells (g := w.heap.size + 1) (hb0.at 0 rfl)
  go_wp2_with fail
  refine (G1.out _ hb0.below).mono ?_
  rintro z w1 ⟨rfl, hb1⟩
  have hH1 := hb0.step hb1
  clear hb0 hb1 c1 c2 e0 e1 e2 e3 e4
  go_upto_region 2 with fail
  obtain ⟨ua, hua⟩ : ∃ u, u = w1.heap.size := ⟨_, rfl⟩
  have hla : w.heap.size + 1 < ua := by rw [hua]; exact heap_lt (hH1.at 0 rfl)
  have hH2 := hH1.alloc (.cells (inoA a) 70) hua.symm
  change Code.wp _ _ _ _ (w1.alloc (.cells (inoA a) 70))
  rw [← hua]
  generalize w1.alloc (.cells (inoA a) 70) = w2 at hH2 ⊢
  clear hH1 hua
  obtain ⟨c1, c2⟩ := two_cells (g := w.heap.size) (hH2.at 2 rfl)
  obtain ⟨e0, e1, e2, e3, e4⟩ := ent_cells (g := w.heap.size + 1) (hH2.at 1 rfl)
  go_wp2_with fail
  refine (G2.out _ hH2.below).mono ?_
  rintro z w3 ⟨rfl, hb3⟩
  have hH3 := hH2.step hb3
  clear hH2 hb3 c1 c2 e0 e1 e2 e3 e4
  go_upto_region 3 with fail
  obtain ⟨ux, hux⟩ : ∃ u, u = w3.heap.size := ⟨_, rfl⟩
  have hlx : ua < ux := by rw [hux]; exact heap_lt (hH3.at 0 rfl)
  have hH4 := hH3.alloc (.cells (inoA x) 70) hux.symm
  change Code.wp _ _ _ _ (w3.alloc (.cells (inoA x) 70))
  rw [← hux]
  generalize w3.alloc (.cells (inoA x) 70) = w4 at hH4 ⊢
  clear hH3 hux
  obtain ⟨c1, c2⟩ := two_cells (g := w.heap.size) (hH4.at 3 rfl)
  obtain ⟨e0, e1, e2, e3, e4⟩ := ent_cells (g := w.heap.size + 1) (hH4.at 2 rfl)
  go_wp2_with fail
  refine (L1.out _ hH4.below).mono ?_
  rintro z w5 ⟨rfl, hb5⟩
  have hH5 := hH4.step hb5
  clear hH4 hb5 c1 c2 e0 e1 e2 e3 e4
  go_upto_region 4 with fail
  have hH6 := hH5.alloc (.cells #[.int .i64 p.1, .int .i64 p.2] 24) rfl
  generalize w5.alloc (.cells #[.int .i64 p.1, .int .i64 p.2] 24) = w6 at hH6 ⊢
  obtain ⟨up, hup⟩ : ∃ u, u = w5.heap.size := ⟨_, rfl⟩
  rw [← hup] at hH6 ⊢
  clear hH5 hup
  obtain ⟨c1, c2⟩ := two_cells (g := w.heap.size) (hH6.at 4 rfl)
  obtain ⟨e0, e1, e2, e3, e4⟩ := ent_cells (g := w.heap.size + 1) (hH6.at 3 rfl)
  have ka := (ino_cells (g := ua) (hH6.at 2 rfl)).2.2.1
  have kx := (ino_cells (g := ux) (hH6.at 1 rfl)).2.2.1
  have lx := (ino_cells (g := ux) (hH6.at 1 rfl)).2.2.2.1
  have HB := Lib.hid hH6.below
  clear hH6
  go_wp2_with fail
  refine (N1.out _).mono ?_
  rintro z w7 ⟨rfl, rfl⟩
  cases nm
  · go_wp2_with fail
    go_ret
    exact ⟨by rw [HW.out]; rfl, HB.out⟩
  cases ai
  · go_wp2_with fail
    go_ret
    exact ⟨by rw [HW.out]; simp [whyB], HB.out⟩
  cases xi
  · go_wp2_with fail
    go_ret
    exact ⟨by rw [HW.out]; simp [whyB], HB.out⟩
  by_cases hk : a.kind = 1
  · have hkb : (a.kind == 1) = true := beq_iff_eq.2 hk
    have Hk := Lib.hid hk
    clear hk
    cases lk
    · by_cases hx : x.kind = 1
      · have hxb : (x.kind == 1) = true := beq_iff_eq.2 hx
        have Hx := Lib.hid hx
        clear hx
        cases r1
        · go_wp2_with fail
          refine (U1.out _ HB.out).mono ?_
          rintro z w8 ⟨rfl, hb8⟩
          have kx8 := cell_later hb8 kx
          have lx8 := cell_later hb8 lx
          have HB8 := Lib.hid (below_step HB.out hb8)
          clear hb8
          cases u
          · by_cases h1 : 0 < x.links
            · go_wp2_with fail
              go_ret
              exact ⟨by rw [HW.out]; simp [whyB, Hk.out, Hx.out, h1], HB8.out⟩
            · have h2 : ¬ 6 ≤ x.links := by omega
              go_wp2_with fail
              go_ret
              exact ⟨by rw [HW.out]; simp [whyB, Hk.out, Hx.out, h1, h2], HB8.out⟩
          · go_wp2_with fail
            go_ret
            exact ⟨by rw [HW.out]; simp [whyB, Hk.out, Hx.out], HB8.out⟩
        · cases r2
          · go_wp2_with fail
            refine (U1.out _ HB.out).mono ?_
            rintro z w8 ⟨rfl, hb8⟩
            have kx8 := cell_later hb8 kx
            have lx8 := cell_later hb8 lx
            have HB8 := Lib.hid (below_step HB.out hb8)
            clear hb8
            cases u
            · by_cases h1 : 0 < x.links
              · go_wp2_with fail
                go_ret
                exact ⟨by rw [HW.out]; simp [whyB, Hk.out, Hx.out, h1], HB8.out⟩
              · have h2 : ¬ 6 ≤ x.links := by omega
                go_wp2_with fail
                go_ret
                exact ⟨by rw [HW.out]; simp [whyB, Hk.out, Hx.out, h1, h2], HB8.out⟩
            · go_wp2_with fail
              go_ret
              exact ⟨by rw [HW.out]; simp [whyB, Hk.out, Hx.out], HB8.out⟩
          · go_wp2_with fail
            go_ret
            exact ⟨by rw [HW.out]; simp [whyB, Hk.out, Hx.out], HB.out⟩
      · have hxb : (x.kind == 1) = false := beq_eq_false_iff_ne.2 hx
        have Hx := Lib.hid hx
        clear hx
        by_cases h2 : 6 ≤ x.links
        · go_wp2_with fail
          go_ret
          exact ⟨by rw [HW.out]; simp [whyB, Hk.out, Hx.out, h2], HB.out⟩
        · go_wp2_with fail
          go_ret
          exact ⟨by rw [HW.out]; simp [whyB, Hk.out, Hx.out, h2], HB.out⟩
    · go_wp2_with fail
      go_ret
      exact ⟨by rw [HW.out]; simp [whyB, Hk.out], HB.out⟩
  · have hkb : (a.kind == 1) = false := beq_eq_false_iff_ne.2 hk
    have Hk := Lib.hid hk
    clear hk
    go_wp2_with fail
    go_ret
    exact ⟨by rw [HW.out]; simp [whyB, Hk.out], HB.out⟩

end Go.Proofs.YthcmgaibbpacfaaGreatDoor

/-
  The walk of the document's own May (stamps).
-/
namespace Go.Proofs.YthcmgaibbpacfaaGreatDoor
open Go.RowKit StampMath

set_option maxHeartbeats 400000 in
theorem refMay (t r : Int) (w : World) :
    Calls Tryz.prog 72 #[.agg #[.int .i64 t, .int .i64 r]] w fun e w' => e = .returned (.bool (mayB t r)) ∧ Below w.heap.size w w' := by
  have hcase : ((t == 0) = true ∧ mayB t r = (r == 0)) ∨ ((t == 0) = false ∧ decide (1 ≤ t) = false ∧ mayB t r = false) ∨ ((t == 0) = false ∧ 1 ≤ t ∧ decide (t ≤ 1073741824) = false ∧ mayB t r = false) ∨
      ((t == 0) = false ∧ 1 ≤ t ∧ t ≤ 1073741824 ∧ decide (0 ≤ r) = false ∧ mayB t r = false) ∨ ((t == 0) = false ∧ 1 ≤ t ∧ t ≤ 1073741824 ∧ 0 ≤ r ∧ mayB t r = decide (r ≤ 7)) := by
    unfold mayB
    by_cases h0 : t = 0
    · exact Or.inl ⟨by simp [h0], by rw [if_pos h0]⟩
    · rw [if_neg h0]
      by_cases h1 : 1 ≤ t
      · by_cases h2 : t ≤ 1073741824
        · by_cases h3 : 0 ≤ r
          · exact Or.inr (Or.inr (Or.inr (Or.inr ⟨by simp [h0], h1, h2, h3, by simp [h1, h2, h3]⟩)))
          · exact Or.inr (Or.inr (Or.inr (Or.inl ⟨by simp [h0], h1, h2, by simp; omega, by simp [h3]⟩)))
        · exact Or.inr (Or.inr (Or.inl ⟨by simp [h0], h1, by simp; omega, by simp [h2]⟩))
      · exact Or.inr (Or.inl ⟨by simp [h0], by simp; omega, by simp [h1]⟩)
  rcases hcase with ⟨h0, h⟩ | ⟨h0, h1, h⟩ | ⟨h0, h1, h2, h⟩ | ⟨h0, h1, h2, h3, h⟩ | ⟨h0, h1, h2, h3, h⟩
  all_goals
    have H := Lib.hid h
    clear h
    go_enter Tryz.func72, Tryz.ntmps72
    go_wp2_with fail
    go_ret
    exact ⟨by rw [H.out]; rfl, (Below.refl _ _).alloc (Nat.le_refl _) _⟩

end Go.Proofs.YthcmgaibbpacfaaGreatDoor

/-
  The walk of the document's own Less.
-/
namespace Go.Proofs.YthcmgaibbpacfaaGreatDoor
open Go.RowKit StampMath

set_option maxHeartbeats 400000 in
theorem refLess (t r t' r' : Int) (w : World) :
    Calls Tryz.prog 73 #[.agg #[.int .i64 t, .int .i64 r], .agg #[.int .i64 t', .int .i64 r']] w fun e w' => e = .returned (.bool (lessB t r t' r')) ∧ Below w.heap.size w w' := by
  have hcase : (t < t' ∧ lessB t r t' r' = true) ∨ (¬ t < t' ∧ (t == t') = true ∧ lessB t r t' r' = decide (r < r')) ∨ (¬ t < t' ∧ (t == t') = false ∧ lessB t r t' r' = false) := by
    by_cases h1 : t < t'
    · exact Or.inl ⟨h1, by simp [lessB, h1]⟩
    · by_cases h2 : t = t'
      · exact Or.inr (Or.inl ⟨h1, by simp [h2], by simp [lessB, h2]⟩)
      · exact Or.inr (Or.inr ⟨h1, by simp [h2], by simp [lessB, h1, h2]⟩)
  rcases hcase with ⟨h1, h⟩ | ⟨h1, h2, h⟩ | ⟨h1, h2, h⟩
  all_goals
    have H := Lib.hid h
    clear h
    go_enter Tryz.func73, Tryz.ntmps73
    go_wp2_with fail
    go_ret
    exact ⟨by rw [H.out]; rfl, ((Below.refl _ _).alloc (Nat.le_refl _) _).alloc (by simp) _⟩

end Go.Proofs.YthcmgaibbpacfaaGreatDoor

/-
  The walks of the document's own Ahead and Tie (graphs).
-/
namespace Go.Proofs.YthcmgaibbpacfaaGreatDoor
open Go.RowKit StampMath GraphMath OpMath

theorem bytes_less : ∀ (x y : List UInt8), Op.bytesLess x y = decide (x < y)
  | [], [] => by simp [Op.bytesLess]
  | _ :: _, [] => by simp [Op.bytesLess]
  | [], _ :: _ => by simp [Op.bytesLess]
  | a :: x, b :: y => by
    rw [Op.bytesLess, bytes_less x y]
    simp only [List.cons_lt_cons_iff]
    by_cases h1 : a < b <;> by_cases h2 : a = b <;> by_cases h3 : x < y <;> simp [h1, h2, h3]

theorem names_less (a b : ByteArray) : Op.bytesLess a.toList b.toList = decide (a.data.toList < b.data.toList) := by
  rw [bytes_less, ByteArray.toList_eq, ByteArray.toList_eq]

set_option maxRecDepth 100000 in
set_option maxHeartbeats 800000 in
theorem refAhead (a b : Ent) (w : World) :
    Calls Tryz.prog 104 #[.agg (entA a), .agg (entA b)] w fun x w' => x = .returned (.bool (aheadE a b)) ∧ Below w.heap.size w w' := by
  have hb0 : Held w [(w.heap.size + 1, .cells (entA b) 66), (w.heap.size, .cells (entA a) 66)] ((w.alloc (.cells (entA a) 66)).alloc (.cells (entA b) 66)) :=
    ((Held.refl w).alloc (.cells (entA a) 66) rfl).alloc (.cells (entA b) 66) (by simp)
  have hA : aheadE a b = (lessS a.dir b.dir || (decide (a.dir = b.dir) && decide (a.name.data.toList < b.name.data.toList))) := rfl
  have hs := names_less a.name b.name
  obtain ⟨nl, hnl⟩ : ∃ nl, nl = decide (a.name.data.toList < b.name.data.toList) := ⟨_, rfl⟩
  obtain ⟨sl, hsl⟩ : ∃ sl, sl = lessS a.dir b.dir := ⟨_, rfl⟩
  have HL : Hid (∀ W : World, Calls Tryz.prog 73 #[.agg #[.int .i64 a.dir.1, .int .i64 a.dir.2], .agg #[.int .i64 b.dir.1, .int .i64 b.dir.2]] W fun e w' => e = .returned (.bool sl) ∧ Below W.heap.size W w') := fun W => by
    rw [hsl]; exact refLess a.dir.1 a.dir.2 b.dir.1 b.dir.2 W
  rw [← hnl] at hs hA
  rw [← hsl] at hA
  have HA := Lib.hid hA
  clear hA hnl hsl
  unfold entA
  go_enter Tryz.func104, Tryz.ntmps104
  go_upto_region 1 with fail
  change Code.wp _ _ _ _ ((w.alloc (.cells (entA a) 66)).alloc (.cells (entA b) 66))
  generalize (w.alloc (.cells (entA a) 66)).alloc (.cells (entA b) 66) = w0 at hb0 ⊢
  obtain ⟨c0, c1, c2, c3, c4⟩ := ent_cells (g := w.heap.size) (hb0.at 1 rfl)
  obtain ⟨e0, e1, e2, e3, e4⟩ := ent_cells (g := w.heap.size + 1) (hb0.at 0 rfl)
  go_wp2_with fail
  refine (HL.out _).mono ?_
  rintro z w1 ⟨rfl, hb1⟩
  have hH1 := hb0.step hb1
  clear hb0 hb1 c0 c1 c2 c3 c4 e0 e1 e2 e3 e4
  obtain ⟨c0, c1, c2, c3, c4⟩ := ent_cells (g := w.heap.size) (hH1.at 1 rfl)
  obtain ⟨e0, e1, e2, e3, e4⟩ := ent_cells (g := w.heap.size + 1) (hH1.at 0 rfl)
  cases sl
  · by_cases hq : a.dir = b.dir
    · have hv := eqSt_yes hq
      have HQ := Lib.hid hq
      clear hq
      go_wp2_with fail
      go_ret
      exact ⟨by rw [HA.out]; simp [HQ.out], hH1.below⟩
    · have hv := eqSt_no hq
      have HQ := Lib.hid hq
      clear hq
      go_wp2_with fail
      go_ret
      exact ⟨by rw [HA.out]; simp [HQ.out], hH1.below⟩
  · go_wp2_with fail
    go_ret
    exact ⟨by rw [HA.out]; simp, hH1.below⟩

end Go.Proofs.YthcmgaibbpacfaaGreatDoor

/-
  The walk of the document's own Tie (graphs).
-/
namespace Go.Proofs.YthcmgaibbpacfaaGreatDoor
open Go.RowKit StampMath GraphMath OpMath

theorem ent_sizes {E : List Ent} : ∀ r ∈ E.map entA, r.size = 5 := fun r hr => by obtain ⟨e, _, rfl⟩ := List.mem_map.1 hr; rfl
theorem ent_ones {E : List Ent} : ∀ r ∈ E.map entA, ∀ u ∈ r.toList, u.oneCell' = true := fun r hr => by obtain ⟨e, _, rfl⟩ := List.mem_map.1 hr; exact ent_one e

theorem ents_in {W : World} {base : Nat} {B : Option Addr} {n cc : Nat} {E : List Ent} (h : W.ownsRow base 66 5 (.slice B E.length cc) n (flat (E.map entA))) :
    EntsIn W W.heap.size B E.length E ∧ Cap (fun i => base ≤ i) B E.length cc := by
  have hn : n = E.length := by
    have := h.1
    rw [flat_len ent_sizes, List.length_map] at this
    omega
  subst hn
  obtain ⟨B', c', he, q1, q2, q3⟩ := ents_own rfl h
  simp only [Value.slice.injEq, true_and] at he
  obtain ⟨rfl, rfl⟩ := he
  exact ⟨q1, q2, q3.1, q3.2, fun _ p hp => (h.lt p.block (by rw [hp]; rfl)).1⟩

set_option maxRecDepth 100000 in
set_option maxHeartbeats 3200000 in
theorem refTie (N : Nat → Prop) (v : Value) (g : Gr) (e : Ent) (hn : g.I.length ≤ 1000) (hm : g.E.length ≤ 1000) (hs : e.name.size ≤ 9223372036854775807) (w : World) (hv : GrAt N w v g) :
    Calls Tryz.prog 74 #[v, .agg (entA e)] w (GrPost N (tieG (nameB e.name) g e) w) := by
  obtain ⟨i0, hi0, hz0, hz1, hz2⟩ := info_parts ent_infos
  have HV := Lib.hid hv
  have hwhy : Hid (∀ W : World, Below w.heap.size w W → Calls Tryz.prog 103 #[v, .agg #[.int .i64 e.dir.1, .int .i64 e.dir.2, .string e.name, .int .i64 e.ino.1, .int .i64 e.ino.2]] W fun x w' => x = .returned (.int .i64 (whyG (nameB e.name) g e)) ∧ Below W.heap.size W w') := fun W hW => refWhy v g e hn hm hs W (hv.step hW)
  obtain ⟨A, n, c, A', m, d, rfl, hI, hc1, hE, hc2⟩ := hv
  have hl' := hE.len
  have HE : Hid (EntsIn w w.heap.size A' m g.E) := hE
  have htie : tieG (nameB e.name) g e = if whyG (nameB e.name) g e = 0 then (⟨g.I, putIn (fun a => aheadE a e) g.E e⟩, 0) else (g, whyG (nameB e.name) g e) := rfl
  obtain ⟨wv, hwv⟩ : ∃ wv, wv = whyG (nameB e.name) g e := ⟨_, rfl⟩
  rw [← hwv] at hwhy htie
  obtain ⟨R, hR⟩ : ∃ R, R = tieG (nameB e.name) g e := ⟨_, rfl⟩
  rw [← hR] at htie ⊢
  have HR := Lib.hid htie
  clear htie hwv hR
  have hd1 : A' = none → d = 0 := hc2.2.2.1
  have hd2 : m ≤ d := hc2.1
  have hd3 : d ≤ maxLen := hc2.2.1
  have HI : Hid (InosIn w w.heap.size A n g.I ∧ Cap N A n c) := ⟨hI, hc1⟩
  clear hI hc1 hE hc2
  have hb0 : Held w [(w.heap.size + 1 + 1, .cells #[.slice none 0 0, .slice none 0 0] 39), (w.heap.size + 1, .cells (entA e) 66), (w.heap.size, .cells #[.slice A n c, .slice A' m d] 39)]
    (((w.alloc (.cells #[.slice A n c, .slice A' m d] 39)).alloc (.cells (entA e) 66)).alloc (.cells #[.slice none 0 0, .slice none 0 0] 39)) :=
    (((Held.refl w).alloc (.cells #[.slice A n c, .slice A' m d] 39) rfl).alloc (.cells (entA e) 66) (by simp)).alloc (.cells #[.slice none 0 0, .slice none 0 0] 39) (by simp)
  unfold entA
  go_enter Tryz.func74, Tryz.ntmps74
  go_upto_region 1 with fail
  change Code.wp _ _ _ _ (((w.alloc (.cells #[.slice A n c, .slice A' m d] 39)).alloc (.cells (entA e) 66)).alloc (.cells #[.slice none 0 0, .slice none 0 0] 39))
  generalize ((w.alloc (.cells #[.slice A n c, .slice A' m d] 39)).alloc (.cells (entA e) 66)).alloc (.cells #[.slice none 0 0, .slice none 0 0] 39) = w0 at hb0 ⊢
  obtain ⟨c1, c2⟩ := two_cells (g := w.heap.size) (hb0.at 2 rfl)
  obtain ⟨e0, e1, e2, e3, e4⟩ := ent_cells (g := w.heap.size + 1) (hb0.at 1 rfl)
  go_wp2_with fail
  refine (hwhy.out _ hb0.below).mono ?_
  rintro z w1 ⟨rfl, hb1⟩
  have hH1 := hb0.step hb1
  clear hb0 hb1 c1 c2 e0 e1 e2 e3 e4
  obtain ⟨c1, c2⟩ := two_cells (g := w.heap.size) (hH1.at 2 rfl)
  obtain ⟨m0, m1⟩ := two_cells (g := w.heap.size + 1 + 1) (hH1.at 0 rfl)
  obtain ⟨f0, f1⟩ := two_free (g := w.heap.size + 1 + 1) (hH1.at 0 rfl)
  by_cases hw0 : wv = 0
  · have HR0 : Hid (R = (⟨g.I, putIn (fun a => aheadE a e) g.E e⟩, 0)) := HR.out.trans (if_pos hw0)
    subst hw0
    clear HR HV
    go_wp2_with fail
    go_loopg [7] (m + 1) (fun gk i wr => ∃ k : Nat, i = .int .i64 (k : Int) ∧ gk + k = m + 1 ∧ k ≤ m ∧ Hid (∀ j (h : j < g.E.length), j < k → aheadE g.E[j] e = true) ∧ Held w [(w.heap.size + 1 + 1, .cells #[.slice none 0 0, .slice none 0 0] 39), (w.heap.size + 1, .cells (entA e) 66), (w.heap.size, .cells #[.slice A n c, .slice A' m d] 39)] wr)
    case atStart => exact ⟨0, rfl, by omega, by omega, fun _ _ hj => absurd hj (by omega), hH1⟩
    case round =>
      obtain ⟨k, rfl, hgk, hk, hall, hH⟩ := hrel
      clear hH1 c1 c2 m0 m1 f0 f1
      have c2 := (two_cells (g := w.heap.size) (hH.at 2 rfl)).2
      obtain ⟨e0, e1, e2, e3, e4⟩ := ent_cells (g := w.heap.size + 1) (hH.at 1 rfl)
      have qc2 := later_cell c2
      have q0 := later_cell e0
      have q1 := later_cell e1
      have q2 := later_cell e2
      have q3 := later_cell e3
      have q4 := later_cell e4
      clear e0 e1 e2 e3 e4
      by_cases hlt : k < m
      · obtain ⟨gi, o, rfl, hg, hrow⟩ := HE.out.row (by omega)
        have hrk := (hrow k (by omega)).below hH.below hg
        have hA := fun W => refAhead g.E[k] e W
        obtain ⟨b, hb⟩ : ∃ b, b = aheadE g.E[k] e := ⟨_, rfl⟩
        rw [← hb] at hA
        obtain ⟨x, hx⟩ : ∃ x, g.E[k] = x := ⟨_, rfl⟩
        rw [hx] at hrk hA
        obtain ⟨r0, r1, r2, r3, r4⟩ := hrk
        have s0 := later_cell r0
        have s1 := later_cell r1
        have s2 := later_cell r2
        have s3 := later_cell r3
        have s4 := later_cell r4
        clear r0 r1 r2 r3 r4 hrow
        have HA : Hid (∀ W : World, Calls Tryz.prog 104 #[.agg #[.int .i64 x.dir.1, .int .i64 x.dir.2, .string x.name, .int .i64 x.ino.1, .int .i64 x.ino.2], .agg #[.int .i64 e.dir.1, .int .i64 e.dir.2, .string e.name, .int .i64 e.ino.1, .int .i64 e.ino.2]] W fun x w' => x = .returned (.bool b) ∧ Below W.heap.size W w') := hA
        clear hA
        cases b
        · have HT : Hid (g.E.take k = g.E.takeWhile (fun a => aheadE a e) ∧ g.E.drop k = g.E.dropWhile (fun a => aheadE a e)) := take_while_at (by omega) hall.out fun _ => hb.symm
          clear hb hx hall
          go_upto_region 5 with fail
          refine wp_region_later (by kernel_rfl) (by kernel_rfl) ?_
          repeat (go_big_quiet_step (first | (with_reducible exact later_call (HA.out _))))
          refine wpQuiet_nil ?_
          intro _ hw'
          obtain ⟨y, rfl⟩ := hw'
          have hH2 := hH.step (later_below wr y)
          generalize later wr y = w2 at hH2 ⊢
          clear qc2 q0 q1 q2 q3 q4 s0 s1 s2 s3 s4 hH HA
          have hlow : w.heap.size + 1 + 1 < w2.heap.size := heap_lt (hH2.at 0 rfl)
          clear c2
          have c2 := (two_cells (g := w.heap.size) ((hH2.alloc (.cells #[] 66) rfl).at 3 rfl)).2
          have hT2 := (HE.out.below hH2.below).more hH2.below.size
          have hk1 : 0 + k ≤ maxLen := by unfold maxLen; omega
          have hk2 : k + 1 ≤ maxLen := by unfold maxLen; omega
          have hk3 : k + 1 + (m - k) ≤ maxLen := by unfold maxLen; omega
          have hTk := TabIn.take (hT2.below ((Below.refl w2.heap.size w2).alloc (Nat.le_refl _) (.cells #[] 66))) hk
          rw [← List.map_take] at hTk
          go_upto_region 8 with (at_builtin; refine wpList_append_tab rfl (.tmp 32) (.tmp 36) 31 rfl (w.heap.size + 3) 66 i0 _ 5 48 Tryz.underlying31 hi0 hz0 hz1 hz2 rfl (by decide) _ 0 [] rfl (own_empty w2 _ _ _ (by omega)) _ k d w2.heap.size ((g.E.take k).map entA) rfl hTk hd1 ent_sizes ent_ones hk1 (by omega) (by simp; omega) ?_; intro v3 w3 hown3 hg3)
          rw [List.nil_append, Nat.zero_add] at hown3
          have hH3 := (hH2.step ((Below.refl w2.heap.size w2).alloc (Nat.le_refl _) (.cells #[] 66))).grown (B := w.heap.size + 3) hg3 (fun q hq => ((own_empty w2 (w.heap.size + 3) 66 5 (by omega)).lt q hq).1) (by intro p hp; simp at hp; rcases hp with rfl | rfl | rfl <;> (dsimp only; omega)) (by omega)
          clear c2 hT2 hTk hg3 hH2 hlow hk1
          have hlow : w.heap.size + 1 + 1 < w3.heap.size := heap_lt (hH3.at 0 rfl)
          obtain ⟨e0, e1, e2, e3, e4⟩ := ent_cells (g := w.heap.size + 1) (hH3.at 1 rfl)
          go_upto_region 9 with (at_builtin; refine wpList_append_own _ rfl (.tmp 38) (.tmp 40) 31 rfl (w.heap.size + 3) 66 i0 _ 5 48 Tryz.underlying31 hi0 hz0 hz1 hz2 rfl (by decide) _ _ _ rfl (hown3.alloc _) ⟨w3.heap.size, 0, none⟩ 1 1 (entA e).toList rfl rfl (row_there w3 _ _) (ent_one e) hk2 (by omega) (by simp; omega) ?_; intro v4 w4 hown4 hg4 _)
          rw [flat_ent] at hown4
          have hH4 := (hH3.step ((Below.refl w3.heap.size w3).alloc (Nat.le_refl _) (.cells (entA e) 66))).grown (B := w.heap.size + 3) hg4 (fun q hq => (hown3.lt q hq).1) (by intro p hp; simp at hp; rcases hp with rfl | rfl | rfl <;> (dsimp only; omega)) (by omega)
          clear e0 e1 e2 e3 e4 hown3 hg4 hH3 hlow hk2
          have hlow : w.heap.size + 1 + 1 < w4.heap.size := heap_lt (hH4.at 0 rfl)
          have c2 := (two_cells (g := w.heap.size) (hH4.at 2 rfl)).2
          have hT4 := TabIn.drop (HE.out.below hH4.below) hk
          rw [← List.map_drop] at hT4
          go_upto_region 10 with (at_builtin; refine wpList_append_tab rfl (.tmp 42) (.tmp 46) 31 rfl (w.heap.size + 3) 66 i0 _ 5 48 Tryz.underlying31 hi0 hz0 hz1 hz2 rfl (by decide) _ _ _ rfl hown4 _ (m - k) _ w.heap.size ((g.E.drop k).map entA) rfl hT4 (fun h => by cases h) ent_sizes ent_ones hk3 (by omega) (by omega) ?_; intro v5 w5 hown5 hg5)
          have hH5 := hH4.grown (B := w.heap.size + 3) hg5 (fun q hq => (hown4.lt q hq).1) (by intro p hp; simp at hp; rcases hp with rfl | rfl | rfl <;> (dsimp only; omega)) (by omega)
          clear c2 hown4 hg5 hH4 hlow hk3
          have c1 := (two_cells (g := w.heap.size) (hH5.at 2 rfl)).1
          obtain ⟨m0, m1⟩ := two_cells (g := w.heap.size + 1 + 1) (hH5.at 0 rfl)
          obtain ⟨f0, f1⟩ := two_free (g := w.heap.size + 1 + 1) (hH5.at 0 rfl)
          have hlist : g.E.take k ++ [e] ++ (g.E.drop k) = putIn (fun a => aheadE a e) g.E e := by unfold putIn; rw [← HT.out.1, ← HT.out.2, List.append_assoc]; rfl
          have hlen : k + 1 + (m - k) = (putIn (fun a => aheadE a e) g.E e).length := by rw [← hlist]; simp only [List.length_append, List.length_take, List.length_drop, List.length_cons, List.length_nil]; omega
          rw [← List.map_append, hlist, hlen] at hown5
          obtain ⟨B, cc, rfl, -⟩ := ents_own rfl hown5
          have hown6 := own_set2 hown5 (b := w.heap.size + 1 + 1) (by omega) (.slice A n c) (.slice B (putIn (fun a => aheadE a e) g.E e).length cc)
          obtain ⟨q1, q2⟩ := ents_in hown6
          have hB6 : Below w.heap.size w ((w5.setCell ⟨w.heap.size + 1 + 1, 0, none⟩ (.slice A n c)).setCell ⟨w.heap.size + 1 + 1, 1, none⟩ (.slice B (putIn (fun a => aheadE a e) g.E e).length cc)) := (hH5.below.setCell (by dsimp only; omega) _).setCell (by dsimp only; omega) _
          have HF := Lib.hid (And.intro (And.intro q1 q2) hB6)
          clear hown5 hown6 q1 q2 hB6 hlist hlen
          go_wp2_with fail
          exact bodyPost_ret (v := .tuple #[.agg #[.slice A n c, .slice B (putIn (fun a => aheadE a e) g.E e).length cc], .int .i64 0]) (by simp [results, Tryz.results74, go_sem, m0, m1]) rfl ⟨_, by rw [HR0.out], by rw [HR0.out]; exact ⟨A, n, c, B, _, cc, rfl, (HI.out.1.below HF.out.2).more HF.out.2.size, HI.out.2.to, HF.out.1.1, HF.out.1.2.to⟩, HF.out.2⟩
        · have HN : Hid (∀ j (h : j < g.E.length), j < k + 1 → aheadE g.E[j] e = true) := fun j h hj => by
            by_cases hjk : j = k
            · subst hjk; exact hb.symm
            · exact hall.out j h (by omega)
          clear hb hx hall
          go_upto_region 5 with fail
          refine wp_region_later (by kernel_rfl) (by kernel_rfl) ?_
          repeat (go_big_quiet_step (first | (with_reducible exact later_call (HA.out _))))
          refine wpQuiet_nil ?_
          intro _ hw'
          obtain ⟨y, rfl⟩ := hw'
          have hH2 := hH.step (later_below wr y)
          go_wp2_with fail
          go_roundg (gk - 1)
          case measure => omega
          case rel => exact ⟨k + 1, by go_num, by omega, by omega, HN.out, hH2⟩
      · have HT : Hid (g.E.take k = g.E.takeWhile (fun a => aheadE a e) ∧ g.E.drop k = g.E.dropWhile (fun a => aheadE a e)) := take_while_at (by omega) hall.out fun h => absurd h (by omega)
        clear hall
        go_upto_region 5 with fail
        refine wp_region_later (by kernel_rfl) (by kernel_rfl) ?_
        repeat (go_big_quiet_step (fail))
        refine wpQuiet_nil ?_
        intro _ hw'
        obtain ⟨y, rfl⟩ := hw'
        have hH2 := hH.step (later_below wr y)
        generalize later wr y = w2 at hH2 ⊢
        clear qc2 q0 q1 q2 q3 q4 hH
        have hkm : k = m := by omega
        subst hkm
        cases A' with
        | none =>
          obtain rfl : d = 0 := hd1 rfl
          obtain rfl : k = 0 := by omega
          have hlow : w.heap.size + 1 + 1 < w2.heap.size := heap_lt (hH2.at 0 rfl)
          clear c2
          have c2 := (two_cells (g := w.heap.size) ((hH2.alloc (.cells #[] 66) rfl).at 3 rfl)).2
          have hT2 := (HE.out.below hH2.below).more hH2.below.size
          have hk1 : 0 + 0 ≤ maxLen := by unfold maxLen; omega
          have hk2 : 0 + 1 ≤ maxLen := by unfold maxLen; omega
          have hk3 : 0 + 1 + 0 ≤ maxLen := by unfold maxLen; omega
          have hTk := TabIn.take (hT2.below ((Below.refl w2.heap.size w2).alloc (Nat.le_refl _) (.cells #[] 66))) hk
          rw [← List.map_take] at hTk
          go_upto_region 8 with (at_builtin; refine wpList_append_tab rfl (.tmp 32) (.tmp 36) 31 rfl (w.heap.size + 3) 66 i0 _ 5 48 Tryz.underlying31 hi0 hz0 hz1 hz2 rfl (by decide) _ 0 [] rfl (own_empty w2 _ _ _ (by omega)) _ 0 0 w2.heap.size ((g.E.take 0).map entA) rfl hTk hd1 ent_sizes ent_ones hk1 (by omega) (by simp; omega) ?_; intro v3 w3 hown3 hg3)
          rw [List.nil_append, Nat.zero_add] at hown3
          have hH3 := (hH2.step ((Below.refl w2.heap.size w2).alloc (Nat.le_refl _) (.cells #[] 66))).grown (B := w.heap.size + 3) hg3 (fun q hq => ((own_empty w2 (w.heap.size + 3) 66 5 (by omega)).lt q hq).1) (by intro p hp; simp at hp; rcases hp with rfl | rfl | rfl <;> (dsimp only; omega)) (by omega)
          clear c2 hT2 hTk hg3 hH2 hlow hk1
          have hlow : w.heap.size + 1 + 1 < w3.heap.size := heap_lt (hH3.at 0 rfl)
          obtain ⟨e0, e1, e2, e3, e4⟩ := ent_cells (g := w.heap.size + 1) (hH3.at 1 rfl)
          go_upto_region 9 with (at_builtin; refine wpList_append_own _ rfl (.tmp 38) (.tmp 40) 31 rfl (w.heap.size + 3) 66 i0 _ 5 48 Tryz.underlying31 hi0 hz0 hz1 hz2 rfl (by decide) _ _ _ rfl (hown3.alloc _) ⟨w3.heap.size, 0, none⟩ 1 1 (entA e).toList rfl rfl (row_there w3 _ _) (ent_one e) hk2 (by omega) (by simp; omega) ?_; intro v4 w4 hown4 hg4 _)
          rw [flat_ent] at hown4
          have hH4 := (hH3.step ((Below.refl w3.heap.size w3).alloc (Nat.le_refl _) (.cells (entA e) 66))).grown (B := w.heap.size + 3) hg4 (fun q hq => (hown3.lt q hq).1) (by intro p hp; simp at hp; rcases hp with rfl | rfl | rfl <;> (dsimp only; omega)) (by omega)
          clear e0 e1 e2 e3 e4 hown3 hg4 hH3 hlow hk2
          have hlow : w.heap.size + 1 + 1 < w4.heap.size := heap_lt (hH4.at 0 rfl)
          have c2 := (two_cells (g := w.heap.size) (hH4.at 2 rfl)).2
          go_upto_region 10 with (at_builtin; refine wpList_append_tab rfl (.tmp 42) (.tmp 46) 31 rfl (w.heap.size + 3) 66 i0 _ 5 48 Tryz.underlying31 hi0 hz0 hz1 hz2 rfl (by decide) _ _ _ rfl hown4 _ 0 _ w.heap.size (([] : List Ent).map entA) rfl (TabIn.nil 5 w4 w.heap.size _) (fun _ => rfl) ent_sizes ent_ones hk3 (by omega) (by omega) ?_; intro v5 w5 hown5 hg5)
          have hH5 := hH4.grown (B := w.heap.size + 3) hg5 (fun q hq => (hown4.lt q hq).1) (by intro p hp; simp at hp; rcases hp with rfl | rfl | rfl <;> (dsimp only; omega)) (by omega)
          clear c2 hown4 hg5 hH4 hlow hk3
          have c1 := (two_cells (g := w.heap.size) (hH5.at 2 rfl)).1
          obtain ⟨m0, m1⟩ := two_cells (g := w.heap.size + 1 + 1) (hH5.at 0 rfl)
          obtain ⟨f0, f1⟩ := two_free (g := w.heap.size + 1 + 1) (hH5.at 0 rfl)
          have hlist : g.E.take 0 ++ [e] ++ ([] : List Ent) = putIn (fun a => aheadE a e) g.E e := by unfold putIn; rw [← HT.out.1, ← HT.out.2, List.append_assoc]; rw [List.drop_of_length_le (by omega)]; rfl
          have hlen : 0 + 1 + 0 = (putIn (fun a => aheadE a e) g.E e).length := by rw [← hlist]; simp only [List.length_append, List.length_take, List.length_cons, List.length_nil]; omega
          rw [← List.map_append, hlist, hlen] at hown5
          obtain ⟨B, cc, rfl, -⟩ := ents_own rfl hown5
          have hown6 := own_set2 hown5 (b := w.heap.size + 1 + 1) (by omega) (.slice A n c) (.slice B (putIn (fun a => aheadE a e) g.E e).length cc)
          obtain ⟨q1, q2⟩ := ents_in hown6
          have hB6 : Below w.heap.size w ((w5.setCell ⟨w.heap.size + 1 + 1, 0, none⟩ (.slice A n c)).setCell ⟨w.heap.size + 1 + 1, 1, none⟩ (.slice B (putIn (fun a => aheadE a e) g.E e).length cc)) := (hH5.below.setCell (by dsimp only; omega) _).setCell (by dsimp only; omega) _
          have HF := Lib.hid (And.intro (And.intro q1 q2) hB6)
          clear hown5 hown6 q1 q2 hB6 hlist hlen
          go_wp2_with fail
          exact bodyPost_ret (v := .tuple #[.agg #[.slice A n c, .slice B (putIn (fun a => aheadE a e) g.E e).length cc], .int .i64 0]) (by simp [results, Tryz.results74, go_sem, m0, m1]) rfl ⟨_, by rw [HR0.out], by rw [HR0.out]; exact ⟨A, n, c, B, _, cc, rfl, (HI.out.1.below HF.out.2).more HF.out.2.size, HI.out.2.to, HF.out.1.1, HF.out.1.2.to⟩, HF.out.2⟩
        | some ad =>
          by_cases hdk : d = k
          · subst hdk
            have hlow : w.heap.size + 1 + 1 < w2.heap.size := heap_lt (hH2.at 0 rfl)
            clear c2
            have c2 := (two_cells (g := w.heap.size) ((hH2.alloc (.cells #[] 66) rfl).at 3 rfl)).2
            have hT2 := (HE.out.below hH2.below).more hH2.below.size
            have hk1 : 0 + d ≤ maxLen := by unfold maxLen; omega
            have hk2 : d + 1 ≤ maxLen := by unfold maxLen; omega
            have hk3 : d + 1 + 0 ≤ maxLen := by unfold maxLen; omega
            have hTk := TabIn.take (hT2.below ((Below.refl w2.heap.size w2).alloc (Nat.le_refl _) (.cells #[] 66))) hk
            rw [← List.map_take] at hTk
            go_upto_region 8 with (at_builtin; refine wpList_append_tab rfl (.tmp 32) (.tmp 36) 31 rfl (w.heap.size + 3) 66 i0 _ 5 48 Tryz.underlying31 hi0 hz0 hz1 hz2 rfl (by decide) _ 0 [] rfl (own_empty w2 _ _ _ (by omega)) _ d d w2.heap.size ((g.E.take d).map entA) rfl hTk hd1 ent_sizes ent_ones hk1 (by omega) (by simp; omega) ?_; intro v3 w3 hown3 hg3)
            rw [List.nil_append, Nat.zero_add] at hown3
            have hH3 := (hH2.step ((Below.refl w2.heap.size w2).alloc (Nat.le_refl _) (.cells #[] 66))).grown (B := w.heap.size + 3) hg3 (fun q hq => ((own_empty w2 (w.heap.size + 3) 66 5 (by omega)).lt q hq).1) (by intro p hp; simp at hp; rcases hp with rfl | rfl | rfl <;> (dsimp only; omega)) (by omega)
            clear c2 hT2 hTk hg3 hH2 hlow hk1
            have hlow : w.heap.size + 1 + 1 < w3.heap.size := heap_lt (hH3.at 0 rfl)
            obtain ⟨e0, e1, e2, e3, e4⟩ := ent_cells (g := w.heap.size + 1) (hH3.at 1 rfl)
            go_upto_region 9 with (at_builtin; refine wpList_append_own _ rfl (.tmp 38) (.tmp 40) 31 rfl (w.heap.size + 3) 66 i0 _ 5 48 Tryz.underlying31 hi0 hz0 hz1 hz2 rfl (by decide) _ _ _ rfl (hown3.alloc _) ⟨w3.heap.size, 0, none⟩ 1 1 (entA e).toList rfl rfl (row_there w3 _ _) (ent_one e) hk2 (by omega) (by simp; omega) ?_; intro v4 w4 hown4 hg4 _)
            rw [flat_ent] at hown4
            have hH4 := (hH3.step ((Below.refl w3.heap.size w3).alloc (Nat.le_refl _) (.cells (entA e) 66))).grown (B := w.heap.size + 3) hg4 (fun q hq => (hown3.lt q hq).1) (by intro p hp; simp at hp; rcases hp with rfl | rfl | rfl <;> (dsimp only; omega)) (by omega)
            clear e0 e1 e2 e3 e4 hown3 hg4 hH3 hlow hk2
            have hlow : w.heap.size + 1 + 1 < w4.heap.size := heap_lt (hH4.at 0 rfl)
            have c2 := (two_cells (g := w.heap.size) (hH4.at 2 rfl)).2
            go_upto_region 10 with (at_builtin; refine wpList_append_tab rfl (.tmp 42) (.tmp 46) 31 rfl (w.heap.size + 3) 66 i0 _ 5 48 Tryz.underlying31 hi0 hz0 hz1 hz2 rfl (by decide) _ _ _ rfl hown4 _ 0 _ w.heap.size (([] : List Ent).map entA) rfl (TabIn.nil 5 w4 w.heap.size _) (fun h => by cases h) ent_sizes ent_ones hk3 (by omega) (by omega) ?_; intro v5 w5 hown5 hg5)
            have hH5 := hH4.grown (B := w.heap.size + 3) hg5 (fun q hq => (hown4.lt q hq).1) (by intro p hp; simp at hp; rcases hp with rfl | rfl | rfl <;> (dsimp only; omega)) (by omega)
            clear c2 hown4 hg5 hH4 hlow hk3
            have c1 := (two_cells (g := w.heap.size) (hH5.at 2 rfl)).1
            obtain ⟨m0, m1⟩ := two_cells (g := w.heap.size + 1 + 1) (hH5.at 0 rfl)
            obtain ⟨f0, f1⟩ := two_free (g := w.heap.size + 1 + 1) (hH5.at 0 rfl)
            have hlist : g.E.take d ++ [e] ++ ([] : List Ent) = putIn (fun a => aheadE a e) g.E e := by unfold putIn; rw [← HT.out.1, ← HT.out.2, List.append_assoc]; rw [List.drop_of_length_le (by omega)]; rfl
            have hlen : d + 1 + 0 = (putIn (fun a => aheadE a e) g.E e).length := by rw [← hlist]; simp only [List.length_append, List.length_take, List.length_cons, List.length_nil]; omega
            rw [← List.map_append, hlist, hlen] at hown5
            obtain ⟨B, cc, rfl, -⟩ := ents_own rfl hown5
            have hown6 := own_set2 hown5 (b := w.heap.size + 1 + 1) (by omega) (.slice A n c) (.slice B (putIn (fun a => aheadE a e) g.E e).length cc)
            obtain ⟨q1, q2⟩ := ents_in hown6
            have hB6 : Below w.heap.size w ((w5.setCell ⟨w.heap.size + 1 + 1, 0, none⟩ (.slice A n c)).setCell ⟨w.heap.size + 1 + 1, 1, none⟩ (.slice B (putIn (fun a => aheadE a e) g.E e).length cc)) := (hH5.below.setCell (by dsimp only; omega) _).setCell (by dsimp only; omega) _
            have HF := Lib.hid (And.intro (And.intro q1 q2) hB6)
            clear hown5 hown6 q1 q2 hB6 hlist hlen
            go_wp2_with fail
            exact bodyPost_ret (v := .tuple #[.agg #[.slice A n c, .slice B (putIn (fun a => aheadE a e) g.E e).length cc], .int .i64 0]) (by simp [results, Tryz.results74, go_sem, m0, m1]) rfl ⟨_, by rw [HR0.out], by rw [HR0.out]; exact ⟨A, n, c, B, _, cc, rfl, (HI.out.1.below HF.out.2).more HF.out.2.size, HI.out.2.to, HF.out.1.1, HF.out.1.2.to⟩, HF.out.2⟩
          · have hdk2 : ¬ k = d := fun q => hdk q.symm
            have hlow : w.heap.size + 1 + 1 < w2.heap.size := heap_lt (hH2.at 0 rfl)
            clear c2
            have c2 := (two_cells (g := w.heap.size) ((hH2.alloc (.cells #[] 66) rfl).at 3 rfl)).2
            have hT2 := (HE.out.below hH2.below).more hH2.below.size
            have hk1 : 0 + k ≤ maxLen := by unfold maxLen; omega
            have hk2 : k + 1 ≤ maxLen := by unfold maxLen; omega
            have hk3 : k + 1 + 0 ≤ maxLen := by unfold maxLen; omega
            have hTk := TabIn.take (hT2.below ((Below.refl w2.heap.size w2).alloc (Nat.le_refl _) (.cells #[] 66))) hk
            rw [← List.map_take] at hTk
            go_upto_region 8 with (at_builtin; refine wpList_append_tab rfl (.tmp 32) (.tmp 36) 31 rfl (w.heap.size + 3) 66 i0 _ 5 48 Tryz.underlying31 hi0 hz0 hz1 hz2 rfl (by decide) _ 0 [] rfl (own_empty w2 _ _ _ (by omega)) _ k d w2.heap.size ((g.E.take k).map entA) rfl hTk hd1 ent_sizes ent_ones hk1 (by omega) (by simp; omega) ?_; intro v3 w3 hown3 hg3)
            rw [List.nil_append, Nat.zero_add] at hown3
            have hH3 := (hH2.step ((Below.refl w2.heap.size w2).alloc (Nat.le_refl _) (.cells #[] 66))).grown (B := w.heap.size + 3) hg3 (fun q hq => ((own_empty w2 (w.heap.size + 3) 66 5 (by omega)).lt q hq).1) (by intro p hp; simp at hp; rcases hp with rfl | rfl | rfl <;> (dsimp only; omega)) (by omega)
            clear c2 hT2 hTk hg3 hH2 hlow hk1
            have hlow : w.heap.size + 1 + 1 < w3.heap.size := heap_lt (hH3.at 0 rfl)
            obtain ⟨e0, e1, e2, e3, e4⟩ := ent_cells (g := w.heap.size + 1) (hH3.at 1 rfl)
            go_upto_region 9 with (at_builtin; refine wpList_append_own _ rfl (.tmp 38) (.tmp 40) 31 rfl (w.heap.size + 3) 66 i0 _ 5 48 Tryz.underlying31 hi0 hz0 hz1 hz2 rfl (by decide) _ _ _ rfl (hown3.alloc _) ⟨w3.heap.size, 0, none⟩ 1 1 (entA e).toList rfl rfl (row_there w3 _ _) (ent_one e) hk2 (by omega) (by simp; omega) ?_; intro v4 w4 hown4 hg4 _)
            rw [flat_ent] at hown4
            have hH4 := (hH3.step ((Below.refl w3.heap.size w3).alloc (Nat.le_refl _) (.cells (entA e) 66))).grown (B := w.heap.size + 3) hg4 (fun q hq => (hown3.lt q hq).1) (by intro p hp; simp at hp; rcases hp with rfl | rfl | rfl <;> (dsimp only; omega)) (by omega)
            clear e0 e1 e2 e3 e4 hown3 hg4 hH3 hlow hk2
            have hlow : w.heap.size + 1 + 1 < w4.heap.size := heap_lt (hH4.at 0 rfl)
            have c2 := (two_cells (g := w.heap.size) (hH4.at 2 rfl)).2
            go_upto_region 10 with (at_builtin; refine wpList_append_tab rfl (.tmp 42) (.tmp 46) 31 rfl (w.heap.size + 3) 66 i0 _ 5 48 Tryz.underlying31 hi0 hz0 hz1 hz2 rfl (by decide) _ _ _ rfl hown4 _ 0 _ w.heap.size (([] : List Ent).map entA) rfl (TabIn.nil 5 w4 w.heap.size _) (fun h => by cases h) ent_sizes ent_ones hk3 (by omega) (by omega) ?_; intro v5 w5 hown5 hg5)
            have hH5 := hH4.grown (B := w.heap.size + 3) hg5 (fun q hq => (hown4.lt q hq).1) (by intro p hp; simp at hp; rcases hp with rfl | rfl | rfl <;> (dsimp only; omega)) (by omega)
            clear c2 hown4 hg5 hH4 hlow hk3
            have c1 := (two_cells (g := w.heap.size) (hH5.at 2 rfl)).1
            obtain ⟨m0, m1⟩ := two_cells (g := w.heap.size + 1 + 1) (hH5.at 0 rfl)
            obtain ⟨f0, f1⟩ := two_free (g := w.heap.size + 1 + 1) (hH5.at 0 rfl)
            have hlist : g.E.take k ++ [e] ++ ([] : List Ent) = putIn (fun a => aheadE a e) g.E e := by unfold putIn; rw [← HT.out.1, ← HT.out.2, List.append_assoc]; rw [List.drop_of_length_le (by omega)]; rfl
            have hlen : k + 1 + 0 = (putIn (fun a => aheadE a e) g.E e).length := by rw [← hlist]; simp only [List.length_append, List.length_take, List.length_cons, List.length_nil]; omega
            rw [← List.map_append, hlist, hlen] at hown5
            obtain ⟨B, cc, rfl, -⟩ := ents_own rfl hown5
            have hown6 := own_set2 hown5 (b := w.heap.size + 1 + 1) (by omega) (.slice A n c) (.slice B (putIn (fun a => aheadE a e) g.E e).length cc)
            obtain ⟨q1, q2⟩ := ents_in hown6
            have hB6 : Below w.heap.size w ((w5.setCell ⟨w.heap.size + 1 + 1, 0, none⟩ (.slice A n c)).setCell ⟨w.heap.size + 1 + 1, 1, none⟩ (.slice B (putIn (fun a => aheadE a e) g.E e).length cc)) := (hH5.below.setCell (by dsimp only; omega) _).setCell (by dsimp only; omega) _
            have HF := Lib.hid (And.intro (And.intro q1 q2) hB6)
            clear hown5 hown6 q1 q2 hB6 hlist hlen
            go_wp2_with fail
            exact bodyPost_ret (v := .tuple #[.agg #[.slice A n c, .slice B (putIn (fun a => aheadE a e) g.E e).length cc], .int .i64 0]) (by simp [results, Tryz.results74, go_sem, m0, m1]) rfl ⟨_, by rw [HR0.out], by rw [HR0.out]; exact ⟨A, n, c, B, _, cc, rfl, (HI.out.1.below HF.out.2).more HF.out.2.size, HI.out.2.to, HF.out.1.1, HF.out.1.2.to⟩, HF.out.2⟩
  · have hw1 : (wv == 0) = false := beq_eq_false_iff_ne.2 hw0
    have HR0 : Hid (R = (g, wv)) := HR.out.trans (if_neg hw0)
    clear hw0 HR
    go_wp2_with fail
    exact bodyPost_ret (v := .tuple #[.agg #[.slice A n c, .slice A' m d], .int .i64 wv]) (by simp [results, Tryz.results74, go_sem, m0, m1]) rfl ⟨_, by rw [HR0.out], by rw [HR0.out]; exact HV.out.step ((hH1.below.setCell (by dsimp only; omega) _).setCell (by dsimp only; omega) _), (hH1.below.setCell (by dsimp only; omega) _).setCell (by dsimp only; omega) _⟩

end Go.Proofs.YthcmgaibbpacfaaGreatDoor
