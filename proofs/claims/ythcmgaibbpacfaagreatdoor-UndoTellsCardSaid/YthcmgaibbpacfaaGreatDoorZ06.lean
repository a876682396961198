/-
  The walk of op's Makes.
-/
import Derived.Test.YthcmgaibbpacfaaGreatDoorZ00
import Derived.Test.YthcmgaibbpacfaaGreatDoorZ00
import Derived.Test.YthcmgaibbpacfaaGreatDoorRows
import Derived.Test.YthcmgaibbpacfaaGreatDoorZ05
import Derived.Deep.RegionHeld3
import Derived.Test.YthcmgaibbpacfaaGreatDoorZ01
import Derived.Test.YthcmgaibbpacfaaGreatDoorZ02
namespace Go.Proofs.YthcmgaibbpacfaaGreatDoor
open Go.RowKit OpMath StampMath PackMath

theorem makes_any (o : Opn) (w : World) :
    Calls Tryz.prog 23 #[.agg #[.int .i64 o.st, .int .i64 o.sr, .int .i64 o.k, .int .i64 o.pt, .int .i64 o.pr, .int .i64 o.it, .int .i64 o.ir, .int .i64 o.tt, .int .i64 o.tr, .string o.name, .string o.new, .int .i64 o.off, .string o.data]] w fun e w' => e = .returned (.int .i64 (makesO o)) ∧ Below w.heap.size w w' := by
  have hcase : ((o.k == 1) = true ∧ makesO o = 1) ∨ ((o.k == 1) = false ∧ (o.k == 2) = true ∧ makesO o = 2) ∨ ((o.k == 1) = false ∧ (o.k == 2) = false ∧ (o.k == 3) = true ∧ makesO o = 3) ∨ ((o.k == 1) = false ∧ (o.k == 2) = false ∧ (o.k == 3) = false ∧ makesO o = 0) := by
    unfold makesO
    by_cases h1 : o.k = 1
    · exact Or.inl ⟨by simp [h1], by rw [if_pos (by omega), h1]⟩
    · by_cases h2 : o.k = 2
      · exact Or.inr (Or.inl ⟨by simp [h1], by simp [h2], by rw [if_pos (by omega), h2]⟩)
      · by_cases h3 : o.k = 3
        · exact Or.inr (Or.inr (Or.inl ⟨by simp [h1], by simp [h2], by simp [h3], by rw [if_pos (by omega), h3]⟩))
        · exact Or.inr (Or.inr (Or.inr ⟨by simp [h1], by simp [h2], by simp [h3], by rw [if_neg (by omega)]⟩))
  rcases hcase with ⟨h1, h⟩ | ⟨h1, h2, h⟩ | ⟨h1, h2, h3, h⟩ | ⟨h1, h2, h3, h⟩
  all_goals
    rw [h]
    clear h
    go_enter Tryz.func23, Tryz.ntmps23
    go_wp2_with fail
    go_ret
    exact ⟨rfl, (Below.refl _ _).alloc (Nat.le_refl _) _⟩

end Go.Proofs.YthcmgaibbpacfaaGreatDoor

/-
  The landed apply: what adds an inode, and what takes an entry away.
-/
namespace Go.Proofs.YthcmgaibbpacfaaGreatDoor
open Go.RowKit StampMath GraphMath OpMath PackMath

theorem deed_s {W0 W : World} {a : Addr} {o : Opn} (h : W.heap[W0.heap.size]? = some (.cells (deedA a o) 116 (0, 0))) : W.heap[W0.heap.size]? = some (.cells (deedA a o) 116 (0, 0)) ∧ W.cell? ⟨W0.heap.size, 0, none⟩ = some (.pointer (some a)) ∧ W.cell? ⟨W0.heap.size, 1, none⟩ = some (.int .i64 o.st) ∧ W.cell? ⟨W0.heap.size, 2, none⟩ = some (.int .i64 o.sr) ∧ W.cell? ⟨W0.heap.size, 3, none⟩ = some (.int .i64 o.k) ∧ W.cell? ⟨W0.heap.size, 4, none⟩ = some (.int .i64 o.pt) ∧ W.cell? ⟨W0.heap.size, 5, none⟩ = some (.int .i64 o.pr) ∧ W.cell? ⟨W0.heap.size, 6, none⟩ = some (.int .i64 o.it) ∧ W.cell? ⟨W0.heap.size, 7, none⟩ = some (.int .i64 o.ir) ∧ W.cell? ⟨W0.heap.size, 8, none⟩ = some (.int .i64 o.tt) ∧ W.cell? ⟨W0.heap.size, 9, none⟩ = some (.int .i64 o.tr) ∧ W.cell? ⟨W0.heap.size, 10, none⟩ = some (.string o.name) ∧ W.cell? ⟨W0.heap.size, 11, none⟩ = some (.string o.new) ∧ W.cell? ⟨W0.heap.size, 12, none⟩ = some (.int .i64 o.off) ∧ W.cell? ⟨W0.heap.size, 13, none⟩ = some (.string o.data) := ⟨h, deed_cells h⟩

set_option maxRecDepth 100000 in
set_option maxHeartbeats 1600000 in
theorem add_code (H : GraphHave) (w W0 : World) (N : Nat → Prop) (a : Addr) (g : Gr) (o : Opn) (h : GX H w W0 N a g) (hn : o.name.size ≤ maxLen) (hk : 1 ≤ o.k) (hk3 : o.k ≤ 3) :
    Calls Tryz.prog 95 #[.agg (deedA a o)] W0 (Did H w W0 N a (madeA g o)) := by
  have HM : Hid (∀ W : World, Calls Tryz.prog 23 #[.agg #[.int .i64 o.st, .int .i64 o.sr, .int .i64 o.k, .int .i64 o.pt, .int .i64 o.pr, .int .i64 o.it, .int .i64 o.ir, .int .i64 o.tt, .int .i64 o.tr, .string o.name, .string o.new, .int .i64 o.off, .string o.data]] W fun e w' => e = .returned (.int .i64 (makesO o)) ∧ Below W.heap.size W w') := Lib.hid (makes_any o)
  have HE := Lib.hid (add_made (g := g) hk hk3)
  have hD0 := (DX.start h).alloc (.cells (deedA a o) 116) rfl
  generalize madeA g o = gr at HE ⊢
  generalize makesO o = mk at HM HE
  clear h hk hk3
  unfold Did
  go_enter Tryz.func95, Tryz.ntmps95
  go_upto_region 1 with fail
  change Code.wp _ _ _ _ (W0.alloc (.cells (deedA a o) 116))
  generalize W0.alloc (.cells (deedA a o) 116) = w0 at hD0 ⊢
  have hDd := hD0.step ((Below.refl w0.heap.size w0).drew)
  have hS0 := deed_s (hD0.at 0 rfl)
  have hSd := deed_s (hDd.at 0 rfl)
  go_region_held3 (fun W => W.heap[W0.heap.size]? = some (.cells (deedA a o) 116 (0, 0)) ∧ W.cell? ⟨W0.heap.size, 0, none⟩ = some (.pointer (some a)) ∧ W.cell? ⟨W0.heap.size, 1, none⟩ = some (.int .i64 o.st) ∧ W.cell? ⟨W0.heap.size, 2, none⟩ = some (.int .i64 o.sr) ∧ W.cell? ⟨W0.heap.size, 3, none⟩ = some (.int .i64 o.k) ∧ W.cell? ⟨W0.heap.size, 4, none⟩ = some (.int .i64 o.pt) ∧ W.cell? ⟨W0.heap.size, 5, none⟩ = some (.int .i64 o.pr) ∧ W.cell? ⟨W0.heap.size, 6, none⟩ = some (.int .i64 o.it) ∧ W.cell? ⟨W0.heap.size, 7, none⟩ = some (.int .i64 o.ir) ∧ W.cell? ⟨W0.heap.size, 8, none⟩ = some (.int .i64 o.tt) ∧ W.cell? ⟨W0.heap.size, 9, none⟩ = some (.int .i64 o.tr) ∧ W.cell? ⟨W0.heap.size, 10, none⟩ = some (.string o.name) ∧ W.cell? ⟨W0.heap.size, 11, none⟩ = some (.string o.new) ∧ W.cell? ⟨W0.heap.size, 12, none⟩ = some (.int .i64 o.off) ∧ W.cell? ⟨W0.heap.size, 13, none⟩ = some (.string o.data)) (with_reducible assumption)
    (first
      | (go_at_call 23; (with_reducible refine (HM.out _).mono ?_); rintro e w1 ⟨rfl, hb1⟩; have hD1 := hDd.step hb1; have hS1 := deed_s (hD1.at 0 rfl))
      | (go_at_call 53; (with_reducible refine (hD1.make (o.st, o.sr) mk).mono ?_); rintro e w2 ⟨rfl, hD2⟩; have hS2 := deed_s (hD2.at 0 rfl)))
  obtain ⟨d0, d1, d2, d3, d4, d5, d6, d7, d8, d9, d10, d11, d12, d13⟩ := deed_cells (g := W0.heap.size) (hD2.at 0 rfl)
  clear hS0 hSd hS1 hS2 hD0 hDd hD1 hb1
  go_wp2_with fail
  refine (hD2.set (o.st, o.sr) 0 o.data).mono ?_
  rintro e w3 ⟨rfl, hD3⟩
  clear d0 d1 d2 d3 d4 d5 d6 d7 d8 d9 d10 d11 d12 d13 hD2
  obtain ⟨d0, d1, d2, d3, d4, d5, d6, d7, d8, d9, d10, d11, d12, d13⟩ := deed_cells (g := W0.heap.size) (hD3.at 0 rfl)
  go_wp2_with fail
  refine (hD3.tie (o.pt, o.pr) o.name (o.st, o.sr) hn).mono ?_
  rintro e w4 ⟨rfl, hD4⟩
  go_wp2_with fail
  exact bodyPost_end (results_none rfl _ _ _) rfl ⟨rfl, by rw [HE.out]; exact hD4.fin⟩

set_option maxRecDepth 100000 in
set_option maxHeartbeats 1600000 in
theorem remove_code (H : GraphHave) (w W0 : World) (N : Nat → Prop) (a : Addr) (g : Gr) (o : Opn) (d : St) (nm : ByteArray) (h : GX H w W0 N a g) (hn : nm.size ≤ maxLen) :
    Calls Tryz.prog 96 #[.agg (deedA a o), .agg (stA d), .string nm] W0 (Did H w W0 N a (goneG g d nm)) := by
  have HE := Lib.hid (gone_drop h.ok d nm)
  have hD0 := ((DX.start h).alloc (.cells (deedA a o) 116) rfl).alloc (.cells (stA d) 24) (u := W0.heap.size + 1) (by simp)
  generalize goneG g d nm = gr at HE ⊢
  clear h
  unfold Did
  go_enter Tryz.func96, Tryz.ntmps96
  go_upto_region 1 with fail
  change Code.wp _ _ _ _ ((W0.alloc (.cells (deedA a o) 116)).alloc (.cells (stA d) 24))
  generalize (W0.alloc (.cells (deedA a o) 116)).alloc (.cells (stA d) 24) = w0 at hD0 ⊢
  obtain ⟨d0, d1, d2, d3, d4, d5, d6, d7, d8, d9, d10, d11, d12, d13⟩ := deed_cells (g := W0.heap.size) (hD0.at 1 rfl)
  obtain ⟨s0, s1⟩ := two_cells (g := W0.heap.size + 1) (hD0.at 0 rfl)
  go_wp2_with fail
  refine (hD0.untie d nm hn).mono ?_
  rintro e w1 ⟨rfl, hD1⟩
  clear d0 d1 d2 d3 d4 d5 d6 d7 d8 d9 d10 d11 d12 d13 s0 s1 hD0
  generalize (untieG g d nm).2.2 = er
  generalize (untieG g d nm).2.1 = t at HE ⊢
  go_upto_region 2 with fail
  obtain ⟨u, hu⟩ : ∃ u, u = w1.heap.size := ⟨_, rfl⟩
  have hD2 := hD1.alloc (.cells (stA t) 24) hu.symm
  change Code.wp _ _ _ _ (w1.alloc (.cells (stA t) 24))
  rw [← hu]
  generalize w1.alloc (.cells (stA t) 24) = w2 at hD2 ⊢
  clear hD1 hu
  obtain ⟨d0, d1, d2, d3, d4, d5, d6, d7, d8, d9, d10, d11, d12, d13⟩ := deed_cells (g := W0.heap.size) (hD2.at 2 rfl)
  obtain ⟨s0, s1⟩ := two_cells (g := u) (hD2.at 0 rfl)
  go_wp2_with fail
  refine (hD2.drop t).mono ?_
  rintro e w3 ⟨rfl, hD3⟩
  go_wp2_with fail
  exact bodyPost_end (results_none rfl _ _ _) rfl ⟨rfl, by rw [← HE.out]; exact hD3.fin⟩

end Go.Proofs.YthcmgaibbpacfaaGreatDoor

/-
  What the statements of layer 8 need of the package's own calls; and the statements' head.
-/
namespace Go.Proofs.YthcmgaibbpacfaaGreatDoor
open Go.RowKit ExtentMath PackMath

structure ExtentHave : Prop where
  write : ∀ (d : ByteArray) (off : Int) (s : ByteArray) (w : World), d.size ≤ 2000 → s.size ≤ 2000 → IsI64 off →
    Calls Tryz.prog 129 #[.string d, .int .i64 off, .string s] w fun e w' => e = .returned (.tuple #[.string (wR d off s).1, .int .i64 (wR d off s).2]) ∧ Below w.heap.size w w'
  trunc : ∀ (d : ByteArray) (n : Int) (w : World), d.size ≤ 2000 → IsI64 n →
    Calls Tryz.prog 130 #[.string d, .int .i64 n] w fun e w' => e = .returned (.tuple #[.string (tR d n).1, .int .i64 (tR d n).2]) ∧ Below w.heap.size w w'

theorem mk_bytes (d : ByteArray) : (⟨d.data.toList.toArray⟩ : ByteArray) = d := by cases d; simp

theorem size_bytes (l : List UInt8) : (⟨l.toArray⟩ : ByteArray).size = l.length := rfl

theorem len_bytes (d : ByteArray) : d.data.toList.length = d.size := by simp

/-- What a write that is done was asked. -/
theorem wR_good {d s : ByteArray} {off : Int} (h : (wR d off s).2 = 0) : ∃ o : Nat, off = (o : Int) ∧ s.size ≠ 0 ∧ o + s.size ≤ 64 ∧ d.size ≤ 64 ∧ wR d off s = (⟨(wL d.data.toList s.data.toList o).toArray⟩, 0) := by
  unfold wR at h ⊢
  by_cases h0 : off < 0 ∨ s.size = 0
  · rw [if_pos h0] at h; exact absurd (show (1 : Int) = 0 from h) (by decide)
  · rw [if_neg h0] at h ⊢
    by_cases h1 : 64 < off ∨ 64 < s.size ∨ 64 < d.size ∨ 64 < off + (s.size : Int)
    · rw [if_pos h1] at h; exact absurd (show (11 : Int) = 0 from h) (by decide)
    · rw [if_neg h1]
      refine ⟨off.toNat, by omega, by omega, by omega, by omega, rfl⟩

theorem wR_bad {d s : ByteArray} {off : Int} (h : (wR d off s).2 ≠ 0) : (wR d off s).1 = d := by
  unfold wR at h ⊢
  by_cases h0 : off < 0 ∨ s.size = 0
  · rw [if_pos h0]
  · rw [if_neg h0] at h ⊢
    by_cases h1 : 64 < off ∨ 64 < s.size ∨ 64 < d.size ∨ 64 < off + (s.size : Int)
    · rw [if_pos h1]
    · rw [if_neg h1] at h; exact absurd rfl h

theorem wR_size (d s : ByteArray) (off : Int) (hd : d.size ≤ 2000) : (wR d off s).1.size ≤ 2000 := by
  by_cases h : (wR d off s).2 = 0
  · obtain ⟨o, _, _, h2, h3, h4⟩ := wR_good h
    rw [h4]
    show (wL d.data.toList s.data.toList o).length ≤ 2000
    rw [wL_len, len_bytes, len_bytes]
    omega
  · rw [wR_bad h]; exact hd

end Go.Proofs.YthcmgaibbpacfaaGreatDoor

/-
  The landed apply: what renames an entry, and what sets an inode's contents, or its mode.
-/
namespace Go.Proofs.YthcmgaibbpacfaaGreatDoor
open Go.RowKit StampMath GraphMath OpMath PackMath ExtentMath

section
variable {H : GraphHave} {w W0 W : World} {N : Nat → Prop} {a : Addr} {g : Gr} {L : List (Nat × Obj)}

theorem DX.target (h : DX H w W0 W N a g L) (o : Opn) (hn : o.new.size ≤ maxLen) :
    Calls Tryz.prog 128 #[.agg (deedA a o)] W fun e w' => e = .returned (.tuple #[.agg (inoA ((aimG g o).getD noIno)), .bool (aimG g o).isSome]) ∧ DX H w W0 w' N a g L := by
  obtain ⟨S, h1, _⟩ := h.gx.at'
  exact (target_code H a S g o W h1 h.ok hn).mono fun _ _ ⟨he, hb⟩ => ⟨he, h.step hb⟩

theorem DX.remove (h : DX H w W0 W N a g L) (o : Opn) (d : St) (nm : ByteArray) (hn : nm.size ≤ maxLen) :
    Calls Tryz.prog 96 #[.agg (deedA a o), .agg #[.int .i64 d.1, .int .i64 d.2], .string nm] W fun e w' => e = .returned (.tuple #[]) ∧ DX H w W0 w' N a (goneG g d nm) L :=
  (remove_code H w W _ a g o d nm h.gx hn).mono fun _ _ ⟨he, k⟩ => ⟨he, h.call k⟩

end

set_option maxRecDepth 100000 in
set_option maxHeartbeats 1600000 in
theorem rename_code (H : GraphHave) (w W0 : World) (N : Nat → Prop) (a : Addr) (g : Gr) (o : Opn) (h : GX H w W0 N a g) (hn : o.name.size ≤ maxLen) (hn2 : o.new.size ≤ maxLen) (hk : o.k = 7) :
    Calls Tryz.prog 97 #[.agg (deedA a o)] W0 (Did H w W0 N a (madeA g o)) := by
  have hE := rename_made h.ok hk
  have hD0 := (DX.start h).alloc (.cells (deedA a o) 116) rfl
  obtain ⟨gr, hgr⟩ : ∃ gr, gr = madeA g o := ⟨_, rfl⟩
  rw [← hgr] at hE ⊢
  obtain ⟨x, hx⟩ : ∃ x, x = (aimG g o).getD noIno := ⟨_, rfl⟩
  obtain ⟨b, hb⟩ : ∃ b, b = (aimG g o).isSome := ⟨_, rfl⟩
  have hcase : (b = false ∧ gr = tie1 (untieG g (oAt o) o.name).1 (oTo o) o.new (oIno o)) ∨ (b = true ∧ ((x.id.1 == o.it) = true ∧ (x.id.2 == o.ir) = true) ∧ gr = g) ∨
      (b = true ∧ ((x.id.1 == o.it) = false ∨ (x.id.2 == o.ir) = false) ∧ gr = tie1 (untieG (goneG g (oTo o) o.new) (oAt o) o.name).1 (oTo o) o.new (oIno o)) := by
    cases hq : aimG g o with
    | none =>
      rw [hq] at hE hb
      exact Or.inl ⟨hb, hE⟩
    | some y =>
      rw [hq] at hE hb hx
      have hxy : x = y := hx
      subst hxy
      dsimp only at hE
      by_cases c : x.id = oIno o
      · rw [if_pos c] at hE
        exact Or.inr (Or.inl ⟨hb, ⟨by rw [c]; exact beq_self_eq_true _, by rw [c]; exact beq_self_eq_true _⟩, hE⟩)
      · rw [if_neg c] at hE
        refine Or.inr (Or.inr ⟨hb, ?_, hE⟩)
        rw [beq_eq_false_iff_ne, beq_eq_false_iff_ne]
        by_cases h1 : x.id.1 = o.it
        · exact Or.inr fun h2 => c (Prod.ext h1 h2)
        · exact Or.inl h1
  have HC := Lib.hid hcase
  have HX := Lib.hid hx
  have HBq := Lib.hid hb
  clear hE hgr hcase hx hb h hk
  unfold Did
  go_enter Tryz.func97, Tryz.ntmps97
  go_upto_region 1 with fail
  change Code.wp _ _ _ _ (W0.alloc (.cells (deedA a o) 116))
  generalize W0.alloc (.cells (deedA a o) 116) = w0 at hD0 ⊢
  obtain ⟨d0, d1, d2, d3, d4, d5, d6, d7, d8, d9, d10, d11, d12, d13⟩ := deed_cells (g := W0.heap.size) (hD0.at 0 rfl)
  go_wp2_with fail
  refine (hD0.target o hn2).mono ?_
  rintro e w1 ⟨rfl, hD1⟩
  rw [← HX.out, ← HBq.out]
  unfold inoA
  clear d0 d1 d2 d3 d4 d5 d6 d7 d8 d9 d10 d11 d12 d13 hD0 HX HBq
  go_upto_region 2 with fail
  obtain ⟨u, hu⟩ : ∃ u, u = w1.heap.size := ⟨_, rfl⟩
  have hlu : W0.heap.size < u := by rw [hu]; exact heap_lt (hD1.at 0 rfl)
  have hD2 := hD1.alloc (.cells (inoA x) 70) hu.symm
  change Code.wp _ _ _ _ (w1.alloc (.cells (inoA x) 70))
  rw [← hu]
  generalize w1.alloc (.cells (inoA x) 70) = w2 at hD2 ⊢
  clear hD1 hu
  obtain ⟨d0, d1, d2, d3, d4, d5, d6, d7, d8, d9, d10, d11, d12, d13⟩ := deed_cells (g := W0.heap.size) (hD2.at 1 rfl)
  obtain ⟨i0, i1, i2, i3, i4, i5⟩ := ino_cells (g := u) (hD2.at 0 rfl)
  have HD2 := Lib.hid hD2
  clear hD2
  rcases HC.out with ⟨rfl, hgr⟩ | ⟨rfl, ⟨q1, q2⟩, hgr⟩ | ⟨rfl, hq, hgr⟩
  · have HR := Lib.hid hgr
    clear hgr HC i0 i1 i2 i3 i4 i5
    go_wp2_with fail
    refine (HD2.out.untie (o.pt, o.pr) o.name hn).mono ?_
    rintro e w3 ⟨rfl, hD3⟩
    clear d0 d1 d2 d3 d4 d5 d6 d7 d8 d9 d10 d11 d12 d13 HD2
    obtain ⟨d0, d1, d2, d3, d4, d5, d6, d7, d8, d9, d10, d11, d12, d13⟩ := deed_cells (g := W0.heap.size) (hD3.at 1 rfl)
    go_wp2_with fail
    refine (hD3.tie (o.tt, o.tr) o.new (o.it, o.ir) hn2).mono ?_
    rintro e w4 ⟨rfl, hD4⟩
    go_wp2_with fail
    exact bodyPost_end (results_none rfl _ _ _) rfl ⟨rfl, by rw [HR.out]; exact hD4.fin⟩
  · have HR := Lib.hid hgr
    clear hgr HC
    go_wp2_with fail
    exact bodyPost_ret (results_none rfl _ _ _) rfl ⟨rfl, by rw [HR.out]; exact HD2.out.fin⟩
  · have HR := Lib.hid hgr
    obtain ⟨r1, hr1⟩ : ∃ r1, (x.id.1 == o.it) = r1 := ⟨_, rfl⟩
    obtain ⟨r2, hr2⟩ : ∃ r2, (x.id.2 == o.ir) = r2 := ⟨_, rfl⟩
    rw [hr1, hr2] at hq
    have hr' : (r1 && r2) = false := by rcases hq with q | q <;> rw [q] <;> simp
    clear hgr HC hq
    cases r1 <;> cases r2
    case true.true => cases hr'
    all_goals
      clear hr'
      go_wp2_with fail
      refine (HD2.out.remove o (o.tt, o.tr) o.new hn2).mono ?_
      rintro e w3 ⟨rfl, hD3⟩
      clear d0 d1 d2 d3 d4 d5 d6 d7 d8 d9 d10 d11 d12 d13 i0 i1 i2 i3 i4 i5 HD2 hr1 hr2
      obtain ⟨d0, d1, d2, d3, d4, d5, d6, d7, d8, d9, d10, d11, d12, d13⟩ := deed_cells (g := W0.heap.size) (hD3.at 1 rfl)
      go_wp2_with fail
      refine (hD3.untie (o.pt, o.pr) o.name hn).mono ?_
      rintro e w4 ⟨rfl, hD4⟩
      clear d0 d1 d2 d3 d4 d5 d6 d7 d8 d9 d10 d11 d12 d13 hD3
      obtain ⟨d0, d1, d2, d3, d4, d5, d6, d7, d8, d9, d10, d11, d12, d13⟩ := deed_cells (g := W0.heap.size) (hD4.at 1 rfl)
      go_wp2_with fail
      refine (hD4.tie (o.tt, o.tr) o.new (o.it, o.ir) hn2).mono ?_
      rintro e w5 ⟨rfl, hD5⟩
      go_wp2_with fail
      exact bodyPost_end (results_none rfl _ _ _) rfl ⟨rfl, by rw [HR.out]; exact hD5.fin⟩

end Go.Proofs.YthcmgaibbpacfaaGreatDoor

/-
  The landed apply: what sets an inode's contents, or its mode.
-/
namespace Go.Proofs.YthcmgaibbpacfaaGreatDoor
open Go.RowKit StampMath GraphMath OpMath PackMath ExtentMath

theorem ino_store5 {W : World} {u : Nat} {x : Ino} {T : TypeId} (h : W.heap[u]? = some (.cells (inoA x) T (0, 0))) (d : ByteArray) : (W.setCell ⟨u, 5, none⟩ (.string d)).heap[u]? = some (.cells (inoA { x with data := d }) T (0, 0)) := by
  rw [heap_setCell_same _ _ _ _ _ _ h]
  rfl

theorem ino_store4 {W : World} {u : Nat} {x : Ino} {T : TypeId} (h : W.heap[u]? = some (.cells (inoA x) T (0, 0))) (m : Int) : (W.setCell ⟨u, 4, none⟩ (.int .i64 m)).heap[u]? = some (.cells (inoA { x with mode := m }) T (0, 0)) := by
  rw [heap_setCell_same _ _ _ _ _ _ h]
  rfl

theorem but_cell (W : World) (u i : Nat) (v : Value) : But (fun k => k = u) W (W.setCell ⟨u, i, none⟩ v) := (But.refl (fun k => k = u) W).setCell (p := ⟨u, i, none⟩) (Or.inl rfl) v

set_option maxRecDepth 100000 in
set_option maxHeartbeats 1600000 in
theorem set_code' (H : GraphHave) (XH : ExtentHave) (w W0 : World) (N : Nat → Prop) (a : Addr) (g : Gr) (o : Opn) (h : GX H w W0 N a g) (hf : g.fine) (hw : whyA g o = 0) (ho : OpFit o) (hk : 8 ≤ o.k) (hk10 : o.k ≤ 10) :
    Calls Tryz.prog 98 #[.agg (deedA a o)] W0 (Did H w W0 N a (madeA g o)) := by
  have hm := whyA_may hw
  have hid := kept_id h.ok hw hk hk10
  have hD0 := (DX.start h).alloc (.cells (deedA a o) 116) rfl
  have hsz := inoG_small hf (oIno o)
  obtain ⟨x, hx⟩ : ∃ x, x = inoG g (oIno o) := ⟨_, rfl⟩
  have hcase : ((o.k == 8) = true ∧ o.data.size ≤ 2000 ∧ madeA g o = (setG g (oIno o) x.mode (wR x.data o.off o.data).1).1) ∨ ((o.k == 8) = false ∧ (o.k == 9) = true ∧ madeA g o = (setG g (oIno o) x.mode (tR x.data o.off).1).1) ∨
      ((o.k == 8) = false ∧ (o.k == 9) = false ∧ (o.k == 10) = true ∧ madeA g o = (setG g (oIno o) o.off x.data).1) := by
    rw [hx]
    rcases show o.k = 8 ∨ o.k = 9 ∨ o.k = 10 by omega with q | q | q
    · exact Or.inl ⟨by rw [q]; rfl, by have := data_small hm q; omega, write_made hf hm q⟩
    · exact Or.inr (Or.inl ⟨by rw [q]; rfl, by rw [q]; rfl, trunc_made hf hm q⟩)
    · exact Or.inr (Or.inr ⟨by rw [q]; rfl, by rw [q]; rfl, by rw [q]; rfl, mode_made q⟩)
  rw [← hx] at hid hsz
  have hxd : x.data.size ≤ 2000 := by omega
  have HC := Lib.hid hcase
  have HX := Lib.hid hx
  have HF := Lib.hid ho
  have HI := Lib.hid hid
  generalize madeA g o = gr at HC ⊢
  clear hcase hx h hf hw hk hk10 hm hsz ho hid
  unfold Did
  go_enter Tryz.func98, Tryz.ntmps98
  go_upto_region 1 with fail
  change Code.wp _ _ _ _ (W0.alloc (.cells (deedA a o) 116))
  generalize W0.alloc (.cells (deedA a o) 116) = w0 at hD0 ⊢
  obtain ⟨d0, d1, d2, d3, d4, d5, d6, d7, d8, d9, d10, d11, d12, d13⟩ := deed_cells (g := W0.heap.size) (hD0.at 0 rfl)
  go_wp2_with fail
  refine (hD0.get (o.it, o.ir)).mono ?_
  rintro e w1 ⟨rfl, hD1⟩
  rw [show (getG g (o.it, o.ir)).getD noIno = x from HX.out.symm]
  unfold inoA
  generalize (getG g (o.it, o.ir)).isSome = is
  clear d0 d1 d2 d3 d4 d5 d6 d7 d8 d9 d10 d11 d12 d13 hD0 HX
  go_upto_region 2 with fail
  obtain ⟨u, hu⟩ : ∃ u, u = w1.heap.size := ⟨_, rfl⟩
  have hlu : W0.heap.size < u := by rw [hu]; exact heap_lt (hD1.at 0 rfl)
  have hD2 := hD1.alloc (.cells (inoA x) 70) hu.symm
  change Code.wp _ _ _ _ (w1.alloc (.cells (inoA x) 70))
  rw [← hu]
  generalize w1.alloc (.cells (inoA x) 70) = w2 at hD2 ⊢
  clear hD1 hu
  obtain ⟨d0, d1, d2, d3, d4, d5, d6, d7, d8, d9, d10, d11, d12, d13⟩ := deed_cells (g := W0.heap.size) (hD2.at 1 rfl)
  obtain ⟨i0, i1, i2, i3, i4, i5⟩ := ino_cells (g := u) (hD2.at 0 rfl)
  obtain ⟨f0, f1, f2, f3, f4, f5⟩ := ino_free (g := u) (hD2.at 0 rfl)
  have HD2 := Lib.hid hD2
  clear hD2
  rcases HC.out with ⟨k8, hds, hgr⟩ | ⟨k8, k9, hgr⟩ | ⟨k8, k9, k10, hgr⟩
  · have HR := Lib.hid hgr
    clear hgr HC
    go_wp2_with fail
    refine (XH.write x.data o.off o.data _ hxd hds HF.out.ok.off).mono ?_
    rintro e w3 ⟨rfl, hb3⟩
    have hD3 := HD2.out.step hb3
    obtain ⟨dd, hdd⟩ : ∃ dd, dd = (wR x.data o.off o.data).1 := ⟨_, rfl⟩
    generalize (wR x.data o.off o.data).2 = er
    rw [← hdd] at HR ⊢
    clear d0 d1 d2 d3 d4 d5 d6 d7 d8 d9 d10 d11 d12 d13 i0 i1 i2 i3 i4 i5 f0 f1 f2 f3 f4 f5 HD2 hb3 hdd
    obtain ⟨i0, i1, i2, i3, i4, i5⟩ := ino_cells (g := u) (hD3.at 0 rfl)
    obtain ⟨f0, f1, f2, f3, f4, f5⟩ := ino_free (g := u) (hD3.at 0 rfl)
    have hD4 := hD3.put (fun p hp => by simp at hp; rw [hp]; dsimp only; omega) (but_cell w3 u 5 (.string dd)) (ino_store5 (hD3.at 0 rfl) dd)
    have HD4 := Lib.hid hD4
    clear hD3 hD4
    go_upto_region 9 with fail
    change Code.wp _ _ _ _ (w3.setCell ⟨u, 5, none⟩ (.string dd))
    generalize w3.setCell ⟨u, 5, none⟩ (.string dd) = w4 at HD4 ⊢
    clear i0 i1 i2 i3 i4 i5 f0 f1 f2 f3 f4 f5
    obtain ⟨d0, d1, d2, d3, d4, d5, d6, d7, d8, d9, d10, d11, d12, d13⟩ := deed_cells (g := W0.heap.size) (HD4.out.at 1 rfl)
    obtain ⟨i0, i1, i2, i3, i4, i5⟩ := ino_cells (g := u) (HD4.out.at 0 rfl)
    dsimp only at i0 i1 i2 i3 i4 i5
    go_wp2_with fail
    refine (HD4.out.set x.id x.mode dd).mono ?_
    rintro e w5 ⟨rfl, hD5⟩
    rw [HI.out] at hD5
    go_wp2_with fail
    exact bodyPost_end (results_none rfl _ _ _) rfl ⟨rfl, by rw [HR.out]; exact hD5.fin⟩
  · have HR := Lib.hid hgr
    clear hgr HC
    go_wp2_with fail
    refine (XH.trunc x.data o.off _ hxd HF.out.ok.off).mono ?_
    rintro e w3 ⟨rfl, hb3⟩
    have hD3 := HD2.out.step hb3
    obtain ⟨dd, hdd⟩ : ∃ dd, dd = (tR x.data o.off).1 := ⟨_, rfl⟩
    generalize (tR x.data o.off).2 = er
    rw [← hdd] at HR ⊢
    clear d0 d1 d2 d3 d4 d5 d6 d7 d8 d9 d10 d11 d12 d13 i0 i1 i2 i3 i4 i5 f0 f1 f2 f3 f4 f5 HD2 hb3 hdd
    obtain ⟨i0, i1, i2, i3, i4, i5⟩ := ino_cells (g := u) (hD3.at 0 rfl)
    obtain ⟨f0, f1, f2, f3, f4, f5⟩ := ino_free (g := u) (hD3.at 0 rfl)
    have hD4 := hD3.put (fun p hp => by simp at hp; rw [hp]; dsimp only; omega) (but_cell w3 u 5 (.string dd)) (ino_store5 (hD3.at 0 rfl) dd)
    have HD4 := Lib.hid hD4
    clear hD3 hD4
    go_upto_region 9 with fail
    change Code.wp _ _ _ _ (w3.setCell ⟨u, 5, none⟩ (.string dd))
    generalize w3.setCell ⟨u, 5, none⟩ (.string dd) = w4 at HD4 ⊢
    clear i0 i1 i2 i3 i4 i5 f0 f1 f2 f3 f4 f5
    obtain ⟨d0, d1, d2, d3, d4, d5, d6, d7, d8, d9, d10, d11, d12, d13⟩ := deed_cells (g := W0.heap.size) (HD4.out.at 1 rfl)
    obtain ⟨i0, i1, i2, i3, i4, i5⟩ := ino_cells (g := u) (HD4.out.at 0 rfl)
    dsimp only at i0 i1 i2 i3 i4 i5
    go_wp2_with fail
    refine (HD4.out.set x.id x.mode dd).mono ?_
    rintro e w5 ⟨rfl, hD5⟩
    rw [HI.out] at hD5
    go_wp2_with fail
    exact bodyPost_end (results_none rfl _ _ _) rfl ⟨rfl, by rw [HR.out]; exact hD5.fin⟩
  · have HR := Lib.hid hgr
    have hD4 := HD2.out.put (fun p hp => by simp at hp; rw [hp]; dsimp only; omega) (but_cell w2 u 4 (.int .i64 o.off)) (ino_store4 (HD2.out.at 0 rfl) o.off)
    have HD4 := Lib.hid hD4
    clear hgr HC HD2 hD4
    go_upto_region 9 with fail
    change Code.wp _ _ _ _ (w2.setCell ⟨u, 4, none⟩ (.int .i64 o.off))
    generalize w2.setCell ⟨u, 4, none⟩ (.int .i64 o.off) = w4 at HD4 ⊢
    clear d0 d1 d2 d3 d4 d5 d6 d7 d8 d9 d10 d11 d12 d13 i0 i1 i2 i3 i4 i5 f0 f1 f2 f3 f4 f5
    obtain ⟨d0, d1, d2, d3, d4, d5, d6, d7, d8, d9, d10, d11, d12, d13⟩ := deed_cells (g := W0.heap.size) (HD4.out.at 1 rfl)
    obtain ⟨i0, i1, i2, i3, i4, i5⟩ := ino_cells (g := u) (HD4.out.at 0 rfl)
    dsimp only at i0 i1 i2 i3 i4 i5
    go_wp2_with fail
    refine (HD4.out.set x.id o.off x.data).mono ?_
    rintro e w5 ⟨rfl, hD5⟩
    rw [HI.out] at hD5
    go_wp2_with fail
    exact bodyPost_end (results_none rfl _ _ _) rfl ⟨rfl, by rw [HR.out]; exact hD5.fin⟩

end Go.Proofs.YthcmgaibbpacfaaGreatDoor

/-
  The landed apply: Why of what may not be, and of no graph; what changes; Do.
-/
namespace Go.Proofs.YthcmgaibbpacfaaGreatDoor
open Go.RowKit StampMath GraphMath OpMath PackMath ExtentMath

set_option maxRecDepth 100000 in
theorem whyBad (a : Addr) (g : Gr) (o : Opn) (w : World) [Tab w] (hm : mayO o = false) (hf : OpFit o) :
    Calls Tryz.prog 62 #[.pointer (some a), .agg (opA o)] w fun e w' => e = .returned (.int .i64 (whyA g o)) ∧ Below w.heap.size w w' := by
  have hw : whyA g o = 1 := by unfold whyA; rw [if_pos hm]
  rw [hw]
  have HM : Hid (∀ (W : World) [Tab W], Calls Tryz.prog 93 #[.agg #[.int .i64 o.st, .int .i64 o.sr, .int .i64 o.k, .int .i64 o.pt, .int .i64 o.pr, .int .i64 o.it, .int .i64 o.ir, .int .i64 o.tt, .int .i64 o.tr, .string o.name, .string o.new, .int .i64 o.off, .string o.data]] W fun e w' => e = .returned (.bool false) ∧ Below W.heap.size W w') := Lib.hid fun W _ => by rw [← hm]; exact opMay_any o W hf.ok hf.name hf.new hf.data
  have hS0 : Held w [(w.heap.size, .cells (opA o) 26 (0, 0))] (w.alloc (.cells (opA o) 26)) := (Held.refl w).alloc (.cells (opA o) 26) rfl
  have i0 : Tab (w.alloc (.cells (opA o) 26)) := inferInstance
  clear hm hf hw
  unfold opA
  go_enter Tryz.func62, Tryz.ntmps62
  go_upto_region 1 with fail
  change Code.wp _ _ _ _ (w.alloc (.cells (opA o) 26))
  generalize w.alloc (.cells (opA o) 26) = w0 at hS0 i0 ⊢
  obtain ⟨e0, e1, e2, e3, e4, e5, e6, e7, e8, e9, e10, e11, e12⟩ := op_cells (o := o) (g := w.heap.size) (hS0.at 0 rfl)
  go_wp2_with fail
  refine (HM.out _).mono ?_
  rintro e w1 ⟨rfl, hb1⟩
  have hS1 := hS0.step hb1
  clear hS0 hb1 HM
  go_wp2_with fail
  go_ret
  exact ⟨rfl, hS1.below⟩

set_option maxRecDepth 100000 in
theorem whyNil (o : Opn) (w : World) :
    Calls Tryz.prog 62 #[.pointer none, .agg (opA o)] w fun e w' => e = .returned (.int .i64 1) ∧ Below w.heap.size w w' := by
  unfold opA
  go_enter Tryz.func62, Tryz.ntmps62
  go_wp2_with fail
  go_ret
  exact ⟨rfl, (Below.refl _ _).alloc (Nat.le_refl _) _⟩

theorem why_code (H : GraphHave) (a : Addr) (S : Nat → Prop) (g : Gr) (o : Opn) (w : World) [Tab w] (h : H.rep w S a g) (hg : g.ok) (hf : OpFit o) :
    Calls Tryz.prog 62 #[.pointer (some a), .agg (opA o)] w fun e w' => e = .returned (.int .i64 (whyA g o)) ∧ Below w.heap.size w w' := by
  cases hm : mayO o with
  | true => exact whyGood H a S g o w h hg hm hf
  | false => exact whyBad a g o w hm hf

section
variable {H : GraphHave} {w W0 W : World} {N : Nat → Prop} {a : Addr} {g : Gr} {L : List (Nat × Obj)}

theorem DX.did (h : DX H w W0 W N a g L) {f : FuncId} {args : Array Value} {g' : Gr} (k : Calls Tryz.prog f args W (Did H w W (fun i => N i ∨ ∃ p ∈ L, p.1 = i) a g')) :
    Calls Tryz.prog f args W fun e w' => e = .returned (.tuple #[]) ∧ DX H w W0 w' N a g' L := k.mono fun _ _ ⟨he, q⟩ => ⟨he, h.call q⟩

end

set_option maxRecDepth 100000 in
set_option maxHeartbeats 3200000 in
theorem change_code (H : GraphHave) (XH : ExtentHave) (w W0 : World) (N : Nat → Prop) (a : Addr) (g : Gr) (o : Opn) (h : GX H w W0 N a g) (hf : g.fine) (hw : whyA g o = 0) (ho : OpFit o) :
    Calls Tryz.prog 63 #[.agg (deedA a o)] W0 (Did H w W0 N a (madeA g o)) := by
  have hm := whyA_may hw
  obtain ⟨p1, p2, _⟩ := mayO_parts hm
  have hD0 := (DX.start h).alloc (.cells (deedA a o) 116) rfl
  have HP := Lib.hid (And.intro hf (And.intro hw ho))
  clear hf hw ho hm h
  unfold Did
  rcases show o.k = 1 ∨ o.k = 2 ∨ o.k = 3 ∨ o.k = 4 ∨ o.k = 5 ∨ o.k = 6 ∨ o.k = 7 ∨ o.k = 8 ∨ o.k = 9 ∨ o.k = 10 by omega with q | q | q | q | q | q | q | q | q | q
  · -- kind 1
    have HK : Hid (∀ W, DX H w W0 W N a g [(W0.heap.size, .cells (deedA a o) 116)] → Calls Tryz.prog 95 #[.agg (deedA a o)] W fun e w' => e = .returned (.tuple #[]) ∧ DX H w W0 w' N a (madeA g o) [(W0.heap.size, .cells (deedA a o) 116)]) := Lib.hid fun W hW => hW.did (add_code H w W _ a g o hW.gx HP.out.2.2.name (by omega) (by omega))
    have k1 : (o.k == 1) = true := by rw [q]; rfl
    have k2 : (o.k == 2) = false := by rw [q]; rfl
    have k3 : (o.k == 3) = false := by rw [q]; rfl
    have k4 : (o.k == 4) = false := by rw [q]; rfl
    have k5 : (o.k == 5) = false := by rw [q]; rfl
    have k6 : (o.k == 6) = false := by rw [q]; rfl
    have k7 : (o.k == 7) = false := by rw [q]; rfl
    have k8 : (o.k == 8) = false := by rw [q]; rfl
    have k9 : (o.k == 9) = false := by rw [q]; rfl
    have k10 : (o.k == 10) = false := by rw [q]; rfl
    clear q p1 p2 HP
    go_enter Tryz.func63, Tryz.ntmps63
    go_upto_region 1 with fail
    change Code.wp _ _ _ _ (W0.alloc (.cells (deedA a o) 116))
    generalize W0.alloc (.cells (deedA a o) 116) = w0 at hD0 ⊢
    obtain ⟨d0, d1, d2, d3, d4, d5, d6, d7, d8, d9, d10, d11, d12, d13⟩ := deed_cells (g := W0.heap.size) (hD0.at 0 rfl)
    go_wp2_with fail
    refine (HK.out _ hD0).mono ?_
    rintro e w1 ⟨rfl, hD1⟩
    go_wp2_with fail
    exact bodyPost_end (results_none rfl _ _ _) rfl ⟨rfl, hD1.fin⟩
  · -- kind 2
    have HK : Hid (∀ W, DX H w W0 W N a g [(W0.heap.size, .cells (deedA a o) 116)] → Calls Tryz.prog 95 #[.agg (deedA a o)] W fun e w' => e = .returned (.tuple #[]) ∧ DX H w W0 w' N a (madeA g o) [(W0.heap.size, .cells (deedA a o) 116)]) := Lib.hid fun W hW => hW.did (add_code H w W _ a g o hW.gx HP.out.2.2.name (by omega) (by omega))
    have k1 : (o.k == 1) = false := by rw [q]; rfl
    have k2 : (o.k == 2) = true := by rw [q]; rfl
    have k3 : (o.k == 3) = false := by rw [q]; rfl
    have k4 : (o.k == 4) = false := by rw [q]; rfl
    have k5 : (o.k == 5) = false := by rw [q]; rfl
    have k6 : (o.k == 6) = false := by rw [q]; rfl
    have k7 : (o.k == 7) = false := by rw [q]; rfl
    have k8 : (o.k == 8) = false := by rw [q]; rfl
    have k9 : (o.k == 9) = false := by rw [q]; rfl
    have k10 : (o.k == 10) = false := by rw [q]; rfl
    clear q p1 p2 HP
    go_enter Tryz.func63, Tryz.ntmps63
    go_upto_region 1 with fail
    change Code.wp _ _ _ _ (W0.alloc (.cells (deedA a o) 116))
    generalize W0.alloc (.cells (deedA a o) 116) = w0 at hD0 ⊢
    obtain ⟨d0, d1, d2, d3, d4, d5, d6, d7, d8, d9, d10, d11, d12, d13⟩ := deed_cells (g := W0.heap.size) (hD0.at 0 rfl)
    go_wp2_with fail
    refine (HK.out _ hD0).mono ?_
    rintro e w1 ⟨rfl, hD1⟩
    go_wp2_with fail
    exact bodyPost_end (results_none rfl _ _ _) rfl ⟨rfl, hD1.fin⟩
  · -- kind 3
    have HK : Hid (∀ W, DX H w W0 W N a g [(W0.heap.size, .cells (deedA a o) 116)] → Calls Tryz.prog 95 #[.agg (deedA a o)] W fun e w' => e = .returned (.tuple #[]) ∧ DX H w W0 w' N a (madeA g o) [(W0.heap.size, .cells (deedA a o) 116)]) := Lib.hid fun W hW => hW.did (add_code H w W _ a g o hW.gx HP.out.2.2.name (by omega) (by omega))
    have k1 : (o.k == 1) = false := by rw [q]; rfl
    have k2 : (o.k == 2) = false := by rw [q]; rfl
    have k3 : (o.k == 3) = true := by rw [q]; rfl
    have k4 : (o.k == 4) = false := by rw [q]; rfl
    have k5 : (o.k == 5) = false := by rw [q]; rfl
    have k6 : (o.k == 6) = false := by rw [q]; rfl
    have k7 : (o.k == 7) = false := by rw [q]; rfl
    have k8 : (o.k == 8) = false := by rw [q]; rfl
    have k9 : (o.k == 9) = false := by rw [q]; rfl
    have k10 : (o.k == 10) = false := by rw [q]; rfl
    clear q p1 p2 HP
    go_enter Tryz.func63, Tryz.ntmps63
    go_upto_region 1 with fail
    change Code.wp _ _ _ _ (W0.alloc (.cells (deedA a o) 116))
    generalize W0.alloc (.cells (deedA a o) 116) = w0 at hD0 ⊢
    obtain ⟨d0, d1, d2, d3, d4, d5, d6, d7, d8, d9, d10, d11, d12, d13⟩ := deed_cells (g := W0.heap.size) (hD0.at 0 rfl)
    go_wp2_with fail
    refine (HK.out _ hD0).mono ?_
    rintro e w1 ⟨rfl, hD1⟩
    go_wp2_with fail
    exact bodyPost_end (results_none rfl _ _ _) rfl ⟨rfl, hD1.fin⟩
  · -- kind 4
    have HE := Lib.hid (link_made (g := g) q)
    have HK : Hid (∀ W, DX H w W0 W N a g [(W0.heap.size, .cells (deedA a o) 116)] → Calls Tryz.prog 55 #[.pointer (some a), .agg #[.int .i64 o.pt, .int .i64 o.pr, .string o.name, .int .i64 o.it, .int .i64 o.ir]] W fun e w' => e = .returned (.int .i64 (tieG (nameB o.name) g ⟨oAt o, o.name, oIno o⟩).2) ∧ DX H w W0 w' N a (tieG (nameB o.name) g ⟨oAt o, o.name, oIno o⟩).1 [(W0.heap.size, .cells (deedA a o) 116)]) := Lib.hid fun W hW => hW.tie (o.pt, o.pr) o.name (o.it, o.ir) HP.out.2.2.name
    generalize (tieG (nameB o.name) g ⟨oAt o, o.name, oIno o⟩).2 = er at HK
    have k1 : (o.k == 1) = false := by rw [q]; rfl
    have k2 : (o.k == 2) = false := by rw [q]; rfl
    have k3 : (o.k == 3) = false := by rw [q]; rfl
    have k4 : (o.k == 4) = true := by rw [q]; rfl
    have k5 : (o.k == 5) = false := by rw [q]; rfl
    have k6 : (o.k == 6) = false := by rw [q]; rfl
    have k7 : (o.k == 7) = false := by rw [q]; rfl
    have k8 : (o.k == 8) = false := by rw [q]; rfl
    have k9 : (o.k == 9) = false := by rw [q]; rfl
    have k10 : (o.k == 10) = false := by rw [q]; rfl
    clear q p1 p2 HP
    go_enter Tryz.func63, Tryz.ntmps63
    go_upto_region 1 with fail
    change Code.wp _ _ _ _ (W0.alloc (.cells (deedA a o) 116))
    generalize W0.alloc (.cells (deedA a o) 116) = w0 at hD0 ⊢
    obtain ⟨d0, d1, d2, d3, d4, d5, d6, d7, d8, d9, d10, d11, d12, d13⟩ := deed_cells (g := W0.heap.size) (hD0.at 0 rfl)
    go_wp2_with fail
    refine (HK.out _ hD0).mono ?_
    rintro e w1 ⟨rfl, hD1⟩
    go_wp2_with fail
    exact bodyPost_end (results_none rfl _ _ _) rfl ⟨rfl, by rw [HE.out]; exact hD1.fin⟩
  · -- kind 5
    have HE := Lib.hid (take_made (g := g) (show o.k = 5 ∨ o.k = 6 by omega))
    have HK : Hid (∀ W, DX H w W0 W N a g [(W0.heap.size, .cells (deedA a o) 116)] → Calls Tryz.prog 96 #[.agg (deedA a o), .agg #[.int .i64 o.pt, .int .i64 o.pr], .string o.name] W fun e w' => e = .returned (.tuple #[]) ∧ DX H w W0 w' N a (goneG g (oAt o) o.name) [(W0.heap.size, .cells (deedA a o) 116)]) := Lib.hid fun W hW => hW.did (remove_code H w W _ a g o (o.pt, o.pr) o.name hW.gx HP.out.2.2.name)
    have k1 : (o.k == 1) = false := by rw [q]; rfl
    have k2 : (o.k == 2) = false := by rw [q]; rfl
    have k3 : (o.k == 3) = false := by rw [q]; rfl
    have k4 : (o.k == 4) = false := by rw [q]; rfl
    have k5 : (o.k == 5) = true := by rw [q]; rfl
    have k6 : (o.k == 6) = false := by rw [q]; rfl
    have k7 : (o.k == 7) = false := by rw [q]; rfl
    have k8 : (o.k == 8) = false := by rw [q]; rfl
    have k9 : (o.k == 9) = false := by rw [q]; rfl
    have k10 : (o.k == 10) = false := by rw [q]; rfl
    clear q p1 p2 HP
    go_enter Tryz.func63, Tryz.ntmps63
    go_upto_region 1 with fail
    change Code.wp _ _ _ _ (W0.alloc (.cells (deedA a o) 116))
    generalize W0.alloc (.cells (deedA a o) 116) = w0 at hD0 ⊢
    obtain ⟨d0, d1, d2, d3, d4, d5, d6, d7, d8, d9, d10, d11, d12, d13⟩ := deed_cells (g := W0.heap.size) (hD0.at 0 rfl)
    go_wp2_with fail
    refine (HK.out _ hD0).mono ?_
    rintro e w1 ⟨rfl, hD1⟩
    go_wp2_with fail
    exact bodyPost_end (results_none rfl _ _ _) rfl ⟨rfl, by rw [HE.out]; exact hD1.fin⟩
  · -- kind 6
    have HE := Lib.hid (take_made (g := g) (show o.k = 5 ∨ o.k = 6 by omega))
    have HK : Hid (∀ W, DX H w W0 W N a g [(W0.heap.size, .cells (deedA a o) 116)] → Calls Tryz.prog 96 #[.agg (deedA a o), .agg #[.int .i64 o.pt, .int .i64 o.pr], .string o.name] W fun e w' => e = .returned (.tuple #[]) ∧ DX H w W0 w' N a (goneG g (oAt o) o.name) [(W0.heap.size, .cells (deedA a o) 116)]) := Lib.hid fun W hW => hW.did (remove_code H w W _ a g o (o.pt, o.pr) o.name hW.gx HP.out.2.2.name)
    have k1 : (o.k == 1) = false := by rw [q]; rfl
    have k2 : (o.k == 2) = false := by rw [q]; rfl
    have k3 : (o.k == 3) = false := by rw [q]; rfl
    have k4 : (o.k == 4) = false := by rw [q]; rfl
    have k5 : (o.k == 5) = false := by rw [q]; rfl
    have k6 : (o.k == 6) = true := by rw [q]; rfl
    have k7 : (o.k == 7) = false := by rw [q]; rfl
    have k8 : (o.k == 8) = false := by rw [q]; rfl
    have k9 : (o.k == 9) = false := by rw [q]; rfl
    have k10 : (o.k == 10) = false := by rw [q]; rfl
    clear q p1 p2 HP
    go_enter Tryz.func63, Tryz.ntmps63
    go_upto_region 1 with fail
    change Code.wp _ _ _ _ (W0.alloc (.cells (deedA a o) 116))
    generalize W0.alloc (.cells (deedA a o) 116) = w0 at hD0 ⊢
    obtain ⟨d0, d1, d2, d3, d4, d5, d6, d7, d8, d9, d10, d11, d12, d13⟩ := deed_cells (g := W0.heap.size) (hD0.at 0 rfl)
    go_wp2_with fail
    refine (HK.out _ hD0).mono ?_
    rintro e w1 ⟨rfl, hD1⟩
    go_wp2_with fail
    exact bodyPost_end (results_none rfl _ _ _) rfl ⟨rfl, by rw [HE.out]; exact hD1.fin⟩
  · -- kind 7
    have HK : Hid (∀ W, DX H w W0 W N a g [(W0.heap.size, .cells (deedA a o) 116)] → Calls Tryz.prog 97 #[.agg (deedA a o)] W fun e w' => e = .returned (.tuple #[]) ∧ DX H w W0 w' N a (madeA g o) [(W0.heap.size, .cells (deedA a o) 116)]) := Lib.hid fun W hW => hW.did (rename_code H w W _ a g o hW.gx HP.out.2.2.name HP.out.2.2.new q)
    have k1 : (o.k == 1) = false := by rw [q]; rfl
    have k2 : (o.k == 2) = false := by rw [q]; rfl
    have k3 : (o.k == 3) = false := by rw [q]; rfl
    have k4 : (o.k == 4) = false := by rw [q]; rfl
    have k5 : (o.k == 5) = false := by rw [q]; rfl
    have k6 : (o.k == 6) = false := by rw [q]; rfl
    have k7 : (o.k == 7) = true := by rw [q]; rfl
    have k8 : (o.k == 8) = false := by rw [q]; rfl
    have k9 : (o.k == 9) = false := by rw [q]; rfl
    have k10 : (o.k == 10) = false := by rw [q]; rfl
    clear q p1 p2 HP
    go_enter Tryz.func63, Tryz.ntmps63
    go_upto_region 1 with fail
    change Code.wp _ _ _ _ (W0.alloc (.cells (deedA a o) 116))
    generalize W0.alloc (.cells (deedA a o) 116) = w0 at hD0 ⊢
    obtain ⟨d0, d1, d2, d3, d4, d5, d6, d7, d8, d9, d10, d11, d12, d13⟩ := deed_cells (g := W0.heap.size) (hD0.at 0 rfl)
    go_wp2_with fail
    refine (HK.out _ hD0).mono ?_
    rintro e w1 ⟨rfl, hD1⟩
    go_wp2_with fail
    exact bodyPost_end (results_none rfl _ _ _) rfl ⟨rfl, hD1.fin⟩
  · -- kind 8
    have HK : Hid (∀ W, DX H w W0 W N a g [(W0.heap.size, .cells (deedA a o) 116)] → Calls Tryz.prog 98 #[.agg (deedA a o)] W fun e w' => e = .returned (.tuple #[]) ∧ DX H w W0 w' N a (madeA g o) [(W0.heap.size, .cells (deedA a o) 116)]) := Lib.hid fun W hW => hW.did (set_code' H XH w W _ a g o hW.gx HP.out.1 HP.out.2.1 HP.out.2.2 (by omega) (by omega))
    have k1 : (o.k == 1) = false := by rw [q]; rfl
    have k2 : (o.k == 2) = false := by rw [q]; rfl
    have k3 : (o.k == 3) = false := by rw [q]; rfl
    have k4 : (o.k == 4) = false := by rw [q]; rfl
    have k5 : (o.k == 5) = false := by rw [q]; rfl
    have k6 : (o.k == 6) = false := by rw [q]; rfl
    have k7 : (o.k == 7) = false := by rw [q]; rfl
    have k8 : (o.k == 8) = true := by rw [q]; rfl
    have k9 : (o.k == 9) = false := by rw [q]; rfl
    have k10 : (o.k == 10) = false := by rw [q]; rfl
    clear q p1 p2 HP
    go_enter Tryz.func63, Tryz.ntmps63
    go_upto_region 1 with fail
    change Code.wp _ _ _ _ (W0.alloc (.cells (deedA a o) 116))
    generalize W0.alloc (.cells (deedA a o) 116) = w0 at hD0 ⊢
    obtain ⟨d0, d1, d2, d3, d4, d5, d6, d7, d8, d9, d10, d11, d12, d13⟩ := deed_cells (g := W0.heap.size) (hD0.at 0 rfl)
    go_wp2_with fail
    refine (HK.out _ hD0).mono ?_
    rintro e w1 ⟨rfl, hD1⟩
    go_wp2_with fail
    exact bodyPost_end (results_none rfl _ _ _) rfl ⟨rfl, hD1.fin⟩
  · -- kind 9
    have HK : Hid (∀ W, DX H w W0 W N a g [(W0.heap.size, .cells (deedA a o) 116)] → Calls Tryz.prog 98 #[.agg (deedA a o)] W fun e w' => e = .returned (.tuple #[]) ∧ DX H w W0 w' N a (madeA g o) [(W0.heap.size, .cells (deedA a o) 116)]) := Lib.hid fun W hW => hW.did (set_code' H XH w W _ a g o hW.gx HP.out.1 HP.out.2.1 HP.out.2.2 (by omega) (by omega))
    have k1 : (o.k == 1) = false := by rw [q]; rfl
    have k2 : (o.k == 2) = false := by rw [q]; rfl
    have k3 : (o.k == 3) = false := by rw [q]; rfl
    have k4 : (o.k == 4) = false := by rw [q]; rfl
    have k5 : (o.k == 5) = false := by rw [q]; rfl
    have k6 : (o.k == 6) = false := by rw [q]; rfl
    have k7 : (o.k == 7) = false := by rw [q]; rfl
    have k8 : (o.k == 8) = false := by rw [q]; rfl
    have k9 : (o.k == 9) = true := by rw [q]; rfl
    have k10 : (o.k == 10) = false := by rw [q]; rfl
    clear q p1 p2 HP
    go_enter Tryz.func63, Tryz.ntmps63
    go_upto_region 1 with fail
    change Code.wp _ _ _ _ (W0.alloc (.cells (deedA a o) 116))
    generalize W0.alloc (.cells (deedA a o) 116) = w0 at hD0 ⊢
    obtain ⟨d0, d1, d2, d3, d4, d5, d6, d7, d8, d9, d10, d11, d12, d13⟩ := deed_cells (g := W0.heap.size) (hD0.at 0 rfl)
    go_wp2_with fail
    refine (HK.out _ hD0).mono ?_
    rintro e w1 ⟨rfl, hD1⟩
    go_wp2_with fail
    exact bodyPost_end (results_none rfl _ _ _) rfl ⟨rfl, hD1.fin⟩
  · -- kind 10
    have HK : Hid (∀ W, DX H w W0 W N a g [(W0.heap.size, .cells (deedA a o) 116)] → Calls Tryz.prog 98 #[.agg (deedA a o)] W fun e w' => e = .returned (.tuple #[]) ∧ DX H w W0 w' N a (madeA g o) [(W0.heap.size, .cells (deedA a o) 116)]) := Lib.hid fun W hW => hW.did (set_code' H XH w W _ a g o hW.gx HP.out.1 HP.out.2.1 HP.out.2.2 (by omega) (by omega))
    have k1 : (o.k == 1) = false := by rw [q]; rfl
    have k2 : (o.k == 2) = false := by rw [q]; rfl
    have k3 : (o.k == 3) = false := by rw [q]; rfl
    have k4 : (o.k == 4) = false := by rw [q]; rfl
    have k5 : (o.k == 5) = false := by rw [q]; rfl
    have k6 : (o.k == 6) = false := by rw [q]; rfl
    have k7 : (o.k == 7) = false := by rw [q]; rfl
    have k8 : (o.k == 8) = false := by rw [q]; rfl
    have k9 : (o.k == 9) = false := by rw [q]; rfl
    have k10 : (o.k == 10) = true := by rw [q]; rfl
    clear q p1 p2 HP
    go_enter Tryz.func63, Tryz.ntmps63
    go_upto_region 1 with fail
    change Code.wp _ _ _ _ (W0.alloc (.cells (deedA a o) 116))
    generalize W0.alloc (.cells (deedA a o) 116) = w0 at hD0 ⊢
    obtain ⟨d0, d1, d2, d3, d4, d5, d6, d7, d8, d9, d10, d11, d12, d13⟩ := deed_cells (g := W0.heap.size) (hD0.at 0 rfl)
    go_wp2_with fail
    refine (HK.out _ hD0).mono ?_
    rintro e w1 ⟨rfl, hD1⟩
    go_wp2_with fail
    exact bodyPost_end (results_none rfl _ _ _) rfl ⟨rfl, hD1.fin⟩

/-- The same world with nothing in it. -/
def bare (w : World) : World := { w with heap := #[] }

theorem bare_gx {H : GraphHave} {a : Addr} {S : Nat → Prop} {g : Gr} {w : World} (h : H.rep w S a g) (hg : g.ok) : GX H (bare w) w (fun i => i < w.heap.size ∧ ¬ S i) a g :=
  ⟨⟨S, h, fun _ _ => Nat.zero_le _, fun _ hi => hi.2⟩, hg, fun _ hi => hi.1, ⟨rfl, rfl, rfl, Nat.zero_le _, fun k hk => absurd hk (Nat.not_lt_zero k)⟩⟩

theorem gx_bare {H : GraphHave} {a : Addr} {S : Nat → Prop} {g : Gr} {w w' : World} (h : GX H (bare w) w' (fun i => i < w.heap.size ∧ ¬ S i) a g ∧ Same (fun i => i < w.heap.size ∧ ¬ S i) w w') :
    ∃ S', H.rep w' S' a g ∧ (∀ i, S' i → S i ∨ w.heap.size ≤ i) ∧ But S w w' := by
  obtain ⟨⟨⟨S', h1, _, h3⟩, _, _, h6⟩, h7, h8⟩ := h
  refine ⟨S', h1, fun i hi => ?_, ⟨h6.os, h6.tape, h6.output, h7, fun k hk hn => h8 k ⟨hk, hn⟩⟩⟩
  by_cases q : i < w.heap.size
  · by_cases z : S i
    · exact Or.inl z
    · exact absurd hi (h3 i ⟨q, z⟩)
  · exact Or.inr (by omega)

set_option maxRecDepth 100000 in
set_option maxHeartbeats 1600000 in
theorem do_core (H : GraphHave) (XH : ExtentHave) (w W0 : World) (N : Nat → Prop) (a : Addr) (g : Gr) (o : Opn) [Tab W0] (h : GX H w W0 N a g) (hf : g.fine) (ho : OpFit o) :
    Calls Tryz.prog 27 #[.pointer (some a), .agg (opA o)] W0 fun e w' => e = .returned (.int .i64 (doA g o).2) ∧ GX H w w' N a (doA g o).1 ∧ Same N W0 w' := by
  have hD0 := (DX.start h).alloc (.cells (opA o) 26) rfl
  have i0 : Tab (W0.alloc (.cells (opA o) 26)) := inferInstance
  have HW : Hid (∀ (W : World) [Tab W], DX H w W0 W N a g [(W0.heap.size, .cells (opA o) 26)] → Calls Tryz.prog 62 #[.pointer (some a), .agg #[.int .i64 o.st, .int .i64 o.sr, .int .i64 o.k, .int .i64 o.pt, .int .i64 o.pr, .int .i64 o.it, .int .i64 o.ir, .int .i64 o.tt, .int .i64 o.tr, .string o.name, .string o.new, .int .i64 o.off, .string o.data]] W fun e w' => e = .returned (.int .i64 (whyA g o)) ∧ DX H w W0 w' N a g [(W0.heap.size, .cells (opA o) 26)]) := Lib.hid fun W _ hW => by
    obtain ⟨S, h1, _⟩ := hW.gx.at'
    exact (why_code H a S g o W h1 hW.ok ho).mono fun _ _ ⟨he, hb⟩ => ⟨he, hW.step hb⟩
  by_cases hw : whyA g o = 0
  · have HC : Hid (∀ (W : World), DX H w W0 W N a g [(W0.heap.size, .cells (opA o) 26)] → Calls Tryz.prog 63 #[.agg #[.pointer (some a), .int .i64 o.st, .int .i64 o.sr, .int .i64 o.k, .int .i64 o.pt, .int .i64 o.pr, .int .i64 o.it, .int .i64 o.ir, .int .i64 o.tt, .int .i64 o.tr, .string o.name, .string o.new, .int .i64 o.off, .string o.data]] W fun e w' => e = .returned (.tuple #[]) ∧ DX H w W0 w' N a (madeA g o) [(W0.heap.size, .cells (opA o) 26)]) := Lib.hid fun W hW => hW.did (change_code H XH w W _ a g o hW.gx hf hw ho)
    have hdo : doA g o = (madeA g o, 0) := by unfold doA; rw [if_pos hw]
    rw [hdo]
    rw [hw] at HW
    clear hdo hw hf ho h
    unfold opA
    go_enter Tryz.func27, Tryz.ntmps27
    go_upto_region 1 with fail
    change Code.wp _ _ _ _ (W0.alloc (.cells (opA o) 26))
    generalize W0.alloc (.cells (opA o) 26) = w0 at hD0 i0 ⊢
    obtain ⟨e0, e1, e2, e3, e4, e5, e6, e7, e8, e9, e10, e11, e12⟩ := op_cells (o := o) (g := W0.heap.size) (hD0.at 0 rfl)
    go_wp2_with fail
    refine (HW.out _ hD0).mono ?_
    rintro e w1 ⟨rfl, hD1⟩
    clear hD0 i0 HW e0 e1 e2 e3 e4 e5 e6 e7 e8 e9 e10 e11 e12
    obtain ⟨e0, e1, e2, e3, e4, e5, e6, e7, e8, e9, e10, e11, e12⟩ := op_cells (o := o) (g := W0.heap.size) (hD1.at 0 rfl)
    go_wp2_with fail
    refine (HC.out _ hD1).mono ?_
    rintro e w2 ⟨rfl, hD2⟩
    go_wp2_with fail
    go_ret
    exact ⟨rfl, hD2.fin⟩
  · have hdo : doA g o = (g, whyA g o) := by unfold doA; rw [if_neg hw]
    rw [hdo]
    have hz : (whyA g o == 0) = false := beq_eq_false_iff_ne.2 hw
    generalize whyA g o = bad at HW hz ⊢
    clear hdo hf ho h hw
    unfold opA
    go_enter Tryz.func27, Tryz.ntmps27
    go_upto_region 1 with fail
    change Code.wp _ _ _ _ (W0.alloc (.cells (opA o) 26))
    generalize W0.alloc (.cells (opA o) 26) = w0 at hD0 i0 ⊢
    obtain ⟨e0, e1, e2, e3, e4, e5, e6, e7, e8, e9, e10, e11, e12⟩ := op_cells (o := o) (g := W0.heap.size) (hD0.at 0 rfl)
    go_wp2_with fail
    refine (HW.out _ hD0).mono ?_
    rintro e w1 ⟨rfl, hD1⟩
    go_wp2_with fail
    go_ret
    exact ⟨rfl, hD1.fin⟩

set_option maxRecDepth 100000 in
theorem do_nil (o : Opn) (w : World) :
    Calls Tryz.prog 27 #[.pointer none, .agg (opA o)] w fun e w' => e = .returned (.int .i64 1) ∧ Below w.heap.size w w' := by
  have HW : Hid (∀ W : World, Calls Tryz.prog 62 #[.pointer none, .agg #[.int .i64 o.st, .int .i64 o.sr, .int .i64 o.k, .int .i64 o.pt, .int .i64 o.pr, .int .i64 o.it, .int .i64 o.ir, .int .i64 o.tt, .int .i64 o.tr, .string o.name, .string o.new, .int .i64 o.off, .string o.data]] W fun e w' => e = .returned (.int .i64 1) ∧ Below W.heap.size W w') := Lib.hid (whyNil o)
  have hb0 : Below w.heap.size w (w.alloc (.cells (opA o) 26)) := (Below.refl _ _).alloc (Nat.le_refl _) _
  unfold opA at hb0 ⊢
  go_enter Tryz.func27, Tryz.ntmps27
  go_wp2_with fail
  refine (HW.out _).mono ?_
  rintro e w1 ⟨rfl, hb1⟩
  have hb2 := below_step hb0 hb1
  go_wp2_with fail
  go_ret
  exact ⟨rfl, hb2⟩

end Go.Proofs.YthcmgaibbpacfaaGreatDoor
