/-
  The landed audit's questions about one inode, or one entry.
-/
import Derived.Test.YtoobmkkmomiigaaAuditCodeA
namespace Go.Proofs.Ytoobmkkmomiigaa
open Go.RowKit StampMath GraphMath OpMath

/-- May an inode's Id and kind be none? -/
def noneB (x : Ino) : Bool := !(mayB x.id.1 x.id.2 && decide (1 ≤ x.kind ∧ x.kind ≤ 3))

/-- May there be so many bytes of data in an inode of a kind? -/
def dataB (k : Int) (z : Int) : Bool := if k = 1 then decide (z = 0) else if k = 2 then decide (z ≤ 64) else if k = 3 then decide (1 ≤ z ∧ z ≤ 32) else true

/-- Are an inode's mode or data out of their bounds? -/
def muchB (x : Ino) : Bool := !(decide (0 ≤ x.mode ∧ x.mode ≤ 4095) && dataB x.kind x.data.size)

set_option maxRecDepth 100000 in
theorem isNone_code (x : Ino) (w : World) :
    Calls Try.prog 41 #[.agg (inoA x)] w fun e w' => e = .returned (.bool (noneB x)) ∧ Below w.heap.size w w' := by
  obtain ⟨b, hb⟩ : ∃ b, b = noneB x := ⟨_, rfl⟩
  rw [← hb]
  unfold noneB at hb
  have hb0 : Below w.heap.size w (w.alloc (.cells (inoA x) 31)) := (Below.refl _ _).alloc (Nat.le_refl _) _
  have he0 := heap_alloc_new w (.cells (inoA x) 31)
  obtain ⟨⟨i1, i2⟩, xk, xl, xm, xd⟩ := x
  dsimp only at hb
  obtain ⟨m, hm⟩ : ∃ m, m = mayB i1 i2 := ⟨_, rfl⟩
  have HM : Hid (∀ W : World, Calls Try.prog 62 #[.agg #[.int .i64 i1, .int .i64 i2]] W fun e w' => e = .returned (.bool m) ∧ Below W.heap.size W w') := fun W => by rw [hm]; exact may_any i1 i2 W
  rw [← hm] at hb
  clear hm
  have HE := Lib.hid he0
  clear he0
  unfold inoA
  go_enter Try.func41, Try.ntmps41
  go_wp2_with fail
  refine (HM.out _).mono ?_
  rintro e w2 ⟨rfl, hb2⟩
  have he2 := (hb2.block _ (heap_lt HE.out)).trans HE.out
  have hB := below_step hb0 hb2
  clear hb0 hb2 HE HM
  obtain ⟨x0, x1, x2, x3, x4, x5⟩ := ino_cells he2
  dsimp only at x2
  cases m with
  | false =>
    have hb' : b = true := by rw [hb]; rfl
    clear hb
    subst hb'
    go_wp2_with fail
    go_ret
    exact ⟨rfl, hB⟩
  | true =>
    rw [Bool.true_and] at hb
    by_cases h1 : 1 ≤ xk
    · by_cases h3 : xk ≤ 3
      · rw [decide_eq_true ⟨h1, h3⟩] at hb
        subst hb
        have q1 : decide (xk < 1) = false := decide_eq_false (by omega)
        have q3 : decide (xk > 3) = false := decide_eq_false (by omega)
        go_wp2_with fail
        go_ret
        exact ⟨by first | rfl | simp <;> omega, hB⟩
      · rw [decide_eq_false (fun q => h3 q.2)] at hb
        subst hb
        have q1 : decide (xk < 1) = false := decide_eq_false (by omega)
        have q3 : decide (xk > 3) = true := decide_eq_true (by omega)
        go_wp2_with fail
        go_ret
        exact ⟨by first | rfl | simp <;> omega, hB⟩
    · rw [decide_eq_false (fun q => h1 q.1)] at hb
      subst hb
      have q1 : xk < 1 := by omega
      go_wp2_with fail
      go_ret
      exact ⟨by first | rfl | simp <;> omega, hB⟩

set_option maxRecDepth 100000 in
theorem nameless_code (x : Ent) (hs : x.name.size ≤ maxLen) (w : World) :
    Calls Try.prog 43 #[.agg (entA x)] w fun e w' => e = .returned (.bool (!nameB x.name)) ∧ Below w.heap.size w w' := by
  have hb0 : Below w.heap.size w (w.alloc (.cells (entA x) 33)) := (Below.refl _ _).alloc (Nat.le_refl _) _
  obtain ⟨⟨d1, d2⟩, nm, ⟨i1, i2⟩⟩ := x
  obtain ⟨b, hb⟩ : ∃ b, b = nameB nm := ⟨_, rfl⟩
  have HN : Hid (∀ W : World, Calls Try.prog 64 #[.string nm] W fun e w' => e = .returned (.bool b) ∧ W = w') := fun W => by rw [hb]; exact name_any _ hs W
  dsimp only
  rw [← hb]
  clear hb hs
  unfold entA
  go_enter Try.func43, Try.ntmps43
  go_wp2_with fail
  refine (HN.out _).mono ?_
  rintro e w2 ⟨rfl, rfl⟩
  go_wp2_with fail
  go_ret
  exact ⟨rfl, hb0⟩

set_option maxRecDepth 100000 in
theorem mayData_code (k z : Int) (w : World) :
    Calls Try.prog 65 #[.int .i64 k, .int .i64 z] w fun e w' => e = .returned (.bool (dataB k z)) ∧ w = w' := by
  obtain ⟨b, hb⟩ : ∃ b, b = dataB k z := ⟨_, rfl⟩
  rw [← hb]
  unfold dataB at hb
  by_cases k1 : k = 1
  · rw [if_pos k1] at hb
    have q1 : (k == 1) = true := beq_iff_eq.2 k1
    have hk : (z == 0) = b := by rw [hb]; exact beq_dec _ _
    clear hb k1
    go_enter Try.func65, Try.ntmps65
    go_wp2_with fail
    go_ret
    exact ⟨by first | rfl | rw [← hk], rfl⟩
  rw [if_neg k1] at hb
  have q1 : (k == 1) = false := beq_eq_false_iff_ne.2 k1
  clear k1
  by_cases k2 : k = 2
  · rw [if_pos k2] at hb
    have q2 : (k == 2) = true := beq_iff_eq.2 k2
    clear k2
    subst hb
    go_enter Try.func65, Try.ntmps65
    go_wp2_with fail
    go_ret
    exact ⟨rfl, rfl⟩
  rw [if_neg k2] at hb
  have q2 : (k == 2) = false := beq_eq_false_iff_ne.2 k2
  clear k2
  by_cases k3 : k = 3
  · rw [if_pos k3] at hb
    have q3 : (k == 3) = true := beq_iff_eq.2 k3
    clear k3
    by_cases h1 : 1 ≤ z
    · by_cases h6 : z ≤ 32
      · rw [decide_eq_true ⟨h1, h6⟩] at hb
        subst hb
        go_enter Try.func65, Try.ntmps65
        go_wp2_with fail
        go_ret
        exact ⟨by first | rfl | simp [h1, h6], rfl⟩
      · rw [decide_eq_false (fun q => h6 q.2)] at hb
        subst hb
        go_enter Try.func65, Try.ntmps65
        go_wp2_with fail
        go_ret
        exact ⟨by first | rfl | simp [h1, h6], rfl⟩
    · rw [decide_eq_false (fun q => h1 q.1)] at hb
      subst hb
      go_enter Try.func65, Try.ntmps65
      go_wp2_with fail
      go_ret
      exact ⟨by first | rfl | simp [h1], rfl⟩
  rw [if_neg k3] at hb
  have q3 : (k == 3) = false := beq_eq_false_iff_ne.2 k3
  clear k3
  subst hb
  go_enter Try.func65, Try.ntmps65
  go_wp2_with fail
  go_ret
  exact ⟨rfl, rfl⟩

set_option maxRecDepth 100000 in
theorem tooMuch_code (x : Ino) (hs : x.data.size ≤ maxLen) (w : World) :
    Calls Try.prog 48 #[.agg (inoA x)] w fun e w' => e = .returned (.bool (muchB x)) ∧ Below w.heap.size w w' := by
  obtain ⟨b, hb⟩ : ∃ b, b = muchB x := ⟨_, rfl⟩
  rw [← hb]
  unfold muchB at hb
  have hb0 : Below w.heap.size w (w.alloc (.cells (inoA x) 31)) := (Below.refl _ _).alloc (Nat.le_refl _) _
  obtain ⟨⟨i1, i2⟩, xk, xl, xm, xd⟩ := x
  dsimp only at hb hs
  have hs' : xd.size ≤ 9223372036854775807 := by unfold maxLen at hs; omega
  clear hs
  obtain ⟨d, hd⟩ : ∃ d, d = dataB xk xd.size := ⟨_, rfl⟩
  have HM : Hid (∀ W : World, Calls Try.prog 65 #[.int .i64 xk, .int .i64 (xd.size : Int)] W fun e w' => e = .returned (.bool d) ∧ W = w') := fun W => by rw [hd]; exact mayData_code xk _ W
  rw [← hd] at hb
  clear hd
  unfold inoA
  by_cases h1 : 0 ≤ xm
  · by_cases h3 : xm ≤ 4095
    · rw [decide_eq_true ⟨h1, h3⟩, Bool.true_and] at hb
      subst hb
      have q1 : decide (xm < 0) = false := decide_eq_false (by omega)
      have q3 : decide (xm > 4095) = false := decide_eq_false (by omega)
      go_enter Try.func48, Try.ntmps48
      go_wp2_with fail
      refine (HM.out _).mono ?_
      rintro e w2 ⟨rfl, rfl⟩
      go_wp2_with fail
      go_ret
      exact ⟨rfl, hb0⟩
    · rw [decide_eq_false (fun q => h3 q.2), Bool.false_and] at hb
      subst hb
      have q1 : decide (xm < 0) = false := decide_eq_false (by omega)
      have q3 : xm > 4095 := by omega
      go_enter Try.func48, Try.ntmps48
      go_wp2_with fail
      go_ret
      exact ⟨by first | rfl | simp <;> omega, hb0⟩
  · rw [decide_eq_false (fun q => h1 q.1), Bool.false_and] at hb
    subst hb
    have q1 : xm < 0 := by omega
    go_enter Try.func48, Try.ntmps48
    go_wp2_with fail
    go_ret
    exact ⟨by first | rfl | simp <;> omega, hb0⟩

/-! ### the closures -/

/-- In the block of a captured variable lie the lists. -/
abbrev listsA (A A' : Option Addr) (n c m d bk bl : Nat) : Array Value := #[.slice A n c, .slice A' m d, .map (some bk), .map (some bl)]

theorem lists_cells {w : World} {g : Nat} {A A' : Option Addr} {n c m d bk bl : Nat} {T : TypeId} (h : w.heap[g]? = some (.cells (listsA A A' n c m d bk bl) T (0, 0))) :
    w.cell? ⟨g, 0, none⟩ = some (.slice A n c) ∧ w.cell? ⟨g, 1, none⟩ = some (.slice A' m d) ∧ w.cell? ⟨g, 2, none⟩ = some (.map (some bk)) ∧ w.cell? ⟨g, 3, none⟩ = some (.map (some bl)) :=
  ⟨cell_of_row _ _ 0 _ _ (0, 0) h, cell_of_row _ _ 1 _ _ (0, 0) h, cell_of_row _ _ 2 _ _ (0, 0) h, cell_of_row _ _ 3 _ _ (0, 0) h⟩

/-- Is an entry lost? -/
def lostB (N : List Ino) (x : Ent) : Bool := !(decide (kindI N x.dir = some 1) && (kindI N x.ino).isSome)

set_option maxRecDepth 100000 in
theorem lostClo_code (A A' : Option Addr) (n c m d bk bl g : Nat) (N : List Ino) (E : List Ent) (x : Ent) (w : World) (hg : w.heap[g]? = some (.cells (listsA A A' n c m d bk bl) 44 (0, 0))) (h : Looked w bk bl N E) :
    Calls Try.prog 44 #[.agg (entA x), .pointer (some ⟨g, 0, none⟩)] w fun e w' => e = .returned (.bool (lostB N x)) ∧ Below w.heap.size w w' := by
  have HD : Hid (∀ W : World, Below w.heap.size w W → Calls Try.prog 31 #[.agg #[.slice A n c, .slice A' m d, .map (some bk), .map (some bl)], .agg #[.int .i64 x.dir.1, .int .i64 x.dir.2]] W fun e w' => e = .returned (.bool (decide (kindI N x.dir = some 1))) ∧ Below W.heap.size W w') := fun W hW => isDir_code A A' n c m d bk bl N E x.dir W (h.below hW)
  have HI : Hid (∀ W : World, Below w.heap.size w W → Calls Try.prog 29 #[.agg #[.slice A n c, .slice A' m d, .map (some bk), .map (some bl)], .agg #[.int .i64 x.ino.1, .int .i64 x.ino.2]] W fun e w' => e = .returned (.bool (kindI N x.ino).isSome) ∧ Below W.heap.size W w') := fun W hW => has_code A A' n c m d bk bl N E x.ino W (h.below hW)
  unfold lostB
  generalize decide (kindI N x.dir = some 1) = p at HD ⊢
  generalize (kindI N x.ino).isSome = q at HI ⊢
  clear h
  have hlt := heap_lt hg
  have hb0 : Below w.heap.size w (w.alloc (.cells (entA x) 33)) := (Below.refl _ _).alloc (Nat.le_refl _) _
  have he0 := heap_alloc_new w (.cells (entA x) 33)
  have hg0 := (hb0.block _ hlt).trans hg
  have HE := Lib.hid he0
  have HG := Lib.hid hg0
  obtain ⟨s0, s1, s2, s3⟩ := lists_cells hg
  clear he0 hg0 hg
  obtain ⟨⟨d1, d2⟩, nm, ⟨i1, i2⟩⟩ := x
  unfold entA
  go_enter Try.func44, Try.ntmps44
  go_wp2_with fail
  refine (HD.out _ hb0).mono ?_
  rintro e w2 ⟨rfl, hb2⟩
  cases p with
  | false =>
    go_wp2_with fail
    go_ret
    exact ⟨rfl, below_step hb0 hb2⟩
  | true =>
    have he2 := (hb2.block _ (heap_lt HE.out)).trans HE.out
    have hg2 := (hb2.block _ (heap_lt HG.out)).trans HG.out
    have hB := below_step hb0 hb2
    clear hb0 hb2 s0 s1 s2 s3
    obtain ⟨s0, s1, s2, s3⟩ := lists_cells hg2
    obtain ⟨e0, e1, e2, e3, e4⟩ := ent_cells he2
    clear he2 hg2
    go_wp2_with fail
    refine (HI.out _ hB).mono ?_
    rintro e w3 ⟨rfl, hb3⟩
    go_wp2_with fail
    go_ret
    exact ⟨rfl, below_step hB hb3⟩

set_option maxRecDepth 100000 in
theorem countClo_code (A A' : Option Addr) (n c m d bk bl g : Nat) (N : List Ino) (E : List Ent) (x : Ino) (w : World) (hg : w.heap[g]? = some (.cells (listsA A A' n c m d bk bl) 44 (0, 0))) (h : Looked w bk bl N E) :
    Calls Try.prog 45 #[.agg (inoA x), .pointer (some ⟨g, 0, none⟩)] w fun e w' => e = .returned (.bool (!decide (x.links = (linksE E x.id : Int)))) ∧ Below w.heap.size w w' := by
  have hb0 : Below w.heap.size w (w.alloc (.cells (inoA x) 31)) := (Below.refl _ _).alloc (Nat.le_refl _) _
  have he0 := heap_alloc_new w (.cells (inoA x) 31)
  have hg0 := (hb0.block _ (heap_lt hg)).trans hg
  have hL := fun y => (h.below (below_step hb0 (later_below _ y))).link x.id
  obtain ⟨b, hb⟩ : ∃ b, b = decide (x.links = (linksE E x.id : Int)) := ⟨_, rfl⟩
  rw [← hb]
  clear h hg
  obtain ⟨⟨i1, i2⟩, xk, xl, xm, xd⟩ := x
  dsimp only at hb hL
  unfold inoA
  generalize (linksE E (i1, i2) : Int) = k at hb hL
  have hv : (xl != k) = !b := by rw [hb, ← beq_dec]; rfl
  clear hb
  go_enter Try.func45, Try.ntmps45
  go_upto_region 1 with fail
  change Code.wp _ _ _ _ (w.alloc (.cells (inoA ⟨(i1, i2), xk, xl, xm, xd⟩) 31))
  generalize w.alloc (.cells (inoA ⟨(i1, i2), xk, xl, xm, xd⟩) 31) = w1 at he0 hb0 hg0 hL ⊢
  obtain ⟨x0, x1, x2, x3, x4, x5⟩ := ino_cells he0
  obtain ⟨s0, s1, s2, s3⟩ := lists_cells hg0
  have l0 := later_cell x0
  have l1 := later_cell x1
  have l3 := later_cell x3
  have k3 := later_cell s3
  clear x0 x1 x2 x3 x4 x5 s0 s1 s2 s3 he0 hg0
  have HB := Lib.hid hb0
  clear hb0
  refine wp_region_later (by kernel_rfl) (by kernel_rfl) ?_
  repeat (go_big_quiet_step (fail))
  refine wpQuiet_nil ?_
  intro _ hw'
  obtain ⟨y, rfl⟩ := hw'
  clear l0 l1 l3 k3 hL
  go_wp2_with fail
  go_ret
  exact ⟨by first | rfl | rw [← hv], below_step HB.out (later_below w1 y)⟩

set_option maxRecDepth 100000 in
theorem linkClo_code (A A' : Option Addr) (n c m d bk bl g : Nat) (N : List Ino) (E : List Ent) (x : Ino) (w : World) (hg : w.heap[g]? = some (.cells (listsA A A' n c m d bk bl) 44 (0, 0))) (h : Looked w bk bl N E) :
    Calls Try.prog 46 #[.agg (inoA x), .pointer (some ⟨g, 0, none⟩)] w fun e w' => e = .returned (.bool (!manyB x (linksE E x.id : Nat))) ∧ Below w.heap.size w w' := by
  have hb0 : Below w.heap.size w (w.alloc (.cells (inoA x) 31)) := (Below.refl _ _).alloc (Nat.le_refl _) _
  have he0 := heap_alloc_new w (.cells (inoA x) 31)
  have hg0 := (hb0.block _ (heap_lt hg)).trans hg
  have hL := fun y => (h.below (below_step hb0 (later_below _ y))).link x.id
  have hM := fun W => mayLinks_code x (linksE E x.id : Nat) W
  obtain ⟨b, hb⟩ : ∃ b, b = manyB x (linksE E x.id : Nat) := ⟨_, rfl⟩
  rw [← hb]
  rw [← hb] at hM
  clear h hg hb
  obtain ⟨⟨i1, i2⟩, xk, xl, xm, xd⟩ := x
  dsimp only at hL hM
  unfold inoA at hM ⊢
  generalize (linksE E (i1, i2) : Int) = k at hM hL
  go_enter Try.func46, Try.ntmps46
  go_upto_region 1 with fail
  change Code.wp _ _ _ _ (w.alloc (.cells (inoA ⟨(i1, i2), xk, xl, xm, xd⟩) 31))
  generalize w.alloc (.cells (inoA ⟨(i1, i2), xk, xl, xm, xd⟩) 31) = w1 at he0 hb0 hg0 hL ⊢
  obtain ⟨x0, x1, x2, x3, x4, x5⟩ := ino_cells he0
  obtain ⟨s0, s1, s2, s3⟩ := lists_cells hg0
  have l0 := later_cell x0
  have l1 := later_cell x1
  have l2 := later_cell x2
  have l3 := later_cell x3
  have l4 := later_cell x4
  have l5 := later_cell x5
  have k3 := later_cell s3
  clear x0 x1 x2 x3 x4 x5 s0 s1 s2 s3 he0 hg0
  have HB := Lib.hid hb0
  have HMl := Lib.hid fun (y : World) => later_call (hM (later w1 y))
  clear hb0 hM
  refine wp_region_later (by kernel_rfl) (by kernel_rfl) ?_
  repeat (go_big_quiet_step (first | (with_reducible exact HMl.out _)))
  refine wpQuiet_nil ?_
  intro _ hw'
  obtain ⟨y, rfl⟩ := hw'
  clear l0 l1 l2 l3 l4 l5 k3 hL
  go_wp2_with fail
  go_ret
  exact ⟨rfl, below_step HB.out (later_below w1 y)⟩

end Go.Proofs.Ytoobmkkmomiigaa
