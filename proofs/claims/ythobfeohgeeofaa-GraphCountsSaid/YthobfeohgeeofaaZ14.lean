/-
  The order of entries and of inodes as a sort's own: it needs no program.
-/
import Derived.Test.YthobfeohgeeofaaZ02
import Derived.Sort.Statements
import Derived.Shelf.SlSortCmp.Insertion
import Derived.Test.YthobfeohgeeofaaZ13
import Derived.Test.YthobfeohgeeofaaZ03
import Derived.Shelf.SlGeneric
import Derived.Shelf.SlLaysF0
import Derived.Shelf.SlLaysW
import Derived.Test.YthobfeohgeeofaaProg
import Derived.Test.YthobfeohgeeofaaZ01
import Derived.Shelf.SlSortCmp.WholeK
import Derived.Shelf.SlSortCmp.NoneTotal
namespace Go.Proofs.Ythobfeohgeeofaa.GraphMath
open StampMath

instance entThere : Inhabited Ent := ⟨⟨(0, 0), ⟨#[]⟩, (0, 0)⟩⟩
instance inoThere : Inhabited Ino := ⟨noIno⟩

theorem sorted_only {α : Type} {r : α → α → Bool} (irr : ∀ x, r x x = false) (tr : ∀ x y z, r x y = true → r y z = true → r x z = true) {l E : List α} (hE : E.Pairwise fun a b => r a b = true) (hp : l.Perm E) (hs : l.Pairwise fun x y => r y x = false) : l = E := by
  have asym : ∀ x y, r x y = true → r y x = false := fun x y h => by
    cases hq : r y x with
    | false => rfl
    | true => have := tr x y x h hq; rw [irr] at this; cases this
  refine List.Perm.eq_of_pairwise (le := fun x y => r y x = false) (fun a b ha hb h1 h2 => ?_) hs (hE.imp fun h => asym _ _ h) hp
  have all : ∀ x ∈ E, ∀ y ∈ E, x = y ∨ r x y = true ∨ r y x = true := by
    intro x hx y hy
    obtain ⟨i, hi, rfl⟩ := List.getElem_of_mem hx
    obtain ⟨j, hj, rfl⟩ := List.getElem_of_mem hy
    have q := List.pairwise_iff_getElem.1 hE
    rcases Nat.lt_trichotomy i j with h | h | h
    · exact Or.inr (Or.inl (q i j hi hj h))
    · subst h; exact Or.inl rfl
    · exact Or.inr (Or.inr (q j i hj hi h))
  rcases all a (hp.mem_iff.1 ha) b hb with h | h | h
  · exact h
  · rw [h] at h2; cases h2
  · rw [h] at h1; cases h1

theorem bytesLess_eq : ∀ (x y : List UInt8), Op.bytesLess x y = decide (x < y)
  | [], [] => by simp [Op.bytesLess]
  | _ :: _, [] => by simp [Op.bytesLess]
  | [], _ :: _ => by simp [Op.bytesLess]
  | a :: x, b :: y => by
    rw [Op.bytesLess, bytesLess_eq x y]
    simp only [List.cons_lt_cons_iff]
    by_cases h1 : a < b <;> by_cases h2 : a = b <;> by_cases h3 : x < y <;> simp [h1, h2, h3]

theorem namesLess_eq (a b : ByteArray) : Op.bytesLess a.toList b.toList = decide (a.data.toList < b.data.toList) := by
  rw [bytesLess_eq, ByteArray.toList_eq, ByteArray.toList_eq]

/-- What package cmp's Compare tells of two strings. -/
def cmpB (a b : List UInt8) : Int := if a < b then -1 else if a = b then 0 else 1

theorem cmpB_lt (a b : List UInt8) : cmpB a b < 0 ↔ a < b := by
  unfold cmpB
  by_cases h : a < b
  · simp [h]
  · rw [if_neg h]
    by_cases h2 : a = b <;> simp [h, h2]

/-- What comparing two entries tells. -/
def aheadI (x y : Ent) : Int := if cmp x.dir.1 x.dir.2 y.dir.1 y.dir.2 = 0 then cmpB x.name.data.toList y.name.data.toList else cmp x.dir.1 x.dir.2 y.dir.1 y.dir.2

theorem cmp_lt (a b : St) : cmp a.1 a.2 b.1 b.2 < 0 ↔ lessS a b = true := by
  show (if lessS a b = true then (-1 : Int) else if lessS b a = true then 1 else 0) < 0 ↔ _
  by_cases h : lessS a b = true
  · simp [h]
  · rw [if_neg h]
    by_cases h2 : lessS b a = true <;> simp [h, h2]

theorem cmp_zero (a b : St) : cmp a.1 a.2 b.1 b.2 = 0 ↔ a = b := by
  show (if lessS a b = true then (-1 : Int) else if lessS b a = true then 1 else 0) = 0 ↔ _
  constructor
  · intro h
    by_cases h1 : lessS a b = true
    · rw [if_pos h1] at h; omega
    · rw [if_neg h1] at h
      by_cases h2 : lessS b a = true
      · rw [if_pos h2] at h; omega
      · by_cases he : a = b
        · exact he
        · exact absurd (lessS_total (Bool.eq_false_iff.2 h1) he) h2
  · rintro rfl
    rw [if_neg (by rw [lessS_irrefl]; simp), if_neg (by rw [lessS_irrefl]; simp)]

theorem aheadI_lt (x y : Ent) : ltOf aheadI x y = aheadE x y := by
  unfold ltOf aheadI
  rw [Bool.eq_iff_iff, decide_eq_true_iff, aheadE_iff]
  by_cases h : x.dir = y.dir
  · rw [if_pos ((cmp_zero _ _).2 h), cmpB_lt, h, lessS_irrefl]
    simp
  · rw [if_neg (fun q => h ((cmp_zero _ _).1 q)), cmp_lt]
    simp [h]

theorem aheadE_irrefl (x : Ent) : aheadE x x = false := by
  rw [Bool.eq_false_iff]
  intro h
  rcases (aheadE_iff x x).1 h with q | ⟨_, q⟩
  · rw [lessS_irrefl] at q; cases q
  · exact bytes_irrefl _ q

theorem aheadE_ntrans {x y z : Ent} (h1 : aheadE x y = false) (h2 : aheadE y z = false) : aheadE x z = false := by
  rw [Bool.eq_false_iff]
  intro h
  by_cases he : x.dir = y.dir ∧ x.name = y.name
  · rw [aheadE_iff, he.1, he.2, ← aheadE_iff, h2] at h
    cases h
  · have := aheadE_trans (aheadE_total h1 he) h
    rw [h2] at this
    cases this

theorem swo_ents : Sort.SWO (ltOf aheadI) where
  irrefl x := by rw [aheadI_lt]; exact aheadE_irrefl x
  trans x y z h1 h2 := by rw [aheadI_lt] at *; exact aheadE_trans h1 h2
  ntrans x y z h1 h2 := by rw [aheadI_lt] at *; exact aheadE_ntrans h1 h2

/-- What comparing two inodes tells. -/
def inoI (x y : Ino) : Int := cmp x.id.1 x.id.2 y.id.1 y.id.2

theorem inoI_lt (x y : Ino) : ltOf inoI x y = lessS x.id y.id := by
  unfold ltOf inoI
  rw [Bool.eq_iff_iff, decide_eq_true_iff, cmp_lt]

theorem swo_inos : Sort.SWO (ltOf inoI) where
  irrefl x := by rw [inoI_lt]; exact lessS_irrefl _
  trans x y z h1 h2 := by rw [inoI_lt] at *; exact lessS_trans h1 h2
  ntrans x y z h1 h2 := by
    rw [inoI_lt] at *
    rw [Bool.eq_false_iff]
    intro h
    by_cases he : x.id = y.id
    · rw [he, h2] at h; cases h
    · have := lessS_trans (lessS_total h1 he) h
      rw [h2] at this; cases this

theorem sorted_ents {l E : List Ent} (hE : E.Pairwise fun a b => aheadE a b = true) (hp : l.Perm E) (hs : l.Pairwise fun x y => ltOf aheadI y x = false) : l = E :=
  sorted_only aheadE_irrefl (fun _ _ _ => aheadE_trans) hE hp (hs.imp fun h => by rwa [aheadI_lt] at h)

theorem sorted_inos {l I : List Ino} (hI : I.Pairwise fun a b => lessS a.id b.id = true) (hp : l.Perm I) (hs : l.Pairwise fun x y => ltOf inoI y x = false) : l = I :=
  sorted_only (r := fun a b => lessS a.id b.id) (fun _ => lessS_irrefl _) (fun _ _ _ => lessS_trans) hI hp (hs.imp fun h => by rwa [inoI_lt] at h)

end Go.Proofs.Ythobfeohgeeofaa.GraphMath

/-
  The walk of the landed order of entries, with what it leaves.
-/
namespace Go.Proofs.Ythobfeohgeeofaa
open Go.RowKit StampMath GraphMath

theorem nanStr (s : ByteArray) (w : World) : Calls Try.prog 88 #[.string s] w fun e w' => e = .returned (.bool false) ∧ w = w' := by
  go_enter Try.func88, Try.ntmps88
  go_wp2_with fail
  go_ret
  exact ⟨by simp, rfl⟩

set_option maxHeartbeats 400000 in
theorem compareStr (x y : ByteArray) (w : World) : Calls Try.prog 71 #[.string x, .string y] w fun e w' => e = .returned (.int .i64 (cmpB x.data.toList y.data.toList)) ∧ w = w' := by
  have hcase : (Op.bytesLess x.toList y.toList = true ∧ cmpB x.data.toList y.data.toList = -1) ∨ (Op.bytesLess x.toList y.toList = false ∧ (x.toList == y.toList) = true ∧ cmpB x.data.toList y.data.toList = 0) ∨ (Op.bytesLess x.toList y.toList = false ∧ (x.toList == y.toList) = false ∧ cmpB x.data.toList y.data.toList = 1) := by
    rw [namesLess_eq, ByteArray.toList_eq, ByteArray.toList_eq]
    unfold cmpB
    by_cases h1 : x.data.toList < y.data.toList
    · exact Or.inl ⟨decide_eq_true h1, by rw [if_pos h1]⟩
    · by_cases h2 : x.data.toList = y.data.toList
      · exact Or.inr (Or.inl ⟨decide_eq_false h1, beq_iff_eq.2 h2, by rw [if_neg h1, if_pos h2]⟩)
      · exact Or.inr (Or.inr ⟨decide_eq_false h1, beq_eq_false_iff_ne.2 h2, by rw [if_neg h1, if_neg h2]⟩)
  rcases hcase with ⟨h1, h⟩ | ⟨h1, h2, h⟩ | ⟨h1, h2, h⟩
  all_goals
    rw [h]
    clear h
    go_enter Try.func71, Try.ntmps71
    go_wp2_with fail
    refine (nanStr _ _).mono ?_
    rintro e w' ⟨rfl, rfl⟩
    go_wp2_with fail
    refine (nanStr _ _).mono ?_
    rintro e w' ⟨rfl, rfl⟩
    go_wp2_with fail
    go_ret
    exact ⟨rfl, rfl⟩

theorem cells6_alloc {w W : World} {a b c d a' b' : Addr} {u v x y z t : Value} (o : Obj) (h : (W.cell? a = some u ∧ W.cell? b = some v ∧ W.cell? c = some x ∧ W.cell? d = some y ∧ W.cell? a' = some z ∧ W.cell? b' = some t) ∧ Grown w W) :
    ((W.alloc o).cell? a = some u ∧ (W.alloc o).cell? b = some v ∧ (W.alloc o).cell? c = some x ∧ (W.alloc o).cell? d = some y ∧ (W.alloc o).cell? a' = some z ∧ (W.alloc o).cell? b' = some t) ∧ Grown w (W.alloc o) :=
  ⟨⟨cell_alloc h.1.1, cell_alloc h.1.2.1, cell_alloc h.1.2.2.1, cell_alloc h.1.2.2.2.1, cell_alloc h.1.2.2.2.2.1, cell_alloc h.1.2.2.2.2.2⟩, h.2.alloc o⟩

theorem cells6_later {w W W' : World} {a b c d a' b' : Addr} {u v x y z t : Value} (hg : Grown W W') (h : (W.cell? a = some u ∧ W.cell? b = some v ∧ W.cell? c = some x ∧ W.cell? d = some y ∧ W.cell? a' = some z ∧ W.cell? b' = some t) ∧ Grown w W) :
    (W'.cell? a = some u ∧ W'.cell? b = some v ∧ W'.cell? c = some x ∧ W'.cell? d = some y ∧ W'.cell? a' = some z ∧ W'.cell? b' = some t) ∧ Grown w W' :=
  ⟨⟨cell_later hg.1 h.1.1, cell_later hg.1 h.1.2.1, cell_later hg.1 h.1.2.2.1, cell_later hg.1 h.1.2.2.2.1, cell_later hg.1 h.1.2.2.2.2.1, cell_later hg.1 h.1.2.2.2.2.2⟩, h.2.trans hg⟩

theorem cell_two (w : World) (a b : Value) (T : TypeId) :
    (w.alloc (.cells #[a, b] T)).cell? ⟨w.heap.size, 0, none⟩ = some a ∧ (w.alloc (.cells #[a, b] T)).cell? ⟨w.heap.size, 1, none⟩ = some b :=
  ⟨cell_of_row _ _ 0 _ _ (0, 0) (heap_alloc_new w _), cell_of_row _ _ 1 _ _ (0, 0) (heap_alloc_new w _)⟩

set_option maxRecDepth 100000 in
set_option maxHeartbeats 1600000 in
theorem ahead_grown (x y : Ent) (w : World) :
    Calls Try.prog 57 #[.agg (entA x), .agg (entA y)] w fun e w' => e = .returned (.int .i64 (aheadI x y)) ∧ Grown w w' := by
  have hv : or2 (cmp x.dir.1 x.dir.2 y.dir.1 y.dir.2) (cmpB x.name.data.toList y.name.data.toList) = aheadI x y := rfl
  obtain ⟨⟨xd1, xd2⟩, xn, ⟨xi1, xi2⟩⟩ := x
  obtain ⟨⟨yd1, yd2⟩, yn, ⟨yi1, yi2⟩⟩ := y
  unfold entA
  obtain ⟨c, hc⟩ : ∃ c, c = cmp xd1 xd2 yd1 yd2 := ⟨_, rfl⟩
  obtain ⟨k, hk⟩ : ∃ k, k = cmpB xn.data.toList yn.data.toList := ⟨_, rfl⟩
  simp only [← hc, ← hk] at hv
  have HC : Hid (∀ W : World, Calls Try.prog 46 #[.agg #[.int .i64 xd1, .int .i64 xd2], .agg #[.int .i64 yd1, .int .i64 yd2]] W fun e w' => e = .returned (.int .i64 c) ∧ Grown W w') := fun W => by rw [hc]; exact compare_grown _ _ _ _ W
  have HK : Hid (∀ W : World, Calls Try.prog 71 #[.string xn, .string yn] W fun e w' => e = .returned (.int .i64 k) ∧ W = w') := fun W => by rw [hk]; exact compareStr _ _ W
  have HV := Lib.hid hv
  clear hv hc hk
  go_enter Try.func57, Try.ntmps57
  go_wp2_with fail
  have hS0 : (((w.alloc (.cells #[.int .i64 xd1, .int .i64 xd2, .string xn, .int .i64 xi1, .int .i64 xi2] 26)).alloc (.cells #[.int .i64 yd1, .int .i64 yd2, .string yn, .int .i64 yi1, .int .i64 yi2] 26)).drew.cell? ⟨w.heap.size, 0, none⟩ = some (.int .i64 xd1) ∧ ((w.alloc (.cells #[.int .i64 xd1, .int .i64 xd2, .string xn, .int .i64 xi1, .int .i64 xi2] 26)).alloc (.cells #[.int .i64 yd1, .int .i64 yd2, .string yn, .int .i64 yi1, .int .i64 yi2] 26)).drew.cell? ⟨w.heap.size, 1, none⟩ = some (.int .i64 xd2) ∧ ((w.alloc (.cells #[.int .i64 xd1, .int .i64 xd2, .string xn, .int .i64 xi1, .int .i64 xi2] 26)).alloc (.cells #[.int .i64 yd1, .int .i64 yd2, .string yn, .int .i64 yi1, .int .i64 yi2] 26)).drew.cell? ⟨w.heap.size, 2, none⟩ = some (.string xn) ∧ ((w.alloc (.cells #[.int .i64 xd1, .int .i64 xd2, .string xn, .int .i64 xi1, .int .i64 xi2] 26)).alloc (.cells #[.int .i64 yd1, .int .i64 yd2, .string yn, .int .i64 yi1, .int .i64 yi2] 26)).drew.cell? ⟨w.heap.size + 1, 0, none⟩ = some (.int .i64 yd1) ∧ ((w.alloc (.cells #[.int .i64 xd1, .int .i64 xd2, .string xn, .int .i64 xi1, .int .i64 xi2] 26)).alloc (.cells #[.int .i64 yd1, .int .i64 yd2, .string yn, .int .i64 yi1, .int .i64 yi2] 26)).drew.cell? ⟨w.heap.size + 1, 1, none⟩ = some (.int .i64 yd2) ∧ ((w.alloc (.cells #[.int .i64 xd1, .int .i64 xd2, .string xn, .int .i64 xi1, .int .i64 xi2] 26)).alloc (.cells #[.int .i64 yd1, .int .i64 yd2, .string yn, .int .i64 yi1, .int .i64 yi2] 26)).drew.cell? ⟨w.heap.size + 1, 2, none⟩ = some (.string yn)) ∧ Grown w ((w.alloc (.cells #[.int .i64 xd1, .int .i64 xd2, .string xn, .int .i64 xi1, .int .i64 xi2] 26)).alloc (.cells #[.int .i64 yd1, .int .i64 yd2, .string yn, .int .i64 yi1, .int .i64 yi2] 26)).drew := by
    refine ⟨⟨?_, ?_, ?_, ?_, ?_, ?_⟩, (((Grown.refl _).alloc _).alloc _).drew⟩
    · exact cell_of_row _ _ 0 _ _ (0, 0) (heap_alloc2_old w _ _)
    · exact cell_of_row _ _ 1 _ _ (0, 0) (heap_alloc2_old w _ _)
    · exact cell_of_row _ _ 2 _ _ (0, 0) (heap_alloc2_old w _ _)
    · exact cell_of_row _ _ 0 _ _ (0, 0) (heap_alloc2_new w _ _)
    · exact cell_of_row _ _ 1 _ _ (0, 0) (heap_alloc2_new w _ _)
    · exact cell_of_row _ _ 2 _ _ (0, 0) (heap_alloc2_new w _ _)
  go_region_held3 (fun W => (W.cell? ⟨w.heap.size, 0, none⟩ = some (.int .i64 xd1) ∧ W.cell? ⟨w.heap.size, 1, none⟩ = some (.int .i64 xd2) ∧ W.cell? ⟨w.heap.size, 2, none⟩ = some (.string xn) ∧ W.cell? ⟨w.heap.size + 1, 0, none⟩ = some (.int .i64 yd1) ∧ W.cell? ⟨w.heap.size + 1, 1, none⟩ = some (.int .i64 yd2) ∧ W.cell? ⟨w.heap.size + 1, 2, none⟩ = some (.string yn)) ∧ Grown w W) (first | assumption | exact cells6_alloc _ (by assumption) | (refine ⟨⟨?_, ?_, ?_, ?_, ?_, ?_⟩, ?_⟩ <;> assumption))
    (first
      | (go_at_call 46; (with_reducible refine (HC.out _).mono ?_); rintro e w' ⟨rfl, hg⟩; have hS := cells6_later hg ‹(_ ∧ _ ∧ _ ∧ _ ∧ _ ∧ _) ∧ Grown w _›)
      | (go_at_call 71; (with_reducible refine (HK.out _).mono ?_); rintro e w' ⟨rfl, rfl⟩; have hS := ‹(_ ∧ _ ∧ _ ∧ _ ∧ _ ∧ _) ∧ Grown w _›)
      | (go_at_call 61; refine (or_any _ c k _ ?_ ?_).mono ?_; exact (cell_two _ _ _ _).1; exact (cell_two _ _ _ _).2; rintro e w' ⟨rfl, rfl⟩; have hS := ‹(_ ∧ _ ∧ _ ∧ _ ∧ _ ∧ _) ∧ Grown w _›))
  have hB := (show Grown w _ from And.right ‹(_ ∧ _ ∧ _ ∧ _ ∧ _ ∧ _) ∧ Grown w _›)
  clear hS0
  go_wp2_with fail
  go_ret
  exact ⟨by rw [← HV.out]; rfl, hB⟩

end Go.Proofs.Ythobfeohgeeofaa

/-
  Closures of the library's functions, laid at this program (made by the kit's lay-plain.mjs).
-/
namespace Go.Proofs
open Go.Shelf
def Try.sortIno_ren : Go.Shelf.Ren := ⟨fun | 6 => 59 | 15 => 70 | 14 => 73 | 28 => 86 | 29 => 87 | 20 => 89 | 21 => 90 | 22 => 91 | 23 => 92 | 24 => 93 | 25 => 94 | 26 => 95 | 27 => 96 | 46 => 103 | 47 => 99 | 48 => 100 | 49 => 104 | 50 => 105 | 57 => 108 | n => n, fun | 22 => 30 | 24 => 42 | 25 => 90 | 3 => 3 | 39 => 109 | 0 => 0 | 53 => 125 | 55 => 127 | 4 => 4 | 46 => 118 | 45 => 117 | 50 => 122 | 5 => 5 | 9 => 9 | 66 => 134 | 70 => 138 | 76 => 142 | 77 => 143 | n => n, fun | n => n⟩
theorem Try.sortIno : Go.Proofs.SlLaysF0.n6 Try.prog Try.sortIno_ren := {
  mixed := by kernel_rfl
  f6 := ⟨Try.f59.name, by decide, Try.func59.trans (congrArg some (by kernel_rfl))⟩
  f14 := ⟨Try.f73.name, by decide, Try.func73.trans (congrArg some (by kernel_rfl))⟩
  f15 := Try.func70.trans (congrArg some (by kernel_rfl))
  f20 := ⟨Try.f89.name, by decide, Try.func89.trans (congrArg some (by kernel_rfl))⟩
  f21 := ⟨Try.f90.name, by decide, Try.func90.trans (congrArg some (by kernel_rfl))⟩
  f22 := ⟨Try.f91.name, by decide, Try.func91.trans (congrArg some (by kernel_rfl))⟩
  f23 := ⟨Try.f92.name, by decide, Try.func92.trans (congrArg some (by kernel_rfl))⟩
  f24 := ⟨Try.f93.name, by decide, Try.func93.trans (congrArg some (by kernel_rfl))⟩
  f25 := ⟨Try.f94.name, by decide, Try.func94.trans (congrArg some (by kernel_rfl))⟩
  f26 := ⟨Try.f95.name, by decide, Try.func95.trans (congrArg some (by kernel_rfl))⟩
  f27 := ⟨Try.f96.name, by decide, Try.func96.trans (congrArg some (by kernel_rfl))⟩
  f28 := Try.func86.trans (congrArg some (by kernel_rfl))
  f29 := Try.func87.trans (congrArg some (by kernel_rfl))
  f46 := ⟨Try.f103.name, by decide, Try.func103.trans (congrArg some (by kernel_rfl))⟩
  f47 := Try.func99.trans (congrArg some (by kernel_rfl))
  f48 := Try.func100.trans (congrArg some (by kernel_rfl))
  f49 := ⟨Try.f104.name, by decide, Try.func104.trans (congrArg some (by kernel_rfl))⟩
  f50 := ⟨Try.f105.name, by decide, Try.func105.trans (congrArg some (by kernel_rfl))⟩
  f57 := ⟨Try.f108.name, by decide, Try.func108.trans (congrArg some (by kernel_rfl))⟩
  t0 := Try.underlying0
  a0 := Try.isAgg0
  z0 := Try.sizeOf0
  v0 := Try.zeroValue0
  t3 := Try.underlying3
  a3 := Try.isAgg3
  z3 := Try.sizeOf3
  v3 := Try.zeroValue3
  t4 := Try.underlying4
  a4 := Try.isAgg4
  z4 := Try.sizeOf4
  v4 := Try.zeroValue4
  t5 := Try.underlying5
  a5 := Try.isAgg5
  z5 := Try.sizeOf5
  v5 := Try.zeroValue5
  t9 := Try.underlying9
  a9 := Try.isAgg9
  z9 := Try.sizeOf9
  v9 := Try.zeroValue9
  t22 := Try.underlying30
  a22 := Try.isAgg30
  z22 := Try.sizeOf30
  v22 := Try.zeroValue30
  t25 := Try.underlying90
  a25 := Try.isAgg90
  z25 := Try.sizeOf90
  v25 := Try.zeroValue90
  t39 := Try.underlying109
  a39 := Try.isAgg109
  z39 := Try.sizeOf109
  v39 := Try.zeroValue109
  t45 := Try.underlying117
  a45 := Try.isAgg117
  z45 := Try.sizeOf117
  v45 := Try.zeroValue117
  t46 := Try.underlying118
  a46 := Try.isAgg118
  z46 := Try.sizeOf118
  v46 := Try.zeroValue118
  t50 := Try.underlying122
  a50 := Try.isAgg122
  z50 := Try.sizeOf122
  v50 := Try.zeroValue122
  t53 := Try.underlying125
  a53 := Try.isAgg125
  z53 := Try.sizeOf125
  v53 := Try.zeroValue125
  t55 := Try.underlying127
  a55 := Try.isAgg127
  z55 := Try.sizeOf127
  v55 := Try.zeroValue127
  t66 := Try.underlying134
  a66 := Try.isAgg134
  z66 := Try.sizeOf134
  v66 := Try.zeroValue134
  t70 := Try.underlying138
  a70 := Try.isAgg138
  z70 := Try.sizeOf138
  v70 := Try.zeroValue138
  t76 := Try.underlying142
  a76 := Try.isAgg142
  z76 := Try.sizeOf142
  v76 := Try.zeroValue142
  t77 := Try.underlying143
  a77 := Try.isAgg143
  z77 := Try.sizeOf143
  v77 := Try.zeroValue143 }
def Try.sortEnt_ren : Go.Shelf.Ren := ⟨fun | 6 => 56 | 15 => 70 | 14 => 69 | 28 => 86 | 29 => 87 | 20 => 78 | 21 => 79 | 22 => 80 | 23 => 81 | 24 => 82 | 25 => 83 | 26 => 84 | 27 => 85 | 46 => 98 | 47 => 99 | 48 => 100 | 49 => 101 | 50 => 102 | 57 => 107 | n => n, fun | 22 => 31 | 24 => 26 | 25 => 97 | 3 => 3 | 39 => 109 | 0 => 0 | 53 => 125 | 55 => 127 | 4 => 4 | 46 => 118 | 45 => 117 | 50 => 122 | 5 => 5 | 9 => 9 | 66 => 134 | 70 => 138 | 76 => 142 | 77 => 143 | n => n, fun | n => n⟩
theorem Try.sortEnt : Go.Proofs.SlLaysF0.n6 Try.prog Try.sortEnt_ren := {
  mixed := by kernel_rfl
  f6 := ⟨Try.f56.name, by decide, Try.func56.trans (congrArg some (by kernel_rfl))⟩
  f14 := ⟨Try.f69.name, by decide, Try.func69.trans (congrArg some (by kernel_rfl))⟩
  f15 := Try.func70.trans (congrArg some (by kernel_rfl))
  f20 := ⟨Try.f78.name, by decide, Try.func78.trans (congrArg some (by kernel_rfl))⟩
  f21 := ⟨Try.f79.name, by decide, Try.func79.trans (congrArg some (by kernel_rfl))⟩
  f22 := ⟨Try.f80.name, by decide, Try.func80.trans (congrArg some (by kernel_rfl))⟩
  f23 := ⟨Try.f81.name, by decide, Try.func81.trans (congrArg some (by kernel_rfl))⟩
  f24 := ⟨Try.f82.name, by decide, Try.func82.trans (congrArg some (by kernel_rfl))⟩
  f25 := ⟨Try.f83.name, by decide, Try.func83.trans (congrArg some (by kernel_rfl))⟩
  f26 := ⟨Try.f84.name, by decide, Try.func84.trans (congrArg some (by kernel_rfl))⟩
  f27 := ⟨Try.f85.name, by decide, Try.func85.trans (congrArg some (by kernel_rfl))⟩
  f28 := Try.func86.trans (congrArg some (by kernel_rfl))
  f29 := Try.func87.trans (congrArg some (by kernel_rfl))
  f46 := ⟨Try.f98.name, by decide, Try.func98.trans (congrArg some (by kernel_rfl))⟩
  f47 := Try.func99.trans (congrArg some (by kernel_rfl))
  f48 := Try.func100.trans (congrArg some (by kernel_rfl))
  f49 := ⟨Try.f101.name, by decide, Try.func101.trans (congrArg some (by kernel_rfl))⟩
  f50 := ⟨Try.f102.name, by decide, Try.func102.trans (congrArg some (by kernel_rfl))⟩
  f57 := ⟨Try.f107.name, by decide, Try.func107.trans (congrArg some (by kernel_rfl))⟩
  t0 := Try.underlying0
  a0 := Try.isAgg0
  z0 := Try.sizeOf0
  v0 := Try.zeroValue0
  t3 := Try.underlying3
  a3 := Try.isAgg3
  z3 := Try.sizeOf3
  v3 := Try.zeroValue3
  t4 := Try.underlying4
  a4 := Try.isAgg4
  z4 := Try.sizeOf4
  v4 := Try.zeroValue4
  t5 := Try.underlying5
  a5 := Try.isAgg5
  z5 := Try.sizeOf5
  v5 := Try.zeroValue5
  t9 := Try.underlying9
  a9 := Try.isAgg9
  z9 := Try.sizeOf9
  v9 := Try.zeroValue9
  t22 := Try.underlying31
  a22 := Try.isAgg31
  z22 := Try.sizeOf31
  v22 := Try.zeroValue31
  t25 := Try.underlying97
  a25 := Try.isAgg97
  z25 := Try.sizeOf97
  v25 := Try.zeroValue97
  t39 := Try.underlying109
  a39 := Try.isAgg109
  z39 := Try.sizeOf109
  v39 := Try.zeroValue109
  t45 := Try.underlying117
  a45 := Try.isAgg117
  z45 := Try.sizeOf117
  v45 := Try.zeroValue117
  t46 := Try.underlying118
  a46 := Try.isAgg118
  z46 := Try.sizeOf118
  v46 := Try.zeroValue118
  t50 := Try.underlying122
  a50 := Try.isAgg122
  z50 := Try.sizeOf122
  v50 := Try.zeroValue122
  t53 := Try.underlying125
  a53 := Try.isAgg125
  z53 := Try.sizeOf125
  v53 := Try.zeroValue125
  t55 := Try.underlying127
  a55 := Try.isAgg127
  z55 := Try.sizeOf127
  v55 := Try.zeroValue127
  t66 := Try.underlying134
  a66 := Try.isAgg134
  z66 := Try.sizeOf134
  v66 := Try.zeroValue134
  t70 := Try.underlying138
  a70 := Try.isAgg138
  z70 := Try.sizeOf138
  v70 := Try.zeroValue138
  t76 := Try.underlying142
  a76 := Try.isAgg142
  z76 := Try.sizeOf142
  v76 := Try.zeroValue142
  t77 := Try.underlying143
  a77 := Try.isAgg143
  z77 := Try.sizeOf143
  v77 := Try.zeroValue143 }
def Try.cloneIno_ren : Go.Shelf.Ren := ⟨fun | 5 => 47 | 7 => 64 | n => n, fun | 23 => 70 | 25 => 24 | 3 => 42 | 4 => 4 | 20 => 20 | n => n, fun | n => n⟩
theorem Try.cloneIno : Go.Proofs.SlLaysW.n5 Try.prog Try.cloneIno_ren := {
  mixed := by kernel_rfl
  f5 := ⟨Try.f47.name, by decide, Try.func47.trans (congrArg some (by kernel_rfl))⟩
  f7 := Try.func64.trans (congrArg some (by kernel_rfl))
  t4 := Try.underlying4
  a4 := Try.isAgg4
  z4 := Try.sizeOf4
  v4 := Try.zeroValue4
  t20 := Try.underlying20
  a20 := Try.isAgg20
  z20 := Try.sizeOf20
  v20 := Try.zeroValue20
  t23 := Try.underlying70
  a23 := Try.isAgg70
  z23 := Try.sizeOf70
  v23 := Try.zeroValue70 }
def Try.cloneEnt_ren : Go.Shelf.Ren := ⟨fun | 5 => 48 | 7 => 64 | n => n, fun | 23 => 71 | 25 => 82 | 3 => 24 | 4 => 4 | 20 => 20 | n => n, fun | n => n⟩
theorem Try.cloneEnt : Go.Proofs.SlLaysW.n5 Try.prog Try.cloneEnt_ren := {
  mixed := by kernel_rfl
  f5 := ⟨Try.f48.name, by decide, Try.func48.trans (congrArg some (by kernel_rfl))⟩
  f7 := Try.func64.trans (congrArg some (by kernel_rfl))
  t4 := Try.underlying4
  a4 := Try.isAgg4
  z4 := Try.sizeOf4
  v4 := Try.zeroValue4
  t20 := Try.underlying20
  a20 := Try.isAgg20
  z20 := Try.sizeOf20
  v20 := Try.zeroValue20
  t23 := Try.underlying71
  a23 := Try.isAgg71
  z23 := Try.sizeOf71
  v23 := Try.zeroValue71 }
end Go.Proofs

/-
  A row of the call's own, sorted by slices.SortFunc: it holds the same elements in order, and is the call's own still.
-/
namespace Go.Proofs.Ythobfeohgeeofaa
open Go.RowKit Go.Shelf Go.Sort

section
variable {α : Type} [Inhabited α]

theorem flatK_flat (encA : α → Array Value) {k : Nat} (hk : ∀ x, (encA x).size = k) (xs : List α) : flatK (fun x => (encA x).toList) k xs.toArray = (flat (xs.map encA)).toArray := by
  have hk' : ∀ r ∈ xs.map encA, r.size = k := fun r hr => by
    obtain ⟨x, _, rfl⟩ := List.mem_map.1 hr
    exact hk x
  have hl := flat_len hk'
  rw [List.length_map] at hl
  refine ext_get! (by simp [hl]) fun t ht => ?_
  have ht' : t < xs.length * k := by simpa using ht
  rw [get_flatK _ _ _ _ (by simpa using ht')]
  have k0 : 0 < k := by
    rcases Nat.eq_zero_or_pos k with h | h
    · subst h; simp at ht'
    · exact h
  have hd : t / k < xs.length := (Nat.div_lt_iff_lt_mul k0).2 ht'
  have hm := Nat.mod_lt t k0
  have e := flat_at hk' (t / k) (by simpa using hd) (t % k) hm
  rw [show t / k * k + t % k = t by rw [Nat.mul_comm]; exact Nat.div_add_mod t k] at e
  have hs : t % k < (encA xs[t / k]).size := by rw [hk]; exact hm
  have hf : t < (flat (xs.map encA)).length := by rw [hl]; exact ht'
  rw [List.getElem?_eq_getElem hf, List.getElem_map, Array.getElem?_eq_getElem hs] at e
  have e' := Option.some.inj e
  rw [getElem!_pos ((flat (xs.map encA)).toArray) t (by simpa using hf), List.getElem_toArray, e', getElem!_pos xs.toArray (t / k) (by simpa using hd), List.getElem_toArray, getElem!_pos _ _ (by simpa using hs), Array.getElem_toList]

theorem perm_of {d d' : Array α} (h : PermIn 0 d.size d d') : d'.toList.Perm d.toList := by
  obtain ⟨hs, _, hp⟩ := h
  rw [Array.extract_size] at hp
  have e : d'.extract 0 d.size = d' := by rw [← hs]; exact Array.extract_size
  rwa [e] at hp

theorem sorted_of {lt : α → α → Bool} {d : Array α} (h : SortedIn lt 0 d.size d) : d.toList.Pairwise fun x y => lt y x = false := by
  rw [List.pairwise_iff_getElem]
  intro i j hi hj hij
  have q := h i j (Nat.zero_le _) hij (by simpa using hj)
  rwa [getElem!_pos d j (by simpa using hj), getElem!_pos d i (by simpa using hi)] at q
end

/-- A row that lies in a block of the call's own holds these cells, none of them frozen. -/
theorem own_holds {w : World} {g : Nat} {e : TypeId} {cur : Array Value} {F : Array Value} (hg : w.heap[g]? = some (.cells cur e (0, 0))) (hF : cur.toList.take F.size = F.toList) : Holds id w g 0 F := by
  intro j hj
  refine ⟨?_, ?_⟩
  · have e1 : (cur.toList.take F.size)[j]? = F.toList[j]? := by rw [hF]
    rw [List.getElem?_take_of_lt hj] at e1
    simp only [World.cell?, hg, Nat.zero_add, Option.isSome_none, Bool.false_eq_true, if_false, id]
    rw [getElem!_pos F j hj]
    simpa [hj] using e1
  · simp only [World.frozen?, hg]
    simp

theorem putCells_take (F cur : Array Value) (h : F.size ≤ cur.size) : (putCells id 0 F cur).toList.take F.size = F.toList := by
  apply List.ext_getElem?
  intro j
  by_cases hj : j < F.size
  · rw [List.getElem?_take_of_lt hj]
    have hc : j < cur.size := by omega
    simp [putCells, hj, hc]
  · rw [List.getElem?_eq_none (by simp; omega), List.getElem?_eq_none (by simp; omega)]

theorem sort_own {P : Program} {ρ : Ren} {α : Type} [Inhabited α] (L : SlLaysF0.n6 P ρ) (k : Nat) (aE : ∀ w, (isAgg (ρ.t 24)).run P w = .ok true w) (zE : ∀ w, (Go.sizeOf (ρ.t 24)).run P w = .ok k w) (encA : α → Array Value) (hk : ∀ x, (encA x).size = k) (h1 : ∀ x, ∀ v ∈ (encA x).toList, v.oneCell' = true)
    (cf : α → α → Int) (hO : SWO (ltOf cf)) (g : Nat) (cb : Array Value) (eg : ∀ args w, (callFunc g args).run P w = .ok (.enter g args) w)
    (hc : ∀ (W : World) (x y : α), Calls P g (#[.agg (encA x), .agg (encA y)] ++ cb) W fun e W' => e = .returned (.int .i64 (cf x y)) ∧ ∃ q os', W' = grow (W.drewN q) os')
    {w : World} {base : Nat} {e : TypeId} {v : Value} {n : Nat} {xs : List α} (hn : xs.length = n) (h : w.ownsRow base e k v n (flat (xs.map encA))) (hsz : n < 4611686018427387904) :
    Calls P (ρ.f 6) #[v, .func (.func g) #[] cb] w fun r w' => r = .returned (.tuple #[]) ∧ ∃ ys : List α, ys.Perm xs ∧ (ys.Pairwise fun x y => ltOf cf y x = false) ∧ w'.ownsRow base e k v n (flat (ys.map encA)) ∧ But (fun i => v.ownBlock = some i) w w' := by
  subst hn
  obtain ⟨hl, h⟩ := h
  rcases h with ⟨rfl, h0⟩ | ⟨b, cap, cur, rfl, hb, hg, hc1, hc2, hcs, ht⟩
  · refine (AnyF.slices_SortFunc_none (P := P) (ρ := ρ) { L with } none 0 (.func (.func g) #[] cb) w).mono ?_
    rintro r w' ⟨rfl, rfl⟩
    have hx : xs = [] := List.length_eq_zero_iff.1 h0
    subst hx
    exact ⟨rfl, [], List.Perm.refl _, List.Pairwise.nil, ⟨hl, Or.inl ⟨rfl, rfl⟩⟩, But.refl _ _⟩
  · have hk' : ∀ (l : List α), ∀ r ∈ l.map encA, r.size = k := fun l r hr => by
      obtain ⟨x, _, rfl⟩ := List.mem_map.1 hr
      exact hk x
    have fl : ∀ l : List α, (flat (l.map encA)).length = l.length * k := fun l => by have := flat_len (hk' l); rwa [List.length_map] at this
    have hH : HoldsK (fun x => (encA x).toList) k w b 0 xs.toArray := by
      unfold HoldsK
      rw [flatK_flat encA hk]
      exact own_holds hg (by simpa [fl] using ht)
    have hcmp : CmpLays P g cb (fun x => (encA x).toList) k cf b 0 xs.toArray.size w := fun m os dk _ x y => hc _ x y
    have hs := AnyQ.slices_SortFunc L k aE zE (fun x => (encA x).toList) (fun x => by simpa using hk x) h1 cf hO g cb b 0 cap xs.toArray w eg hcmp hH (heap_lt hg) (by simpa using hsz)
    rw [List.size_toArray] at hs
    refine hs.mono ?_
    rintro r w' ⟨rfl, d', q, os, hp, hsd, rfl⟩
    refine ⟨rfl, d'.toList, ?_, ?_, ?_, ?_⟩
    · simpa using perm_of (d := xs.toArray) (by simpa using hp)
    · refine sorted_of ?_
      have hd : d'.size = xs.length := by simpa using hp.1
      rw [hd]
      exact hsd
    · have hd : d'.size = xs.length := by simpa using hp.1
      have hF : flatK (fun x => (encA x).toList) k d' = (flat (d'.toList.map encA)).toArray := by
        have := flatK_flat encA hk d'.toList
        rwa [Array.toArray_toList] at this
      have hle : (flatK (fun x => (encA x).toList) k d').size ≤ cur.size := by
        rw [size_flatK, hcs, hd]
        exact Nat.mul_le_mul_right k hc1
      refine ⟨by rw [fl, Array.length_toList, hd], Or.inr ⟨b, cap, putCells id 0 (flatK (fun x => (encA x).toList) k d') cur, rfl, hb, ?_, hc1, hc2, by simpa [putCells] using hcs, ?_⟩⟩
      · unfold sortWorldK
        rw [heap_grow_old _ _ (by rw [size_putRowK]; exact heap_lt hg)]
        simp [putRowK, putRow, mapBlock, Array.getElem?_modify, hg, onCells]
      · have e2 := putCells_take _ cur hle
        rw [size_flatK, hd] at e2
        rw [e2, hF]
    · unfold sortWorldK
      refine ⟨rfl, rfl, rfl, ?_, fun i hi hne => ?_⟩
      · rw [size_grow, size_putRowK]
        exact Nat.le_add_right _ _
      · rw [heap_grow_old _ _ (by rw [size_putRowK]; exact hi)]
        have hib : b ≠ i := fun q => hne (by rw [← q]; rfl)
        simp [putRowK, putRow, mapBlock, Array.getElem?_modify, hib]

end Go.Proofs.Ythobfeohgeeofaa
