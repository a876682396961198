/-
  The order of entries and of inodes as a sort's own: it needs no program.
-/
import Derived.Test.YtoobmkkmomiigaaGraphAhead
import Derived.Sort.Statements
import Derived.Shelf.SlSortCmp.Insertion
namespace Go.Proofs.Ytoobmkkmomiigaa.GraphMath
open StampMath

instance entThere : Inhabited Ent := ⟨⟨(0, 0), ⟨#[]⟩, (0, 0)⟩⟩
instance inoThere : Inhabited Ino := ⟨noIno⟩

theorem sorted_only {α : Type} {r : α → α → Bool} (irr : ∀ x, r x x = false) (tr : ∀ x y z, r x y = true → r y z = true → r x z = true) {l E : List α} (hE : E.Pairwise fun a b => r a b = true) (hp : l.Perm E) (hs : l.Pairwise fun x y => r y x = false) : l = E := by
  have asym : ∀ x y, r x y = true → r y x = false := fun x y h => by
    cases hq : r y x with
    | false => rfl
    | true => have := tr x y x h hq; rw [irr] at this; cases this
  refine List.Perm.eq_of_pairwise (le := fun x y => r y x = false) (fun a b ha hb h1 h2 => ?_) hs (hE.imp fun h => asym _ _ h) hp
  have all : ∀ x ∈ E, ∀ y ∈ E, x = y ∨ r x y = true ∨ r y x = true := by
    intro x hx y hy
    obtain ⟨i, hi, rfl⟩ := List.getElem_of_mem hx
    obtain ⟨j, hj, rfl⟩ := List.getElem_of_mem hy
    have q := List.pairwise_iff_getElem.1 hE
    rcases Nat.lt_trichotomy i j with h | h | h
    · exact Or.inr (Or.inl (q i j hi hj h))
    · subst h; exact Or.inl rfl
    · exact Or.inr (Or.inr (q j i hj hi h))
  rcases all a (hp.mem_iff.1 ha) b hb with h | h | h
  · exact h
  · rw [h] at h2; cases h2
  · rw [h] at h1; cases h1

theorem bytesLess_eq : ∀ (x y : List UInt8), Op.bytesLess x y = decide (x < y)
  | [], [] => by simp [Op.bytesLess]
  | _ :: _, [] => by simp [Op.bytesLess]
  | [], _ :: _ => by simp [Op.bytesLess]
  | a :: x, b :: y => by
    rw [Op.bytesLess, bytesLess_eq x y]
    simp only [List.cons_lt_cons_iff]
    by_cases h1 : a < b <;> by_cases h2 : a = b <;> by_cases h3 : x < y <;> simp [h1, h2, h3]

theorem namesLess_eq (a b : ByteArray) : Op.bytesLess a.toList b.toList = decide (a.data.toList < b.data.toList) := by
  rw [bytesLess_eq, ByteArray.toList_eq, ByteArray.toList_eq]

/-- What package cmp's Compare tells of two strings. -/
def cmpB (a b : List UInt8) : Int := if a < b then -1 else if a = b then 0 else 1

theorem cmpB_lt (a b : List UInt8) : cmpB a b < 0 ↔ a < b := by
  unfold cmpB
  by_cases h : a < b
  · simp [h]
  · rw [if_neg h]
    by_cases h2 : a = b <;> simp [h, h2]

/-- What comparing two entries tells. -/
def aheadI (x y : Ent) : Int := if cmp x.dir.1 x.dir.2 y.dir.1 y.dir.2 = 0 then cmpB x.name.data.toList y.name.data.toList else cmp x.dir.1 x.dir.2 y.dir.1 y.dir.2

theorem cmp_lt (a b : St) : cmp a.1 a.2 b.1 b.2 < 0 ↔ lessS a b = true := by
  show (if lessS a b = true then (-1 : Int) else if lessS b a = true then 1 else 0) < 0 ↔ _
  by_cases h : lessS a b = true
  · simp [h]
  · rw [if_neg h]
    by_cases h2 : lessS b a = true <;> simp [h, h2]

theorem cmp_zero (a b : St) : cmp a.1 a.2 b.1 b.2 = 0 ↔ a = b := by
  show (if lessS a b = true then (-1 : Int) else if lessS b a = true then 1 else 0) = 0 ↔ _
  constructor
  · intro h
    by_cases h1 : lessS a b = true
    · rw [if_pos h1] at h; omega
    · rw [if_neg h1] at h
      by_cases h2 : lessS b a = true
      · rw [if_pos h2] at h; omega
      · by_cases he : a = b
        · exact he
        · exact absurd (lessS_total (Bool.eq_false_iff.2 h1) he) h2
  · rintro rfl
    rw [if_neg (by rw [lessS_irrefl]; simp), if_neg (by rw [lessS_irrefl]; simp)]

theorem aheadI_lt (x y : Ent) : ltOf aheadI x y = aheadE x y := by
  unfold ltOf aheadI
  rw [Bool.eq_iff_iff, decide_eq_true_iff, aheadE_iff]
  by_cases h : x.dir = y.dir
  · rw [if_pos ((cmp_zero _ _).2 h), cmpB_lt, h, lessS_irrefl]
    simp
  · rw [if_neg (fun q => h ((cmp_zero _ _).1 q)), cmp_lt]
    simp [h]

theorem aheadE_irrefl (x : Ent) : aheadE x x = false := by
  rw [Bool.eq_false_iff]
  intro h
  rcases (aheadE_iff x x).1 h with q | ⟨_, q⟩
  · rw [lessS_irrefl] at q; cases q
  · exact bytes_irrefl _ q

theorem aheadE_ntrans {x y z : Ent} (h1 : aheadE x y = false) (h2 : aheadE y z = false) : aheadE x z = false := by
  rw [Bool.eq_false_iff]
  intro h
  by_cases he : x.dir = y.dir ∧ x.name = y.name
  · rw [aheadE_iff, he.1, he.2, ← aheadE_iff, h2] at h
    cases h
  · have := aheadE_trans (aheadE_total h1 he) h
    rw [h2] at this
    cases this

theorem swo_ents : Sort.SWO (ltOf aheadI) where
  irrefl x := by rw [aheadI_lt]; exact aheadE_irrefl x
  trans x y z h1 h2 := by rw [aheadI_lt] at *; exact aheadE_trans h1 h2
  ntrans x y z h1 h2 := by rw [aheadI_lt] at *; exact aheadE_ntrans h1 h2

/-- What comparing two inodes tells. -/
def inoI (x y : Ino) : Int := cmp x.id.1 x.id.2 y.id.1 y.id.2

theorem inoI_lt (x y : Ino) : ltOf inoI x y = lessS x.id y.id := by
  unfold ltOf inoI
  rw [Bool.eq_iff_iff, decide_eq_true_iff, cmp_lt]

theorem swo_inos : Sort.SWO (ltOf inoI) where
  irrefl x := by rw [inoI_lt]; exact lessS_irrefl _
  trans x y z h1 h2 := by rw [inoI_lt] at *; exact lessS_trans h1 h2
  ntrans x y z h1 h2 := by
    rw [inoI_lt] at *
    rw [Bool.eq_false_iff]
    intro h
    by_cases he : x.id = y.id
    · rw [he, h2] at h; cases h
    · have := lessS_trans (lessS_total h1 he) h
      rw [h2] at this; cases this

theorem sorted_ents {l E : List Ent} (hE : E.Pairwise fun a b => aheadE a b = true) (hp : l.Perm E) (hs : l.Pairwise fun x y => ltOf aheadI y x = false) : l = E :=
  sorted_only aheadE_irrefl (fun _ _ _ => aheadE_trans) hE hp (hs.imp fun h => by rwa [aheadI_lt] at h)

theorem sorted_inos {l I : List Ino} (hI : I.Pairwise fun a b => lessS a.id b.id = true) (hp : l.Perm I) (hs : l.Pairwise fun x y => ltOf inoI y x = false) : l = I :=
  sorted_only (r := fun a b => lessS a.id b.id) (fun _ => lessS_irrefl _) (fun _ _ _ => lessS_trans) hI hp (hs.imp fun h => by rwa [inoI_lt] at h)

end Go.Proofs.Ytoobmkkmomiigaa.GraphMath
