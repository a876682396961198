/-
  Slices of entries and of inodes that a call makes of its own. It needs no program's function.
-/
import Derived.Test.YtoobmkkmomiigaaGraphRows
import Derived.Test.YtoobmkkmomiigaaTabsAppend
namespace Go.Proofs.Ytoobmkkmomiigaa
open Go.RowKit StampMath GraphMath

theorem ent_infos : (Try.prog.info? 33).map (fun i => (i.zero, i.size, i.bytes)) = some (some (.agg #[.int .i64 0, .int .i64 0, .string ⟨#[]⟩, .int .i64 0, .int .i64 0]), 5, 48) := by kernel_rfl
theorem ino_infos : (Try.prog.info? 31).map (fun i => (i.zero, i.size, i.bytes)) = some (some (.agg #[.int .i64 0, .int .i64 0, .int .i64 0, .int .i64 0, .int .i64 0, .string ⟨#[]⟩]), 6, 56) := by kernel_rfl

/-- A new block holds its row. -/
theorem row_there (w : World) (T : TypeId) (r : Array Value) : ∀ j u, r.toList[j]? = some u → (w.alloc (.cells r T)).cell? (Addr.add ⟨w.heap.size, 0, none⟩ j) = some u := by
  intro j u hj
  rw [tab_add]
  rw [Nat.zero_add, cell_of_row _ _ j _ _ (0, 0) (heap_alloc_new w _)]
  simpa using hj

theorem ent_one (e : Ent) : ∀ u ∈ (entA e).toList, u.oneCell' = true := by
  intro u hu
  simp [entA] at hu
  rcases hu with rfl | rfl | rfl | rfl | rfl <;> rfl

theorem ino_one (x : Ino) : ∀ u ∈ (inoA x).toList, u.oneCell' = true := by
  intro u hu
  simp [inoA] at hu
  rcases hu with rfl | rfl | rfl | rfl | rfl | rfl <;> rfl

theorem ents_own {W : World} {base : Nat} {v : Value} {n : Nat} {E : List Ent} (hn : E.length = n) (h : W.ownsRow base 33 5 v n (flat (E.map entA))) :
    ∃ (A : Option Addr) (c : Nat), v = .slice A n c ∧ EntsIn W W.heap.size A n E ∧ n ≤ c ∧ c ≤ maxLen ∧ (A = Option.none → c = 0) :=
  tab_own (k := 5) (fun r hr => by obtain ⟨e, _, rfl⟩ := List.mem_map.1 hr; rfl) (by simpa using hn) h

theorem inos_own {W : World} {base : Nat} {v : Value} {n : Nat} {I : List Ino} (hn : I.length = n) (h : W.ownsRow base 31 6 v n (flat (I.map inoA))) :
    ∃ (A : Option Addr) (c : Nat), v = .slice A n c ∧ InosIn W W.heap.size A n I ∧ n ≤ c ∧ c ≤ maxLen ∧ (A = Option.none → c = 0) :=
  tab_own (k := 6) (fun r hr => by obtain ⟨e, _, rfl⟩ := List.mem_map.1 hr; rfl) (by simpa using hn) h

theorem flat_ent (E : List Ent) (e : Ent) : flat (E.map entA) ++ (entA e).toList = flat ((E ++ [e]).map entA) := by simp [flat]
theorem flat_ino (I : List Ino) (x : Ino) : flat (I.map inoA) ++ (inoA x).toList = flat ((I ++ [x]).map inoA) := by simp [flat]

/-- Entries are answered. -/
def EntsPost (E : List Ent) (w : World) (e : Ending) (w' : World) : Prop :=
  ∃ (A : Option Addr) (c : Nat), e = .returned (.slice A E.length c) ∧ EntsIn w' w'.heap.size A E.length E ∧ E.length ≤ c ∧ c ≤ maxLen ∧ (A = none → c = 0) ∧ Below w.heap.size w w'

/-- Inodes are answered. -/
def InosPost (I : List Ino) (w : World) (e : Ending) (w' : World) : Prop :=
  ∃ (A : Option Addr) (c : Nat), e = .returned (.slice A I.length c) ∧ InosIn w' w'.heap.size A I.length I ∧ I.length ≤ c ∧ c ≤ maxLen ∧ (A = none → c = 0) ∧ Below w.heap.size w w'

/-- New entries are answered: a slice of its own, that may be written. -/
def EntsNew (E : List Ent) (w : World) (e : Ending) (w' : World) : Prop :=
  ∃ v, e = .returned v ∧ w'.ownsRow w.heap.size 33 5 v E.length (flat (E.map entA)) ∧ Below w.heap.size w w'

/-- New inodes are answered: a slice of its own, that may be written. -/
def InosNew (I : List Ino) (w : World) (e : Ending) (w' : World) : Prop :=
  ∃ v, e = .returned v ∧ w'.ownsRow w.heap.size 31 6 v I.length (flat (I.map inoA)) ∧ Below w.heap.size w w'

end Go.Proofs.Ytoobmkkmomiigaa
