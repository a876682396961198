/-
  Plain mathematics of layer 4: vectors of eight numbers. It needs no program.
-/
import Derived.Test.YtonpafakhbinmaaPackTakeMath
import Derived.Test.YtonpafakhbinmaaBase
namespace Go.Proofs.Ytonpafakhbinmaa.VecMath
open Go.RowKit PackMath

/-- A vector as cells. -/
def arr (v : Nat → Int) : Array Value := #[.int .i64 (v 0), .int .i64 (v 1), .int .i64 (v 2), .int .i64 (v 3), .int .i64 (v 4), .int .i64 (v 5), .int .i64 (v 6), .int .i64 (v 7)]

theorem arr_size (v : Nat → Int) : (arr v).size = 8 := rfl

theorem lt8 {k : Nat} (h : k < 8) : k = 0 ∨ k = 1 ∨ k = 2 ∨ k = 3 ∨ k = 4 ∨ k = 5 ∨ k = 6 ∨ k = 7 := by omega

theorem arr_at (v : Nat → Int) {k : Nat} (h : k < 8) : (arr v)[k]? = some (.int .i64 (v k)) := by
  rcases lt8 h with rfl | rfl | rfl | rfl | rfl | rfl | rfl | rfl <;> rfl

theorem arr_one (v : Nat → Int) : (arr v).all (·.oneCell') = true := by
  simp [arr, Value.oneCell']

theorem arr_ext {u v : Nat → Int} (h : ∀ k, k < 8 → u k = v k) : arr u = arr v := by
  unfold arr
  rw [h 0 (by omega), h 1 (by omega), h 2 (by omega), h 3 (by omega), h 4 (by omega), h 5 (by omega), h 6 (by omega), h 7 (by omega)]

/-- Bytes as cells. -/
def arrB (m : Nat → Int) : Array Value := #[.int .u8 (m 0), .int .u8 (m 1), .int .u8 (m 2), .int .u8 (m 3), .int .u8 (m 4), .int .u8 (m 5), .int .u8 (m 6), .int .u8 (m 7)]

theorem arrB_at (v : Nat → Int) {k : Nat} (h : k < 8) : (arrB v)[k]? = some (.int .u8 (v k)) := by
  rcases lt8 h with rfl | rfl | rfl | rfl | rfl | rfl | rfl | rfl <;> rfl

theorem cell_arrB {w : World} {g : Nat} {m : Nat → Int} {T : TypeId} {k : Nat} (h : w.heap[g]? = some (.cells (arrB m) T (0, 0))) (hk : k < 8) : w.cell? ⟨g, k, none⟩ = some (.int .u8 (m k)) := by
  rw [cell_of_row _ _ k _ _ (0, 0) h, arrB_at m hk]

/-- One number is another one. -/
def put (v : Nat → Int) (k : Nat) (x : Int) : Nat → Int := fun i => if i = k then x else v i

theorem arr_put (v : Nat → Int) {k : Nat} (h : k < 8) (x : Int) : (arr v).setIfInBounds k (.int .i64 x) = arr (put v k x) := by
  rcases lt8 h with rfl | rfl | rfl | rfl | rfl | rfl | rfl | rfl <;> rfl

theorem cell_arr {w : World} {g : Nat} {v : Nat → Int} {T : TypeId} {k : Nat} (h : w.heap[g]? = some (.cells (arr v) T (0, 0))) (hk : k < 8) : w.cell? ⟨g, k, none⟩ = some (.int .i64 (v k)) := by
  rw [cell_of_row _ _ k _ _ (0, 0) h, arr_at v hk]

theorem heap_put {w : World} {g : Nat} {v : Nat → Int} {T : TypeId} {k : Nat} (h : w.heap[g]? = some (.cells (arr v) T (0, 0))) (hk : k < 8) (x : Int) :
    (w.setCell ⟨g, k, none⟩ (.int .i64 x)).heap[g]? = some (.cells (arr (put v k x)) T (0, 0)) := by
  rw [heap_setCell_same _ _ _ _ _ _ h, arr_put v hk x]

/-- Does it hold of each of the eight? -/
def all8 (p : Nat → Bool) : Bool := (List.range 8).all p

theorem all8_iff {p : Nat → Bool} : all8 p = true ↔ ∀ i, i < 8 → p i = true := by
  unfold all8
  rw [List.all_eq_true]
  exact ⟨fun h i hi => h i (List.mem_range.2 hi), fun h i hi => h i (List.mem_range.1 hi)⟩

theorem all8_no {p : Nat → Bool} {k : Nat} (hk : k < 8) (h : p k = false) : all8 p = false := by
  rw [← Bool.not_eq_true, all8_iff]
  intro e
  rw [e k hk] at h
  cases h

/-- May it be? -/
def mayV (v : Nat → Int) : Bool := all8 fun i => decide (0 ≤ v i ∧ v i ≤ 1073741824)

theorem mayV_iff {v : Nat → Int} : mayV v = true ↔ ∀ i, i < 8 → 0 ≤ v i ∧ v i ≤ 1073741824 := by
  unfold mayV
  rw [all8_iff]
  simp only [decide_eq_true_iff]

theorem mayV_yes {v : Nat → Int} (h : ∀ i, i < 8 → 0 ≤ v i ∧ v i ≤ 1073741824) : mayV v = true := mayV_iff.2 h

theorem mayV_no {v : Nat → Int} {k : Nat} (hk : k < 8) (h : ¬ (0 ≤ v k ∧ v k ≤ 1073741824)) : mayV v = false := all8_no hk (decide_eq_false h)

/-- Is no number of the first below the second's? -/
def covV (a b : Nat → Int) : Bool := all8 fun i => decide (b i ≤ a i)

theorem covV_iff {a b : Nat → Int} : covV a b = true ↔ ∀ i, i < 8 → b i ≤ a i := by
  unfold covV
  rw [all8_iff]
  simp only [decide_eq_true_iff]

theorem covV_yes {a b : Nat → Int} (h : ∀ i, i < 8 → b i ≤ a i) : covV a b = true := covV_iff.2 h

theorem covV_no {a b : Nat → Int} {k : Nat} (hk : k < 8) (h : a k < b k) : covV a b = false := all8_no hk (decide_eq_false (by omega))

/-- The greater, the lesser numbers. -/
def joinV (a b : Nat → Int) : Nat → Int := fun i => if a i < b i then b i else a i
def meetV (a b : Nat → Int) : Nat → Int := fun i => if b i < a i then b i else a i

/-- The first k numbers are the second vector's, all others the first one's. -/
def upto (f : (Nat → Int) → (Nat → Int) → Nat → Int) (a b : Nat → Int) (k : Nat) : Nat → Int := fun i => if i < k then f a b i else a i

theorem upto_put (f : (Nat → Int) → (Nat → Int) → Nat → Int) (a b : Nat → Int) (k : Nat) : put (upto f a b k) k (f a b k) = upto f a b (k + 1) := by
  funext i
  unfold put upto
  by_cases h : i = k
  · subst h; rw [if_pos rfl, if_pos (by omega)]
  · rw [if_neg h]
    by_cases h2 : i < k
    · rw [if_pos h2, if_pos (by omega)]
    · rw [if_neg h2, if_neg (by omega)]

theorem upto_same (f : (Nat → Int) → (Nat → Int) → Nat → Int) (a b : Nat → Int) (k : Nat) (h : f a b k = a k) : upto f a b (k + 1) = upto f a b k := by
  funext i
  unfold upto
  by_cases h1 : i < k
  · rw [if_pos h1, if_pos (by omega)]
  · by_cases h2 : i = k
    · subst h2; rw [if_neg h1, if_pos (by omega), h]
    · rw [if_neg h1, if_neg (by omega)]

theorem upto_none (f : (Nat → Int) → (Nat → Int) → Nat → Int) (a b : Nat → Int) : upto f a b 0 = a := by
  funext i
  unfold upto
  rw [if_neg (by omega)]

theorem arr_upto (f : (Nat → Int) → (Nat → Int) → Nat → Int) (a b : Nat → Int) : arr (upto f a b 8) = arr (f a b) := arr_ext fun _ hk => if_pos hk

theorem heap3 (w : World) (o1 o2 o3 : Obj) :
    (((w.alloc o1).alloc o2).alloc o3).heap[w.heap.size]? = some o1 ∧ (((w.alloc o1).alloc o2).alloc o3).heap[w.heap.size + 1]? = some o2 ∧ (((w.alloc o1).alloc o2).alloc o3).heap[w.heap.size + 1 + 1]? = some o3 := by
  have e1 : (w.alloc o1).heap.size = w.heap.size + 1 := by simp
  have e2 : ((w.alloc o1).alloc o2).heap.size = w.heap.size + 1 + 1 := by simp
  have q1 := heap_alloc_new (w.alloc o1) o2
  have q2 := heap_alloc_new ((w.alloc o1).alloc o2) o3
  rw [e1] at q1
  rw [e2] at q2
  refine ⟨?_, ?_, q2⟩
  · rw [heap_alloc_old _ _ (by omega), heap_alloc_old _ _ (by omega)]; exact heap_alloc_new w o1
  · rw [heap_alloc_old _ _ (by omega)]; exact q1

theorem heap4 (w : World) (o1 o2 o3 o4 : Obj) :
    ((((w.alloc o1).alloc o2).alloc o3).alloc o4).heap[w.heap.size]? = some o1 ∧ ((((w.alloc o1).alloc o2).alloc o3).alloc o4).heap[w.heap.size + 1]? = some o2 ∧
    ((((w.alloc o1).alloc o2).alloc o3).alloc o4).heap[w.heap.size + 2]? = some o3 ∧ ((((w.alloc o1).alloc o2).alloc o3).alloc o4).heap[w.heap.size + 3]? = some o4 := by
  have e1 : (w.alloc o1).heap.size = w.heap.size + 1 := by simp
  have e2 : ((w.alloc o1).alloc o2).heap.size = w.heap.size + 2 := by simp
  have e3 : (((w.alloc o1).alloc o2).alloc o3).heap.size = w.heap.size + 3 := by simp
  have q1 := heap_alloc_new (w.alloc o1) o2
  have q2 := heap_alloc_new ((w.alloc o1).alloc o2) o3
  have q3 := heap_alloc_new (((w.alloc o1).alloc o2).alloc o3) o4
  rw [e1] at q1
  rw [e2] at q2
  rw [e3] at q3
  refine ⟨?_, ?_, ?_, q3⟩
  · rw [heap_alloc_old _ _ (by omega), heap_alloc_old _ _ (by omega), heap_alloc_old _ _ (by omega)]; exact heap_alloc_new w o1
  · rw [heap_alloc_old _ _ (by omega), heap_alloc_old _ _ (by omega)]; exact q1
  · rw [heap_alloc_old _ _ (by omega)]; exact q2

theorem heap_set8 {w : World} {g : Nat} {v : Nat → Int} {T : TypeId} (h : w.heap[g]? = some (.cells (arr v) T (0, 0))) (u : Nat → Int) :
    ((((((((w.setCell ⟨g, 0, none⟩ (.int .i64 (u 0))).setCell ⟨g, 1, none⟩ (.int .i64 (u 1))).setCell ⟨g, 2, none⟩ (.int .i64 (u 2))).setCell ⟨g, 3, none⟩ (.int .i64 (u 3))).setCell ⟨g, 4, none⟩ (.int .i64 (u 4))).setCell ⟨g, 5, none⟩ (.int .i64 (u 5))).setCell ⟨g, 6, none⟩ (.int .i64 (u 6))).setCell ⟨g, 7, none⟩ (.int .i64 (u 7))).heap[g]? = some (.cells (arr u) T (0, 0)) := by
  have h0 := heap_put h (show 0 < 8 by omega) ((u 0))
  have h1 := heap_put h0 (show 1 < 8 by omega) ((u 1))
  have h2 := heap_put h1 (show 2 < 8 by omega) ((u 2))
  have h3 := heap_put h2 (show 3 < 8 by omega) ((u 3))
  have h4 := heap_put h3 (show 4 < 8 by omega) ((u 4))
  have h5 := heap_put h4 (show 5 < 8 by omega) ((u 5))
  have h6 := heap_put h5 (show 6 < 8 by omega) ((u 6))
  have h7 := heap_put h6 (show 7 < 8 by omega) ((u 7))
  rw [h7, arr_ext (v := u) fun k hk => by rcases lt8 hk with rfl | rfl | rfl | rfl | rfl | rfl | rfl | rfl <;> simp [put]]

theorem below_set8 {w0 w : World} {B g : Nat} (hb : Below B w0 w) (hg : B ≤ g) (u : Nat → Int) : Below B w0 ((((((((w.setCell ⟨g, 0, none⟩ (.int .i64 (u 0))).setCell ⟨g, 1, none⟩ (.int .i64 (u 1))).setCell ⟨g, 2, none⟩ (.int .i64 (u 2))).setCell ⟨g, 3, none⟩ (.int .i64 (u 3))).setCell ⟨g, 4, none⟩ (.int .i64 (u 4))).setCell ⟨g, 5, none⟩ (.int .i64 (u 5))).setCell ⟨g, 6, none⟩ (.int .i64 (u 6))).setCell ⟨g, 7, none⟩ (.int .i64 (u 7))) :=
  ((((((((hb.setCell hg _).setCell hg _).setCell hg _).setCell hg _).setCell hg _).setCell hg _).setCell hg _).setCell hg _)

theorem heap_zero8 {w : World} {g : Nat} {v : Nat → Int} {T : TypeId} (h : w.heap[g]? = some (.cells (arr v) T (0, 0))) :
    ((((((((w.setCell ⟨g, 0, none⟩ (.int .i64 0)).setCell ⟨g, 1, none⟩ (.int .i64 0)).setCell ⟨g, 2, none⟩ (.int .i64 0)).setCell ⟨g, 3, none⟩ (.int .i64 0)).setCell ⟨g, 4, none⟩ (.int .i64 0)).setCell ⟨g, 5, none⟩ (.int .i64 0)).setCell ⟨g, 6, none⟩ (.int .i64 0)).setCell ⟨g, 7, none⟩ (.int .i64 0)).heap[g]? = some (.cells (arr fun _ => 0) T (0, 0)) := by
  have h0 := heap_put h (show 0 < 8 by omega) (0)
  have h1 := heap_put h0 (show 1 < 8 by omega) (0)
  have h2 := heap_put h1 (show 2 < 8 by omega) (0)
  have h3 := heap_put h2 (show 3 < 8 by omega) (0)
  have h4 := heap_put h3 (show 4 < 8 by omega) (0)
  have h5 := heap_put h4 (show 5 < 8 by omega) (0)
  have h6 := heap_put h5 (show 6 < 8 by omega) (0)
  have h7 := heap_put h6 (show 7 < 8 by omega) (0)
  rw [h7, arr_ext (v := fun _ => 0) fun k hk => by rcases lt8 hk with rfl | rfl | rfl | rfl | rfl | rfl | rfl | rfl <;> simp [put]]

theorem below_zero8 {w0 w : World} {B g : Nat} (hb : Below B w0 w) (hg : B ≤ g) : Below B w0 ((((((((w.setCell ⟨g, 0, none⟩ (.int .i64 0)).setCell ⟨g, 1, none⟩ (.int .i64 0)).setCell ⟨g, 2, none⟩ (.int .i64 0)).setCell ⟨g, 3, none⟩ (.int .i64 0)).setCell ⟨g, 4, none⟩ (.int .i64 0)).setCell ⟨g, 5, none⟩ (.int .i64 0)).setCell ⟨g, 6, none⟩ (.int .i64 0)).setCell ⟨g, 7, none⟩ (.int .i64 0)) :=
  ((((((((hb.setCell hg _).setCell hg _).setCell hg _).setCell hg _).setCell hg _).setCell hg _).setCell hg _).setCell hg _)

/-- Can it be seen next? -/
def readyV (v : Nat → Int) (rep seq : Int) (deps : Nat → Int) : Bool :=
  decide (0 ≤ rep ∧ rep ≤ 7 ∧ 1 ≤ seq ∧ v rep.toNat = seq - 1 ∧ deps rep.toNat = seq - 1) && all8 fun i => i == rep.toNat || decide (deps i ≤ v i)

theorem readyV_iff {v deps : Nat → Int} {rep seq : Int} : readyV v rep seq deps = true ↔ (0 ≤ rep ∧ rep ≤ 7 ∧ 1 ≤ seq ∧ v rep.toNat = seq - 1 ∧ deps rep.toNat = seq - 1) ∧ ∀ i, i < 8 → i ≠ rep.toNat → deps i ≤ v i := by
  unfold readyV
  rw [Bool.and_eq_true, all8_iff, decide_eq_true_iff]
  refine and_congr Iff.rfl ⟨fun h i hi hne => ?_, fun h i hi => ?_⟩
  · have := h i hi
    rw [Bool.or_eq_true, beq_iff_eq, decide_eq_true_iff] at this
    rcases this with e | e
    · exact absurd e hne
    · exact e
  · rw [Bool.or_eq_true, beq_iff_eq, decide_eq_true_iff]
    by_cases e : i = rep.toNat
    · exact Or.inl e
    · exact Or.inr (h i hi e)

theorem joinV_at (a b : Nat → Int) (i : Nat) : joinV a b i = max (a i) (b i) := by unfold joinV; split <;> omega
theorem meetV_at (a b : Nat → Int) (i : Nat) : meetV a b i = min (a i) (b i) := by unfold meetV; split <;> omega
theorem joinV_comm (a b : Nat → Int) : joinV a b = joinV b a := by funext i; simp only [joinV_at]; omega
theorem meetV_comm (a b : Nat → Int) : meetV a b = meetV b a := by funext i; simp only [meetV_at]; omega
theorem joinV_same (a : Nat → Int) : joinV a a = a := by funext i; simp only [joinV_at]; omega
theorem meetV_same (a : Nat → Int) : meetV a a = a := by funext i; simp only [meetV_at]; omega
theorem joinV_assoc (a b c : Nat → Int) : joinV a (joinV b c) = joinV (joinV a b) c := by funext i; simp only [joinV_at]; omega
theorem meetV_assoc (a b c : Nat → Int) : meetV a (meetV b c) = meetV (meetV a b) c := by funext i; simp only [meetV_at]; omega
theorem joinV_takes (a b : Nat → Int) : joinV a (meetV a b) = a := by funext i; simp only [joinV_at, meetV_at]; omega
theorem meetV_takes (a b : Nat → Int) : meetV a (joinV a b) = a := by funext i; simp only [joinV_at, meetV_at]; omega
theorem cov_join (a b c : Nat → Int) : (covV c a && covV c b) = covV c (joinV a b) := by
  rw [Bool.eq_iff_iff, Bool.and_eq_true, covV_iff, covV_iff, covV_iff]
  refine ⟨fun ⟨h, k⟩ i hi => ?_, fun h => ⟨fun i hi => ?_, fun i hi => ?_⟩⟩
  · have := h i hi; have := k i hi; rw [joinV_at]; omega
  · have := h i hi; rw [joinV_at] at this; omega
  · have := h i hi; rw [joinV_at] at this; omega
theorem cov_meet (a b c : Nat → Int) : (covV a c && covV b c) = covV (meetV a b) c := by
  rw [Bool.eq_iff_iff, Bool.and_eq_true, covV_iff, covV_iff, covV_iff]
  refine ⟨fun ⟨h, k⟩ i hi => ?_, fun h => ⟨fun i hi => ?_, fun i hi => ?_⟩⟩
  · have := h i hi; have := k i hi; rw [meetV_at]; omega
  · have := h i hi; rw [meetV_at] at this; omega
  · have := h i hi; rw [meetV_at] at this; omega
theorem cov_left (a b : Nat → Int) : covV (joinV a b) a = true := covV_iff.2 fun i _ => by rw [joinV_at]; omega
theorem cov_right (a b : Nat → Int) : covV (joinV a b) b = true := covV_iff.2 fun i _ => by rw [joinV_at]; omega
theorem cov_under (a b : Nat → Int) : covV a (meetV a b) = true := covV_iff.2 fun i _ => by rw [meetV_at]; omega
theorem cov_under2 (a b : Nat → Int) : covV b (meetV a b) = true := covV_iff.2 fun i _ => by rw [meetV_at]; omega

/-- Are they the same? -/
def eqV (a b : Nat → Int) : Bool := all8 fun i => a i == b i
theorem eqV_iff {a b : Nat → Int} : eqV a b = true ↔ ∀ i, i < 8 → a i = b i := by
  unfold eqV
  rw [all8_iff]
  simp only [beq_iff_eq]
theorem cov_both (a b : Nat → Int) : (covV a b && covV b a) = eqV a b := by
  rw [Bool.eq_iff_iff, Bool.and_eq_true, covV_iff, covV_iff, eqV_iff]
  refine ⟨fun ⟨h, k⟩ i hi => ?_, fun h => ⟨fun i hi => ?_, fun i hi => ?_⟩⟩
  · have := h i hi; have := k i hi; omega
  · have := h i hi; omega
  · have := h i hi; omega

end Go.Proofs.Ytonpafakhbinmaa.VecMath
