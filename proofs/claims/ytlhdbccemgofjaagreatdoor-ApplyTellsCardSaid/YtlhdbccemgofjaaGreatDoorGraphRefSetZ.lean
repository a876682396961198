/-
  The walk of the document's own Set (graphs).
-/
import Derived.Test.YtlhdbccemgofjaaGreatDoorGraphRefDropZ
namespace Go.Proofs.YtlhdbccemgofjaaGreatDoor
open Go.RowKit StampMath GraphMath OpMath

/-- What Set makes of an inode. -/
def setI (id : St) (mode : Int) (data : ByteArray) (x : Ino) : Ino := if x.id = id then { x with mode := mode, data := data } else x

theorem setG_eq (g : Gr) (id : St) (mode : Int) (data : ByteArray) : setG g id mode data = if (getG g id).isSome = false then (g, 3) else (⟨g.I.map (setI id mode data), g.E⟩, 0) := by
  unfold setG
  cases h : getG g id with
  | none => simp
  | some x => rfl

/-- The first k of them set. -/
def setK (id : St) (mode : Int) (data : ByteArray) (I : List Ino) (k : Nat) : List Ino := (I.take k).map (setI id mode data) ++ I.drop k

theorem setK_zero (id : St) (mode : Int) (data : ByteArray) (I : List Ino) : setK id mode data I 0 = I := by simp [setK]
theorem setK_all (id : St) (mode : Int) (data : ByteArray) (I : List Ino) (k : Nat) (h : I.length ≤ k) : setK id mode data I k = I.map (setI id mode data) := by
  unfold setK
  rw [List.take_of_length_le h, List.drop_of_length_le h, List.append_nil]
theorem setK_len (id : St) (mode : Int) (data : ByteArray) (I : List Ino) (k : Nat) : (setK id mode data I k).length = I.length := by
  unfold setK
  rw [List.length_append, List.length_map, ← List.length_append, List.take_append_drop]
theorem setK_at (id : St) (mode : Int) (data : ByteArray) (I : List Ino) (k : Nat) (h : k < I.length) : (setK id mode data I k)[k]? = some I[k] := by
  unfold setK
  rw [List.getElem?_append_right (by rw [List.length_map, List.length_take]; omega), List.length_map, List.length_take, show k - min k I.length = 0 by omega, List.getElem?_drop, Nat.add_zero]
  exact List.getElem?_eq_getElem h
theorem setK_succ (id : St) (mode : Int) (data : ByteArray) (I : List Ino) (k : Nat) (h : k < I.length) : setK id mode data I (k + 1) = (setK id mode data I k).set k (setI id mode data I[k]) := by
  unfold setK
  rw [List.take_succ_eq_append_getElem h, List.map_append]
  have hl : ((I.take k).map (setI id mode data)).length = k := by rw [List.length_map, List.length_take]; omega
  rw [List.set_append_right _ _ (by omega), hl, Nat.sub_self, List.drop_eq_getElem_cons h, List.set_cons_zero, List.append_assoc]
  rfl

/-- Mode and data of row k written. -/
theorem flat_set (I : List Ino) (k : Nat) (h : k < I.length) (mode : Int) (data : ByteArray) (x : Ino) (hx : I[k] = x) :
    ((flat (I.map inoA)).set (k * 6 + 4) (.int .i64 mode)).set (k * 6 + 5) (.string data) = flat ((I.set k { x with mode := mode, data := data }).map inoA) := by
  apply List.ext_getElem?
  intro p
  have hl : (flat (I.map inoA)).length = I.length * 6 := by rw [flat_len ino_sizes, List.length_map]
  have hl2 : (flat ((I.set k { x with mode := mode, data := data }).map inoA)).length = I.length * 6 := by rw [flat_len ino_sizes, List.length_map, List.length_set]
  by_cases hp : p < I.length * 6
  · have hj : p / 6 < I.length := by omega
    have hi : p % 6 < 6 := Nat.mod_lt _ (by decide)
    have hpe : p = p / 6 * 6 + p % 6 := by omega
    obtain ⟨j, hjd⟩ : ∃ j, j = p / 6 := ⟨_, rfl⟩
    obtain ⟨i, hid⟩ : ∃ i, i = p % 6 := ⟨_, rfl⟩
    rw [← hjd, ← hid] at hpe
    rw [← hjd] at hj
    rw [← hid] at hi
    subst hpe
    have f1 := flat_at (k := 6) (ino_sizes (I := I)) j (by rw [List.length_map]; exact hj) i hi
    have f2 := flat_at (k := 6) (ino_sizes (I := I.set k { x with mode := mode, data := data })) j (by rw [List.length_map, List.length_set]; exact hj) i hi
    rw [f2]
    rw [List.getElem?_set, List.getElem?_set, f1, List.length_set, hl]
    by_cases hjk : j = k
    · subst hjk
      have hi6 : i = 0 ∨ i = 1 ∨ i = 2 ∨ i = 3 ∨ i = 4 ∨ i = 5 := by omega
      rcases hi6 with rfl | rfl | rfl | rfl | rfl | rfl <;> simp [inoA, hx] <;> omega
    · rw [if_neg (by omega), if_neg (by omega)]
      simp [Ne.symm hjk]
  · rw [List.getElem?_eq_none (by simp; omega), List.getElem?_eq_none (by omega)]

/-- An owned row whose k-th inode is written. -/
theorem own_write {W : World} {base u : Nat} {n cap : Nat} {I : List Ino} (h : W.ownsRow base 54 6 (.slice (some ⟨u, 0, none⟩) n cap) n (flat (I.map inoA))) {k : Nat} (hk : k < I.length) (mode : Int) (data : ByteArray) :
    ((W.setCell ⟨u, k * 6 + 4, none⟩ (.int .i64 mode)).setCell ⟨u, k * 6 + 5, none⟩ (.string data)).ownsRow base 54 6 (.slice (some ⟨u, 0, none⟩) n cap) n (flat ((I.set k { I[k] with mode := mode, data := data }).map inoA)) := by
  obtain ⟨h1, h2⟩ := h
  rcases h2 with ⟨h0, _⟩ | ⟨g, cap', cur, he, hb, hg, hnc, hcm, hsz, htk⟩
  · cases h0
  · injection he with e1 e2 e3
    injection e1 with e1
    injection e1 with e1
    subst e1 e3
    refine ⟨by rw [← flat_set I k hk mode data I[k] rfl, List.length_set, List.length_set]; exact h1, Or.inr ⟨u, cap, _, rfl, hb, heap_setCell_same _ _ _ _ _ _ (heap_setCell_same _ _ _ _ _ _ hg), hnc, hcm, by simp [hsz], ?_⟩⟩
    rw [← flat_set I k hk mode data I[k] rfl, ← htk, Array.toList_setIfInBounds, Array.toList_setIfInBounds]
    rw [List.take_set, List.take_set]

end Go.Proofs.YtlhdbccemgofjaaGreatDoor
