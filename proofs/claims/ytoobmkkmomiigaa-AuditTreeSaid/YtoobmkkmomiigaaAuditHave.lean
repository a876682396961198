/-
  What the statements of layer 10 need of the package's own calls; and the statements' head.
-/
import Derived.Test.YtoobmkkmomiigaaAuditRef
import Derived.Test.YtoobmkkmomiigaaAuditGiven
import Derived.Test.YtoobmkkmomiigaaSep
namespace Go.Proofs.Ytoobmkkmomiigaa
open Go.RowKit StampMath GraphMath OpMath

structure AuditHave : Prop where
  check : ∀ (A : Option Addr) (n c : Nat) (N : List Ino) (A' : Option Addr) (m d : Nat) (E : List Ent) (w : World), Given w A n N A' m E →
    Calls Try.prog 14 #[.slice A n c, .slice A' m d] w fun e w' => ∃ (v : Value) (l : List Int), e = .returned v ∧ IsCheck N E l ∧ w'.ownsRow w.heap.size 3 1 v l.length (intV l) ∧ Below w.heap.size w w'
  fine : ∀ (A : Option Addr) (n c : Nat) (N : List Ino) (A' : Option Addr) (m d : Nat) (E : List Ent) (w : World), Given w A n N A' m E →
    Calls Try.prog 8 #[.slice A n c, .slice A' m d] w fun e w' => ∃ b : Bool, e = .returned (.bool b) ∧ (b = true ↔ fineP N E) ∧ Below w.heap.size w w'
  reach : ∀ (A : Option Addr) (n c : Nat) (N : List Ino) (A' : Option Addr) (m d : Nat) (E : List Ent) (w : World), Given w A n N A' m E →
    Calls Try.prog 10 #[.slice A n c, .slice A' m d] w fun e w' => ∃ (v : Value) (l : List St), e = .returned v ∧ IsReach N E l ∧ w'.ownsRow w.heap.size 29 2 v l.length (flat (l.map stA)) ∧ Below w.heap.size w w'
  cmp : ∀ (a b : St) (w : World), Calls Try.prog 12 #[.agg (stA a), .agg (stA b)] w fun e w' => e = .returned (.int .i64 (cmp a.1 a.2 b.1 b.2)) ∧ Below w.heap.size w w'

/-! ### the head -/

def rootI : Ino := ⟨(0, 0), 1, 0, 0, ⟨#[]⟩⟩
def fileI : Ino := ⟨(1, 0), 2, 0, 0, ⟨#[]⟩⟩

theorem root_fine : fineP [rootI] [] := by
  refine ⟨⟨List.pairwise_singleton _ _, List.Pairwise.nil⟩, ⟨fun x hx => ?_, fun e he => (by cases he), rfl⟩, fun e he => (by cases he), fun x hx => ?_, fun x hx => ?_, fun x hx => ?_, fun x hx => ?_, by decide⟩
  all_goals obtain rfl := List.mem_singleton.1 hx
  · exact ⟨rfl, by decide, by decide⟩
  · rfl
  · rfl
  · exact ⟨0, .root rfl⟩
  · exact ⟨by decide, by decide, fun _ => rfl, fun h => absurd h (by decide), fun h => absurd h (by decide)⟩

theorem file_faults {l : List Int} (h : IsCheck [rootI, fileI] [] l) : l = [5, 6] := by
  have hr : ∀ {s : St}, Reached [rootI, fileI] [] s → s = (0, 0) := by
    rintro s ⟨n, h⟩
    cases h with
    | root _ => rfl
    | step h _ _ _ => cases h
  have two : ∀ x ∈ [rootI, fileI], x = rootI ∨ x = fileI := fun x hx => by simpa using hx
  have o1 : orderOk [rootI, fileI] [] := ⟨by simp [rootI, fileI, lessS, lessB], List.Pairwise.nil⟩
  have o2 : shapeOk [rootI, fileI] [] := ⟨fun x hx => by rcases two x hx with rfl | rfl <;> exact ⟨rfl, by decide, by decide⟩, fun e he => (by cases he), rfl⟩
  have o3 : lostOk [rootI, fileI] [] := fun e he => (by cases he)
  have o4 : countOk [rootI, fileI] [] := fun x hx => by rcases two x hx with rfl | rfl <;> rfl
  have o5 : ¬ manyOk [rootI, fileI] [] := fun q => by
    have h1 := q fileI (by simp)
    unfold manyOk1 at h1
    rw [if_neg (by decide)] at h1
    exact absurd h1.1 (by decide)
  have o6 : ¬ apartOk [rootI, fileI] [] := fun q => absurd (hr (q fileI (by simp))) (by decide)
  have o7 : boundsOk [rootI, fileI] := ⟨fun x hx => by rcases two x hx with rfl | rfl <;> exact ⟨by decide, by decide, fun h => (by first | rfl | exact absurd h (by decide)), fun h => (by first | decide | exact absurd h (by decide)), fun h => absurd h (by decide)⟩, by decide⟩
  have hm : ∀ k, k ∈ l ↔ k = 5 ∨ k = 6 := fun k => by
    rw [h.2]
    unfold faultOf
    simp [o1, o2, o3, o4, o5, o6, o7]
  match l, h.1, hm with
  | [], _, hm => have := (hm 5).2 (Or.inl rfl); cases this
  | [a], _, hm =>
    have h5 := (hm 5).2 (Or.inl rfl)
    have h6 := (hm 6).2 (Or.inr rfl)
    simp at h5 h6
    omega
  | a :: b :: [], hp, hm =>
    have ha := (hm a).1 (by simp)
    have hb := (hm b).1 (by simp)
    have hab : a < b := by simpa using hp
    have h1 : a = 5 := by omega
    have h2 : b = 6 := by omega
    rw [h1, h2]
  | a :: b :: c :: l, hp, hm =>
    have ha := (hm a).1 (by simp)
    have hb := (hm b).1 (by simp)
    have hc := (hm c).1 (by simp)
    obtain ⟨h1, h2⟩ := List.pairwise_cons.1 hp
    obtain ⟨h3, _⟩ := List.pairwise_cons.1 h2
    have q1 := h1 b (by simp)
    have q2 := h3 c (by simp)
    omega

theorem heap_new {W : World} {o : Obj} {i : Nat} (h : W.heap.size = i) : (W.alloc o).heap[i]? = some o := by
  subst h
  exact heap_alloc_new _ _

/-- What is written out in a block reads so. -/
theorem tab_lit {k : Nat} {W : World} {g : Nat} {rows : List (Array Value)} {cs : Array Value} {T : TypeId} (hk : ∀ r ∈ rows, r.size = k) (h : W.heap[g]? = some (.cells cs T (0, 0))) (hc : cs = (flat rows).toArray) : TabIn k W W.heap.size (some ⟨g, 0, none⟩) rows.length rows := by
  subst hc
  refine ⟨rfl, fun _ => ⟨g, 0, rfl, heap_lt h, fun j hj i v hv => ?_⟩⟩
  have hi : i < k := by rw [← hk rows[j] (List.getElem_mem hj)]; exact (Array.getElem?_eq_some_iff.1 hv).1
  rw [cell_of_row _ _ _ _ _ (0, 0) h, Nat.zero_add, List.getElem?_toArray, flat_at hk j hj i hi]
  exact hv

theorem given_nil (w : World) (A : Option Addr) (N : List Ino) (n : Nat) (h : InosIn w w.heap.size A n N) (hn : n ≤ 1000) (hd : ∀ x ∈ N, x.data.size ≤ maxLen) : Given w A n N none 0 [] :=
  ⟨h, TabIn.nil 5 w _ _, hn, by omega, hd, fun e he => by cases he⟩

theorem AuditHave.shown (H : AuditHave) (w : World) :
    Calls Try.prog 6 #[] w fun e w' => e = .returned (.bool true) ∧ Below w.heap.size w w' := by
  go_enter Try.func6, Try.ntmps6
  go_wp2_with fail
  refine (H.fine _ 1 1 [rootI] none 0 0 [] _ (given_nil _ _ _ _ (tab_lit (rows := [inoA rootI]) (T := 31) (by simp [inoA]) (heap_new (by simp)) (by rfl)) (by omega) (fun x hx => by obtain rfl := List.mem_singleton.1 hx; decide))).mono ?_
  rintro e w1 ⟨b, rfl, hb, hb1⟩
  obtain rfl : b = true := hb.2 root_fine
  have hH := ((((Held.refl w).alloc (.cells (inoA rootI) 31) rfl).alloc (g := w.heap.size + 1) (.cells (inoA fileI) 31) (by simp)).alloc (g := w.heap.size + 2) (.cells (inoA rootI) 31) (by simp)).step hb1
  clear hb hb1
  obtain ⟨r0, r1, r2, r3, r4, r5⟩ := ino_cells (g := w.heap.size) (hH.at 2 rfl)
  obtain ⟨f0, f1, f2, f3, f4, f5⟩ := ino_cells (g := w.heap.size + 1) (hH.at 1 rfl)
  simp only [rootI, fileI] at r0 r1 r2 r3 r4 r5 f0 f1 f2 f3 f4 f5
  have HH := Lib.hid hH
  clear hH
  go_wp2_with fail
  refine (H.check _ 2 2 [rootI, fileI] none 0 0 [] _ (given_nil _ _ _ _ (tab_lit (rows := [inoA rootI, inoA fileI]) (T := 31) (by simp [inoA]) (heap_new rfl) (by rfl)) (by omega) (fun x hx => by
    have : x = rootI ∨ x = fileI := by simpa using hx
    rcases this with rfl | rfl <;> decide))).mono ?_
  rintro e w2 ⟨v, l, rfl, hc, hown, hb2⟩
  obtain rfl := file_faults hc
  clear hc
  obtain ⟨A, c, rfl, hin, _, _⟩ := ints_own hown
  have hB : Below w.heap.size w w2 := below_step HH.out.below (below_step ((Below.refl _ _).alloc (Nat.le_refl _) _) hb2)
  clear hown hb2 r0 r1 r2 r3 r4 r5 f0 f1 f2 f3 f4 f5
  have HI := Lib.hid hin
  clear hin
  go_wp2_with fail
  refine (refInts _ 2 _ [5, 6] _ 2 2 [5, 6] (by omega) (by omega) _ ((HI.out.below ((Below.refl _ _).alloc (Nat.le_refl _) _)).more (by simp)) ⟨rfl, fun _ => ⟨w2.heap.size, 0, rfl, by simp, fun j hj => ?_⟩⟩).mono ?_
  · rw [cell_of_row _ _ _ _ _ (0, 0) (heap_new rfl)]
    match j, hj with
    | 0, _ => rfl
    | 1, _ => rfl
  rintro e w3 ⟨rfl, hb3⟩
  go_wp2_with fail
  go_ret
  exact ⟨by simp, below_step hB (below_step ((Below.refl _ _).alloc (Nat.le_refl _) _) hb3)⟩

end Go.Proofs.Ytoobmkkmomiigaa
