/-
  A slice of structs of k cells that is only read; one that was appended to. It needs no program.
-/
import Derived.Test.YtoobmkkmomiigaaBase
import Derived.Laws.AppendOwnNone
namespace Go.Proofs.Ytoobmkkmomiigaa
open Go.RowKit

/-- The slice with address A and length n reads as rows of k cells, and lies below block B. -/
def TabIn (k : Nat) (W : World) (B : Nat) (A : Option Addr) (n : Nat) (rows : List (Array Value)) : Prop :=
  rows.length = n ∧ (0 < n → ∃ g o, A = some ⟨g, o, none⟩ ∧ g < B ∧ ∀ j (h : j < rows.length) i v, rows[j][i]? = some v → W.cell? ⟨g, o + j * k + i, none⟩ = some v)

theorem TabIn.below {k : Nat} {W W' : World} {B : Nat} {A : Option Addr} {n : Nat} {rows : List (Array Value)} (h : TabIn k W B A n rows) (hb : Below B W W') : TabIn k W' B A n rows :=
  ⟨h.1, fun hn => by
    obtain ⟨g, o, e, hg, hc⟩ := h.2 hn
    exact ⟨g, o, e, hg, fun j hj i v hv => (hb.cell (p := ⟨g, o + j * k + i, none⟩) hg).trans (hc j hj i v hv)⟩⟩

theorem TabIn.more {k : Nat} {W : World} {B B' : Nat} {A : Option Addr} {n : Nat} {rows : List (Array Value)} (h : TabIn k W B A n rows) (hB : B ≤ B') : TabIn k W B' A n rows :=
  ⟨h.1, fun hn => by
    obtain ⟨g, o, e, hg, hc⟩ := h.2 hn
    exact ⟨g, o, e, by omega, hc⟩⟩

theorem TabIn.take {k : Nat} {W : World} {B : Nat} {A : Option Addr} {n : Nat} {rows : List (Array Value)} (h : TabIn k W B A n rows) {m : Nat} (hm : m ≤ n) : TabIn k W B A m (rows.take m) :=
  ⟨by rw [List.length_take, h.1]; omega, fun hn => by
    obtain ⟨g, o, e, hg, hc⟩ := h.2 (by omega)
    refine ⟨g, o, e, hg, fun j hj i v hv => ?_⟩
    rw [List.length_take] at hj
    rw [List.getElem_take] at hv
    exact hc j (by omega) i v hv⟩

theorem TabIn.nil (k : Nat) (W : World) (B : Nat) (A : Option Addr) : TabIn k W B A 0 [] := ⟨rfl, fun h => absurd h (by omega)⟩

/-- The cells of rows, one behind the other. -/
def flat (rows : List (Array Value)) : List Value := rows.flatMap Array.toList

theorem flat_nil : flat [] = [] := rfl
theorem flat_append (a b : List (Array Value)) : flat (a ++ b) = flat a ++ flat b := by simp [flat]
theorem flat_one (r : Array Value) : flat [r] = r.toList := by simp [flat]

theorem flat_len {k : Nat} : ∀ {rows : List (Array Value)}, (∀ r ∈ rows, r.size = k) → (flat rows).length = rows.length * k
  | [], _ => by simp [flat]
  | r :: l, h => by
    have h1 := h r (List.mem_cons_self ..)
    have h2 := flat_len (rows := l) fun x hx => h x (List.mem_cons_of_mem _ hx)
    unfold flat at h2 ⊢
    rw [List.flatMap_cons, List.length_append, h2, Array.length_toList, h1, List.length_cons, Nat.add_mul]
    omega

theorem flat_at {k : Nat} : ∀ {rows : List (Array Value)}, (∀ r ∈ rows, r.size = k) → ∀ (j : Nat) (hj : j < rows.length) (i : Nat), i < k → (flat rows)[j * k + i]? = rows[j][i]?
  | r :: l, h, 0, _, i, hi => by
    have h1 := h r (List.mem_cons_self ..)
    unfold flat
    rw [List.flatMap_cons, List.getElem?_append_left (by rw [Array.length_toList]; omega)]
    simp
  | r :: l, h, j + 1, hj, i, hi => by
    have h1 := h r (List.mem_cons_self ..)
    have h2 := flat_at (rows := l) (fun x hx => h x (List.mem_cons_of_mem _ hx)) j (by simpa using hj) i hi
    unfold flat at h2 ⊢
    rw [List.flatMap_cons, List.getElem?_append_right (by rw [Array.length_toList, h1, Nat.add_mul]; omega), Array.length_toList, h1]
    rw [show (j + 1) * k + i - k = j * k + i by rw [Nat.add_mul]; omega, h2]
    rfl
  | [], _, _, hj, _, _ => absurd hj (by simp)

theorem flat_out {k : Nat} {rows : List (Array Value)} (h : ∀ r ∈ rows, r.size = k) {p : Nat} {v : Value} (hp : (flat rows)[p]? = some v) : ∃ j i, ∃ hj : j < rows.length, p = j * k + i ∧ rows[j][i]? = some v := by
  have hl := flat_len h
  have hlt := (List.getElem?_eq_some_iff.1 hp).1
  rw [hl] at hlt
  have hk : 0 < k := by
    rcases Nat.eq_zero_or_pos k with h0 | h0
    · subst h0; omega
    · exact h0
  have hj : p / k < rows.length := (Nat.div_lt_iff_lt_mul hk).2 hlt
  have hi := Nat.mod_lt p hk
  have hpe : p = p / k * k + p % k := by rw [Nat.mul_comm]; exact (Nat.div_add_mod p k).symm
  refine ⟨p / k, p % k, hj, hpe, ?_⟩
  rw [← flat_at h _ hj _ hi, ← hpe]
  exact hp

theorem tab_add (g o i : Nat) : Addr.add ⟨g, o, none⟩ i = ⟨g, o + i, none⟩ := by
  unfold Addr.add
  split <;> simp_all

/-- What was appended to reads so. -/
theorem tab_own {k : Nat} {W : World} {base : Nat} {e : TypeId} {v : Value} {n : Nat} {rows : List (Array Value)} (hk : ∀ r ∈ rows, r.size = k) (hn : rows.length = n) (h : W.ownsRow base e k v n (flat rows)) :
    ∃ (A : Option Addr) (c : Nat), v = .slice A n c ∧ TabIn k W W.heap.size A n rows ∧ n ≤ c ∧ c ≤ maxLen ∧ (A = Option.none → c = 0) := by
  rcases h.2 with ⟨rfl, h0⟩ | ⟨g, cap, cur, rfl, hb, hg, hnc, hcm, _, _⟩
  · exact ⟨Option.none, 0, by rw [h0], ⟨hn, fun hn' => by omega⟩, by omega, by decide, fun _ => rfl⟩
  · refine ⟨some ⟨g, 0, Option.none⟩, cap, rfl, ⟨hn, fun _ => ⟨g, 0, rfl, (Array.getElem?_eq_some_iff.1 hg).1, fun j hj i u hu => ?_⟩⟩, hnc, hcm, fun h => by cases h⟩
    have hi : i < k := by
      have := (Array.getElem?_eq_some_iff.1 hu).1
      rw [hk _ (List.getElem_mem hj)] at this
      exact this
    have q := h.cells (g := g) rfl (j * k + i) u (by rw [flat_at hk j hj i hi]; exact hu)
    rw [tab_add] at q
    rw [show (0 : Nat) + j * k + i = 0 + (j * k + i) by omega]
    exact q

theorem flat_cells {rows : List (Array Value)} (hk : ∀ r ∈ rows, ∀ u ∈ r.toList, u.oneCell' = true) : ∀ u ∈ flat rows, u.oneCell' = true := by
  intro u hu
  obtain ⟨r, hr, hu⟩ := List.mem_flatMap.1 hu
  exact hk r hr u hu

end Go.Proofs.Ytoobmkkmomiigaa
