/-
  A slice of structs appended to one of the call's own, whatever its address; parts of such a slice. It needs no program.
-/
import Derived.Test.YtoobmkkmomiigaaTabs
import Derived.Laws.AppendOwnNone
namespace Go.Proofs.Ytoobmkkmomiigaa
open Go.RowKit

theorem wpList_append_tab {P : Program} {w : World} {ops : Array Oper} {rest : List Oper} {o : Oper} {a : Act} {Q : Exit → Act → World → Prop} (hgd : o.guard = none) (s x : Operand) (t : TypeId)
    (ho : o.op = .call { callee := .builtin .append, args := #[s, x], argTypes := #[t, t] })
    (base : Nat) (e : TypeId) (i : TypeInfo) (z : Value) (k bytes : Nat) (ht : P.underlying t = some (.slice e)) (hi : P.info? e = some i) (hz : i.zero = some z)
    (hsize : i.size = k) (hby : i.bytes = bytes) (hzs : z.cells.size = k) (hk : 0 < k)
    (v : Value) (n : Nat) (rows : List (Array Value)) (hs : a.eval s = v) (hown : w.ownsRow base e k v n (flat rows))
    (A : Option Addr) (m c B : Nat) (ys : List (Array Value)) (hx : a.eval x = .slice A m c) (hr : TabIn k w B A m ys) (hA : A = none → c = 0)
    (hyk : ∀ r ∈ ys, r.size = k) (hy1 : ∀ r ∈ ys, ∀ u ∈ r.toList, u.oneCell' = true)
    (h63 : n + m ≤ maxLen) (hbytes : (n + m) * bytes ≤ 140737488355328) (hbase : base ≤ w.heap.size)
    (h : ∀ v' w', w'.ownsRow base e k v' (n + m) (flat (rows ++ ys)) → w.grownBy w' v.ownBlock → wpList P ops Q rest (a.put o.dst v') w') : wpList P ops Q (o :: rest) a w := by
  cases A with
  | none =>
    have hm : m = 0 := by
      rcases Nat.eq_zero_or_pos m with h0 | h0
      · exact h0
      · obtain ⟨g, o', e', _⟩ := hr.2 h0
        cases e'
    subst hm
    have hy : ys = [] := List.eq_nil_of_length_eq_zero hr.1
    subst hy
    rw [hA rfl] at hx
    refine wpList_append_own_none hgd s x t ho base e i k ht hi v n (flat rows) hs hown hx (h v w ?_ (World.grownBy.refl w _))
    rw [List.append_nil]
    exact hown
  | some ad =>
    refine wpList_append_own w hgd s x t ho base e i z k bytes ht hi hz hsize hby hzs hk v n (flat rows) hs hown ad m c (flat ys) hx (by rw [flat_len hyk, hr.1]) ?_ (flat_cells hy1) h63 hbytes hbase fun v' w' h2 h3 _ => h v' w' (by rw [flat_append]; exact h2) h3
    intro j u hu
    obtain ⟨jj, i', hj, rfl, hv⟩ := flat_out hyk hu
    obtain ⟨g, o', e', _, hc⟩ := hr.2 (by have := hr.1; omega)
    injection e' with e'
    subst e'
    rw [tab_add, ← Nat.add_assoc]
    exact hc jj hj i' u hv

theorem TabIn.drop {k : Nat} {W : World} {B : Nat} {g o n : Nat} {rows : List (Array Value)} (h : TabIn k W B (some ⟨g, o, none⟩) n rows) {m : Nat} (hm : m ≤ n) : TabIn k W B (some ⟨g, o + m * k, none⟩) (n - m) (rows.drop m) :=
  ⟨by rw [List.length_drop, h.1], fun hn => by
    obtain ⟨g', o', e, hg, hc⟩ := h.2 (by omega)
    injection e with e
    injection e with e1 e2
    subst e1 e2
    refine ⟨g, o + m * k, rfl, hg, fun j hj i v hv => ?_⟩
    rw [List.length_drop] at hj
    rw [List.getElem_drop] at hv
    have q := hc (m + j) (by omega) i v hv
    rw [show o + m * k + j * k + i = o + (m + j) * k + i by rw [Nat.add_mul]; omega]
    exact q⟩

theorem grownBy_set (W : World) (b i : Nat) (v : Value) : W.grownBy (W.setCell ⟨b, i, none⟩ v) (some b) :=
  ⟨rfl, rfl, rfl, by simp, fun k _ hk => heap_setCell_other _ _ _ _ (fun e => hk (by dsimp only at e; rw [e]))⟩

/-- A row is kept where a block below it is written. -/
theorem own_set2 {W : World} {base : Nat} {e : TypeId} {k : Nat} {v : Value} {n : Nat} {xs : List Value} (h : W.ownsRow base e k v n xs) {b : Nat} (hb : b < base) (x y : Value) : ((W.setCell ⟨b, 0, none⟩ x).setCell ⟨b, 1, none⟩ y).ownsRow base e k v n xs := by
  have hne : v.ownBlock = none ∨ v.ownBlock ≠ some b := Or.inr fun e => by have := (h.lt b e).1; omega
  exact (h.kept (grownBy_set W b 0 x) hne).kept (grownBy_set _ b 1 y) hne

/-- A slice of no elements, newly made, is owned. -/
theorem own_empty (w : World) (base : Nat) (e : TypeId) (k : Nat) (hb : base ≤ w.heap.size) : (w.alloc (.cells #[] e)).ownsRow base e k (.slice (some ⟨w.heap.size, 0, none⟩) 0 0) 0 (flat []) :=
  ⟨by simp [flat], Or.inr ⟨w.heap.size, 0, #[], rfl, hb, heap_alloc_new w _, Nat.le_refl _, by decide, by simp, by simp [flat]⟩⟩

theorem take_while_at {α : Type} {f : α → Bool} : ∀ {l : List α} {k : Nat}, k ≤ l.length → (∀ j (h : j < l.length), j < k → f l[j] = true) → (∀ h : k < l.length, f l[k] = false) → l.take k = l.takeWhile f ∧ l.drop k = l.dropWhile f
  | [], k, hk, _, _ => by simp at hk; subst hk; simp
  | a :: l, 0, _, _, h2 => by
    have := h2 (by simp)
    simp at this
    simp [this]
  | a :: l, k + 1, hk, h1, h2 => by
    have ha := h1 0 (by simp) (by omega)
    simp at ha
    obtain ⟨i1, i2⟩ := take_while_at (l := l) (k := k) (by simpa using hk) (fun j hj hjk => by have := h1 (j + 1) (by simpa using hj) (by omega); simpa using this) (fun hkl => by have := h2 (by simpa using hkl); simpa using this)
    simp [ha, i1, i2]

end Go.Proofs.Ytoobmkkmomiigaa
