/-
  An argument that is a slice of deeds (two numbers and a string), opened; and how its bulk bounds the strings.
-/
import Derived.Test.YtgbfgjhaglmklaaDeeds
import Derived.Test.YtgbfgjhaglmklaaPackMath
import Derived.Test.YtgbfgjhaglmklaaRows
import Derived.ProofKit
import Derived.OpenShut
import Derived.Deep.Slices
import Derived.Deep.Strs
import Derived.ChangeSame
namespace Go.Proofs.Ytgbfgjhaglmklaa
open Go.ChangeShapes Go.WideShapes Go.RowKit PackMath

theorem deed_spot {w : World} {g o : Nat} {s : Option Nat} {v : Value} (h : w.cell? ⟨g, o, s⟩ = some v) : s = none := by
  unfold World.cell? at h
  cases hb : w.heap[g]? with
  | none => simp [hb] at h
  | some x =>
    cases x <;> simp [hb] at h
    exact h.1

theorem deed_add (g o i : Nat) : Addr.add ⟨g, o, none⟩ i = ⟨g, o + i, none⟩ := by
  unfold Addr.add
  split
  · next h => subst h; rfl
  · rfl

def strOf : Value → ByteArray
  | .string s => s
  | _ => ⟨#[]⟩

variable {H : Type} {enc : TypeId × Value → H}

theorem bulk_sum {f : Nat → Nat} {D : Nat → DataW H} : ∀ (l : List Nat), (∀ i ∈ l, f i ≤ Rows.uptoBulk (D i)) → (l.map f).sum ≤ Rows.uptoBulkAll (l.map D)
  | [], _ => Nat.le_refl _
  | a :: l, h => by
    have h1 := h a (List.mem_cons_self ..)
    have h2 := bulk_sum l fun i hi => h i (List.mem_cons_of_mem _ hi)
    simp only [List.map_cons, List.sum_cons, Rows.uptoBulkAll]
    omega

theorem open_deeds {w : World} {v : Value} {d : DataW H} {p : List MemPlace} {r : Reach} {b0 : Nat} (hv : Value.okWide Try.prog w r b0 22 v) (h : DataW.Trod enc Try.prog w 0 (fun _ => true) true 22 v d p) :
    ∃ (A : Option Addr) (n c : Nat) (ds : List Deed), v = .slice A n c ∧ n ≤ c ∧ c ≤ maxLen ∧ (∀ x ∈ ds, IsI64 x.keep ∧ x.s.size ≤ maxLen) ∧ DeedsIn w w.heap.size A n ds ∧ (ds.map fun x => x.s.size).sum ≤ Rows.uptoBulk d := by
  obtain ⟨A, n, c, rfl⟩ := okWide_slice Try.underlying22 hv
  obtain ⟨fuel, hf⟩ := h
  have hC : Try.prog.cellsOf 31 = 3 := by kernel_rfl
  rcases Deep.open_slice Try.underlying22 hf with ⟨hcs, _⟩ | ⟨a, len, cap, m, k, D, Pl, hcs, _, hlc, hcm, hm, hx, hi⟩
  · simp only [Value.cells, List.cons.injEq, and_true, Value.slice.injEq] at hcs
    obtain ⟨rfl, rfl, rfl⟩ := hcs
    exact ⟨none, 0, 0, [], rfl, by omega, by decide, (fun x hx => by cases hx), ⟨rfl, fun h => by omega⟩, Nat.zero_le _⟩
  · simp only [Value.cells, List.cons.injEq, and_true, Value.slice.injEq] at hcs
    obtain ⟨rfl, rfl, rfl⟩ := hcs
    have hmc : m = c := by rw [hm]; rfl
    subst hmc
    rw [hC] at hi
    have each : ∀ i, i < n → ∃ (t u : Int) (s : ByteArray), w.cell? (a.add (i * 3)) = some (.int .i64 t) ∧ w.cell? ((a.add (i * 3)).add 1) = some (.int .i64 u) ∧ w.cell? ((a.add (i * 3)).add 2) = some (.string s) ∧ IsI64 u ∧ s.size ≤ maxLen ∧ s.size ≤ Rows.uptoBulk (D i) := by
      intro i hin
      obtain ⟨cs, hc, ht⟩ := hi i (by omega)
      obtain ⟨_, hl, hat⟩ := World.cells?_some hc
      obtain ⟨y0, y1, y2, _, hy, _, h0, h1, h2⟩ := Deep.trod_struct3 Try.underlying31 ht
      obtain ⟨t, e0, _, _⟩ := DataW.trod_int Try.underlying3 h0
      obtain ⟨u, e1, _, wu⟩ := DataW.trod_int Try.underlying3 h1
      obtain ⟨s, e2, z2, ws⟩ := DataW.trod_string Try.underlying9 h2
      have q0 := hat 0 (by omega)
      have q1 := hat 1 (by omega)
      have q2 := hat 2 (by omega)
      have k0 : (Try.prog.cellsOf 3) = 1 := by kernel_rfl
      have k2 : (Try.prog.cellsOf 9) = 1 := by kernel_rfl
      have hb : s.size ≤ Rows.uptoBulk (D i) := by
        rw [(Prod.mk.inj hy).1, z2]
        have e : s.data.toList.length = s.size := by simp
        simp only [Rows.uptoBulk, Rows.uptoBulkAll]
        omega
      match cs, hl with
      | [c0, c1, c2], _ =>
        simp [k0, k2] at e0 e1 e2
        subst e0 e1 e2
        exact ⟨t, u, s, q0, q1, q2, bounds_i64 wu, ws, hb⟩
    obtain ⟨g, o, sp⟩ := a
    have hsp : 0 < n → sp = none := fun hn => by
      obtain ⟨t, _, _, c0, _⟩ := each 0 hn
      exact deed_spot (by simpa [Addr.add] using c0)
    refine ⟨some ⟨g, o, sp⟩, n, m, (List.range n).map (fun i => (⟨intOf ((w.cell? (Addr.add ⟨g, o, sp⟩ (i * 3))).getD (.int .i64 0)), intOf ((w.cell? ((Addr.add ⟨g, o, sp⟩ (i * 3)).add 1)).getD (.int .i64 0)), strOf ((w.cell? ((Addr.add ⟨g, o, sp⟩ (i * 3)).add 2)).getD (.int .i64 0))⟩ : Deed)),
      rfl, hlc, hcm, fun x hx => ?_, ⟨by simp, fun hn => ?_⟩, ?_⟩
    · obtain ⟨i, hi1, rfl⟩ := List.mem_map.1 hx
      obtain ⟨t, u, s, c1, c2, c3, hu, hs, _⟩ := each i (List.mem_range.1 hi1)
      simp only [c2, c3, Option.getD_some]
      exact ⟨hu, hs⟩
    · have hs := hsp hn
      subst hs
      obtain ⟨t0, u0, s0, c0, _⟩ := each 0 hn
      refine ⟨g, o, rfl, World.block_lt_of_cell? _ _ c0, fun j hj => ?_⟩
      obtain ⟨t, u, s, c1, c2, c3, _⟩ := each j (by simpa using hj)
      rw [List.getElem_map, List.getElem_range, c1, c2, c3]
      rw [deed_add] at c1 c2 c3
      rw [deed_add] at c2 c3
      exact ⟨c1, c2, c3⟩
    · have hd := (Prod.mk.inj hx).1
      rw [hd, List.map_map]
      have := bulk_sum (H := H) (f := fun i => (strOf ((w.cell? ((Addr.add ⟨g, o, sp⟩ (i * 3)).add 2)).getD (.int .i64 0))).size) (D := D) (List.range n) fun i hi => by
        obtain ⟨t, u, s, _, _, c3, _, _, hb⟩ := each i (List.mem_range.1 hi)
        simp only [c3, Option.getD_some]
        exact hb
      simp only [Rows.uptoBulk]
      exact Nat.le_trans this (by omega)

theorem brought_all (ds : List Deed) (k : Nat) : broughtBy ds k ≤ (ds.map fun d => d.s.size).sum := by
  unfold broughtBy
  have h : (ds.map fun d => d.s.size).sum = ((ds.take k).map fun d => d.s.size).sum + ((ds.drop k).map fun d => d.s.size).sum := by
    rw [← List.sum_append, ← List.map_append, List.take_append_drop]
  omega

/-- Of 200 deeds at most, each of a length that a string may have. -/
theorem brought_some (ds : List Deed) (h : ∀ x ∈ ds, x.s.size ≤ maxLen) (k : Nat) : broughtBy ds k ≤ k * maxLen := by
  unfold broughtBy
  induction k generalizing ds with
  | zero => simp
  | succ k ih =>
    cases ds with
    | nil => simp
    | cons a l =>
      have h1 := h a (List.mem_cons_self ..)
      have h2 := ih l fun x hx => h x (List.mem_cons_of_mem _ hx)
      simp only [List.take_succ_cons, List.map_cons, List.sum_cons]
      rw [Nat.add_mul]
      omega

end Go.Proofs.Ytgbfgjhaglmklaa
