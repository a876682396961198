/-
  A slice of strings appended to one of the call's own, whatever its address. It needs no program.
-/
import Derived.Test.YtckobhfomphcpaaStrs
import Derived.Laws.AppendOwnNone
namespace Go.Proofs.Ytckobhfomphcpaa
open Go.RowKit

theorem strV_append (xs ys : List (List UInt8)) : strV xs ++ strV ys = strV (xs ++ ys) := by simp [strV]
theorem strV_one (xs : List (List UInt8)) : ∀ u ∈ strV xs, u.oneCell' = true := by
  intro u hu
  obtain ⟨x, _, rfl⟩ := List.mem_map.1 hu
  rfl

theorem wpList_append_strs {P : Program} {w : World} {ops : Array Oper} {rest : List Oper} {o : Oper} {a : Act} {Q : Exit → Act → World → Prop} (hgd : o.guard = none) (s x : Operand) (t : TypeId)
    (ho : o.op = .call { callee := .builtin .append, args := #[s, x], argTypes := #[t, t] })
    (base : Nat) (e : TypeId) (i : TypeInfo) (z : Value) (bytes : Nat) (ht : P.underlying t = some (.slice e)) (hi : P.info? e = some i) (hz : i.zero = some z)
    (hsize : i.size = 1) (hby : i.bytes = bytes) (hzs : z.cells.size = 1)
    (v : Value) (n : Nat) (xs : List (List UInt8)) (hs : a.eval s = v) (hown : w.ownsRow base e 1 v n (strV xs))
    (A : Option Addr) (m c B : Nat) (ys : List (List UInt8)) (hx : a.eval x = .slice A m c) (hr : StrsIn w B A m ys) (hA : A = none → c = 0)
    (h63 : n + m ≤ maxLen) (hbytes : (n + m) * bytes ≤ 140737488355328) (hbase : base ≤ w.heap.size)
    (h : ∀ v' w', w'.ownsRow base e 1 v' (n + m) (strV (xs ++ ys)) → w.grownBy w' v.ownBlock → wpList P ops Q rest (a.put o.dst v') w') : wpList P ops Q (o :: rest) a w := by
  cases A with
  | none =>
    have hm : m = 0 := by
      rcases Nat.eq_zero_or_pos m with h0 | h0
      · exact h0
      · obtain ⟨g, o', e', _⟩ := hr.2 h0
        cases e'
    subst hm
    have hy : ys = [] := List.eq_nil_of_length_eq_zero hr.1
    subst hy
    rw [hA rfl] at hx
    refine wpList_append_own_none hgd s x t ho base e i 1 ht hi v n (strV xs) hs hown hx (h v w ?_ (World.grownBy.refl w _))
    rw [List.append_nil]
    exact hown
  | some ad =>
    refine wpList_append_own w hgd s x t ho base e i z 1 bytes ht hi hz hsize hby hzs (by omega) v n (strV xs) hs hown ad m c (strV ys) hx (by rw [strV_len, hr.1, Nat.mul_one]) ?_ (strV_one ys) h63 hbytes hbase fun v' w' h2 h3 _ => h v' w' (by rw [← strV_append]; exact h2) h3
    intro j u hu
    have hj : j < ys.length := by
      have := (List.getElem?_eq_some_iff.1 hu).1
      rw [strV_len] at this
      exact this
    obtain ⟨g, o', e', _, hc⟩ := hr.2 (by have := hr.1; omega)
    injection e' with e'
    subst e'
    rw [strV_at hj, Option.some.injEq] at hu
    rw [← hu]
    have ea : (⟨g, o', none⟩ : Addr).add j = ⟨g, o' + j, none⟩ := by
      unfold Addr.add
      split <;> simp_all
    rw [ea]
    exact hc j hj

end Go.Proofs.Ytckobhfomphcpaa
