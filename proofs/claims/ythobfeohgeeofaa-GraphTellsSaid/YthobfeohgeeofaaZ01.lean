/-
  A slice of structs of k cells that is only read; one that was appended to. It needs no program.
-/
import Derived.Test.YthobfeohgeeofaaZ00
import Derived.Laws.AppendOwnNone
import Derived.Test.YthobfeohgeeofaaRows
import Derived.ProofKit
import Derived.Laws.StructEq
namespace Go.Proofs.Ythobfeohgeeofaa
open Go.RowKit

/-- The slice with address A and length n reads as rows of k cells, and lies below block B. -/
def TabIn (k : Nat) (W : World) (B : Nat) (A : Option Addr) (n : Nat) (rows : List (Array Value)) : Prop :=
  rows.length = n ∧ (0 < n → ∃ g o, A = some ⟨g, o, none⟩ ∧ g < B ∧ ∀ j (h : j < rows.length) i v, rows[j][i]? = some v → W.cell? ⟨g, o + j * k + i, none⟩ = some v)

theorem TabIn.below {k : Nat} {W W' : World} {B : Nat} {A : Option Addr} {n : Nat} {rows : List (Array Value)} (h : TabIn k W B A n rows) (hb : Below B W W') : TabIn k W' B A n rows :=
  ⟨h.1, fun hn => by
    obtain ⟨g, o, e, hg, hc⟩ := h.2 hn
    exact ⟨g, o, e, hg, fun j hj i v hv => (hb.cell (p := ⟨g, o + j * k + i, none⟩) hg).trans (hc j hj i v hv)⟩⟩

theorem TabIn.more {k : Nat} {W : World} {B B' : Nat} {A : Option Addr} {n : Nat} {rows : List (Array Value)} (h : TabIn k W B A n rows) (hB : B ≤ B') : TabIn k W B' A n rows :=
  ⟨h.1, fun hn => by
    obtain ⟨g, o, e, hg, hc⟩ := h.2 hn
    exact ⟨g, o, e, by omega, hc⟩⟩

theorem TabIn.take {k : Nat} {W : World} {B : Nat} {A : Option Addr} {n : Nat} {rows : List (Array Value)} (h : TabIn k W B A n rows) {m : Nat} (hm : m ≤ n) : TabIn k W B A m (rows.take m) :=
  ⟨by rw [List.length_take, h.1]; omega, fun hn => by
    obtain ⟨g, o, e, hg, hc⟩ := h.2 (by omega)
    refine ⟨g, o, e, hg, fun j hj i v hv => ?_⟩
    rw [List.length_take] at hj
    rw [List.getElem_take] at hv
    exact hc j (by omega) i v hv⟩

theorem TabIn.nil (k : Nat) (W : World) (B : Nat) (A : Option Addr) : TabIn k W B A 0 [] := ⟨rfl, fun h => absurd h (by omega)⟩

/-- The cells of rows, one behind the other. -/
def flat (rows : List (Array Value)) : List Value := rows.flatMap Array.toList

theorem flat_nil : flat [] = [] := rfl
theorem flat_append (a b : List (Array Value)) : flat (a ++ b) = flat a ++ flat b := by simp [flat]
theorem flat_one (r : Array Value) : flat [r] = r.toList := by simp [flat]

theorem flat_len {k : Nat} : ∀ {rows : List (Array Value)}, (∀ r ∈ rows, r.size = k) → (flat rows).length = rows.length * k
  | [], _ => by simp [flat]
  | r :: l, h => by
    have h1 := h r (List.mem_cons_self ..)
    have h2 := flat_len (rows := l) fun x hx => h x (List.mem_cons_of_mem _ hx)
    unfold flat at h2 ⊢
    rw [List.flatMap_cons, List.length_append, h2, Array.length_toList, h1, List.length_cons, Nat.add_mul]
    omega

theorem flat_at {k : Nat} : ∀ {rows : List (Array Value)}, (∀ r ∈ rows, r.size = k) → ∀ (j : Nat) (hj : j < rows.length) (i : Nat), i < k → (flat rows)[j * k + i]? = rows[j][i]?
  | r :: l, h, 0, _, i, hi => by
    have h1 := h r (List.mem_cons_self ..)
    unfold flat
    rw [List.flatMap_cons, List.getElem?_append_left (by rw [Array.length_toList]; omega)]
    simp
  | r :: l, h, j + 1, hj, i, hi => by
    have h1 := h r (List.mem_cons_self ..)
    have h2 := flat_at (rows := l) (fun x hx => h x (List.mem_cons_of_mem _ hx)) j (by simpa using hj) i hi
    unfold flat at h2 ⊢
    rw [List.flatMap_cons, List.getElem?_append_right (by rw [Array.length_toList, h1, Nat.add_mul]; omega), Array.length_toList, h1]
    rw [show (j + 1) * k + i - k = j * k + i by rw [Nat.add_mul]; omega, h2]
    rfl
  | [], _, _, hj, _, _ => absurd hj (by simp)

theorem flat_out {k : Nat} {rows : List (Array Value)} (h : ∀ r ∈ rows, r.size = k) {p : Nat} {v : Value} (hp : (flat rows)[p]? = some v) : ∃ j i, ∃ hj : j < rows.length, p = j * k + i ∧ rows[j][i]? = some v := by
  have hl := flat_len h
  have hlt := (List.getElem?_eq_some_iff.1 hp).1
  rw [hl] at hlt
  have hk : 0 < k := by
    rcases Nat.eq_zero_or_pos k with h0 | h0
    · subst h0; omega
    · exact h0
  have hj : p / k < rows.length := (Nat.div_lt_iff_lt_mul hk).2 hlt
  have hi := Nat.mod_lt p hk
  have hpe : p = p / k * k + p % k := by rw [Nat.mul_comm]; exact (Nat.div_add_mod p k).symm
  refine ⟨p / k, p % k, hj, hpe, ?_⟩
  rw [← flat_at h _ hj _ hi, ← hpe]
  exact hp

theorem tab_add (g o i : Nat) : Addr.add ⟨g, o, none⟩ i = ⟨g, o + i, none⟩ := by
  unfold Addr.add
  split <;> simp_all

/-- What was appended to reads so. -/
theorem tab_own {k : Nat} {W : World} {base : Nat} {e : TypeId} {v : Value} {n : Nat} {rows : List (Array Value)} (hk : ∀ r ∈ rows, r.size = k) (hn : rows.length = n) (h : W.ownsRow base e k v n (flat rows)) :
    ∃ (A : Option Addr) (c : Nat), v = .slice A n c ∧ TabIn k W W.heap.size A n rows ∧ n ≤ c ∧ c ≤ maxLen ∧ (A = Option.none → c = 0) := by
  rcases h.2 with ⟨rfl, h0⟩ | ⟨g, cap, cur, rfl, hb, hg, hnc, hcm, _, _⟩
  · exact ⟨Option.none, 0, by rw [h0], ⟨hn, fun hn' => by omega⟩, by omega, by decide, fun _ => rfl⟩
  · refine ⟨some ⟨g, 0, Option.none⟩, cap, rfl, ⟨hn, fun _ => ⟨g, 0, rfl, (Array.getElem?_eq_some_iff.1 hg).1, fun j hj i u hu => ?_⟩⟩, hnc, hcm, fun h => by cases h⟩
    have hi : i < k := by
      have := (Array.getElem?_eq_some_iff.1 hu).1
      rw [hk _ (List.getElem_mem hj)] at this
      exact this
    have q := h.cells (g := g) rfl (j * k + i) u (by rw [flat_at hk j hj i hi]; exact hu)
    rw [tab_add] at q
    rw [show (0 : Nat) + j * k + i = 0 + (j * k + i) by omega]
    exact q

theorem flat_cells {rows : List (Array Value)} (hk : ∀ r ∈ rows, ∀ u ∈ r.toList, u.oneCell' = true) : ∀ u ∈ flat rows, u.oneCell' = true := by
  intro u hu
  obtain ⟨r, hr, hu⟩ := List.mem_flatMap.1 hu
  exact hk r hr u hu

end Go.Proofs.Ythobfeohgeeofaa

/-
  Rows of inodes and of entries in memory; two stamps, two inodes, two entries held against each other, as the walk meets it.
-/
namespace Go.Proofs.Ythobfeohgeeofaa
open Go.RowKit StampMath GraphMath

/-- The slice reads as entries. -/
def EntsIn (W : World) (B : Nat) (A : Option Addr) (n : Nat) (E : List Ent) : Prop := TabIn 5 W B A n (E.map entA)
/-- The slice reads as inodes. -/
def InosIn (W : World) (B : Nat) (A : Option Addr) (n : Nat) (I : List Ino) : Prop := TabIn 6 W B A n (I.map inoA)

theorem EntsIn.len {W : World} {B : Nat} {A : Option Addr} {n : Nat} {E : List Ent} (h : EntsIn W B A n E) : E.length = n := by have := h.1; rwa [List.length_map] at this
theorem InosIn.len {W : World} {B : Nat} {A : Option Addr} {n : Nat} {I : List Ino} (h : InosIn W B A n I) : I.length = n := by have := h.1; rwa [List.length_map] at this

/-- An entry's cells at ⟨g, p⟩. -/
def EntAt (W : World) (g p : Nat) (e : Ent) : Prop :=
  W.cell? ⟨g, p, none⟩ = some (.int .i64 e.dir.1) ∧ W.cell? ⟨g, p + 1, none⟩ = some (.int .i64 e.dir.2) ∧ W.cell? ⟨g, p + 2, none⟩ = some (.string e.name) ∧ W.cell? ⟨g, p + 3, none⟩ = some (.int .i64 e.ino.1) ∧ W.cell? ⟨g, p + 4, none⟩ = some (.int .i64 e.ino.2)

/-- An inode's cells at ⟨g, p⟩. -/
def InoAt (W : World) (g p : Nat) (x : Ino) : Prop :=
  W.cell? ⟨g, p, none⟩ = some (.int .i64 x.id.1) ∧ W.cell? ⟨g, p + 1, none⟩ = some (.int .i64 x.id.2) ∧ W.cell? ⟨g, p + 2, none⟩ = some (.int .i64 x.kind) ∧ W.cell? ⟨g, p + 3, none⟩ = some (.int .i64 x.links) ∧ W.cell? ⟨g, p + 4, none⟩ = some (.int .i64 x.mode) ∧ W.cell? ⟨g, p + 5, none⟩ = some (.string x.data)

theorem EntsIn.row {W : World} {B : Nat} {A : Option Addr} {n : Nat} {E : List Ent} (h : EntsIn W B A n E) (hn : 0 < n) : ∃ g o, A = some ⟨g, o, none⟩ ∧ g < B ∧ ∀ k (hk : k < E.length), EntAt W g (o + k * 5) E[k] := by
  obtain ⟨g, o, e, hg, hc⟩ := h.2 hn
  refine ⟨g, o, e, hg, fun k hk => ?_⟩
  have hk' : k < (E.map entA).length := by simpa using hk
  have he : (E.map entA)[k] = entA E[k] := by simp
  exact ⟨hc k hk' 0 _ (by rw [he]; rfl), hc k hk' 1 _ (by rw [he]; rfl), hc k hk' 2 _ (by rw [he]; rfl), hc k hk' 3 _ (by rw [he]; rfl), hc k hk' 4 _ (by rw [he]; rfl)⟩

theorem InosIn.row {W : World} {B : Nat} {A : Option Addr} {n : Nat} {I : List Ino} (h : InosIn W B A n I) (hn : 0 < n) : ∃ g o, A = some ⟨g, o, none⟩ ∧ g < B ∧ ∀ k (hk : k < I.length), InoAt W g (o + k * 6) I[k] := by
  obtain ⟨g, o, e, hg, hc⟩ := h.2 hn
  refine ⟨g, o, e, hg, fun k hk => ?_⟩
  have hk' : k < (I.map inoA).length := by simpa using hk
  have he : (I.map inoA)[k] = inoA I[k] := by simp
  exact ⟨hc k hk' 0 _ (by rw [he]; rfl), hc k hk' 1 _ (by rw [he]; rfl), hc k hk' 2 _ (by rw [he]; rfl), hc k hk' 3 _ (by rw [he]; rfl), hc k hk' 4 _ (by rw [he]; rfl), hc k hk' 5 _ (by rw [he]; rfl)⟩

theorem EntAt.below {W W' : World} {B g p : Nat} {e : Ent} (h : EntAt W g p e) (hb : Below B W W') (hg : g < B) : EntAt W' g p e :=
  ⟨(hb.cell (p := ⟨g, p, none⟩) hg).trans h.1, (hb.cell (p := ⟨g, p + 1, none⟩) hg).trans h.2.1, (hb.cell (p := ⟨g, p + 2, none⟩) hg).trans h.2.2.1, (hb.cell (p := ⟨g, p + 3, none⟩) hg).trans h.2.2.2.1, (hb.cell (p := ⟨g, p + 4, none⟩) hg).trans h.2.2.2.2⟩

theorem InoAt.below {W W' : World} {B g p : Nat} {x : Ino} (h : InoAt W g p x) (hb : Below B W W') (hg : g < B) : InoAt W' g p x :=
  ⟨(hb.cell (p := ⟨g, p, none⟩) hg).trans h.1, (hb.cell (p := ⟨g, p + 1, none⟩) hg).trans h.2.1, (hb.cell (p := ⟨g, p + 2, none⟩) hg).trans h.2.2.1, (hb.cell (p := ⟨g, p + 3, none⟩) hg).trans h.2.2.2.1, (hb.cell (p := ⟨g, p + 4, none⟩) hg).trans h.2.2.2.2.1, (hb.cell (p := ⟨g, p + 5, none⟩) hg).trans h.2.2.2.2.2⟩

theorem bytes_same {a b : ByteArray} (h : a.toList = b.toList) : a = b := by
  rw [ByteArray.toList_eq, ByteArray.toList_eq] at h
  apply ByteArray.ext
  exact Array.toList_inj.1 h

theorem run_eqSt (a b c d : Int) (W : World) : (Op.equalIn 10000 24 (.agg #[.int .i64 a, .int .i64 b]) (.agg #[.int .i64 c, .int .i64 d])).run Try.prog W = .ok (decide ((a, b) = (c, d))) W := by
  go_simp
  by_cases h1 : a = c
  · by_cases h2 : b = d
    · simp [h1, h2]
    · simp [h1, h2]
  · simp [h1]

theorem eqSt_yes {a c : St} (h : a = c) (W : World) : (Op.equalIn 10000 24 (.agg #[.int .i64 a.1, .int .i64 a.2]) (.agg #[.int .i64 c.1, .int .i64 c.2])).run Try.prog W = .ok true W := by
  rw [run_eqSt, decide_eq_true (by rw [h])]

theorem eqSt_no {a c : St} (h : ¬ a = c) (W : World) : (Op.equalIn 10000 24 (.agg #[.int .i64 a.1, .int .i64 a.2]) (.agg #[.int .i64 c.1, .int .i64 c.2])).run Try.prog W = .ok false W := by
  rw [run_eqSt, decide_eq_false (fun e => h (Prod.ext (congrArg Prod.fst e) (congrArg Prod.snd e)))]

/-- An inode's six cells. -/
theorem ino_cells {w : World} {g : Nat} {x : Ino} {T : TypeId} (h : w.heap[g]? = some (.cells (inoA x) T (0, 0))) : InoAt w g 0 x :=
  ⟨cell_of_row _ _ 0 _ _ (0, 0) h, cell_of_row _ _ 1 _ _ (0, 0) h, cell_of_row _ _ 2 _ _ (0, 0) h, cell_of_row _ _ 3 _ _ (0, 0) h, cell_of_row _ _ 4 _ _ (0, 0) h, cell_of_row _ _ 5 _ _ (0, 0) h⟩

theorem ino_free {w : World} {g : Nat} {x : Ino} {T : TypeId} (h : w.heap[g]? = some (.cells (inoA x) T (0, 0))) :
    w.frozen? ⟨g, 0, none⟩ = false ∧ w.frozen? ⟨g, 1, none⟩ = false ∧ w.frozen? ⟨g, 2, none⟩ = false ∧ w.frozen? ⟨g, 3, none⟩ = false ∧ w.frozen? ⟨g, 4, none⟩ = false ∧ w.frozen? ⟨g, 5, none⟩ = false :=
  ⟨frozen_of_row _ _ 0 _ _ h, frozen_of_row _ _ 1 _ _ h, frozen_of_row _ _ 2 _ _ h, frozen_of_row _ _ 3 _ _ h, frozen_of_row _ _ 4 _ _ h, frozen_of_row _ _ 5 _ _ h⟩

theorem two_cells {w : World} {g : Nat} {a b : Value} {T : TypeId} (h : w.heap[g]? = some (.cells #[a, b] T (0, 0))) : w.cell? ⟨g, 0, none⟩ = some a ∧ w.cell? ⟨g, 1, none⟩ = some b :=
  ⟨cell_of_row _ _ 0 _ _ (0, 0) h, cell_of_row _ _ 1 _ _ (0, 0) h⟩

theorem two_free {w : World} {g : Nat} {a b : Value} {T : TypeId} (h : w.heap[g]? = some (.cells #[a, b] T (0, 0))) : w.frozen? ⟨g, 0, none⟩ = false ∧ w.frozen? ⟨g, 1, none⟩ = false :=
  ⟨frozen_of_row _ _ 0 _ _ h, frozen_of_row _ _ 1 _ _ h⟩

theorem below_six {B : Nat} {w W : World} (h : Below B w W) {g : Nat} (hg : B ≤ g) (a b c d e f : Value) :
    Below B w ((((((W.setCell ⟨g, 0, none⟩ a).setCell ⟨g, 1, none⟩ b).setCell ⟨g, 2, none⟩ c).setCell ⟨g, 3, none⟩ d).setCell ⟨g, 4, none⟩ e).setCell ⟨g, 5, none⟩ f) :=
  (((((h.setCell hg _).setCell hg _).setCell hg _).setCell hg _).setCell hg _).setCell hg _

theorem ino_put {W : World} {g : Nat} {z : Ino} {T : TypeId} (h : W.heap[g]? = some (.cells (inoA z) T (0, 0))) (y : Ino) :
    ((((((W.setCell ⟨g, 0, none⟩ (.int .i64 y.id.1)).setCell ⟨g, 1, none⟩ (.int .i64 y.id.2)).setCell ⟨g, 2, none⟩ (.int .i64 y.kind)).setCell ⟨g, 3, none⟩ (.int .i64 y.links)).setCell ⟨g, 4, none⟩ (.int .i64 y.mode)).setCell ⟨g, 5, none⟩ (.string y.data)).heap[g]? = some (.cells (inoA y) T (0, 0)) := by
  rw [heap_setCell_same _ _ _ _ _ _ (heap_setCell_same _ _ _ _ _ _ (heap_setCell_same _ _ _ _ _ _ (heap_setCell_same _ _ _ _ _ _ (heap_setCell_same _ _ _ _ _ _ (heap_setCell_same _ _ _ _ _ _ h)))))]
  rfl

theorem new_behind {W W' : World} {o : Obj} (hb : Below (W.alloc o).drew.heap.size (W.alloc o).drew W') : W'.heap[W.heap.size]? = some o ∧ Below W.heap.size W W' :=
  ⟨(hb.block _ (heap_lt (heap_alloc_new W o))).trans (heap_alloc_new W o), below_step (((Below.refl _ W).alloc (Nat.le_refl _) o).drew) hb⟩

/-- An entry's five cells. -/
theorem ent_cells {w : World} {g : Nat} {x : Ent} {T : TypeId} (h : w.heap[g]? = some (.cells (entA x) T (0, 0))) : EntAt w g 0 x :=
  ⟨cell_of_row _ _ 0 _ _ (0, 0) h, cell_of_row _ _ 1 _ _ (0, 0) h, cell_of_row _ _ 2 _ _ (0, 0) h, cell_of_row _ _ 3 _ _ (0, 0) h, cell_of_row _ _ 4 _ _ (0, 0) h⟩

end Go.Proofs.Ythobfeohgeeofaa

/-
  A slice of structs appended to one of the call's own, whatever its address; parts of such a slice. It needs no program.
-/
namespace Go.Proofs.Ythobfeohgeeofaa
open Go.RowKit

theorem wpList_append_tab {P : Program} {w : World} {ops : Array Oper} {rest : List Oper} {o : Oper} {a : Act} {Q : Exit → Act → World → Prop} (hgd : o.guard = none) (s x : Operand) (t : TypeId)
    (ho : o.op = .call { callee := .builtin .append, args := #[s, x], argTypes := #[t, t] })
    (base : Nat) (e : TypeId) (i : TypeInfo) (z : Value) (k bytes : Nat) (ht : P.underlying t = some (.slice e)) (hi : P.info? e = some i) (hz : i.zero = some z)
    (hsize : i.size = k) (hby : i.bytes = bytes) (hzs : z.cells.size = k) (hk : 0 < k)
    (v : Value) (n : Nat) (rows : List (Array Value)) (hs : a.eval s = v) (hown : w.ownsRow base e k v n (flat rows))
    (A : Option Addr) (m c B : Nat) (ys : List (Array Value)) (hx : a.eval x = .slice A m c) (hr : TabIn k w B A m ys) (hA : A = none → c = 0)
    (hyk : ∀ r ∈ ys, r.size = k) (hy1 : ∀ r ∈ ys, ∀ u ∈ r.toList, u.oneCell' = true)
    (h63 : n + m ≤ maxLen) (hbytes : (n + m) * bytes ≤ 140737488355328) (hbase : base ≤ w.heap.size)
    (h : ∀ v' w', w'.ownsRow base e k v' (n + m) (flat (rows ++ ys)) → w.grownBy w' v.ownBlock → wpList P ops Q rest (a.put o.dst v') w') : wpList P ops Q (o :: rest) a w := by
  cases A with
  | none =>
    have hm : m = 0 := by
      rcases Nat.eq_zero_or_pos m with h0 | h0
      · exact h0
      · obtain ⟨g, o', e', _⟩ := hr.2 h0
        cases e'
    subst hm
    have hy : ys = [] := List.eq_nil_of_length_eq_zero hr.1
    subst hy
    rw [hA rfl] at hx
    refine wpList_append_own_none hgd s x t ho base e i k ht hi v n (flat rows) hs hown hx (h v w ?_ (World.grownBy.refl w _))
    rw [List.append_nil]
    exact hown
  | some ad =>
    refine wpList_append_own w hgd s x t ho base e i z k bytes ht hi hz hsize hby hzs hk v n (flat rows) hs hown ad m c (flat ys) hx (by rw [flat_len hyk, hr.1]) ?_ (flat_cells hy1) h63 hbytes hbase fun v' w' h2 h3 _ => h v' w' (by rw [flat_append]; exact h2) h3
    intro j u hu
    obtain ⟨jj, i', hj, rfl, hv⟩ := flat_out hyk hu
    obtain ⟨g, o', e', _, hc⟩ := hr.2 (by have := hr.1; omega)
    injection e' with e'
    subst e'
    rw [tab_add, ← Nat.add_assoc]
    exact hc jj hj i' u hv

theorem TabIn.drop {k : Nat} {W : World} {B : Nat} {g o n : Nat} {rows : List (Array Value)} (h : TabIn k W B (some ⟨g, o, none⟩) n rows) {m : Nat} (hm : m ≤ n) : TabIn k W B (some ⟨g, o + m * k, none⟩) (n - m) (rows.drop m) :=
  ⟨by rw [List.length_drop, h.1], fun hn => by
    obtain ⟨g', o', e, hg, hc⟩ := h.2 (by omega)
    injection e with e
    injection e with e1 e2
    subst e1 e2
    refine ⟨g, o + m * k, rfl, hg, fun j hj i v hv => ?_⟩
    rw [List.length_drop] at hj
    rw [List.getElem_drop] at hv
    have q := hc (m + j) (by omega) i v hv
    rw [show o + m * k + j * k + i = o + (m + j) * k + i by rw [Nat.add_mul]; omega]
    exact q⟩

theorem grownBy_set (W : World) (b i : Nat) (v : Value) : W.grownBy (W.setCell ⟨b, i, none⟩ v) (some b) :=
  ⟨rfl, rfl, rfl, by simp, fun k _ hk => heap_setCell_other _ _ _ _ (fun e => hk (by dsimp only at e; rw [e]))⟩

/-- A row is kept where a block below it is written. -/
theorem own_set2 {W : World} {base : Nat} {e : TypeId} {k : Nat} {v : Value} {n : Nat} {xs : List Value} (h : W.ownsRow base e k v n xs) {b : Nat} (hb : b < base) (x y : Value) : ((W.setCell ⟨b, 0, none⟩ x).setCell ⟨b, 1, none⟩ y).ownsRow base e k v n xs := by
  have hne : v.ownBlock = none ∨ v.ownBlock ≠ some b := Or.inr fun e => by have := (h.lt b e).1; omega
  exact (h.kept (grownBy_set W b 0 x) hne).kept (grownBy_set _ b 1 y) hne

/-- A slice of no elements, newly made, is owned. -/
theorem own_empty (w : World) (base : Nat) (e : TypeId) (k : Nat) (hb : base ≤ w.heap.size) : (w.alloc (.cells #[] e)).ownsRow base e k (.slice (some ⟨w.heap.size, 0, none⟩) 0 0) 0 (flat []) :=
  ⟨by simp [flat], Or.inr ⟨w.heap.size, 0, #[], rfl, hb, heap_alloc_new w _, Nat.le_refl _, by decide, by simp, by simp [flat]⟩⟩

theorem take_while_at {α : Type} {f : α → Bool} : ∀ {l : List α} {k : Nat}, k ≤ l.length → (∀ j (h : j < l.length), j < k → f l[j] = true) → (∀ h : k < l.length, f l[k] = false) → l.take k = l.takeWhile f ∧ l.drop k = l.dropWhile f
  | [], k, hk, _, _ => by simp at hk; subst hk; simp
  | a :: l, 0, _, _, h2 => by
    have := h2 (by simp)
    simp at this
    simp [this]
  | a :: l, k + 1, hk, h1, h2 => by
    have ha := h1 0 (by simp) (by omega)
    simp at ha
    obtain ⟨i1, i2⟩ := take_while_at (l := l) (k := k) (by simpa using hk) (fun j hj hjk => by have := h1 (j + 1) (by simpa using hj) (by omega); simpa using this) (fun hkl => by have := h2 (by simpa using hkl); simpa using this)
    simp [ha, i1, i2]

end Go.Proofs.Ythobfeohgeeofaa

/-
  Slices of entries and of inodes that a call makes of its own. It needs no program's function.
-/
namespace Go.Proofs.Ythobfeohgeeofaa
open Go.RowKit StampMath GraphMath

theorem ent_infos : (Try.prog.info? 26).map (fun i => (i.zero, i.size, i.bytes)) = some (some (.agg #[.int .i64 0, .int .i64 0, .string ⟨#[]⟩, .int .i64 0, .int .i64 0]), 5, 48) := by kernel_rfl
theorem ino_infos : (Try.prog.info? 42).map (fun i => (i.zero, i.size, i.bytes)) = some (some (.agg #[.int .i64 0, .int .i64 0, .int .i64 0, .int .i64 0, .int .i64 0, .string ⟨#[]⟩]), 6, 56) := by kernel_rfl

/-- A new block holds its row. -/
theorem row_there (w : World) (T : TypeId) (r : Array Value) : ∀ j u, r.toList[j]? = some u → (w.alloc (.cells r T)).cell? (Addr.add ⟨w.heap.size, 0, none⟩ j) = some u := by
  intro j u hj
  rw [tab_add]
  rw [Nat.zero_add, cell_of_row _ _ j _ _ (0, 0) (heap_alloc_new w _)]
  simpa using hj

theorem ent_one (e : Ent) : ∀ u ∈ (entA e).toList, u.oneCell' = true := by
  intro u hu
  simp [entA] at hu
  rcases hu with rfl | rfl | rfl | rfl | rfl <;> rfl

theorem ino_one (x : Ino) : ∀ u ∈ (inoA x).toList, u.oneCell' = true := by
  intro u hu
  simp [inoA] at hu
  rcases hu with rfl | rfl | rfl | rfl | rfl | rfl <;> rfl

theorem ents_own {W : World} {base : Nat} {v : Value} {n : Nat} {E : List Ent} (hn : E.length = n) (h : W.ownsRow base 26 5 v n (flat (E.map entA))) :
    ∃ (A : Option Addr) (c : Nat), v = .slice A n c ∧ EntsIn W W.heap.size A n E ∧ n ≤ c ∧ c ≤ maxLen ∧ (A = Option.none → c = 0) :=
  tab_own (k := 5) (fun r hr => by obtain ⟨e, _, rfl⟩ := List.mem_map.1 hr; rfl) (by simpa using hn) h

theorem inos_own {W : World} {base : Nat} {v : Value} {n : Nat} {I : List Ino} (hn : I.length = n) (h : W.ownsRow base 42 6 v n (flat (I.map inoA))) :
    ∃ (A : Option Addr) (c : Nat), v = .slice A n c ∧ InosIn W W.heap.size A n I ∧ n ≤ c ∧ c ≤ maxLen ∧ (A = Option.none → c = 0) :=
  tab_own (k := 6) (fun r hr => by obtain ⟨e, _, rfl⟩ := List.mem_map.1 hr; rfl) (by simpa using hn) h

theorem flat_ent (E : List Ent) (e : Ent) : flat (E.map entA) ++ (entA e).toList = flat ((E ++ [e]).map entA) := by simp [flat]
theorem flat_ino (I : List Ino) (x : Ino) : flat (I.map inoA) ++ (inoA x).toList = flat ((I ++ [x]).map inoA) := by simp [flat]

/-- Entries are answered. -/
def EntsPost (E : List Ent) (w : World) (e : Ending) (w' : World) : Prop :=
  ∃ (A : Option Addr) (c : Nat), e = .returned (.slice A E.length c) ∧ EntsIn w' w'.heap.size A E.length E ∧ E.length ≤ c ∧ c ≤ maxLen ∧ (A = none → c = 0) ∧ Below w.heap.size w w'

/-- Inodes are answered. -/
def InosPost (I : List Ino) (w : World) (e : Ending) (w' : World) : Prop :=
  ∃ (A : Option Addr) (c : Nat), e = .returned (.slice A I.length c) ∧ InosIn w' w'.heap.size A I.length I ∧ I.length ≤ c ∧ c ≤ maxLen ∧ (A = none → c = 0) ∧ Below w.heap.size w w'

/-- New entries are answered: a slice of its own, that may be written. -/
def EntsNew (E : List Ent) (w : World) (e : Ending) (w' : World) : Prop :=
  ∃ v, e = .returned v ∧ w'.ownsRow w.heap.size 26 5 v E.length (flat (E.map entA)) ∧ Below w.heap.size w w'

/-- New inodes are answered: a slice of its own, that may be written. -/
def InosNew (I : List Ino) (w : World) (e : Ending) (w' : World) : Prop :=
  ∃ v, e = .returned v ∧ w'.ownsRow w.heap.size 42 6 v I.length (flat (I.map inoA)) ∧ Below w.heap.size w w'

end Go.Proofs.Ythobfeohgeeofaa

/-
  Plain mathematics of layer 9: what is true of a graph, whatever was done. It needs no program.
-/
namespace Go.Proofs.Ythobfeohgeeofaa.GraphMath
open StampMath

/-- A directory's entry: of an inode that is one. -/
def Gr.isDir (g : Gr) (id : St) : Prop := ∃ x ∈ g.I, x.id = id ∧ x.kind = 1

/-- What is true of a graph, whatever was done. -/
structure Gr.ok (g : Gr) : Prop where
  sortI : g.I.Pairwise fun a b => lessS a.id b.id = true
  sortE : g.E.Pairwise fun a b => aheadE a b = true
  few : g.I.length ≤ 40
  links0 : ∀ x ∈ g.I, x.links = 0
  kinds : ∀ x ∈ g.I, 1 ≤ x.kind ∧ x.kind ≤ 3
  may : ∀ x ∈ g.I, mayB x.id.1 x.id.2 = true
  root : ∃ x ∈ g.I, x.id = (0, 0) ∧ x.kind = 1
  dirs : ∀ e ∈ g.E, g.isDir e.dir
  inos : ∀ e ∈ g.E, ∃ x ∈ g.I, x.id = e.ino
  noRoot : ∀ e ∈ g.E, e.ino ≠ (0, 0)
  six : ∀ id, linksE g.E id ≤ 6
  one : ∀ id, g.isDir id → linksE g.E id ≤ 1
  rank : ∃ f : St → Nat, ∀ e ∈ g.E, g.isDir e.ino → f e.dir < f e.ino

theorem lessS_irrefl (a : St) : lessS a a = false := by
  rw [Bool.eq_false_iff]
  intro h
  have := (lessB_iff _ _ _ _).1 h
  omega

theorem lessS_trans {a b c : St} (h1 : lessS a b = true) (h2 : lessS b c = true) : lessS a c = true := by
  have h1 := (lessB_iff _ _ _ _).1 h1
  have h2 := (lessB_iff _ _ _ _).1 h2
  exact (lessB_iff _ _ _ _).2 (by omega)

theorem lessS_total {a b : St} (h : lessS a b = false) (hne : a ≠ b) : lessS b a = true := by
  have h1 : ¬ (a.1 < b.1 ∨ a.1 = b.1 ∧ a.2 < b.2) := fun q => by rw [show lessS a b = true from (lessB_iff _ _ _ _).2 q] at h; cases h
  refine (lessB_iff _ _ _ _).2 ?_
  have h2 : ¬ (a.1 = b.1 ∧ a.2 = b.2) := fun q => hne (Prod.ext q.1 q.2)
  omega

/-- No two inodes of one number. -/
theorem Gr.ok.ids {g : Gr} (h : g.ok) {x y : Ino} (hx : x ∈ g.I) (hy : y ∈ g.I) (he : x.id = y.id) : x = y := by
  have hp := h.sortI
  obtain ⟨i, hi, rfl⟩ := List.getElem_of_mem hx
  obtain ⟨j, hj, rfl⟩ := List.getElem_of_mem hy
  rcases Nat.lt_trichotomy i j with h1 | h1 | h1
  · have := List.pairwise_iff_getElem.1 hp i j hi hj h1
    rw [he, lessS_irrefl] at this
    cases this
  · subst h1; rfl
  · have := List.pairwise_iff_getElem.1 hp j i hj hi h1
    rw [he, lessS_irrefl] at this
    cases this

theorem find_id {I : List Ino} (hid : ∀ x ∈ I, ∀ y ∈ I, x.id = y.id → x = y) {x : Ino} (hx : x ∈ I) : I.find? (fun y => decide (y.id = x.id)) = some x := by
  cases h : I.find? (fun y => decide (y.id = x.id)) with
  | none =>
    have := List.find?_eq_none.1 h x hx
    simp at this
  | some y =>
    have h1 := List.find?_some h
    have h2 := List.mem_of_find?_eq_some h
    simp at h1
    exact congrArg some (hid y h2 x hx h1)

theorem Gr.ok.get {g : Gr} (h : g.ok) {x : Ino} (hx : x ∈ g.I) : getG g x.id = some { x with links := (linksE g.E x.id : Int) } := by
  unfold getG
  rw [find_id (fun a ha b hb => h.ids ha hb) hx]
  rfl

theorem get_none {g : Gr} {id : St} (h : getG g id = none) : ∀ x ∈ g.I, x.id ≠ id := by
  intro x hx e
  unfold getG at h
  rw [Option.map_eq_none_iff] at h
  have := List.find?_eq_none.1 h x hx
  simp [e] at this

theorem get_some {g : Gr} {id : St} {y : Ino} (h : getG g id = some y) : ∃ x ∈ g.I, x.id = id ∧ y = { x with links := (linksE g.E id : Int) } := by
  unfold getG at h
  rw [Option.map_eq_some_iff] at h
  obtain ⟨x, hx, rfl⟩ := h
  have h1 := List.find?_some hx
  simp at h1
  exact ⟨x, List.mem_of_find?_eq_some hx, h1, rfl⟩

theorem Gr.ok.inodes {g : Gr} (h : g.ok) : inodesG g = g.I.map fun x => { x with links := (linksE g.E x.id : Int) } := by
  unfold inodesG
  apply List.map_congr_left
  intro x hx
  rw [h.get hx]
  rfl

theorem new_okG : newG.ok where
  sortI := by unfold newG; exact List.pairwise_singleton ..
  sortE := List.Pairwise.nil
  few := by unfold newG; decide
  links0 := by intro x hx; simp [newG] at hx; subst hx; rfl
  kinds := by intro x hx; simp [newG] at hx; subst hx; exact ⟨by decide, by decide⟩
  may := by intro x hx; simp [newG] at hx; subst hx; decide
  root := ⟨⟨(0, 0), 1, 0, 0, ⟨#[]⟩⟩, by simp [newG], rfl, rfl⟩
  dirs := by intro e he; simp [newG] at he
  inos := by intro e he; simp [newG] at he
  noRoot := by intro e he; simp [newG] at he
  six := fun id => by simp [newG, linksE]
  one := fun id _ => by simp [newG, linksE]
  rank := ⟨fun _ => 0, by intro e he; simp [newG] at he⟩

end Go.Proofs.Ythobfeohgeeofaa.GraphMath
