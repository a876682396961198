/-
  A slice of structs of k cells that is only read; one that was appended to. It needs no program.
-/
import Derived.Test.YtoobmkkmomiigaaGreatZ00
import Derived.Laws.AppendOwnNone
import Derived.Test.YtoobmkkmomiigaaGreatRows
import Derived.ProofKit
import Derived.Laws.StructEq
import Derived.Deep.LoopGhost
import Derived.Deep.QuietTactic
import Derived.BigQuiet
import Derived.Deep.Cut
namespace Go.Proofs.YtoobmkkmomiigaaGreat
open Go.RowKit

/-- The slice with address A and length n reads as rows of k cells, and lies below block B. -/
def TabIn (k : Nat) (W : World) (B : Nat) (A : Option Addr) (n : Nat) (rows : List (Array Value)) : Prop :=
  rows.length = n ∧ (0 < n → ∃ g o, A = some ⟨g, o, none⟩ ∧ g < B ∧ ∀ j (h : j < rows.length) i v, rows[j][i]? = some v → W.cell? ⟨g, o + j * k + i, none⟩ = some v)

theorem TabIn.below {k : Nat} {W W' : World} {B : Nat} {A : Option Addr} {n : Nat} {rows : List (Array Value)} (h : TabIn k W B A n rows) (hb : Below B W W') : TabIn k W' B A n rows :=
  ⟨h.1, fun hn => by
    obtain ⟨g, o, e, hg, hc⟩ := h.2 hn
    exact ⟨g, o, e, hg, fun j hj i v hv => (hb.cell (p := ⟨g, o + j * k + i, none⟩) hg).trans (hc j hj i v hv)⟩⟩

theorem TabIn.more {k : Nat} {W : World} {B B' : Nat} {A : Option Addr} {n : Nat} {rows : List (Array Value)} (h : TabIn k W B A n rows) (hB : B ≤ B') : TabIn k W B' A n rows :=
  ⟨h.1, fun hn => by
    obtain ⟨g, o, e, hg, hc⟩ := h.2 hn
    exact ⟨g, o, e, by omega, hc⟩⟩

theorem TabIn.take {k : Nat} {W : World} {B : Nat} {A : Option Addr} {n : Nat} {rows : List (Array Value)} (h : TabIn k W B A n rows) {m : Nat} (hm : m ≤ n) : TabIn k W B A m (rows.take m) :=
  ⟨by rw [List.length_take, h.1]; omega, fun hn => by
    obtain ⟨g, o, e, hg, hc⟩ := h.2 (by omega)
    refine ⟨g, o, e, hg, fun j hj i v hv => ?_⟩
    rw [List.length_take] at hj
    rw [List.getElem_take] at hv
    exact hc j (by omega) i v hv⟩

theorem TabIn.nil (k : Nat) (W : World) (B : Nat) (A : Option Addr) : TabIn k W B A 0 [] := ⟨rfl, fun h => absurd h (by omega)⟩

/-- The cells of rows, one behind the other. -/
def flat (rows : List (Array Value)) : List Value := rows.flatMap Array.toList

theorem flat_nil : flat [] = [] := rfl
theorem flat_append (a b : List (Array Value)) : flat (a ++ b) = flat a ++ flat b := by simp [flat]
theorem flat_one (r : Array Value) : flat [r] = r.toList := by simp [flat]

theorem flat_len {k : Nat} : ∀ {rows : List (Array Value)}, (∀ r ∈ rows, r.size = k) → (flat rows).length = rows.length * k
  | [], _ => by simp [flat]
  | r :: l, h => by
    have h1 := h r (List.mem_cons_self ..)
    have h2 := flat_len (rows := l) fun x hx => h x (List.mem_cons_of_mem _ hx)
    unfold flat at h2 ⊢
    rw [List.flatMap_cons, List.length_append, h2, Array.length_toList, h1, List.length_cons, Nat.add_mul]
    omega

theorem flat_at {k : Nat} : ∀ {rows : List (Array Value)}, (∀ r ∈ rows, r.size = k) → ∀ (j : Nat) (hj : j < rows.length) (i : Nat), i < k → (flat rows)[j * k + i]? = rows[j][i]?
  | r :: l, h, 0, _, i, hi => by
    have h1 := h r (List.mem_cons_self ..)
    unfold flat
    rw [List.flatMap_cons, List.getElem?_append_left (by rw [Array.length_toList]; omega)]
    simp
  | r :: l, h, j + 1, hj, i, hi => by
    have h1 := h r (List.mem_cons_self ..)
    have h2 := flat_at (rows := l) (fun x hx => h x (List.mem_cons_of_mem _ hx)) j (by simpa using hj) i hi
    unfold flat at h2 ⊢
    rw [List.flatMap_cons, List.getElem?_append_right (by rw [Array.length_toList, h1, Nat.add_mul]; omega), Array.length_toList, h1]
    rw [show (j + 1) * k + i - k = j * k + i by rw [Nat.add_mul]; omega, h2]
    rfl
  | [], _, _, hj, _, _ => absurd hj (by simp)

theorem flat_out {k : Nat} {rows : List (Array Value)} (h : ∀ r ∈ rows, r.size = k) {p : Nat} {v : Value} (hp : (flat rows)[p]? = some v) : ∃ j i, ∃ hj : j < rows.length, p = j * k + i ∧ rows[j][i]? = some v := by
  have hl := flat_len h
  have hlt := (List.getElem?_eq_some_iff.1 hp).1
  rw [hl] at hlt
  have hk : 0 < k := by
    rcases Nat.eq_zero_or_pos k with h0 | h0
    · subst h0; omega
    · exact h0
  have hj : p / k < rows.length := (Nat.div_lt_iff_lt_mul hk).2 hlt
  have hi := Nat.mod_lt p hk
  have hpe : p = p / k * k + p % k := by rw [Nat.mul_comm]; exact (Nat.div_add_mod p k).symm
  refine ⟨p / k, p % k, hj, hpe, ?_⟩
  rw [← flat_at h _ hj _ hi, ← hpe]
  exact hp

theorem tab_add (g o i : Nat) : Addr.add ⟨g, o, none⟩ i = ⟨g, o + i, none⟩ := by
  unfold Addr.add
  split <;> simp_all

/-- What was appended to reads so. -/
theorem tab_own {k : Nat} {W : World} {base : Nat} {e : TypeId} {v : Value} {n : Nat} {rows : List (Array Value)} (hk : ∀ r ∈ rows, r.size = k) (hn : rows.length = n) (h : W.ownsRow base e k v n (flat rows)) :
    ∃ (A : Option Addr) (c : Nat), v = .slice A n c ∧ TabIn k W W.heap.size A n rows ∧ n ≤ c ∧ c ≤ maxLen ∧ (A = Option.none → c = 0) := by
  rcases h.2 with ⟨rfl, h0⟩ | ⟨g, cap, cur, rfl, hb, hg, hnc, hcm, _, _⟩
  · exact ⟨Option.none, 0, by rw [h0], ⟨hn, fun hn' => by omega⟩, by omega, by decide, fun _ => rfl⟩
  · refine ⟨some ⟨g, 0, Option.none⟩, cap, rfl, ⟨hn, fun _ => ⟨g, 0, rfl, (Array.getElem?_eq_some_iff.1 hg).1, fun j hj i u hu => ?_⟩⟩, hnc, hcm, fun h => by cases h⟩
    have hi : i < k := by
      have := (Array.getElem?_eq_some_iff.1 hu).1
      rw [hk _ (List.getElem_mem hj)] at this
      exact this
    have q := h.cells (g := g) rfl (j * k + i) u (by rw [flat_at hk j hj i hi]; exact hu)
    rw [tab_add] at q
    rw [show (0 : Nat) + j * k + i = 0 + (j * k + i) by omega]
    exact q

theorem flat_cells {rows : List (Array Value)} (hk : ∀ r ∈ rows, ∀ u ∈ r.toList, u.oneCell' = true) : ∀ u ∈ flat rows, u.oneCell' = true := by
  intro u hu
  obtain ⟨r, hr, hu⟩ := List.mem_flatMap.1 hu
  exact hk r hr u hu

end Go.Proofs.YtoobmkkmomiigaaGreat

/-
  Rows of inodes and of entries in memory; two stamps, two inodes, two entries held against each other, as the walk meets it.
-/
namespace Go.Proofs.YtoobmkkmomiigaaGreat
open Go.RowKit StampMath GraphMath

/-- The slice reads as entries. -/
def EntsIn (W : World) (B : Nat) (A : Option Addr) (n : Nat) (E : List Ent) : Prop := TabIn 5 W B A n (E.map entA)
/-- The slice reads as inodes. -/
def InosIn (W : World) (B : Nat) (A : Option Addr) (n : Nat) (I : List Ino) : Prop := TabIn 6 W B A n (I.map inoA)

theorem EntsIn.len {W : World} {B : Nat} {A : Option Addr} {n : Nat} {E : List Ent} (h : EntsIn W B A n E) : E.length = n := by have := h.1; rwa [List.length_map] at this
theorem InosIn.len {W : World} {B : Nat} {A : Option Addr} {n : Nat} {I : List Ino} (h : InosIn W B A n I) : I.length = n := by have := h.1; rwa [List.length_map] at this

/-- An entry's cells at ⟨g, p⟩. -/
def EntAt (W : World) (g p : Nat) (e : Ent) : Prop :=
  W.cell? ⟨g, p, none⟩ = some (.int .i64 e.dir.1) ∧ W.cell? ⟨g, p + 1, none⟩ = some (.int .i64 e.dir.2) ∧ W.cell? ⟨g, p + 2, none⟩ = some (.string e.name) ∧ W.cell? ⟨g, p + 3, none⟩ = some (.int .i64 e.ino.1) ∧ W.cell? ⟨g, p + 4, none⟩ = some (.int .i64 e.ino.2)

/-- An inode's cells at ⟨g, p⟩. -/
def InoAt (W : World) (g p : Nat) (x : Ino) : Prop :=
  W.cell? ⟨g, p, none⟩ = some (.int .i64 x.id.1) ∧ W.cell? ⟨g, p + 1, none⟩ = some (.int .i64 x.id.2) ∧ W.cell? ⟨g, p + 2, none⟩ = some (.int .i64 x.kind) ∧ W.cell? ⟨g, p + 3, none⟩ = some (.int .i64 x.links) ∧ W.cell? ⟨g, p + 4, none⟩ = some (.int .i64 x.mode) ∧ W.cell? ⟨g, p + 5, none⟩ = some (.string x.data)

theorem EntsIn.row {W : World} {B : Nat} {A : Option Addr} {n : Nat} {E : List Ent} (h : EntsIn W B A n E) (hn : 0 < n) : ∃ g o, A = some ⟨g, o, none⟩ ∧ g < B ∧ ∀ k (hk : k < E.length), EntAt W g (o + k * 5) E[k] := by
  obtain ⟨g, o, e, hg, hc⟩ := h.2 hn
  refine ⟨g, o, e, hg, fun k hk => ?_⟩
  have hk' : k < (E.map entA).length := by simpa using hk
  have he : (E.map entA)[k] = entA E[k] := by simp
  exact ⟨hc k hk' 0 _ (by rw [he]; rfl), hc k hk' 1 _ (by rw [he]; rfl), hc k hk' 2 _ (by rw [he]; rfl), hc k hk' 3 _ (by rw [he]; rfl), hc k hk' 4 _ (by rw [he]; rfl)⟩

theorem InosIn.row {W : World} {B : Nat} {A : Option Addr} {n : Nat} {I : List Ino} (h : InosIn W B A n I) (hn : 0 < n) : ∃ g o, A = some ⟨g, o, none⟩ ∧ g < B ∧ ∀ k (hk : k < I.length), InoAt W g (o + k * 6) I[k] := by
  obtain ⟨g, o, e, hg, hc⟩ := h.2 hn
  refine ⟨g, o, e, hg, fun k hk => ?_⟩
  have hk' : k < (I.map inoA).length := by simpa using hk
  have he : (I.map inoA)[k] = inoA I[k] := by simp
  exact ⟨hc k hk' 0 _ (by rw [he]; rfl), hc k hk' 1 _ (by rw [he]; rfl), hc k hk' 2 _ (by rw [he]; rfl), hc k hk' 3 _ (by rw [he]; rfl), hc k hk' 4 _ (by rw [he]; rfl), hc k hk' 5 _ (by rw [he]; rfl)⟩

theorem EntAt.below {W W' : World} {B g p : Nat} {e : Ent} (h : EntAt W g p e) (hb : Below B W W') (hg : g < B) : EntAt W' g p e :=
  ⟨(hb.cell (p := ⟨g, p, none⟩) hg).trans h.1, (hb.cell (p := ⟨g, p + 1, none⟩) hg).trans h.2.1, (hb.cell (p := ⟨g, p + 2, none⟩) hg).trans h.2.2.1, (hb.cell (p := ⟨g, p + 3, none⟩) hg).trans h.2.2.2.1, (hb.cell (p := ⟨g, p + 4, none⟩) hg).trans h.2.2.2.2⟩

theorem InoAt.below {W W' : World} {B g p : Nat} {x : Ino} (h : InoAt W g p x) (hb : Below B W W') (hg : g < B) : InoAt W' g p x :=
  ⟨(hb.cell (p := ⟨g, p, none⟩) hg).trans h.1, (hb.cell (p := ⟨g, p + 1, none⟩) hg).trans h.2.1, (hb.cell (p := ⟨g, p + 2, none⟩) hg).trans h.2.2.1, (hb.cell (p := ⟨g, p + 3, none⟩) hg).trans h.2.2.2.1, (hb.cell (p := ⟨g, p + 4, none⟩) hg).trans h.2.2.2.2.1, (hb.cell (p := ⟨g, p + 5, none⟩) hg).trans h.2.2.2.2.2⟩

theorem bytes_same {a b : ByteArray} (h : a.toList = b.toList) : a = b := by
  rw [ByteArray.toList_eq, ByteArray.toList_eq] at h
  apply ByteArray.ext
  exact Array.toList_inj.1 h

theorem run_eqSt (a b c d : Int) (W : World) : (Op.equalIn 10000 31 (.agg #[.int .i64 a, .int .i64 b]) (.agg #[.int .i64 c, .int .i64 d])).run Tryz.prog W = .ok (decide ((a, b) = (c, d))) W := by
  go_simp
  by_cases h1 : a = c
  · by_cases h2 : b = d
    · simp [h1, h2]
    · simp [h1, h2]
  · simp [h1]

theorem eqSt_yes {a c : St} (h : a = c) (W : World) : (Op.equalIn 10000 31 (.agg #[.int .i64 a.1, .int .i64 a.2]) (.agg #[.int .i64 c.1, .int .i64 c.2])).run Tryz.prog W = .ok true W := by
  rw [run_eqSt, decide_eq_true (by rw [h])]

theorem eqSt_no {a c : St} (h : ¬ a = c) (W : World) : (Op.equalIn 10000 31 (.agg #[.int .i64 a.1, .int .i64 a.2]) (.agg #[.int .i64 c.1, .int .i64 c.2])).run Tryz.prog W = .ok false W := by
  rw [run_eqSt, decide_eq_false (fun e => h (Prod.ext (congrArg Prod.fst e) (congrArg Prod.snd e)))]

/-- An inode's six cells. -/
theorem ino_cells {w : World} {g : Nat} {x : Ino} {T : TypeId} (h : w.heap[g]? = some (.cells (inoA x) T (0, 0))) : InoAt w g 0 x :=
  ⟨cell_of_row _ _ 0 _ _ (0, 0) h, cell_of_row _ _ 1 _ _ (0, 0) h, cell_of_row _ _ 2 _ _ (0, 0) h, cell_of_row _ _ 3 _ _ (0, 0) h, cell_of_row _ _ 4 _ _ (0, 0) h, cell_of_row _ _ 5 _ _ (0, 0) h⟩

theorem ino_free {w : World} {g : Nat} {x : Ino} {T : TypeId} (h : w.heap[g]? = some (.cells (inoA x) T (0, 0))) :
    w.frozen? ⟨g, 0, none⟩ = false ∧ w.frozen? ⟨g, 1, none⟩ = false ∧ w.frozen? ⟨g, 2, none⟩ = false ∧ w.frozen? ⟨g, 3, none⟩ = false ∧ w.frozen? ⟨g, 4, none⟩ = false ∧ w.frozen? ⟨g, 5, none⟩ = false :=
  ⟨frozen_of_row _ _ 0 _ _ h, frozen_of_row _ _ 1 _ _ h, frozen_of_row _ _ 2 _ _ h, frozen_of_row _ _ 3 _ _ h, frozen_of_row _ _ 4 _ _ h, frozen_of_row _ _ 5 _ _ h⟩

theorem two_cells {w : World} {g : Nat} {a b : Value} {T : TypeId} (h : w.heap[g]? = some (.cells #[a, b] T (0, 0))) : w.cell? ⟨g, 0, none⟩ = some a ∧ w.cell? ⟨g, 1, none⟩ = some b :=
  ⟨cell_of_row _ _ 0 _ _ (0, 0) h, cell_of_row _ _ 1 _ _ (0, 0) h⟩

theorem two_free {w : World} {g : Nat} {a b : Value} {T : TypeId} (h : w.heap[g]? = some (.cells #[a, b] T (0, 0))) : w.frozen? ⟨g, 0, none⟩ = false ∧ w.frozen? ⟨g, 1, none⟩ = false :=
  ⟨frozen_of_row _ _ 0 _ _ h, frozen_of_row _ _ 1 _ _ h⟩

theorem below_six {B : Nat} {w W : World} (h : Below B w W) {g : Nat} (hg : B ≤ g) (a b c d e f : Value) :
    Below B w ((((((W.setCell ⟨g, 0, none⟩ a).setCell ⟨g, 1, none⟩ b).setCell ⟨g, 2, none⟩ c).setCell ⟨g, 3, none⟩ d).setCell ⟨g, 4, none⟩ e).setCell ⟨g, 5, none⟩ f) :=
  (((((h.setCell hg _).setCell hg _).setCell hg _).setCell hg _).setCell hg _).setCell hg _

theorem ino_put {W : World} {g : Nat} {z : Ino} {T : TypeId} (h : W.heap[g]? = some (.cells (inoA z) T (0, 0))) (y : Ino) :
    ((((((W.setCell ⟨g, 0, none⟩ (.int .i64 y.id.1)).setCell ⟨g, 1, none⟩ (.int .i64 y.id.2)).setCell ⟨g, 2, none⟩ (.int .i64 y.kind)).setCell ⟨g, 3, none⟩ (.int .i64 y.links)).setCell ⟨g, 4, none⟩ (.int .i64 y.mode)).setCell ⟨g, 5, none⟩ (.string y.data)).heap[g]? = some (.cells (inoA y) T (0, 0)) := by
  rw [heap_setCell_same _ _ _ _ _ _ (heap_setCell_same _ _ _ _ _ _ (heap_setCell_same _ _ _ _ _ _ (heap_setCell_same _ _ _ _ _ _ (heap_setCell_same _ _ _ _ _ _ (heap_setCell_same _ _ _ _ _ _ h)))))]
  rfl

theorem new_behind {W W' : World} {o : Obj} (hb : Below (W.alloc o).drew.heap.size (W.alloc o).drew W') : W'.heap[W.heap.size]? = some o ∧ Below W.heap.size W W' :=
  ⟨(hb.block _ (heap_lt (heap_alloc_new W o))).trans (heap_alloc_new W o), below_step (((Below.refl _ W).alloc (Nat.le_refl _) o).drew) hb⟩

/-- An entry's five cells. -/
theorem ent_cells {w : World} {g : Nat} {x : Ent} {T : TypeId} (h : w.heap[g]? = some (.cells (entA x) T (0, 0))) : EntAt w g 0 x :=
  ⟨cell_of_row _ _ 0 _ _ (0, 0) h, cell_of_row _ _ 1 _ _ (0, 0) h, cell_of_row _ _ 2 _ _ (0, 0) h, cell_of_row _ _ 3 _ _ (0, 0) h, cell_of_row _ _ 4 _ _ (0, 0) h⟩

end Go.Proofs.YtoobmkkmomiigaaGreat

/-
  A slice of structs appended to one of the call's own, whatever its address; parts of such a slice. It needs no program.
-/
namespace Go.Proofs.YtoobmkkmomiigaaGreat
open Go.RowKit

theorem wpList_append_tab {P : Program} {w : World} {ops : Array Oper} {rest : List Oper} {o : Oper} {a : Act} {Q : Exit → Act → World → Prop} (hgd : o.guard = none) (s x : Operand) (t : TypeId)
    (ho : o.op = .call { callee := .builtin .append, args := #[s, x], argTypes := #[t, t] })
    (base : Nat) (e : TypeId) (i : TypeInfo) (z : Value) (k bytes : Nat) (ht : P.underlying t = some (.slice e)) (hi : P.info? e = some i) (hz : i.zero = some z)
    (hsize : i.size = k) (hby : i.bytes = bytes) (hzs : z.cells.size = k) (hk : 0 < k)
    (v : Value) (n : Nat) (rows : List (Array Value)) (hs : a.eval s = v) (hown : w.ownsRow base e k v n (flat rows))
    (A : Option Addr) (m c B : Nat) (ys : List (Array Value)) (hx : a.eval x = .slice A m c) (hr : TabIn k w B A m ys) (hA : A = none → c = 0)
    (hyk : ∀ r ∈ ys, r.size = k) (hy1 : ∀ r ∈ ys, ∀ u ∈ r.toList, u.oneCell' = true)
    (h63 : n + m ≤ maxLen) (hbytes : (n + m) * bytes ≤ 140737488355328) (hbase : base ≤ w.heap.size)
    (h : ∀ v' w', w'.ownsRow base e k v' (n + m) (flat (rows ++ ys)) → w.grownBy w' v.ownBlock → wpList P ops Q rest (a.put o.dst v') w') : wpList P ops Q (o :: rest) a w := by
  cases A with
  | none =>
    have hm : m = 0 := by
      rcases Nat.eq_zero_or_pos m with h0 | h0
      · exact h0
      · obtain ⟨g, o', e', _⟩ := hr.2 h0
        cases e'
    subst hm
    have hy : ys = [] := List.eq_nil_of_length_eq_zero hr.1
    subst hy
    rw [hA rfl] at hx
    refine wpList_append_own_none hgd s x t ho base e i k ht hi v n (flat rows) hs hown hx (h v w ?_ (World.grownBy.refl w _))
    rw [List.append_nil]
    exact hown
  | some ad =>
    refine wpList_append_own w hgd s x t ho base e i z k bytes ht hi hz hsize hby hzs hk v n (flat rows) hs hown ad m c (flat ys) hx (by rw [flat_len hyk, hr.1]) ?_ (flat_cells hy1) h63 hbytes hbase fun v' w' h2 h3 _ => h v' w' (by rw [flat_append]; exact h2) h3
    intro j u hu
    obtain ⟨jj, i', hj, rfl, hv⟩ := flat_out hyk hu
    obtain ⟨g, o', e', _, hc⟩ := hr.2 (by have := hr.1; omega)
    injection e' with e'
    subst e'
    rw [tab_add, ← Nat.add_assoc]
    exact hc jj hj i' u hv

theorem TabIn.drop {k : Nat} {W : World} {B : Nat} {g o n : Nat} {rows : List (Array Value)} (h : TabIn k W B (some ⟨g, o, none⟩) n rows) {m : Nat} (hm : m ≤ n) : TabIn k W B (some ⟨g, o + m * k, none⟩) (n - m) (rows.drop m) :=
  ⟨by rw [List.length_drop, h.1], fun hn => by
    obtain ⟨g', o', e, hg, hc⟩ := h.2 (by omega)
    injection e with e
    injection e with e1 e2
    subst e1 e2
    refine ⟨g, o + m * k, rfl, hg, fun j hj i v hv => ?_⟩
    rw [List.length_drop] at hj
    rw [List.getElem_drop] at hv
    have q := hc (m + j) (by omega) i v hv
    rw [show o + m * k + j * k + i = o + (m + j) * k + i by rw [Nat.add_mul]; omega]
    exact q⟩

theorem grownBy_set (W : World) (b i : Nat) (v : Value) : W.grownBy (W.setCell ⟨b, i, none⟩ v) (some b) :=
  ⟨rfl, rfl, rfl, by simp, fun k _ hk => heap_setCell_other _ _ _ _ (fun e => hk (by dsimp only at e; rw [e]))⟩

/-- A row is kept where a block below it is written. -/
theorem own_set2 {W : World} {base : Nat} {e : TypeId} {k : Nat} {v : Value} {n : Nat} {xs : List Value} (h : W.ownsRow base e k v n xs) {b : Nat} (hb : b < base) (x y : Value) : ((W.setCell ⟨b, 0, none⟩ x).setCell ⟨b, 1, none⟩ y).ownsRow base e k v n xs := by
  have hne : v.ownBlock = none ∨ v.ownBlock ≠ some b := Or.inr fun e => by have := (h.lt b e).1; omega
  exact (h.kept (grownBy_set W b 0 x) hne).kept (grownBy_set _ b 1 y) hne

/-- A slice of no elements, newly made, is owned. -/
theorem own_empty (w : World) (base : Nat) (e : TypeId) (k : Nat) (hb : base ≤ w.heap.size) : (w.alloc (.cells #[] e)).ownsRow base e k (.slice (some ⟨w.heap.size, 0, none⟩) 0 0) 0 (flat []) :=
  ⟨by simp [flat], Or.inr ⟨w.heap.size, 0, #[], rfl, hb, heap_alloc_new w _, Nat.le_refl _, by decide, by simp, by simp [flat]⟩⟩

theorem take_while_at {α : Type} {f : α → Bool} : ∀ {l : List α} {k : Nat}, k ≤ l.length → (∀ j (h : j < l.length), j < k → f l[j] = true) → (∀ h : k < l.length, f l[k] = false) → l.take k = l.takeWhile f ∧ l.drop k = l.dropWhile f
  | [], k, hk, _, _ => by simp at hk; subst hk; simp
  | a :: l, 0, _, _, h2 => by
    have := h2 (by simp)
    simp at this
    simp [this]
  | a :: l, k + 1, hk, h1, h2 => by
    have ha := h1 0 (by simp) (by omega)
    simp at ha
    obtain ⟨i1, i2⟩ := take_while_at (l := l) (k := k) (by simpa using hk) (fun j hj hjk => by have := h1 (j + 1) (by simpa using hj) (by omega); simpa using this) (fun hkl => by have := h2 (by simpa using hkl); simpa using this)
    simp [ha, i1, i2]

end Go.Proofs.YtoobmkkmomiigaaGreat

/-
  Slices of entries and of inodes that a call makes of its own. It needs no program's function.
-/
namespace Go.Proofs.YtoobmkkmomiigaaGreat
open Go.RowKit StampMath GraphMath

theorem ent_infos : (Tryz.prog.info? 34).map (fun i => (i.zero, i.size, i.bytes)) = some (some (.agg #[.int .i64 0, .int .i64 0, .string ⟨#[]⟩, .int .i64 0, .int .i64 0]), 5, 48) := by kernel_rfl
theorem ino_infos : (Tryz.prog.info? 41).map (fun i => (i.zero, i.size, i.bytes)) = some (some (.agg #[.int .i64 0, .int .i64 0, .int .i64 0, .int .i64 0, .int .i64 0, .string ⟨#[]⟩]), 6, 56) := by kernel_rfl

/-- A new block holds its row. -/
theorem row_there (w : World) (T : TypeId) (r : Array Value) : ∀ j u, r.toList[j]? = some u → (w.alloc (.cells r T)).cell? (Addr.add ⟨w.heap.size, 0, none⟩ j) = some u := by
  intro j u hj
  rw [tab_add]
  rw [Nat.zero_add, cell_of_row _ _ j _ _ (0, 0) (heap_alloc_new w _)]
  simpa using hj

theorem ent_one (e : Ent) : ∀ u ∈ (entA e).toList, u.oneCell' = true := by
  intro u hu
  simp [entA] at hu
  rcases hu with rfl | rfl | rfl | rfl | rfl <;> rfl

theorem ino_one (x : Ino) : ∀ u ∈ (inoA x).toList, u.oneCell' = true := by
  intro u hu
  simp [inoA] at hu
  rcases hu with rfl | rfl | rfl | rfl | rfl | rfl <;> rfl

theorem ents_own {W : World} {base : Nat} {v : Value} {n : Nat} {E : List Ent} (hn : E.length = n) (h : W.ownsRow base 34 5 v n (flat (E.map entA))) :
    ∃ (A : Option Addr) (c : Nat), v = .slice A n c ∧ EntsIn W W.heap.size A n E ∧ n ≤ c ∧ c ≤ maxLen ∧ (A = Option.none → c = 0) :=
  tab_own (k := 5) (fun r hr => by obtain ⟨e, _, rfl⟩ := List.mem_map.1 hr; rfl) (by simpa using hn) h

theorem inos_own {W : World} {base : Nat} {v : Value} {n : Nat} {I : List Ino} (hn : I.length = n) (h : W.ownsRow base 41 6 v n (flat (I.map inoA))) :
    ∃ (A : Option Addr) (c : Nat), v = .slice A n c ∧ InosIn W W.heap.size A n I ∧ n ≤ c ∧ c ≤ maxLen ∧ (A = Option.none → c = 0) :=
  tab_own (k := 6) (fun r hr => by obtain ⟨e, _, rfl⟩ := List.mem_map.1 hr; rfl) (by simpa using hn) h

theorem flat_ent (E : List Ent) (e : Ent) : flat (E.map entA) ++ (entA e).toList = flat ((E ++ [e]).map entA) := by simp [flat]
theorem flat_ino (I : List Ino) (x : Ino) : flat (I.map inoA) ++ (inoA x).toList = flat ((I ++ [x]).map inoA) := by simp [flat]

/-- Entries are answered. -/
def EntsPost (E : List Ent) (w : World) (e : Ending) (w' : World) : Prop :=
  ∃ (A : Option Addr) (c : Nat), e = .returned (.slice A E.length c) ∧ EntsIn w' w'.heap.size A E.length E ∧ E.length ≤ c ∧ c ≤ maxLen ∧ (A = none → c = 0) ∧ Below w.heap.size w w'

/-- Inodes are answered. -/
def InosPost (I : List Ino) (w : World) (e : Ending) (w' : World) : Prop :=
  ∃ (A : Option Addr) (c : Nat), e = .returned (.slice A I.length c) ∧ InosIn w' w'.heap.size A I.length I ∧ I.length ≤ c ∧ c ≤ maxLen ∧ (A = none → c = 0) ∧ Below w.heap.size w w'

/-- New entries are answered: a slice of its own, that may be written. -/
def EntsNew (E : List Ent) (w : World) (e : Ending) (w' : World) : Prop :=
  ∃ v, e = .returned v ∧ w'.ownsRow w.heap.size 34 5 v E.length (flat (E.map entA)) ∧ Below w.heap.size w w'

/-- New inodes are answered: a slice of its own, that may be written. -/
def InosNew (I : List Ino) (w : World) (e : Ending) (w' : World) : Prop :=
  ∃ v, e = .returned v ∧ w'.ownsRow w.heap.size 41 6 v I.length (flat (I.map inoA)) ∧ Below w.heap.size w w'

end Go.Proofs.YtoobmkkmomiigaaGreat

/-
  Stamps in memory: a slice that is only read, and one that was appended to.
-/
namespace Go.Proofs.YtoobmkkmomiigaaGreat
open Go.RowKit StampMath GraphMath OpMath

/-- The slice reads as stamps, and lies below block B. -/
def StsIn (W : World) (B : Nat) (A : Option Addr) (n : Nat) (l : List St) : Prop := TabIn 2 W B A n (l.map stA)

theorem StsIn.len {W : World} {B : Nat} {A : Option Addr} {n : Nat} {l : List St} (h : StsIn W B A n l) : l.length = n := by have := h.1; rwa [List.length_map] at this

def StAt (W : World) (g p : Nat) (s : St) : Prop := W.cell? ⟨g, p, none⟩ = some (.int .i64 s.1) ∧ W.cell? ⟨g, p + 1, none⟩ = some (.int .i64 s.2)

theorem StsIn.row {W : World} {B : Nat} {A : Option Addr} {n : Nat} {l : List St} (h : StsIn W B A n l) (hn : 0 < n) : ∃ g o, A = some ⟨g, o, none⟩ ∧ g < B ∧ ∀ k (hk : k < l.length), StAt W g (o + k * 2) l[k] := by
  obtain ⟨g, o, e, hg, hc⟩ := h.2 hn
  refine ⟨g, o, e, hg, fun k hk => ?_⟩
  have hk' : k < (l.map stA).length := by simpa using hk
  have he : (l.map stA)[k] = stA l[k] := by simp
  exact ⟨hc k hk' 0 _ (by rw [he]; rfl), hc k hk' 1 _ (by rw [he]; rfl)⟩

theorem StAt.below {W W' : World} {B g p : Nat} {s : St} (h : StAt W g p s) (hb : Below B W W') (hg : g < B) : StAt W' g p s :=
  ⟨(hb.cell (p := ⟨g, p, none⟩) hg).trans h.1, (hb.cell (p := ⟨g, p + 1, none⟩) hg).trans h.2⟩

theorem sts_own {W : World} {base : Nat} {v : Value} {n : Nat} {l : List St} (hn : l.length = n) (h : W.ownsRow base 31 2 v n (flat (l.map stA))) :
    ∃ (A : Option Addr) (c : Nat), v = .slice A n c ∧ StsIn W W.heap.size A n l ∧ n ≤ c ∧ c ≤ maxLen ∧ (A = Option.none → c = 0) :=
  tab_own (k := 2) (fun r hr => by obtain ⟨e, _, rfl⟩ := List.mem_map.1 hr; rfl) (by simpa using hn) h

end Go.Proofs.YtoobmkkmomiigaaGreat

/-
  Blocks that lie in memory while calls go by: a list of them, and that nothing older has turned. It needs no program.
-/
namespace Go.Proofs.YtoobmkkmomiigaaGreat
open Go.RowKit

/-- These blocks lie there, and below w's end all is as it was in w. -/
def Held (w : World) (L : List (Nat × Obj)) (W : World) : Prop := (∀ p ∈ L, W.heap[p.1]? = some p.2) ∧ Below w.heap.size w W

theorem Held.refl (w : World) : Held w [] w := ⟨fun _ h => (by cases h), Below.refl _ _⟩

theorem Held.below {w W : World} {L : List (Nat × Obj)} (h : Held w L W) : Below w.heap.size w W := h.2

theorem Held.step {w W W' : World} {L : List (Nat × Obj)} (h : Held w L W) (hb : Below W.heap.size W W') : Held w L W' :=
  ⟨fun p hp => (hb.block _ (heap_lt (h.1 p hp))).trans (h.1 p hp), below_step h.2 hb⟩

theorem Held.alloc {w W : World} {L : List (Nat × Obj)} (h : Held w L W) (o : Obj) {g : Nat} (hg : W.heap.size = g) : Held w ((g, o) :: L) (W.alloc o) := by
  refine ⟨fun p hp => ?_, h.2.alloc h.2.size o⟩
  rcases List.mem_cons.1 hp with rfl | hp
  · subst hg; exact heap_alloc_new W o
  · rw [heap_alloc_old _ _ (heap_lt (h.1 p hp))]; exact h.1 p hp

theorem Held.drewN {w W : World} {L : List (Nat × Obj)} (h : Held w L W) (n : Nat) : Held w L (W.drewN n) := ⟨h.1, below_drewN' h.2 n⟩

theorem Held.drew {w W : World} {L : List (Nat × Obj)} (h : Held w L W) : Held w L W.drew := ⟨h.1, h.2.drew⟩

theorem Held.head {w W : World} {L : List (Nat × Obj)} {p : Nat × Obj} (h : Held w (p :: L) W) : W.heap[p.1]? = some p.2 := h.1 p (List.mem_cons_self ..)

theorem Held.tail {w W : World} {L : List (Nat × Obj)} {p : Nat × Obj} (h : Held w (p :: L) W) : Held w L W := ⟨fun q hq => h.1 q (List.mem_cons_of_mem _ hq), h.2⟩

theorem Held.at {w W : World} {L : List (Nat × Obj)} (h : Held w L W) (i : Nat) {p : Nat × Obj} (hp : L[i]? = some p) : W.heap[p.1]? = some p.2 := h.1 p (List.mem_of_getElem? hp)

/-- Behind a store into another block, which was made since. -/
theorem Held.set {w W : World} {L : List (Nat × Obj)} (h : Held w L W) {b : Nat} (hL : ∀ p ∈ L, p.1 < b) (hw : w.heap.size ≤ b) (i : Nat) (v : Value) : Held w L (W.setCell ⟨b, i, none⟩ v) :=
  ⟨fun p hp => (heap_setCell_other _ _ _ _ (by have := hL p hp; dsimp only; omega)).trans (h.1 p hp), h.2.setCell hw v⟩

/-- Behind a step that turns one block at most, which lies at or beyond B, where all that is held lies below. -/
theorem Held.grown {w W W' : World} {L : List (Nat × Obj)} {row : Option Nat} {B : Nat} (h : Held w L W) (hg : W.grownBy W' row) (hB : ∀ q, row = some q → B ≤ q) (hL : ∀ p ∈ L, p.1 < B) (hw : w.heap.size ≤ B := by simp) : Held w L W' :=
  ⟨fun p hp => (hg.block p.1 (heap_lt (h.1 p hp)) fun e => by have h1 := hB _ e.symm; have h2 := hL p hp; omega).trans (h.1 p hp), h.2.grown hg h.2.size fun q hq => Nat.le_trans hw (hB q hq)⟩

end Go.Proofs.YtoobmkkmomiigaaGreat

/-
  A slice of integers that was appended to, and is only read. It needs no program.
-/
namespace Go.Proofs.YtoobmkkmomiigaaGreat
open Go.RowKit

/-- Integers as cells. -/
def intV (xs : List Int) : List Value := xs.map fun x => .int .i64 x

theorem intV_len (xs : List Int) : (intV xs).length = xs.length := by simp [intV]
theorem intV_at {xs : List Int} {j : Nat} (h : j < xs.length) : (intV xs)[j]? = some (.int .i64 xs[j]) := by
  unfold intV
  rw [List.getElem?_map, List.getElem?_eq_getElem h]
  rfl

/-- The slice with address A and length n reads as the integers xs, and lies below block B. -/
def IntsIn (W : World) (B : Nat) (A : Option Addr) (n : Nat) (xs : List Int) : Prop :=
  xs.length = n ∧ (0 < n → ∃ g o, A = some ⟨g, o, none⟩ ∧ g < B ∧ ∀ j (h : j < xs.length), W.cell? ⟨g, o + j, none⟩ = some (.int .i64 xs[j]))

theorem IntsIn.below {W W' : World} {B : Nat} {A : Option Addr} {n : Nat} {xs : List Int} (h : IntsIn W B A n xs) (hb : Below B W W') : IntsIn W' B A n xs :=
  ⟨h.1, fun hn => by
    obtain ⟨g, o, e, hg, hc⟩ := h.2 hn
    exact ⟨g, o, e, hg, fun j hj => (hb.cell (p := ⟨g, o + j, none⟩) hg).trans (hc j hj)⟩⟩

theorem IntsIn.more {W : World} {B B' : Nat} {A : Option Addr} {n : Nat} {xs : List Int} (h : IntsIn W B A n xs) (hB : B ≤ B') : IntsIn W B' A n xs :=
  ⟨h.1, fun hn => by
    obtain ⟨g, o, e, hg, hc⟩ := h.2 hn
    exact ⟨g, o, e, by omega, hc⟩⟩

/-- What was appended to reads so. -/
theorem ints_own {W : World} {base : Nat} {e : TypeId} {v : Value} {n : Nat} {xs : List Int} (h : W.ownsRow base e 1 v n (intV xs)) :
    ∃ (A : Option Addr) (c : Nat), v = .slice A n c ∧ IntsIn W W.heap.size A n xs ∧ n ≤ c ∧ c ≤ maxLen := by
  have hl : xs.length = n := by have := h.1; rw [intV_len] at this; omega
  rcases h.2 with ⟨rfl, h0⟩ | ⟨g, cap, cur, rfl, hb, hg, hnc, hcm, _, _⟩
  · exact ⟨Option.none, 0, by rw [h0], ⟨hl, fun hn => by omega⟩, by omega, by decide⟩
  · refine ⟨some ⟨g, 0, Option.none⟩, cap, rfl, ⟨hl, fun _ => ⟨g, 0, rfl, (Array.getElem?_eq_some_iff.1 hg).1, fun j hj => ?_⟩⟩, hnc, hcm⟩
    have q := h.cells (g := g) rfl _ _ (intV_at hj)
    have e : (⟨g, 0, Option.none⟩ : Addr).add j = ⟨g, 0 + j, Option.none⟩ := by
      unfold Addr.add
      split <;> simp_all
    rw [e] at q
    exact q

/-- A new cell with an integer. -/
theorem int_there (w : World) (T : TypeId) (x : Int) : ∀ j u, (intV [x])[j]? = some u → (w.alloc (.cells #[.int .i64 x] T)).cell? (Addr.add ⟨w.heap.size, 0, none⟩ j) = some u := by
  intro j u hj
  have h0 : j = 0 := by
    by_cases e : j = 0
    · exact e
    · rw [List.getElem?_eq_none (by simp [intV]; omega)] at hj
      cases hj
  subst h0
  simp [intV] at hj
  subst hj
  exact cell_of_row _ _ 0 _ _ (0, 0) (heap_alloc_new w _)

theorem int_one (x : Int) : ∀ u ∈ intV [x], u.oneCell' = true := by
  intro u hu
  simp [intV] at hu
  subst hu
  rfl

end Go.Proofs.YtoobmkkmomiigaaGreat

/-
  The walk of the document's own Ints.
-/
namespace Go.Proofs.YtoobmkkmomiigaaGreat
open Go.RowKit StampMath GraphMath OpMath

theorem ints_diff {a b : List Int} {k : Nat} (ha : k < a.length) (hb : k < b.length) (h : a[k] ≠ b[k]) : a ≠ b := fun e => h (by subst e; rfl)

set_option maxRecDepth 100000 in
theorem refInts (A : Option Addr) (n c : Nat) (a : List Int) (A' : Option Addr) (m d : Nat) (b : List Int) (_ : n ≤ 1000) (hm : m ≤ 1000) (w : World) (h : IntsIn w w.heap.size A n a) (h' : IntsIn w w.heap.size A' m b) :
    Calls Tryz.prog 12 #[.slice A n c, .slice A' m d] w fun e w' => e = .returned (.bool (decide (a = b))) ∧ Below w.heap.size w w' := by
  have hl := h.1
  have hl' := h'.1
  by_cases hnm : n = m
  · have HA : Hid (IntsIn w w.heap.size A n a) := h
    have HB : Hid (IntsIn w w.heap.size A' m b) := h'
    clear h h'
    go_enter Tryz.func12, Tryz.ntmps12
    go_wp2_with fail
    go_loopg [5] (n + 1) (fun gk i wr => ∃ k : Nat, i = .int .i64 (k : Int) ∧ gk + k = n + 1 ∧ k ≤ n ∧ Hid (a.take k = b.take k) ∧ Hid (Below w.heap.size w wr))
    case atStart => exact ⟨0, rfl, by omega, by omega, show a.take 0 = b.take 0 by simp, Below.refl _ _⟩
    case round =>
      obtain ⟨k, rfl, hgk, hk, hsame, hH⟩ := hrel
      by_cases hlt : k < n
      · obtain ⟨g1, o1, rfl, hg1, hrow1⟩ := HA.out.2 (by omega)
        obtain ⟨g2, o2, rfl, hg2, hrow2⟩ := HB.out.2 (by omega)
        have e1 := (hH.out.cell (p := ⟨g1, o1 + k, none⟩) hg1).trans (hrow1 k (by omega))
        have e2 := (hH.out.cell (p := ⟨g2, o2 + k, none⟩) hg2).trans (hrow2 k (by omega))
        by_cases hq : a[k] = b[k]
        · have HN : Hid (a.take (k + 1) = b.take (k + 1)) := by
            show a.take (k + 1) = b.take (k + 1)
            rw [List.take_succ_eq_append_getElem (by omega), List.take_succ_eq_append_getElem (by omega), hsame.out, hq]
          rw [← hq] at e2
          obtain ⟨t, ht⟩ : ∃ t, a[k] = t := ⟨_, rfl⟩
          rw [ht] at e1 e2
          clear hrow1 hrow2 hsame hq ht
          go_wp2_with fail
          go_quiet (fail)
          go_wp2_with fail
          go_roundg (gk - 1)
          case measure => omega
          case rel => exact ⟨k + 1, by go_num, by omega, by omega, HN.out, below_drewN' hH.out _⟩
        · have hm2 : Hid (decide (a = b) = false) := decide_eq_false (ints_diff (by omega) (by omega) hq)
          obtain ⟨t, ht⟩ : ∃ t, a[k] = t := ⟨_, rfl⟩
          obtain ⟨u, hu⟩ : ∃ u, b[k] = u := ⟨_, rfl⟩
          rw [ht] at e1 hq
          rw [hu] at e2 hq
          clear hrow1 hrow2 hsame ht hu
          go_wp2_with fail
          go_quiet (fail)
          go_wp2_with fail
          go_ret
          exact ⟨by rw [hm2.out]; rfl, below_drewN' hH.out _⟩
      · have hm2 : Hid (decide (a = b) = true) := decide_eq_true (by have h := hsame.out; rwa [List.take_of_length_le (by omega), List.take_of_length_le (by omega)] at h)
        go_wp2_with fail
        go_ret
        exact ⟨by rw [hm2.out]; rfl, hH.out⟩
  · have hne : Hid (decide (a = b) = false) := decide_eq_false fun e => hnm (by rw [← hl, ← hl', e])
    clear h h'
    go_enter Tryz.func12, Tryz.ntmps12
    go_wp2_with fail
    go_ret
    exact ⟨by rw [hne.out]; rfl, Below.refl _ _⟩

end Go.Proofs.YtoobmkkmomiigaaGreat

/-
  Inodes and entries that a call of audit is given.
-/
namespace Go.Proofs.YtoobmkkmomiigaaGreat
open Go.RowKit StampMath GraphMath OpMath

/-- Inodes and entries that are given. -/
structure Given (w : World) (A : Option Addr) (n : Nat) (N : List Ino) (A' : Option Addr) (m : Nat) (E : List Ent) : Prop where
  inos : InosIn w w.heap.size A n N
  ents : EntsIn w w.heap.size A' m E
  fewI : n ≤ 1000
  fewE : m ≤ 1000
  datas : ∀ x ∈ N, x.data.size ≤ maxLen
  names : ∀ e ∈ E, e.name.size ≤ maxLen

theorem Given.below {w W : World} {A : Option Addr} {n : Nat} {N : List Ino} {A' : Option Addr} {m : Nat} {E : List Ent} (h : Given w A n N A' m E) (hb : Below w.heap.size w W) : Given W A n N A' m E :=
  ⟨(h.inos.below hb).more hb.size, (h.ents.below hb).more hb.size, h.fewI, h.fewE, h.datas, h.names⟩

end Go.Proofs.YtoobmkkmomiigaaGreat

/-
  What a call that writes to some blocks leaves: outside these all that was there is as it was. It needs no program.
-/
namespace Go.Proofs.YtoobmkkmomiigaaGreat
open Go.RowKit

/-- Outside the blocks S all that was there is as it was. -/
structure But (S : Nat → Prop) (w w' : World) : Prop where
  os : w'.os = w.os
  tape : w'.tape = w.tape
  output : w'.output = w.output
  size : w.heap.size ≤ w'.heap.size
  block : ∀ k, k < w.heap.size → ¬ S k → w'.heap[k]? = w.heap[k]?

theorem But.refl (S : Nat → Prop) (w : World) : But S w w := ⟨rfl, rfl, rfl, Nat.le_refl _, fun _ _ _ => rfl⟩

theorem But.of_below {S : Nat → Prop} {w w' : World} (h : Below w.heap.size w w') : But S w w' := ⟨h.os, h.tape, h.output, h.size, fun k hk _ => h.block k hk⟩

theorem But.trans {S T : Nat → Prop} {a b c : World} (h : But S a b) (k : But T b c) (hT : ∀ i, T i → i < a.heap.size → S i) : But S a c :=
  ⟨k.os.trans h.os, k.tape.trans h.tape, k.output.trans h.output, Nat.le_trans h.size k.size, fun i hi hn =>
    (k.block i (Nat.lt_of_lt_of_le hi h.size) fun ht => hn (hT i ht hi)).trans (h.block i hi hn)⟩

theorem But.mono {S T : Nat → Prop} {a b : World} (h : But S a b) (hT : ∀ i, S i → T i) : But T a b :=
  ⟨h.os, h.tape, h.output, h.size, fun i hi hn => h.block i hi fun hs => hn (hT i hs)⟩

theorem But.below {S : Nat → Prop} {a b : World} {B : Nat} (h : But S a b) (hS : ∀ i, S i → B ≤ i) (hB : B ≤ a.heap.size) : Below B a b :=
  ⟨h.os, h.tape, h.output, h.size, fun i hi => h.block i (by omega) fun hs => by have := hS i hs; omega⟩

theorem But.then_below {S : Nat → Prop} {a b c : World} (h : But S a b) (k : Below b.heap.size b c) : But S a c := h.trans (T := fun _ => False) (.of_below k) fun _ h => h.elim

theorem But.alloc {S : Nat → Prop} {a b : World} (h : But S a b) (o : Obj) : But S a (b.alloc o) := h.then_below ((Below.refl _ _).alloc (Nat.le_refl _) o)

theorem But.drewN {S : Nat → Prop} {a b : World} (h : But S a b) (n : Nat) : But S a (b.drewN n) := ⟨h.os, h.tape, h.output, h.size, h.block⟩

theorem But.setCell {S : Nat → Prop} {a b : World} (h : But S a b) {p : Addr} (hp : S p.block ∨ a.heap.size ≤ p.block) (v : Value) : But S a (b.setCell p v) := by
  refine ⟨?_, ?_, ?_, ?_, fun k hk hn => ?_⟩
  · rw [← h.os]; rfl
  · rw [← h.tape]; rfl
  · rw [← h.output]; rfl
  · rw [World.size_setCell]; exact h.size
  · rw [← h.block k hk hn]
    refine heap_setCell_other _ _ _ _ fun e => ?_
    subst e
    rcases hp with hp | hp
    · exact hn hp
    · omega

/-- What stood in a block that isn't one of them stands there. -/
theorem But.heap {S : Nat → Prop} {a b : World} (h : But S a b) {g : Nat} {o : Obj} (hg : a.heap[g]? = some o) (hn : ¬ S g) : b.heap[g]? = some o := (h.block g (heap_lt hg) hn).trans hg

theorem But.cell {S : Nat → Prop} {a b : World} (h : But S a b) {p : Addr} {v : Value} (hp : a.cell? p = some v) (hn : ¬ S p.block) : b.cell? p = some v :=
  (World.cell?_of_block (h.block p.block (World.block_lt_of_cell? _ _ hp) hn)).trans hp

end Go.Proofs.YtoobmkkmomiigaaGreat

/-
  What every statement of layer 10 needs of the package's own calls; and the statements' head.
-/
namespace Go.Proofs.YtoobmkkmomiigaaGreat
open Go.RowKit StampMath GraphMath OpMath

structure AuditAsk : Prop where
  check : ∀ (A : Option Addr) (n c : Nat) (N : List Ino) (A' : Option Addr) (m d : Nat) (E : List Ent) (w : World), Given w A n N A' m E →
    Calls Tryz.prog 8 #[.slice A n c, .slice A' m d] w fun e w' => ∃ (v : Value) (l : List Int), e = .returned v ∧ IsCheck N E l ∧ w'.ownsRow w.heap.size 3 1 v l.length (intV l) ∧ Below w.heap.size w w'
  fine : ∀ (A : Option Addr) (n c : Nat) (N : List Ino) (A' : Option Addr) (m d : Nat) (E : List Ent) (w : World), Given w A n N A' m E →
    Calls Tryz.prog 11 #[.slice A n c, .slice A' m d] w fun e w' => ∃ b : Bool, e = .returned (.bool b) ∧ (b = true ↔ fineP N E) ∧ Below w.heap.size w w'

/-! ### the head -/

def rootI : Ino := ⟨(0, 0), 1, 0, 0, ⟨#[]⟩⟩
def fileI : Ino := ⟨(1, 0), 2, 0, 0, ⟨#[]⟩⟩

theorem root_fine : fineP [rootI] [] := by
  refine ⟨⟨List.pairwise_singleton _ _, List.Pairwise.nil⟩, ⟨fun x hx => ?_, fun e he => (by cases he), rfl⟩, fun e he => (by cases he), fun x hx => ?_, fun x hx => ?_, fun x hx => ?_, fun x hx => ?_, by decide⟩
  all_goals obtain rfl := List.mem_singleton.1 hx
  · exact ⟨rfl, by decide, by decide⟩
  · rfl
  · rfl
  · exact ⟨0, .root rfl⟩
  · exact ⟨by decide, by decide, fun _ => rfl, fun h => absurd h (by decide), fun h => absurd h (by decide)⟩

theorem file_faults {l : List Int} (h : IsCheck [rootI, fileI] [] l) : l = [5, 6] := by
  have hr : ∀ {s : St}, Reached [rootI, fileI] [] s → s = (0, 0) := by
    rintro s ⟨n, h⟩
    cases h with
    | root _ => rfl
    | step h _ _ _ => cases h
  have two : ∀ x ∈ [rootI, fileI], x = rootI ∨ x = fileI := fun x hx => by simpa using hx
  have o1 : orderOk [rootI, fileI] [] := ⟨by simp [rootI, fileI, lessS, lessB], List.Pairwise.nil⟩
  have o2 : shapeOk [rootI, fileI] [] := ⟨fun x hx => by rcases two x hx with rfl | rfl <;> exact ⟨rfl, by decide, by decide⟩, fun e he => (by cases he), rfl⟩
  have o3 : lostOk [rootI, fileI] [] := fun e he => (by cases he)
  have o4 : countOk [rootI, fileI] [] := fun x hx => by rcases two x hx with rfl | rfl <;> rfl
  have o5 : ¬ manyOk [rootI, fileI] [] := fun q => by
    have h1 := q fileI (by simp)
    unfold manyOk1 at h1
    rw [if_neg (by decide)] at h1
    exact absurd h1.1 (by decide)
  have o6 : ¬ apartOk [rootI, fileI] [] := fun q => absurd (hr (q fileI (by simp))) (by decide)
  have o7 : boundsOk [rootI, fileI] := ⟨fun x hx => by rcases two x hx with rfl | rfl <;> exact ⟨by decide, by decide, fun h => (by first | rfl | exact absurd h (by decide)), fun h => (by first | decide | exact absurd h (by decide)), fun h => absurd h (by decide)⟩, by decide⟩
  have hm : ∀ k, k ∈ l ↔ k = 5 ∨ k = 6 := fun k => by
    rw [h.2]
    unfold faultOf
    simp [o1, o2, o3, o4, o5, o6, o7]
  match l, h.1, hm with
  | [], _, hm => have := (hm 5).2 (Or.inl rfl); cases this
  | [a], _, hm =>
    have h5 := (hm 5).2 (Or.inl rfl)
    have h6 := (hm 6).2 (Or.inr rfl)
    simp at h5 h6
    omega
  | a :: b :: [], hp, hm =>
    have ha := (hm a).1 (by simp)
    have hb := (hm b).1 (by simp)
    have hab : a < b := by simpa using hp
    have h1 : a = 5 := by omega
    have h2 : b = 6 := by omega
    rw [h1, h2]
  | a :: b :: c :: l, hp, hm =>
    have ha := (hm a).1 (by simp)
    have hb := (hm b).1 (by simp)
    have hc := (hm c).1 (by simp)
    obtain ⟨h1, h2⟩ := List.pairwise_cons.1 hp
    obtain ⟨h3, _⟩ := List.pairwise_cons.1 h2
    have q1 := h1 b (by simp)
    have q2 := h3 c (by simp)
    omega

theorem heap_new {W : World} {o : Obj} {i : Nat} (h : W.heap.size = i) : (W.alloc o).heap[i]? = some o := by
  subst h
  exact heap_alloc_new _ _

/-- What is written out in a block reads so. -/
theorem tab_lit {k : Nat} {W : World} {g : Nat} {rows : List (Array Value)} {cs : Array Value} {T : TypeId} (hk : ∀ r ∈ rows, r.size = k) (h : W.heap[g]? = some (.cells cs T (0, 0))) (hc : cs = (flat rows).toArray) : TabIn k W W.heap.size (some ⟨g, 0, none⟩) rows.length rows := by
  subst hc
  refine ⟨rfl, fun _ => ⟨g, 0, rfl, heap_lt h, fun j hj i v hv => ?_⟩⟩
  have hi : i < k := by rw [← hk rows[j] (List.getElem_mem hj)]; exact (Array.getElem?_eq_some_iff.1 hv).1
  rw [cell_of_row _ _ _ _ _ (0, 0) h, Nat.zero_add, List.getElem?_toArray, flat_at hk j hj i hi]
  exact hv

theorem given_nil (w : World) (A : Option Addr) (N : List Ino) (n : Nat) (h : InosIn w w.heap.size A n N) (hn : n ≤ 1000) (hd : ∀ x ∈ N, x.data.size ≤ maxLen) : Given w A n N none 0 [] :=
  ⟨h, TabIn.nil 5 w _ _, hn, by omega, hd, fun e he => by cases he⟩

theorem AuditAsk.shown (H : AuditAsk) (w : World) :
    Calls Tryz.prog 4 #[] w fun e w' => e = .returned (.bool true) ∧ Below w.heap.size w w' := by
  go_enter Tryz.func4, Tryz.ntmps4
  go_wp2_with fail
  refine (H.fine _ 1 1 [rootI] none 0 0 [] _ (given_nil _ _ _ _ (tab_lit (rows := [inoA rootI]) (T := 41) (by simp [inoA]) (heap_new (by simp)) (by rfl)) (by omega) (fun x hx => by obtain rfl := List.mem_singleton.1 hx; decide))).mono ?_
  rintro e w1 ⟨b, rfl, hb, hb1⟩
  obtain rfl : b = true := hb.2 root_fine
  have hH := ((((Held.refl w).alloc (.cells (inoA rootI) 41) rfl).alloc (g := w.heap.size + 1) (.cells (inoA fileI) 41) (by simp)).alloc (g := w.heap.size + 2) (.cells (inoA rootI) 41) (by simp)).step hb1
  clear hb hb1
  obtain ⟨r0, r1, r2, r3, r4, r5⟩ := ino_cells (g := w.heap.size) (hH.at 2 rfl)
  obtain ⟨f0, f1, f2, f3, f4, f5⟩ := ino_cells (g := w.heap.size + 1) (hH.at 1 rfl)
  simp only [rootI, fileI] at r0 r1 r2 r3 r4 r5 f0 f1 f2 f3 f4 f5
  have HH := Lib.hid hH
  clear hH
  go_wp2_with fail
  refine (H.check _ 2 2 [rootI, fileI] none 0 0 [] _ (given_nil _ _ _ _ (tab_lit (rows := [inoA rootI, inoA fileI]) (T := 41) (by simp [inoA]) (heap_new rfl) (by rfl)) (by omega) (fun x hx => by
    have : x = rootI ∨ x = fileI := by simpa using hx
    rcases this with rfl | rfl <;> decide))).mono ?_
  rintro e w2 ⟨v, l, rfl, hc, hown, hb2⟩
  obtain rfl := file_faults hc
  clear hc
  obtain ⟨A, c, rfl, hin, _, _⟩ := ints_own hown
  have hB : Below w.heap.size w w2 := below_step HH.out.below (below_step ((Below.refl _ _).alloc (Nat.le_refl _) _) hb2)
  clear hown hb2 r0 r1 r2 r3 r4 r5 f0 f1 f2 f3 f4 f5
  have HI := Lib.hid hin
  clear hin
  go_wp2_with fail
  refine (refInts _ 2 _ [5, 6] _ 2 2 [5, 6] (by omega) (by omega) _ ((HI.out.below ((Below.refl _ _).alloc (Nat.le_refl _) _)).more (by simp)) ⟨rfl, fun _ => ⟨w2.heap.size, 0, rfl, by simp, fun j hj => ?_⟩⟩).mono ?_
  · rw [cell_of_row _ _ _ _ _ (0, 0) (heap_new rfl)]
    match j, hj with
    | 0, _ => rfl
    | 1, _ => rfl
  rintro e w3 ⟨rfl, hb3⟩
  go_wp2_with fail
  go_ret
  exact ⟨by simp, below_step hB (below_step ((Below.refl _ _).alloc (Nat.le_refl _) _) hb3)⟩

end Go.Proofs.YtoobmkkmomiigaaGreat

/-
  What the statements of layer 10 need of graphs.
-/
namespace Go.Proofs.YtoobmkkmomiigaaGreat
open Go.RowKit StampMath GraphMath OpMath

/-- A graph in memory, with the calls that layer 10 makes. -/
structure GraphFew where
  rep : World → (Nat → Prop) → Addr → Gr → Prop
  lt : ∀ {W : World} {S : Nat → Prop} {a : Addr} {g : Gr}, rep W S a g → ∀ i, S i → i < W.heap.size
  keep : ∀ {W W' : World} {S : Nat → Prop} {a : Addr} {g : Gr}, rep W S a g → (∀ i, S i → W'.heap[i]? = W.heap[i]?) → rep W' S a g
  new : ∀ (w : World), Calls Tryz.prog 5 #[] w fun e w' => ∃ a S, e = .returned (.pointer (some a)) ∧ rep w' S a newG ∧ (∀ i, S i → w.heap.size ≤ i) ∧ Below w.heap.size w w'
  inodes : ∀ (a : Addr) (S : Nat → Prop) (g : Gr) (w : World), rep w S a g → g.ok → Calls Tryz.prog 9 #[.pointer (some a)] w (InosNew (inodesG g) w)
  entries : ∀ (a : Addr) (S : Nat → Prop) (g : Gr) (w : World), rep w S a g → g.ok → Calls Tryz.prog 10 #[.pointer (some a)] w (EntsNew g.E w)
  make : ∀ (a : Addr) (S : Nat → Prop) (g : Gr) (id : St) (kind : Int) (w : World), rep w S a g → g.ok → Calls Tryz.prog 6 #[.pointer (some a), .agg (stA id), .int .i64 kind] w fun e w' => ∃ S', e = .returned (.int .i64 (makeG g id kind).2) ∧ rep w' S' a (makeG g id kind).1 ∧ (∀ i, S' i → S i ∨ w.heap.size ≤ i) ∧ But S w w'
  tie : ∀ (a : Addr) (S : Nat → Prop) (g : Gr) (x : Ent) (w : World), rep w S a g → g.ok → x.name.size ≤ maxLen → Calls Tryz.prog 7 #[.pointer (some a), .agg (entA x)] w fun e w' => ∃ S', e = .returned (.int .i64 (tieG (nameB x.name) g x).2) ∧ rep w' S' a (tieG (nameB x.name) g x).1 ∧ (∀ i, S' i → S i ∨ w.heap.size ≤ i) ∧ But S w w'

end Go.Proofs.YtoobmkkmomiigaaGreat
