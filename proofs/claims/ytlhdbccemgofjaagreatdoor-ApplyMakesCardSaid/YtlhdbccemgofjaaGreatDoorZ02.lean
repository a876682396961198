/-
  Plain mathematics of the landed apply: what its questions answer is why an operation can't be done; what its changes make is what an operation makes. It needs no program.
-/
import Derived.Test.YtlhdbccemgofjaaGreatDoorZ01
import Derived.Test.YtlhdbccemgofjaaGreatDoorZ00
import Derived.Deep.Cut
import Derived.Deep.DeepCutAuto
namespace Go.Proofs.YtlhdbccemgofjaaGreatDoor.GraphMath
open StampMath OpMath ExtentMath

/-- The inode that an operation's entry is of. -/
def namedG (g : Gr) (o : Opn) : Option Ino := if lookE g.E (oAt o) o.name = some (oIno o) then getG g (oIno o) else none

/-- The target's inode. -/
def aimG (g : Gr) (o : Opn) : Option Ino := (targetG g o).bind (getG g)

theorem not_false {b : Bool} (h : ¬ b = false) : b = true := by cases b with | false => exact absurd rfl h | true => rfl

theorem kind_none {g : Gr} {id : St} (q : getG g id = none) : kindG g id = 0 := by unfold kindG; rw [q]; rfl

theorem kind_is {g : Gr} (h : g.ok) {id : St} {x : Ino} (q : getG g id = some x) : kindG g id = x.kind ∧ x.id = id ∧ 1 ≤ x.kind ∧ x.kind ≤ 3 ∧ x.links = (linksE g.E id : Int) := by
  obtain ⟨y, hy, h1, h2⟩ := get_some q
  have hk := h.kinds y hy
  refine ⟨by unfold kindG; rw [q]; rfl, by rw [h2]; exact h1, by rw [h2]; exact hk.1, by rw [h2]; exact hk.2, by rw [h2]⟩

theorem Gr.ok.entry {g : Gr} (h : g.ok) {d : St} {nm : ByteArray} {id : St} (q : lookE g.E d nm = some id) : ∃ x, getG g id = some x := by
  unfold lookE at q
  rw [Option.map_eq_some_iff] at q
  obtain ⟨e, he, rfl⟩ := q
  obtain ⟨x, hx, hxe⟩ := h.inos e (List.mem_of_find?_eq_some he)
  exact ⟨_, by rw [← hxe]; exact h.get hx⟩

theorem Gr.ok.list_kind {g : Gr} (h : g.ok) {id : St} (hk : GraphMath.kindG g id ≠ 1) : listE g.E id = [] := h.list_none hk

/-- Why can't an inode be made. -/
def makeB (ba : Bool) (ka : Int) (bn bi : Bool) (n : Int) : Int := if ba = false then 3 else if ka ≠ 1 then 6 else if bn = true ∨ bi = true then 4 else if 40 ≤ n then 13 else 0
def linkB (ba bx : Bool) (ka kx : Int) (bn : Bool) (lx : Int) : Int := if ba = false ∨ bx = false then 3 else if ka ≠ 1 then 6 else if kx = 1 then 5 else if bn = true then 4 else if 6 ≤ lx then 12 else 0
def unlinkB (b : Bool) (k : Int) : Int := if b = false then 3 else if k = 1 then 5 else 0
def rmdirB (b : Bool) (k n : Int) : Int := if b = false then 3 else if k ≠ 1 then 6 else if 0 < n then 7 else 0
def replaceB (k ka n : Int) : Int := if ka = 1 ∧ k ≠ 1 then 5 else if k = 1 ∧ ka ≠ 1 then 6 else if 0 < n then 7 else 0
def fillB (b : Bool) (k : Int) : Int := if b = false then 3 else if k = 1 then 5 else if k = 3 then 8 else 0
def setB (b : Bool) : Int := if b = false then 3 else 0

theorem some_kind {g : Gr} (h : g.ok) (id : St) : (getG g id).isSome = decide (kindG g id ≠ 0) := by
  cases q : getG g id with
  | none => rw [kind_none q]; rfl
  | some x =>
    have := kind_is h q
    rw [Option.isSome_some, this.1]
    exact (decide_eq_true (by omega)).symm

theorem make_why {g : Gr} (h : g.ok) {o : Opn} (hm : mayO o = true) (hk : o.k ≤ 3) :
    whyA g o = makeB (getG g (oAt o)).isSome ((getG g (oAt o)).getD noIno).kind (lookE g.E (oAt o) o.name).isSome (getG g (oSt o)).isSome (g.I.length : Int) := by
  have h4 : o.k ≠ 4 := by omega
  unfold whyA makesW makeB
  rw [if_neg (by rw [hm]; decide), if_pos (by omega), some_kind h, some_kind h, show ((getG g (oAt o)).getD noIno).kind = kindG g (oAt o) from rfl]
  have e40 : (40 ≤ g.I.length) = ((40 : Int) ≤ (g.I.length : Int)) := propext (by omega)
  simp [h4, e40]

theorem link_why' {g : Gr} (h : g.ok) {o : Opn} (hm : mayO o = true) (hk : o.k = 4) :
    whyA g o = linkB (getG g (oAt o)).isSome (getG g (oIno o)).isSome ((getG g (oAt o)).getD noIno).kind ((getG g (oIno o)).getD noIno).kind (lookE g.E (oAt o) o.name).isSome ((getG g (oIno o)).getD noIno).links := by
  unfold whyA makesW linkB
  rw [if_neg (by rw [hm]; decide), if_pos (by omega), some_kind h, some_kind h, show ((getG g (oAt o)).getD noIno).kind = kindG g (oAt o) from rfl, show ((getG g (oIno o)).getD noIno).kind = kindG g (oIno o) from rfl, show ((getG g (oIno o)).getD noIno).links = linksG g (oIno o) from rfl]
  simp [hk]

theorem named_none {g : Gr} (h : g.ok) {o : Opn} : (lookE g.E (oAt o) o.name ≠ some (oIno o) ∨ kindG g (oIno o) = 0) ↔ (namedG g o).isSome = false := by
  unfold namedG
  by_cases q : lookE g.E (oAt o) o.name = some (oIno o)
  · rw [if_pos q, some_kind h]
    simp [q]
  · rw [if_neg q]
    simp [q]

theorem named_kind {g : Gr} {o : Opn} (q : (namedG g o).isSome = true) : ((namedG g o).getD noIno).kind = kindG g (oIno o) := by
  unfold namedG at q ⊢
  split at q
  · rename_i e; rw [if_pos e]; rfl
  · cases q

theorem named_some {g : Gr} (h : g.ok) {o : Opn} {x : Ino} (q : namedG g o = some x) : lookE g.E (oAt o) o.name = some (oIno o) ∧ getG g (oIno o) = some x ∧ x.id = oIno o ∧ kindG g (oIno o) = x.kind := by
  unfold namedG at q
  split at q
  · rename_i e
    have := kind_is h q
    exact ⟨e, q, this.2.1, this.1⟩
  · cases q

theorem unlink_why {g : Gr} (h : g.ok) {o : Opn} (hm : mayO o = true) (hk : o.k = 5) : whyA g o = unlinkB (namedG g o).isSome ((namedG g o).getD noIno).kind := by
  unfold whyA unlinkB
  rw [if_neg (by rw [hm]; decide), if_neg (by omega), if_neg (by omega)]
  by_cases q : (namedG g o).isSome = false
  · rw [if_pos q]
    have := (named_none h).2 q
    rw [if_pos (by rcases this with z | z; exact Or.inl ⟨by omega, z⟩; exact Or.inr z)]
  · rw [if_neg q]
    have hn := mt (named_none h).1 q
    have hn1 : lookE g.E (oAt o) o.name = some (oIno o) := Classical.byContradiction fun z => hn (Or.inl z)
    rw [if_neg (fun z => hn (z.elim (fun y => Or.inl y.2) Or.inr)), named_kind (not_false q)]
    simp [hk]

theorem rmdir_why {g : Gr} (h : g.ok) {o : Opn} (hm : mayO o = true) (hk : o.k = 6) : whyA g o = rmdirB (namedG g o).isSome ((namedG g o).getD noIno).kind ((listE g.E (oIno o)).length : Int) := by
  unfold whyA rmdirB
  rw [if_neg (by rw [hm]; decide), if_neg (by omega), if_neg (by omega)]
  by_cases q : (namedG g o).isSome = false
  · rw [if_pos q]
    have := (named_none h).2 q
    rw [if_pos (by rcases this with z | z; exact Or.inl ⟨by omega, z⟩; exact Or.inr z)]
  · rw [if_neg q]
    have hn := mt (named_none h).1 q
    rw [if_neg (fun z => hn (z.elim (fun y => Or.inl y.2) Or.inr)), named_kind (not_false q)]
    rw [if_neg (by omega)]
    by_cases c : kindG g (oIno o) ≠ 1
    · rw [if_pos ⟨hk, c⟩, if_pos c]
    rw [if_neg (fun z => c z.2), if_neg c]
    by_cases d : 0 < (listE g.E (oIno o)).length
    · rw [if_pos ⟨hk, d⟩, if_pos (by omega)]
    · rw [if_neg (fun z => d z.2), if_neg (by omega), if_neg (by omega)]

theorem fill_why {g : Gr} (h : g.ok) {o : Opn} (hm : mayO o = true) (hk : o.k = 8 ∨ o.k = 9) : whyA g o = fillB (getG g (oIno o)).isSome ((getG g (oIno o)).getD noIno).kind := by
  unfold whyA fillB
  rw [if_neg (by rw [hm]; decide), if_neg (by omega), if_neg (by omega), some_kind h, show ((getG g (oIno o)).getD noIno).kind = kindG g (oIno o) from rfl]
  have h6 : ¬ o.k ≤ 6 := by omega
  have h6' : o.k ≠ 6 := by omega
  simp [h6, h6', hk]

theorem set_why {g : Gr} (h : g.ok) {o : Opn} (hm : mayO o = true) (hk : o.k = 10) : whyA g o = setB (getG g (oIno o)).isSome := by
  unfold whyA setB
  rw [if_neg (by rw [hm]; decide), if_neg (by omega), if_neg (by omega), some_kind h]
  simp [hk]

/-- The target is there, and is its inode; the rest of Rename. -/
theorem rename_none {g : Gr} (h : g.ok) {o : Opn} (hm : mayO o = true) (hk : o.k = 7) (hq : namedG g o = none ∨ getG g (oTo o) = none) : whyA g o = 3 := by
  unfold whyA renamesW
  rw [if_neg (by rw [hm]; decide), if_neg (by omega), if_pos hk]
  rcases hq with q | q
  · have := (named_none h).2 (by rw [q]; rfl)
    rcases this with z | z
    · rw [if_pos (Or.inl z)]
    · by_cases z' : lookE g.E (oAt o) o.name = some (oIno o)
      · obtain ⟨x, hx⟩ := h.entry z'
        have := kind_is h hx
        omega
      · rw [if_pos (Or.inl z')]
  · rw [if_pos (Or.inr (kind_none q))]

theorem aim_none {g : Gr} (h : g.ok) {o : Opn} : aimG g o = none ↔ targetG g o = none := by
  unfold aimG
  cases q : targetG g o with
  | none => simp
  | some t =>
    obtain ⟨x, hx⟩ := h.entry (show lookE g.E (oTo o) o.new = some t from q)
    simp [hx]

theorem aim_some {g : Gr} (h : g.ok) {o : Opn} {t : Ino} (q : aimG g o = some t) : targetG g o = some t.id ∧ getG g t.id = some t ∧ kindG g t.id = t.kind := by
  unfold aimG at q
  cases hq : targetG g o with
  | none => rw [hq] at q; cases q
  | some i =>
    rw [hq] at q
    have q' : getG g i = some t := q
    have := kind_is h q'
    rw [this.2.1]
    exact ⟨rfl, q', this.1⟩

def renameB (k kt : Int) (same un : Bool) (t : Option Ino) (n : Int) : Int := if kt ≠ 1 then 6 else if same = true then 0 else if k = 1 ∧ un = true then 8 else match t with | none => 0 | some t => replaceB k t.kind n

theorem rename_why {g : Gr} (h : g.ok) {o : Opn} (hm : mayO o = true) (hk : o.k = 7) {x t : Ino} (hx : namedG g o = some x) (ht : getG g (oTo o) = some t) :
    whyA g o = renameB x.kind t.kind (match aimG g o with | none => false | some a => decide (a.id = oIno o)) (underG g (oTo o) (oIno o)) (aimG g o) (match aimG g o with | none => 0 | some a => ((listE g.E a.id).length : Int)) := by
  obtain ⟨n1, n2, n3, n4⟩ := named_some h hx
  have t1 := kind_is h ht
  unfold whyA renamesW renameB
  rw [if_neg (by rw [hm]; decide), if_neg (by omega), if_pos hk, if_neg (by rw [n1, t1.1]; rintro (z | z); exact z rfl; omega), t1.1, n4]
  by_cases c1 : t.kind ≠ 1
  · rw [if_pos c1, if_pos c1]
  rw [if_neg c1, if_neg c1]
  cases hq : aimG g o with
  | none =>
    have ha := (aim_none h).1 hq
    rw [ha]
    simp
  | some a =>
    obtain ⟨a1, a2, a3⟩ := aim_some h hq
    rw [a1]
    dsimp only
    by_cases c2 : a.id = oIno o
    · rw [if_pos (by rw [c2]), if_pos (decide_eq_true c2)]
    rw [if_neg (fun z => c2 (Option.some.inj z)), if_neg (show ¬ decide (a.id = oIno o) = true by simpa using c2)]
    by_cases c3 : x.kind = 1 ∧ underG g (oTo o) (oIno o) = true
    · rw [if_pos c3, if_pos c3]
    rw [if_neg c3, if_neg c3]
    unfold replaceB
    simp only [Option.isSome_some, Option.getD_some, true_and, a3]
    by_cases c4 : a.kind = 1
    · by_cases d : 0 < (listE g.E a.id).length
      · have d' : (0 : Int) < ((listE g.E a.id).length : Int) := by omega
        simp only [c4, d, d', and_true, if_true, ne_eq, not_true_eq_false, and_false, if_false, true_and]
      · have d' : ¬ (0 : Int) < ((listE g.E a.id).length : Int) := by omega
        simp only [c4, d, d', ne_eq, not_true_eq_false, and_false, if_false, true_and]
    · have hl : listE g.E a.id = [] := h.list_none (by rw [a3]; exact c4)
      simp [c4, hl]

/-- What goes with its last name. -/
theorem gone_drop {g : Gr} (h : g.ok) (d : St) (nm : ByteArray) : (dropG (untieG g d nm).1 (untieG g d nm).2.1).1 = goneG g d nm := by
  unfold goneG
  by_cases c : linksE (untieG g d nm).1.E (untieG g d nm).2.1 = 0
  · rw [if_pos c]
  · rw [if_neg c]
    have hok := h.untie d nm
    unfold dropG
    split
    · rfl
    · rename_i x hx
      have hi := (kind_is hok hx).2.2.2.2
      split
      · rfl
      · rw [if_pos (Or.inl (by rw [hi]; omega))]

/-- What Rename makes, by the target's inode. -/
theorem rename_made {g : Gr} (h : g.ok) {o : Opn} (hk : o.k = 7) : madeA g o = match aimG g o with
    | none => tie1 (untieG g (oAt o) o.name).1 (oTo o) o.new (oIno o)
    | some a => if a.id = oIno o then g else tie1 (untieG (goneG g (oTo o) o.new) (oAt o) o.name).1 (oTo o) o.new (oIno o) := by
  unfold madeA
  rw [if_neg (by omega), if_neg (by omega), if_neg (by omega), if_pos hk]
  cases hq : aimG g o with
  | none =>
    rw [(aim_none h).1 hq]
    simp
  | some a =>
    rw [(aim_some h hq).1]
    by_cases c : a.id = oIno o
    · simp [c]
    · simp [c]

theorem add_made {g : Gr} {o : Opn} (hk : 1 ≤ o.k) (hk3 : o.k ≤ 3) : madeA g o = (tieG (nameB o.name) (setG (makeG g (oSt o) (makesO o)).1 (oSt o) 0 o.data).1 ⟨oAt o, o.name, oSt o⟩).1 := by
  unfold madeA makesO
  rw [if_pos hk3, if_pos ⟨hk, hk3⟩]
  rfl

theorem link_made {g : Gr} {o : Opn} (hk : o.k = 4) : madeA g o = (tieG (nameB o.name) g ⟨oAt o, o.name, oIno o⟩).1 := by
  unfold madeA
  rw [if_neg (by omega), if_pos hk]
  rfl

theorem take_made {g : Gr} {o : Opn} (hk : o.k = 5 ∨ o.k = 6) : madeA g o = goneG g (oAt o) o.name := by
  unfold madeA
  rw [if_neg (by omega), if_neg (by omega), if_pos (by omega)]

/-- What is written is the inode's that there is. -/
theorem kept_id {g : Gr} (h : g.ok) {o : Opn} (hw : whyA g o = 0) (hk : 8 ≤ o.k) (h10 : o.k ≤ 10) : (inoG g (oIno o)).id = oIno o := by
  have hk0 : kindG g (oIno o) ≠ 0 := fun q => by
    unfold whyA at hw
    split at hw
    · cases hw
    · rw [if_neg (by omega), if_neg (by omega), if_pos (Or.inr q)] at hw
      cases hw
  obtain ⟨x, hx⟩ := h.there hk0
  have := kind_is h hx
  unfold inoG
  rw [hx]
  exact this.2.1

theorem write_made {g : Gr} (hf : g.fine) {o : Opn} (hm : mayO o = true) (hk : o.k = 8) : madeA g o = (setG g (oIno o) (inoG g (oIno o)).mode (wR (inoG g (oIno o)).data o.off o.data).1).1 := by
  rw [wrote_is hf hm hk]
  unfold madeA
  rw [if_neg (by omega), if_neg (by omega), if_neg (by omega), if_neg (by omega), if_pos hk]

theorem trunc_made {g : Gr} (hf : g.fine) {o : Opn} (hm : mayO o = true) (hk : o.k = 9) : madeA g o = (setG g (oIno o) (inoG g (oIno o)).mode (tR (inoG g (oIno o)).data o.off).1).1 := by
  rw [cut_is hf hm hk]
  unfold madeA
  rw [if_neg (by omega), if_neg (by omega), if_neg (by omega), if_neg (by omega), if_neg (by omega), if_pos hk]

theorem mode_made {g : Gr} {o : Opn} (hk : o.k = 10) : madeA g o = (setG g (oIno o) o.off (inoG g (oIno o)).data).1 := by
  unfold madeA
  rw [if_neg (by omega), if_neg (by omega), if_neg (by omega), if_neg (by omega), if_neg (by omega), if_neg (by omega)]

end Go.Proofs.YtlhdbccemgofjaaGreatDoor.GraphMath

/-
  The landed apply: a deed in memory; what it asks of a graph.
-/
namespace Go.Proofs.YtlhdbccemgofjaaGreatDoor
open Go.RowKit StampMath GraphMath OpMath PackMath

/-- A deed: a graph, and an operation. -/
def deedA (a : Addr) (o : Opn) : Array Value := #[.pointer (some a), .int .i64 o.st, .int .i64 o.sr, .int .i64 o.k, .int .i64 o.pt, .int .i64 o.pr, .int .i64 o.it, .int .i64 o.ir, .int .i64 o.tt, .int .i64 o.tr, .string o.name, .string o.new, .int .i64 o.off, .string o.data]

theorem deed_cells {w : World} {g : Nat} {a : Addr} {o : Opn} {T : TypeId} (h : w.heap[g]? = some (.cells (deedA a o) T (0, 0))) :
    w.cell? ⟨g, 0, none⟩ = some (.pointer (some a)) ∧ w.cell? ⟨g, 1, none⟩ = some (.int .i64 o.st) ∧ w.cell? ⟨g, 2, none⟩ = some (.int .i64 o.sr) ∧ w.cell? ⟨g, 3, none⟩ = some (.int .i64 o.k) ∧ w.cell? ⟨g, 4, none⟩ = some (.int .i64 o.pt) ∧ w.cell? ⟨g, 5, none⟩ = some (.int .i64 o.pr) ∧
    w.cell? ⟨g, 6, none⟩ = some (.int .i64 o.it) ∧ w.cell? ⟨g, 7, none⟩ = some (.int .i64 o.ir) ∧ w.cell? ⟨g, 8, none⟩ = some (.int .i64 o.tt) ∧ w.cell? ⟨g, 9, none⟩ = some (.int .i64 o.tr) ∧
    w.cell? ⟨g, 10, none⟩ = some (.string o.name) ∧ w.cell? ⟨g, 11, none⟩ = some (.string o.new) ∧ w.cell? ⟨g, 12, none⟩ = some (.int .i64 o.off) ∧ w.cell? ⟨g, 13, none⟩ = some (.string o.data) :=
  ⟨cell_of_row _ _ 0 _ _ (0, 0) h, cell_of_row _ _ 1 _ _ (0, 0) h, cell_of_row _ _ 2 _ _ (0, 0) h, cell_of_row _ _ 3 _ _ (0, 0) h, cell_of_row _ _ 4 _ _ (0, 0) h, cell_of_row _ _ 5 _ _ (0, 0) h, cell_of_row _ _ 6 _ _ (0, 0) h,
    cell_of_row _ _ 7 _ _ (0, 0) h, cell_of_row _ _ 8 _ _ (0, 0) h, cell_of_row _ _ 9 _ _ (0, 0) h, cell_of_row _ _ 10 _ _ (0, 0) h, cell_of_row _ _ 11 _ _ (0, 0) h, cell_of_row _ _ 12 _ _ (0, 0) h, cell_of_row _ _ 13 _ _ (0, 0) h⟩

theorem rep_below {H : GraphHave} {a : Addr} {S : Nat → Prop} {g : Gr} {w W : World} (h : H.rep w S a g) (hb : Below w.heap.size w W) : H.rep W S a g := H.keep h fun i hi => hb.block i (H.lt h i hi)

set_option maxRecDepth 100000 in
theorem dirQ_code (x : Ino) (w : World) :
    Calls Tryz.prog 112 #[.agg (inoA x)] w fun e w' => e = .returned (.bool (x.kind == 1)) ∧ Below w.heap.size w w' := by
  unfold inoA
  go_enter Tryz.func112, Tryz.ntmps112
  go_wp2_with fail
  go_ret
  exact ⟨rfl, (Below.refl _ _).alloc (Nat.le_refl _) _⟩

set_option maxRecDepth 100000 in
theorem fullQ_code (H : GraphHave) (a : Addr) (S : Nat → Prop) (g : Gr) (o : Opn) (d : St) (w : World) (h : H.rep w S a g) (hg : g.ok) :
    Calls Tryz.prog 114 #[.agg (deedA a o), .agg (stA d)] w fun e w' => e = .returned (.bool (decide (0 < (listE g.E d).length))) ∧ Below w.heap.size w w' := by
  have LI : Hid (∀ W : World, Below w.heap.size w W → Calls Tryz.prog 34 #[.pointer (some a), .agg #[.int .i64 d.1, .int .i64 d.2]] W fun e w' => ∃ B c, e = .returned (.slice B (listE g.E d).length c) ∧ Below W.heap.size W w') := Lib.hid fun W hW => by
    refine (H.list a S g d W (rep_below h hW) hg).mono ?_
    rintro e w' ⟨v, rfl, hown, hb⟩
    obtain ⟨B, c, rfl, _⟩ := ents_own rfl hown
    exact ⟨B, c, rfl, hb⟩
  generalize (listE g.E d).length = n at LI ⊢
  clear h hg
  have hb0 : Below w.heap.size w ((w.alloc (.cells (deedA a o) 73)).alloc (.cells (stA d) 35)) := ((Below.refl _ _).alloc (Nat.le_refl _) _).alloc (by simp) _
  unfold deedA stA at hb0 ⊢
  have hcase : (decide (0 < n) = true ∧ decide ((n : Int) > 0) = true) ∨ (decide (0 < n) = false ∧ decide ((n : Int) > 0) = false) := by
    by_cases hn : 0 < n
    · exact Or.inl ⟨decide_eq_true hn, decide_eq_true (by omega)⟩
    · exact Or.inr ⟨decide_eq_false hn, decide_eq_false (by omega)⟩
  rcases hcase with ⟨h1, h2⟩ | ⟨h1, h2⟩
  all_goals
    rw [h1]
    clear h1
    go_enter Tryz.func114, Tryz.ntmps114
    go_wp2_with fail
    refine (LI.out _ hb0).mono ?_
    rintro e w1 ⟨B, c, rfl, hb1⟩
    have hb2 := below_step hb0 hb1
    clear hb0 hb1 LI
    go_wp2_with fail
    go_ret
    exact ⟨by simp at h2 ⊢; omega, hb2⟩

end Go.Proofs.YtlhdbccemgofjaaGreatDoor

/-
  The landed apply: why an inode can't be made, or have one entry more.
-/
namespace Go.Proofs.YtlhdbccemgofjaaGreatDoor
open Go.RowKit StampMath GraphMath OpMath PackMath

set_option maxRecDepth 100000 in
set_option maxHeartbeats 3200000 in
theorem whyMake_code (H : GraphHave) (a : Addr) (S : Nat → Prop) (g : Gr) (o : Opn) (w : World) (h : H.rep w S a g) (hg : g.ok) (hm : mayO o = true) (hk : o.k ≤ 3) (hn : o.name.size ≤ maxLen) :
    Calls Tryz.prog 63 #[.agg (deedA a o)] w fun e w' => e = .returned (.int .i64 (whyA g o)) ∧ Below w.heap.size w w' := by
  obtain ⟨r, hr⟩ : ∃ r, r = whyA g o := ⟨_, rfl⟩
  rw [← hr]
  obtain ⟨xa, hxa⟩ : ∃ xa, xa = (getG g (oAt o)).getD noIno := ⟨_, rfl⟩
  obtain ⟨ba, hba⟩ : ∃ ba, ba = (getG g (oAt o)).isSome := ⟨_, rfl⟩
  obtain ⟨t, ht⟩ : ∃ t, t = (lookE g.E (oAt o) o.name).getD (0, 0) := ⟨_, rfl⟩
  obtain ⟨bn, hbn⟩ : ∃ bn, bn = (lookE g.E (oAt o) o.name).isSome := ⟨_, rfl⟩
  obtain ⟨xs, hxs⟩ : ∃ xs, xs = (getG g (oSt o)).getD noIno := ⟨_, rfl⟩
  obtain ⟨bi, hbi⟩ : ∃ bi, bi = (getG g (oSt o)).isSome := ⟨_, rfl⟩
  obtain ⟨kd, hkd⟩ : ∃ kd, kd = (xa.kind == 1) := ⟨_, rfl⟩
  obtain ⟨n, hn'⟩ : ∃ n, n = g.I.length := ⟨_, rfl⟩
  have GA : Hid (∀ W : World, Below w.heap.size w W → Calls Tryz.prog 30 #[.pointer (some a), .agg #[.int .i64 o.pt, .int .i64 o.pr]] W fun e w' => e = .returned (.tuple #[.agg #[.int .i64 xa.id.1, .int .i64 xa.id.2, .int .i64 xa.kind, .int .i64 xa.links, .int .i64 xa.mode, .string xa.data], .bool ba]) ∧ Below W.heap.size W w') := Lib.hid fun W hW => by
    rw [hxa, hba]
    exact H.get a S g (oAt o) W (rep_below h hW) hg
  have LK : Hid (∀ W : World, Below w.heap.size w W → Calls Tryz.prog 29 #[.pointer (some a), .agg #[.int .i64 o.pt, .int .i64 o.pr], .string o.name] W fun e w' => e = .returned (.tuple #[.agg #[.int .i64 t.1, .int .i64 t.2], .bool bn]) ∧ Below W.heap.size W w') := Lib.hid fun W hW => by
    rw [ht, hbn]
    exact H.look a S g (oAt o) o.name W (rep_below h hW) hg hn
  have GS : Hid (∀ W : World, Below w.heap.size w W → Calls Tryz.prog 30 #[.pointer (some a), .agg #[.int .i64 o.st, .int .i64 o.sr]] W fun e w' => e = .returned (.tuple #[.agg #[.int .i64 xs.id.1, .int .i64 xs.id.2, .int .i64 xs.kind, .int .i64 xs.links, .int .i64 xs.mode, .string xs.data], .bool bi]) ∧ Below W.heap.size W w') := Lib.hid fun W hW => by
    rw [hxs, hbi]
    exact H.get a S g (oSt o) W (rep_below h hW) hg
  have DA : Hid (∀ W : World, Below w.heap.size w W → Calls Tryz.prog 112 #[.agg #[.int .i64 xa.id.1, .int .i64 xa.id.2, .int .i64 xa.kind, .int .i64 xa.links, .int .i64 xa.mode, .string xa.data]] W fun e w' => e = .returned (.bool kd) ∧ Below W.heap.size W w') := Lib.hid fun W hW => by
    rw [hkd]
    exact dirQ_code xa W
  have IN : Hid (∀ W : World, Below w.heap.size w W → Calls Tryz.prog 19 #[.pointer (some a)] W fun e w' => ∃ B c, e = .returned (.slice B n c) ∧ Below W.heap.size W w') := Lib.hid fun W hW => by
    rw [hn']
    refine (H.inodes a S g W (rep_below h hW) hg).mono ?_
    rintro e w' ⟨v, rfl, hown, hb⟩
    obtain ⟨B, c, rfl, _⟩ := inos_own rfl hown
    exact ⟨B, c, by rw [hg.inodes, List.length_map], hb⟩
  have hr2 : r = if ba = false then 3 else if kd = false then 6 else if bn = true ∨ bi = true then 4 else if (40 : Int) ≤ (n : Int) then 13 else 0 := by
    rw [hr, make_why hg hm hk, ← hxa, ← hba, ← hbn, ← hbi, ← hn', hkd]
    unfold makeB
    simp
  have HR := Lib.hid hr2
  have hH0 : Held w [(w.heap.size, .cells (deedA a o) 73)] (w.alloc (.cells (deedA a o) 73)) := (Held.refl w).alloc (.cells (deedA a o) 73) rfl
  clear h hr hr2 hxa hba ht hbn hxs hbi hkd hn' hg hm hk hn
  go_enter Tryz.func63, Tryz.ntmps63
  go_upto_region 1 with fail
  change Code.wp _ _ _ _ (w.alloc (.cells (deedA a o) 73))
  generalize w.alloc (.cells (deedA a o) 73) = v0 at hH0 ⊢
  obtain ⟨d0, d1, d2, d3, d4, d5, d6, d7, d8, d9, d10, d11, d12, d13⟩ := deed_cells (g := w.heap.size) (hH0.at 0 rfl)
  go_wp2_with fail
  refine (GA.out _ hH0.below).mono ?_
  rintro e y0 ⟨rfl, hb0⟩
  have hH1 := hH0.step hb0
  clear hH0 hb0 d0 d1 d2 d3 d4 d5 d6 d7 d8 d9 d10 d11 d12 d13 GA
  go_upto_region 2 with fail
  obtain ⟨u0, hu0⟩ : ∃ u, u = y0.heap.size := ⟨_, rfl⟩
  have hl0 : w.heap.size < u0 := by rw [hu0]; exact heap_lt (hH1.at 0 rfl)
  have hH2 := hH1.alloc (.cells (inoA xa) 54) hu0.symm
  change Code.wp _ _ _ _ (y0.alloc (.cells (inoA xa) 54))
  rw [← hu0]
  generalize y0.alloc (.cells (inoA xa) 54) = v1 at hH2 ⊢
  clear hH1 hu0
  obtain ⟨d0, d1, d2, d3, d4, d5, d6, d7, d8, d9, d10, d11, d12, d13⟩ := deed_cells (g := w.heap.size) (hH2.at 1 rfl)
  go_wp2_with fail
  refine (LK.out _ hH2.below).mono ?_
  rintro e y1 ⟨rfl, hb1⟩
  have hH3 := hH2.step hb1
  clear hH2 hb1 d0 d1 d2 d3 d4 d5 d6 d7 d8 d9 d10 d11 d12 d13 LK
  go_upto_region 3 with fail
  obtain ⟨u1, hu1⟩ : ∃ u, u = y1.heap.size := ⟨_, rfl⟩
  have hl1 : w.heap.size < u1 := by rw [hu1]; exact heap_lt (hH3.at 1 rfl)
  have hH4 := hH3.alloc (.cells (stA t) 35) hu1.symm
  change Code.wp _ _ _ _ (y1.alloc (.cells (stA t) 35))
  rw [← hu1]
  generalize y1.alloc (.cells (stA t) 35) = v2 at hH4 ⊢
  clear hH3 hu1
  obtain ⟨d0, d1, d2, d3, d4, d5, d6, d7, d8, d9, d10, d11, d12, d13⟩ := deed_cells (g := w.heap.size) (hH4.at 2 rfl)
  go_wp2_with fail
  refine (GS.out _ hH4.below).mono ?_
  rintro e y2 ⟨rfl, hb2⟩
  have hH5 := hH4.step hb2
  clear hH4 hb2 d0 d1 d2 d3 d4 d5 d6 d7 d8 d9 d10 d11 d12 d13 GS
  go_upto_region 4 with fail
  obtain ⟨u2, hu2⟩ : ∃ u, u = y2.heap.size := ⟨_, rfl⟩
  have hl2 : w.heap.size < u2 := by rw [hu2]; exact heap_lt (hH5.at 2 rfl)
  have hH6 := hH5.alloc (.cells (inoA xs) 54) hu2.symm
  change Code.wp _ _ _ _ (y2.alloc (.cells (inoA xs) 54))
  rw [← hu2]
  generalize y2.alloc (.cells (inoA xs) 54) = v3 at hH6 ⊢
  clear hH5 hu2
  have O := Lib.hid (fun y => deed_cells (g := w.heap.size) (((later_below v3 y).block _ (heap_lt (hH6.at 3 rfl))).trans (hH6.at 3 rfl)))
  have d0 := fun y => (O.out y).1
  have d1 := fun y => (O.out y).2.1
  have d2 := fun y => (O.out y).2.2.1
  have d3 := fun y => (O.out y).2.2.2.1
  have d4 := fun y => (O.out y).2.2.2.2.1
  have d5 := fun y => (O.out y).2.2.2.2.2.1
  have d6 := fun y => (O.out y).2.2.2.2.2.2.1
  have d7 := fun y => (O.out y).2.2.2.2.2.2.2.1
  have d8 := fun y => (O.out y).2.2.2.2.2.2.2.2.1
  have d9 := fun y => (O.out y).2.2.2.2.2.2.2.2.2.1
  have d10 := fun y => (O.out y).2.2.2.2.2.2.2.2.2.2.1
  have d11 := fun y => (O.out y).2.2.2.2.2.2.2.2.2.2.2.1
  have d12 := fun y => (O.out y).2.2.2.2.2.2.2.2.2.2.2.2.1
  have d13 := fun y => (O.out y).2.2.2.2.2.2.2.2.2.2.2.2.2
  have X0 := Lib.hid (fun y => ino_cells (g := u0) (((later_below v3 y).block _ (heap_lt (hH6.at 2 rfl))).trans (hH6.at 2 rfl)))
  have x00 := fun y => (X0.out y).1
  have x01 := fun y => (X0.out y).2.1
  have x02 := fun y => (X0.out y).2.2.1
  have x03 := fun y => (X0.out y).2.2.2.1
  have x04 := fun y => (X0.out y).2.2.2.2.1
  have x05 := fun y => (X0.out y).2.2.2.2.2
  clear X0
  have X2 := Lib.hid (fun y => ino_cells (g := u2) (((later_below v3 y).block _ (heap_lt (hH6.at 0 rfl))).trans (hH6.at 0 rfl)))
  have x20 := fun y => (X2.out y).1
  have x21 := fun y => (X2.out y).2.1
  have x22 := fun y => (X2.out y).2.2.1
  have x23 := fun y => (X2.out y).2.2.2.1
  have x24 := fun y => (X2.out y).2.2.2.2.1
  have x25 := fun y => (X2.out y).2.2.2.2.2
  clear X2
  have HB := Lib.hid hH6.below
  have DA' : Hid (∀ y, Calls Tryz.prog 112 #[.agg #[.int .i64 xa.id.1, .int .i64 xa.id.2, .int .i64 xa.kind, .int .i64 xa.links, .int .i64 xa.mode, .string xa.data]] (later v3 y) fun e w' => e = .returned (.bool kd) ∧ ∃ z, w' = later v3 z) := Lib.hid fun y => later_call (DA.out _ (below_step HB.out (later_below v3 y)))
  have IN' : Hid (∀ y, Calls Tryz.prog 19 #[.pointer (some a)] (later v3 y) fun e w' => ∃ B c, e = .returned (.slice B n c) ∧ ∃ z, w' = later v3 z) := Lib.hid fun y => (IN.out _ (below_step HB.out (later_below v3 y))).mono fun _ w' ⟨B, c, he, hb⟩ => ⟨B, c, he, w', (later_of (below_step (later_below v3 y) hb)).symm⟩
  rw [show v3 = later v3 v3 from (later_of (Below.refl _ _)).symm]
  clear hH6 O DA IN
  go_wp2_with fail
  iterate 5
    all_goals first
      | ((fail_if_success (go_at_call 112)); (fail_if_success (go_at_call 19)); go_ret; exact ⟨by rw [HR.out]; clear d0 d1 d2 d3 d4 d5 d6 d7 d8 d9 d10 d11 d12 d13 x00 x01 x02 x03 x04 x05 x20 x21 x22 x23 x24 x25 DA' IN' HB HR; simp_all, below_step HB.out (later_below v3 _)⟩)
      | (go_at_call 112; (with_reducible refine (DA'.out _).mono ?_); rintro z w5 ⟨rfl, y5, rfl⟩; go_wp2_with fail)
      | (go_at_call 19; (with_reducible refine (IN'.out _).mono ?_); rintro z w5 ⟨B, c, rfl, y5, rfl⟩; go_wp2_with fail)
      | skip

set_option maxRecDepth 100000 in
set_option maxHeartbeats 3200000 in
theorem whyLink_code (H : GraphHave) (a : Addr) (S : Nat → Prop) (g : Gr) (o : Opn) (w : World) (h : H.rep w S a g) (hg : g.ok) (hm : mayO o = true) (hk : o.k = 4) (hn : o.name.size ≤ maxLen) :
    Calls Tryz.prog 64 #[.agg (deedA a o)] w fun e w' => e = .returned (.int .i64 (whyA g o)) ∧ Below w.heap.size w w' := by
  obtain ⟨r, hr⟩ : ∃ r, r = whyA g o := ⟨_, rfl⟩
  rw [← hr]
  obtain ⟨xa, hxa⟩ : ∃ xa, xa = (getG g (oAt o)).getD noIno := ⟨_, rfl⟩
  obtain ⟨ba, hba⟩ : ∃ ba, ba = (getG g (oAt o)).isSome := ⟨_, rfl⟩
  obtain ⟨xi, hxi⟩ : ∃ xi, xi = (getG g (oIno o)).getD noIno := ⟨_, rfl⟩
  obtain ⟨bx, hbx⟩ : ∃ bx, bx = (getG g (oIno o)).isSome := ⟨_, rfl⟩
  obtain ⟨t, ht⟩ : ∃ t, t = (lookE g.E (oAt o) o.name).getD (0, 0) := ⟨_, rfl⟩
  obtain ⟨bn, hbn⟩ : ∃ bn, bn = (lookE g.E (oAt o) o.name).isSome := ⟨_, rfl⟩
  obtain ⟨kd, hkd⟩ : ∃ kd, kd = (xa.kind == 1) := ⟨_, rfl⟩
  obtain ⟨ki, hki⟩ : ∃ ki, ki = (xi.kind == 1) := ⟨_, rfl⟩
  have GA : Hid (∀ W : World, Below w.heap.size w W → Calls Tryz.prog 30 #[.pointer (some a), .agg #[.int .i64 o.pt, .int .i64 o.pr]] W fun e w' => e = .returned (.tuple #[.agg #[.int .i64 xa.id.1, .int .i64 xa.id.2, .int .i64 xa.kind, .int .i64 xa.links, .int .i64 xa.mode, .string xa.data], .bool ba]) ∧ Below W.heap.size W w') := Lib.hid fun W hW => by
    rw [hxa, hba]
    exact H.get a S g (oAt o) W (rep_below h hW) hg
  have GI : Hid (∀ W : World, Below w.heap.size w W → Calls Tryz.prog 30 #[.pointer (some a), .agg #[.int .i64 o.it, .int .i64 o.ir]] W fun e w' => e = .returned (.tuple #[.agg #[.int .i64 xi.id.1, .int .i64 xi.id.2, .int .i64 xi.kind, .int .i64 xi.links, .int .i64 xi.mode, .string xi.data], .bool bx]) ∧ Below W.heap.size W w') := Lib.hid fun W hW => by
    rw [hxi, hbx]
    exact H.get a S g (oIno o) W (rep_below h hW) hg
  have LK : Hid (∀ W : World, Below w.heap.size w W → Calls Tryz.prog 29 #[.pointer (some a), .agg #[.int .i64 o.pt, .int .i64 o.pr], .string o.name] W fun e w' => e = .returned (.tuple #[.agg #[.int .i64 t.1, .int .i64 t.2], .bool bn]) ∧ Below W.heap.size W w') := Lib.hid fun W hW => by
    rw [ht, hbn]
    exact H.look a S g (oAt o) o.name W (rep_below h hW) hg hn
  have DA : Hid (∀ W : World, Below w.heap.size w W → Calls Tryz.prog 112 #[.agg #[.int .i64 xa.id.1, .int .i64 xa.id.2, .int .i64 xa.kind, .int .i64 xa.links, .int .i64 xa.mode, .string xa.data]] W fun e w' => e = .returned (.bool kd) ∧ Below W.heap.size W w') := Lib.hid fun W hW => by
    rw [hkd]
    exact dirQ_code xa W
  have DI : Hid (∀ W : World, Below w.heap.size w W → Calls Tryz.prog 112 #[.agg #[.int .i64 xi.id.1, .int .i64 xi.id.2, .int .i64 xi.kind, .int .i64 xi.links, .int .i64 xi.mode, .string xi.data]] W fun e w' => e = .returned (.bool ki) ∧ Below W.heap.size W w') := Lib.hid fun W hW => by
    rw [hki]
    exact dirQ_code xi W
  have hr2 : r = if ba = false ∨ bx = false then 3 else if kd = false then 6 else if ki = true then 5 else if bn = true then 4 else if (6 : Int) ≤ xi.links then 12 else 0 := by
    rw [hr, link_why' hg hm hk, ← hxa, ← hba, ← hxi, ← hbx, ← hbn, hkd, hki]
    unfold linkB
    simp
  have HR := Lib.hid hr2
  have hH0 : Held w [(w.heap.size, .cells (deedA a o) 73)] (w.alloc (.cells (deedA a o) 73)) := (Held.refl w).alloc (.cells (deedA a o) 73) rfl
  clear h hr hr2 hxa hba hxi hbx ht hbn hkd hki hg hm hk hn
  go_enter Tryz.func64, Tryz.ntmps64
  go_upto_region 1 with fail
  change Code.wp _ _ _ _ (w.alloc (.cells (deedA a o) 73))
  generalize w.alloc (.cells (deedA a o) 73) = v0 at hH0 ⊢
  obtain ⟨d0, d1, d2, d3, d4, d5, d6, d7, d8, d9, d10, d11, d12, d13⟩ := deed_cells (g := w.heap.size) (hH0.at 0 rfl)
  go_wp2_with fail
  refine (GA.out _ hH0.below).mono ?_
  rintro e y0 ⟨rfl, hb0⟩
  have hH1 := hH0.step hb0
  clear hH0 hb0 d0 d1 d2 d3 d4 d5 d6 d7 d8 d9 d10 d11 d12 d13 GA
  go_upto_region 2 with fail
  obtain ⟨u0, hu0⟩ : ∃ u, u = y0.heap.size := ⟨_, rfl⟩
  have hl0 : w.heap.size < u0 := by rw [hu0]; exact heap_lt (hH1.at 0 rfl)
  have hH2 := hH1.alloc (.cells (inoA xa) 54) hu0.symm
  change Code.wp _ _ _ _ (y0.alloc (.cells (inoA xa) 54))
  rw [← hu0]
  generalize y0.alloc (.cells (inoA xa) 54) = v1 at hH2 ⊢
  clear hH1 hu0
  obtain ⟨d0, d1, d2, d3, d4, d5, d6, d7, d8, d9, d10, d11, d12, d13⟩ := deed_cells (g := w.heap.size) (hH2.at 1 rfl)
  go_wp2_with fail
  refine (GI.out _ hH2.below).mono ?_
  rintro e y1 ⟨rfl, hb1⟩
  have hH3 := hH2.step hb1
  clear hH2 hb1 d0 d1 d2 d3 d4 d5 d6 d7 d8 d9 d10 d11 d12 d13 GI
  go_upto_region 3 with fail
  obtain ⟨u1, hu1⟩ : ∃ u, u = y1.heap.size := ⟨_, rfl⟩
  have hl1 : w.heap.size < u1 := by rw [hu1]; exact heap_lt (hH3.at 1 rfl)
  have hH4 := hH3.alloc (.cells (inoA xi) 54) hu1.symm
  change Code.wp _ _ _ _ (y1.alloc (.cells (inoA xi) 54))
  rw [← hu1]
  generalize y1.alloc (.cells (inoA xi) 54) = v2 at hH4 ⊢
  clear hH3 hu1
  obtain ⟨d0, d1, d2, d3, d4, d5, d6, d7, d8, d9, d10, d11, d12, d13⟩ := deed_cells (g := w.heap.size) (hH4.at 2 rfl)
  go_wp2_with fail
  refine (LK.out _ hH4.below).mono ?_
  rintro e y2 ⟨rfl, hb2⟩
  have hH5 := hH4.step hb2
  clear hH4 hb2 d0 d1 d2 d3 d4 d5 d6 d7 d8 d9 d10 d11 d12 d13 LK
  go_upto_region 4 with fail
  obtain ⟨u2, hu2⟩ : ∃ u, u = y2.heap.size := ⟨_, rfl⟩
  have hl2 : w.heap.size < u2 := by rw [hu2]; exact heap_lt (hH5.at 2 rfl)
  have hH6 := hH5.alloc (.cells (stA t) 35) hu2.symm
  change Code.wp _ _ _ _ (y2.alloc (.cells (stA t) 35))
  rw [← hu2]
  generalize y2.alloc (.cells (stA t) 35) = v3 at hH6 ⊢
  clear hH5 hu2
  have O := Lib.hid (fun y => deed_cells (g := w.heap.size) (((later_below v3 y).block _ (heap_lt (hH6.at 3 rfl))).trans (hH6.at 3 rfl)))
  have d0 := fun y => (O.out y).1
  have d1 := fun y => (O.out y).2.1
  have d2 := fun y => (O.out y).2.2.1
  have d3 := fun y => (O.out y).2.2.2.1
  have d4 := fun y => (O.out y).2.2.2.2.1
  have d5 := fun y => (O.out y).2.2.2.2.2.1
  have d6 := fun y => (O.out y).2.2.2.2.2.2.1
  have d7 := fun y => (O.out y).2.2.2.2.2.2.2.1
  have d8 := fun y => (O.out y).2.2.2.2.2.2.2.2.1
  have d9 := fun y => (O.out y).2.2.2.2.2.2.2.2.2.1
  have d10 := fun y => (O.out y).2.2.2.2.2.2.2.2.2.2.1
  have d11 := fun y => (O.out y).2.2.2.2.2.2.2.2.2.2.2.1
  have d12 := fun y => (O.out y).2.2.2.2.2.2.2.2.2.2.2.2.1
  have d13 := fun y => (O.out y).2.2.2.2.2.2.2.2.2.2.2.2.2
  have X0 := Lib.hid (fun y => ino_cells (g := u0) (((later_below v3 y).block _ (heap_lt (hH6.at 2 rfl))).trans (hH6.at 2 rfl)))
  have x00 := fun y => (X0.out y).1
  have x01 := fun y => (X0.out y).2.1
  have x02 := fun y => (X0.out y).2.2.1
  have x03 := fun y => (X0.out y).2.2.2.1
  have x04 := fun y => (X0.out y).2.2.2.2.1
  have x05 := fun y => (X0.out y).2.2.2.2.2
  clear X0
  have X1 := Lib.hid (fun y => ino_cells (g := u1) (((later_below v3 y).block _ (heap_lt (hH6.at 1 rfl))).trans (hH6.at 1 rfl)))
  have x10 := fun y => (X1.out y).1
  have x11 := fun y => (X1.out y).2.1
  have x12 := fun y => (X1.out y).2.2.1
  have x13 := fun y => (X1.out y).2.2.2.1
  have x14 := fun y => (X1.out y).2.2.2.2.1
  have x15 := fun y => (X1.out y).2.2.2.2.2
  clear X1
  have HB := Lib.hid hH6.below
  have DA' : Hid (∀ y, Calls Tryz.prog 112 #[.agg #[.int .i64 xa.id.1, .int .i64 xa.id.2, .int .i64 xa.kind, .int .i64 xa.links, .int .i64 xa.mode, .string xa.data]] (later v3 y) fun e w' => e = .returned (.bool kd) ∧ ∃ z, w' = later v3 z) := Lib.hid fun y => later_call (DA.out _ (below_step HB.out (later_below v3 y)))
  have DI' : Hid (∀ y, Calls Tryz.prog 112 #[.agg #[.int .i64 xi.id.1, .int .i64 xi.id.2, .int .i64 xi.kind, .int .i64 xi.links, .int .i64 xi.mode, .string xi.data]] (later v3 y) fun e w' => e = .returned (.bool ki) ∧ ∃ z, w' = later v3 z) := Lib.hid fun y => later_call (DI.out _ (below_step HB.out (later_below v3 y)))
  rw [show v3 = later v3 v3 from (later_of (Below.refl _ _)).symm]
  clear hH6 O DA DI
  go_wp2_with fail
  iterate 5
    all_goals first
      | ((fail_if_success (go_at_call 112)); go_ret; exact ⟨by rw [HR.out]; clear d0 d1 d2 d3 d4 d5 d6 d7 d8 d9 d10 d11 d12 d13 x00 x01 x02 x03 x04 x05 x10 x11 x12 x13 x14 x15 DA' DI' HB HR; simp_all, below_step HB.out (later_below v3 _)⟩)
      | (go_at_call 112; (with_reducible refine (DA'.out _).mono ?_); rintro z w5 ⟨rfl, y5, rfl⟩; go_wp2_with fail)
      | (go_at_call 112; (with_reducible refine (DI'.out _).mono ?_); rintro z w5 ⟨rfl, y5, rfl⟩; go_wp2_with fail)
      | skip

end Go.Proofs.YtlhdbccemgofjaaGreatDoor

/-
  The landed apply: the inode that an operation's entry is of, and its target's.
-/
namespace Go.Proofs.YtlhdbccemgofjaaGreatDoor
open Go.RowKit StampMath GraphMath OpMath PackMath

set_option maxRecDepth 100000 in
set_option maxHeartbeats 1600000 in
theorem named_code (H : GraphHave) (a : Addr) (S : Nat → Prop) (g : Gr) (o : Opn) (w : World) (h : H.rep w S a g) (hg : g.ok) (hn : o.name.size ≤ maxLen) :
    Calls Tryz.prog 113 #[.agg (deedA a o)] w fun e w' => e = .returned (.tuple #[.agg (inoA ((namedG g o).getD noIno)), .bool (namedG g o).isSome]) ∧ Below w.heap.size w w' := by
  obtain ⟨t, ht⟩ : ∃ t, t = (lookE g.E (oAt o) o.name).getD (0, 0) := ⟨_, rfl⟩
  obtain ⟨b, hb⟩ : ∃ b, b = (lookE g.E (oAt o) o.name).isSome := ⟨_, rfl⟩
  obtain ⟨x, hx⟩ : ∃ x, x = (getG g (oIno o)).getD noIno := ⟨_, rfl⟩
  obtain ⟨xi, hxi⟩ : ∃ xi, xi = (getG g (oIno o)).isSome := ⟨_, rfl⟩
  have LK : Hid (∀ W : World, Below w.heap.size w W → Calls Tryz.prog 29 #[.pointer (some a), .agg #[.int .i64 o.pt, .int .i64 o.pr], .string o.name] W fun e w' => e = .returned (.tuple #[.agg #[.int .i64 t.1, .int .i64 t.2], .bool b]) ∧ Below W.heap.size W w') := Lib.hid fun W hW => by
    rw [ht, hb]
    exact H.look a S g (oAt o) o.name W (rep_below h hW) hg hn
  have GT : Hid (∀ W : World, Below w.heap.size w W → Calls Tryz.prog 30 #[.pointer (some a), .agg #[.int .i64 o.it, .int .i64 o.ir]] W fun e w' => e = .returned (.tuple #[.agg #[.int .i64 x.id.1, .int .i64 x.id.2, .int .i64 x.kind, .int .i64 x.links, .int .i64 x.mode, .string x.data], .bool xi]) ∧ Below W.heap.size W w') := Lib.hid fun W hW => by
    rw [hx, hxi]
    exact H.get a S g (oIno o) W (rep_below h hW) hg
  have hcase : (b = false ∧ namedG g o = none) ∨ (b = true ∧ ((t.1 == o.it) = false ∨ (t.2 == o.ir) = false) ∧ namedG g o = none) ∨ (b = true ∧ t = (o.it, o.ir) ∧ (namedG g o).getD noIno = x ∧ (namedG g o).isSome = xi) := by
    unfold namedG
    cases hq : lookE g.E (oAt o) o.name with
    | none =>
      rw [hq] at hb
      exact Or.inl ⟨hb, by simp⟩
    | some s =>
      rw [hq] at hb ht
      have ht' : t = s := ht
      by_cases hs : s = oIno o
      · exact Or.inr (Or.inr ⟨hb, by rw [ht', hs]; rfl, by rw [if_pos (by rw [hs]), hx], by rw [if_pos (by rw [hs]), hxi]⟩)
      · refine Or.inr (Or.inl ⟨hb, ?_, if_neg fun q => hs (Option.some.inj q)⟩)
        rw [ht', beq_eq_false_iff_ne, beq_eq_false_iff_ne]
        by_cases h1 : s.1 = o.it
        · exact Or.inr fun h2 => hs (Prod.ext h1 h2)
        · exact Or.inl h1
  obtain ⟨r, hr0⟩ : ∃ r, r = (namedG g o).getD noIno := ⟨_, rfl⟩
  obtain ⟨ri, hri⟩ : ∃ ri, ri = (namedG g o).isSome := ⟨_, rfl⟩
  rw [← hr0, ← hri]
  have hcase : (b = false ∧ r = noIno ∧ ri = false) ∨ (b = true ∧ ((t.1 == o.it) = false ∨ (t.2 == o.ir) = false) ∧ r = noIno ∧ ri = false) ∨ (b = true ∧ t = (o.it, o.ir) ∧ r = x ∧ ri = xi) := by
    rcases hcase with ⟨q1, q2⟩ | ⟨q1, q2, q3⟩ | ⟨q1, q2, q3, q4⟩
    · exact Or.inl ⟨q1, by rw [hr0, q2]; rfl, by rw [hri, q2]; rfl⟩
    · exact Or.inr (Or.inl ⟨q1, q2, by rw [hr0, q3]; rfl, by rw [hri, q3]; rfl⟩)
    · exact Or.inr (Or.inr ⟨q1, q2, by rw [hr0, q3], by rw [hri, q4]⟩)
  clear ht hb hx hxi h hg hn hr0 hri
  have hb0 : Held w [(w.heap.size + 1, .cells (inoA noIno) 54), (w.heap.size, .cells (deedA a o) 73)] ((w.alloc (.cells (deedA a o) 73)).alloc (.cells (inoA noIno) 54)) :=
    ((Held.refl w).alloc (.cells (deedA a o) 73) rfl).alloc (.cells (inoA noIno) 54) (by simp)
  have HC := Lib.hid hcase
  clear hcase
  go_enter Tryz.func113, Tryz.ntmps113
  go_upto_region 1 with fail
  change Code.wp _ _ _ _ ((w.alloc (.cells (deedA a o) 73)).alloc (.cells (inoA noIno) 54))
  generalize (w.alloc (.cells (deedA a o) 73)).alloc (.cells (inoA noIno) 54) = w0 at hb0 ⊢
  obtain ⟨d0, d1, d2, d3, d4, d5, d6, d7, d8, d9, d10, d11, d12, d13⟩ := deed_cells (g := w.heap.size) (hb0.at 1 rfl)
  go_wp2_with fail
  refine (LK.out _ hb0.below).mono ?_
  rintro e w1 ⟨rfl, hb1⟩
  have hH1 := hb0.step hb1
  clear hb0 hb1 d0 d1 d2 d3 d4 d5 d6 d7 d8 d9 d10 d11 d12 d13 LK
  go_upto_region 2 with fail
  obtain ⟨u, hu⟩ : ∃ u, u = w1.heap.size := ⟨_, rfl⟩
  have hlu : w.heap.size + 1 < u := by rw [hu]; exact heap_lt (hH1.at 0 rfl)
  have hH2 := hH1.alloc (.cells (stA t) 35) hu.symm
  change Code.wp _ _ _ _ (w1.alloc (.cells (stA t) 35))
  rw [← hu]
  generalize w1.alloc (.cells (stA t) 35) = w2 at hH2 ⊢
  clear hH1 hu
  obtain ⟨d0, d1, d2, d3, d4, d5, d6, d7, d8, d9, d10, d11, d12, d13⟩ := deed_cells (g := w.heap.size) (hH2.at 2 rfl)
  obtain ⟨s0, s1⟩ := two_cells (g := u) (hH2.at 0 rfl)
  obtain ⟨i0, i1, i2, i3, i4, i5⟩ := ino_cells (g := w.heap.size + 1) (hH2.at 1 rfl)
  obtain ⟨f0, f1, f2, f3, f4, f5⟩ := ino_free (g := w.heap.size + 1) (hH2.at 1 rfl)
  have P := Lib.hid (ino_put (g := w.heap.size + 1) (hH2.at 1 rfl))
  have HB := Lib.hid hH2.below
  rcases HC.out with ⟨rfl, hnm, hni⟩ | ⟨rfl, hr, hnm, hni⟩ | ⟨rfl, rfl, hnm, hni⟩
  · have HN := Lib.hid hnm
    have HI := Lib.hid hni
    clear hH2 HC hnm hni GT
    obtain ⟨z0, z1, z2, z3, z4, z5⟩ := ino_cells (P.out noIno)
    have HBB := Lib.hid (below_six HB.out (g := w.heap.size + 1) (by omega) (.int .i64 noIno.id.1) (.int .i64 noIno.id.2) (.int .i64 noIno.kind) (.int .i64 noIno.links) (.int .i64 noIno.mode) (.string noIno.data))
    simp only [noIno] at i0 i1 i2 i3 i4 i5 z0 z1 z2 z3 z4 z5
    go_wp2_with fail
    exact bodyPost_ret (v := .tuple #[.agg (inoA noIno), .bool false]) (by simp [results, Tryz.results113, go_sem, inoA, noIno, z0, z1, z2, z3, z4, z5]) rfl ⟨by rw [HN.out, HI.out], HBB.out⟩
  · have HN := Lib.hid hnm
    have HI := Lib.hid hni
    clear hH2 HC hnm hni GT
    obtain ⟨z0, z1, z2, z3, z4, z5⟩ := ino_cells (P.out noIno)
    have HBB := Lib.hid (below_six HB.out (g := w.heap.size + 1) (by omega) (.int .i64 noIno.id.1) (.int .i64 noIno.id.2) (.int .i64 noIno.kind) (.int .i64 noIno.links) (.int .i64 noIno.mode) (.string noIno.data))
    simp only [noIno] at i0 i1 i2 i3 i4 i5 z0 z1 z2 z3 z4 z5
    obtain ⟨r1, hr1⟩ : ∃ r1, (t.1 == o.it) = r1 := ⟨_, rfl⟩
    obtain ⟨r2, hr2⟩ : ∃ r2, (t.2 == o.ir) = r2 := ⟨_, rfl⟩
    rw [hr1, hr2] at hr
    have hr' : (r1 && r2) = false := by rcases hr with q | q <;> rw [q] <;> simp
    clear hr
    cases r1 <;> cases r2
    case true.true => cases hr'
    all_goals
      clear hr'
      go_wp2_with fail
      exact bodyPost_ret (v := .tuple #[.agg (inoA noIno), .bool false]) (by simp [results, Tryz.results113, go_sem, inoA, noIno, z0, z1, z2, z3, z4, z5]) rfl ⟨by rw [HN.out, HI.out], HBB.out⟩
  · have HN := Lib.hid hnm
    have HI := Lib.hid hni
    clear HC hnm hni P HB i0 i1 i2 i3 i4 i5 f0 f1 f2 f3 f4 f5
    have HH2 := Lib.hid hH2
    clear hH2
    dsimp only at s0 s1
    have q1 : (o.it == o.it) = true := beq_self_eq_true _
    have q2 : (o.ir == o.ir) = true := beq_self_eq_true _
    go_wp2_with fail
    refine (GT.out _ HH2.out.below).mono ?_
    rintro e w3 ⟨rfl, hb3⟩
    have hH3 := HH2.out.step hb3
    obtain ⟨i0, i1, i2, i3, i4, i5⟩ := ino_cells (g := w.heap.size + 1) (hH3.at 1 rfl)
    obtain ⟨f0, f1, f2, f3, f4, f5⟩ := ino_free (g := w.heap.size + 1) (hH3.at 1 rfl)
    have P := Lib.hid (ino_put (g := w.heap.size + 1) (hH3.at 1 rfl) x)
    have HBB := Lib.hid (below_six hH3.below (g := w.heap.size + 1) (by omega) (.int .i64 x.id.1) (.int .i64 x.id.2) (.int .i64 x.kind) (.int .i64 x.links) (.int .i64 x.mode) (.string x.data))
    clear HH2 hb3 hH3 GT d0 d1 d2 d3 d4 d5 d6 d7 d8 d9 d10 d11 d12 d13 s0 s1
    obtain ⟨z0, z1, z2, z3, z4, z5⟩ := ino_cells P.out
    go_wp2_with fail
    exact bodyPost_ret (v := .tuple #[.agg (inoA x), .bool xi]) (by simp [results, Tryz.results113, go_sem, inoA, z0, z1, z2, z3, z4, z5]) rfl ⟨by rw [HN.out, HI.out], HBB.out⟩

end Go.Proofs.YtlhdbccemgofjaaGreatDoor

/-
  The landed apply: why an entry can't be gone, and an inode not have other contents, or another mode.
-/
namespace Go.Proofs.YtlhdbccemgofjaaGreatDoor
open Go.RowKit StampMath GraphMath OpMath PackMath

set_option maxRecDepth 100000 in
set_option maxHeartbeats 3200000 in
theorem whyUnlink_code (H : GraphHave) (a : Addr) (S : Nat → Prop) (g : Gr) (o : Opn) (w : World) (h : H.rep w S a g) (hg : g.ok) (hm : mayO o = true) (hk : o.k = 5) (hn : o.name.size ≤ maxLen) :
    Calls Tryz.prog 65 #[.agg (deedA a o)] w fun e w' => e = .returned (.int .i64 (whyA g o)) ∧ Below w.heap.size w w' := by
  obtain ⟨r, hr⟩ : ∃ r, r = whyA g o := ⟨_, rfl⟩
  rw [← hr]
  obtain ⟨x, hx⟩ : ∃ x, x = (namedG g o).getD noIno := ⟨_, rfl⟩
  obtain ⟨b, hb⟩ : ∃ b, b = (namedG g o).isSome := ⟨_, rfl⟩
  obtain ⟨kd, hkd⟩ : ∃ kd, kd = (x.kind == 1) := ⟨_, rfl⟩
  have NA : Hid (∀ W : World, Below w.heap.size w W → Calls Tryz.prog 113 #[.agg #[.pointer (some a), .int .i64 o.st, .int .i64 o.sr, .int .i64 o.k, .int .i64 o.pt, .int .i64 o.pr, .int .i64 o.it, .int .i64 o.ir, .int .i64 o.tt, .int .i64 o.tr, .string o.name, .string o.new, .int .i64 o.off, .string o.data]] W fun e w' => e = .returned (.tuple #[.agg #[.int .i64 x.id.1, .int .i64 x.id.2, .int .i64 x.kind, .int .i64 x.links, .int .i64 x.mode, .string x.data], .bool b]) ∧ Below W.heap.size W w') := Lib.hid fun W hW => by
    rw [hx, hb]
    exact named_code H a S g o W (rep_below h hW) hg hn
  have DX : Hid (∀ W : World, Below w.heap.size w W → Calls Tryz.prog 112 #[.agg #[.int .i64 x.id.1, .int .i64 x.id.2, .int .i64 x.kind, .int .i64 x.links, .int .i64 x.mode, .string x.data]] W fun e w' => e = .returned (.bool kd) ∧ Below W.heap.size W w') := Lib.hid fun W hW => by
    rw [hkd]
    exact dirQ_code x W
  have hr2 : r = if b = false then 3 else if kd = true then 5 else 0 := by
    rw [hr, unlink_why hg hm hk, ← hx, ← hb, hkd]
    unfold unlinkB
    simp
  have HR := Lib.hid hr2
  have hH0 : Held w [(w.heap.size, .cells (deedA a o) 73)] (w.alloc (.cells (deedA a o) 73)) := (Held.refl w).alloc (.cells (deedA a o) 73) rfl
  clear h hr hr2 hx hb hkd hg hm hk hn
  go_enter Tryz.func65, Tryz.ntmps65
  go_upto_region 1 with fail
  change Code.wp _ _ _ _ (w.alloc (.cells (deedA a o) 73))
  generalize w.alloc (.cells (deedA a o) 73) = v0 at hH0 ⊢
  obtain ⟨d0, d1, d2, d3, d4, d5, d6, d7, d8, d9, d10, d11, d12, d13⟩ := deed_cells (g := w.heap.size) (hH0.at 0 rfl)
  go_wp2_with fail
  refine (NA.out _ hH0.below).mono ?_
  rintro e y0 ⟨rfl, hb0⟩
  have hH1 := hH0.step hb0
  clear hH0 hb0 d0 d1 d2 d3 d4 d5 d6 d7 d8 d9 d10 d11 d12 d13 NA
  go_upto_region 2 with fail
  obtain ⟨u0, hu0⟩ : ∃ u, u = y0.heap.size := ⟨_, rfl⟩
  have hl0 : w.heap.size < u0 := by rw [hu0]; exact heap_lt (hH1.at 0 rfl)
  have hH2 := hH1.alloc (.cells (inoA x) 54) hu0.symm
  change Code.wp _ _ _ _ (y0.alloc (.cells (inoA x) 54))
  rw [← hu0]
  generalize y0.alloc (.cells (inoA x) 54) = v1 at hH2 ⊢
  clear hH1 hu0
  have O := Lib.hid (fun y => deed_cells (g := w.heap.size) (((later_below v1 y).block _ (heap_lt (hH2.at 1 rfl))).trans (hH2.at 1 rfl)))
  have d0 := fun y => (O.out y).1
  have d1 := fun y => (O.out y).2.1
  have d2 := fun y => (O.out y).2.2.1
  have d3 := fun y => (O.out y).2.2.2.1
  have d4 := fun y => (O.out y).2.2.2.2.1
  have d5 := fun y => (O.out y).2.2.2.2.2.1
  have d6 := fun y => (O.out y).2.2.2.2.2.2.1
  have d7 := fun y => (O.out y).2.2.2.2.2.2.2.1
  have d8 := fun y => (O.out y).2.2.2.2.2.2.2.2.1
  have d9 := fun y => (O.out y).2.2.2.2.2.2.2.2.2.1
  have d10 := fun y => (O.out y).2.2.2.2.2.2.2.2.2.2.1
  have d11 := fun y => (O.out y).2.2.2.2.2.2.2.2.2.2.2.1
  have d12 := fun y => (O.out y).2.2.2.2.2.2.2.2.2.2.2.2.1
  have d13 := fun y => (O.out y).2.2.2.2.2.2.2.2.2.2.2.2.2
  have X0 := Lib.hid (fun y => ino_cells (g := u0) (((later_below v1 y).block _ (heap_lt (hH2.at 0 rfl))).trans (hH2.at 0 rfl)))
  have x00 := fun y => (X0.out y).1
  have x01 := fun y => (X0.out y).2.1
  have x02 := fun y => (X0.out y).2.2.1
  have x03 := fun y => (X0.out y).2.2.2.1
  have x04 := fun y => (X0.out y).2.2.2.2.1
  have x05 := fun y => (X0.out y).2.2.2.2.2
  clear X0
  have HB := Lib.hid hH2.below
  have DX' : Hid (∀ y, Calls Tryz.prog 112 #[.agg #[.int .i64 x.id.1, .int .i64 x.id.2, .int .i64 x.kind, .int .i64 x.links, .int .i64 x.mode, .string x.data]] (later v1 y) fun e w' => e = .returned (.bool kd) ∧ ∃ z, w' = later v1 z) := Lib.hid fun y => later_call (DX.out _ (below_step HB.out (later_below v1 y)))
  rw [show v1 = later v1 v1 from (later_of (Below.refl _ _)).symm]
  clear hH2 O DX
  go_wp2_with fail
  iterate 3
    all_goals first
      | ((fail_if_success (go_at_call 112)); go_ret; exact ⟨by rw [HR.out]; clear d0 d1 d2 d3 d4 d5 d6 d7 d8 d9 d10 d11 d12 d13 x00 x01 x02 x03 x04 x05 DX' HB HR; simp_all, below_step HB.out (later_below v1 _)⟩)
      | (go_at_call 112; (with_reducible refine (DX'.out _).mono ?_); rintro z w5 ⟨rfl, y5, rfl⟩; go_wp2_with fail)
      | skip

set_option maxRecDepth 100000 in
set_option maxHeartbeats 3200000 in
theorem whyRmdir_code (H : GraphHave) (a : Addr) (S : Nat → Prop) (g : Gr) (o : Opn) (w : World) (h : H.rep w S a g) (hg : g.ok) (hm : mayO o = true) (hk : o.k = 6) (hn : o.name.size ≤ maxLen) :
    Calls Tryz.prog 66 #[.agg (deedA a o)] w fun e w' => e = .returned (.int .i64 (whyA g o)) ∧ Below w.heap.size w w' := by
  obtain ⟨r, hr⟩ : ∃ r, r = whyA g o := ⟨_, rfl⟩
  rw [← hr]
  obtain ⟨x, hx⟩ : ∃ x, x = (namedG g o).getD noIno := ⟨_, rfl⟩
  obtain ⟨b, hb⟩ : ∃ b, b = (namedG g o).isSome := ⟨_, rfl⟩
  obtain ⟨kd, hkd⟩ : ∃ kd, kd = (x.kind == 1) := ⟨_, rfl⟩
  obtain ⟨fu, hfu⟩ : ∃ fu, fu = decide (0 < (listE g.E x.id).length) := ⟨_, rfl⟩
  have NA : Hid (∀ W : World, Below w.heap.size w W → Calls Tryz.prog 113 #[.agg #[.pointer (some a), .int .i64 o.st, .int .i64 o.sr, .int .i64 o.k, .int .i64 o.pt, .int .i64 o.pr, .int .i64 o.it, .int .i64 o.ir, .int .i64 o.tt, .int .i64 o.tr, .string o.name, .string o.new, .int .i64 o.off, .string o.data]] W fun e w' => e = .returned (.tuple #[.agg #[.int .i64 x.id.1, .int .i64 x.id.2, .int .i64 x.kind, .int .i64 x.links, .int .i64 x.mode, .string x.data], .bool b]) ∧ Below W.heap.size W w') := Lib.hid fun W hW => by
    rw [hx, hb]
    exact named_code H a S g o W (rep_below h hW) hg hn
  have DX : Hid (∀ W : World, Below w.heap.size w W → Calls Tryz.prog 112 #[.agg #[.int .i64 x.id.1, .int .i64 x.id.2, .int .i64 x.kind, .int .i64 x.links, .int .i64 x.mode, .string x.data]] W fun e w' => e = .returned (.bool kd) ∧ Below W.heap.size W w') := Lib.hid fun W hW => by
    rw [hkd]
    exact dirQ_code x W
  have FU : Hid (∀ W : World, Below w.heap.size w W → Calls Tryz.prog 114 #[.agg #[.pointer (some a), .int .i64 o.st, .int .i64 o.sr, .int .i64 o.k, .int .i64 o.pt, .int .i64 o.pr, .int .i64 o.it, .int .i64 o.ir, .int .i64 o.tt, .int .i64 o.tr, .string o.name, .string o.new, .int .i64 o.off, .string o.data], .agg #[.int .i64 x.id.1, .int .i64 x.id.2]] W fun e w' => e = .returned (.bool fu) ∧ Below W.heap.size W w') := Lib.hid fun W hW => by
    rw [hfu]
    exact fullQ_code H a S g o x.id W (rep_below h hW) hg
  have hr2 : r = if b = false then 3 else if kd = false then 6 else if fu = true then 7 else 0 := by
    rw [hr, rmdir_why hg hm hk, ← hx, ← hb, hkd, hfu]
    unfold rmdirB
    cases hq : namedG g o with
    | none =>
      rw [hq] at hb
      rw [hb]
      simp
    | some y =>
      rw [hq] at hx
      rw [hx, Option.getD_some, (named_some hg hq).2.2.1]
      simp
  have HR := Lib.hid hr2
  have hH0 : Held w [(w.heap.size, .cells (deedA a o) 73)] (w.alloc (.cells (deedA a o) 73)) := (Held.refl w).alloc (.cells (deedA a o) 73) rfl
  clear h hr hr2 hx hb hkd hfu hg hm hk hn
  go_enter Tryz.func66, Tryz.ntmps66
  go_upto_region 1 with fail
  change Code.wp _ _ _ _ (w.alloc (.cells (deedA a o) 73))
  generalize w.alloc (.cells (deedA a o) 73) = v0 at hH0 ⊢
  obtain ⟨d0, d1, d2, d3, d4, d5, d6, d7, d8, d9, d10, d11, d12, d13⟩ := deed_cells (g := w.heap.size) (hH0.at 0 rfl)
  go_wp2_with fail
  refine (NA.out _ hH0.below).mono ?_
  rintro e y0 ⟨rfl, hb0⟩
  have hH1 := hH0.step hb0
  clear hH0 hb0 d0 d1 d2 d3 d4 d5 d6 d7 d8 d9 d10 d11 d12 d13 NA
  go_upto_region 2 with fail
  obtain ⟨u0, hu0⟩ : ∃ u, u = y0.heap.size := ⟨_, rfl⟩
  have hl0 : w.heap.size < u0 := by rw [hu0]; exact heap_lt (hH1.at 0 rfl)
  have hH2 := hH1.alloc (.cells (inoA x) 54) hu0.symm
  change Code.wp _ _ _ _ (y0.alloc (.cells (inoA x) 54))
  rw [← hu0]
  generalize y0.alloc (.cells (inoA x) 54) = v1 at hH2 ⊢
  clear hH1 hu0
  have O := Lib.hid (fun y => deed_cells (g := w.heap.size) (((later_below v1 y).block _ (heap_lt (hH2.at 1 rfl))).trans (hH2.at 1 rfl)))
  have d0 := fun y => (O.out y).1
  have d1 := fun y => (O.out y).2.1
  have d2 := fun y => (O.out y).2.2.1
  have d3 := fun y => (O.out y).2.2.2.1
  have d4 := fun y => (O.out y).2.2.2.2.1
  have d5 := fun y => (O.out y).2.2.2.2.2.1
  have d6 := fun y => (O.out y).2.2.2.2.2.2.1
  have d7 := fun y => (O.out y).2.2.2.2.2.2.2.1
  have d8 := fun y => (O.out y).2.2.2.2.2.2.2.2.1
  have d9 := fun y => (O.out y).2.2.2.2.2.2.2.2.2.1
  have d10 := fun y => (O.out y).2.2.2.2.2.2.2.2.2.2.1
  have d11 := fun y => (O.out y).2.2.2.2.2.2.2.2.2.2.2.1
  have d12 := fun y => (O.out y).2.2.2.2.2.2.2.2.2.2.2.2.1
  have d13 := fun y => (O.out y).2.2.2.2.2.2.2.2.2.2.2.2.2
  have X0 := Lib.hid (fun y => ino_cells (g := u0) (((later_below v1 y).block _ (heap_lt (hH2.at 0 rfl))).trans (hH2.at 0 rfl)))
  have x00 := fun y => (X0.out y).1
  have x01 := fun y => (X0.out y).2.1
  have x02 := fun y => (X0.out y).2.2.1
  have x03 := fun y => (X0.out y).2.2.2.1
  have x04 := fun y => (X0.out y).2.2.2.2.1
  have x05 := fun y => (X0.out y).2.2.2.2.2
  clear X0
  have HB := Lib.hid hH2.below
  have DX' : Hid (∀ y, Calls Tryz.prog 112 #[.agg #[.int .i64 x.id.1, .int .i64 x.id.2, .int .i64 x.kind, .int .i64 x.links, .int .i64 x.mode, .string x.data]] (later v1 y) fun e w' => e = .returned (.bool kd) ∧ ∃ z, w' = later v1 z) := Lib.hid fun y => later_call (DX.out _ (below_step HB.out (later_below v1 y)))
  have FU' : Hid (∀ y, Calls Tryz.prog 114 #[.agg #[.pointer (some a), .int .i64 o.st, .int .i64 o.sr, .int .i64 o.k, .int .i64 o.pt, .int .i64 o.pr, .int .i64 o.it, .int .i64 o.ir, .int .i64 o.tt, .int .i64 o.tr, .string o.name, .string o.new, .int .i64 o.off, .string o.data], .agg #[.int .i64 x.id.1, .int .i64 x.id.2]] (later v1 y) fun e w' => e = .returned (.bool fu) ∧ ∃ z, w' = later v1 z) := Lib.hid fun y => later_call (FU.out _ (below_step HB.out (later_below v1 y)))
  rw [show v1 = later v1 v1 from (later_of (Below.refl _ _)).symm]
  clear hH2 O DX FU
  go_wp2_with fail
  iterate 4
    all_goals first
      | ((fail_if_success (go_at_call 112)); (fail_if_success (go_at_call 114)); go_ret; exact ⟨by rw [HR.out]; clear d0 d1 d2 d3 d4 d5 d6 d7 d8 d9 d10 d11 d12 d13 x00 x01 x02 x03 x04 x05 DX' FU' HB HR; simp_all, below_step HB.out (later_below v1 _)⟩)
      | (go_at_call 112; (with_reducible refine (DX'.out _).mono ?_); rintro z w5 ⟨rfl, y5, rfl⟩; go_wp2_with fail)
      | (go_at_call 114; (with_reducible refine (FU'.out _).mono ?_); rintro z w5 ⟨rfl, y5, rfl⟩; go_wp2_with fail)
      | skip

set_option maxRecDepth 100000 in
set_option maxHeartbeats 3200000 in
theorem whyFill_code (H : GraphHave) (a : Addr) (S : Nat → Prop) (g : Gr) (o : Opn) (w : World) (h : H.rep w S a g) (hg : g.ok) (hm : mayO o = true) (hk : o.k = 8 ∨ o.k = 9) :
    Calls Tryz.prog 68 #[.agg (deedA a o)] w fun e w' => e = .returned (.int .i64 (whyA g o)) ∧ Below w.heap.size w w' := by
  obtain ⟨r, hr⟩ : ∃ r, r = whyA g o := ⟨_, rfl⟩
  rw [← hr]
  obtain ⟨x, hx⟩ : ∃ x, x = (getG g (oIno o)).getD noIno := ⟨_, rfl⟩
  obtain ⟨b, hb⟩ : ∃ b, b = (getG g (oIno o)).isSome := ⟨_, rfl⟩
  obtain ⟨kd, hkd⟩ : ∃ kd, kd = (x.kind == 1) := ⟨_, rfl⟩
  have GI : Hid (∀ W : World, Below w.heap.size w W → Calls Tryz.prog 30 #[.pointer (some a), .agg #[.int .i64 o.it, .int .i64 o.ir]] W fun e w' => e = .returned (.tuple #[.agg #[.int .i64 x.id.1, .int .i64 x.id.2, .int .i64 x.kind, .int .i64 x.links, .int .i64 x.mode, .string x.data], .bool b]) ∧ Below W.heap.size W w') := Lib.hid fun W hW => by
    rw [hx, hb]
    exact H.get a S g (oIno o) W (rep_below h hW) hg
  have DX : Hid (∀ W : World, Below w.heap.size w W → Calls Tryz.prog 112 #[.agg #[.int .i64 x.id.1, .int .i64 x.id.2, .int .i64 x.kind, .int .i64 x.links, .int .i64 x.mode, .string x.data]] W fun e w' => e = .returned (.bool kd) ∧ Below W.heap.size W w') := Lib.hid fun W hW => by
    rw [hkd]
    exact dirQ_code x W
  have hr2 : r = if b = false then 3 else if kd = true then 5 else if x.kind = 3 then 8 else 0 := by
    rw [hr, fill_why hg hm hk, ← hx, ← hb, hkd]
    unfold fillB
    simp
  have HR := Lib.hid hr2
  have hH0 : Held w [(w.heap.size, .cells (deedA a o) 73)] (w.alloc (.cells (deedA a o) 73)) := (Held.refl w).alloc (.cells (deedA a o) 73) rfl
  clear h hr hr2 hx hb hkd hg hm hk
  go_enter Tryz.func68, Tryz.ntmps68
  go_upto_region 1 with fail
  change Code.wp _ _ _ _ (w.alloc (.cells (deedA a o) 73))
  generalize w.alloc (.cells (deedA a o) 73) = v0 at hH0 ⊢
  obtain ⟨d0, d1, d2, d3, d4, d5, d6, d7, d8, d9, d10, d11, d12, d13⟩ := deed_cells (g := w.heap.size) (hH0.at 0 rfl)
  go_wp2_with fail
  refine (GI.out _ hH0.below).mono ?_
  rintro e y0 ⟨rfl, hb0⟩
  have hH1 := hH0.step hb0
  clear hH0 hb0 d0 d1 d2 d3 d4 d5 d6 d7 d8 d9 d10 d11 d12 d13 GI
  go_upto_region 2 with fail
  obtain ⟨u0, hu0⟩ : ∃ u, u = y0.heap.size := ⟨_, rfl⟩
  have hl0 : w.heap.size < u0 := by rw [hu0]; exact heap_lt (hH1.at 0 rfl)
  have hH2 := hH1.alloc (.cells (inoA x) 54) hu0.symm
  change Code.wp _ _ _ _ (y0.alloc (.cells (inoA x) 54))
  rw [← hu0]
  generalize y0.alloc (.cells (inoA x) 54) = v1 at hH2 ⊢
  clear hH1 hu0
  have O := Lib.hid (fun y => deed_cells (g := w.heap.size) (((later_below v1 y).block _ (heap_lt (hH2.at 1 rfl))).trans (hH2.at 1 rfl)))
  have d0 := fun y => (O.out y).1
  have d1 := fun y => (O.out y).2.1
  have d2 := fun y => (O.out y).2.2.1
  have d3 := fun y => (O.out y).2.2.2.1
  have d4 := fun y => (O.out y).2.2.2.2.1
  have d5 := fun y => (O.out y).2.2.2.2.2.1
  have d6 := fun y => (O.out y).2.2.2.2.2.2.1
  have d7 := fun y => (O.out y).2.2.2.2.2.2.2.1
  have d8 := fun y => (O.out y).2.2.2.2.2.2.2.2.1
  have d9 := fun y => (O.out y).2.2.2.2.2.2.2.2.2.1
  have d10 := fun y => (O.out y).2.2.2.2.2.2.2.2.2.2.1
  have d11 := fun y => (O.out y).2.2.2.2.2.2.2.2.2.2.2.1
  have d12 := fun y => (O.out y).2.2.2.2.2.2.2.2.2.2.2.2.1
  have d13 := fun y => (O.out y).2.2.2.2.2.2.2.2.2.2.2.2.2
  have X0 := Lib.hid (fun y => ino_cells (g := u0) (((later_below v1 y).block _ (heap_lt (hH2.at 0 rfl))).trans (hH2.at 0 rfl)))
  have x00 := fun y => (X0.out y).1
  have x01 := fun y => (X0.out y).2.1
  have x02 := fun y => (X0.out y).2.2.1
  have x03 := fun y => (X0.out y).2.2.2.1
  have x04 := fun y => (X0.out y).2.2.2.2.1
  have x05 := fun y => (X0.out y).2.2.2.2.2
  clear X0
  have HB := Lib.hid hH2.below
  have DX' : Hid (∀ y, Calls Tryz.prog 112 #[.agg #[.int .i64 x.id.1, .int .i64 x.id.2, .int .i64 x.kind, .int .i64 x.links, .int .i64 x.mode, .string x.data]] (later v1 y) fun e w' => e = .returned (.bool kd) ∧ ∃ z, w' = later v1 z) := Lib.hid fun y => later_call (DX.out _ (below_step HB.out (later_below v1 y)))
  rw [show v1 = later v1 v1 from (later_of (Below.refl _ _)).symm]
  clear hH2 O DX
  go_wp2_with fail
  iterate 3
    all_goals first
      | ((fail_if_success (go_at_call 112)); go_ret; exact ⟨by rw [HR.out]; clear d0 d1 d2 d3 d4 d5 d6 d7 d8 d9 d10 d11 d12 d13 x00 x01 x02 x03 x04 x05 DX' HB HR; simp_all, below_step HB.out (later_below v1 _)⟩)
      | (go_at_call 112; (with_reducible refine (DX'.out _).mono ?_); rintro z w5 ⟨rfl, y5, rfl⟩; go_wp2_with fail)
      | skip

set_option maxRecDepth 100000 in
set_option maxHeartbeats 3200000 in
theorem whySet_code (H : GraphHave) (a : Addr) (S : Nat → Prop) (g : Gr) (o : Opn) (w : World) (h : H.rep w S a g) (hg : g.ok) (hm : mayO o = true) (hk : o.k = 10) :
    Calls Tryz.prog 69 #[.agg (deedA a o)] w fun e w' => e = .returned (.int .i64 (whyA g o)) ∧ Below w.heap.size w w' := by
  obtain ⟨r, hr⟩ : ∃ r, r = whyA g o := ⟨_, rfl⟩
  rw [← hr]
  obtain ⟨x, hx⟩ : ∃ x, x = (getG g (oIno o)).getD noIno := ⟨_, rfl⟩
  obtain ⟨b, hb⟩ : ∃ b, b = (getG g (oIno o)).isSome := ⟨_, rfl⟩
  have GI : Hid (∀ W : World, Below w.heap.size w W → Calls Tryz.prog 30 #[.pointer (some a), .agg #[.int .i64 o.it, .int .i64 o.ir]] W fun e w' => e = .returned (.tuple #[.agg #[.int .i64 x.id.1, .int .i64 x.id.2, .int .i64 x.kind, .int .i64 x.links, .int .i64 x.mode, .string x.data], .bool b]) ∧ Below W.heap.size W w') := Lib.hid fun W hW => by
    rw [hx, hb]
    exact H.get a S g (oIno o) W (rep_below h hW) hg
  have hr2 : r = if b = false then 3 else 0 := by
    rw [hr, set_why hg hm hk, ← hb]
    rfl
  have HR := Lib.hid hr2
  have hH0 : Held w [(w.heap.size, .cells (deedA a o) 73)] (w.alloc (.cells (deedA a o) 73)) := (Held.refl w).alloc (.cells (deedA a o) 73) rfl
  clear h hr hr2 hx hb hg hm hk
  go_enter Tryz.func69, Tryz.ntmps69
  go_upto_region 1 with fail
  change Code.wp _ _ _ _ (w.alloc (.cells (deedA a o) 73))
  generalize w.alloc (.cells (deedA a o) 73) = v0 at hH0 ⊢
  obtain ⟨d0, d1, d2, d3, d4, d5, d6, d7, d8, d9, d10, d11, d12, d13⟩ := deed_cells (g := w.heap.size) (hH0.at 0 rfl)
  go_wp2_with fail
  refine (GI.out _ hH0.below).mono ?_
  rintro e y0 ⟨rfl, hb0⟩
  have hH1 := hH0.step hb0
  clear hH0 hb0 d0 d1 d2 d3 d4 d5 d6 d7 d8 d9 d10 d11 d12 d13 GI
  go_upto_region 2 with fail
  obtain ⟨u0, hu0⟩ : ∃ u, u = y0.heap.size := ⟨_, rfl⟩
  have hl0 : w.heap.size < u0 := by rw [hu0]; exact heap_lt (hH1.at 0 rfl)
  have hH2 := hH1.alloc (.cells (inoA x) 54) hu0.symm
  change Code.wp _ _ _ _ (y0.alloc (.cells (inoA x) 54))
  rw [← hu0]
  generalize y0.alloc (.cells (inoA x) 54) = v1 at hH2 ⊢
  clear hH1 hu0
  have O := Lib.hid (fun y => deed_cells (g := w.heap.size) (((later_below v1 y).block _ (heap_lt (hH2.at 1 rfl))).trans (hH2.at 1 rfl)))
  have d0 := fun y => (O.out y).1
  have d1 := fun y => (O.out y).2.1
  have d2 := fun y => (O.out y).2.2.1
  have d3 := fun y => (O.out y).2.2.2.1
  have d4 := fun y => (O.out y).2.2.2.2.1
  have d5 := fun y => (O.out y).2.2.2.2.2.1
  have d6 := fun y => (O.out y).2.2.2.2.2.2.1
  have d7 := fun y => (O.out y).2.2.2.2.2.2.2.1
  have d8 := fun y => (O.out y).2.2.2.2.2.2.2.2.1
  have d9 := fun y => (O.out y).2.2.2.2.2.2.2.2.2.1
  have d10 := fun y => (O.out y).2.2.2.2.2.2.2.2.2.2.1
  have d11 := fun y => (O.out y).2.2.2.2.2.2.2.2.2.2.2.1
  have d12 := fun y => (O.out y).2.2.2.2.2.2.2.2.2.2.2.2.1
  have d13 := fun y => (O.out y).2.2.2.2.2.2.2.2.2.2.2.2.2
  have X0 := Lib.hid (fun y => ino_cells (g := u0) (((later_below v1 y).block _ (heap_lt (hH2.at 0 rfl))).trans (hH2.at 0 rfl)))
  have x00 := fun y => (X0.out y).1
  have x01 := fun y => (X0.out y).2.1
  have x02 := fun y => (X0.out y).2.2.1
  have x03 := fun y => (X0.out y).2.2.2.1
  have x04 := fun y => (X0.out y).2.2.2.2.1
  have x05 := fun y => (X0.out y).2.2.2.2.2
  clear X0
  have HB := Lib.hid hH2.below
  rw [show v1 = later v1 v1 from (later_of (Below.refl _ _)).symm]
  clear hH2 O 
  go_wp2_with fail
  all_goals (go_ret; exact ⟨by rw [HR.out]; clear d0 d1 d2 d3 d4 d5 d6 d7 d8 d9 d10 d11 d12 d13 x00 x01 x02 x03 x04 x05  HB HR; simp_all, below_step HB.out (later_below v1 _)⟩)

end Go.Proofs.YtlhdbccemgofjaaGreatDoor

/-
  The landed apply: the inode of an operation's target; why an inode can't stand where a target does.
-/
namespace Go.Proofs.YtlhdbccemgofjaaGreatDoor
open Go.RowKit StampMath GraphMath OpMath PackMath

set_option maxRecDepth 100000 in
set_option maxHeartbeats 1600000 in
theorem target_code (H : GraphHave) (a : Addr) (S : Nat → Prop) (g : Gr) (o : Opn) (w : World) (h : H.rep w S a g) (hg : g.ok) (hn : o.new.size ≤ maxLen) :
    Calls Tryz.prog 115 #[.agg (deedA a o)] w fun e w' => e = .returned (.tuple #[.agg (inoA ((aimG g o).getD noIno)), .bool (aimG g o).isSome]) ∧ Below w.heap.size w w' := by
  obtain ⟨t, ht⟩ : ∃ t, t = (lookE g.E (oTo o) o.new).getD (0, 0) := ⟨_, rfl⟩
  obtain ⟨b, hb⟩ : ∃ b, b = (lookE g.E (oTo o) o.new).isSome := ⟨_, rfl⟩
  obtain ⟨x, hx⟩ : ∃ x, x = (getG g t).getD noIno := ⟨_, rfl⟩
  obtain ⟨xi, hxi⟩ : ∃ xi, xi = (getG g t).isSome := ⟨_, rfl⟩
  have LK : Hid (∀ W : World, Below w.heap.size w W → Calls Tryz.prog 29 #[.pointer (some a), .agg #[.int .i64 o.tt, .int .i64 o.tr], .string o.new] W fun e w' => e = .returned (.tuple #[.agg #[.int .i64 t.1, .int .i64 t.2], .bool b]) ∧ Below W.heap.size W w') := Lib.hid fun W hW => by
    rw [ht, hb]
    exact H.look a S g (oTo o) o.new W (rep_below h hW) hg hn
  have GT : Hid (∀ W : World, Below w.heap.size w W → Calls Tryz.prog 30 #[.pointer (some a), .agg #[.int .i64 t.1, .int .i64 t.2]] W fun e w' => e = .returned (.tuple #[.agg #[.int .i64 x.id.1, .int .i64 x.id.2, .int .i64 x.kind, .int .i64 x.links, .int .i64 x.mode, .string x.data], .bool xi]) ∧ Below W.heap.size W w') := Lib.hid fun W hW => by
    rw [hx, hxi]
    exact H.get a S g t W (rep_below h hW) hg
  have hcase : (b = false ∧ aimG g o = none) ∨ (b = true ∧ (aimG g o).getD noIno = x ∧ (aimG g o).isSome = xi) := by
    unfold aimG targetG
    cases hq : lookE g.E (oTo o) o.new with
    | none =>
      rw [hq] at hb
      exact Or.inl ⟨hb, rfl⟩
    | some s =>
      rw [hq] at hb ht
      have ht' : t = s := ht
      exact Or.inr ⟨hb, by rw [hx, ht']; rfl, by rw [hxi, ht']; rfl⟩
  obtain ⟨r, hr0⟩ : ∃ r, r = (aimG g o).getD noIno := ⟨_, rfl⟩
  obtain ⟨ri, hri⟩ : ∃ ri, ri = (aimG g o).isSome := ⟨_, rfl⟩
  rw [← hr0, ← hri]
  have hcase : (b = false ∧ r = noIno ∧ ri = false) ∨ (b = true ∧ r = x ∧ ri = xi) := by
    rcases hcase with ⟨q1, q2⟩ | ⟨q1, q2, q3⟩
    · exact Or.inl ⟨q1, by rw [hr0, q2]; rfl, by rw [hri, q2]; rfl⟩
    · exact Or.inr ⟨q1, by rw [hr0, q2], by rw [hri, q3]⟩
  clear ht hb hx hxi h hg hn hr0 hri
  have hb0 : Held w [(w.heap.size + 1, .cells (inoA noIno) 54), (w.heap.size, .cells (deedA a o) 73)] ((w.alloc (.cells (deedA a o) 73)).alloc (.cells (inoA noIno) 54)) :=
    ((Held.refl w).alloc (.cells (deedA a o) 73) rfl).alloc (.cells (inoA noIno) 54) (by simp)
  have HC := Lib.hid hcase
  clear hcase
  go_enter Tryz.func115, Tryz.ntmps115
  go_upto_region 1 with fail
  change Code.wp _ _ _ _ ((w.alloc (.cells (deedA a o) 73)).alloc (.cells (inoA noIno) 54))
  generalize (w.alloc (.cells (deedA a o) 73)).alloc (.cells (inoA noIno) 54) = w0 at hb0 ⊢
  obtain ⟨d0, d1, d2, d3, d4, d5, d6, d7, d8, d9, d10, d11, d12, d13⟩ := deed_cells (g := w.heap.size) (hb0.at 1 rfl)
  go_wp2_with fail
  refine (LK.out _ hb0.below).mono ?_
  rintro e w1 ⟨rfl, hb1⟩
  have hH1 := hb0.step hb1
  clear hb0 hb1 d0 d1 d2 d3 d4 d5 d6 d7 d8 d9 d10 d11 d12 d13 LK
  go_upto_region 2 with fail
  obtain ⟨u, hu⟩ : ∃ u, u = w1.heap.size := ⟨_, rfl⟩
  have hlu : w.heap.size + 1 < u := by rw [hu]; exact heap_lt (hH1.at 0 rfl)
  have hH2 := hH1.alloc (.cells (stA t) 35) hu.symm
  change Code.wp _ _ _ _ (w1.alloc (.cells (stA t) 35))
  rw [← hu]
  generalize w1.alloc (.cells (stA t) 35) = w2 at hH2 ⊢
  clear hH1 hu
  obtain ⟨d0, d1, d2, d3, d4, d5, d6, d7, d8, d9, d10, d11, d12, d13⟩ := deed_cells (g := w.heap.size) (hH2.at 2 rfl)
  obtain ⟨s0, s1⟩ := two_cells (g := u) (hH2.at 0 rfl)
  obtain ⟨i0, i1, i2, i3, i4, i5⟩ := ino_cells (g := w.heap.size + 1) (hH2.at 1 rfl)
  obtain ⟨f0, f1, f2, f3, f4, f5⟩ := ino_free (g := w.heap.size + 1) (hH2.at 1 rfl)
  have P := Lib.hid (ino_put (g := w.heap.size + 1) (hH2.at 1 rfl))
  have HB := Lib.hid hH2.below
  rcases HC.out with ⟨rfl, hnm, hni⟩ | ⟨rfl, hnm, hni⟩
  · have HN := Lib.hid hnm
    have HI := Lib.hid hni
    clear hH2 HC hnm hni GT
    obtain ⟨z0, z1, z2, z3, z4, z5⟩ := ino_cells (P.out noIno)
    have HBB := Lib.hid (below_six HB.out (g := w.heap.size + 1) (by omega) (.int .i64 noIno.id.1) (.int .i64 noIno.id.2) (.int .i64 noIno.kind) (.int .i64 noIno.links) (.int .i64 noIno.mode) (.string noIno.data))
    simp only [noIno] at i0 i1 i2 i3 i4 i5 z0 z1 z2 z3 z4 z5
    go_wp2_with fail
    exact bodyPost_ret (v := .tuple #[.agg (inoA noIno), .bool false]) (by simp [results, Tryz.results115, go_sem, inoA, noIno, z0, z1, z2, z3, z4, z5]) rfl ⟨by rw [HN.out, HI.out], HBB.out⟩
  · have HN := Lib.hid hnm
    have HI := Lib.hid hni
    clear HC hnm hni P HB i0 i1 i2 i3 i4 i5 f0 f1 f2 f3 f4 f5
    have HH2 := Lib.hid hH2
    clear hH2
    go_wp2_with fail
    refine (GT.out _ HH2.out.below).mono ?_
    rintro e w3 ⟨rfl, hb3⟩
    have hH3 := HH2.out.step hb3
    obtain ⟨i0, i1, i2, i3, i4, i5⟩ := ino_cells (g := w.heap.size + 1) (hH3.at 1 rfl)
    obtain ⟨f0, f1, f2, f3, f4, f5⟩ := ino_free (g := w.heap.size + 1) (hH3.at 1 rfl)
    have P := Lib.hid (ino_put (g := w.heap.size + 1) (hH3.at 1 rfl) x)
    have HBB := Lib.hid (below_six hH3.below (g := w.heap.size + 1) (by omega) (.int .i64 x.id.1) (.int .i64 x.id.2) (.int .i64 x.kind) (.int .i64 x.links) (.int .i64 x.mode) (.string x.data))
    clear HH2 hb3 hH3 GT d0 d1 d2 d3 d4 d5 d6 d7 d8 d9 d10 d11 d12 d13 s0 s1
    obtain ⟨z0, z1, z2, z3, z4, z5⟩ := ino_cells P.out
    go_wp2_with fail
    exact bodyPost_ret (v := .tuple #[.agg (inoA x), .bool xi]) (by simp [results, Tryz.results115, go_sem, inoA, z0, z1, z2, z3, z4, z5]) rfl ⟨by rw [HN.out, HI.out], HBB.out⟩

set_option maxRecDepth 100000 in
set_option maxHeartbeats 1600000 in
theorem replace_code (H : GraphHave) (a : Addr) (S : Nat → Prop) (g : Gr) (o : Opn) (x t : Ino) (w : World) (h : H.rep w S a g) (hg : g.ok) :
    Calls Tryz.prog 117 #[.agg (deedA a o), .agg (inoA x), .agg (inoA t)] w fun e w' => e = .returned (.int .i64 (replaceB x.kind t.kind ((listE g.E t.id).length : Int))) ∧ Below w.heap.size w w' := by
  have FU : Hid (∀ W : World, Below w.heap.size w W → Calls Tryz.prog 114 #[.agg (deedA a o), .agg #[.int .i64 t.id.1, .int .i64 t.id.2]] W fun e w' => e = .returned (.bool (decide (0 < (listE g.E t.id).length))) ∧ Below W.heap.size W w') := Lib.hid fun W hW => fullQ_code H a S g o t.id W (rep_below h hW) hg
  have DX : Hid (∀ W : World, Calls Tryz.prog 112 #[.agg #[.int .i64 x.id.1, .int .i64 x.id.2, .int .i64 x.kind, .int .i64 x.links, .int .i64 x.mode, .string x.data]] W fun e w' => e = .returned (.bool (x.kind == 1)) ∧ Below W.heap.size W w') := Lib.hid (dirQ_code x)
  have DT : Hid (∀ W : World, Calls Tryz.prog 112 #[.agg #[.int .i64 t.id.1, .int .i64 t.id.2, .int .i64 t.kind, .int .i64 t.links, .int .i64 t.mode, .string t.data]] W fun e w' => e = .returned (.bool (t.kind == 1)) ∧ Below W.heap.size W w') := Lib.hid (dirQ_code t)
  obtain ⟨fu, hfu⟩ : ∃ fu, fu = decide (0 < (listE g.E t.id).length) := ⟨_, rfl⟩
  obtain ⟨kx, hkx⟩ : ∃ kx, kx = (x.kind == 1) := ⟨_, rfl⟩
  obtain ⟨kt, hkt⟩ : ∃ kt, kt = (t.kind == 1) := ⟨_, rfl⟩
  rw [← hfu] at FU
  rw [← hkx] at DX
  rw [← hkt] at DT
  have hr : replaceB x.kind t.kind ((listE g.E t.id).length : Int) = if kt = true ∧ kx = false then 5 else if kx = true ∧ kt = false then 6 else if fu = true then 7 else 0 := by
    unfold replaceB
    rw [hfu, hkx, hkt]
    simp
  obtain ⟨r, hr'⟩ : ∃ r, r = replaceB x.kind t.kind ((listE g.E t.id).length : Int) := ⟨_, rfl⟩
  rw [← hr'] at hr ⊢
  have HR := Lib.hid hr
  have hb0 : Held w [(w.heap.size + 2, .cells (inoA t) 54), (w.heap.size + 1, .cells (inoA x) 54), (w.heap.size, .cells (deedA a o) 73)] (((w.alloc (.cells (deedA a o) 73)).alloc (.cells (inoA x) 54)).alloc (.cells (inoA t) 54)) :=
    (((Held.refl w).alloc (.cells (deedA a o) 73) rfl).alloc (.cells (inoA x) 54) (by simp)).alloc (.cells (inoA t) 54) (by simp)
  have HH := Lib.hid hb0
  clear h hg hfu hkx hkt hr hr' hb0
  go_enter Tryz.func117, Tryz.ntmps117
  go_upto_region 1 with fail
  change Code.wp _ _ _ _ (((w.alloc (.cells (deedA a o) 73)).alloc (.cells (inoA x) 54)).alloc (.cells (inoA t) 54))
  generalize ((w.alloc (.cells (deedA a o) 73)).alloc (.cells (inoA x) 54)).alloc (.cells (inoA t) 54) = w0 at HH ⊢
  have O := Lib.hid (fun y => deed_cells (g := w.heap.size) (((later_below w0 y).block _ (heap_lt (HH.out.at 2 rfl))).trans (HH.out.at 2 rfl)))
  have d0 := fun y => (O.out y).1
  have d1 := fun y => (O.out y).2.1
  have d2 := fun y => (O.out y).2.2.1
  have d3 := fun y => (O.out y).2.2.2.1
  have d4 := fun y => (O.out y).2.2.2.2.1
  have d5 := fun y => (O.out y).2.2.2.2.2.1
  have d6 := fun y => (O.out y).2.2.2.2.2.2.1
  have d7 := fun y => (O.out y).2.2.2.2.2.2.2.1
  have d8 := fun y => (O.out y).2.2.2.2.2.2.2.2.1
  have d9 := fun y => (O.out y).2.2.2.2.2.2.2.2.2.1
  have d10 := fun y => (O.out y).2.2.2.2.2.2.2.2.2.2.1
  have d11 := fun y => (O.out y).2.2.2.2.2.2.2.2.2.2.2.1
  have d12 := fun y => (O.out y).2.2.2.2.2.2.2.2.2.2.2.2.1
  have d13 := fun y => (O.out y).2.2.2.2.2.2.2.2.2.2.2.2.2
  have IX := Lib.hid (fun y => ino_cells (g := w.heap.size + 1) (((later_below w0 y).block _ (heap_lt (HH.out.at 1 rfl))).trans (HH.out.at 1 rfl)))
  have IT := Lib.hid (fun y => ino_cells (g := w.heap.size + 2) (((later_below w0 y).block _ (heap_lt (HH.out.at 0 rfl))).trans (HH.out.at 0 rfl)))
  have x0 := fun y => (IX.out y).1
  have x1 := fun y => (IX.out y).2.1
  have x2 := fun y => (IX.out y).2.2.1
  have x3 := fun y => (IX.out y).2.2.2.1
  have x4 := fun y => (IX.out y).2.2.2.2.1
  have x5 := fun y => (IX.out y).2.2.2.2.2
  have t0 := fun y => (IT.out y).1
  have t1 := fun y => (IT.out y).2.1
  have t2 := fun y => (IT.out y).2.2.1
  have t3 := fun y => (IT.out y).2.2.2.1
  have t4 := fun y => (IT.out y).2.2.2.2.1
  have t5 := fun y => (IT.out y).2.2.2.2.2
  have HB := Lib.hid HH.out.below
  have FU' : Hid (∀ y, Calls Tryz.prog 114 #[.agg #[.pointer (some a), .int .i64 o.st, .int .i64 o.sr, .int .i64 o.k, .int .i64 o.pt, .int .i64 o.pr, .int .i64 o.it, .int .i64 o.ir, .int .i64 o.tt, .int .i64 o.tr, .string o.name, .string o.new, .int .i64 o.off, .string o.data], .agg #[.int .i64 t.id.1, .int .i64 t.id.2]] (later w0 y) fun e w'' => e = .returned (.bool fu) ∧ ∃ z, w'' = later w0 z) := Lib.hid fun y => later_call (FU.out _ (below_step HB.out (later_below w0 y)))
  have DX' : Hid (∀ y, Calls Tryz.prog 112 #[.agg #[.int .i64 x.id.1, .int .i64 x.id.2, .int .i64 x.kind, .int .i64 x.links, .int .i64 x.mode, .string x.data]] (later w0 y) fun e w'' => e = .returned (.bool kx) ∧ ∃ z, w'' = later w0 z) := Lib.hid fun y => later_call (DX.out _)
  have DT' : Hid (∀ y, Calls Tryz.prog 112 #[.agg #[.int .i64 t.id.1, .int .i64 t.id.2, .int .i64 t.kind, .int .i64 t.links, .int .i64 t.mode, .string t.data]] (later w0 y) fun e w'' => e = .returned (.bool kt) ∧ ∃ z, w'' = later w0 z) := Lib.hid fun y => later_call (DT.out _)
  rw [show w0 = later w0 w0 from (later_of (Below.refl _ _)).symm]
  clear HH O IX IT FU DX DT
  go_wp2_with fail
  iterate 6
    all_goals first
      | ((fail_if_success (go_at_call 114)); (fail_if_success (go_at_call 112)); go_ret; exact ⟨by rw [HR.out]; simp, below_step HB.out (later_below w0 _)⟩)
      | (go_at_call 114; (with_reducible refine (FU'.out _).mono ?_); rintro z w5 ⟨rfl, y5, rfl⟩; cases fu <;> go_wp2_with fail)
      | (go_at_call 112; (with_reducible refine (DX'.out _).mono ?_); rintro z w5 ⟨rfl, y5, rfl⟩; (first | (cases kx <;> go_wp2_with fail) | go_wp2_with fail))
      | (go_at_call 112; (with_reducible refine (DT'.out _).mono ?_); rintro z w5 ⟨rfl, y5, rfl⟩; (first | (cases kt <;> go_wp2_with fail) | go_wp2_with fail))
      | skip

end Go.Proofs.YtlhdbccemgofjaaGreatDoor
