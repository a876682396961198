/-
  Plain mathematics of layer 9: directories are trees; links are counted right. It needs no program.
-/
import Derived.Test.YthcmgaibbpacfaaGreatDoorZ00
import Derived.Deep.QuietTactic
import Derived.BigQuiet
import Derived.Test.YthcmgaibbpacfaaGreatDoorRows
import Derived.Deep.Cut
import Derived.Deep.DeepCutAuto
import Derived.Deep.LoopGhost
import Derived.Deep.RegionWith
namespace Go.Proofs.YthcmgaibbpacfaaGreatDoor.GraphMath
open StampMath

theorem leads_trans {g : Gr} {a b c : St} (h : Leads g a b) (k : Leads g b c) : Leads g a c := by
  induction h with
  | here _ => exact k
  | up e d he hd _ ih => exact Leads.up e c he hd (ih k)

theorem leads_rank {g : Gr} {f : St → Nat} (hf : ∀ e ∈ g.E, g.isDir e.ino → f e.dir < f e.ino) {a b : St} (h : Leads g a b) : a = b ∨ f b < f a := by
  induction h with
  | here _ => exact Or.inl rfl
  | up e d he hd _ ih =>
    have := hf e he hd
    rcases ih with rfl | h
    · exact Or.inr this
    · exact Or.inr (by omega)

theorem Gr.ok.anti {g : Gr} (h : g.ok) {a b : St} (h1 : underG g a b = true) (h2 : underG g b a = true) : a = b := by
  obtain ⟨f, hf⟩ := h.rank
  rcases leads_rank hf (h.leads.1 h1) with e | e
  · exact e
  · rcases leads_rank hf (h.leads.1 h2) with q | q
    · exact q.symm
    · omega

theorem Gr.ok.utrans {g : Gr} (h : g.ok) {a b c : St} (h1 : underG g a b = true) (h2 : underG g b c = true) : underG g a c = true :=
  h.leads.2 (leads_trans (h.leads.1 h1) (h.leads.1 h2))

theorem under_self (g : Gr) (a : St) : underG g a a = true := by
  unfold underG
  rw [underN_step, if_pos rfl]

/-- None is under itself by another one. -/
theorem Gr.ok.no_loop {g : Gr} (h : g.ok) {id p : St} (hp : parentG g id = some p) : underG g p id = false := by
  cases hu : underG g p id with
  | false => rfl
  | true =>
    obtain ⟨e, he, rfl, rfl, hd⟩ := parent_of hp
    obtain ⟨f, hf⟩ := h.rank
    have := hf e he hd
    rcases leads_rank hf (h.leads.1 hu) with q | q
    · rw [q] at this; omega
    · omega

theorem Gr.ok.under_up {g : Gr} (h : g.ok) {a p : St} (hp : parentG g a = some p) : underG g a p = true := by
  obtain ⟨e, he, rfl, rfl, hd⟩ := parent_of hp
  exact h.leads.2 (Leads.up e _ he hd (Leads.here _))

/-- Behind the first step. -/
theorem Gr.ok.under_step {g : Gr} (h : g.ok) {a b p : St} (hp : parentG g a = some p) (hab : a ≠ b) : underG g a b = underG g p b := by
  rw [Bool.eq_iff_iff, h.leads, h.leads]
  constructor
  · intro hl
    cases hl with
    | here _ => exact absurd rfl hab
    | up e d he hd hl =>
      have := h.parent he hd
      rw [hp] at this
      rw [Option.some.inj this]
      exact hl
  · intro hl
    obtain ⟨e, he, rfl, rfl, hd⟩ := parent_of hp
    exact Leads.up e b he hd hl

/-- A parent there is just of a directory with a link. -/
theorem Gr.ok.parent_iff {g : Gr} (h : g.ok) {x : Ino} (hx : x ∈ g.I) : (parentG g x.id).isSome = (decide (x.kind = 1) && decide (linksE g.E x.id = 1)) := by
  cases hp : parentG g x.id with
  | some p =>
    obtain ⟨e, he, hei, _, hd⟩ := parent_of hp
    have h1 := h.one x.id hd
    have h2 : 0 < linksE g.E x.id := List.length_pos_of_mem (a := e) (List.mem_filter.2 ⟨he, by simp [hei]⟩)
    obtain ⟨y, hy, hyi, hyk⟩ := hd
    have := h.ids hy hx hyi
    subst this
    rw [decide_eq_true hyk, decide_eq_true (by omega)]
    rfl
  | none =>
    symm
    rw [Option.isSome_none, Bool.and_eq_false_iff]
    by_cases hk : x.kind = 1
    · refine Or.inr (decide_eq_false fun hl => ?_)
      have hpos : 0 < (g.E.filter fun e => decide (e.ino = x.id)).length := by unfold linksE at hl; omega
      obtain ⟨e, hem⟩ := List.exists_mem_of_length_pos hpos
      obtain ⟨he, hei⟩ := List.mem_filter.1 hem
      have hei : e.ino = x.id := by simpa using hei
      have := h.parent he ⟨x, hx, hei.symm, hk⟩
      rw [hei, hp] at this
      cases this
    · exact Or.inl (decide_eq_false hk)

end Go.Proofs.YthcmgaibbpacfaaGreatDoor.GraphMath

/-
  Plain mathematics of layer 8: bytes written, cut off, read. It needs no program.
-/
namespace Go.Proofs.YthcmgaibbpacfaaGreatDoor.ExtentMath
open Go.RowKit

/-- The first k bytes that a function tells. -/
def bld (f : Nat → UInt8) (k : Nat) : List UInt8 := (List.range k).map f

theorem bld_succ (f : Nat → UInt8) (k : Nat) : bld f (k + 1) = bld f k ++ [f k] := by
  unfold bld
  rw [List.range_succ, List.map_append]
  rfl

theorem bld_len (f : Nat → UInt8) (k : Nat) : (bld f k).length = k := by simp [bld]

theorem bld_get (f : Nat → UInt8) {k i : Nat} (h : i < k) : (bld f k)[i]? = some (f i) := by
  unfold bld
  rw [List.getElem?_map, List.getElem?_range h]
  rfl

/-- A byte of d; 0 behind its end. -/
def bAt (d : List UInt8) (i : Nat) : UInt8 := d.getD i 0

theorem bAt_lt {d : List UInt8} {i : Nat} (h : i < d.length) : bAt d i = d[i] := by
  unfold bAt
  rw [List.getD_eq_getElem?_getD, List.getElem?_eq_getElem h]
  rfl

theorem bAt_ge {d : List UInt8} {i : Nat} (h : d.length ≤ i) : bAt d i = 0 := by
  unfold bAt
  rw [List.getD_eq_getElem?_getD, List.getElem?_eq_none h]
  rfl

theorem bAt_bld (f : Nat → UInt8) {k i : Nat} (h : i < k) : bAt (bld f k) i = f i := by
  unfold bAt
  rw [List.getD_eq_getElem?_getD, bld_get f h]
  rfl

/-- Lists with the same bytes are the same. -/
theorem same_bytes {a b : List UInt8} (hl : a.length = b.length) (h : ∀ i, i < a.length → bAt a i = bAt b i) : a = b := by
  apply List.ext_getElem hl
  intro i h1 h2
  have := h i h1
  rw [bAt_lt h1, bAt_lt h2] at this
  exact this

theorem bld_self (d : List UInt8) : bld (bAt d) d.length = d :=
  same_bytes (bld_len _ _) fun i hi => bAt_bld _ (by rw [bld_len] at hi; exact hi)

/-- Written at o. -/
def wF (d s : List UInt8) (o i : Nat) : UInt8 := if o ≤ i ∧ i < o + s.length then bAt s (i - o) else bAt d i
def wL (d s : List UInt8) (o : Nat) : List UInt8 := bld (wF d s o) (max d.length (o + s.length))
/-- Of size n. -/
def tL (d : List UInt8) (n : Nat) : List UInt8 := bld (bAt d) n
/-- Read at o. -/
def rL (d : List UInt8) (o m : Nat) : List UInt8 := (d.drop o).take m

theorem wL_len (d s : List UInt8) (o : Nat) : (wL d s o).length = max d.length (o + s.length) := bld_len _ _
theorem tL_len (d : List UInt8) (n : Nat) : (tL d n).length = n := bld_len _ _
theorem rL_len (d : List UInt8) (o m : Nat) : (rL d o m).length = min m (d.length - o) := by unfold rL; rw [List.length_take, List.length_drop]

theorem bAt_wL (d s : List UInt8) (o i : Nat) : bAt (wL d s o) i = wF d s o i := by
  unfold wL
  by_cases h : i < max d.length (o + s.length)
  · exact bAt_bld _ h
  · rw [bAt_ge (by rw [bld_len]; omega)]
    unfold wF
    rw [if_neg (by omega), bAt_ge (by omega)]

theorem bAt_tL (d : List UInt8) (n i : Nat) : bAt (tL d n) i = if i < n then bAt d i else 0 := by
  unfold tL
  by_cases h : i < n
  · rw [if_pos h]; exact bAt_bld _ h
  · rw [if_neg h]; exact bAt_ge (by rw [bld_len]; omega)

theorem bAt_rL (d : List UInt8) (o m i : Nat) : bAt (rL d o m) i = if i < m then bAt d (o + i) else 0 := by
  unfold rL bAt
  rw [List.getD_eq_getElem?_getD, List.getD_eq_getElem?_getD, List.getElem?_take]
  by_cases h : i < m
  · rw [if_pos h, if_pos h, List.getElem?_drop]
  · rw [if_neg h, if_neg h]; rfl

/-- What Write tells: the data, the error. -/
def wR (d : ByteArray) (off : Int) (s : ByteArray) : ByteArray × Int :=
  if off < 0 ∨ s.size = 0 then (d, 1)
  else if 64 < off ∨ 64 < s.size ∨ 64 < d.size ∨ 64 < off + (s.size : Int) then (d, 11)
  else (⟨(wL d.data.toList s.data.toList off.toNat).toArray⟩, 0)

def tR (d : ByteArray) (n : Int) : ByteArray × Int :=
  if n < 0 then (d, 1) else if 64 < n ∨ 64 < d.size then (d, 11) else (⟨(tL d.data.toList n.toNat).toArray⟩, 0)

def rR (d : ByteArray) (off many : Int) : ByteArray := if off < 0 then ⟨#[]⟩ else ⟨(rL d.data.toList off.toNat many.toNat).toArray⟩

/-- Reading byte by byte. -/
theorem rL_bld (d : List UInt8) (o m : Nat) : rL d o m = bld (fun i => bAt d (o + i)) (min m (d.length - o)) :=
  same_bytes (by rw [rL_len, bld_len]) fun i hi => by
    rw [rL_len] at hi
    rw [bAt_rL, if_pos (by omega), bAt_bld _ hi]

/-- What was written is read. -/
theorem read_wrote (d s : List UInt8) (o : Nat) : rL (wL d s o) o s.length = s :=
  same_bytes (by rw [rL_len, wL_len]; omega) fun i hi => by
    rw [rL_len, wL_len] at hi
    rw [bAt_rL, if_pos (by omega), bAt_wL]
    unfold wF
    rw [if_pos (by omega)]
    congr 1
    omega

/-- One byte elsewhere is as it was, a zero between. -/
theorem read_else (d s : List UInt8) (o k : Nat) (h : k < o ∨ o + s.length ≤ k) : rL (wL d s o) k 1 = if d.length ≤ k ∧ k < o then [0] else rL d k 1 := by
  by_cases hz : d.length ≤ k ∧ k < o
  · rw [if_pos hz]
    refine same_bytes (by rw [rL_len, wL_len]; simp; omega) fun i hi => ?_
    rw [rL_len, wL_len] at hi
    obtain rfl : i = 0 := by omega
    rw [bAt_rL, if_pos (by omega), bAt_wL]
    unfold wF
    rw [if_neg (by omega), bAt_ge (by omega)]
    rfl
  · rw [if_neg hz]
    refine same_bytes (by rw [rL_len, rL_len, wL_len]; omega) fun i hi => ?_
    rw [rL_len, wL_len] at hi
    obtain rfl : i = 0 := by omega
    rw [bAt_rL, bAt_rL, if_pos Nat.zero_lt_one, bAt_wL]
    unfold wF
    rw [if_neg (by omega)]
    rfl

theorem trunc_twice (d : List UInt8) (n : Nat) : tL (tL d n) n = tL d n :=
  same_bytes (by rw [tL_len, tL_len]) fun i hi => by
    rw [tL_len] at hi
    rw [bAt_tL, if_pos hi]

theorem trunc_read (d : List UInt8) (m n k : Nat) (hm : k ≤ m) (hn : k ≤ n) (hd : k ≤ d.length) : rL (tL (tL d m) n) 0 k = rL d 0 k :=
  same_bytes (by rw [rL_len, rL_len, tL_len]; omega) fun i hi => by
    rw [rL_len, tL_len] at hi
    rw [bAt_rL, bAt_rL, if_pos (by omega), if_pos (by omega), bAt_tL, if_pos (by omega), bAt_tL, if_pos (by omega)]

theorem trunc_zero (d : List UInt8) (m n i : Nat) (h : m ≤ i ∨ d.length ≤ i) : bAt (tL (tL d m) n) i = 0 := by
  rw [bAt_tL]
  split
  · rw [bAt_tL]
    split
    · rw [bAt_ge (by omega)]
    · rfl
  · rfl

theorem write_twice (d s : List UInt8) : wL (wL d s 0) s 0 = wL d s 0 :=
  same_bytes (by rw [wL_len, wL_len]; omega) fun i hi => by
    rw [bAt_wL, bAt_wL]
    unfold wF
    by_cases h : 0 ≤ i ∧ i < 0 + s.length
    · rw [if_pos h, if_pos h]
    · rw [if_neg h, bAt_wL]
      unfold wF
      rw [if_neg h]

theorem write_apart (d s t : List UInt8) (i k : Nat) (h : i + s.length ≤ k ∨ k + t.length ≤ i) : wL (wL d s i) t k = wL (wL d t k) s i :=
  same_bytes (by rw [wL_len, wL_len, wL_len, wL_len]; omega) fun j hj => by
    rw [bAt_wL, bAt_wL]
    unfold wF
    rw [bAt_wL, bAt_wL]
    unfold wF
    by_cases h1 : k ≤ j ∧ j < k + t.length
    · rw [if_pos h1, if_neg (by omega)]
      rw [if_pos h1]
    · rw [if_neg h1]
      by_cases h2 : i ≤ j ∧ j < i + s.length
      · rw [if_pos h2, if_pos h2]
      · rw [if_neg h2, if_neg h2, if_neg h1]

theorem write_over (d s t : List UInt8) (i k : Nat) (h1 : k ≤ i) (h2 : i + s.length ≤ k + t.length) : wL (wL d s i) t k = wL d t k :=
  same_bytes (by rw [wL_len, wL_len, wL_len]; omega) fun j hj => by
    rw [bAt_wL, bAt_wL]
    unfold wF
    by_cases h : k ≤ j ∧ j < k + t.length
    · rw [if_pos h, if_pos h]
    · rw [if_neg h, if_neg h, bAt_wL]
      unfold wF
      rw [if_neg (by omega)]

end Go.Proofs.YthcmgaibbpacfaaGreatDoor.ExtentMath

/-
  Plain mathematics of layer 11: why an operation can't be done on a graph, and what it makes. It needs no program.
-/
namespace Go.Proofs.YthcmgaibbpacfaaGreatDoor.GraphMath
open StampMath OpMath ExtentMath

def oAt (o : Opn) : St := (o.pt, o.pr)
def oIno (o : Opn) : St := (o.it, o.ir)
def oTo (o : Opn) : St := (o.tt, o.tr)
def oSt (o : Opn) : St := (o.st, o.sr)

/-- An inode's kind; 0: there is none. -/
def kindG (g : Gr) (id : St) : Int := ((getG g id).getD noIno).kind
/-- An inode's links. -/
def linksG (g : Gr) (id : St) : Int := ((getG g id).getD noIno).links

/-- Why can't an inode be made, or have one entry more? -/
def makesW (g : Gr) (o : Opn) : Int :=
  if kindG g (oAt o) = 0 ∨ (o.k = 4 ∧ kindG g (oIno o) = 0) then 3
  else if kindG g (oAt o) ≠ 1 then 6
  else if o.k = 4 ∧ kindG g (oIno o) = 1 then 5
  else if (lookE g.E (oAt o) o.name).isSome ∨ (o.k ≠ 4 ∧ kindG g (oSt o) ≠ 0) then 4
  else if o.k ≠ 4 ∧ 40 ≤ g.I.length then 13
  else if o.k = 4 ∧ 6 ≤ linksG g (oIno o) then 12
  else 0

/-- The target of a Rename. -/
def targetG (g : Gr) (o : Opn) : Option St := lookE g.E (oTo o) o.new

/-- Why can't an entry be another one? -/
def renamesW (g : Gr) (o : Opn) : Int :=
  if lookE g.E (oAt o) o.name ≠ some (oIno o) ∨ kindG g (oTo o) = 0 then 3
  else if kindG g (oTo o) ≠ 1 then 6
  else if targetG g o = some (oIno o) then 0
  else if kindG g (oIno o) = 1 ∧ underG g (oTo o) (oIno o) = true then 8
  else if ((targetG g o).isSome ∧ kindG g ((targetG g o).getD (0, 0)) = 1) ∧ kindG g (oIno o) ≠ 1 then 5
  else if (targetG g o).isSome ∧ kindG g (oIno o) = 1 ∧ ¬ ((targetG g o).isSome ∧ kindG g ((targetG g o).getD (0, 0)) = 1) then 6
  else if ((targetG g o).isSome ∧ kindG g ((targetG g o).getD (0, 0)) = 1) ∧ 0 < (listE g.E ((targetG g o).getD (0, 0))).length then 7
  else 0

/-- Why can't an operation be done? -/
def whyA (g : Gr) (o : Opn) : Int :=
  if mayO o = false then 1
  else if o.k ≤ 4 then makesW g o
  else if o.k = 7 then renamesW g o
  else if (o.k ≤ 6 ∧ lookE g.E (oAt o) o.name ≠ some (oIno o)) ∨ kindG g (oIno o) = 0 then 3
  else if (o.k = 5 ∨ o.k = 8 ∨ o.k = 9) ∧ kindG g (oIno o) = 1 then 5
  else if o.k = 6 ∧ kindG g (oIno o) ≠ 1 then 6
  else if o.k = 6 ∧ 0 < (listE g.E (oIno o)).length then 7
  else if (o.k = 8 ∨ o.k = 9) ∧ kindG g (oIno o) = 3 then 8
  else 0

/-- Without an entry, and without its inode, if that was the last one. -/
def goneG (g : Gr) (d : St) (nm : ByteArray) : Gr :=
  if linksE (untieG g d nm).1.E (untieG g d nm).2.1 = 0 then (dropG (untieG g d nm).1 (untieG g d nm).2.1).1 else (untieG g d nm).1

def tie1 (g : Gr) (d : St) (nm : ByteArray) (ino : St) : Gr := (tieG (nameB nm) g ⟨d, nm, ino⟩).1

/-- What an inode has. -/
def inoG (g : Gr) (id : St) : Ino := (getG g id).getD noIno

def bytes (l : List UInt8) : ByteArray := ⟨l.toArray⟩

/-- What an operation that can be done makes. -/
def madeA (g : Gr) (o : Opn) : Gr :=
  if o.k ≤ 3 then tie1 (setG (makeG g (oSt o) o.k).1 (oSt o) 0 o.data).1 (oAt o) o.name (oSt o)
  else if o.k = 4 then tie1 g (oAt o) o.name (oIno o)
  else if o.k ≤ 6 then goneG g (oAt o) o.name
  else if o.k = 7 then
    if targetG g o = some (oIno o) then g
    else tie1 (untieG (if (targetG g o).isSome then goneG g (oTo o) o.new else g) (oAt o) o.name).1 (oTo o) o.new (oIno o)
  else if o.k = 8 then (setG g (oIno o) (inoG g (oIno o)).mode (bytes (wL (inoG g (oIno o)).data.data.toList o.data.data.toList o.off.toNat))).1
  else if o.k = 9 then (setG g (oIno o) (inoG g (oIno o)).mode (bytes (tL (inoG g (oIno o)).data.data.toList o.off.toNat))).1
  else (setG g (oIno o) o.off (inoG g (oIno o)).data).1

/-- What an operation makes, and what it answers. -/
def doA (g : Gr) (o : Opn) : Gr × Int := if whyA g o = 0 then (madeA g o, 0) else (g, whyA g o)

/-- A graph that is fine. -/
structure Gr.fine (g : Gr) : Prop where
  ok : g.ok
  names : ∀ e ∈ g.E, nameB e.name = true
  held : ∀ x ∈ g.I, x.id ≠ (0, 0) → 1 ≤ linksE g.E x.id
  bound : ∀ x ∈ g.I, boundOk1 x

/-! ### kinds -/

theorem kindG_I (g : Gr) (id : St) : kindG g id = ((g.I.find? fun x => decide (x.id = id)).map (·.kind)).getD 0 := by
  unfold kindG getG
  cases g.I.find? (fun x => decide (x.id = id)) <;> rfl

theorem kindG_same {g g' : Gr} (h : g.I = g'.I) (id : St) : kindG g id = kindG g' id := by rw [kindG_I, kindG_I, h]

theorem Gr.ok.kindG {g : Gr} (h : g.ok) {x : Ino} (hx : x ∈ g.I) : GraphMath.kindG g x.id = x.kind := by
  unfold GraphMath.kindG
  rw [h.get hx]
  rfl

theorem kindG_some {g : Gr} {id : St} (h : kindG g id ≠ 0) : ∃ x ∈ g.I, x.id = id ∧ x.kind = kindG g id := by
  rw [kindG_I] at h ⊢
  cases hq : g.I.find? (fun x => decide (x.id = id)) with
  | none => rw [hq] at h; exact absurd rfl h
  | some x => exact ⟨x, List.mem_of_find?_eq_some hq, by simpa using List.find?_some hq, rfl⟩

theorem kindG_dir {g : Gr} {id : St} (h : kindG g id = 1) : g.isDir id := by
  obtain ⟨x, hx, h1, h2⟩ := kindG_some (g := g) (id := id) (by rw [h]; decide)
  exact ⟨x, hx, h1, h2.trans h⟩

theorem Gr.ok.kindDir {g : Gr} (h : g.ok) {id : St} (hd : g.isDir id) : GraphMath.kindG g id = 1 := by
  obtain ⟨x, hx, h1, h2⟩ := hd
  rw [← h1, h.kindG hx, h2]

theorem Gr.ok.there {g : Gr} (h : g.ok) {id : St} (hk : GraphMath.kindG g id ≠ 0) : ∃ x, getG g id = some x := by
  obtain ⟨x, hx, h1, _⟩ := kindG_some hk
  exact ⟨_, by rw [← h1]; exact h.get hx⟩

theorem kindG_zero {g : Gr} (h : g.ok) {id : St} (hk : kindG g id = 0) : ∀ x ∈ g.I, x.id ≠ id := fun x hx e => by
  have := h.kindG hx
  rw [e, hk] at this
  have := (h.kinds x hx).1
  omega

theorem getG_zero {g : Gr} (h : g.ok) {id : St} (hk : kindG g id = 0) : getG g id = none := by
  unfold getG
  rw [List.find?_eq_none.2 fun x hx => by simpa using kindG_zero h hk x hx]
  rfl

/-! ### all is reached -/

theorem Gr.fine.reached {g : Gr} (h : g.fine) : ∀ x ∈ g.I, Reached (inodesG g) g.E x.id := by
  obtain ⟨f, hf⟩ := h.ok.rank
  have hroot : Reached (inodesG g) g.E (0, 0) := by
    obtain ⟨x, hx, h0, _⟩ := h.ok.root
    refine ⟨0, .root ?_⟩
    rw [← h0, h.ok.kindI hx]
    rfl
  have hdir : ∀ (n : Nat) (x : Ino), x ∈ g.I → x.kind = 1 → f x.id ≤ n → Reached (inodesG g) g.E x.id := by
    intro n
    induction n with
    | zero =>
      intro x hx hk hn
      by_cases h0 : x.id = (0, 0)
      · rw [h0]; exact hroot
      · obtain ⟨e, he, hei⟩ := links_pos (h.held x hx h0)
        have := hf e he ⟨x, hx, hei.symm, hk⟩
        rw [hei] at this
        omega
    | succ n ih =>
      intro x hx hk hn
      by_cases h0 : x.id = (0, 0)
      · rw [h0]; exact hroot
      · obtain ⟨e, he, hei⟩ := links_pos (h.held x hx h0)
        have hr := hf e he ⟨x, hx, hei.symm, hk⟩
        rw [hei] at hr
        obtain ⟨d, hd, hde, hdk⟩ := h.ok.dirs e he
        obtain ⟨m, hm⟩ := ih d hd hdk (by rw [hde]; omega)
        rw [hde] at hm
        rw [← hei]
        exact ⟨m + 1, .step he hm (by rw [← hde, h.ok.kindI hd, hdk]) (by rw [hei, h.ok.kindI hx]; rfl)⟩
  intro x hx
  by_cases h0 : x.id = (0, 0)
  · rw [h0]; exact hroot
  · obtain ⟨e, he, hei⟩ := links_pos (h.held x hx h0)
    obtain ⟨d, hd, hde, hdk⟩ := h.ok.dirs e he
    obtain ⟨m, hm⟩ := hdir _ d hd hdk (Nat.le_refl _)
    rw [hde] at hm
    rw [← hei]
    exact ⟨m + 1, .step he hm (by rw [← hde, h.ok.kindI hd, hdk]) (by rw [hei, h.ok.kindI hx]; rfl)⟩

/-- A graph that is fine has no fault. -/
theorem Gr.fine.audit {g : Gr} (h : g.fine) : fineP (inodesG g) g.E := by
  obtain ⟨a1, a2, a3, a4⟩ := h.ok.audit h.names
  refine ⟨a1, a2, a3, a4, ?_, ?_, ?_, ?_⟩
  · intro x hx
    rw [h.ok.inodes] at hx
    obtain ⟨y, hy, rfl⟩ := List.mem_map.1 hx
    unfold manyOk1
    dsimp only
    by_cases h0 : y.id = (0, 0)
    · rw [if_pos h0, h0]
      unfold linksE
      rw [List.length_eq_zero_iff, List.filter_eq_nil_iff]
      intro e he
      simpa using h.ok.noRoot e he
    · rw [if_neg h0]
      refine ⟨h.held y hy h0, ?_⟩
      by_cases hk : y.kind = 1
      · rw [if_pos hk]; exact h.ok.one _ ⟨y, hy, rfl, hk⟩
      · rw [if_neg hk]; exact h.ok.six _
  · intro x hx
    rw [h.ok.inodes] at hx
    obtain ⟨y, hy, rfl⟩ := List.mem_map.1 hx
    exact h.reached y hy
  · intro x hx
    rw [h.ok.inodes] at hx
    obtain ⟨y, hy, rfl⟩ := List.mem_map.1 hx
    exact h.bound y hy
  · rw [h.ok.inodes, List.length_map]
    exact h.ok.few

theorem new_fine : newG.fine where
  ok := new_okG
  names := fun e he => by cases he
  held := fun x hx h0 => by rw [List.mem_singleton.1 hx] at h0; exact absurd rfl h0
  bound := fun x hx => by rw [List.mem_singleton.1 hx]; unfold boundOk1; decide

end Go.Proofs.YthcmgaibbpacfaaGreatDoor.GraphMath

/-
  Plain mathematics of layer 11: a graph that is fine is so behind any operation. It needs no program.
-/
namespace Go.Proofs.YthcmgaibbpacfaaGreatDoor.GraphMath
open StampMath OpMath ExtentMath

theorem mayO_parts {o : Opn} (h : mayO o = true) : 1 ≤ o.k ∧ o.k ≤ 10 ∧ bareO o = o ∧ o.st ≠ 0 ∧ mayB o.st o.sr = true ∧ (o.k ≤ 7 → nameB o.name = true) ∧ (o.k = 7 → nameB o.new = true) ∧ dataB o = true := by
  unfold mayO at h
  simp only [Bool.and_eq_true, decide_eq_true_iff, Bool.not_eq_true', beq_eq_false_iff_ne, Bool.or_eq_true] at h
  obtain ⟨⟨⟨⟨⟨⟨h1, h2⟩, h3⟩, h4⟩, h5⟩, ⟨⟨_, h6⟩, h7⟩⟩, h8⟩ := h
  refine ⟨h1, h2, h3, h4, h5, fun q => ?_, fun q => ?_, h8⟩
  · rcases h6 with h6 | h6
    · omega
    · exact h6
  · rcases h7 with h7 | h7
    · exact absurd q h7
    · exact h7

theorem bare_data {o : Opn} (h : bareO o = o) (hk : o.k ≠ 3) (hk8 : o.k ≠ 8) : o.data.size = 0 := by
  have e : (bareO o).data = ⟨#[]⟩ := if_neg (by omega)
  rw [h] at e
  rw [e]
  rfl

/-- A new inode's bounds. -/
theorem made_bound {o : Opn} (h : mayO o = true) (hk : o.k ≤ 3) : boundOk1 ⟨oSt o, o.k, 0, 0, o.data⟩ := by
  obtain ⟨h1, _, h3, _, _, _, _, h8⟩ := mayO_parts h
  unfold boundOk1
  dsimp only
  by_cases q : o.k = 3
  · unfold dataB at h8
    rw [if_pos q] at h8
    simp only [Bool.and_eq_true, decide_eq_true_iff] at h8
    exact ⟨by omega, by omega, fun r => by omega, fun r => by omega, fun _ => ⟨by omega, by omega⟩⟩
  · have := bare_data h3 q (by omega)
    exact ⟨by omega, by omega, fun _ => this, fun _ => by omega, fun r => absurd r q⟩

theorem why_zero_of {g : Gr} {e : Ent} {X : Ino} (hn : nameB e.name = true) (hd : kindG g e.dir = 1) (hx : getG g e.ino = some X) (hl : lookE g.E e.dir e.name = none)
    (hu : X.kind = 1 → e.ino ≠ (0, 0) ∧ underG g e.dir e.ino = false) (hf : ¬ (X.kind = 1 ∧ 0 < X.links ∨ 6 ≤ X.links)) : whyG (nameB e.name) g e = 0 := by
  obtain ⟨A, hA, hk⟩ : ∃ A, getG g e.dir = some A ∧ A.kind = 1 := by
    unfold kindG at hd
    cases hq : getG g e.dir with
    | none => rw [hq] at hd; exact absurd hd (by decide)
    | some A => exact ⟨A, rfl, by rw [hq] at hd; exact hd⟩
  have hk' : ¬ A.kind ≠ 1 := fun q => q hk
  have hl' : ¬ (lookE g.E e.dir e.name).isSome = true := by rw [hl]; simp
  have h8 : ¬ (X.kind = 1 ∧ (e.ino = (0, 0) ∨ underG g e.dir e.ino = true)) := by
    rintro ⟨q, r⟩
    obtain ⟨u1, u2⟩ := hu q
    rcases r with r | r
    · exact u1 r
    · rw [u2] at r; cases r
  unfold whyG
  rw [if_neg (by simp [hn])]
  simp only [hA, hx]
  rw [if_neg hk', if_neg hl', if_neg h8, if_neg hf]

theorem tie_I {g : Gr} {b : Bool} {e : Ent} : (tieG b g e).1.I = g.I := by
  unfold tieG
  split <;> rfl

theorem Gr.ok.tieFine {g : Gr} (h : g.ok) (hn : ∀ e ∈ g.E, nameB e.name = true) (hb : ∀ x ∈ g.I, boundOk1 x) (e : Ent) (hh : ∀ x ∈ g.I, x.id ≠ (0, 0) → x.id ≠ e.ino → 1 ≤ linksE g.E x.id) (hw : whyG (nameB e.name) g e = 0) : (tieG (nameB e.name) g e).1.fine := by
  have hE : (tieG (nameB e.name) g e).1.E = putIn (fun a => aheadE a e) g.E e := by unfold tieG; rw [if_pos hw]
  refine ⟨h.tie _ e, names_tie hn e, ?_, by rw [tie_I]; exact hb⟩
  intro x hx h0
  rw [tie_I] at hx
  rw [hE, linksE_put]
  by_cases q : x.id = e.ino
  · rw [if_pos q.symm]; omega
  · have := hh x hx h0 q; omega

theorem set_mem {g : Gr} {id : St} {mode : Int} {data : ByteArray} {x : Ino} (h : x ∈ (setG g id mode data).1.I) : ∃ y ∈ g.I, x = if y.id = id then { y with mode := mode, data := data } else y := by
  unfold setG at h
  cases hq : getG g id with
  | none =>
    rw [hq] at h
    exact ⟨x, h, by rw [if_neg (get_none hq x h)]⟩
  | some X =>
    rw [hq] at h
    obtain ⟨y, hy, rfl⟩ := List.mem_map.1 h
    exact ⟨y, hy, rfl⟩

theorem Gr.fine.set {g : Gr} (h : g.fine) (id : St) (mode : Int) (data : ByteArray) (hb : ∀ x ∈ g.I, x.id = id → boundOk1 { x with mode := mode, data := data }) : (setG g id mode data).1.fine := by
  refine ⟨h.ok.set id mode data, by rw [set_ents]; exact h.names, ?_, ?_⟩
  · rw [set_ents]
    intro x hx h0
    obtain ⟨y, hy, rfl⟩ := set_mem hx
    by_cases q : y.id = id
    · rw [if_pos q] at h0 ⊢; exact h.held y hy h0
    · rw [if_neg q] at h0 ⊢; exact h.held y hy h0
  · intro x hx
    obtain ⟨y, hy, rfl⟩ := set_mem hx
    by_cases q : y.id = id
    · rw [if_pos q]; exact hb y hy q
    · rw [if_neg q]; exact h.bound y hy

theorem leads_end {g : Gr} {a d : St} (h : Leads g a d) : a = d ∨ ∃ e ∈ g.E, e.dir = d := by
  induction h with
  | here => exact Or.inl rfl
  | up e d he _ _ ih =>
    rcases ih with ih | ih
    · exact Or.inr ⟨e, he, ih⟩
    · exact Or.inr ih

/-! ### Mkdir, Create, Symlink, Link -/

theorem makesW_zero {g : Gr} {o : Opn} (h : makesW g o = 0) : kindG g (oAt o) = 1 ∧ lookE g.E (oAt o) o.name = none ∧ (o.k ≠ 4 → kindG g (oSt o) = 0 ∧ g.I.length < 40) ∧ (o.k = 4 → kindG g (oIno o) ≠ 0 ∧ kindG g (oIno o) ≠ 1 ∧ linksG g (oIno o) < 6) := by
  unfold makesW at h
  by_cases c1 : kindG g (oAt o) = 0 ∨ (o.k = 4 ∧ kindG g (oIno o) = 0)
  · rw [if_pos c1] at h; cases h
  rw [if_neg c1] at h
  by_cases c2 : kindG g (oAt o) ≠ 1
  · rw [if_pos c2] at h; cases h
  rw [if_neg c2] at h
  by_cases c3 : o.k = 4 ∧ kindG g (oIno o) = 1
  · rw [if_pos c3] at h; cases h
  rw [if_neg c3] at h
  by_cases c4 : (lookE g.E (oAt o) o.name).isSome = true ∨ (o.k ≠ 4 ∧ kindG g (oSt o) ≠ 0)
  · rw [if_pos c4] at h; cases h
  rw [if_neg c4] at h
  by_cases c5 : o.k ≠ 4 ∧ 40 ≤ g.I.length
  · rw [if_pos c5] at h; cases h
  rw [if_neg c5] at h
  by_cases c6 : o.k = 4 ∧ 6 ≤ linksG g (oIno o)
  · rw [if_pos c6] at h; cases h
  refine ⟨by omega, ?_, fun q => ⟨?_, ?_⟩, fun q => ⟨?_, ?_, ?_⟩⟩
  · cases hq : lookE g.E (oAt o) o.name with
    | none => rfl
    | some _ => exact absurd (Or.inl (by rw [hq]; rfl)) c4
  · exact Classical.byContradiction fun r => c4 (Or.inr ⟨q, r⟩)
  · exact Classical.byContradiction fun r => c5 ⟨q, by omega⟩
  · exact fun r => c1 (Or.inr ⟨q, r⟩)
  · exact fun r => c3 ⟨q, r⟩
  · exact Classical.byContradiction fun r => c6 ⟨q, by omega⟩

theorem make_zero {g : Gr} (h : g.ok) {o : Opn} (hm : mayO o = true) (hk : o.k ≤ 3) (hs : kindG g (oSt o) = 0) (hl : g.I.length < 40) :
    makeG g (oSt o) o.k = (⟨putIn (fun x => lessS x.id (oSt o)) g.I ⟨oSt o, o.k, 0, 0, ⟨#[]⟩⟩, g.E⟩, 0) := by
  obtain ⟨h1, _, _, _, h5, _⟩ := mayO_parts hm
  have c1 : ¬ (mayB (oSt o).1 (oSt o).2 = false ∨ o.k < 1 ∨ 3 < o.k) := by
    rintro (q | q | q)
    · rw [show mayB (oSt o).1 (oSt o).2 = true from h5] at q; cases q
    · omega
    · omega
  have c2 : ¬ (getG g (oSt o)).isSome = true := by rw [getG_zero h hs]; simp
  unfold makeG
  rw [if_neg c1, if_neg c2, if_neg (by omega)]

/-- The graph between Make and Tie. -/
def between (g : Gr) (o : Opn) : Gr := (setG (makeG g (oSt o) o.k).1 (oSt o) 0 o.data).1

theorem between_get {g : Gr} (h : g.ok) {o : Opn} (hm : mayO o = true) (hk : o.k ≤ 3) (hs : kindG g (oSt o) = 0) (hl : g.I.length < 40) (k : St) :
    getG (between g o) k = if k = oSt o then some ⟨oSt o, o.k, 0, 0, o.data⟩ else getG g k := by
  have h0 : (makeG g (oSt o) o.k).2 = 0 := by rw [make_zero h hm hk hs hl]
  unfold between
  rw [set_get, make_get h h0]
  by_cases q : k = oSt o
  · rw [if_pos q, if_pos q]; simp [q]
  · rw [if_neg q, if_neg q]
    cases getG g k <;> simp [q]

theorem between_mem {g : Gr} (h : g.ok) {o : Opn} (hm : mayO o = true) (hk : o.k ≤ 3) (hs : kindG g (oSt o) = 0) (hl : g.I.length < 40) {x : Ino} (hx : x ∈ (between g o).I) :
    x = ⟨oSt o, o.k, 0, 0, o.data⟩ ∨ (x ∈ g.I ∧ x.id ≠ oSt o) := by
  unfold between at hx
  obtain ⟨y, hy, hxy⟩ := set_mem hx
  rw [make_zero h hm hk hs hl] at hy
  rcases putIn_mem.1 hy with q | q
  · subst q
    rw [if_pos rfl] at hxy
    exact Or.inl hxy
  · have := kindG_zero h hs y q
    rw [if_neg this] at hxy
    exact Or.inr ⟨by rw [hxy]; exact q, by rw [hxy]; exact this⟩

theorem between_E (g : Gr) (o : Opn) : (between g o).E = g.E := by
  unfold between
  rw [set_ents, make_ents]

theorem between_ok {g : Gr} (h : g.ok) (o : Opn) : (between g o).ok := (h.make _ _).set _ _ _

theorem between_why {g : Gr} (h : g.ok) {o : Opn} (hm : mayO o = true) (hk : o.k ≤ 3) (hw : makesW g o = 0) : whyG (nameB o.name) (between g o) ⟨oAt o, o.name, oSt o⟩ = 0 := by
  obtain ⟨w1, w2, w3, _⟩ := makesW_zero hw
  obtain ⟨hs, hl⟩ := w3 (by omega)
  obtain ⟨_, _, _, h4, _, h6, _⟩ := mayO_parts hm
  have hget := between_get h hm hk hs hl
  have hne : oAt o ≠ oSt o := fun q => by rw [q, hs] at w1; cases w1
  refine why_zero_of (e := ⟨oAt o, o.name, oSt o⟩) (h6 (by omega)) ?_ (by rw [hget, if_pos rfl]) (by rw [between_E]; exact w2) (fun _ => ⟨fun q => h4 (congrArg Prod.fst q), ?_⟩) (by dsimp only; omega)
  · show kindG (between g o) (oAt o) = 1
    unfold kindG at w1 ⊢
    rw [hget, if_neg hne]
    exact w1
  · rw [Bool.eq_false_iff]
    intro q
    rcases leads_end ((between_ok h o).leads.1 q) with r | ⟨e, he, r⟩
    · exact hne r
    · rw [between_E] at he
      obtain ⟨y, hy, hyi, _⟩ := h.dirs e he
      exact kindG_zero h hs y hy (hyi.trans r)

theorem makes_fine {g : Gr} (h : g.fine) {o : Opn} (hm : mayO o = true) (hk : o.k ≤ 3) (hw : makesW g o = 0) : (tie1 (between g o) (oAt o) o.name (oSt o)).fine := by
  obtain ⟨w1, w2, w3, _⟩ := makesW_zero hw
  obtain ⟨hs, hl⟩ := w3 (by omega)
  unfold tie1
  refine (between_ok h.ok o).tieFine (by rw [between_E]; exact h.names) (fun x hx => ?_) ⟨oAt o, o.name, oSt o⟩ (fun x hx h0 hne => ?_) (between_why h.ok hm hk hw)
  · rcases between_mem h.ok hm hk hs hl hx with q | q
    · rw [q]; exact made_bound hm hk
    · exact h.bound x q.1
  · rcases between_mem h.ok hm hk hs hl hx with q | q
    · exact absurd (by rw [q]) hne
    · rw [between_E]; exact h.held x q.1 h0

theorem link_why {g : Gr} (h : g.ok) {o : Opn} (hm : mayO o = true) (hk : o.k = 4) (hw : makesW g o = 0) : whyG (nameB o.name) g ⟨oAt o, o.name, oIno o⟩ = 0 := by
  obtain ⟨w1, w2, _, w4⟩ := makesW_zero hw
  obtain ⟨k0, k1, k6⟩ := w4 hk
  obtain ⟨_, _, _, _, _, h6, _⟩ := mayO_parts hm
  obtain ⟨X, hX⟩ := h.there k0
  have e1 : X.kind ≠ 1 := by unfold kindG at k1; rw [hX] at k1; exact k1
  have e2 : X.links < 6 := by unfold linksG at k6; rw [hX] at k6; exact k6
  exact why_zero_of (e := ⟨oAt o, o.name, oIno o⟩) (h6 (by omega)) w1 hX w2 (fun q => absurd q e1) (by omega)

theorem link_fine {g : Gr} (h : g.fine) {o : Opn} (hm : mayO o = true) (hk : o.k = 4) (hw : makesW g o = 0) : (tie1 g (oAt o) o.name (oIno o)).fine :=
  h.ok.tieFine h.names h.bound ⟨oAt o, o.name, oIno o⟩ (fun x hx h0 _ => h.held x hx h0) (link_why h.ok hm hk hw)

/-! ### Unlink, Rmdir -/

/-- All entries but one. -/
def without (E : List Ent) (d : St) (nm : ByteArray) : List Ent := E.filter fun e => !(decide (e.dir = d) && decide (e.name = nm))

theorem untie_eq {g : Gr} {d : St} {nm : ByteArray} {id : St} (hl : lookE g.E d nm = some id) : untieG g d nm = (⟨g.I, without g.E d nm⟩, id, 0) := by unfold untieG; rw [hl]; rfl

theorem links_without {g : Gr} (h : g.ok) {d : St} {nm : ByteArray} {id : St} (hl : lookE g.E d nm = some id) (k : St) : linksE (without g.E d nm) k = linksE g.E k - if k = id then 1 else 0 := by
  have := untie_links h hl k
  change ((linksE (without g.E d nm) k : Nat) : Int) = _ at this
  by_cases q : k = id
  · rw [if_pos q] at this ⊢; omega
  · rw [if_neg q] at this ⊢; omega

theorem list_without {E : List Ent} {d : St} {nm : ByteArray} {id : St} (h : listE E id = []) : listE (without E d nm) id = [] := by
  unfold listE without at *
  rw [List.filter_eq_nil_iff] at h ⊢
  exact fun e he => h e (List.mem_filter.1 he).1

theorem look_pos {g : Gr} (h : g.ok) {d : St} {nm : ByteArray} {id : St} (hl : lookE g.E d nm = some id) : 1 ≤ linksE g.E id := by
  unfold linksE
  exact List.length_pos_of_mem (List.mem_filter.2 ⟨(look_iff h).1 hl, by simp⟩)

theorem gone_eq {g : Gr} (h : g.ok) {d : St} {nm : ByteArray} {id : St} (hl : lookE g.E d nm = some id) (he : listE g.E id = []) :
    goneG g d nm = ⟨if linksE g.E id = 1 then g.I.filter (fun x => !decide (x.id = id)) else g.I, without g.E d nm⟩ := by
  have hp := look_pos h hl
  have hw := links_without h hl id
  rw [if_pos rfl] at hw
  unfold goneG
  rw [untie_eq hl]
  dsimp only
  by_cases q : linksE g.E id = 1
  · have h0 : linksE (without g.E d nm) id = 0 := by omega
    rw [if_pos h0, if_pos q]
    have hok : (⟨g.I, without g.E d nm⟩ : Gr).ok := by have := h.untie d nm; rwa [untie_eq hl] at this
    obtain ⟨x, hx, hxi⟩ := h.inos _ ((look_iff h).1 hl)
    have hg : getG ⟨g.I, without g.E d nm⟩ id = some { x with links := (linksE (without g.E d nm) id : Int) } := (get_iff hok).2 ⟨x, hx, hxi, rfl⟩
    have hr : ¬ id = (0, 0) := h.noRoot _ ((look_iff h).1 hl)
    have hc : ¬ (0 < ((linksE (without g.E d nm) id : Nat) : Int) ∨ 0 < (listE (without g.E d nm) id).length) := by
      rw [list_without he, h0]
      simp
    unfold dropG
    rw [hg]
    dsimp only
    rw [if_neg hr, if_neg hc]
  · rw [if_neg q, if_neg (by omega)]

theorem Gr.fine.gone {g : Gr} (h : g.fine) {d : St} {nm : ByteArray} {id : St} (hl : lookE g.E d nm = some id) (he : listE g.E id = []) : (goneG g d nm).fine := by
  have hok : (goneG g d nm).ok := by
    unfold goneG
    split
    · exact (h.ok.untie d nm).drop _
    · exact h.ok.untie d nm
  have hp := look_pos h.ok hl
  rw [gone_eq h.ok hl he] at hok ⊢
  have hsub : ∀ x, x ∈ (if linksE g.E id = 1 then g.I.filter (fun x => !decide (x.id = id)) else g.I) → x ∈ g.I ∧ (linksE g.E id = 1 → x.id ≠ id) := by
    intro x hx
    by_cases q : linksE g.E id = 1
    · rw [if_pos q] at hx
      obtain ⟨h1, h2⟩ := List.mem_filter.1 hx
      exact ⟨h1, fun _ => by simpa using h2⟩
    · rw [if_neg q] at hx
      exact ⟨hx, fun r => absurd r q⟩
  refine ⟨hok, fun e he' => h.names e (List.mem_filter.1 he').1, fun x hx h0 => ?_, fun x hx => h.bound x (hsub x hx).1⟩
  obtain ⟨hx1, hx2⟩ := hsub x hx
  show 1 ≤ linksE (without g.E d nm) x.id
  rw [links_without h.ok hl]
  by_cases q : x.id = id
  · rw [if_pos q, q]
    have : linksE g.E id ≠ 1 := fun r => hx2 r q
    omega
  · rw [if_neg q]
    exact h.held x hx1 h0

end Go.Proofs.YthcmgaibbpacfaaGreatDoor.GraphMath

/-
  Plain mathematics of layer 11: Rename, and what is done to data; the invariant. It needs no program.
-/
namespace Go.Proofs.YthcmgaibbpacfaaGreatDoor.GraphMath
open StampMath OpMath ExtentMath

theorem renamesW_zero {g : Gr} {o : Opn} (h : renamesW g o = 0) : lookE g.E (oAt o) o.name = some (oIno o) ∧ kindG g (oTo o) = 1 ∧
    (targetG g o ≠ some (oIno o) → (kindG g (oIno o) = 1 → underG g (oTo o) (oIno o) = false) ∧ ∀ t, targetG g o = some t → (kindG g t = 1 → kindG g (oIno o) = 1 ∧ listE g.E t = []) ∧ (kindG g (oIno o) = 1 → kindG g t = 1)) := by
  unfold renamesW at h
  by_cases c1 : lookE g.E (oAt o) o.name ≠ some (oIno o) ∨ kindG g (oTo o) = 0
  · rw [if_pos c1] at h; cases h
  rw [if_neg c1] at h
  by_cases c2 : kindG g (oTo o) ≠ 1
  · rw [if_pos c2] at h; cases h
  rw [if_neg c2] at h
  refine ⟨Classical.byContradiction fun q => c1 (Or.inl q), by omega, fun hne => ?_⟩
  rw [if_neg hne] at h
  by_cases c4 : kindG g (oIno o) = 1 ∧ underG g (oTo o) (oIno o) = true
  · rw [if_pos c4] at h; cases h
  rw [if_neg c4] at h
  by_cases c5 : ((targetG g o).isSome = true ∧ kindG g ((targetG g o).getD (0, 0)) = 1) ∧ kindG g (oIno o) ≠ 1
  · rw [if_pos c5] at h; cases h
  rw [if_neg c5] at h
  by_cases c6 : (targetG g o).isSome = true ∧ kindG g (oIno o) = 1 ∧ ¬ ((targetG g o).isSome = true ∧ kindG g ((targetG g o).getD (0, 0)) = 1)
  · rw [if_pos c6] at h; cases h
  rw [if_neg c6] at h
  by_cases c7 : ((targetG g o).isSome = true ∧ kindG g ((targetG g o).getD (0, 0)) = 1) ∧ 0 < (listE g.E ((targetG g o).getD (0, 0))).length
  · rw [if_pos c7] at h; cases h
  refine ⟨fun q => ?_, fun t ht => ?_⟩
  · rw [Bool.eq_false_iff]
    exact fun r => c4 ⟨q, r⟩
  · rw [ht] at c5 c6 c7
    refine ⟨fun q => ⟨?_, ?_⟩, fun q => ?_⟩
    · exact Classical.byContradiction fun r => c5 ⟨⟨rfl, q⟩, r⟩
    · have : ¬ 0 < (listE g.E t).length := fun r => c7 ⟨⟨rfl, q⟩, r⟩
      exact List.length_eq_zero_iff.1 (by omega)
    · exact Classical.byContradiction fun r => c6 ⟨rfl, q, fun s => r s.2⟩

theorem leads_mono {g g' : Gr} (hE : ∀ e ∈ g'.E, e ∈ g.E) (hD : ∀ d, g'.isDir d → g.isDir d) {a b : St} (h : Leads g' a b) : Leads g a b := by
  induction h with
  | here => exact Leads.here _
  | up e d he hd _ ih => exact Leads.up e d (hE e he) (hD _ hd) ih

/-- The graph whose target is gone. -/
def cleared (g : Gr) (o : Opn) : Gr := if (targetG g o).isSome then goneG g (oTo o) o.new else g

theorem mem_without {E : List Ent} {d : St} {nm : ByteArray} {e : Ent} : e ∈ without E d nm ↔ e ∈ E ∧ ¬ (e.dir = d ∧ e.name = nm) := by
  unfold without
  rw [List.mem_filter]
  refine and_congr_right fun _ => ?_
  rw [Bool.not_eq_true', Bool.and_eq_false_iff, decide_eq_false_iff_not, decide_eq_false_iff_not]
  by_cases a : e.dir = d
  · simp [a]
  · simp [a]

theorem look_without (E : List Ent) (d : St) (nm : ByteArray) : lookE (without E d nm) d nm = none := by
  unfold lookE
  rw [List.find?_eq_none.2]
  · rfl
  · intro e he
    have := (mem_without.1 he).2
    simpa using this

/-- A directory has no entry in itself. -/
theorem Gr.ok.not_self {g : Gr} (h : g.ok) {e : Ent} (he : e ∈ g.E) : e.dir ≠ e.ino := fun q => by
  obtain ⟨f, hf⟩ := h.rank
  have hd := h.dirs e he
  have := hf e he (by rw [← q]; exact hd)
  rw [q] at this
  omega

/-- What is so of the graph whose target is gone. -/
structure Cleared (g : Gr) (o : Opn) (c : Gr) : Prop where
  fine : c.fine
  ents : c.E = without g.E (oTo o) o.new
  sub : ∀ x ∈ c.I, x ∈ g.I
  stays : ∀ x ∈ g.I, targetG g o ≠ some x.id → x ∈ c.I

theorem cleared_is {g : Gr} (h : g.fine) {o : Opn} (ht : ∀ t, targetG g o = some t → listE g.E t = []) : Cleared g o (cleared g o) := by
  unfold cleared
  cases hq : targetG g o with
  | none =>
    rw [if_neg (by simp)]
    refine ⟨h, ?_, fun x hx => hx, fun x hx _ => hx⟩
    unfold without
    rw [filter_all (look_none hq)]
  | some t =>
    rw [if_pos (show (some t).isSome = true from rfl)]
    have hl := ht t hq
    refine ⟨h.gone hq hl, by rw [gone_eq h.ok hq hl], fun x hx => ?_, fun x hx hne => ?_⟩
    · rw [gone_eq h.ok hq hl] at hx
      dsimp only at hx
      split at hx
      · exact (List.mem_filter.1 hx).1
      · exact hx
    · rw [gone_eq h.ok hq hl]
      dsimp only
      have hxt : x.id ≠ t := fun q => hne (by rw [q]; exact hq)
      split
      · exact List.mem_filter.2 ⟨hx, by simpa using hxt⟩
      · exact hx

/-- The graph between Untie and Tie of a Rename. -/
def loosed (g : Gr) (o : Opn) : Gr := (untieG (cleared g o) (oAt o) o.name).1

structure Loosed (g : Gr) (o : Opn) (c : Gr) : Prop where
  ok : c.ok
  names : ∀ e ∈ c.E, nameB e.name = true
  bound : ∀ x ∈ c.I, boundOk1 x
  held : ∀ x ∈ c.I, x.id ≠ (0, 0) → x.id ≠ oIno o → 1 ≤ linksE c.E x.id
  why : whyG (nameB o.new) c ⟨oTo o, o.new, oIno o⟩ = 0
  ents : c.E = without (without g.E (oTo o) o.new) (oAt o) o.name
  inos : c.I = (cleared g o).I
  other : targetG g o ≠ some (oTo o)
  apart : ¬ (oAt o = oTo o ∧ o.name = o.new)

theorem rename_lists {g : Gr} (h : g.ok) {o : Opn} (hw : renamesW g o = 0) (hne : targetG g o ≠ some (oIno o)) : ∀ t, targetG g o = some t → listE g.E t = [] := by
  intro t ht
  obtain ⟨_, _, w3⟩ := renamesW_zero hw
  by_cases q : kindG g t = 1
  · exact (((w3 hne).2 t ht).1 q).2
  · unfold listE
    rw [List.filter_eq_nil_iff]
    intro e he
    have hd := h.kindDir (h.dirs e he)
    simp only [decide_eq_true_eq]
    exact fun r => q (by rw [← r]; exact hd)

theorem loosed_is {g : Gr} (h : g.fine) {o : Opn} (hm : mayO o = true) (hk : o.k = 7) (hw : renamesW g o = 0) (hne : targetG g o ≠ some (oIno o)) : Loosed g o (loosed g o) := by
  obtain ⟨w1, w2, w3⟩ := renamesW_zero hw
  obtain ⟨w4, w5⟩ := w3 hne
  have hc := cleared_is h (rename_lists h.ok hw hne)
  have hmem : (⟨oAt o, o.name, oIno o⟩ : Ent) ∈ g.E := (look_iff h.ok).1 w1
  have hpl : ¬ (oAt o = oTo o ∧ o.name = o.new) := fun q => hne (by unfold targetG; rw [← q.1, ← q.2]; exact w1)
  have hlook : lookE (cleared g o).E (oAt o) o.name = some (oIno o) := by
    rw [look_iff hc.fine.ok, hc.ents, mem_without]
    exact ⟨hmem, hpl⟩
  have hto : targetG g o ≠ some (oTo o) := fun q => by
    have := h.ok.not_self ((look_iff h.ok).1 q)
    exact this rfl
  obtain ⟨T, hT, hTi, hTk⟩ := kindG_dir w2
  obtain ⟨X, hX, hXi'⟩ := h.ok.inos _ hmem
  have hXi : X.id = oIno o := hXi'
  have hTc := hc.stays T hT (by rw [hTi]; exact hto)
  have hXc := hc.stays X hX (by rw [hXi]; exact hne)
  have e2 : loosed g o = ⟨(cleared g o).I, without (cleared g o).E (oAt o) o.name⟩ := by unfold loosed; rw [untie_eq hlook]
  have hok : (loosed g o).ok := hc.fine.ok.untie _ _
  have hlk := links_without hc.fine.ok hlook (oIno o)
  rw [if_pos rfl] at hlk
  have hxk : kindG g (oIno o) = X.kind := by rw [← hXi, h.ok.kindG hX]
  refine ⟨hok, ?_, ?_, ?_, ?_, ?_, by rw [e2], hto, hpl⟩
  · rw [e2]; exact fun e he => hc.fine.names e (mem_without.1 he).1
  · rw [e2]; exact hc.fine.bound
  · rw [e2]
    intro x hx h0 hx1
    show 1 ≤ linksE (without (cleared g o).E (oAt o) o.name) x.id
    rw [links_without hc.fine.ok hlook, if_neg hx1]
    exact hc.fine.held x hx h0
  · refine why_zero_of (X := { X with links := (linksE (loosed g o).E (oIno o) : Int) }) (e := ⟨oTo o, o.new, oIno o⟩) ((mayO_parts hm).2.2.2.2.2.2.1 hk) ?_ ((get_iff hok).2 ⟨X, by rw [e2]; exact hXc, hXi, rfl⟩) ?_ (fun q => ⟨h.ok.noRoot ⟨oAt o, o.name, oIno o⟩ hmem, ?_⟩) ?_
    · show kindG (loosed g o) (oTo o) = 1
      rw [← hTi, hok.kindG (by rw [e2]; exact hTc), hTk]
    · show lookE (loosed g o).E (oTo o) o.new = none
      rw [e2]
      dsimp only
      rw [hc.ents]
      unfold lookE
      rw [List.find?_eq_none.2]
      · rfl
      · intro e he
        have := (mem_without.1 (mem_without.1 he).1).2
        simpa using this
    · show underG (loosed g o) (oTo o) (oIno o) = false
      rw [Bool.eq_false_iff]
      intro r
      have hlg := hok.leads.1 r
      have hlg2 : Leads g (oTo o) (oIno o) := leads_mono (fun e he => by
        rw [e2] at he
        have := (mem_without.1 he).1
        rw [hc.ents] at this
        exact (mem_without.1 this).1) (fun d hd => by
        obtain ⟨y, hy, hy1, hy2⟩ := hd
        rw [e2] at hy
        exact ⟨y, hc.sub y hy, hy1, hy2⟩) hlg
      have := w4 (by rw [hxk]; exact q)
      rw [h.ok.leads.2 hlg2] at this
      cases this
    · dsimp only
      have h6 := hc.fine.ok.six (oIno o)
      have e3 : linksE (loosed g o).E (oIno o) = linksE (cleared g o).E (oIno o) - 1 := by rw [e2]; exact hlk
      have h1 : X.kind = 1 → linksE (cleared g o).E (oIno o) ≤ 1 := fun q => hc.fine.ok.one _ ⟨X, hXc, hXi, q⟩
      rintro (⟨q, r⟩ | q)
      · have := h1 q; omega
      · have := look_pos hc.fine.ok hlook; omega
  · rw [e2]
    dsimp only
    rw [hc.ents]

theorem rename_fine {g : Gr} (h : g.fine) {o : Opn} (hm : mayO o = true) (hk : o.k = 7) (hw : renamesW g o = 0) (hne : targetG g o ≠ some (oIno o)) : (tie1 (loosed g o) (oTo o) o.new (oIno o)).fine := by
  have hl := loosed_is h hm hk hw hne
  exact hl.ok.tieFine hl.names hl.bound ⟨oTo o, o.new, oIno o⟩ hl.held hl.why

/-! ### Write, Trunc, Setattr -/

theorem bytes_size (l : List UInt8) : (bytes l).size = l.length := rfl

theorem data_len (d : ByteArray) : d.data.toList.length = d.size := by simp

/-- What is so of an operation that can be done, from Unlink on, but Rename. -/
theorem whyA_rest {g : Gr} {o : Opn} (h : whyA g o = 0) (h4 : 4 < o.k) (h7 : o.k ≠ 7) : (o.k ≤ 6 → lookE g.E (oAt o) o.name = some (oIno o)) ∧ kindG g (oIno o) ≠ 0 ∧ (o.k = 5 ∨ o.k = 8 ∨ o.k = 9 → kindG g (oIno o) ≠ 1) ∧ (o.k = 6 → kindG g (oIno o) = 1 ∧ listE g.E (oIno o) = []) ∧ (o.k = 8 ∨ o.k = 9 → kindG g (oIno o) ≠ 3) := by
  unfold whyA at h
  by_cases c0 : mayO o = false
  · rw [if_pos c0] at h; cases h
  rw [if_neg c0, if_neg (by omega), if_neg h7] at h
  by_cases c1 : (o.k ≤ 6 ∧ lookE g.E (oAt o) o.name ≠ some (oIno o)) ∨ kindG g (oIno o) = 0
  · rw [if_pos c1] at h; cases h
  rw [if_neg c1] at h
  by_cases c2 : (o.k = 5 ∨ o.k = 8 ∨ o.k = 9) ∧ kindG g (oIno o) = 1
  · rw [if_pos c2] at h; cases h
  rw [if_neg c2] at h
  by_cases c3 : o.k = 6 ∧ kindG g (oIno o) ≠ 1
  · rw [if_pos c3] at h; cases h
  rw [if_neg c3] at h
  by_cases c4 : o.k = 6 ∧ 0 < (listE g.E (oIno o)).length
  · rw [if_pos c4] at h; cases h
  rw [if_neg c4] at h
  by_cases c5 : (o.k = 8 ∨ o.k = 9) ∧ kindG g (oIno o) = 3
  · rw [if_pos c5] at h; cases h
  refine ⟨fun q => Classical.byContradiction fun r => c1 (Or.inl ⟨q, r⟩), fun q => c1 (Or.inr q), fun q r => c2 ⟨q, r⟩, fun q => ⟨Classical.byContradiction fun r => c3 ⟨q, r⟩, List.length_eq_zero_iff.1 (Nat.eq_zero_of_not_pos fun r => c4 ⟨q, r⟩)⟩, fun q r => c5 ⟨q, r⟩⟩

theorem whyA_may {g : Gr} {o : Opn} (h : whyA g o = 0) : mayO o = true := by
  unfold whyA at h
  cases hq : mayO o with
  | true => rfl
  | false => rw [if_pos hq] at h; cases h

theorem whyA_makes {g : Gr} {o : Opn} (h : whyA g o = 0) (h4 : o.k ≤ 4) : makesW g o = 0 := by
  have hm := whyA_may h
  unfold whyA at h
  rwa [if_neg (by rw [hm]; simp), if_pos h4] at h

theorem whyA_renames {g : Gr} {o : Opn} (h : whyA g o = 0) (h7 : o.k = 7) : renamesW g o = 0 := by
  have hm := whyA_may h
  unfold whyA at h
  rwa [if_neg (by rw [hm]; simp), if_neg (by omega), if_pos h7] at h

/-- A file or a symbolic link has nothing below it. -/
theorem Gr.ok.list_none {g : Gr} (h : g.ok) {id : St} (hk : GraphMath.kindG g id ≠ 1) : listE g.E id = [] := by
  unfold listE
  rw [List.filter_eq_nil_iff]
  intro e he
  have hd := h.kindDir (h.dirs e he)
  simp only [decide_eq_true_eq]
  exact fun r => hk (by rw [← r]; exact hd)

theorem Gr.fine.made {g : Gr} (h : g.fine) {o : Opn} (hw : whyA g o = 0) : (madeA g o).fine := by
  have hm := whyA_may hw
  obtain ⟨p1, p2, p3, _, _, _, _, p8⟩ := mayO_parts hm
  unfold madeA
  by_cases k3 : o.k ≤ 3
  · rw [if_pos k3]
    exact makes_fine h hm k3 (whyA_makes hw (by omega))
  rw [if_neg k3]
  by_cases k4 : o.k = 4
  · rw [if_pos k4]
    exact link_fine h hm k4 (whyA_makes hw (by omega))
  rw [if_neg k4]
  by_cases k6 : o.k ≤ 6
  · rw [if_pos k6]
    obtain ⟨r1, r2, r3, r4, _⟩ := whyA_rest hw (by omega) (by omega)
    refine h.gone (r1 k6) ?_
    by_cases q : o.k = 6
    · exact (r4 q).2
    · exact h.ok.list_none (r3 (Or.inl (by omega)))
  rw [if_neg k6]
  by_cases k7 : o.k = 7
  · rw [if_pos k7]
    by_cases ht : targetG g o = some (oIno o)
    · rw [if_pos ht]; exact h
    · rw [if_neg ht]
      exact rename_fine h hm k7 (whyA_renames hw k7) ht
  rw [if_neg k7]
  obtain ⟨_, r2, r3, _, r5⟩ := whyA_rest hw (by omega) k7
  have hino : ∀ x ∈ g.I, x.id = oIno o → inoG g (oIno o) = { x with links := (linksE g.E x.id : Int) } ∧ kindG g (oIno o) = x.kind := fun x hx e => by
    unfold inoG
    rw [← e, h.ok.get hx, h.ok.kindG hx]
    exact ⟨rfl, rfl⟩
  unfold dataB at p8
  by_cases k8 : o.k = 8
  · rw [if_pos k8]
    rw [if_neg (by omega), if_pos k8] at p8
    simp only [Bool.and_eq_true, decide_eq_true_iff] at p8
    refine h.set _ _ _ fun x hx e => ?_
    obtain ⟨e1, e2⟩ := hino x hx e
    have hb := h.bound x hx
    have hk := h.ok.kinds x hx
    have := r3 (Or.inr (Or.inl k8))
    have := r5 (Or.inl k8)
    have hk2 : x.kind = 2 := by omega
    unfold boundOk1 at hb ⊢
    rw [e1]
    dsimp only
    refine ⟨hb.1, hb.2.1, fun q => by omega, fun _ => ?_, fun q => by omega⟩
    rw [bytes_size, wL_len, data_len, data_len]
    have := hb.2.2.2.1 hk2
    omega
  rw [if_neg k8]
  by_cases k9 : o.k = 9
  · rw [if_pos k9]
    rw [if_neg (by omega), if_neg k8, if_pos k9] at p8
    simp only [Bool.and_eq_true, decide_eq_true_iff] at p8
    refine h.set _ _ _ fun x hx e => ?_
    obtain ⟨e1, e2⟩ := hino x hx e
    have hb := h.bound x hx
    have hk := h.ok.kinds x hx
    have := r3 (Or.inr (Or.inr k9))
    have := r5 (Or.inr k9)
    have hk2 : x.kind = 2 := by omega
    unfold boundOk1 at hb ⊢
    rw [e1]
    dsimp only
    refine ⟨hb.1, hb.2.1, fun q => by omega, fun _ => ?_, fun q => by omega⟩
    rw [bytes_size]
    unfold tL
    rw [bld_len]
    omega
  · rw [if_neg k9]
    rw [if_neg (by omega), if_neg k8, if_neg k9, if_pos (by omega)] at p8
    simp only [Bool.and_eq_true, decide_eq_true_iff] at p8
    refine h.set _ _ _ fun x hx e => ?_
    obtain ⟨e1, e2⟩ := hino x hx e
    have hb := h.bound x hx
    unfold boundOk1 at hb ⊢
    rw [e1]
    dsimp only
    exact ⟨p8.1, p8.2, hb.2.2⟩

/-- The invariant. -/
theorem Gr.fine.does {g : Gr} (h : g.fine) (o : Opn) : (doA g o).1.fine := by
  unfold doA
  by_cases q : whyA g o = 0
  · rw [if_pos q]; exact h.made q
  · rw [if_neg q]; exact h

end Go.Proofs.YthcmgaibbpacfaaGreatDoor.GraphMath

/-
  Plain mathematics of layer 11's statements: what is made, moved, set, gone. It needs no program.
-/
namespace Go.Proofs.YthcmgaibbpacfaaGreatDoor.GraphMath
open StampMath OpMath ExtentMath

/-! ### graphs that tell the same are the same -/

theorem sorted_same {α : Type} {r : α → α → Bool} (irr : ∀ x, r x x = false) (tr : ∀ x y z, r x y = true → r y z = true → r x z = true) :
    ∀ {l m : List α}, l.Pairwise (fun a b => r a b = true) → m.Pairwise (fun a b => r a b = true) → (∀ x, x ∈ l ↔ x ∈ m) → l = m
  | [], [], _, _, _ => rfl
  | [], b :: m, _, _, h => absurd ((h b).2 (List.mem_cons_self ..)) (by simp)
  | a :: l, [], _, _, h => absurd ((h a).1 (List.mem_cons_self ..)) (by simp)
  | a :: l, b :: m, hl, hm, h => by
    obtain ⟨hl1, hl2⟩ := List.pairwise_cons.1 hl
    obtain ⟨hm1, hm2⟩ := List.pairwise_cons.1 hm
    have hab : a = b := by
      rcases List.mem_cons.1 ((h a).1 (List.mem_cons_self ..)) with q | q
      · exact q
      rcases List.mem_cons.1 ((h b).2 (List.mem_cons_self ..)) with q2 | q2
      · exact q2.symm
      have := tr _ _ _ (hm1 a q) (hl1 b q2)
      rw [irr] at this
      cases this
    subst hab
    have ha : a ∉ l := fun q => by have := hl1 a q; rw [irr] at this; cases this
    have hb : a ∉ m := fun q => by have := hm1 a q; rw [irr] at this; cases this
    rw [sorted_same irr tr hl2 hm2 fun x => ⟨fun q => ?_, fun q => ?_⟩]
    · rcases List.mem_cons.1 ((h x).1 (List.mem_cons_of_mem _ q)) with e | e
      · subst e; exact absurd q ha
      · exact e
    · rcases List.mem_cons.1 ((h x).2 (List.mem_cons_of_mem _ q)) with e | e
      · subst e; exact absurd q hb
      · exact e

theorem aheadE_self (e : Ent) : aheadE e e = false := by
  rw [Bool.eq_false_iff]
  intro h
  rcases (aheadE_iff _ _).1 h with q | ⟨_, q⟩
  · rw [lessS_irrefl] at q; cases q
  · exact bytes_irrefl _ q

theorem Gr.ok.same {g g' : Gr} (h : g.ok) (h' : g'.ok) (hI : ∀ k, getG g k = getG g' k) (hE : ∀ d nm, lookE g.E d nm = lookE g'.E d nm) : g = g' := by
  have one : ∀ {a b : Gr}, a.ok → b.ok → (∀ k, getG a k = getG b k) → ∀ x ∈ a.I, x ∈ b.I := fun {a b} ha hb hg x hx => by
    have h1 := ha.get hx
    rw [hg] at h1
    obtain ⟨y, hy, h2, h3⟩ := (get_iff hb).1 h1
    have l1 := ha.links0 x hx
    have l2 := hb.links0 y hy
    have : x = y := by
      obtain ⟨i, k, l, m, d⟩ := x
      obtain ⟨i', k', l', m', d'⟩ := y
      simp only [Ino.mk.injEq] at h3 l1 l2 ⊢
      exact ⟨h3.1, h3.2.1, by rw [l1, l2], h3.2.2.2.1, h3.2.2.2.2⟩
    rw [this]
    exact hy
  have e1 : g.I = g'.I := sorted_same (r := fun a b => lessS a.id b.id) (fun x => lessS_irrefl _) (fun _ _ _ => lessS_trans) h.sortI h'.sortI fun x => ⟨one h h' hI x, one h' h (fun k => (hI k).symm) x⟩
  have e2 : g.E = g'.E := sorted_same (r := aheadE) aheadE_self (fun _ _ _ => aheadE_trans) h.sortE h'.sortE fun e => by
    have a := look_iff (d := e.dir) (nm := e.name) (id := e.ino) h
    have b := look_iff (d := e.dir) (nm := e.name) (id := e.ino) h'
    rw [← hE] at b
    exact a.symm.trans b
  cases g
  cases g'
  simp only at e1 e2
  rw [e1, e2]

theorem tie_lookE {g : Gr} (h : g.ok) {b : Bool} {e : Ent} (h1 : (tieG b g e).2 = 0) (d : St) (nm : ByteArray) : lookE (tieG b g e).1.E d nm = if d = e.dir ∧ nm = e.name then some e.ino else lookE g.E d nm := by
  have := tie_look h h1 (d, nm)
  rw [look_pairsE, look_pairsE] at this
  rw [this]
  by_cases q : d = e.dir ∧ nm = e.name
  · rw [if_pos q, if_pos (by rw [q.1, q.2])]
  · rw [if_neg q, if_neg fun r => q ⟨congrArg Prod.fst r, congrArg Prod.snd r⟩]

/-! ### Mkdir, Create, Symlink -/

theorem makes_all {g : Gr} (h : g.fine) {o : Opn} (hw : whyA g o = 0) (hk : o.k ≤ 3) :
    lookE (madeA g o).E (oAt o) o.name = some (oSt o) ∧ getG (madeA g o) (oSt o) = some ⟨oSt o, o.k, 1, 0, o.data⟩ ∧ whyA (madeA g o) o = 4 ∧ (dropG (untieG (madeA g o) (oAt o) o.name).1 (oSt o)).1 = g := by
  have hm := whyA_may hw
  have hmk := whyA_makes hw (by omega)
  obtain ⟨w1, w2, w3, _⟩ := makesW_zero hmk
  obtain ⟨hs, hl⟩ := w3 (by omega)
  obtain ⟨_, _, _, h4, _⟩ := mayO_parts hm
  have e : madeA g o = (tieG (nameB o.name) (between g o) ⟨oAt o, o.name, oSt o⟩).1 := by unfold madeA; rw [if_pos hk]; rfl
  have hbo := between_ok h.ok o
  have hz : (tieG (nameB o.name) (between g o) ⟨oAt o, o.name, oSt o⟩).2 = 0 := (tie_ok_iff _ _ _).2 (between_why h.ok hm hk hmk)
  have hne : oAt o ≠ oSt o := fun q => by rw [q, hs] at w1; cases w1
  have g1 : lookE (madeA g o).E (oAt o) o.name = some (oSt o) := by rw [e, tie_lookE hbo hz, if_pos ⟨rfl, rfl⟩]
  have g2 : getG (madeA g o) (oSt o) = some ⟨oSt o, o.k, 1, 0, o.data⟩ := by
    rw [e, tie_get hz, between_get h.ok hm hk hs hl, if_pos rfl, Option.map_some, if_pos rfl]
    rfl
  refine ⟨g1, g2, ?_, ?_⟩
  · have k1 : kindG (madeA g o) (oAt o) = 1 := by
      unfold kindG at w1 ⊢
      rw [e, tie_get hz, between_get h.ok hm hk hs hl, if_neg hne]
      cases hq : getG g (oAt o) with
      | none => rw [hq] at w1; exact absurd w1 (by decide)
      | some x =>
        rw [hq] at w1
        rw [Option.map_some, if_neg (show ¬ oAt o = oSt o from hne)]
        exact w1
    unfold whyA
    rw [if_neg (by rw [hm]; simp), if_pos (by omega)]
    unfold makesW
    rw [if_neg (by rw [k1]; omega), if_neg (by omega), if_neg (by omega), if_pos (Or.inl (by rw [g1]; rfl))]
  · have u : (untieG (madeA g o) (oAt o) o.name).1 = between g o := by
      rw [e]
      have := tie_untie hz
      rw [show untieG (tieG (nameB o.name) (between g o) ⟨oAt o, o.name, oSt o⟩).1 (oAt o) o.name = (between g o, oSt o, 0) from this]
    rw [u]
    have hr : ¬ oSt o = (0, 0) := fun q => h4 (congrArg Prod.fst q)
    have hlst : listE (between g o).E (oSt o) = [] := by
      rw [between_E]
      unfold listE
      rw [List.filter_eq_nil_iff]
      intro x hx
      obtain ⟨y, hy, hyi, _⟩ := h.ok.dirs x hx
      simp only [decide_eq_true_eq]
      exact fun r => kindG_zero h.ok hs y hy (hyi.trans r)
    have hd : (dropG (between g o) (oSt o)).2 = 0 := by
      unfold dropG
      rw [between_get h.ok hm hk hs hl, if_pos rfl]
      dsimp only
      rw [if_neg hr, if_neg (by rw [hlst]; simp)]
    refine (hbo.drop _).same h.ok (fun k => ?_) fun d nm => by rw [drop_ents, between_E]
    rw [drop_get hbo hd, between_get h.ok hm hk hs hl]
    by_cases q : k = oSt o
    · rw [if_pos q, q, getG_zero h.ok hs]
    · rw [if_neg q, if_neg q]

/-! ### Rename -/

theorem without_len {g : Gr} (h : g.ok) {d : St} {nm : ByteArray} {id : St} (hl : lookE g.E d nm = some id) : (without g.E d nm).length + 1 = g.E.length := by
  have h3 : ∀ l : List Ent, l.length = (l.filter (atB d nm)).length + (without l d nm).length := by
    intro l
    unfold without
    induction l with
    | nil => rfl
    | cons e l ih =>
      by_cases q : atB d nm e = true
      · have q' : (!(decide (e.dir = d) && decide (e.name = nm))) = false := by unfold atB at q; rw [q]; rfl
        rw [List.filter_cons_of_pos q, List.filter_cons_of_neg (by rw [q']; simp)]
        simp only [List.length_cons]
        omega
      · have q' : (!(decide (e.dir = d) && decide (e.name = nm))) = true := by unfold atB at q; rw [Bool.not_eq_true] at q; rw [q]; rfl
        rw [List.filter_cons_of_neg q, List.filter_cons_of_pos (p := fun e : Ent => !(decide (e.dir = d) && decide (e.name = nm))) q']
        simp only [List.length_cons]
        omega
  have h1 : g.E.filter (atB d nm) = [⟨d, nm, id⟩] := sorted_same (r := aheadE) aheadE_self (fun _ _ _ => aheadE_trans) (h.sortE.filter _) (List.pairwise_singleton _ _) fun e => by
    rw [List.mem_filter, List.mem_singleton, atB_iff]
    constructor
    · rintro ⟨q1, q2, q3⟩
      have := (look_iff h (d := e.dir) (nm := e.name) (id := e.ino)).2 q1
      rw [q2, q3, hl] at this
      have e3 := Option.some.inj this
      obtain ⟨a, b, c⟩ := e
      simp only at q2 q3 e3
      rw [q2, q3, ← e3]
    · intro q
      subst q
      exact ⟨(look_iff h).1 hl, rfl, rfl⟩
  have := h3 g.E
  rw [h1] at this
  simp only [List.length_singleton] at this
  omega

theorem tie_len {g : Gr} {b : Bool} {e : Ent} (h : (tieG b g e).2 = 0) : (tieG b g e).1.E.length = g.E.length + 1 := by
  have := (tie_ok_iff b g e).1 h
  unfold tieG
  rw [if_pos this]
  exact putIn_len _ _ _

theorem moves_all {g : Gr} (h : g.fine) {o : Opn} (hw : whyA g o = 0) (hk : o.k = 7) :
    getG (madeA g o) (oIno o) = getG g (oIno o) ∧ (getG g (oIno o)).isSome = true ∧ lookE (madeA g o).E (oTo o) o.new = some (oIno o) ∧
    (targetG g o = some (oIno o) → (lookE (madeA g o).E (oAt o) o.name).isSome = true ∧ (madeA g o).E.length = g.E.length) ∧
    (targetG g o ≠ some (oIno o) → lookE (madeA g o).E (oAt o) o.name = none ∧ ((targetG g o).isSome = true → (madeA g o).E.length + 1 = g.E.length) ∧ (targetG g o = none → (madeA g o).E.length = g.E.length)) := by
  have hm := whyA_may hw
  have hr := whyA_renames hw hk
  obtain ⟨w1, w2, w3⟩ := renamesW_zero hr
  have hmem : (⟨oAt o, o.name, oIno o⟩ : Ent) ∈ g.E := (look_iff h.ok).1 w1
  obtain ⟨X, hX, hXi'⟩ := h.ok.inos _ hmem
  have hXi : X.id = oIno o := hXi'
  have hget : getG g (oIno o) = some { X with links := (linksE g.E (oIno o) : Int) } := (get_iff h.ok).2 ⟨X, hX, hXi, rfl⟩
  have hsome : (getG g (oIno o)).isSome = true := by rw [hget]; rfl
  by_cases ht : targetG g o = some (oIno o)
  · have e : madeA g o = g := by unfold madeA; rw [if_neg (by omega), if_neg (by omega), if_neg (by omega), if_pos hk, if_pos ht]
    rw [e]
    exact ⟨rfl, hsome, ht, fun _ => ⟨by rw [w1]; rfl, rfl⟩, fun q => absurd ht q⟩
  · have e : madeA g o = (tieG (nameB o.new) (loosed g o) ⟨oTo o, o.new, oIno o⟩).1 := by unfold madeA; rw [if_neg (by omega), if_neg (by omega), if_neg (by omega), if_pos hk, if_neg ht]; rfl
    have hL := loosed_is h hm hk hr ht
    have hC := cleared_is h (rename_lists h.ok hr ht)
    have hz : (tieG (nameB o.new) (loosed g o) ⟨oTo o, o.new, oIno o⟩).2 = 0 := (tie_ok_iff _ _ _).2 hL.why
    have hlook : lookE (cleared g o).E (oAt o) o.name = some (oIno o) := by
      rw [look_iff hC.fine.ok, hC.ents, mem_without]
      exact ⟨hmem, hL.apart⟩
    have hXc := hC.stays X hX (by rw [hXi]; exact ht)
    have hlinks : linksE (cleared g o).E (oIno o) = linksE g.E (oIno o) := by
      rw [hC.ents]
      cases hq : targetG g o with
      | none =>
        unfold without
        rw [filter_all (look_none hq)]
      | some t =>
        rw [links_without h.ok hq, if_neg fun r => ht (by rw [hq, r])]
        omega
    have hcget : getG (cleared g o) (oIno o) = getG g (oIno o) := by
      rw [hget, get_iff hC.fine.ok]
      exact ⟨X, hXc, hXi, by rw [hlinks]⟩
    have hget' : getG (madeA g o) (oIno o) = getG g (oIno o) := by
      rw [e, tie_get hz]
      unfold loosed
      rw [untie_get hC.fine.ok hlook, hcget, hget]
      simp
    have hlen1 : (loosed g o).E.length + 1 = (cleared g o).E.length := by
      unfold loosed
      rw [untie_eq hlook]
      exact without_len hC.fine.ok hlook
    have hlen : (madeA g o).E.length = (cleared g o).E.length := by rw [e, tie_len hz]; exact hlen1
    refine ⟨hget', hsome, ?_, fun q => absurd q ht, fun _ => ⟨?_, fun q => ?_, fun q => ?_⟩⟩
    · rw [e, tie_lookE hL.ok hz, if_pos ⟨rfl, rfl⟩]
    · rw [e, tie_lookE hL.ok hz, if_neg hL.apart, hL.ents]
      exact look_without _ _ _
    · obtain ⟨t, hq⟩ := Option.isSome_iff_exists.1 q
      rw [hlen, hC.ents]
      exact without_len h.ok hq
    · rw [hlen, hC.ents]
      unfold without
      rw [filter_all (look_none q)]

/-! ### Write, Trunc, Setattr -/

/-- The mode and the data that an operation gives. -/
def setM (x : Ino) (o : Opn) : Int := if o.k = 10 then o.off else x.mode
def setD (x : Ino) (o : Opn) : ByteArray := if o.k = 8 then bytes (wL x.data.data.toList o.data.data.toList o.off.toNat) else if o.k = 9 then bytes (tL x.data.data.toList o.off.toNat) else x.data

theorem sets_is {g : Gr} {o : Opn} (hm : mayO o = true) (hk : 8 ≤ o.k) : madeA g o = (setG g (oIno o) (setM (inoG g (oIno o)) o) (setD (inoG g (oIno o)) o)).1 := by
  obtain ⟨_, h10, _⟩ := mayO_parts hm
  unfold madeA setM setD
  rw [if_neg (by omega), if_neg (by omega), if_neg (by omega), if_neg (by omega)]
  by_cases k8 : o.k = 8
  · rw [if_pos k8, if_neg (by omega), if_pos k8]
  rw [if_neg k8, if_neg k8]
  by_cases k9 : o.k = 9
  · rw [if_pos k9, if_neg (by omega), if_pos k9]
  rw [if_neg k9, if_pos (by omega), if_neg k9]

theorem sets_get {g : Gr} {o : Opn} (hm : mayO o = true) (hk : 8 ≤ o.k) (k : St) : getG (madeA g o) k = (getG g k).map fun x => if k = oIno o then { x with mode := setM x o, data := setD x o } else x := by
  rw [sets_is hm hk, set_get]
  cases hq : getG g k with
  | none => rfl
  | some x =>
    rw [Option.map_some, Option.map_some]
    by_cases q : k = oIno o
    · rw [if_pos q, if_pos q]
      unfold inoG
      rw [← q, hq]
      rfl
    · rw [if_neg q, if_neg q]

theorem sets_kind {g : Gr} {o : Opn} (hm : mayO o = true) (hk : 8 ≤ o.k) (k : St) : kindG (madeA g o) k = kindG g k := by
  unfold kindG
  rw [sets_get hm hk]
  cases getG g k with
  | none => rfl
  | some x =>
    rw [Option.map_some]
    by_cases q : k = oIno o
    · rw [if_pos q]; rfl
    · rw [if_neg q]

/-- Why can't data be set? Kinds alone tell. -/
theorem whyA_sets (g : Gr) {o : Opn} (hk : 8 ≤ o.k) : whyA g o = if mayO o = false then 1 else if kindG g (oIno o) = 0 then 3 else if (o.k = 8 ∨ o.k = 9) ∧ kindG g (oIno o) = 1 then 5 else if (o.k = 8 ∨ o.k = 9) ∧ kindG g (oIno o) = 3 then 8 else 0 := by
  unfold whyA
  by_cases c0 : mayO o = false
  · rw [if_pos c0, if_pos c0]
  rw [if_neg c0, if_neg c0, if_neg (by omega), if_neg (by omega)]
  by_cases c1 : kindG g (oIno o) = 0
  · rw [if_pos (Or.inr c1), if_pos c1]
  rw [if_neg (fun q => q.elim (fun q => by have := q.1; omega) c1), if_neg c1]
  by_cases c2 : (o.k = 8 ∨ o.k = 9) ∧ kindG g (oIno o) = 1
  · rw [if_pos ⟨Or.inr c2.1, c2.2⟩, if_pos c2]
  rw [if_neg (fun q => c2 ⟨q.1.elim (fun q => by omega) id, q.2⟩), if_neg c2, if_neg (fun q => by have := q.1; omega), if_neg (fun q => by have := q.1; omega)]

theorem sets_why {g g' : Gr} (h : ∀ k, kindG g' k = kindG g k) {o : Opn} (hk : 8 ≤ o.k) : whyA g' o = whyA g o := by
  rw [whyA_sets _ hk, whyA_sets _ hk, h]

theorem does_kind {g : Gr} {o : Opn} (hk : 8 ≤ o.k) (k : St) : kindG (doA g o).1 k = kindG g k := by
  unfold doA
  by_cases q : whyA g o = 0
  · rw [if_pos q]; exact sets_kind (whyA_may q) hk k
  · rw [if_neg q]

/-- Two operations on data of unlike inodes make the same in both orders. -/
theorem sets_apart {g : Gr} (h : g.fine) {o x : Opn} (ho : 8 ≤ o.k) (hx : 8 ≤ x.k) (hne : oIno o ≠ oIno x) :
    (doA g o).2 = (doA (doA g x).1 o).2 ∧ (doA (doA g o).1 x).2 = (doA g x).2 ∧ (doA (doA g o).1 x).1 = (doA (doA g x).1 o).1 := by
  have e1 := sets_why (o := o) (does_kind (g := g) hx) ho
  have e2 := sets_why (o := x) (does_kind (g := g) ho) hx
  have r : ∀ (γ : Gr) (p : Opn), (doA γ p).2 = whyA γ p := fun γ p => by unfold doA; split <;> simp_all
  rw [r, r, r, r, e1, e2]
  refine ⟨rfl, rfl, ?_⟩
  by_cases qo : whyA g o = 0
  · by_cases qx : whyA g x = 0
    · have a1 : (doA g o).1 = madeA g o := by unfold doA; rw [if_pos qo]
      have a2 : (doA g x).1 = madeA g x := by unfold doA; rw [if_pos qx]
      have a3 : (doA (doA g o).1 x).1 = madeA (madeA g o) x := by rw [a1] at e2 ⊢; unfold doA; rw [if_pos (e2.trans qx)]
      have a4 : (doA (doA g x).1 o).1 = madeA (madeA g x) o := by rw [a2] at e1 ⊢; unfold doA; rw [if_pos (e1.trans qo)]
      have f3 := ((h.does o).does x).ok
      have f4 := ((h.does x).does o).ok
      rw [a3] at f3 ⊢
      rw [a4] at f4 ⊢
      have mo := whyA_may qo
      have mx := whyA_may qx
      refine f3.same f4 (fun k => ?_) fun d nm => ?_
      · rw [sets_get mx hx, sets_get mo ho, sets_get mo ho, sets_get mx hx]
        cases getG g k with
        | none => rfl
        | some y =>
          simp only [Option.map_some]
          by_cases p : k = oIno o
          · have p' : ¬ k = oIno x := fun s => hne (p.symm.trans s)
            rw [if_pos p, if_neg p', if_neg p', if_pos p]
          · by_cases p' : k = oIno x
            · simp only [if_neg p, if_pos p']
            · simp only [if_neg p, if_neg p']
      · rw [sets_is mx hx, sets_is mo ho, sets_is mo ho, sets_is mx hx, set_ents, set_ents, set_ents, set_ents]
    · have a2 : (doA g x).1 = g := by unfold doA; rw [if_neg qx]
      have a3 : (doA (doA g o).1 x).1 = (doA g o).1 := by
        have : ¬ whyA (doA g o).1 x = 0 := by rw [e2]; exact qx
        unfold doA at this ⊢
        rw [if_neg this]
      rw [a3, a2]
  · have a1 : (doA g o).1 = g := by unfold doA; rw [if_neg qo]
    have a4 : (doA (doA g x).1 o).1 = (doA g x).1 := by
      have : ¬ whyA (doA g x).1 o = 0 := by rw [e1]; exact qo
      unfold doA at this ⊢
      rw [if_neg this]
    rw [a4, a1]

theorem set_read {x : Ino} {o : Opn} (hm : mayO o = true) (hk : o.k = 8) : rR (setD x o) o.off (o.data.size : Int) = o.data := by
  obtain ⟨_, _, _, _, _, _, _, h8⟩ := mayO_parts hm
  unfold dataB at h8
  rw [if_neg (by omega), if_pos hk] at h8
  simp only [Bool.and_eq_true, decide_eq_true_iff] at h8
  unfold rR setD
  rw [if_neg (by omega), if_pos hk]
  have e : (bytes (wL x.data.data.toList o.data.data.toList o.off.toNat)).data.toList = wL x.data.data.toList o.data.data.toList o.off.toNat := by unfold bytes; simp
  have e2 : ((o.data.size : Int)).toNat = o.data.data.toList.length := by rw [data_len]; simp
  rw [e, e2, read_wrote]

theorem set_size {x : Ino} {o : Opn} (hm : mayO o = true) (hk : o.k = 9) : ((setD x o).size : Int) = o.off := by
  obtain ⟨_, _, _, _, _, _, _, h8⟩ := mayO_parts hm
  unfold dataB at h8
  rw [if_neg (by omega), if_neg (by omega), if_pos hk] at h8
  simp only [Bool.and_eq_true, decide_eq_true_iff] at h8
  unfold setD
  rw [if_neg (by omega), if_pos hk, bytes_size, tL_len]
  omega

/-! ### Unlink, Rmdir -/

theorem gone_all {g : Gr} (h : g.fine) {o : Opn} (hw : whyA g o = 0) (hk : o.k = 5 ∨ o.k = 6) :
    listE g.E (oIno o) = [] ∧ lookE (madeA g o).E (oAt o) o.name = none ∧ (getG (madeA g o) (oIno o)).isSome = decide (1 < ((getG g (oIno o)).getD noIno).links) ∧
    (∀ y, getG (madeA g o) (oIno o) = some y → y.links = ((getG g (oIno o)).getD noIno).links - 1) ∧ (((getG g (oIno o)).getD noIno).kind = 1 ↔ o.k = 6) := by
  obtain ⟨r1, r2, r3, r4, _⟩ := whyA_rest hw (by omega) (by omega)
  have hl := r1 (by omega)
  have he : listE g.E (oIno o) = [] := by
    by_cases q : o.k = 6
    · exact (r4 q).2
    · exact h.ok.list_none (r3 (Or.inl (by omega)))
  have e : madeA g o = goneG g (oAt o) o.name := by unfold madeA; rw [if_neg (by omega), if_neg (by omega), if_pos (by omega)]
  have hf := h.gone hl he
  rw [e]
  rw [gone_eq h.ok hl he] at hf ⊢
  have hp := look_pos h.ok hl
  obtain ⟨X, hX, hXi'⟩ := h.ok.inos _ ((look_iff h.ok).1 hl)
  have hXi : X.id = oIno o := hXi'
  have hget : getG g (oIno o) = some { X with links := (linksE g.E (oIno o) : Int) } := (get_iff h.ok).2 ⟨X, hX, hXi, rfl⟩
  have hkind : kindG g (oIno o) = X.kind := by rw [← hXi, h.ok.kindG hX]
  have hlw := links_without h.ok hl (oIno o)
  rw [if_pos rfl] at hlw
  refine ⟨he, look_without _ _ _, ?_, ?_, ?_⟩
  · rw [hget]
    dsimp only [Option.getD_some]
    by_cases q : linksE g.E (oIno o) = 1
    · have : getG ⟨if linksE g.E (oIno o) = 1 then g.I.filter (fun x => !decide (x.id = oIno o)) else g.I, without g.E (oAt o) o.name⟩ (oIno o) = none := by
        rw [if_pos q]
        unfold getG
        rw [List.find?_eq_none.2]
        · rfl
        · intro x hx
          have := (List.mem_filter.1 hx).2
          simpa using this
      rw [this, q]
      rfl
    · have : getG ⟨if linksE g.E (oIno o) = 1 then g.I.filter (fun x => !decide (x.id = oIno o)) else g.I, without g.E (oAt o) o.name⟩ (oIno o) = some { X with links := (linksE (without g.E (oAt o) o.name) (oIno o) : Int) } := (get_iff hf.ok).2 ⟨X, by rw [if_neg q]; exact hX, hXi, rfl⟩
      rw [this]
      have : 1 < (linksE g.E (oIno o) : Int) := by omega
      simp [this]
  · intro y hy
    obtain ⟨x, hx, hxi, rfl⟩ := (get_iff hf.ok).1 hy
    rw [hget]
    dsimp only [Option.getD_some]
    omega
  · rw [hget]
    show X.kind = 1 ↔ o.k = 6
    rw [← hkind]
    constructor
    · intro q
      exact Classical.byContradiction fun s => r3 (Or.inl (by omega)) q
    · exact fun q => (r4 q).1

end Go.Proofs.YthcmgaibbpacfaaGreatDoor.GraphMath

/-
  A slice of operations that is only read. It needs no program's function.
-/
namespace Go.Proofs.YthcmgaibbpacfaaGreatDoor
open Go.RowKit StampMath GraphMath OpMath PackMath

/-- An operation as an argument. -/
structure OpFit (o : Opn) : Prop where
  ok : Ok64 o
  name : o.name.size ≤ maxLen
  new : o.new.size ≤ maxLen
  data : o.data.size ≤ maxLen

/-- The slice reads as operations, and lies below block B. -/
def OpsIn (W : World) (B : Nat) (A : Option Addr) (n : Nat) (l : List Opn) : Prop := TabIn 13 W B A n (l.map opA)

theorem OpsIn.len {W : World} {B : Nat} {A : Option Addr} {n : Nat} {l : List Opn} (h : OpsIn W B A n l) : l.length = n := by have := h.1; rwa [List.length_map] at this

/-- An operation's cells at ⟨g, p⟩. -/
def OpAt (W : World) (g p : Nat) (o : Opn) : Prop :=
  W.cell? ⟨g, p, none⟩ = some (.int .i64 o.st) ∧ W.cell? ⟨g, p + 1, none⟩ = some (.int .i64 o.sr) ∧ W.cell? ⟨g, p + 2, none⟩ = some (.int .i64 o.k) ∧ W.cell? ⟨g, p + 3, none⟩ = some (.int .i64 o.pt) ∧ W.cell? ⟨g, p + 4, none⟩ = some (.int .i64 o.pr) ∧
  W.cell? ⟨g, p + 5, none⟩ = some (.int .i64 o.it) ∧ W.cell? ⟨g, p + 6, none⟩ = some (.int .i64 o.ir) ∧ W.cell? ⟨g, p + 7, none⟩ = some (.int .i64 o.tt) ∧ W.cell? ⟨g, p + 8, none⟩ = some (.int .i64 o.tr) ∧
  W.cell? ⟨g, p + 9, none⟩ = some (.string o.name) ∧ W.cell? ⟨g, p + 10, none⟩ = some (.string o.new) ∧ W.cell? ⟨g, p + 11, none⟩ = some (.int .i64 o.off) ∧ W.cell? ⟨g, p + 12, none⟩ = some (.string o.data)

theorem OpsIn.row {W : World} {B : Nat} {A : Option Addr} {n : Nat} {l : List Opn} (h : OpsIn W B A n l) (hn : 0 < n) : ∃ g o, A = some ⟨g, o, none⟩ ∧ g < B ∧ ∀ k (hk : k < l.length), OpAt W g (o + k * 13) l[k] := by
  obtain ⟨g, o, e, hg, hc⟩ := h.2 hn
  refine ⟨g, o, e, hg, fun k hk => ?_⟩
  have hk' : k < (l.map opA).length := by simpa using hk
  have he : (l.map opA)[k] = opA l[k] := by simp
  exact ⟨hc k hk' 0 _ (by rw [he]; rfl), hc k hk' 1 _ (by rw [he]; rfl), hc k hk' 2 _ (by rw [he]; rfl), hc k hk' 3 _ (by rw [he]; rfl), hc k hk' 4 _ (by rw [he]; rfl), hc k hk' 5 _ (by rw [he]; rfl), hc k hk' 6 _ (by rw [he]; rfl), hc k hk' 7 _ (by rw [he]; rfl), hc k hk' 8 _ (by rw [he]; rfl), hc k hk' 9 _ (by rw [he]; rfl), hc k hk' 10 _ (by rw [he]; rfl), hc k hk' 11 _ (by rw [he]; rfl), hc k hk' 12 _ (by rw [he]; rfl)⟩

theorem OpAt.below {W W' : World} {B g p : Nat} {o : Opn} (h : OpAt W g p o) (hb : Below B W W') (hg : g < B) : OpAt W' g p o := by
  obtain ⟨h0, h1, h2, h3, h4, h5, h6, h7, h8, h9, h10, h11, h12⟩ := h
  have c : ∀ (i : Nat) (v : Value), W.cell? ⟨g, i, none⟩ = some v → W'.cell? ⟨g, i, none⟩ = some v := fun i v q => (hb.cell (p := ⟨g, i, none⟩) hg).trans q
  exact ⟨c _ _ h0, c _ _ h1, c _ _ h2, c _ _ h3, c _ _ h4, c _ _ h5, c _ _ h6, c _ _ h7, c _ _ h8, c _ _ h9, c _ _ h10, c _ _ h11, c _ _ h12⟩

end Go.Proofs.YthcmgaibbpacfaaGreatDoor

/-
  Inodes and entries that a call of audit is given.
-/
namespace Go.Proofs.YthcmgaibbpacfaaGreatDoor
open Go.RowKit StampMath GraphMath OpMath

/-- Inodes and entries that are given. -/
structure Given (w : World) (A : Option Addr) (n : Nat) (N : List Ino) (A' : Option Addr) (m : Nat) (E : List Ent) : Prop where
  inos : InosIn w w.heap.size A n N
  ents : EntsIn w w.heap.size A' m E
  fewI : n ≤ 1000
  fewE : m ≤ 1000
  datas : ∀ x ∈ N, x.data.size ≤ maxLen
  names : ∀ e ∈ E, e.name.size ≤ maxLen

theorem Given.below {w W : World} {A : Option Addr} {n : Nat} {N : List Ino} {A' : Option Addr} {m : Nat} {E : List Ent} (h : Given w A n N A' m E) (hb : Below w.heap.size w W) : Given W A n N A' m E :=
  ⟨(h.inos.below hb).more hb.size, (h.ents.below hb).more hb.size, h.fewI, h.fewE, h.datas, h.names⟩

end Go.Proofs.YthcmgaibbpacfaaGreatDoor

/-
  A region that draws its order, whose own operations only read, and whose callees may make memory but turn nothing that is there: one walk, in the text's order. It needs no program.
-/
namespace Go.Proofs.YthcmgaibbpacfaaGreatDoor
open Go.RowKit

open Classical in
/-- A world in which all that was there in w reads as before: x, if it is one. -/
noncomputable def later (w x : World) : World := if Below w.heap.size w x then x else w

theorem later_below (w x : World) : Below w.heap.size w (later w x) := by
  unfold later
  split
  · assumption
  · exact Below.refl _ _

theorem later_of {w x : World} (h : Below w.heap.size w x) : later w x = x := by
  unfold later
  rw [if_pos h]

theorem later_cell {w : World} {a : Addr} {v : Value} (h : w.cell? a = some v) (x : World) : (later w x).cell? a = some v := cell_later (later_below w x) h

/-- The walk of the lexical order serves every order. -/
theorem wp_region_later {P : Program} {id : Nat} {Q : Exit → Act → World → Prop} {a : Act} {w : World} {l : List Oper} (hm : P.follows .mixedOrders = true) (hB : Region.lexB .any l.toArray = true)
    (h : wpQuiet P l.toArray (fun w' => ∃ x, w' = later w x) (fun a' => ∀ w', (∃ x, w' = later w x) → Q .normal a' w') l a) : (Code.region id l.toArray true).wp P Q a w :=
  wp_region_quiet (C := fun w' => ∃ x, w' = later w x) hm hB ⟨w.drew, (later_of (Below.refl _ _).drew).symm⟩ (by simpa using h)

/-- A callee's contract, met in such a world. -/
theorem later_call {P : Program} {f : FuncId} {args : Array Value} {w x : World} {v : Value} (h : Calls P f args (later w x) fun e w' => e = .returned v ∧ Below (later w x).heap.size (later w x) w') :
    Calls P f args (later w x) fun e w'' => e = .returned v ∧ ∃ y, w'' = later w y :=
  h.mono fun _ w' ⟨he, hb⟩ => ⟨he, w', (later_of (below_step (later_below w x) hb)).symm⟩

end Go.Proofs.YthcmgaibbpacfaaGreatDoor

/-
  Blocks that lie in memory while calls go by: a list of them, and that nothing older has turned. It needs no program.
-/
namespace Go.Proofs.YthcmgaibbpacfaaGreatDoor
open Go.RowKit

/-- These blocks lie there, and below w's end all is as it was in w. -/
def Held (w : World) (L : List (Nat × Obj)) (W : World) : Prop := (∀ p ∈ L, W.heap[p.1]? = some p.2) ∧ Below w.heap.size w W

theorem Held.refl (w : World) : Held w [] w := ⟨fun _ h => (by cases h), Below.refl _ _⟩

theorem Held.below {w W : World} {L : List (Nat × Obj)} (h : Held w L W) : Below w.heap.size w W := h.2

theorem Held.step {w W W' : World} {L : List (Nat × Obj)} (h : Held w L W) (hb : Below W.heap.size W W') : Held w L W' :=
  ⟨fun p hp => (hb.block _ (heap_lt (h.1 p hp))).trans (h.1 p hp), below_step h.2 hb⟩

theorem Held.alloc {w W : World} {L : List (Nat × Obj)} (h : Held w L W) (o : Obj) {g : Nat} (hg : W.heap.size = g) : Held w ((g, o) :: L) (W.alloc o) := by
  refine ⟨fun p hp => ?_, h.2.alloc h.2.size o⟩
  rcases List.mem_cons.1 hp with rfl | hp
  · subst hg; exact heap_alloc_new W o
  · rw [heap_alloc_old _ _ (heap_lt (h.1 p hp))]; exact h.1 p hp

theorem Held.drewN {w W : World} {L : List (Nat × Obj)} (h : Held w L W) (n : Nat) : Held w L (W.drewN n) := ⟨h.1, below_drewN' h.2 n⟩

theorem Held.drew {w W : World} {L : List (Nat × Obj)} (h : Held w L W) : Held w L W.drew := ⟨h.1, h.2.drew⟩

theorem Held.head {w W : World} {L : List (Nat × Obj)} {p : Nat × Obj} (h : Held w (p :: L) W) : W.heap[p.1]? = some p.2 := h.1 p (List.mem_cons_self ..)

theorem Held.tail {w W : World} {L : List (Nat × Obj)} {p : Nat × Obj} (h : Held w (p :: L) W) : Held w L W := ⟨fun q hq => h.1 q (List.mem_cons_of_mem _ hq), h.2⟩

theorem Held.at {w W : World} {L : List (Nat × Obj)} (h : Held w L W) (i : Nat) {p : Nat × Obj} (hp : L[i]? = some p) : W.heap[p.1]? = some p.2 := h.1 p (List.mem_of_getElem? hp)

/-- Behind a store into another block, which was made since. -/
theorem Held.set {w W : World} {L : List (Nat × Obj)} (h : Held w L W) {b : Nat} (hL : ∀ p ∈ L, p.1 < b) (hw : w.heap.size ≤ b) (i : Nat) (v : Value) : Held w L (W.setCell ⟨b, i, none⟩ v) :=
  ⟨fun p hp => (heap_setCell_other _ _ _ _ (by have := hL p hp; dsimp only; omega)).trans (h.1 p hp), h.2.setCell hw v⟩

/-- Behind a step that turns one block at most, which lies at or beyond B, where all that is held lies below. -/
theorem Held.grown {w W W' : World} {L : List (Nat × Obj)} {row : Option Nat} {B : Nat} (h : Held w L W) (hg : W.grownBy W' row) (hB : ∀ q, row = some q → B ≤ q) (hL : ∀ p ∈ L, p.1 < B) (hw : w.heap.size ≤ B := by simp) : Held w L W' :=
  ⟨fun p hp => (hg.block p.1 (heap_lt (h.1 p hp)) fun e => by have h1 := hB _ e.symm; have h2 := hL p hp; omega).trans (h.1 p hp), h.2.grown hg h.2.size fun q hq => Nat.le_trans hw (hB q hq)⟩

end Go.Proofs.YthcmgaibbpacfaaGreatDoor

/-
  The package's table of fields, as it lies in memory: worlds in which it does, and that what is below a world's end stays.
-/
namespace Go.Proofs.YthcmgaibbpacfaaGreatDoor
open Go.RowKit

/-- The numbers of the table. -/
def tabL : List Int := [0, 9, 9, 73, 11, 11, 11, 31, 98, 34, 34]

/-- The table lies in this world. -/
class Tab (W : World) : Prop where
  cells : Hid (∀ (i : Nat) (x : Int), tabL[i]? = some x → W.cell? ⟨0, i, none⟩ = some (.int .i64 x))

theorem Tab.at {W : World} (T : Tab W) (i : Nat) {x : Int} (h : tabL[i]? = some x) : W.cell? ⟨0, i, none⟩ = some (.int .i64 x) := T.cells.out i x h

theorem tab_below {B : Nat} {W W' : World} (T : Tab W) (hB : W.heap.size ≤ B) (h : Below B W W') : Tab W' :=
  ⟨Lib.hid fun i _ hx => (h.cell (p := ⟨0, i, none⟩) (Nat.lt_of_lt_of_le (World.block_lt_of_cell? _ _ (T.at i hx)) hB)).trans (T.at i hx)⟩

theorem tab_step {W W' : World} [T : Tab W] (h : Below W.heap.size W W') : Tab W' := tab_below T (Nat.le_refl _) h

theorem tab_held {w W : World} {L : List (Nat × Obj)} [T : Tab w] (h : Held w L W) : Tab W := tab_step h.below

theorem tab_kept {w W : World} [T : Tab w] (h : KeptFrom w W) : Tab W := tab_step (kept_below h)

instance tabAlloc {W : World} [T : Tab W] (o : Obj) : Tab (W.alloc o) := tab_step ((Below.refl _ W).alloc (Nat.le_refl _) o)

instance tabDrew {W : World} [T : Tab W] : Tab W.drew := tab_step ((Below.refl _ W).drew)

instance tabDrewN {W : World} [T : Tab W] (n : Nat) : Tab (W.drewN n) := tab_step (below_drewN' (Below.refl _ W) n)

instance tabLater {w : World} [T : Tab w] (x : World) : Tab (later w x) := tab_step (later_below w x)

end Go.Proofs.YthcmgaibbpacfaaGreatDoor

/-
  What the statements of layer 11 need of the package's own calls, and of audit, op and extent, beside those of graphs; an operation done to a graph that lies beside blocks set apart.
-/
namespace Go.Proofs.YthcmgaibbpacfaaGreatDoor
open Go.RowKit StampMath GraphMath OpMath PackMath ExtentMath

structure ApplyHave (H : GraphHave) : Prop where
  why : ∀ (a : Addr) (S : Nat → Prop) (g : Gr) (o : Opn) (w : World) [Tab w], H.rep w S a g → g.fine → OpFit o → Calls Tryz.prog 62 #[.pointer (some a), .agg (opA o)] w fun e w' => e = .returned (.int .i64 (whyA g o)) ∧ Below w.heap.size w w'
  does : ∀ (a : Addr) (S : Nat → Prop) (g : Gr) (o : Opn) (w : World) [Tab w], H.rep w S a g → ¬ S 0 → g.fine → OpFit o → Calls Tryz.prog 27 #[.pointer (some a), .agg (opA o)] w fun e w' => ∃ S', e = .returned (.int .i64 (doA g o).2) ∧ H.rep w' S' a (doA g o).1 ∧ (∀ i, S' i → S i ∨ w.heap.size ≤ i) ∧ But S w w'
  nilDo : ∀ (o : Opn) (w : World) [Tab w], OpFit o → Calls Tryz.prog 27 #[.pointer none, .agg (opA o)] w fun e w' => e = .returned (.int .i64 1) ∧ Below w.heap.size w w'
  may : ∀ (o : Opn) (w : World) [Tab w], OpFit o → Calls Tryz.prog 93 #[.agg (opA o)] w fun e w' => e = .returned (.bool (mayO o)) ∧ Below w.heap.size w w'
  makes : ∀ (o : Opn) (w : World) [Tab w], OpFit o → Calls Tryz.prog 23 #[.agg (opA o)] w fun e w' => e = .returned (.int .i64 (makesO o)) ∧ Below w.heap.size w w'

theorem Tab.lt {w : World} (T : Tab w) : 0 < w.heap.size := World.block_lt_of_cell? _ _ (T.at 0 (x := 0) rfl)

theorem GX.tab {H : GraphHave} {w W : World} {N : Nat → Prop} {a : Addr} {g : Gr} (h : GX H w W N a g) (T : Tab w) : Tab W := tab_below T (Nat.le_refl _) h.below

/-- A graph that is fine, made since w, outside the blocks N, which are there. -/
structure FX (H : GraphHave) (w W : World) (N : Nat → Prop) (a : Addr) (g : Gr) : Prop where
  gx : GX H w W N a g
  fine : g.fine

theorem FX.step {H : GraphHave} {w W W' : World} {N : Nat → Prop} {a : Addr} {g : Gr} (h : FX H w W N a g) (hb : Below W.heap.size W W') : FX H w W' N a g := ⟨h.gx.step hb, h.fine⟩

theorem FX.below {H : GraphHave} {w W : World} {N : Nat → Prop} {a : Addr} {g : Gr} (h : FX H w W N a g) : Below w.heap.size w W := h.gx.below

theorem FX.why {H : GraphHave} (P : ApplyHave H) {w W : World} {N : Nat → Prop} {a : Addr} {g : Gr} (h : FX H w W N a g) (T : Tab w) (o : Opn) (ho : OpFit o) :
    Calls Tryz.prog 62 #[.pointer (some a), .agg (opA o)] W fun e w' => e = .returned (.int .i64 (whyA g o)) ∧ FX H w w' N a g ∧ Below W.heap.size W w' := by
  have := h.gx.tab T
  obtain ⟨S, h1, _⟩ := h.gx.at'
  refine (P.why a S g o W h1 h.fine ho).mono ?_
  rintro e w' ⟨he, hb⟩
  exact ⟨he, h.step hb, hb⟩

theorem FX.does {H : GraphHave} (P : ApplyHave H) {w W : World} {N : Nat → Prop} {a : Addr} {g : Gr} (h : FX H w W N a g) (T : Tab w) (o : Opn) (ho : OpFit o) :
    Calls Tryz.prog 27 #[.pointer (some a), .agg (opA o)] W fun e w' => e = .returned (.int .i64 (doA g o).2) ∧ FX H w w' N a (doA g o).1 ∧ Same N W w' := by
  have := h.gx.tab T
  have hf := h.fine
  obtain ⟨⟨⟨S, h1, h2, h3⟩, h4, h5, h6⟩, _⟩ := h
  refine (P.does a S g o W h1 (fun q => by have := h2 _ q; have := T.lt; omega) hf ho).mono ?_
  rintro e w' ⟨S', he, k1, k2, k3⟩
  have r := GX.mut h2 h3 h5 h6 k1 k2 k3 (hf.does o).ok
  exact ⟨he, ⟨r.1, hf.does o⟩, r.2⟩

end Go.Proofs.YthcmgaibbpacfaaGreatDoor

/-
  Plain mathematics of layer 12: what one graph lost, and got, against another one. It needs no program.
-/
namespace Go.Proofs.YthcmgaibbpacfaaGreatDoor.GraphMath
open StampMath OpMath ExtentMath

/-- A record: entries lost and made, inodes as they were, numbers of new ones, an error. -/
structure Rec where
  lost : List Ent
  made : List Ent
  was : List Ino
  new : List St
  err : Int

/-- The entries of one graph that another one hasn't. -/
def lostG (a b : Gr) : List Ent := a.E.filter fun e => !decide (e ∈ b.E)

/-- Isn't an inode in a graph, or has it another kind, mode, or data there? -/
def otherI (b : Gr) (x : Ino) : Bool := match getG b x.id with
  | none => true
  | some y => !(decide (y.kind = x.kind) && decide (y.mode = x.mode) && decide (y.data = x.data))

def wasG (a b : Gr) : List Ino := (inodesG a).filter (otherI b)

def newN (a b : Gr) : List St := (b.I.map (·.id)).filter fun s => !(getG a s).isSome

def diffG (a b : Gr) (e : Int) : Rec := ⟨lostG a b, lostG b a, wasG a b, newN a b, e⟩

/-- undo.Do's record. -/
def doR (g : Gr) (o : Opn) : Rec := diffG g (doA g o).1 (doA g o).2

theorem mem_lost {a b : Gr} {e : Ent} : e ∈ lostG a b ↔ e ∈ a.E ∧ e ∉ b.E := by
  unfold lostG
  rw [List.mem_filter, Bool.not_eq_true', decide_eq_false_iff_not]

theorem lost_self (a : Gr) : lostG a a = [] := by
  unfold lostG
  rw [List.filter_eq_nil_iff]
  intro e he
  simp [he]

/-- An inode that lies in the other graph with the same kind, mode and data. -/
theorem other_same {g' : Gr} (h' : g'.ok) {x y : Ino} (hy : y ∈ g'.I) (hi : y.id = x.id) (hk : y.kind = x.kind) (hm : y.mode = x.mode) (hd : y.data = x.data) : otherI g' x = false := by
  unfold otherI
  rw [← hi, h'.get hy]
  simp [hk, hm, hd]

theorem other_none {g' : Gr} {x : Ino} (h : getG g' x.id = none) : otherI g' x = true := by
  unfold otherI
  rw [h]

theorem mem_inodes {g : Gr} (h : g.ok) {x : Ino} : x ∈ inodesG g → ∃ y ∈ g.I, y.id = x.id ∧ y.kind = x.kind ∧ y.mode = x.mode ∧ y.data = x.data := by
  rw [h.inodes, List.mem_map]
  rintro ⟨y, hy, rfl⟩
  exact ⟨y, hy, rfl, rfl, rfl, rfl⟩

theorem was_self {a : Gr} (h : a.ok) : wasG a a = [] := by
  unfold wasG
  rw [List.filter_eq_nil_iff]
  intro x hx
  obtain ⟨y, hy, h1, h2, h3, h4⟩ := mem_inodes h hx
  rw [other_same h hy h1 h2 h3 h4]
  simp

theorem new_self {a : Gr} (h : a.ok) : newN a a = [] := by
  unfold newN
  rw [List.filter_eq_nil_iff]
  intro s hs
  obtain ⟨x, hx, rfl⟩ := List.mem_map.1 hs
  rw [h.get hx]
  simp

theorem diff_self {a : Gr} (h : a.ok) (e : Int) : diffG a a e = ⟨[], [], [], [], e⟩ := by
  unfold diffG
  rw [lost_self, was_self h, new_self h]

theorem nodup_sorted {α : Type} {r : α → α → Bool} (irr : ∀ x, r x x = false) {l : List α} (h : l.Pairwise fun a b => r a b = true) : l.Nodup :=
  h.imp fun {a b} hab e => by rw [e, irr] at hab; cases hab

theorem len_one {α : Type} {l : List α} (hn : l.Nodup) (h : ∀ x ∈ l, ∀ y ∈ l, x = y) : l.length ≤ 1 := by
  match l, hn, h with
  | [], _, _ => exact Nat.zero_le _
  | [_], _, _ => exact Nat.le_refl _
  | a :: b :: t, hn, h =>
    exact absurd (h a (by simp) b (by simp)) ((List.pairwise_cons.1 hn).1 b (by simp))

theorem len_two {α : Type} {l : List α} (hn : l.Nodup) (a b : α) (h : ∀ x ∈ l, x = a ∨ x = b) : l.length ≤ 2 := by
  match l, hn, h with
  | [], _, _ => exact Nat.zero_le _
  | [_], _, _ => exact Nat.succ_le_succ (Nat.zero_le _)
  | [_, _], _, _ => exact Nat.le_refl _
  | x :: y :: z :: t, hn, h =>
    have n1 := (List.pairwise_cons.1 hn).1
    have n2 := (List.pairwise_cons.1 (List.pairwise_cons.1 hn).2).1
    have hxy := n1 y (by simp)
    have hxz := n1 z (by simp)
    have hyz := n2 z (by simp)
    have hx := h x (by simp)
    have hy := h y (by simp)
    have hz := h z (by simp)
    rcases hx with rfl | rfl <;> rcases hy with rfl | rfl <;> rcases hz with rfl | rfl <;> first | exact absurd rfl hxy | exact absurd rfl hxz | exact absurd rfl hyz

theorem Gr.ok.nodupE {g : Gr} (h : g.ok) : g.E.Nodup := nodup_sorted aheadE_self h.sortE

theorem Gr.ok.nodupI {g : Gr} (h : g.ok) : (inodesG g).Nodup := by
  rw [h.inodes]
  have hp := h.sortI
  refine List.pairwise_map.2 (hp.imp fun {a b} hab e => ?_)
  have e1 := congrArg (fun x : Ino => x.id) e
  dsimp only at e1
  rw [e1, lessS_irrefl] at hab
  cases hab

theorem Gr.ok.nodupId {g : Gr} (h : g.ok) : (g.I.map (·.id)).Nodup := by
  refine List.pairwise_map.2 (h.sortI.imp fun {a b} hab e => ?_)
  have e1 : a.id = b.id := e
  rw [e1, lessS_irrefl] at hab
  cases hab

theorem lost_nodup {a : Gr} (h : a.ok) (b : Gr) : (lostG a b).Nodup := h.nodupE.filter _
theorem was_nodup {a : Gr} (h : a.ok) (b : Gr) : (wasG a b).Nodup := h.nodupI.filter _
theorem new_nodup {b : Gr} (h : b.ok) (a : Gr) : (newN a b).Nodup := h.nodupId.filter _

theorem new_le {a b : Gr} (h : b.ok) : (newN a b).length ≤ (wasG b a).length := by
  unfold newN wasG
  rw [h.inodes, List.filter_map, List.length_map, List.filter_map, List.length_map]
  rw [← List.countP_eq_length_filter, ← List.countP_eq_length_filter]
  refine List.countP_mono_left fun x _ hx => ?_
  simp only [Function.comp_apply, Bool.not_eq_true', Option.isSome_eq_false_iff, Option.isNone_iff_eq_none] at hx ⊢
  exact other_none hx

/-- Of all that goes on, a Was is of the inode t alone. -/
theorem was_one {g g' : Gr} (h : g.ok) (h' : g'.ok) (t : St) (hs : ∀ x ∈ g.I, x.id ≠ t → ∃ y ∈ g'.I, y.id = x.id ∧ y.kind = x.kind ∧ y.mode = x.mode ∧ y.data = x.data) : (wasG g g').length ≤ 1 := by
  refine len_one (was_nodup h g') fun x hx y hy => ?_
  have key : ∀ z ∈ wasG g g', z ∈ inodesG g ∧ z.id = t := fun z hz => by
    obtain ⟨h1, h2⟩ := List.mem_filter.1 hz
    refine ⟨h1, Classical.byContradiction fun q => ?_⟩
    obtain ⟨u, hu, u1, u2, u3, u4⟩ := mem_inodes h h1
    obtain ⟨v, hv, v1, v2, v3, v4⟩ := hs u hu (by rw [u1]; exact q)
    rw [other_same h' hv (v1.trans u1) (v2.trans u2) (v3.trans u3) (v4.trans u4)] at h2
    cases h2
  obtain ⟨x1, x2⟩ := key x hx
  obtain ⟨y1, y2⟩ := key y hy
  rw [h.inodes] at x1 y1
  obtain ⟨u, hu, rfl⟩ := List.mem_map.1 x1
  obtain ⟨v, hv, rfl⟩ := List.mem_map.1 y1
  have : u = v := h.ids hu hv (x2.trans y2.symm)
  rw [this]

theorem was_nil {g g' : Gr} (h : g.ok) (h' : g'.ok) (hs : ∀ x ∈ g.I, ∃ y ∈ g'.I, y.id = x.id ∧ y.kind = x.kind ∧ y.mode = x.mode ∧ y.data = x.data) : wasG g g' = [] := by
  unfold wasG
  rw [List.filter_eq_nil_iff]
  intro x hx
  obtain ⟨u, hu, u1, u2, u3, u4⟩ := mem_inodes h hx
  obtain ⟨v, hv, v1, v2, v3, v4⟩ := hs u hu
  rw [other_same h' hv (v1.trans u1) (v2.trans u2) (v3.trans u3) (v4.trans u4)]
  simp

theorem new_nil {g g' : Gr} (h : g.ok) (hs : ∀ x ∈ g'.I, ∃ y ∈ g.I, y.id = x.id) : newN g g' = [] := by
  unfold newN
  rw [List.filter_eq_nil_iff]
  intro s hm
  obtain ⟨x, hx, rfl⟩ := List.mem_map.1 hm
  obtain ⟨y, hy, e⟩ := hs x hx
  rw [← e, h.get hy]
  simp

theorem lost_nil {g g' : Gr} (hs : ∀ e ∈ g.E, e ∈ g'.E) : lostG g g' = [] := by
  unfold lostG
  rw [List.filter_eq_nil_iff]
  intro e he
  simp [hs e he]

/-- One entry more. -/
theorem lost_only {g : Gr} (h : g.ok) {g' : Gr} {e : Ent} (hs : ∀ x ∈ g.E, x ∈ g'.E ∨ x = e) : (lostG g g').length ≤ 1 := by
  refine len_one (lost_nodup h g') fun x hx y hy => ?_
  obtain ⟨x1, x2⟩ := mem_lost.1 hx
  obtain ⟨y1, y2⟩ := mem_lost.1 hy
  rw [(hs x x1).resolve_left x2, (hs y y1).resolve_left y2]

end Go.Proofs.YthcmgaibbpacfaaGreatDoor.GraphMath

/-
  Plain mathematics of layer 12: how little an operation turns. It needs no program.
-/
namespace Go.Proofs.YthcmgaibbpacfaaGreatDoor.GraphMath
open StampMath OpMath ExtentMath

/-- How little an operation turns. -/
structure Few (g g' : Gr) (o : Opn) : Prop where
  new : (newN g g').length ≤ 1
  lost : (lostG g g').length ≤ 2
  made : (lostG g' g).length ≤ 1
  was : (wasG g g').length ≤ 1
  makes : o.k ≤ 3 → newN g g' = [oSt o] ∧ (lostG g' g).length = 1 ∧ lostG g g' = [] ∧ wasG g g' = []
  data : 8 ≤ o.k → lostG g g' = [] ∧ lostG g' g = [] ∧ newN g g' = []

/-- One entry is tied: nothing else is of the list of entries. -/
theorem tie_mem {g : Gr} {b : Bool} {e : Ent} (h : whyG b g e = 0) {x : Ent} : x ∈ (tieG b g e).1.E ↔ x = e ∨ x ∈ g.E := by
  unfold tieG
  rw [if_pos h]
  exact putIn_mem

theorem single_of {α : Type} {l : List α} (hn : l.Nodup) {a : α} (ha : a ∈ l) (h : ∀ x ∈ l, x = a) : l = [a] := by
  have h1 := len_one hn fun x hx y hy => (h x hx).trans (h y hy).symm
  match l, ha, h1, h with
  | [x], _, _, h => rw [h x (by simp)]

theorem key_one {g : Gr} (h : g.ok) {e : Ent} (he : e ∈ g.E) {d : St} {nm : ByteArray} (hk : e.dir = d ∧ e.name = nm) : e = ⟨d, nm, (lookE g.E d nm).getD (0, 0)⟩ := by
  obtain ⟨dir, name, ino⟩ := e
  obtain ⟨rfl, rfl⟩ := hk
  rw [(look_iff h).2 he]
  rfl

theorem few_makes {g : Gr} (h : g.fine) {o : Opn} (hm : mayO o = true) (hk1 : 1 ≤ o.k) (hk : o.k ≤ 3) (hw : makesW g o = 0) : Few g (tie1 (between g o) (oAt o) o.name (oSt o)) o := by
  obtain ⟨w1, w2, w3, _⟩ := makesW_zero hw
  obtain ⟨hs, hl⟩ := w3 (by omega)
  have hget := between_get h.ok hm hk hs hl
  have hwhy := between_why h.ok hm hk hw
  have hfine := makes_fine h hm hk hw
  have hI : (tie1 (between g o) (oAt o) o.name (oSt o)).I = (between g o).I := tie_I
  have hE : ∀ x, x ∈ (tie1 (between g o) (oAt o) o.name (oSt o)).E ↔ x = ⟨oAt o, o.name, oSt o⟩ ∨ x ∈ g.E := fun x => by
    have := tie_mem (x := x) hwhy
    rw [between_E] at this
    exact this
  have hold : ∀ x ∈ g.I, ∃ y ∈ (between g o).I, y.id = x.id ∧ y.kind = x.kind ∧ y.mode = x.mode ∧ y.data = x.data := fun x hx => by
    have hne := kindG_zero h.ok hs x hx
    have h1 : getG (between g o) x.id = some { x with links := (linksE g.E x.id : Int) } := by rw [hget, if_neg hne, h.ok.get hx]
    obtain ⟨y, hy, hyi, e⟩ := get_some h1
    exact ⟨y, hy, hyi, (congrArg Ino.kind e).symm, (congrArg Ino.mode e).symm, (congrArg Ino.data e).symm⟩
  have hnew : (oSt o) ∈ (between g o).I.map (·.id) := by
    have h1 : getG (between g o) (oSt o) = some ⟨oSt o, o.k, 0, 0, o.data⟩ := by rw [hget, if_pos rfl]
    obtain ⟨y, hy, hyi, _⟩ := get_some h1
    exact List.mem_map.2 ⟨y, hy, hyi⟩
  have hne : (⟨oAt o, o.name, oSt o⟩ : Ent) ∉ g.E := fun q => look_none w2 _ q ⟨rfl, rfl⟩
  have e1 : newN g (tie1 (between g o) (oAt o) o.name (oSt o)) = [oSt o] := by
    refine single_of (new_nodup hfine.ok g) ?_ ?_
    · unfold newN
      rw [hI]
      exact List.mem_filter.2 ⟨hnew, by rw [getG_zero h.ok hs]; rfl⟩
    · intro s hs'
      unfold newN at hs'
      rw [hI] at hs'
      obtain ⟨s1, s2⟩ := List.mem_filter.1 hs'
      obtain ⟨x, hx, rfl⟩ := List.mem_map.1 s1
      rcases between_mem h.ok hm hk hs hl hx with q | ⟨q, _⟩
      · rw [q]
      · rw [h.ok.get q] at s2
        cases s2
  have e2 : lostG (tie1 (between g o) (oAt o) o.name (oSt o)) g = [⟨oAt o, o.name, oSt o⟩] := by
    refine single_of (lost_nodup hfine.ok g) (mem_lost.2 ⟨(hE _).2 (Or.inl rfl), hne⟩) fun x hx => ?_
    obtain ⟨x1, x2⟩ := mem_lost.1 hx
    exact ((hE x).1 x1).resolve_right x2
  have e3 : lostG g (tie1 (between g o) (oAt o) o.name (oSt o)) = [] := lost_nil fun e he => (hE e).2 (Or.inr he)
  have e4 : wasG g (tie1 (between g o) (oAt o) o.name (oSt o)) = [] := was_nil h.ok hfine.ok fun x hx => by rw [hI]; exact hold x hx
  exact ⟨by rw [e1]; exact Nat.le_refl _, by rw [e3]; exact Nat.zero_le _, by rw [e2]; exact Nat.le_refl _, by rw [e4]; exact Nat.zero_le _, fun _ => ⟨e1, by rw [e2]; rfl, e3, e4⟩, fun q => by omega⟩

/-- The same inodes, and entries. -/
theorem few_link {g : Gr} (h : g.fine) {o : Opn} (hm : mayO o = true) (hk : o.k = 4) (hw : makesW g o = 0) : Few g (tie1 g (oAt o) o.name (oIno o)) o := by
  have hwhy := link_why h.ok hm hk hw
  have hfine := link_fine h hm hk hw
  have hI : (tie1 g (oAt o) o.name (oIno o)).I = g.I := tie_I
  have hE : ∀ x, x ∈ (tie1 g (oAt o) o.name (oIno o)).E ↔ x = ⟨oAt o, o.name, oIno o⟩ ∨ x ∈ g.E := fun x => tie_mem hwhy
  refine ⟨?_, ?_, lost_only hfine.ok (e := ⟨oAt o, o.name, oIno o⟩) fun x hx => ((hE x).1 hx).symm, ?_, fun q => by omega, fun q => by omega⟩
  · rw [new_nil h.ok fun x hx => ⟨x, by rw [← hI]; exact hx, rfl⟩]; exact Nat.zero_le _
  · rw [lost_nil fun e he => (hE e).2 (Or.inr he)]; exact Nat.zero_le _
  · rw [was_nil h.ok hfine.ok fun x hx => ⟨x, by rw [hI]; exact hx, rfl, rfl, rfl, rfl⟩]; exact Nat.zero_le _

theorem few_gone {g : Gr} (h : g.fine) {o : Opn} {d : St} {nm : ByteArray} {id : St} (hl : lookE g.E d nm = some id) (he : listE g.E id = []) (hk : 4 ≤ o.k) (hk8 : o.k < 8) : Few g (goneG g d nm) o := by
  have hfine := h.gone hl he
  have hq := gone_eq h.ok hl he
  rw [hq] at hfine ⊢
  have hsub : ∀ x, x ∈ (if linksE g.E id = 1 then g.I.filter (fun x => !decide (x.id = id)) else g.I) → x ∈ g.I := fun x hx => by
    split at hx
    · exact (List.mem_filter.1 hx).1
    · exact hx
  have hstay : ∀ x ∈ g.I, x.id ≠ id → x ∈ (if linksE g.E id = 1 then g.I.filter (fun x => !decide (x.id = id)) else g.I) := fun x hx hne => by
    split
    · exact List.mem_filter.2 ⟨hx, by simpa using hne⟩
    · exact hx
  refine ⟨?_, ?_, ?_, was_one h.ok hfine.ok id fun x hx hne => ⟨x, hstay x hx hne, rfl, rfl, rfl, rfl⟩, fun q => by omega, fun q => by omega⟩
  · rw [new_nil h.ok fun x hx => ⟨x, hsub x hx, rfl⟩]; exact Nat.zero_le _
  · refine Nat.le_trans (lost_only h.ok (e := ⟨d, nm, (lookE g.E d nm).getD (0, 0)⟩) fun x hx => ?_) (by decide)
    by_cases q : x.dir = d ∧ x.name = nm
    · exact Or.inr (key_one h.ok hx q)
    · exact Or.inl (mem_without.2 ⟨hx, q⟩)
  · rw [lost_nil fun e he' => (mem_without.1 he').1]; exact Nat.zero_le _

theorem few_same {g : Gr} (h : g.ok) {o : Opn} (hk : 4 ≤ o.k) : Few g g o := by
  refine ⟨?_, ?_, ?_, ?_, fun q => by omega, fun _ => ⟨lost_self g, lost_self g, new_self h⟩⟩
  · rw [new_self h]; exact Nat.zero_le _
  · rw [lost_self]; exact Nat.zero_le _
  · rw [lost_self]; exact Nat.zero_le _
  · rw [was_self h]; exact Nat.zero_le _

theorem few_rename {g : Gr} (h : g.fine) {o : Opn} (hm : mayO o = true) (hk : o.k = 7) (hw : renamesW g o = 0) (hne : targetG g o ≠ some (oIno o)) : Few g (tie1 (loosed g o) (oTo o) o.new (oIno o)) o := by
  have hL := loosed_is h hm hk hw hne
  have hC := cleared_is h (rename_lists h.ok hw hne)
  have hfine := rename_fine h hm hk hw hne
  have hI : (tie1 (loosed g o) (oTo o) o.new (oIno o)).I = (cleared g o).I := (tie_I (g := loosed g o)).trans hL.inos
  have hE : ∀ x, x ∈ (tie1 (loosed g o) (oTo o) o.new (oIno o)).E ↔ x = ⟨oTo o, o.new, oIno o⟩ ∨ (x ∈ g.E ∧ ¬ (x.dir = oTo o ∧ x.name = o.new)) ∧ ¬ (x.dir = oAt o ∧ x.name = o.name) := fun x => by
    have := tie_mem (x := x) hL.why
    rw [hL.ents, mem_without, mem_without] at this
    exact this
  refine ⟨?_, ?_, lost_only hfine.ok (e := ⟨oTo o, o.new, oIno o⟩) fun x hx => ?_, ?_, fun q => by omega, fun q => by omega⟩
  · rw [new_nil h.ok fun x hx => ⟨x, hC.sub x (by rw [← hI]; exact hx), rfl⟩]; exact Nat.zero_le _
  · refine len_two (lost_nodup h.ok _) ⟨oAt o, o.name, (lookE g.E (oAt o) o.name).getD (0, 0)⟩ ⟨oTo o, o.new, (lookE g.E (oTo o) o.new).getD (0, 0)⟩ fun x hx => ?_
    obtain ⟨x1, x2⟩ := mem_lost.1 hx
    by_cases q : x.dir = oAt o ∧ x.name = o.name
    · exact Or.inl (key_one h.ok x1 q)
    · by_cases r : x.dir = oTo o ∧ x.name = o.new
      · exact Or.inr (key_one h.ok x1 r)
      · exact absurd ((hE x).2 (Or.inr ⟨⟨x1, r⟩, q⟩)) x2
  · rcases (hE x).1 hx with q | q
    · exact Or.inr q
    · exact Or.inl q.1.1
  · refine was_one h.ok hfine.ok ((targetG g o).getD (0, 0)) fun x hx hx2 => ⟨x, by rw [hI]; exact hC.stays x hx fun q => hx2 (by rw [q]; rfl), rfl, rfl, rfl, rfl⟩

theorem few_set {g : Gr} (h : g.ok) {o : Opn} (hk : 8 ≤ o.k) (id : St) (mode : Int) (data : ByteArray) : Few g (setG g id mode data).1 o := by
  have hok := h.set id mode data
  have hE : (setG g id mode data).1.E = g.E := set_ents _ _ _ _
  have hI : ∀ x ∈ g.I, x.id ≠ id → x ∈ (setG g id mode data).1.I := fun x hx hne => by
    unfold setG
    cases getG g id with
    | none => exact hx
    | some _ => exact List.mem_map.2 ⟨x, hx, if_neg hne⟩
  have h1 : lostG g (setG g id mode data).1 = [] := lost_nil fun e he => by rw [hE]; exact he
  have h2 : lostG (setG g id mode data).1 g = [] := lost_nil fun e he => by rw [← hE]; exact he
  have h3 : newN g (setG g id mode data).1 = [] := new_nil h fun x hx => by
    obtain ⟨y, hy, e⟩ := set_mem hx
    refine ⟨y, hy, ?_⟩
    rw [e]
    split <;> rfl
  refine ⟨by rw [h3]; exact Nat.zero_le _, by rw [h1]; exact Nat.zero_le _, by rw [h2]; exact Nat.zero_le _, was_one h hok id fun x hx hne => ⟨x, hI x hx hne, rfl, rfl, rfl, rfl⟩, fun q => by omega, fun _ => ⟨h1, h2, h3⟩⟩

/-- Whatever operation is done. -/
theorem few_made {g : Gr} (h : g.fine) {o : Opn} (hw : whyA g o = 0) : Few g (madeA g o) o := by
  have hm := whyA_may hw
  obtain ⟨p1, p2, _⟩ := mayO_parts hm
  by_cases k3 : o.k ≤ 3
  · have := few_makes h hm p1 k3 (whyA_makes hw (by omega))
    unfold madeA
    rw [if_pos k3]
    exact this
  by_cases k4 : o.k = 4
  · have := few_link h hm k4 (whyA_makes hw (by omega))
    unfold madeA
    rw [if_neg k3, if_pos k4]
    exact this
  by_cases k6 : o.k ≤ 6
  · obtain ⟨r1, r2, r3, r4, _⟩ := whyA_rest hw (by omega) (by omega)
    have := few_gone (o := o) h (r1 k6) (by
      by_cases q : o.k = 6
      · exact (r4 q).2
      · exact h.ok.list_none (r3 (Or.inl (by omega)))) (by omega) (by omega)
    unfold madeA
    rw [if_neg k3, if_neg k4, if_pos k6]
    exact this
  by_cases k7 : o.k = 7
  · unfold madeA
    rw [if_neg k3, if_neg k4, if_neg k6, if_pos k7]
    by_cases ht : targetG g o = some (oIno o)
    · rw [if_pos ht]; exact few_same h.ok (by omega)
    · rw [if_neg ht]
      exact few_rename h hm k7 (whyA_renames hw k7) ht
  · rw [sets_is hm (by omega)]
    exact few_set h.ok (by omega) _ _ _

/-- With an error a record has nothing. -/
theorem few_error {g : Gr} (h : g.ok) {o : Opn} (hw : whyA g o ≠ 0) : doR g o = ⟨[], [], [], [], whyA g o⟩ := by
  have : doA g o = (g, whyA g o) := by unfold doA; rw [if_neg hw]
  unfold doR
  rw [this]
  exact diff_self h _

end Go.Proofs.YthcmgaibbpacfaaGreatDoor.GraphMath

/-
  Stamps in memory: a slice that is only read, and one that was appended to.
-/
namespace Go.Proofs.YthcmgaibbpacfaaGreatDoor
open Go.RowKit StampMath GraphMath OpMath

/-- The slice reads as stamps, and lies below block B. -/
def StsIn (W : World) (B : Nat) (A : Option Addr) (n : Nat) (l : List St) : Prop := TabIn 2 W B A n (l.map stA)

theorem StsIn.len {W : World} {B : Nat} {A : Option Addr} {n : Nat} {l : List St} (h : StsIn W B A n l) : l.length = n := by have := h.1; rwa [List.length_map] at this

def StAt (W : World) (g p : Nat) (s : St) : Prop := W.cell? ⟨g, p, none⟩ = some (.int .i64 s.1) ∧ W.cell? ⟨g, p + 1, none⟩ = some (.int .i64 s.2)

theorem StsIn.row {W : World} {B : Nat} {A : Option Addr} {n : Nat} {l : List St} (h : StsIn W B A n l) (hn : 0 < n) : ∃ g o, A = some ⟨g, o, none⟩ ∧ g < B ∧ ∀ k (hk : k < l.length), StAt W g (o + k * 2) l[k] := by
  obtain ⟨g, o, e, hg, hc⟩ := h.2 hn
  refine ⟨g, o, e, hg, fun k hk => ?_⟩
  have hk' : k < (l.map stA).length := by simpa using hk
  have he : (l.map stA)[k] = stA l[k] := by simp
  exact ⟨hc k hk' 0 _ (by rw [he]; rfl), hc k hk' 1 _ (by rw [he]; rfl)⟩

theorem StAt.below {W W' : World} {B g p : Nat} {s : St} (h : StAt W g p s) (hb : Below B W W') (hg : g < B) : StAt W' g p s :=
  ⟨(hb.cell (p := ⟨g, p, none⟩) hg).trans h.1, (hb.cell (p := ⟨g, p + 1, none⟩) hg).trans h.2⟩

theorem sts_own {W : World} {base : Nat} {v : Value} {n : Nat} {l : List St} (hn : l.length = n) (h : W.ownsRow base 24 2 v n (flat (l.map stA))) :
    ∃ (A : Option Addr) (c : Nat), v = .slice A n c ∧ StsIn W W.heap.size A n l ∧ n ≤ c ∧ c ≤ maxLen ∧ (A = Option.none → c = 0) :=
  tab_own (k := 2) (fun r hr => by obtain ⟨e, _, rfl⟩ := List.mem_map.1 hr; rfl) (by simpa using hn) h

end Go.Proofs.YthcmgaibbpacfaaGreatDoor

/-
  What the statements of layer 12 need of the package's own calls, beside those of graphs and of apply: records in memory; what tells one, what does with one, what takes back.
-/
namespace Go.Proofs.YthcmgaibbpacfaaGreatDoor
open Go.RowKit StampMath GraphMath OpMath PackMath

/-- The slice reads as rows of k cells, which lie in a block of T. -/
def TabAt (T : Nat → Prop) (k : Nat) (W : World) (A : Option Addr) (n : Nat) (rows : List (Array Value)) : Prop :=
  rows.length = n ∧ (0 < n → ∃ g o, A = some ⟨g, o, none⟩ ∧ T g ∧ g < W.heap.size ∧ ∀ j (h : j < rows.length) i v, rows[j][i]? = some v → W.cell? ⟨g, o + j * k + i, none⟩ = some v)

theorem TabAt.keep {T : Nat → Prop} {k : Nat} {W W' : World} {A : Option Addr} {n : Nat} {rows : List (Array Value)} (h : TabAt T k W A n rows) (hb : ∀ i, T i → i < W.heap.size → W'.heap[i]? = W.heap[i]?) (hs : W.heap.size ≤ W'.heap.size) : TabAt T k W' A n rows :=
  ⟨h.1, fun hn => by
    obtain ⟨g, o, e, ht, hg, hc⟩ := h.2 hn
    exact ⟨g, o, e, ht, by omega, fun j hj i v hv => (World.cell?_of_block (a := ⟨g, o + j * k + i, none⟩) (hb g ht hg)).trans (hc j hj i v hv)⟩⟩

theorem TabAt.mono {T T' : Nat → Prop} {k : Nat} {W : World} {A : Option Addr} {n : Nat} {rows : List (Array Value)} (h : TabAt T k W A n rows) (hT : ∀ i, T i → i < W.heap.size → T' i) : TabAt T' k W A n rows :=
  ⟨h.1, fun hn => by
    obtain ⟨g, o, e, ht, hg, hc⟩ := h.2 hn
    exact ⟨g, o, e, hT g ht hg, hg, hc⟩⟩

theorem TabAt.tab {T : Nat → Prop} {k : Nat} {W : World} {A : Option Addr} {n : Nat} {rows : List (Array Value)} (h : TabAt T k W A n rows) : TabIn k W W.heap.size A n rows :=
  ⟨h.1, fun hn => by
    obtain ⟨g, o, e, _, hg, hc⟩ := h.2 hn
    exact ⟨g, o, e, hg, hc⟩⟩

/-- A record in memory: its slices lie in blocks of T. -/
def RecAt (T : Nat → Prop) (W : World) (v : Value) (r : Rec) : Prop :=
  ∃ (A1 : Option Addr) (n1 c1 : Nat) (A2 : Option Addr) (n2 c2 : Nat) (A3 : Option Addr) (n3 c3 : Nat) (A4 : Option Addr) (n4 c4 : Nat),
    v = .agg #[.slice A1 n1 c1, .slice A2 n2 c2, .slice A3 n3 c3, .slice A4 n4 c4, .int .i64 r.err] ∧
    TabAt T 5 W A1 n1 (r.lost.map entA) ∧ TabAt T 5 W A2 n2 (r.made.map entA) ∧ TabAt T 6 W A3 n3 (r.was.map inoA) ∧ TabAt T 2 W A4 n4 (r.new.map stA) ∧ (A1 = none → c1 = 0) ∧ (A2 = none → c2 = 0)

theorem RecAt.keep {T : Nat → Prop} {W W' : World} {v : Value} {r : Rec} (h : RecAt T W v r) (hb : ∀ i, T i → i < W.heap.size → W'.heap[i]? = W.heap[i]?) (hs : W.heap.size ≤ W'.heap.size) : RecAt T W' v r := by
  obtain ⟨A1, n1, c1, A2, n2, c2, A3, n3, c3, A4, n4, c4, e, h1, h2, h3, h4, h5⟩ := h
  exact ⟨A1, n1, c1, A2, n2, c2, A3, n3, c3, A4, n4, c4, e, h1.keep hb hs, h2.keep hb hs, h3.keep hb hs, h4.keep hb hs, h5⟩

theorem RecAt.mono {T T' : Nat → Prop} {W : World} {v : Value} {r : Rec} (h : RecAt T W v r) (hT : ∀ i, T i → i < W.heap.size → T' i) : RecAt T' W v r := by
  obtain ⟨A1, n1, c1, A2, n2, c2, A3, n3, c3, A4, n4, c4, e, h1, h2, h3, h4, h5⟩ := h
  exact ⟨A1, n1, c1, A2, n2, c2, A3, n3, c3, A4, n4, c4, e, h1.mono hT, h2.mono hT, h3.mono hT, h4.mono hT, h5⟩

theorem RecAt.step {T : Nat → Prop} {W W' : World} {v : Value} {r : Rec} (h : RecAt T W v r) (hb : Below W.heap.size W W') : RecAt T W' v r := h.keep (fun i _ hi => hb.block i hi) hb.size

/-- The record's lists, as slices that are only read. -/
theorem RecAt.read {T : Nat → Prop} {W : World} {v : Value} {r : Rec} (h : RecAt T W v r) : ∃ (A1 : Option Addr) (c1 : Nat) (A2 : Option Addr) (c2 : Nat) (A3 : Option Addr) (c3 : Nat) (A4 : Option Addr) (c4 : Nat),
    v = .agg #[.slice A1 r.lost.length c1, .slice A2 r.made.length c2, .slice A3 r.was.length c3, .slice A4 r.new.length c4, .int .i64 r.err] ∧
    EntsIn W W.heap.size A1 r.lost.length r.lost ∧ EntsIn W W.heap.size A2 r.made.length r.made ∧ InosIn W W.heap.size A3 r.was.length r.was ∧ StsIn W W.heap.size A4 r.new.length r.new ∧ (A1 = none → c1 = 0) ∧ (A2 = none → c2 = 0) := by
  obtain ⟨A1, n1, c1, A2, n2, c2, A3, n3, c3, A4, n4, c4, e, h1, h2, h3, h4, h5⟩ := h
  obtain rfl : r.lost.length = n1 := by have := h1.1; rwa [List.length_map] at this
  obtain rfl : r.made.length = n2 := by have := h2.1; rwa [List.length_map] at this
  obtain rfl : r.was.length = n3 := by have := h3.1; rwa [List.length_map] at this
  obtain rfl : r.new.length = n4 := by have := h4.1; rwa [List.length_map] at this
  exact ⟨A1, c1, A2, c2, A3, c3, A4, c4, e, h1.tab, h2.tab, h3.tab, h4.tab, h5⟩

structure UndoHave (H : GraphHave) : Prop where
  diff : ∀ (a b : Addr) (S T : Nat → Prop) (g h : Gr) (w : World), H.rep w S a g → H.rep w T b h → g.ok → h.ok →
    Calls Tryz.prog 11 #[.pointer (some a), .pointer (some b)] w fun e w' => ∃ v, e = .returned v ∧ RecAt (fun i => w.heap.size ≤ i) w' v (diffG g h 0) ∧ Below w.heap.size w w'
  does : ∀ (a : Addr) (S : Nat → Prop) (g : Gr) (o : Opn) (w : World) [Tab w], H.rep w S a g → ¬ S 0 → g.fine → OpFit o →
    Calls Tryz.prog 14 #[.pointer (some a), .agg (opA o)] w fun e w' => ∃ S' T v, e = .returned v ∧ H.rep w' S' a (doA g o).1 ∧ (∀ i, S' i → S i ∨ w.heap.size ≤ i) ∧ But S w w' ∧ RecAt T w' v (doR g o) ∧ (∀ i, T i → w.heap.size ≤ i ∧ ¬ S' i)
  back : ∀ (a : Addr) (S T : Nat → Prop) (g : Gr) (o : Opn) (v : Value) (w : World), H.rep w S a (doA g o).1 → g.fine → OpFit o → RecAt T w v (doR g o) → (∀ i, T i → ¬ S i) →
    Calls Tryz.prog 21 #[.pointer (some a), v] w fun e w' => ∃ S', e = .returned (.tuple #[]) ∧ H.rep w' S' a g ∧ (∀ i, S' i → S i ∨ w.heap.size ≤ i) ∧ But S w w'

end Go.Proofs.YthcmgaibbpacfaaGreatDoor

/-
  A graph that is fine, beside blocks set apart: an operation is done with a record, and taken back.
-/
namespace Go.Proofs.YthcmgaibbpacfaaGreatDoor
open Go.RowKit StampMath GraphMath OpMath PackMath

/-- The graph behind operations, from a graph on, and from the root alone. -/
def runG (g : Gr) (l : List Opn) : Gr := l.foldl (fun g o => (doA g o).1) g
def runA (l : List Opn) : Gr := runG newG l

theorem runG_next (g : Gr) {l : List Opn} {k : Nat} (h : k < l.length) : runG g (l.take (k + 1)) = (doA (runG g (l.take k)) l[k]).1 := by
  unfold runG
  rw [List.take_succ_eq_append_getElem h, List.foldl_append]
  rfl

theorem runA_next {l : List Opn} {k : Nat} (h : k < l.length) : runA (l.take (k + 1)) = (doA (runA (l.take k)) l[k]).1 := runG_next newG h

theorem runG_fine {g : Gr} (h : g.fine) : ∀ l : List Opn, (runG g l).fine
  | [] => h
  | o :: l => runG_fine (h.does o) l

theorem runA_fine (l : List Opn) : (runA l).fine := runG_fine new_fine l

theorem FX.undoes {H : GraphHave} (P : UndoHave H) {w W : World} {N : Nat → Prop} {a : Addr} {g : Gr} (h : FX H w W N a g) (T : Tab w) (o : Opn) (ho : OpFit o) :
    Calls Tryz.prog 14 #[.pointer (some a), .agg (opA o)] W fun e w' => ∃ (B : Nat → Prop) (v : Value), e = .returned v ∧ FX H w w' (fun i => N i ∨ (B i ∧ i < w'.heap.size)) a (doA g o).1 ∧ RecAt (fun i => B i ∧ i < w'.heap.size) w' v (doR g o) ∧ Same N W w' ∧ (∀ i, B i → W.heap.size ≤ i) := by
  have := h.gx.tab T
  have hf := h.fine
  obtain ⟨⟨⟨S, h1, h2, h3⟩, h4, h5, h6⟩, _⟩ := h
  refine (P.does a S g o W h1 (fun q => by have := h2 _ q; have := T.lt; omega) hf ho).mono ?_
  rintro e w' ⟨S', B, v, he, k1, k2, k3, k4, k5⟩
  have r := GX.mut h2 h3 h5 h6 k1 k2 k3 (hf.does o).ok
  refine ⟨B, v, he, ⟨⟨⟨S', k1, fun i hi => (k2 i hi).elim (h2 i) (Nat.le_trans h6.size), fun i hi hs => ?_⟩, (hf.does o).ok, fun i hi => ?_, r.1.below⟩, hf.does o⟩, k4.mono fun i hi hl => ⟨hi, hl⟩, r.2, fun i hi => (k5 i hi).1⟩
  · rcases hi with hi | hi
    · exact (k2 i hs).elim (h3 i hi) fun q => by have := h5 i hi; omega
    · exact (k5 i hi.1).2 hs
  · rcases hi with hi | hi
    · exact Nat.lt_of_lt_of_le (h5 i hi) k3.size
    · exact hi.2

theorem FX.back {H : GraphHave} (P : UndoHave H) {w W : World} {N T : Nat → Prop} {a : Addr} {g : Gr} {o : Opn} {v : Value} (h : FX H w W N a (doA g o).1) (hg : g.fine) (ho : OpFit o) (hr : RecAt T W v (doR g o)) (hT : ∀ i, T i → N i) :
    Calls Tryz.prog 21 #[.pointer (some a), v] W fun e w' => e = .returned (.tuple #[]) ∧ FX H w w' N a g ∧ Same N W w' := by
  obtain ⟨⟨⟨S, h1, h2, h3⟩, h4, h5, h6⟩, _⟩ := h
  refine (P.back a S T g o v W h1 hg ho hr fun i hi => h3 i (hT i hi)).mono ?_
  rintro e w' ⟨S', he, k1, k2, k3⟩
  have r := GX.mut h2 h3 h5 h6 k1 k2 k3 hg.ok
  exact ⟨he, ⟨r.1, hg⟩, r.2⟩

/-- Two graphs beside each other: what one lost, and got. -/
theorem FX.diff {H : GraphHave} (P : UndoHave H) {w w' W : World} {N N' : Nat → Prop} {a b : Addr} {g h : Gr} (x : FX H w W N a g) (y : FX H w' W N' b h) :
    Calls Tryz.prog 11 #[.pointer (some a), .pointer (some b)] W fun e w1 => ∃ v, e = .returned v ∧ RecAt (fun i => W.heap.size ≤ i) w1 v (diffG g h 0) ∧ Below W.heap.size W w1 := by
  obtain ⟨S, h1, _⟩ := x.gx.at'
  obtain ⟨T, h2, _⟩ := y.gx.at'
  exact P.diff a b S T g h W h1 h2 x.fine.ok y.fine.ok

end Go.Proofs.YthcmgaibbpacfaaGreatDoor

/-
  Entries are few. It needs no program.
-/
namespace Go.Proofs.YthcmgaibbpacfaaGreatDoor
open StampMath GraphMath

/-- Entries are few. -/
theorem ents_few : ∀ (ids : List St) (E : List Ent), (∀ e ∈ E, e.ino ∈ ids) → (∀ id, linksE E id ≤ 6) → E.length ≤ 6 * ids.length
  | [], E, h, _ => by
    cases E with
    | nil => simp
    | cons e l => exact absurd (h e (List.mem_cons_self ..)) (by simp)
  | d :: ids, E, h, h6 => by
    have h1 : (E.filter fun e => decide (e.ino = d)).length ≤ 6 := h6 d
    have h2 := ents_few ids (E.filter fun e => !decide (e.ino = d)) (fun e he => by
      have hm := List.mem_filter.1 he
      have hne : ¬ e.ino = d := by simpa using hm.2
      rcases List.mem_cons.1 (h e hm.1) with q | q
      · exact absurd q hne
      · exact q) (fun id => by
      refine Nat.le_trans ?_ (h6 id)
      unfold linksE
      exact (List.filter_sublist.filter _).length_le)
    have h3 : ∀ l : List Ent, l.length = (l.filter fun e => decide (e.ino = d)).length + (l.filter fun e => !decide (e.ino = d)).length := by
      intro l
      induction l with
      | nil => rfl
      | cons e l ih =>
        by_cases q : e.ino = d
        · simp [q]; omega
        · simp [q]; omega
    rw [h3 E, List.length_cons]
    omega

theorem GraphMath.Gr.ok.entsFew {g : Gr} (h : g.ok) : g.E.length ≤ 240 := by
  have h1 := ents_few (g.I.map fun x => x.id) g.E (fun e he => by
    obtain ⟨x, hx, e1⟩ := h.inos e he
    exact List.mem_map.2 ⟨x, hx, e1⟩) h.six
  rw [List.length_map] at h1
  have := h.few
  omega

end Go.Proofs.YthcmgaibbpacfaaGreatDoor

/-
  What a graph tells, in later worlds.
-/
namespace Go.Proofs.YthcmgaibbpacfaaGreatDoor
open Go.RowKit StampMath GraphMath OpMath

theorem inos_later {W W' : World} {A : Option Addr} {n : Nat} {I : List Ino} (h : InosIn W W.heap.size A n I) (hb : Below W.heap.size W W') : InosIn W' W'.heap.size A n I := (h.below hb).more hb.size
theorem ents_later {W W' : World} {A : Option Addr} {n : Nat} {E : List Ent} (h : EntsIn W W.heap.size A n E) (hb : Below W.heap.size W W') : EntsIn W' W'.heap.size A n E := (h.below hb).more hb.size

/-- What a graph tells, in later worlds. -/
theorem told_inos (H : GraphHave) {w : World} {S : Nat → Prop} {a : Addr} {g : Gr} (h : H.rep w S a g) (hg : g.ok) {W : World} (hW : Below w.heap.size w W) : Calls Tryz.prog 25 #[.pointer (some a)] W (InosPost (inodesG g) W) := by
  refine (H.inodes a S g W (H.keep h fun i hi => hW.block i (H.lt h i hi)) hg).mono ?_
  rintro e w' ⟨v, rfl, hown, hb⟩
  obtain ⟨B, c, rfl, q1, q2, q3⟩ := inos_own rfl hown
  exact ⟨B, c, rfl, q1, q2, q3.1, q3.2, hb⟩

theorem told_ents (H : GraphHave) {w : World} {S : Nat → Prop} {a : Addr} {g : Gr} (h : H.rep w S a g) (hg : g.ok) {W : World} (hW : Below w.heap.size w W) : Calls Tryz.prog 26 #[.pointer (some a)] W (EntsPost g.E W) := by
  refine (H.entries a S g W (H.keep h fun i hi => hW.block i (H.lt h i hi)) hg).mono ?_
  rintro e w' ⟨v, rfl, hown, hb⟩
  obtain ⟨B, c, rfl, q1, q2, q3⟩ := ents_own rfl hown
  exact ⟨B, c, rfl, q1, q2, q3.1, q3.2, hb⟩

end Go.Proofs.YthcmgaibbpacfaaGreatDoor

/-
  The head of layer 12's statements: the document's example.
-/
namespace Go.Proofs.YthcmgaibbpacfaaGreatDoor
open Go.RowKit StampMath GraphMath OpMath PackMath

/-- The example's operation. -/
def uhO : Opn := ⟨1, 0, 2, 0, 0, 0, 0, 0, 0, ⟨#[102]⟩, ⟨#[]⟩, 0, ⟨#[]⟩⟩

set_option maxRecDepth 100000 in
theorem uh_ops : (doR newG uhO).err = 0 ∧ (doR newG uhO).made.length = 1 ∧ (doR newG uhO).new.length = 1 ∧ (inodesG (doA newG uhO).1).length = 2 ∧ (inodesG newG).length = 1 ∧ newG.E.length = 0 := by decide +kernel

theorem uh_fit : OpFit uhO := ⟨by constructor <;> simp [uhO, IsI64], by decide, by decide, by decide⟩

/-- A record's five cells. -/
theorem rec_cells {w : World} {g : Nat} {a b c d e : Value} {T : TypeId} (h : w.heap[g]? = some (.cells #[a, b, c, d, e] T (0, 0))) :
    w.cell? ⟨g, 0, none⟩ = some a ∧ w.cell? ⟨g, 1, none⟩ = some b ∧ w.cell? ⟨g, 2, none⟩ = some c ∧ w.cell? ⟨g, 3, none⟩ = some d ∧ w.cell? ⟨g, 4, none⟩ = some e :=
  ⟨cell_of_row _ _ 0 _ _ (0, 0) h, cell_of_row _ _ 1 _ _ (0, 0) h, cell_of_row _ _ 2 _ _ (0, 0) h, cell_of_row _ _ 3 _ _ (0, 0) h, cell_of_row _ _ 4 _ _ (0, 0) h⟩

set_option maxRecDepth 100000 in
set_option maxHeartbeats 1600000 in
theorem UndoHave.shown {H : GraphHave} (P : UndoHave H) (w : World) (T : Tab w) :
    Calls Tryz.prog 8 #[] w fun e w' => e = .returned (.bool true) ∧ Below w.heap.size w w' := by
  have HR := Lib.hid uh_ops
  go_enter Tryz.func8, Tryz.ntmps8
  go_wp2_with fail
  refine (GX.new (H := H) (Below.refl w.heap.size w) (fun _ => False) (fun _ h => h.elim)).mono ?_
  rintro e w1 ⟨a, rfl, g1, _⟩
  have D1 := Lib.hid (FX.undoes P ⟨g1, new_fine⟩ T uhO uh_fit)
  unfold opA uhO at D1
  clear g1
  go_wp2_with fail
  refine D1.out.mono ?_
  rintro e w2 ⟨B, v, rfl, q2, hr2, _, hB⟩
  have Q2 : Hid (FX H w w2 (fun i => False ∨ (B i ∧ i < w2.heap.size)) a (doA newG uhO).1) := q2
  have R2 : Hid (RecAt (fun i => B i ∧ i < w2.heap.size) w2 v (doR newG uhO)) := hr2
  obtain ⟨A1, c1, A2, c2, A3, c3, A4, c4, e, _⟩ := R2.out.read
  obtain ⟨n1, hn1⟩ : ∃ n, n = (doR newG uhO).lost.length := ⟨_, rfl⟩
  obtain ⟨n3, hn3⟩ : ∃ n, n = (doR newG uhO).was.length := ⟨_, rfl⟩
  rw [← hn1, ← hn3, HR.out.1, HR.out.2.1, HR.out.2.2.1] at e
  subst e
  clear q2 hr2 hB D1 hn1 hn3
  go_upto_region 3 with fail
  obtain ⟨u, hu⟩ : ∃ u, u = w2.heap.size := ⟨_, rfl⟩
  have hbA : Below w2.heap.size w2 (w2.alloc (.cells #[.slice A1 n1 c1, .slice A2 1 c2, .slice A3 n3 c3, .slice A4 1 c4, .int .i64 0] 36)) := (Below.refl _ _).alloc (Nat.le_refl _) _
  have Q3 := Lib.hid (And.intro (Q2.out.gx.grow hbA) Q2.out.fine)
  have R3 := Lib.hid (R2.out.step hbA)
  have B3 : Hid ((w2.alloc (.cells #[.slice A1 n1 c1, .slice A2 1 c2, .slice A3 n3 c3, .slice A4 1 c4, .int .i64 0] 36)).heap[u]? = some (.cells #[.slice A1 n1 c1, .slice A2 1 c2, .slice A3 n3 c3, .slice A4 1 c4, .int .i64 0] 36 (0, 0))) := Lib.hid (by rw [hu]; exact heap_alloc_new _ _)
  have NU : Hid (w2.heap.size ≤ u ∧ u < (w2.alloc (.cells #[.slice A1 n1 c1, .slice A2 1 c2, .slice A3 n3 c3, .slice A4 1 c4, .int .i64 0] 36)).heap.size) := Lib.hid ⟨by omega, by rw [World.size_alloc]; omega⟩
  change Code.wp _ _ _ _ (w2.alloc (.cells #[.slice A1 n1 c1, .slice A2 1 c2, .slice A3 n3 c3, .slice A4 1 c4, .int .i64 0] 36))
  rw [← hu]
  generalize w2.alloc (.cells #[.slice A1 n1 c1, .slice A2 1 c2, .slice A3 n3 c3, .slice A4 1 c4, .int .i64 0] 36) = w3 at Q3 R3 B3 NU ⊢
  clear hbA hu Q2 R2
  obtain ⟨S3, r3, _⟩ := Q3.out.1.at'
  have I3 := Lib.hid (told_inos H r3 Q3.out.2.ok (Below.refl _ _))
  unfold InosPost at I3
  rw [HR.out.2.2.2.1] at I3
  clear r3
  go_wp2_with fail
  refine I3.out.mono ?_
  rintro e w4 ⟨B4, k4, rfl, _, _, _, _, hb4⟩
  have h4 := (hb4.block _ (heap_lt B3.out)).trans B3.out
  have D4 := Lib.hid (FX.back P (T := fun i => B i ∧ i < w2.heap.size) (⟨Q3.out.1.step hb4, Q3.out.2⟩ : FX H w w4 _ a (doA newG uhO).1) new_fine uh_fit (R3.out.step hb4) (fun i hi => Or.inl (Or.inr hi)))
  have H4 := Lib.hid h4
  obtain ⟨x0, x1, x2, x3, x4⟩ := rec_cells h4
  clear h4 I3 Q3 R3 B3 hb4
  go_wp2_with fail
  refine D4.out.mono ?_
  rintro e w5 ⟨rfl, q5, s5⟩
  have h5 := (s5.2 u (Or.inr NU.out)).trans H4.out
  have Q5 := Lib.hid q5
  clear x0 x1 x2 x3 x4 D4 H4 NU q5 s5
  obtain ⟨x0, x1, x2, x3, x4⟩ := rec_cells h5
  obtain ⟨S5, r5, _⟩ := Q5.out.gx.at'
  have I5 := Lib.hid (told_inos H r5 Q5.out.fine.ok (Below.refl _ _))
  have E5 : Hid (∀ W, Below w5.heap.size w5 W → Calls Tryz.prog 26 #[.pointer (some a)] W (EntsPost newG.E W)) := Lib.hid fun W hW => told_ents H r5 Q5.out.fine.ok hW
  unfold InosPost at I5
  unfold EntsPost at E5
  rw [HR.out.2.2.2.2.1] at I5
  rw [HR.out.2.2.2.2.2] at E5
  have HB := Lib.hid Q5.out.below
  clear r5 h5 Q5
  go_wp2_with fail
  refine I5.out.mono ?_
  rintro e w6 ⟨B6, k6, rfl, _, _, _, _, hb6⟩
  go_wp2_with fail
  refine (E5.out _ hb6).mono ?_
  rintro e w7 ⟨B7, k7, rfl, _, _, _, _, hb7⟩
  go_wp2_with fail
  go_ret
  exact ⟨rfl, below_step (below_step HB.out hb6) hb7⟩

end Go.Proofs.YthcmgaibbpacfaaGreatDoor

/-
  The walk of layer 12's few and made: operations are done, one behind the other.
-/
namespace Go.Proofs.YthcmgaibbpacfaaGreatDoor
open Go.RowKit StampMath GraphMath OpMath PackMath

set_option maxRecDepth 100000 in
theorem fewU_any (A : Option Addr) (n c : Nat) (w : World) :
    Calls Tryz.prog 9 #[.slice A n c] w fun e w' => e = .returned (.bool (decide (n ≤ 60))) ∧ Below w.heap.size w w' := by
  have hd : decide (n ≤ 60) = decide ((n : Int) ≤ 60) := by rw [decide_eq_decide]; omega
  rw [hd]
  go_enter Tryz.func9, Tryz.ntmps9
  go_wp2_with fail
  go_ret
  exact ⟨rfl, Below.refl _ _⟩

set_option maxRecDepth 100000 in
set_option maxHeartbeats 1600000 in
theorem madeU_any {H : GraphHave} (P : ApplyHave H) (A : Option Addr) (n c : Nat) (l : List Opn) (hn : n ≤ 60) (hfit : ∀ o ∈ l, OpFit o) (w : World) (T : Tab w) (h : OpsIn w w.heap.size A n l) :
    Calls Tryz.prog 10 #[.slice A n c] w fun e w' => ∃ a, e = .returned (.pointer (some a)) ∧ FX H w w' (fun _ => False) a (runA l) := by
  have hl := h.len
  have HX := Lib.hid h
  have HL := Lib.hid hl
  have HN := Lib.hid hfit
  clear h hl hfit
  go_enter Tryz.func10, Tryz.ntmps10
  go_wp2_with fail
  refine (GX.new (H := H) (Below.refl w.heap.size w) (fun _ => False) (fun _ h => h.elim)).mono ?_
  rintro e w2 ⟨a, rfl, g2, _⟩
  have G2 : Hid (FX H w w2 (fun _ => False) a newG) := ⟨g2, new_fine⟩
  clear g2
  go_wp2_with fail
  go_loopg [4] 61 (fun gk i wr => ∃ (k : Nat), i = .int .i64 (k : Int) ∧ gk + k = 61 ∧ k ≤ n ∧ Hid (FX H w wr (fun _ => False) a (runA (l.take k))))
  case atStart => exact ⟨0, rfl, by omega, by omega, G2⟩
  case round =>
    obtain ⟨k, rfl, hgk, hk, hG⟩ := hrel
    have HG := Lib.hid hgk
    clear hgk G2
    by_cases hlt : k < n
    · obtain ⟨gi, o, rfl, hg, hcell⟩ := HX.out.row (by omega)
      have lk : k < l.length := by have := HL.out; omega
      obtain ⟨d0, d1, d2, d3, d4, d5, d6, d7, d8, d9, d10, d11, d12⟩ := (hcell k lk).below hG.out.below hg
      have hnm := HN.out _ (List.getElem_mem lk)
      obtain ⟨d, hd⟩ : ∃ d, l[k] = d := ⟨_, rfl⟩
      have hnx := runA_next (l := l) (k := k) lk
      rw [hd] at d0 d1 d2 d3 d4 d5 d6 d7 d8 d9 d10 d11 d12 hnm hnx
      have HNX := Lib.hid hnx
      have HD := Lib.hid (hG.out.does P T d hnm)
      unfold opA at HD
      have hi0 : (0 : Int) ≤ (k : Int) := by omega
      have hi1 : (k : Int) < (n : Int) := by omega
      clear hcell hd hnm hnx lk
      go_wp2_with fail
      refine HD.out.mono ?_
      rintro e w3 ⟨rfl, q, _⟩
      have Q := Lib.hid q
      clear q d0 d1 d2 d3 d4 d5 d6 d7 d8 d9 d10 d11 d12 HD
      go_wp2_with fail
      go_roundg (gk - 1)
      case measure => have := HG.out; omega
      case rel => exact ⟨k + 1, by go_num, by have := HG.out; omega, by omega, by rw [HNX.out]; exact Q⟩
    · have hc : ¬ (k : Int) < (n : Int) := by omega
      clear hlt
      go_wp2_with fail
      go_ret
      exact ⟨a, rfl, by have := hG.out; rwa [List.take_of_length_le (by have := HL.out; omega)] at this⟩

end Go.Proofs.YthcmgaibbpacfaaGreatDoor

/-
  Two entries, two inodes held against each other, as the walk meets it.
-/
namespace Go.Proofs.YthcmgaibbpacfaaGreatDoor
open Go.RowKit StampMath GraphMath

theorem ent_ext {a b : Ent} (h1 : a.dir.1 = b.dir.1) (h2 : a.dir.2 = b.dir.2) (h3 : a.name.toList = b.name.toList) (h4 : a.ino.1 = b.ino.1) (h5 : a.ino.2 = b.ino.2) : a = b := by
  obtain ⟨⟨_, _⟩, _, ⟨_, _⟩⟩ := a
  obtain ⟨⟨_, _⟩, _, ⟨_, _⟩⟩ := b
  have e := bytes_same h3
  simp_all

theorem ino_ext {a b : Ino} (h1 : a.id.1 = b.id.1) (h2 : a.id.2 = b.id.2) (h3 : a.kind = b.kind) (h4 : a.links = b.links) (h5 : a.mode = b.mode) (h6 : a.data.toList = b.data.toList) : a = b := by
  obtain ⟨⟨_, _⟩, _, _, _, _⟩ := a
  obtain ⟨⟨_, _⟩, _, _, _, _⟩ := b
  have e := bytes_same h6
  simp_all

theorem run_eqEnt (a b : Ent) (W : World) : (Op.equalIn 10000 66 (.agg #[.int .i64 a.dir.1, .int .i64 a.dir.2, .string a.name, .int .i64 a.ino.1, .int .i64 a.ino.2]) (.agg #[.int .i64 b.dir.1, .int .i64 b.dir.2, .string b.name, .int .i64 b.ino.1, .int .i64 b.ino.2])).run Tryz.prog W = .ok (decide (a = b)) W := by
  go_simp
  by_cases e : a = b
  · subst e
    simp
  · rw [decide_eq_false e]
    by_cases h1 : a.dir.1 = b.dir.1
    · rw [if_pos h1]
      by_cases h2 : a.dir.2 = b.dir.2
      · rw [if_pos h2]
        by_cases h3 : a.name.toList = b.name.toList
        · rw [if_pos h3]
          by_cases h4 : a.ino.1 = b.ino.1
          · rw [if_pos h4]
            by_cases h5 : a.ino.2 = b.ino.2
            · exact absurd (ent_ext h1 h2 h3 h4 h5) e
            · simp [h5]
          · rw [if_neg h4]
        · rw [if_neg h3]
      · rw [if_neg h2]
    · rw [if_neg h1]

theorem run_eqIno (a b : Ino) (W : World) : (Op.equalIn 10000 70 (.agg #[.int .i64 a.id.1, .int .i64 a.id.2, .int .i64 a.kind, .int .i64 a.links, .int .i64 a.mode, .string a.data]) (.agg #[.int .i64 b.id.1, .int .i64 b.id.2, .int .i64 b.kind, .int .i64 b.links, .int .i64 b.mode, .string b.data])).run Tryz.prog W = .ok (decide (a = b)) W := by
  go_simp
  by_cases e : a = b
  · subst e
    simp
  · rw [decide_eq_false e]
    by_cases h1 : a.id.1 = b.id.1
    · rw [if_pos h1]
      by_cases h2 : a.id.2 = b.id.2
      · rw [if_pos h2]
        by_cases h3 : a.kind = b.kind
        · rw [if_pos h3]
          by_cases h4 : a.links = b.links
          · rw [if_pos h4]
            by_cases h5 : a.mode = b.mode
            · rw [if_pos h5]
              by_cases h6 : a.data.toList = b.data.toList
              · exact absurd (ino_ext h1 h2 h3 h4 h5 h6) e
              · simp [h6]
            · rw [if_neg h5]
          · rw [if_neg h4]
        · rw [if_neg h3]
      · rw [if_neg h2]
    · rw [if_neg h1]

end Go.Proofs.YthcmgaibbpacfaaGreatDoor

/-
  Rows of a call's own, kept through calls and through a write to another block. It needs no program.
-/
namespace Go.Proofs.YthcmgaibbpacfaaGreatDoor
open Go.RowKit

/-- Has the call made the block r, and the blocks from base on alone? -/
theorem own_iter {w w' : World} {base r : Nat} {e : TypeId} {k : Nat} {v : Value} {n : Nat} {xs : List Value} (h : w.ownsRow base e k v n xs) (hb : But (fun i => i = r) w w') (hr : r < base) : w'.ownsRow base e k v n xs :=
  h.kept (row := some r) ⟨hb.os, hb.tape, hb.output, hb.size, fun i hi hn => hb.block i hi fun q => hn (by rw [q])⟩ (by
    cases hv : v.ownBlock with
    | none => exact .inl rfl
    | some j => exact .inr (fun q => by have := (h.lt j hv).1; injection q with q; omega))

/-- A call that leaves all that was there leaves the row. -/
theorem own_call {w w' : World} {base : Nat} {e : TypeId} {k : Nat} {v : Value} {n : Nat} {xs : List Value} (h : w.ownsRow base e k v n xs) (hb : Below w.heap.size w w') : w'.ownsRow base e k v n xs :=
  h.kept (row := none) ⟨hb.os, hb.tape, hb.output, hb.size, fun i hi _ => hb.block i hi⟩ (by
    cases hv : v.ownBlock with
    | none => exact .inl rfl
    | some j => exact .inr (fun q => by cases q))

theorem own_lower {w : World} {b b' : Nat} {e : TypeId} {k : Nat} {v : Value} {n : Nat} {xs : List Value} (h : w.ownsRow b e k v n xs) (hb : b' ≤ b) : w.ownsRow b' e k v n xs := by
  obtain ⟨h0, h1 | ⟨g, cap, cur, h1, h2, h3⟩⟩ := h
  · exact ⟨h0, Or.inl h1⟩
  · exact ⟨h0, Or.inr ⟨g, cap, cur, h1, Nat.le_trans hb h2, h3⟩⟩

end Go.Proofs.YthcmgaibbpacfaaGreatDoor

/-
  Plain mathematics of layer 12: what came is untied and dropped, what was otherwise is made and set, what was lost is tied: then all is as it was. It needs no program.
-/
namespace Go.Proofs.YthcmgaibbpacfaaGreatDoor.GraphMath
open StampMath OpMath ExtentMath

def untieAll (g : Gr) (L : List Ent) : Gr := L.foldl (fun g e => (untieG g e.dir e.name).1) g
def dropAll (g : Gr) (L : List St) : Gr := L.foldl (fun g s => (dropG g s).1) g
def remake (g : Gr) (x : Ino) : Gr := (setG (makeG g x.id x.kind).1 x.id x.mode x.data).1
def remakeAll (g : Gr) (L : List Ino) : Gr := L.foldl remake g
def tieAll (g : Gr) (L : List Ent) : Gr := L.foldl (fun g e => (tieG (nameB e.name) g e).1) g

/-- What undo.Back makes of a graph. -/
def backG (g : Gr) (r : Rec) : Gr := tieAll (remakeAll (dropAll (untieAll g r.made) r.new) r.was) r.lost

theorem foldl_next {α β : Type} (f : β → α → β) (g : β) {l : List α} {k : Nat} (h : k < l.length) : (l.take (k + 1)).foldl f g = f ((l.take k).foldl f g) l[k] := by
  rw [List.take_succ_eq_append_getElem h, List.foldl_append]
  rfl

theorem untieAll_ok {g : Gr} (h : g.ok) : ∀ L : List Ent, (untieAll g L).ok
  | [] => h
  | e :: L => untieAll_ok (h.untie e.dir e.name) L

theorem dropAll_ok {g : Gr} (h : g.ok) : ∀ L : List St, (dropAll g L).ok
  | [] => h
  | s :: L => dropAll_ok (h.drop s) L

theorem remake_ok {g : Gr} (h : g.ok) (x : Ino) : (remake g x).ok := (h.make _ _).set _ _ _

theorem remakeAll_ok {g : Gr} (h : g.ok) : ∀ L : List Ino, (remakeAll g L).ok
  | [] => h
  | x :: L => remakeAll_ok (remake_ok h x) L

theorem tieAll_ok {g : Gr} (h : g.ok) : ∀ L : List Ent, (tieAll g L).ok
  | [] => h
  | e :: L => tieAll_ok (h.tie _ e) L

/-! ### untied -/

theorem untie_I (g : Gr) (d : St) (nm : ByteArray) : (untieG g d nm).1.I = g.I := by
  unfold untieG
  split <;> rfl

theorem untie_mem {g : Gr} {d : St} {nm : ByteArray} {e : Ent} : e ∈ (untieG g d nm).1.E ↔ e ∈ g.E ∧ ¬ (e.dir = d ∧ e.name = nm) := by
  cases hl : lookE g.E d nm with
  | none =>
    have := look_none hl
    have e1 : (untieG g d nm).1 = g := by unfold untieG; rw [hl]
    rw [e1]
    exact ⟨fun q => ⟨q, this e q⟩, fun q => q.1⟩
  | some id =>
    rw [untie_eq hl]
    exact mem_without

theorem untieAll_I : ∀ (L : List Ent) (g : Gr), (untieAll g L).I = g.I
  | [], _ => rfl
  | e :: L, g => (untieAll_I L _).trans (untie_I g e.dir e.name)

theorem untieAll_mem {x : Ent} : ∀ (L : List Ent) (g : Gr), x ∈ (untieAll g L).E ↔ x ∈ g.E ∧ ∀ a ∈ L, ¬ (x.dir = a.dir ∧ x.name = a.name)
  | [], g => ⟨fun q => ⟨q, fun _ ha => nomatch ha⟩, fun q => q.1⟩
  | e :: L, g => by
    show x ∈ (untieAll (untieG g e.dir e.name).1 L).E ↔ _
    rw [untieAll_mem L, untie_mem, and_assoc]
    refine and_congr_right fun _ => ⟨fun ⟨h1, h2⟩ a ha => ?_, fun h => ⟨h e (List.mem_cons_self ..), fun a ha => h a (List.mem_cons_of_mem _ ha)⟩⟩
    rcases List.mem_cons.1 ha with rfl | ha
    · exact h1
    · exact h2 a ha

/-- What came is untied: what both have stays. -/
theorem back_untied {g g' : Gr} (h' : g'.ok) {x : Ent} : x ∈ (untieAll g' (lostG g' g)).E ↔ x ∈ g'.E ∧ x ∈ g.E := by
  rw [untieAll_mem]
  refine and_congr_right fun hx => ⟨fun h => Classical.byContradiction fun q => h x (mem_lost.2 ⟨hx, q⟩) ⟨rfl, rfl⟩, fun hg a ha hk => ?_⟩
  obtain ⟨a1, a2⟩ := mem_lost.1 ha
  have e1 := key_one h' hx hk
  have e2 := key_one h' a1 (d := a.dir) (nm := a.name) ⟨rfl, rfl⟩
  rw [← e2] at e1
  rw [e1] at hg
  exact a2 hg

/-! ### dropped -/

theorem dropAll_E : ∀ (L : List St) (g : Gr), (dropAll g L).E = g.E
  | [], _ => rfl
  | s :: L, g => (dropAll_E L _).trans (drop_ents g s)

theorem drop_mem {g : Gr} {s : St} (h0 : s ≠ (0, 0)) (hE : ∀ e ∈ g.E, e.ino ≠ s ∧ e.dir ≠ s) {x : Ino} : x ∈ (dropG g s).1.I ↔ x ∈ g.I ∧ x.id ≠ s := by
  unfold dropG
  cases hg : getG g s with
  | none => exact ⟨fun q => ⟨q, get_none hg x q⟩, fun q => q.1⟩
  | some y =>
    dsimp only
    obtain ⟨z, hz, hzi, rfl⟩ := get_some hg
    have hl : linksE g.E s = 0 := by
      unfold linksE
      rw [List.length_eq_zero_iff, List.filter_eq_nil_iff]
      intro e he
      simp [(hE e he).1]
    have hn : listE g.E s = [] := by
      unfold listE
      rw [List.filter_eq_nil_iff]
      intro e he
      simp [(hE e he).2]
    rw [if_neg h0, if_neg (by rw [hn, hl]; simp), List.mem_filter]
    simp

theorem dropAll_mem {x : Ino} : ∀ (L : List St) (g : Gr), (∀ s ∈ L, s ≠ (0, 0) ∧ ∀ e ∈ g.E, e.ino ≠ s ∧ e.dir ≠ s) → (x ∈ (dropAll g L).I ↔ x ∈ g.I ∧ ∀ s ∈ L, x.id ≠ s)
  | [], g, _ => ⟨fun q => ⟨q, fun _ ha => nomatch ha⟩, fun q => q.1⟩
  | s :: L, g, h => by
    show x ∈ (dropAll (dropG g s).1 L).I ↔ _
    obtain ⟨h1, h2⟩ := h s (List.mem_cons_self ..)
    rw [dropAll_mem L _ (fun t ht => by rw [drop_ents]; exact h t (List.mem_cons_of_mem _ ht)), drop_mem h1 h2, and_assoc]
    refine and_congr_right fun _ => ⟨fun ⟨q1, q2⟩ a ha => ?_, fun q => ⟨q s (List.mem_cons_self ..), fun a ha => q a (List.mem_cons_of_mem _ ha)⟩⟩
    rcases List.mem_cons.1 ha with rfl | ha
    · exact q1
    · exact q2 a ha

theorem mem_new {a b : Gr} {s : St} : s ∈ newN a b ↔ (∃ x ∈ b.I, x.id = s) ∧ getG a s = none := by
  unfold newN
  rw [List.mem_filter, List.mem_map, Bool.not_eq_true', Option.isSome_eq_false_iff, Option.isNone_iff_eq_none]

/-! ### made and set -/

/-- An inode as a graph's list has it. -/
def bare1 (x : Ino) : Ino := ⟨x.id, x.kind, 0, x.mode, x.data⟩

theorem remake_E (g : Gr) (x : Ino) : (remake g x).E = g.E := by unfold remake; rw [set_ents, make_ents]

theorem remakeAll_E : ∀ (L : List Ino) (g : Gr), (remakeAll g L).E = g.E
  | [], _ => rfl
  | x :: L, g => (remakeAll_E L _).trans (remake_E g x)

theorem set_mem_iff {g : Gr} (hg : g.ok) {x : Ino} (hx : x ∈ g.I) (mode : Int) (data : ByteArray) {y : Ino} : y ∈ (setG g x.id mode data).1.I ↔ (y ∈ g.I ∧ y.id ≠ x.id) ∨ y = { x with mode := mode, data := data } := by
  have hs : (setG g x.id mode data).1.I = g.I.map fun z => if z.id = x.id then { z with mode := mode, data := data } else z := by unfold setG; rw [hg.get hx]
  rw [hs, List.mem_map]
  constructor
  · rintro ⟨z, hz, rfl⟩
    by_cases q : z.id = x.id
    · rw [if_pos q, hg.ids hz hx q]; exact Or.inr rfl
    · rw [if_neg q]; exact Or.inl ⟨hz, q⟩
  · rintro (⟨h1, h2⟩ | rfl)
    · exact ⟨y, h1, by rw [if_neg h2]⟩
    · exact ⟨x, hx, by rw [if_pos rfl]⟩

theorem ids_le {g : Gr} (h : g.ok) {M : List St} (hM : ∀ x ∈ g.I, x.id ∈ M) {s : St} (hs : s ∈ M) (hn : ∀ x ∈ g.I, x.id ≠ s) : g.I.length + 1 ≤ M.length := by
  have := nodup_le (L := s :: g.I.map (·.id)) (M := M) (List.nodup_cons.2 ⟨fun q => by
    obtain ⟨x, hx, e⟩ := List.mem_map.1 q
    exact hn x hx e, h.nodupId⟩) (fun x hx => by
    rcases List.mem_cons.1 hx with rfl | hx
    · exact hs
    · obtain ⟨y, hy, rfl⟩ := List.mem_map.1 hx
      exact hM y hy)
  rwa [List.length_cons, List.length_map] at this

theorem remake_mem {g : Gr} (h : g.ok) {M : List St} (hM : ∀ x ∈ g.I, x.id ∈ M) (h40 : M.length ≤ 40) {x : Ino} (hx : x.id ∈ M) (hm : mayB x.id.1 x.id.2 = true) (hk : 1 ≤ x.kind ∧ x.kind ≤ 3) (hs : ∀ z ∈ g.I, z.id = x.id → z.kind = x.kind) {y : Ino} :
    y ∈ (remake g x).I ↔ (y ∈ g.I ∧ y.id ≠ x.id) ∨ y = bare1 x := by
  have c1 : ¬ (mayB x.id.1 x.id.2 = false ∨ x.kind < 1 ∨ 3 < x.kind) := by
    rintro (q | q | q)
    · rw [hm] at q; cases q
    · omega
    · omega
  unfold remake
  cases hg : getG g x.id with
  | some v =>
    obtain ⟨z, hz, hzi, rfl⟩ := get_some hg
    have e1 : (makeG g x.id x.kind).1 = g := by unfold makeG; rw [if_neg c1, if_pos (by rw [hg]; rfl)]
    have e2 : ({ z with mode := x.mode, data := x.data } : Ino) = bare1 x := by
      obtain ⟨i, k, l, m, d⟩ := z
      have a1 := h.links0 _ hz
      have a2 := hs _ hz hzi
      simp only at a1 a2 hzi
      subst a1 a2 hzi
      rfl
    rw [e1, ← hzi, set_mem_iff h hz, e2]
  | none =>
    have hn := get_none hg
    have hl : ¬ 40 ≤ g.I.length := by have := ids_le h hM hx hn; omega
    have e1 : (makeG g x.id x.kind).1 = ⟨putIn (fun z => lessS z.id x.id) g.I ⟨x.id, x.kind, 0, 0, ⟨#[]⟩⟩, g.E⟩ := by unfold makeG; rw [if_neg c1, if_neg (by rw [hg]; simp), if_neg hl]
    have hok := h.make x.id x.kind
    have hin : (⟨x.id, x.kind, 0, 0, ⟨#[]⟩⟩ : Ino) ∈ (makeG g x.id x.kind).1.I := by rw [e1]; exact putIn_mem.2 (Or.inl rfl)
    rw [show x.id = (⟨x.id, x.kind, 0, 0, ⟨#[]⟩⟩ : Ino).id from rfl] at *
    rw [set_mem_iff hok hin, e1]
    dsimp only
    rw [putIn_mem]
    constructor
    · rintro (⟨q | q, r⟩ | q)
      · exact absurd (by rw [q]) r
      · exact Or.inl ⟨q, r⟩
      · exact Or.inr q
    · rintro (⟨q, r⟩ | q)
      · exact Or.inl ⟨Or.inr q, r⟩
      · exact Or.inr q

theorem remakeAll_mem {M : List St} (h40 : M.length ≤ 40) {y : Ino} : ∀ (L : List Ino) (g : Gr), g.ok → (∀ x ∈ g.I, x.id ∈ M) → L.Pairwise (fun a b => a.id ≠ b.id) → (∀ x ∈ L, x.id ∈ M ∧ mayB x.id.1 x.id.2 = true ∧ (1 ≤ x.kind ∧ x.kind ≤ 3) ∧ ∀ z ∈ g.I, z.id = x.id → z.kind = x.kind) →
    (y ∈ (remakeAll g L).I ↔ (y ∈ g.I ∧ ∀ x ∈ L, y.id ≠ x.id) ∨ ∃ x ∈ L, y = bare1 x)
  | [], g, _, _, _, _ => ⟨fun q => Or.inl ⟨q, fun _ hx => nomatch hx⟩, fun q => q.elim (fun q => q.1) fun ⟨_, hx, _⟩ => nomatch hx⟩
  | a :: L, g, hg, hM, hp, hL => by
    obtain ⟨hp1, hp2⟩ := List.pairwise_cons.1 hp
    obtain ⟨a1, a2, a3, a4⟩ := hL a (List.mem_cons_self ..)
    have hr := fun z => remake_mem (y := z) hg hM h40 a1 a2 a3 a4
    have hM' : ∀ x ∈ (remake g a).I, x.id ∈ M := fun x hx => by
      rcases (hr x).1 hx with q | rfl
      · exact hM x q.1
      · exact a1
    have ih := remakeAll_mem h40 (y := y) L (remake g a) (remake_ok hg a) hM' hp2 fun x hx => by
      obtain ⟨b1, b2, b3, b4⟩ := hL x (List.mem_cons_of_mem _ hx)
      refine ⟨b1, b2, b3, fun z hz hzi => ?_⟩
      rcases (hr z).1 hz with q | rfl
      · exact b4 z q.1 hzi
      · exact absurd hzi (hp1 x hx)
    show y ∈ (remakeAll (remake g a) L).I ↔ _
    rw [ih, hr y]
    constructor
    · rintro (⟨⟨q1, q2⟩ | rfl, r⟩ | ⟨x, hx, q⟩)
      · refine Or.inl ⟨q1, fun x hx => ?_⟩
        rcases List.mem_cons.1 hx with rfl | hx
        · exact q2
        · exact r x hx
      · exact Or.inr ⟨a, List.mem_cons_self .., rfl⟩
      · exact Or.inr ⟨x, List.mem_cons_of_mem _ hx, q⟩
    · rintro (⟨q1, r⟩ | ⟨x, hx, q⟩)
      · exact Or.inl ⟨Or.inl ⟨q1, r a (List.mem_cons_self ..)⟩, fun x hx => r x (List.mem_cons_of_mem _ hx)⟩
      · rcases List.mem_cons.1 hx with rfl | hx
        · exact Or.inl ⟨Or.inr q, fun z hz => by rw [q]; exact hp1 z hz⟩
        · exact Or.inr ⟨x, hx, q⟩

theorem mem_was {g g' : Gr} (h : g.ok) {x : Ino} : x ∈ wasG g g' ↔ (∃ y ∈ g.I, x = { y with links := (linksE g.E y.id : Int) }) ∧ otherI g' x = true := by
  unfold wasG
  rw [List.mem_filter, h.inodes, List.mem_map]
  refine and_congr_left fun _ => ⟨fun ⟨y, hy, e⟩ => ⟨y, hy, e.symm⟩, fun ⟨y, hy, e⟩ => ⟨y, hy, e.symm⟩⟩

theorem was_ids {g g' : Gr} (h : g.ok) : (wasG g g').Pairwise fun a b => a.id ≠ b.id := by
  unfold wasG
  refine List.Pairwise.filter _ ?_
  rw [h.inodes]
  refine List.pairwise_map.2 (h.sortI.imp fun {a b} hab e => ?_)
  have e1 : a.id = b.id := e
  rw [e1, lessS_irrefl] at hab
  cases hab

theorem bare_self {g : Gr} (h : g.ok) {y : Ino} (hy : y ∈ g.I) (l : Int) : bare1 { y with links := l } = y := by
  obtain ⟨i, k, l', m, d⟩ := y
  have := h.links0 _ hy
  simp only at this
  subst this
  rfl

/-- An inode that the other graph has in the same way. -/
theorem not_other {g' : Gr} {x : Ino} (h : otherI g' x = false) : ∃ y ∈ g'.I, y.id = x.id ∧ y.kind = x.kind ∧ y.mode = x.mode ∧ y.data = x.data := by
  unfold otherI at h
  cases hg : getG g' x.id with
  | none => rw [hg] at h; cases h
  | some v =>
    obtain ⟨y, hy, hi, rfl⟩ := get_some hg
    rw [hg] at h
    simp only [Bool.not_eq_false', Bool.and_eq_true, decide_eq_true_iff] at h
    exact ⟨y, hy, hi, h.1.1, h.1.2, h.2⟩

theorem ino_fields {x y : Ino} (h1 : x.id = y.id) (h2 : x.kind = y.kind) (h3 : x.links = y.links) (h4 : x.mode = y.mode) (h5 : x.data = y.data) : x = y := by
  obtain ⟨i, k, l, m, d⟩ := x
  simp only at h1 h2 h3 h4 h5
  subst h1 h2 h3 h4 h5
  rfl

/-- What stays of the inodes, and those that were otherwise: all that were. -/
theorem back_inodes {g g' g2 : Gr} (h : g.ok) (h' : g'.ok) (h2 : g2.ok) (hk : ∀ x ∈ g.I, ∀ y ∈ g'.I, y.id = x.id → y.kind = x.kind) (hm : ∀ y, y ∈ g2.I ↔ y ∈ g'.I ∧ ∃ x ∈ g.I, x.id = y.id) : (remakeAll g2 (wasG g g')).I = g.I := by
  have hM : ∀ x ∈ g2.I, x.id ∈ g.I.map (·.id) := fun x hx => by
    obtain ⟨_, z, hz, e⟩ := (hm x).1 hx
    exact List.mem_map.2 ⟨z, hz, e⟩
  have key := fun y => remakeAll_mem (M := g.I.map (·.id)) (by rw [List.length_map]; exact h.few) (y := y) (wasG g g') g2 h2 hM (was_ids h) fun x hx => by
    obtain ⟨⟨u, hu, rfl⟩, _⟩ := (mem_was h).1 hx
    exact ⟨List.mem_map.2 ⟨u, hu, rfl⟩, h.may u hu, h.kinds u hu, fun z hz hzi => hk u hu z ((hm z).1 hz).1 hzi⟩
  refine sorted_same (r := fun a b : Ino => lessS a.id b.id) (fun x => lessS_irrefl _) (fun _ _ _ => lessS_trans) (remakeAll_ok h2 _).sortI h.sortI fun y => ?_
  rw [key y]
  constructor
  · rintro (⟨q, r⟩ | ⟨x, hx, rfl⟩)
    · obtain ⟨q1, z, hz, e⟩ := (hm y).1 q
      have hno : otherI g' { z with links := (linksE g.E z.id : Int) } = false := by
        cases ho : otherI g' { z with links := (linksE g.E z.id : Int) } with
        | false => rfl
        | true => exact absurd e.symm (r { z with links := (linksE g.E z.id : Int) } ((mem_was h).2 ⟨⟨z, hz, rfl⟩, ho⟩))
      obtain ⟨v, hv, v1, v2, v3, v4⟩ := not_other hno
      have hyv : v = y := h'.ids hv q1 (v1.trans e)
      subst hyv
      rw [ino_fields (x := v) (y := z) v1 v2 ((h'.links0 v hv).trans (h.links0 z hz).symm) v3 v4]
      exact hz
    · obtain ⟨⟨u, hu, rfl⟩, _⟩ := (mem_was h).1 hx
      rw [bare_self h hu]
      exact hu
  · intro hy
    cases ho : otherI g' { y with links := (linksE g.E y.id : Int) } with
    | true => exact Or.inr ⟨_, (mem_was h).2 ⟨⟨y, hy, rfl⟩, ho⟩, (bare_self h hy _).symm⟩
    | false =>
      obtain ⟨v, hv, v1, v2, v3, v4⟩ := not_other ho
      have hyv : v = y := ino_fields v1 v2 ((h'.links0 v hv).trans (h.links0 y hy).symm) v3 v4
      subst hyv
      refine Or.inl ⟨(hm v).2 ⟨hv, v, hy, rfl⟩, fun x hx e => ?_⟩
      obtain ⟨⟨u, hu, rfl⟩, hu2⟩ := (mem_was h).1 hx
      have : u = v := h.ids hu hy e.symm
      subst this
      rw [ho] at hu2
      cases hu2

/-! ### tied -/

theorem links_less {E F : List Ent} (hF : F.Nodup) (hs : ∀ e ∈ F, e ∈ E) {e : Ent} (he : e ∈ E) (hn : e ∉ F) : linksE F e.ino + 1 ≤ linksE E e.ino := by
  unfold linksE
  have := nodup_le (L := e :: F.filter fun a => decide (a.ino = e.ino)) (M := E.filter fun a => decide (a.ino = e.ino)) (List.nodup_cons.2 ⟨fun q => hn (List.mem_filter.1 q).1, hF.filter _⟩) fun x hx => by
    rcases List.mem_cons.1 hx with rfl | hx
    · exact List.mem_filter.2 ⟨he, by simp⟩
    · exact List.mem_filter.2 ⟨hs x (List.mem_filter.1 hx).1, (List.mem_filter.1 hx).2⟩
  rwa [List.length_cons] at this

/-- One entry that was there can be there again. -/
theorem tie_again {g k : Gr} (h : g.fine) (hk : k.ok) (hI : k.I = g.I) (hE : ∀ e ∈ k.E, e ∈ g.E) {e : Ent} (he : e ∈ g.E) (hn : e ∉ k.E) : whyG (nameB e.name) k e = 0 := by
  have hdir : ∀ s, k.isDir s ↔ g.isDir s := fun s => by unfold Gr.isDir; rw [hI]
  obtain ⟨x, hx, hxi⟩ := h.ok.inos e he
  have hxk : x ∈ k.I := by rw [hI]; exact hx
  have hget : getG k e.ino = some { x with links := (linksE k.E e.ino : Int) } := by rw [← hxi]; exact hk.get hxk
  have hll := links_less hk.nodupE hE he hn
  have h6 := h.ok.six e.ino
  refine why_zero_of (h.names e he) (hk.kindDir ((hdir _).2 (h.ok.dirs e he))) hget ?_ (fun hx1 => ?_) ?_
  · cases hl : lookE k.E e.dir e.name with
    | none => rfl
    | some id =>
      have h1 := (look_iff hk).1 hl
      have h2 := h.ok.nodupE
      have h3 := (look_iff h.ok).2 (hE _ h1)
      have h4 : lookE g.E e.dir e.name = some e.ino := (look_iff h.ok).2 he
      rw [h4] at h3
      injection h3 with h3
      subst h3
      exact absurd h1 hn
  · refine ⟨h.ok.noRoot e he, ?_⟩
    rw [Bool.eq_false_iff]
    intro q
    have hl := leads_mono (g := g) (g' := k) hE (fun d hd => (hdir d).1 hd) (hk.leads.1 q)
    obtain ⟨f, hf⟩ := h.ok.rank
    have hlt := hf e he ⟨x, hx, hxi, hx1⟩
    rcases leads_rank hf hl with r | r
    · rw [r] at hlt; omega
    · omega
  · rintro (⟨q1, q2⟩ | q)
    · have := h.ok.one e.ino ⟨x, hx, hxi, q1⟩
      dsimp only at q2
      omega
    · dsimp only at q
      omega

theorem tieAll_I : ∀ (L : List Ent) (g : Gr), (tieAll g L).I = g.I
  | [], _ => rfl
  | _ :: L, _ => (tieAll_I L _).trans tie_I

theorem tieAll_mem {g : Gr} (h : g.fine) {y : Ent} : ∀ (L : List Ent) (k : Gr), k.ok → k.I = g.I → (∀ e ∈ k.E, e ∈ g.E) → (∀ e ∈ L, e ∈ g.E ∧ e ∉ k.E) → L.Nodup → (y ∈ (tieAll k L).E ↔ y ∈ k.E ∨ y ∈ L)
  | [], k, _, _, _, _, _ => ⟨Or.inl, fun q => q.elim id fun hx => nomatch hx⟩
  | e :: L, k, hk, hI, hE, hL, hn => by
    obtain ⟨n1, n2⟩ := List.nodup_cons.1 hn
    obtain ⟨e1, e2⟩ := hL e (List.mem_cons_self ..)
    have hw := tie_again h hk hI hE e1 e2
    show y ∈ (tieAll (tieG (nameB e.name) k e).1 L).E ↔ _
    have hm := fun x => tie_mem (x := x) hw
    rw [tieAll_mem h L _ (hk.tie _ e) (tie_I.trans hI) (fun x hx => ?_) (fun x hx => ⟨(hL x (List.mem_cons_of_mem _ hx)).1, fun q => ?_⟩) n2, hm, List.mem_cons]
    · constructor
      · rintro ((q | q) | q)
        · exact Or.inr (Or.inl q)
        · exact Or.inl q
        · exact Or.inr (Or.inr q)
      · rintro (q | q | q)
        · exact Or.inl (Or.inr q)
        · exact Or.inl (Or.inl q)
        · exact Or.inr q
    · rcases (hm x).1 hx with rfl | q
      · exact e1
      · exact hE x q
    · rcases (hm x).1 q with rfl | q
      · exact n1 hx
      · exact (hL x (List.mem_cons_of_mem _ hx)).2 q

/-! ### all of it -/

/-- What a graph lost and got is taken back: it is as it was. -/
theorem back_is {g g' : Gr} (h : g.fine) (h' : g'.ok) (hk : ∀ x ∈ g.I, ∀ y ∈ g'.I, y.id = x.id → y.kind = x.kind) (e : Int) : backG g' (diffG g g' e) = g := by
  unfold backG diffG
  dsimp only
  have o1 := untieAll_ok h' (lostG g' g)
  have m1 : ∀ x, x ∈ (untieAll g' (lostG g' g)).E ↔ x ∈ g'.E ∧ x ∈ g.E := fun x => back_untied h'
  have i1 : (untieAll g' (lostG g' g)).I = g'.I := untieAll_I _ _
  generalize untieAll g' (lostG g' g) = g1 at o1 m1 i1 ⊢
  have o2 := dropAll_ok o1 (newN g g')
  have e2 : (dropAll g1 (newN g g')).E = g1.E := dropAll_E _ _
  have m2 : ∀ x, x ∈ (dropAll g1 (newN g g')).I ↔ x ∈ g'.I ∧ ∃ z ∈ g.I, z.id = x.id := fun x => by
    rw [dropAll_mem, i1]
    · refine and_congr_right fun hx => ⟨fun q => ?_, fun ⟨z, hz, q⟩ s hs hsi => ?_⟩
      · cases hg : getG g x.id with
        | none => exact absurd rfl (q x.id (mem_new.2 ⟨⟨x, hx, rfl⟩, hg⟩))
        | some v =>
          obtain ⟨z, hz, hzi, _⟩ := get_some hg
          exact ⟨z, hz, hzi⟩
      · exact get_none (mem_new.1 hs).2 z hz (q.trans hsi)
    · intro s hs
      have hn := get_none (mem_new.1 hs).2
      refine ⟨fun q => ?_, fun a ha => ⟨fun q => ?_, fun q => ?_⟩⟩
      · obtain ⟨z, hz, hz0, _⟩ := h.ok.root
        exact hn z hz (hz0.trans q.symm)
      · obtain ⟨z, hz, hzi⟩ := h.ok.inos a ((m1 a).1 ha).2
        exact hn z hz (hzi.trans q)
      · obtain ⟨z, hz, hzi, _⟩ := h.ok.dirs a ((m1 a).1 ha).2
        exact hn z hz (hzi.trans q)
  generalize dropAll g1 (newN g g') = g2 at o2 e2 m2 ⊢
  have o3 := remakeAll_ok o2 (wasG g g')
  have e3 : (remakeAll g2 (wasG g g')).E = g1.E := (remakeAll_E _ _).trans e2
  have i3 := back_inodes h.ok h' o2 hk m2
  generalize remakeAll g2 (wasG g g') = g3 at o3 e3 i3 ⊢
  have hE : ∀ x ∈ g3.E, x ∈ g.E := fun x hx => by rw [e3] at hx; exact ((m1 x).1 hx).2
  have m4 : ∀ y, y ∈ (tieAll g3 (lostG g g')).E ↔ y ∈ g.E := fun y => by
    rw [tieAll_mem h (lostG g g') g3 o3 i3 hE (fun a ha => ⟨(mem_lost.1 ha).1, fun q => ?_⟩) (lost_nodup h.ok g'), e3, m1, mem_lost]
    · constructor
      · rintro (q | q)
        · exact q.2
        · exact q.1
      · intro q
        by_cases r : y ∈ g'.E
        · exact Or.inl ⟨r, q⟩
        · exact Or.inr ⟨q, r⟩
    · rw [e3] at q
      exact (mem_lost.1 ha).2 ((m1 a).1 q).1
  have o4 := tieAll_ok o3 (lostG g g')
  have i4 := (tieAll_I (lostG g g') g3).trans i3
  have e4 := sorted_same (r := aheadE) aheadE_self (fun _ _ _ => aheadE_trans) o4.sortE h.ok.sortE m4
  generalize tieAll g3 (lostG g g') = g4 at i4 e4 ⊢
  cases g4
  cases g
  simp only at i4 e4
  rw [i4, e4]

/-! ### an operation turns no inode's kind -/

/-- Who goes on has its kind. -/
def KindStays (g g' : Gr) : Prop := ∀ k, kindG g k ≠ 0 → kindG g' k = kindG g k ∨ kindG g' k = 0

theorem KindStays.refl (g : Gr) : KindStays g g := fun _ _ => Or.inl rfl

/-- No kind turns, but one that goes. -/
def KindLess (g g' : Gr) : Prop := ∀ k, kindG g' k = kindG g k ∨ kindG g' k = 0

theorem KindLess.trans {a b c : Gr} (h : KindLess a b) (k : KindLess b c) : KindLess a c := fun s => by
  rcases k s with q | q
  · rcases h s with r | r
    · exact Or.inl (q.trans r)
    · exact Or.inr (q.trans r)
  · exact Or.inr q

theorem KindLess.stays {a b : Gr} (h : KindLess a b) : KindStays a b := fun s _ => h s

theorem KindStays.less {a b c : Gr} (h : KindStays a b) (k : KindLess b c) : KindStays a c := fun s q => by
  rcases k s with r | r
  · rcases h s q with t | t
    · exact Or.inl (r.trans t)
    · exact Or.inr (r.trans t)
  · exact Or.inr r

theorem kind_same {g g' : Gr} (h : g'.I = g.I) : KindLess g g' := fun k => Or.inl (kindG_same h k)

theorem kind_untie (g : Gr) (d : St) (nm : ByteArray) : KindLess g (untieG g d nm).1 := kind_same (untie_I g d nm)

theorem kind_drop (g : Gr) (id : St) : KindLess g (dropG g id).1 := fun k => by
  unfold dropG
  cases hg : getG g id with
  | none => exact Or.inl rfl
  | some x =>
    dsimp only
    split
    · exact Or.inl rfl
    · split
      · exact Or.inl rfl
      · rw [kindG_I, kindG_I]
        dsimp only
        by_cases q : k = id
        · subst q
          refine Or.inr ?_
          rw [List.find?_eq_none.2]
          · rfl
          · intro x hx
            have := (List.mem_filter.1 hx).2
            simpa using this
        · refine Or.inl ?_
          rw [List.find?_filter]
          congr 3
          funext x
          by_cases r : x.id = k
          · simp [r, q]
          · simp [r]

theorem kind_set (g : Gr) (id : St) (mode : Int) (data : ByteArray) : KindLess g (setG g id mode data).1 := fun k => by
  refine Or.inl ?_
  unfold kindG
  rw [set_get]
  cases getG g k with
  | none => split <;> rfl
  | some x => split <;> rfl

theorem kind_make {g : Gr} (h : g.ok) (id : St) (kind : Int) : KindStays g (makeG g id kind).1 := fun k hk => by
  by_cases h0 : (makeG g id kind).2 = 0
  · refine Or.inl ?_
    obtain ⟨x, hx⟩ := h.there hk
    unfold kindG
    rw [make_get h h0]
    by_cases q : k = id
    · subst q
      exfalso
      unfold makeG at h0
      split at h0
      · cases h0
      · rw [if_pos (by rw [hx]; rfl)] at h0
        cases h0
    · rw [if_neg q]
  · rw [make_err g id kind h0]
    exact Or.inl rfl

theorem kind_gone (g : Gr) (d : St) (nm : ByteArray) : KindLess g (goneG g d nm) := by
  unfold goneG
  split
  · exact (kind_untie g d nm).trans (kind_drop _ _)
  · exact kind_untie g d nm

theorem kind_tie1 (g : Gr) (d : St) (nm : ByteArray) (i : St) : KindLess g (tie1 g d nm i) := kind_same tie_I

theorem kind_made {g : Gr} (h : g.ok) (o : Opn) : KindStays g (madeA g o) := by
  unfold madeA
  split
  · exact ((kind_make h _ _).less (kind_set _ _ _ _)).less (kind_tie1 _ _ _ _)
  split
  · exact (kind_tie1 _ _ _ _).stays
  split
  · exact (kind_gone _ _ _).stays
  split
  · split
    · exact KindStays.refl g
    · refine (KindLess.trans (KindLess.trans ?_ (kind_untie _ _ _)) (kind_tie1 _ _ _ _)).stays
      split
      · exact kind_gone _ _ _
      · exact kind_same rfl
  split
  · exact (kind_set _ _ _ _).stays
  split
  · exact (kind_set _ _ _ _).stays
  · exact (kind_set _ _ _ _).stays

theorem kind_does {g : Gr} (h : g.ok) (o : Opn) : KindStays g (doA g o).1 := by
  unfold doA
  split
  · exact kind_made h o
  · exact KindStays.refl g

/-- P12.2, of what undo.Back makes. -/
theorem back_does {g : Gr} (h : g.fine) (o : Opn) : backG (doA g o).1 (doR g o) = g := by
  have h' := (h.does o).ok
  refine back_is h h' (fun x hx y hy hxy => ?_) _
  have hx1 := h.ok.kindG hx
  have hy1 := h'.kindG hy
  rw [hxy] at hy1
  have k0 := (h.ok.kinds x hx).1
  have k1 := (h'.kinds y hy).1
  rcases kind_does h.ok o x.id (by omega) with q | q
  · rw [← hx1, ← hy1, q]
  · omega

end Go.Proofs.YthcmgaibbpacfaaGreatDoor.GraphMath

/-
  Plain mathematics of the landed undo: who is in one list alone, told by what is asked of each. It needs no program.
-/
namespace Go.Proofs.YthcmgaibbpacfaaGreatDoor.GraphMath
open StampMath OpMath ExtentMath

section
variable {α κ : Type} [DecidableEq κ]

/-- Those of a list that another one hasn't: two are the same if what is asked of them is. -/
def aloneL (f : α → κ) (l other : List α) : List α := l.filter fun x => !decide (f x ∈ other.map f)

theorem alone_snoc (f : α → κ) (l other : List α) (k : Nat) (h : k < l.length) : aloneL f (l.take (k + 1)) other = if f l[k] ∈ other.map f then aloneL f (l.take k) other else aloneL f (l.take k) other ++ [l[k]] := by
  unfold aloneL
  rw [List.take_succ_eq_append_getElem h, List.filter_append]
  by_cases e : f l[k] ∈ other.map f
  · rw [if_pos e, List.filter_cons_of_neg (by rw [decide_eq_true e]; decide), List.filter_nil, List.append_nil]
  · rw [if_neg e, List.filter_cons_of_pos (by rw [decide_eq_false e]; decide), List.filter_nil]

theorem alone_le (f : α → κ) (l other : List α) : (aloneL f l other).length ≤ l.length := List.length_filter_le _ _

/-- In a map stands what was asked of so many. -/
def SeenK (L : List (κ × Unit)) (l : List κ) : Prop := ∀ x, (lookL L x).isSome = decide (x ∈ l)

theorem seen_nil : SeenK ([] : List (κ × Unit)) [] := fun x => by simp [lookL]

theorem seen_put {L : List (κ × Unit)} {l : List κ} (h : SeenK L l) (k : κ) : SeenK ((k, ()) :: offL L k) (l ++ [k]) := fun x => by
  by_cases e : k = x
  · subst e
    simp [lookL]
  · have h1 : lookL ((k, ()) :: offL L k) x = lookL L x := by
      unfold lookL offL
      rw [List.find?_cons_of_neg (by simpa using e), List.find?_filter]
      congr 2
      funext p
      by_cases q : p.1 = x
      · have : ¬ p.1 = k := fun r => e (r.symm.trans q)
        simp [q, Ne.symm e]
      · simp [q]
    rw [h1, h x]
    simp [Ne.symm e]

theorem seen_snoc {L : List (κ × Unit)} {l : List α} {f : α → κ} {k : Nat} (hk : k < l.length) (h : SeenK L ((l.take k).map f)) : SeenK ((f l[k], ()) :: offL L (f l[k])) ((l.take (k + 1)).map f) := by
  rw [List.take_succ_eq_append_getElem hk, List.map_append]
  exact seen_put h _
end

theorem alone_lost (a b : Gr) : aloneL (fun e : Ent => e) a.E b.E = lostG a b := by
  unfold aloneL lostG
  rw [List.map_id']

theorem bare_links (x : Ino) (l : Int) : bare1 { x with links := l } = bare1 x := rfl

theorem mem_bare {b : Gr} (hb : b.ok) {x : Ino} : bare1 x ∈ (inodesG b).map bare1 ↔ otherI b x = false := by
  rw [hb.inodes, List.map_map, List.mem_map]
  constructor
  · rintro ⟨y, hy, e⟩
    have e' : bare1 y = bare1 x := e
    unfold bare1 at e'
    injection e' with e1 e2 _ e3 e4
    exact other_same hb hy e1 e2 e3 e4
  · intro h
    obtain ⟨y, hy, h1, h2, h3, h4⟩ := not_other h
    refine ⟨y, hy, ?_⟩
    show bare1 y = bare1 x
    unfold bare1
    rw [h1, h2, h3, h4]

theorem alone_was {a b : Gr} (hb : b.ok) : aloneL bare1 (inodesG a) (inodesG b) = wasG a b := by
  unfold aloneL wasG
  refine List.filter_congr fun x _ => ?_
  cases h : otherI b x with
  | false => simp [(mem_bare hb).2 h]
  | true =>
    have : ¬ bare1 x ∈ (inodesG b).map bare1 := fun q => by rw [(mem_bare hb).1 q] at h; cases h
    simp [this]

theorem alone_new {a b : Gr} (ha : a.ok) (hb : b.ok) : (aloneL (fun x : Ino => x.id) (inodesG b) (inodesG a)).map (fun x => x.id) = newN a b := by
  unfold aloneL newN
  rw [hb.inodes, ha.inodes, List.map_map, List.filter_map, List.map_map, List.filter_map]
  have e1 : ((fun x : Ino => x.id) ∘ fun x : Ino => ({ x with links := (linksE a.E x.id : Int) } : Ino)) = fun x => x.id := rfl
  have e2 : ((fun x : Ino => x.id) ∘ fun x : Ino => ({ x with links := (linksE b.E x.id : Int) } : Ino)) = fun x => x.id := rfl
  rw [e1, e2]
  congr 1
  refine List.filter_congr fun x _ => ?_
  simp only [Function.comp_apply]
  cases h : getG a x.id with
  | none =>
    have hn := get_none h
    have : ¬ x.id ∈ a.I.map fun x => x.id := fun q => by
      obtain ⟨y, hy, e⟩ := List.mem_map.1 q
      exact hn y hy e
    simp [this]
  | some y =>
    obtain ⟨z, hz, e, _⟩ := get_some h
    have : x.id ∈ a.I.map fun x => x.id := List.mem_map.2 ⟨z, hz, e⟩
    simp [this]

end Go.Proofs.YthcmgaibbpacfaaGreatDoor.GraphMath

/-
  Stamps as a map's keys.
-/
namespace Go.Proofs.YthcmgaibbpacfaaGreatDoor
open Go.RowKit StampMath GraphMath

def stV (x : St) : Value := .agg (stA x)

theorem stV_inj (x y : St) (h : stV x = stV y) : x = y := by
  unfold stV stA at h
  simp at h
  exact Prod.ext h.1 h.2

theorem checkKey_st (w : World) (em : Bool) (n : Nat) (x : St) : (Instr.checkKey em (n + 2) 24 (.agg (stA x))).run Tryz.prog w = .ok () w := by
  refine checkKey_struct (n := n + 1) Tryz.underlying24 w em (stA x) fun f hf => ?_
  simp at hf
  rcases hf with rfl | rfl
  · exact ⟨by decide, .int .i64 x.1, by unfold stA; go_simp, checkKey_int Tryz.underlying2 w em n x.1⟩
  · exact ⟨by decide, .int .i64 x.2, by unfold stA; go_simp, checkKey_int Tryz.underlying3 w em n x.2⟩

theorem stShape : KShape Tryz.prog 24 stV :=
  KShape.of_equal (by kernel_rfl) stV_inj (fun w x y => run_eqSt x.1 x.2 y.1 y.2 w) (fun w em x => checkKey_st w em 9998 x) (fun x => by
    unfold stV stA
    show Instr.sameBits (9999 + 1) _ _ = true
    simp [Instr.sameBits])

end Go.Proofs.YthcmgaibbpacfaaGreatDoor

/-
  The shapes of a graph's maps: places as keys.
-/
namespace Go.Proofs.YthcmgaibbpacfaaGreatDoor
open Go.RowKit StampMath GraphMath

def inoV (x : Ino) : Value := .agg (inoA x)
def plV (p : St × ByteArray) : Value := .agg #[.int .i64 p.1.1, .int .i64 p.1.2, .string p.2]

theorem plV_inj (x y : St × ByteArray) (h : plV x = plV y) : x = y := by
  unfold plV at h
  simp at h
  exact Prod.ext (Prod.ext h.1 h.2.1) h.2.2

theorem run_eqPl (a b : Int) (s : ByteArray) (c d : Int) (u : ByteArray) (W : World) : (Op.equalIn 10000 100 (.agg #[.int .i64 a, .int .i64 b, .string s]) (.agg #[.int .i64 c, .int .i64 d, .string u])).run Tryz.prog W = .ok (decide (((a, b), s) = ((c, d), u))) W := by
  go_simp
  by_cases h1 : a = c
  · by_cases h2 : b = d
    · by_cases h3 : s = u
      · simp [h1, h2, h3]
      · simp [h1, h2, h3]
        intro h4
        exact h3 (bytes_same h4)
    · simp [h1, h2]
  · simp [h1]

theorem checkKey_pl (w : World) (em : Bool) (n : Nat) (p : St × ByteArray) : (Instr.checkKey em (n + 3) 100 (plV p)).run Tryz.prog w = .ok () w := by
  refine checkKey_struct (n := n + 2) Tryz.underlying100 w em _ fun f hf => ?_
  simp at hf
  rcases hf with rfl | rfl
  · exact ⟨by decide, .agg (stA p.1), by unfold stA; go_simp, checkKey_st w em n p.1⟩
  · exact ⟨by decide, .string p.2, by go_simp, checkKey_string Tryz.underlying9 w em (n + 1) p.2⟩

theorem plShape : KShape Tryz.prog 100 plV :=
  KShape.of_equal (by kernel_rfl) plV_inj (fun w x y => run_eqPl x.1.1 x.1.2 x.2 y.1.1 y.1.2 y.2 w) (fun w em x => checkKey_pl w em 9997 x) (fun x => by
    unfold plV
    show Instr.sameBits (9999 + 1) _ _ = true
    simp [Instr.sameBits, MapKept.bytes_beq])

end Go.Proofs.YthcmgaibbpacfaaGreatDoor

/-
  The landed undo: whole entries and inodes as a map's keys; what is asked of one of a list.
-/
namespace Go.Proofs.YthcmgaibbpacfaaGreatDoor
open Go.RowKit StampMath GraphMath

def enV (e : Ent) : Value := .agg (entA e)
def voidV (_ : Unit) : Value := .agg #[]
theorem zeroVoid (w : World) : (zeroValue 118).run Tryz.prog w = .ok (voidV ()) w := by kernel_rfl

theorem enV_inj (x y : Ent) (h : enV x = enV y) : x = y := by
  unfold enV entA at h
  simp at h
  obtain ⟨⟨a, b⟩, c, ⟨d, e⟩⟩ := x
  obtain ⟨⟨a', b'⟩, c', ⟨d', e'⟩⟩ := y
  simp at h ⊢
  exact ⟨⟨h.1, h.2.1⟩, h.2.2.1, h.2.2.2.1, h.2.2.2.2⟩

theorem inoV_inj (x y : Ino) (h : inoV x = inoV y) : x = y := by
  unfold inoV inoA at h
  simp at h
  obtain ⟨⟨a, b⟩, c, d, e, f⟩ := x
  obtain ⟨⟨a', b'⟩, c', d', e', f'⟩ := y
  simp at h ⊢
  exact ⟨⟨h.1, h.2.1⟩, h.2.2.1, h.2.2.2.1, h.2.2.2.2.1, h.2.2.2.2.2⟩

theorem checkKey_en (w : World) (em : Bool) (n : Nat) (x : Ent) : (Instr.checkKey em (n + 3) 66 (enV x)).run Tryz.prog w = .ok () w := by
  refine checkKey_struct (n := n + 2) Tryz.underlying66 w em (entA x) fun f hf => ?_
  simp at hf
  rcases hf with rfl | rfl | rfl
  · exact ⟨by decide, .agg (stA x.dir), by unfold stA entA; go_simp, checkKey_st w em n x.dir⟩
  · exact ⟨by decide, .string x.name, by unfold entA; go_simp, checkKey_string Tryz.underlying9 w em (n + 1) x.name⟩
  · exact ⟨by decide, .agg (stA x.ino), by unfold stA entA; go_simp, checkKey_st w em n x.ino⟩

theorem checkKey_ino (w : World) (em : Bool) (n : Nat) (x : Ino) : (Instr.checkKey em (n + 3) 70 (inoV x)).run Tryz.prog w = .ok () w := by
  refine checkKey_struct (n := n + 2) Tryz.underlying70 w em (inoA x) fun f hf => ?_
  simp at hf
  rcases hf with rfl | rfl | rfl | rfl | rfl
  · exact ⟨by decide, .agg (stA x.id), by unfold stA inoA; go_simp, checkKey_st w em n x.id⟩
  · exact ⟨by decide, .int .i64 x.kind, by unfold inoA; go_simp, checkKey_int Tryz.underlying3 w em (n + 1) x.kind⟩
  · exact ⟨by decide, .int .i64 x.links, by unfold inoA; go_simp, checkKey_int Tryz.underlying3 w em (n + 1) x.links⟩
  · exact ⟨by decide, .int .i64 x.mode, by unfold inoA; go_simp, checkKey_int Tryz.underlying3 w em (n + 1) x.mode⟩
  · exact ⟨by decide, .string x.data, by unfold inoA; go_simp, checkKey_string Tryz.underlying9 w em (n + 1) x.data⟩

theorem enShape : KShape Tryz.prog 66 enV :=
  KShape.of_equal (by kernel_rfl) enV_inj (fun w x y => run_eqEnt x y w) (fun w em x => checkKey_en w em 9997 x) (fun x => by
    unfold enV entA
    show Instr.sameBits (9999 + 1) _ _ = true
    simp [Instr.sameBits, MapKept.bytes_beq])

theorem inShape2 : KShape Tryz.prog 70 inoV :=
  KShape.of_equal (by kernel_rfl) inoV_inj (fun w x y => run_eqIno x y w) (fun w em x => checkKey_ino w em 9997 x) (fun x => by
    unfold inoV inoA
    show Instr.sameBits (9999 + 1) _ _ = true
    simp [Instr.sameBits, MapKept.bytes_beq])

/-! ### what is asked -/

set_option maxRecDepth 100000 in
theorem whole_code (e : Ent) (w : World) : Calls Tryz.prog 29 #[.agg (entA e)] w fun r w' => r = .returned (.agg (entA e)) ∧ Below w.heap.size w w' := by
  obtain ⟨⟨a, b⟩, c, ⟨d, f⟩⟩ := e
  have hb : Below w.heap.size w ((w.alloc (.cells (entA ⟨(a, b), c, (d, f)⟩) 66)).alloc (.cells (entA ⟨(a, b), c, (d, f)⟩) 66)) := ((Below.refl _ _).alloc (Nat.le_refl _) _).alloc (by simp) _
  obtain ⟨z0, z1, z2, z3, z4⟩ := ent_cells (heap_alloc2_new w (.cells (entA ⟨(a, b), c, (d, f)⟩) 66) (.cells (entA ⟨(a, b), c, (d, f)⟩) 66))
  unfold entA at hb z0 z1 z2 z3 z4 ⊢
  simp only [Nat.zero_add] at z1 z2 z3 z4
  have HB := Lib.hid hb
  clear hb
  go_enter Tryz.func29, Tryz.ntmps29
  go_wp2_with fail
  exact bodyPost_ret (v := .agg (entA ⟨(a, b), c, (d, f)⟩)) (by unfold entA; simp [results, Tryz.results29, go_sem, z0, z1, z2, z3, z4]) rfl ⟨rfl, HB.out⟩

set_option maxRecDepth 100000 in
theorem unlinked_code (x : Ino) (w : World) : Calls Tryz.prog 31 #[.agg (inoA x)] w fun r w' => r = .returned (.agg (inoA (bare1 x))) ∧ Below w.heap.size w w' := by
  obtain ⟨⟨a, b⟩, c, d, e, f⟩ := x
  have hb : Below w.heap.size w ((w.alloc (.cells (inoA ⟨(a, b), c, 0, e, f⟩) 70)).alloc (.cells (inoA ⟨(a, b), c, 0, e, f⟩) 70)) := ((Below.refl _ _).alloc (Nat.le_refl _) _).alloc (by simp) _
  obtain ⟨z0, z1, z2, z3, z4, z5⟩ := ino_cells (heap_alloc2_new w (.cells (inoA ⟨(a, b), c, 0, e, f⟩) 70) (.cells (inoA ⟨(a, b), c, 0, e, f⟩) 70))
  unfold bare1
  unfold inoA at hb z0 z1 z2 z3 z4 z5 ⊢
  simp only [Nat.zero_add] at z1 z2 z3 z4 z5
  have HB := Lib.hid hb
  clear hb
  go_enter Tryz.func31, Tryz.ntmps31
  go_wp2_with fail
  exact bodyPost_ret (v := .agg (inoA ⟨(a, b), c, 0, e, f⟩)) (by unfold inoA; simp [results, Tryz.results31, go_sem, z0, z1, z2, z3, z4, z5]) rfl ⟨rfl, HB.out⟩

set_option maxRecDepth 100000 in
theorem number_code (x : Ino) (w : World) : Calls Tryz.prog 34 #[.agg (inoA x)] w fun r w' => r = .returned (.agg (stA x.id)) ∧ Below w.heap.size w w' := by
  obtain ⟨⟨a, b⟩, c, d, e, f⟩ := x
  have hb : Below w.heap.size w ((w.alloc (.cells (inoA ⟨(a, b), c, d, e, f⟩) 70)).alloc (.cells #[.int .i64 a, .int .i64 b] 24)) := ((Below.refl _ _).alloc (Nat.le_refl _) _).alloc (by simp) _
  obtain ⟨z0, z1⟩ := two_cells (heap_alloc2_new w (.cells (inoA ⟨(a, b), c, d, e, f⟩) 70) (.cells #[.int .i64 a, .int .i64 b] 24))
  unfold inoA at hb z0 z1 ⊢
  have HB := Lib.hid hb
  clear hb
  go_enter Tryz.func34, Tryz.ntmps34
  go_wp2_with fail
  exact bodyPost_ret (v := .agg #[.int .i64 a, .int .i64 b]) (by simp [results, Tryz.results34, go_sem, z0, z1]) rfl ⟨rfl, HB.out⟩

end Go.Proofs.YthcmgaibbpacfaaGreatDoor
