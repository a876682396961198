/-
  Plain mathematics of layer 9: graphs as lists of inodes and of entries; what each call makes of one. It needs no program.
-/
import Derived.Test.YtoobmkkmomiigaaStampMath
namespace Go.Proofs.Ytoobmkkmomiigaa.GraphMath
open StampMath

abbrev St := Int × Int

structure Ino where
  id : St
  kind : Int
  links : Int
  mode : Int
  data : ByteArray
deriving DecidableEq

structure Ent where
  dir : St
  name : ByteArray
  ino : St
deriving DecidableEq

structure Gr where
  I : List Ino
  E : List Ent

def stA (s : St) : Array Value := #[.int .i64 s.1, .int .i64 s.2]
def inoA (x : Ino) : Array Value := #[.int .i64 x.id.1, .int .i64 x.id.2, .int .i64 x.kind, .int .i64 x.links, .int .i64 x.mode, .string x.data]
def entA (e : Ent) : Array Value := #[.int .i64 e.dir.1, .int .i64 e.dir.2, .string e.name, .int .i64 e.ino.1, .int .i64 e.ino.2]

/-- No inode. -/
def noIno : Ino := ⟨(0, 0), 0, 0, 0, ⟨#[]⟩⟩

def newG : Gr := ⟨[⟨(0, 0), 1, 0, 0, ⟨#[]⟩⟩], []⟩

/-- How many entries are of an inode. -/
def linksE (E : List Ent) (id : St) : Nat := (E.filter fun e => decide (e.ino = id)).length

def getG (g : Gr) (id : St) : Option Ino := (g.I.find? fun x => decide (x.id = id)).map fun x => { x with links := (linksE g.E id : Int) }

def inodesG (g : Gr) : List Ino := g.I.map fun x => (getG g x.id).getD noIno

def lookE (E : List Ent) (d : St) (nm : ByteArray) : Option St := (E.find? fun e => decide (e.dir = d) && decide (e.name = nm)).map fun e => e.ino

def listE (E : List Ent) (d : St) : List Ent := E.filter fun e => decide (e.dir = d)

def parentG (g : Gr) (d : St) : Option St :=
  match getG g d with
  | none => none
  | some x => if x.kind = 1 then (g.E.find? fun e => decide (e.ino = d)).map fun e => e.dir else none

/-- Is id dir, or below it, by so many steps? -/
def underN (g : Gr) : Nat → St → St → Bool
  | 0, _, _ => false
  | n + 1, id, d => if id = d then true else match parentG g id with
    | none => false
    | some up => underN g n up d

def underG (g : Gr) (id d : St) : Bool := underN g (g.I.length + 1) id d

/-- Is one stamp ahead of another one? -/
def lessS (a b : St) : Bool := lessB a.1 a.2 b.1 b.2

/-- Is one entry ahead of another one? -/
def aheadE (a b : Ent) : Bool := lessS a.dir b.dir || (decide (a.dir = b.dir) && decide (a.name.data.toList < b.name.data.toList))

/-- Something more, behind all that is ahead of it. -/
def putIn {α : Type} (f : α → Bool) (l : List α) (x : α) : List α := l.takeWhile f ++ x :: l.dropWhile f

def makeG (g : Gr) (id : St) (kind : Int) : Gr × Int :=
  if mayB id.1 id.2 = false ∨ kind < 1 ∨ 3 < kind then (g, 1)
  else if (getG g id).isSome then (g, 4)
  else if 40 ≤ g.I.length then (g, 13)
  else (⟨putIn (fun x => lessS x.id id) g.I ⟨id, kind, 0, 0, ⟨#[]⟩⟩, g.E⟩, 0)

/-- Why an entry can't be; 0: it can. (nameOk: is its name one?) -/
def whyG (nameOk : Bool) (g : Gr) (e : Ent) : Int :=
  if nameOk = false then 1
  else match getG g e.dir, getG g e.ino with
    | some a, some x =>
      if a.kind ≠ 1 then 6
      else if (lookE g.E e.dir e.name).isSome then 4
      else if x.kind = 1 ∧ (e.ino = (0, 0) ∨ underG g e.dir e.ino = true) then 8
      else if x.kind = 1 ∧ 0 < x.links ∨ 6 ≤ x.links then 12
      else 0
    | _, _ => 3

def tieG (nameOk : Bool) (g : Gr) (e : Ent) : Gr × Int :=
  if whyG nameOk g e = 0 then (⟨g.I, putIn (fun a => aheadE a e) g.E e⟩, 0) else (g, whyG nameOk g e)

def untieG (g : Gr) (d : St) (nm : ByteArray) : Gr × St × Int :=
  match lookE g.E d nm with
  | none => (g, (0, 0), 3)
  | some id => (⟨g.I, g.E.filter fun e => !(decide (e.dir = d) && decide (e.name = nm))⟩, id, 0)

def dropG (g : Gr) (id : St) : Gr × Int :=
  match getG g id with
  | none => (g, 3)
  | some x => if id = (0, 0) then (g, 8) else if 0 < x.links ∨ 0 < (listE g.E id).length then (g, 7) else (⟨g.I.filter fun x => !decide (x.id = id), g.E⟩, 0)

def setG (g : Gr) (id : St) (mode : Int) (data : ByteArray) : Gr × Int :=
  match getG g id with
  | none => (g, 3)
  | some _ => (⟨g.I.map fun x => if x.id = id then { x with mode := mode, data := data } else x, g.E⟩, 0)

theorem linksE_snoc (E : List Ent) (k : Nat) (h : k < E.length) (id : St) : linksE (E.take (k + 1)) id = if E[k].ino = id then linksE (E.take k) id + 1 else linksE (E.take k) id := by
  unfold linksE
  rw [List.take_succ_eq_append_getElem h, List.filter_append]
  by_cases e : E[k].ino = id
  · rw [if_pos e]; simp [e]
  · rw [if_neg e]; simp [e]

theorem linksE_le (E : List Ent) (id : St) : linksE E id ≤ E.length := List.length_filter_le _ _

theorem find_none_take {α : Type} {p : α → Bool} {l : List α} {k : Nat} (h : k < l.length) (hn : (l.take k).find? p = none) : (l.take (k + 1)).find? p = if p l[k] then some l[k] else none := by
  rw [List.take_succ_eq_append_getElem h, List.find?_append, hn]
  cases hp : p l[k] <;> simp [hp]

theorem find_take {α : Type} {p : α → Bool} {l : List α} {k : Nat} {x : α} (h : (l.take k).find? p = some x) : l.find? p = some x := by
  rw [← List.take_append_drop k l, List.find?_append, h]
  rfl

end Go.Proofs.Ytoobmkkmomiigaa.GraphMath
