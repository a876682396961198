/-
  What a call that writes to some blocks leaves: outside these all that was there is as it was. It needs no program.
-/
import Derived.Test.YthobfeohgeeofaaZ00
import Derived.Test.YthobfeohgeeofaaZ01
import Derived.Test.YthobfeohgeeofaaZ02
import Derived.Test.YthobfeohgeeofaaZ02
import Derived.Test.YthobfeohgeeofaaRows
import Derived.Deep.LoopGhost
import Derived.Deep.QuietTactic
import Derived.BigQuiet
import Derived.Deep.Cut
namespace Go.Proofs.Ythobfeohgeeofaa
open Go.RowKit

/-- Outside the blocks S all that was there is as it was. -/
structure But (S : Nat → Prop) (w w' : World) : Prop where
  os : w'.os = w.os
  tape : w'.tape = w.tape
  output : w'.output = w.output
  size : w.heap.size ≤ w'.heap.size
  block : ∀ k, k < w.heap.size → ¬ S k → w'.heap[k]? = w.heap[k]?

theorem But.refl (S : Nat → Prop) (w : World) : But S w w := ⟨rfl, rfl, rfl, Nat.le_refl _, fun _ _ _ => rfl⟩

theorem But.of_below {S : Nat → Prop} {w w' : World} (h : Below w.heap.size w w') : But S w w' := ⟨h.os, h.tape, h.output, h.size, fun k hk _ => h.block k hk⟩

theorem But.trans {S T : Nat → Prop} {a b c : World} (h : But S a b) (k : But T b c) (hT : ∀ i, T i → i < a.heap.size → S i) : But S a c :=
  ⟨k.os.trans h.os, k.tape.trans h.tape, k.output.trans h.output, Nat.le_trans h.size k.size, fun i hi hn =>
    (k.block i (Nat.lt_of_lt_of_le hi h.size) fun ht => hn (hT i ht hi)).trans (h.block i hi hn)⟩

theorem But.mono {S T : Nat → Prop} {a b : World} (h : But S a b) (hT : ∀ i, S i → T i) : But T a b :=
  ⟨h.os, h.tape, h.output, h.size, fun i hi hn => h.block i hi fun hs => hn (hT i hs)⟩

theorem But.below {S : Nat → Prop} {a b : World} {B : Nat} (h : But S a b) (hS : ∀ i, S i → B ≤ i) (hB : B ≤ a.heap.size) : Below B a b :=
  ⟨h.os, h.tape, h.output, h.size, fun i hi => h.block i (by omega) fun hs => by have := hS i hs; omega⟩

theorem But.then_below {S : Nat → Prop} {a b c : World} (h : But S a b) (k : Below b.heap.size b c) : But S a c := h.trans (T := fun _ => False) (.of_below k) fun _ h => h.elim

theorem But.alloc {S : Nat → Prop} {a b : World} (h : But S a b) (o : Obj) : But S a (b.alloc o) := h.then_below ((Below.refl _ _).alloc (Nat.le_refl _) o)

theorem But.drewN {S : Nat → Prop} {a b : World} (h : But S a b) (n : Nat) : But S a (b.drewN n) := ⟨h.os, h.tape, h.output, h.size, h.block⟩

theorem But.setCell {S : Nat → Prop} {a b : World} (h : But S a b) {p : Addr} (hp : S p.block ∨ a.heap.size ≤ p.block) (v : Value) : But S a (b.setCell p v) := by
  refine ⟨?_, ?_, ?_, ?_, fun k hk hn => ?_⟩
  · rw [← h.os]; rfl
  · rw [← h.tape]; rfl
  · rw [← h.output]; rfl
  · rw [World.size_setCell]; exact h.size
  · rw [← h.block k hk hn]
    refine heap_setCell_other _ _ _ _ fun e => ?_
    subst e
    rcases hp with hp | hp
    · exact hn hp
    · omega

/-- What stood in a block that isn't one of them stands there. -/
theorem But.heap {S : Nat → Prop} {a b : World} (h : But S a b) {g : Nat} {o : Obj} (hg : a.heap[g]? = some o) (hn : ¬ S g) : b.heap[g]? = some o := (h.block g (heap_lt hg) hn).trans hg

theorem But.cell {S : Nat → Prop} {a b : World} (h : But S a b) {p : Addr} {v : Value} (hp : a.cell? p = some v) (hn : ¬ S p.block) : b.cell? p = some v :=
  (World.cell?_of_block (h.block p.block (World.block_lt_of_cell? _ _ hp) hn)).trans hp

end Go.Proofs.Ythobfeohgeeofaa

/-
  What the statements of layer 9 need of the package's own calls: whatever a graph is in memory.
-/
namespace Go.Proofs.Ythobfeohgeeofaa
open Go.RowKit StampMath GraphMath OpMath

/-- A graph in memory: at an address, in some blocks; and what the calls do. -/
structure GraphHave where
  rep : World → (Nat → Prop) → Addr → Gr → Prop
  lt : ∀ {W : World} {S : Nat → Prop} {a : Addr} {g : Gr}, rep W S a g → ∀ i, S i → i < W.heap.size
  keep : ∀ {W W' : World} {S : Nat → Prop} {a : Addr} {g : Gr}, rep W S a g → (∀ i, S i → W'.heap[i]? = W.heap[i]?) → rep W' S a g
  new : ∀ (w : World), Calls Try.prog 9 #[] w fun e w' => ∃ a S, e = .returned (.pointer (some a)) ∧ rep w' S a newG ∧ (∀ i, S i → w.heap.size ≤ i) ∧ Below w.heap.size w w'
  get : ∀ (a : Addr) (S : Nat → Prop) (g : Gr) (id : St) (w : World), rep w S a g → g.ok → Calls Try.prog 13 #[.pointer (some a), .agg (stA id)] w fun e w' => e = .returned (.tuple #[.agg (inoA ((getG g id).getD noIno)), .bool (getG g id).isSome]) ∧ Below w.heap.size w w'
  look : ∀ (a : Addr) (S : Nat → Prop) (g : Gr) (d : St) (nm : ByteArray) (w : World), rep w S a g → g.ok → nm.size ≤ maxLen → Calls Try.prog 15 #[.pointer (some a), .agg (stA d), .string nm] w fun e w' => e = .returned (.tuple #[.agg (stA ((lookE g.E d nm).getD (0, 0))), .bool (lookE g.E d nm).isSome]) ∧ Below w.heap.size w w'
  list : ∀ (a : Addr) (S : Nat → Prop) (g : Gr) (d : St) (w : World), rep w S a g → g.ok → Calls Try.prog 20 #[.pointer (some a), .agg (stA d)] w (EntsNew (listE g.E d) w)
  inodes : ∀ (a : Addr) (S : Nat → Prop) (g : Gr) (w : World), rep w S a g → g.ok → Calls Try.prog 25 #[.pointer (some a)] w (InosNew (inodesG g) w)
  entries : ∀ (a : Addr) (S : Nat → Prop) (g : Gr) (w : World), rep w S a g → g.ok → Calls Try.prog 24 #[.pointer (some a)] w (EntsNew g.E w)
  parent : ∀ (a : Addr) (S : Nat → Prop) (g : Gr) (d : St) (w : World), rep w S a g → g.ok → Calls Try.prog 17 #[.pointer (some a), .agg (stA d)] w fun e w' => e = .returned (.tuple #[.agg (stA ((parentG g d).getD (0, 0))), .bool (parentG g d).isSome]) ∧ Below w.heap.size w w'
  under : ∀ (a : Addr) (S : Nat → Prop) (g : Gr) (id d : St) (w : World), rep w S a g → g.ok → Calls Try.prog 22 #[.pointer (some a), .agg (stA id), .agg (stA d)] w fun e w' => e = .returned (.bool (underG g id d)) ∧ Below w.heap.size w w'
  make : ∀ (a : Addr) (S : Nat → Prop) (g : Gr) (id : St) (kind : Int) (w : World), rep w S a g → g.ok → Calls Try.prog 32 #[.pointer (some a), .agg (stA id), .int .i64 kind] w fun e w' => ∃ S', e = .returned (.int .i64 (makeG g id kind).2) ∧ rep w' S' a (makeG g id kind).1 ∧ (∀ i, S' i → S i ∨ w.heap.size ≤ i) ∧ But S w w'
  tie : ∀ (a : Addr) (S : Nat → Prop) (g : Gr) (x : Ent) (w : World), rep w S a g → g.ok → x.name.size ≤ maxLen → Calls Try.prog 28 #[.pointer (some a), .agg (entA x)] w fun e w' => ∃ S', e = .returned (.int .i64 (tieG (nameB x.name) g x).2) ∧ rep w' S' a (tieG (nameB x.name) g x).1 ∧ (∀ i, S' i → S i ∨ w.heap.size ≤ i) ∧ But S w w'
  untie : ∀ (a : Addr) (S : Nat → Prop) (g : Gr) (d : St) (nm : ByteArray) (w : World), rep w S a g → g.ok → nm.size ≤ maxLen → Calls Try.prog 29 #[.pointer (some a), .agg (stA d), .string nm] w fun e w' => ∃ S', e = .returned (.tuple #[.agg (stA (untieG g d nm).2.1), .int .i64 (untieG g d nm).2.2]) ∧ rep w' S' a (untieG g d nm).1 ∧ (∀ i, S' i → S i ∨ w.heap.size ≤ i) ∧ But S w w'
  drop : ∀ (a : Addr) (S : Nat → Prop) (g : Gr) (id : St) (w : World), rep w S a g → g.ok → Calls Try.prog 30 #[.pointer (some a), .agg (stA id)] w fun e w' => ∃ S', e = .returned (.int .i64 (dropG g id).2) ∧ rep w' S' a (dropG g id).1 ∧ (∀ i, S' i → S i ∨ w.heap.size ≤ i) ∧ But S w w'
  set : ∀ (a : Addr) (S : Nat → Prop) (g : Gr) (id : St) (mode : Int) (data : ByteArray) (w : World), rep w S a g → g.ok → Calls Try.prog 31 #[.pointer (some a), .agg (stA id), .int .i64 mode, .string data] w fun e w' => ∃ S', e = .returned (.int .i64 (setG g id mode data).2) ∧ rep w' S' a (setG g id mode data).1 ∧ (∀ i, S' i → S i ∨ w.heap.size ≤ i) ∧ But S w w'
  copy : ∀ (a : Addr) (S : Nat → Prop) (g : Gr) (w : World), rep w S a g → g.ok → Calls Try.prog 26 #[.pointer (some a)] w fun e w' => ∃ b T, e = .returned (.pointer (some b)) ∧ rep w' T b g ∧ (∀ i, T i → w.heap.size ≤ i) ∧ Below w.heap.size w w'
  nilGet : ∀ (id : St) (w : World), Calls Try.prog 13 #[.pointer none, .agg (stA id)] w fun e w' => e = .returned (.tuple #[.agg (inoA noIno), .bool false]) ∧ Below w.heap.size w w'
  nilLook : ∀ (d : St) (nm : ByteArray) (w : World), Calls Try.prog 15 #[.pointer none, .agg (stA d), .string nm] w fun e w' => e = .returned (.tuple #[.agg (stA (0, 0)), .bool false]) ∧ Below w.heap.size w w'
  nilInodes : ∀ (w : World), Calls Try.prog 25 #[.pointer none] w (InosNew [] w)
  nilEntries : ∀ (w : World), Calls Try.prog 24 #[.pointer none] w (EntsNew [] w)
  nilMake : ∀ (w : World), Calls Try.prog 32 #[.pointer none, .agg (stA (1, 0)), .int .i64 1] w fun e w' => e = .returned (.int .i64 3) ∧ Below w.heap.size w w'
  nilTie : ∀ (w : World), Calls Try.prog 28 #[.pointer none, .agg (entA ⟨(0, 0), ⟨#[97]⟩, (0, 0)⟩)] w fun e w' => e = .returned (.int .i64 3) ∧ Below w.heap.size w w'
  nilDrop : ∀ (id : St) (w : World), Calls Try.prog 30 #[.pointer none, .agg (stA id)] w fun e w' => e = .returned (.int .i64 3) ∧ Below w.heap.size w w'
  nilSet : ∀ (id : St) (w : World), Calls Try.prog 31 #[.pointer none, .agg (stA id), .int .i64 1, .string ⟨#[]⟩] w fun e w' => e = .returned (.int .i64 3) ∧ Below w.heap.size w w'
  nilCopy : ∀ (w : World), Calls Try.prog 26 #[.pointer none] w fun e w' => e = .returned (.pointer none) ∧ Below w.heap.size w w'

/-- A graph that lies in blocks of P alone. -/
def GraphAt (H : GraphHave) (P : Nat → Prop) (W : World) (a : Addr) (g : Gr) : Prop := (∃ S, H.rep W S a g ∧ ∀ i, S i → P i) ∧ g.ok

theorem GraphAt.keep {H : GraphHave} {P : Nat → Prop} {W W' : World} {a : Addr} {g : Gr} (h : GraphAt H P W a g) (hb : ∀ i, P i → i < W.heap.size → W'.heap[i]? = W.heap[i]?) : GraphAt H P W' a g := by
  obtain ⟨⟨S, h1, h2⟩, h3⟩ := h
  exact ⟨⟨S, H.keep h1 fun i hi => hb i (h2 i hi) (H.lt h1 i hi), h2⟩, h3⟩

theorem GraphAt.below {H : GraphHave} {P : Nat → Prop} {W W' : World} {a : Addr} {g : Gr} (h : GraphAt H P W a g) (hb : Below W.heap.size W W') : GraphAt H P W' a g := h.keep fun i _ hi => hb.block i hi

/-- One graph, all of it made since w. -/
def Graph1 (H : GraphHave) (w W : World) (a : Addr) (g : Gr) : Prop := GraphAt H (fun i => w.heap.size ≤ i) W a g ∧ Below w.heap.size w W

theorem Graph1.ok {H : GraphHave} {w W : World} {a : Addr} {g : Gr} (h : Graph1 H w W a g) : g.ok := h.1.2
theorem Graph1.step {H : GraphHave} {w W W' : World} {a : Addr} {g : Gr} (h : Graph1 H w W a g) (hb : Below W.heap.size W W') : Graph1 H w W' a g := ⟨h.1.below hb, below_step h.2 hb⟩

theorem Graph1.new {H : GraphHave} {w W : World} (hB : Below w.heap.size w W) :
    Calls Try.prog 9 #[] W fun e w' => ∃ a, e = .returned (.pointer (some a)) ∧ Graph1 H w w' a newG := by
  refine (H.new W).mono ?_
  rintro e w' ⟨a, S, he, h1, h2, h3⟩
  exact ⟨a, he, ⟨⟨S, h1, fun i hi => Nat.le_trans hB.size (h2 i hi)⟩, new_okG⟩, below_step hB h3⟩

theorem Graph1.mut {H : GraphHave} {w W w' : World} {a : Addr} {g : Gr} {S S' : Nat → Prop} (hB : Below w.heap.size w W) (hS : ∀ i, S i → w.heap.size ≤ i) (h1 : H.rep w' S' a g) (h2 : ∀ i, S' i → S i ∨ W.heap.size ≤ i) (h3 : But S W w') (hg : g.ok) : Graph1 H w w' a g :=
  ⟨⟨⟨S', h1, fun i hi => (h2 i hi).elim (hS i) (Nat.le_trans hB.size)⟩, hg⟩, hB.trans (h3.below hS hB.size)⟩

theorem Graph1.make {H : GraphHave} {w W : World} {a : Addr} {g : Gr} (h : Graph1 H w W a g) (id : St) (kind : Int) :
    Calls Try.prog 32 #[.pointer (some a), .agg (stA id), .int .i64 kind] W fun e w' => e = .returned (.int .i64 (makeG g id kind).2) ∧ Graph1 H w w' a (makeG g id kind).1 := by
  obtain ⟨⟨⟨S, h1, h2⟩, h3⟩, hB⟩ := h
  refine (H.make a S g id kind W h1 h3).mono ?_
  rintro e w' ⟨S', he, k1, k2, k3⟩
  exact ⟨he, Graph1.mut hB h2 k1 k2 k3 (h3.make id kind)⟩

theorem Graph1.tie {H : GraphHave} {w W : World} {a : Addr} {g : Gr} (h : Graph1 H w W a g) (x : Ent) (hx : x.name.size ≤ maxLen) :
    Calls Try.prog 28 #[.pointer (some a), .agg (entA x)] W fun e w' => e = .returned (.int .i64 (tieG (nameB x.name) g x).2) ∧ Graph1 H w w' a (tieG (nameB x.name) g x).1 := by
  obtain ⟨⟨⟨S, h1, h2⟩, h3⟩, hB⟩ := h
  refine (H.tie a S g x W h1 h3 hx).mono ?_
  rintro e w' ⟨S', he, k1, k2, k3⟩
  exact ⟨he, Graph1.mut hB h2 k1 k2 k3 (h3.tie _ x)⟩

theorem Graph1.untie {H : GraphHave} {w W : World} {a : Addr} {g : Gr} (h : Graph1 H w W a g) (d : St) (nm : ByteArray) (hn : nm.size ≤ maxLen) :
    Calls Try.prog 29 #[.pointer (some a), .agg (stA d), .string nm] W fun e w' => e = .returned (.tuple #[.agg (stA (untieG g d nm).2.1), .int .i64 (untieG g d nm).2.2]) ∧ Graph1 H w w' a (untieG g d nm).1 := by
  obtain ⟨⟨⟨S, h1, h2⟩, h3⟩, hB⟩ := h
  refine (H.untie a S g d nm W h1 h3 hn).mono ?_
  rintro e w' ⟨S', he, k1, k2, k3⟩
  exact ⟨he, Graph1.mut hB h2 k1 k2 k3 (h3.untie d nm)⟩

theorem Graph1.drop {H : GraphHave} {w W : World} {a : Addr} {g : Gr} (h : Graph1 H w W a g) (id : St) :
    Calls Try.prog 30 #[.pointer (some a), .agg (stA id)] W fun e w' => e = .returned (.int .i64 (dropG g id).2) ∧ Graph1 H w w' a (dropG g id).1 := by
  obtain ⟨⟨⟨S, h1, h2⟩, h3⟩, hB⟩ := h
  refine (H.drop a S g id W h1 h3).mono ?_
  rintro e w' ⟨S', he, k1, k2, k3⟩
  exact ⟨he, Graph1.mut hB h2 k1 k2 k3 (h3.drop id)⟩

theorem Graph1.set {H : GraphHave} {w W : World} {a : Addr} {g : Gr} (h : Graph1 H w W a g) (id : St) (mode : Int) (data : ByteArray) :
    Calls Try.prog 31 #[.pointer (some a), .agg (stA id), .int .i64 mode, .string data] W fun e w' => e = .returned (.int .i64 (setG g id mode data).2) ∧ Graph1 H w w' a (setG g id mode data).1 := by
  obtain ⟨⟨⟨S, h1, h2⟩, h3⟩, hB⟩ := h
  refine (H.set a S g id mode data W h1 h3).mono ?_
  rintro e w' ⟨S', he, k1, k2, k3⟩
  exact ⟨he, Graph1.mut hB h2 k1 k2 k3 (h3.set id mode data)⟩

theorem Graph1.get {H : GraphHave} {w W : World} {a : Addr} {g : Gr} (h : Graph1 H w W a g) (id : St) :
    Calls Try.prog 13 #[.pointer (some a), .agg (stA id)] W fun e w' => e = .returned (.tuple #[.agg (inoA ((getG g id).getD noIno)), .bool (getG g id).isSome]) ∧ Graph1 H w w' a g := by
  have h0 := h
  obtain ⟨⟨⟨S, h1, h2⟩, h3⟩, hB⟩ := h
  refine (H.get a S g id W h1 h3).mono ?_
  rintro e w' ⟨he, hb⟩
  exact ⟨he, h0.step hb⟩

theorem Graph1.look {H : GraphHave} {w W : World} {a : Addr} {g : Gr} (h : Graph1 H w W a g) (d : St) (nm : ByteArray) (hn : nm.size ≤ maxLen) :
    Calls Try.prog 15 #[.pointer (some a), .agg (stA d), .string nm] W fun e w' => e = .returned (.tuple #[.agg (stA ((lookE g.E d nm).getD (0, 0))), .bool (lookE g.E d nm).isSome]) ∧ Graph1 H w w' a g := by
  have h0 := h
  obtain ⟨⟨⟨S, h1, h2⟩, h3⟩, hB⟩ := h
  refine (H.look a S g d nm W h1 h3 hn).mono ?_
  rintro e w' ⟨he, hb⟩
  exact ⟨he, h0.step hb⟩

theorem Graph1.parent {H : GraphHave} {w W : World} {a : Addr} {g : Gr} (h : Graph1 H w W a g) (d : St) :
    Calls Try.prog 17 #[.pointer (some a), .agg (stA d)] W fun e w' => e = .returned (.tuple #[.agg (stA ((parentG g d).getD (0, 0))), .bool (parentG g d).isSome]) ∧ Graph1 H w w' a g := by
  have h0 := h
  obtain ⟨⟨⟨S, h1, h2⟩, h3⟩, hB⟩ := h
  refine (H.parent a S g d W h1 h3).mono ?_
  rintro e w' ⟨he, hb⟩
  exact ⟨he, h0.step hb⟩

theorem Graph1.under {H : GraphHave} {w W : World} {a : Addr} {g : Gr} (h : Graph1 H w W a g) (id d : St) :
    Calls Try.prog 22 #[.pointer (some a), .agg (stA id), .agg (stA d)] W fun e w' => e = .returned (.bool (underG g id d)) ∧ Graph1 H w w' a g := by
  have h0 := h
  obtain ⟨⟨⟨S, h1, h2⟩, h3⟩, hB⟩ := h
  refine (H.under a S g id d W h1 h3).mono ?_
  rintro e w' ⟨he, hb⟩
  exact ⟨he, h0.step hb⟩

/-- Entries are told: to be read, below the world's end. -/
theorem Graph1.entries {H : GraphHave} {w W : World} {a : Addr} {g : Gr} (h : Graph1 H w W a g) :
    Calls Try.prog 24 #[.pointer (some a)] W fun e w' => EntsPost g.E W e w' ∧ Graph1 H w w' a g := by
  have h0 := h
  obtain ⟨⟨⟨S, h1, h2⟩, h3⟩, hB⟩ := h
  refine (H.entries a S g W h1 h3).mono ?_
  rintro e w' ⟨v, rfl, hown, hb⟩
  obtain ⟨B, c, rfl, q1, q2, q3⟩ := ents_own rfl hown
  exact ⟨⟨B, c, rfl, q1, q2, q3.1, q3.2, hb⟩, h0.step hb⟩

theorem Graph1.list {H : GraphHave} {w W : World} {a : Addr} {g : Gr} (h : Graph1 H w W a g) (d : St) :
    Calls Try.prog 20 #[.pointer (some a), .agg (stA d)] W fun e w' => EntsPost (listE g.E d) W e w' ∧ Graph1 H w w' a g := by
  have h0 := h
  obtain ⟨⟨⟨S, h1, h2⟩, h3⟩, hB⟩ := h
  refine (H.list a S g d W h1 h3).mono ?_
  rintro e w' ⟨v, rfl, hown, hb⟩
  obtain ⟨B, c, rfl, q1, q2, q3⟩ := ents_own rfl hown
  exact ⟨⟨B, c, rfl, q1, q2, q3.1, q3.2, hb⟩, h0.step hb⟩

theorem Graph1.inodes {H : GraphHave} {w W : World} {a : Addr} {g : Gr} (h : Graph1 H w W a g) :
    Calls Try.prog 25 #[.pointer (some a)] W fun e w' => InosPost (inodesG g) W e w' ∧ Graph1 H w w' a g := by
  have h0 := h
  obtain ⟨⟨⟨S, h1, h2⟩, h3⟩, hB⟩ := h
  refine (H.inodes a S g W h1 h3).mono ?_
  rintro e w' ⟨v, rfl, hown, hb⟩
  obtain ⟨B, c, rfl, q1, q2, q3⟩ := inos_own rfl hown
  exact ⟨⟨B, c, rfl, q1, q2, q3.1, q3.2, hb⟩, h0.step hb⟩

end Go.Proofs.Ythobfeohgeeofaa

/-
  Blocks that lie in memory while calls go by: a list of them, and that nothing older has turned. It needs no program.
-/
namespace Go.Proofs.Ythobfeohgeeofaa
open Go.RowKit

/-- These blocks lie there, and below w's end all is as it was in w. -/
def Held (w : World) (L : List (Nat × Obj)) (W : World) : Prop := (∀ p ∈ L, W.heap[p.1]? = some p.2) ∧ Below w.heap.size w W

theorem Held.refl (w : World) : Held w [] w := ⟨fun _ h => (by cases h), Below.refl _ _⟩

theorem Held.below {w W : World} {L : List (Nat × Obj)} (h : Held w L W) : Below w.heap.size w W := h.2

theorem Held.step {w W W' : World} {L : List (Nat × Obj)} (h : Held w L W) (hb : Below W.heap.size W W') : Held w L W' :=
  ⟨fun p hp => (hb.block _ (heap_lt (h.1 p hp))).trans (h.1 p hp), below_step h.2 hb⟩

theorem Held.alloc {w W : World} {L : List (Nat × Obj)} (h : Held w L W) (o : Obj) {g : Nat} (hg : W.heap.size = g) : Held w ((g, o) :: L) (W.alloc o) := by
  refine ⟨fun p hp => ?_, h.2.alloc h.2.size o⟩
  rcases List.mem_cons.1 hp with rfl | hp
  · subst hg; exact heap_alloc_new W o
  · rw [heap_alloc_old _ _ (heap_lt (h.1 p hp))]; exact h.1 p hp

theorem Held.drewN {w W : World} {L : List (Nat × Obj)} (h : Held w L W) (n : Nat) : Held w L (W.drewN n) := ⟨h.1, below_drewN' h.2 n⟩

theorem Held.drew {w W : World} {L : List (Nat × Obj)} (h : Held w L W) : Held w L W.drew := ⟨h.1, h.2.drew⟩

theorem Held.head {w W : World} {L : List (Nat × Obj)} {p : Nat × Obj} (h : Held w (p :: L) W) : W.heap[p.1]? = some p.2 := h.1 p (List.mem_cons_self ..)

theorem Held.tail {w W : World} {L : List (Nat × Obj)} {p : Nat × Obj} (h : Held w (p :: L) W) : Held w L W := ⟨fun q hq => h.1 q (List.mem_cons_of_mem _ hq), h.2⟩

theorem Held.at {w W : World} {L : List (Nat × Obj)} (h : Held w L W) (i : Nat) {p : Nat × Obj} (hp : L[i]? = some p) : W.heap[p.1]? = some p.2 := h.1 p (List.mem_of_getElem? hp)

/-- Behind a store into another block, which was made since. -/
theorem Held.set {w W : World} {L : List (Nat × Obj)} (h : Held w L W) {b : Nat} (hL : ∀ p ∈ L, p.1 < b) (hw : w.heap.size ≤ b) (i : Nat) (v : Value) : Held w L (W.setCell ⟨b, i, none⟩ v) :=
  ⟨fun p hp => (heap_setCell_other _ _ _ _ (by have := hL p hp; dsimp only; omega)).trans (h.1 p hp), h.2.setCell hw v⟩

/-- Behind a step that turns one block at most, which lies at or beyond B, where all that is held lies below. -/
theorem Held.grown {w W W' : World} {L : List (Nat × Obj)} {row : Option Nat} {B : Nat} (h : Held w L W) (hg : W.grownBy W' row) (hB : ∀ q, row = some q → B ≤ q) (hL : ∀ p ∈ L, p.1 < B) (hw : w.heap.size ≤ B := by simp) : Held w L W' :=
  ⟨fun p hp => (hg.block p.1 (heap_lt (h.1 p hp)) fun e => by have h1 := hB _ e.symm; have h2 := hL p hp; omega).trans (h.1 p hp), h.2.grown hg h.2.size fun q hq => Nat.le_trans hw (hB q hq)⟩

end Go.Proofs.Ythobfeohgeeofaa

/-
  The walks of the document's own Links, Get, Look (graphs).
-/
namespace Go.Proofs.Ythobfeohgeeofaa
open Go.RowKit StampMath GraphMath

set_option maxRecDepth 100000 in
set_option maxHeartbeats 800000 in
theorem refLinks (v : Value) (A : Option Addr) (n c : Nat) (E : List Ent) (id : St) (hn : n ≤ 1000) (w : World) (h : EntsIn w w.heap.size A n E) :
    Calls Try.prog 39 #[.agg #[v, .slice A n c], .agg (stA id)] w fun e w' => e = .returned (.int .i64 (linksE E id : Nat)) ∧ Below w.heap.size w w' := by
  have hl := h.len
  have HB : Hid (EntsIn w w.heap.size A n E) := h
  clear h
  unfold stA
  obtain ⟨t, r⟩ := id
  dsimp only
  go_enter Try.func39, Try.ntmps39
  go_wp2_with fail
  go_loopg [5, 6] (n + 1) (fun gk x i wr => ∃ k : Nat, i = .int .i64 (k : Int) ∧ x = .int .i64 (linksE (E.take k) (t, r) : Nat) ∧ gk + k = n + 1 ∧ k ≤ n ∧ wr.heap[w.heap.size]? = some (.cells #[v, .slice A n c] 33 (0, 0)) ∧ wr.heap[w.heap.size + 1]? = some (.cells #[.int .i64 t, .int .i64 r] 24 (0, 0)) ∧ Below w.heap.size w wr)
  case atStart =>
    refine ⟨0, rfl, rfl, by omega, by omega, ?_, ?_, ((Below.refl _ w).alloc (Nat.le_refl _) _).alloc (by simp) _⟩
    · exact heap_alloc2_old w _ _
    · exact heap_alloc2_new w _ _
  case round =>
    obtain ⟨k, rfl, rfl, hgk, hk, h1, h2, hB⟩ := hrel
    have c1 := cell_of_row _ _ 1 _ _ (0, 0) h1
    have c2 := cell_of_row _ _ 0 _ _ (0, 0) h2
    have c3 := cell_of_row _ _ 1 _ _ (0, 0) h2
    by_cases hlt : k < n
    · obtain ⟨g, o, rfl, hg, hrow⟩ := HB.out.row (by omega)
      obtain ⟨e0, e1, e2, e3, e4⟩ := (hrow k (by omega)).below hB hg
      clear hrow
      have hsn := linksE_snoc E k (by omega) (t, r)
      have hnum : (linksE (E.take k) (t, r) : Int) ≤ 1000 := by have := linksE_le (E.take k) (t, r); rw [List.length_take] at this; omega
      by_cases hq : E[k].ino = (t, r)
      · rw [if_pos hq] at hsn
        have hv := eqSt_yes hq
        dsimp only at hv
        go_wp2_with fail
        go_quiet (fail)
        go_wp2_with fail
        go_roundg (gk - 1)
        case measure => omega
        case rel => exact ⟨k + 1, by go_num, by rw [hsn]; go_num, by omega, by omega, h1, h2, below_drewN' hB _⟩
      · rw [if_neg hq] at hsn
        have hv := eqSt_no hq
        dsimp only at hv
        go_wp2_with fail
        go_quiet (fail)
        go_wp2_with fail
        go_roundg (gk - 1)
        case measure => omega
        case rel => exact ⟨k + 1, by go_num, by rw [hsn], by omega, by omega, h1, h2, below_drewN' hB _⟩
    · go_wp2_with fail
      go_ret
      exact ⟨by rw [List.take_of_length_le (by omega)]; rfl, hB⟩

set_option maxRecDepth 100000 in
set_option maxHeartbeats 1600000 in
theorem refGet (A A' : Option Addr) (n c m d : Nat) (g : Gr) (id : St) (hn : n ≤ 1000) (hm : m ≤ 1000) (w : World) (h : InosIn w w.heap.size A n g.I) (h' : EntsIn w w.heap.size A' m g.E) :
    Calls Try.prog 14 #[.agg #[.slice A n c, .slice A' m d], .agg (stA id)] w fun e w' => e = .returned (.tuple #[.agg (inoA ((getG g id).getD noIno)), .bool (getG g id).isSome]) ∧ Below w.heap.size w w' := by
  have hl := h.len
  have HI : Hid (InosIn w w.heap.size A n g.I) := h
  have HL : Hid (∀ W : World, Below w.heap.size w W → Calls Try.prog 39 #[.agg #[.slice A n c, .slice A' m d], .agg #[.int .i64 id.1, .int .i64 id.2]] W fun e w' => e = .returned (.int .i64 (linksE g.E id : Nat)) ∧ Below W.heap.size W w') := fun W hW => refLinks (.slice A n c) A' m d g.E id hm W ((h'.below hW).more hW.size)
  clear h h'
  have hb0 : Held w [(w.heap.size + 1 + 1, .cells (inoA noIno) 42), (w.heap.size + 1, .cells (stA id) 24), (w.heap.size, .cells #[.slice A n c, .slice A' m d] 33)]
    (((w.alloc (.cells #[.slice A n c, .slice A' m d] 33)).alloc (.cells #[.int .i64 id.1, .int .i64 id.2] 24)).alloc (.cells #[.int .i64 0, .int .i64 0, .int .i64 0, .int .i64 0, .int .i64 0, .string ⟨#[]⟩] 42)) :=
    (((Held.refl w).alloc (.cells #[.slice A n c, .slice A' m d] 33) rfl).alloc (.cells (stA id) 24) (by simp)).alloc (.cells (inoA noIno) 42) (by simp)
  unfold stA
  go_enter Try.func14, Try.ntmps14
  go_wp2_with fail
  go_loopg [6] (n + 1) (fun gk i wr => ∃ k : Nat, i = .int .i64 (k : Int) ∧ gk + k = n + 1 ∧ k ≤ n ∧ Hid ((g.I.take k).find? (fun x => decide (x.id = id)) = none) ∧ Held w [(w.heap.size + 1 + 1, .cells (inoA noIno) 42), (w.heap.size + 1, .cells (stA id) 24), (w.heap.size, .cells #[.slice A n c, .slice A' m d] 33)] wr)
  case atStart => exact ⟨0, rfl, by omega, by omega, rfl, hb0⟩
  case round =>
    obtain ⟨k, rfl, hgk, hk, hnone, hH⟩ := hrel
    clear hb0
    obtain ⟨c1, c2⟩ := two_cells (g := w.heap.size) (hH.at 2 rfl)
    obtain ⟨c3, c4⟩ := two_cells (g := w.heap.size + 1) (hH.at 1 rfl)
    by_cases hlt : k < n
    · obtain ⟨gi, o, rfl, hg, hrow⟩ := HI.out.row (by omega)
      have hp := find_none_take (p := fun x : Ino => decide (x.id = id)) (k := k) (by omega) hnone.out
      have hrk := fun W hb => (hrow k (by omega)).below (B := w.heap.size) (W' := W) hb hg
      obtain ⟨⟨xi, kd, lk, md, da⟩, hx⟩ : ∃ x, g.I[k] = x := ⟨_, rfl⟩
      rw [hx] at hrk hp
      clear hrow hx hnone
      obtain ⟨e0, e1, e2, e3, e4, e5⟩ := hrk wr hH.below
      have HR := Lib.hid hrk
      clear hrk
      by_cases hq : xi = id
      · have hv := eqSt_yes hq
        subst hq
        rw [if_pos (decide_eq_true rfl)] at hp
        have HG : Hid (getG g xi = some ⟨xi, kd, (linksE g.E xi : Int), md, da⟩) := by
          show getG g xi = _
          unfold getG
          rw [find_take hp]
          rfl
        clear hp
        go_wp2_with fail
        go_quiet (fail)
        have hH2 := hH.drewN nq
        generalize wr.drewN nq = w2 at hH2 ⊢
        clear c1 c2 c3 c4 e0 e1 e2 e3 e4 e5 hH
        obtain ⟨c1, c2⟩ := two_cells (g := w.heap.size) (hH2.at 2 rfl)
        obtain ⟨c3, c4⟩ := two_cells (g := w.heap.size + 1) (hH2.at 1 rfl)
        obtain ⟨e0, e1, e2, e3, e4, e5⟩ := HR.out w2 hH2.below
        go_upto_region 6 with fail
        change Code.wp _ _ _ _ (w2.alloc (.cells (inoA ⟨xi, kd, lk, md, da⟩) 42))
        have hH3 := hH2.alloc (.cells (inoA ⟨xi, kd, lk, md, da⟩) 42) rfl
        obtain ⟨u, hu⟩ : ∃ u, u = w2.heap.size := ⟨_, rfl⟩
        have hlow : w.heap.size + 1 + 1 < u := by rw [hu]; exact heap_lt (hH2.at 0 rfl)
        rw [← hu] at hH3 ⊢
        generalize w2.alloc (.cells (inoA ⟨xi, kd, lk, md, da⟩) 42) = w3 at hH3 ⊢
        clear c1 c2 c3 c4 e0 e1 e2 e3 e4 e5 hH2 hu
        obtain ⟨c1, c2⟩ := two_cells (g := w.heap.size) (hH3.at 3 rfl)
        obtain ⟨c3, c4⟩ := two_cells (g := w.heap.size + 1) (hH3.at 2 rfl)
        go_wp2_with fail
        refine (HL.out _ hH3.below).mono ?_
        rintro e w4 ⟨rfl, hb4⟩
        have hH4 := hH3.step hb4
        clear c1 c2 c3 c4 hH3 hb4
        obtain ⟨e0, e1, e2, e3, e4, e5⟩ := ino_cells (g := u) (hH4.at 0 rfl)
        obtain ⟨f0, f1, f2, f3, f4, f5⟩ := ino_free (g := u) (hH4.at 0 rfl)
        obtain ⟨m0, m1, m2, m3, m4, m5⟩ := ino_cells (g := w.heap.size + 1 + 1) (hH4.at 1 rfl)
        obtain ⟨n0, n1, n2, n3, n4, n5⟩ := ino_free (g := w.heap.size + 1 + 1) (hH4.at 1 rfl)
        go_wp2_with fail
        exact bodyPost_ret (v := .tuple #[.agg (inoA ⟨xi, kd, (linksE g.E xi : Int), md, da⟩), .bool true]) (by simp [results, Try.results14, go_sem, inoA, noIno, m0, m1, m2, m3, m4, m5]) rfl ⟨by rw [HG.out]; rfl, below_six (hH4.below.setCell (by dsimp only; omega) _) (by omega) _ _ _ _ _ _⟩
      · have hv := eqSt_no hq
        rw [if_neg (by rw [decide_eq_false hq]; decide)] at hp
        have HP := Lib.hid hp
        clear hp
        go_wp2_with fail
        go_quiet (fail)
        go_wp2_with fail
        go_roundg (gk - 1)
        case measure => omega
        case rel => exact ⟨k + 1, by go_num, by omega, by omega, HP.out, hH.drewN _⟩
    · have hget : getG g id = none := by
        unfold getG
        have := hnone.out
        rw [List.take_of_length_le (by omega)] at this
        rw [this]
        rfl
      have HG := Lib.hid hget
      clear hget
      have f := ino_free (g := w.heap.size + 1 + 1) (hH.at 0 rfl)
      obtain ⟨f0, f1, f2, f3, f4, f5⟩ := f
      have m' := ino_cells (g := w.heap.size + 1 + 1) (hH.at 0 rfl)
      obtain ⟨m0, m1, m2, m3, m4, m5⟩ := m'
      go_wp2_with fail
      exact bodyPost_ret (v := .tuple #[.agg (inoA noIno), .bool false]) (by simp [results, Try.results14, go_sem, inoA, noIno, m0, m1, m2, m3, m4, m5]) rfl ⟨by rw [HG.out]; rfl, below_six hH.below (by omega) _ _ _ _ _ _⟩

end Go.Proofs.Ythobfeohgeeofaa

/-
  The walk of the document's own Look (graphs).
-/
namespace Go.Proofs.Ythobfeohgeeofaa
open Go.RowKit StampMath GraphMath

/-- Is it the entry nm of d? -/
def isAt (d : St) (nm : ByteArray) (e : Ent) : Bool := decide (e.dir = d) && decide (e.name = nm)

theorem names_same (a b : ByteArray) : (a.toList == b.toList) = decide (a = b) := by
  by_cases h : a = b
  · subst h; simp
  · rw [decide_eq_false h, beq_eq_false_iff_ne]; exact fun e => h (bytes_same e)

set_option maxRecDepth 100000 in
set_option maxHeartbeats 1600000 in
theorem refLook (v : Value) (A : Option Addr) (n c : Nat) (E : List Ent) (at' : St) (nm : ByteArray) (hn : n ≤ 1000) (w : World) (h : EntsIn w w.heap.size A n E) :
    Calls Try.prog 16 #[.agg #[v, .slice A n c], .agg (stA at'), .string nm] w fun e w' => e = .returned (.tuple #[.agg (stA ((lookE E at' nm).getD (0, 0))), .bool (lookE E at' nm).isSome]) ∧ Below w.heap.size w w' := by
  have hl := h.len
  have HI : Hid (EntsIn w w.heap.size A n E) := h
  clear h
  have hb0 : Held w [(w.heap.size + 1 + 1, .cells #[.int .i64 0, .int .i64 0] 24), (w.heap.size + 1, .cells (stA at') 24), (w.heap.size, .cells #[v, .slice A n c] 33)]
    (((w.alloc (.cells #[v, .slice A n c] 33)).alloc (.cells #[.int .i64 at'.1, .int .i64 at'.2] 24)).alloc (.cells #[.int .i64 0, .int .i64 0] 24)) :=
    (((Held.refl w).alloc (.cells #[v, .slice A n c] 33) rfl).alloc (.cells (stA at') 24) (by simp)).alloc (.cells #[.int .i64 0, .int .i64 0] 24) (by simp)
  unfold stA
  go_enter Try.func16, Try.ntmps16
  go_wp2_with fail
  go_loopg [8] (n + 1) (fun gk i wr => ∃ k : Nat, i = .int .i64 (k : Int) ∧ gk + k = n + 1 ∧ k ≤ n ∧ Hid ((E.take k).find? (isAt at' nm) = none) ∧ Held w [(w.heap.size + 1 + 1, .cells #[.int .i64 0, .int .i64 0] 24), (w.heap.size + 1, .cells (stA at') 24), (w.heap.size, .cells #[v, .slice A n c] 33)] wr)
  case atStart => exact ⟨0, rfl, by omega, by omega, rfl, hb0⟩
  case round =>
    obtain ⟨k, rfl, hgk, hk, hnone, hH⟩ := hrel
    clear hb0
    have hc1 := (two_cells (g := w.heap.size) (hH.at 2 rfl)).2
    obtain ⟨c3, c4⟩ := two_cells (g := w.heap.size + 1) (hH.at 1 rfl)
    obtain ⟨m0, m1⟩ := two_cells (g := w.heap.size + 1 + 1) (hH.at 0 rfl)
    obtain ⟨f0, f1⟩ := two_free (g := w.heap.size + 1 + 1) (hH.at 0 rfl)
    by_cases hlt : k < n
    · obtain ⟨gi, o, rfl, hg, hrow⟩ := HI.out.row (by omega)
      have hp := find_none_take (p := isAt at' nm) (k := k) (by omega) hnone.out
      have hrk := (hrow k (by omega)).below hH.below hg
      obtain ⟨⟨di, en, ei⟩, hx⟩ : ∃ x, E[k] = x := ⟨_, rfl⟩
      rw [hx] at hrk hp
      clear hrow hx hnone
      obtain ⟨e0, e1, e2, e3, e4⟩ := hrk
      have hs := names_same en nm
      by_cases hq : di = at'
      · have hv := eqSt_yes hq
        subst hq
        by_cases hq2 : en = nm
        · subst hq2
          rw [decide_eq_true rfl] at hs
          have HG : Hid (lookE E di en = some ei) := by
            rw [if_pos (by unfold isAt; simp)] at hp
            show (E.find? (isAt di en)).map _ = _
            rw [find_take hp]
            rfl
          clear hp
          go_wp2_with fail
          go_quiet (fail)
          go_wp2_with fail
          exact bodyPost_ret (v := .tuple #[.agg (stA ei), .bool true]) (by simp [results, Try.results16, go_sem, stA, m0, m1]) rfl ⟨by rw [HG.out]; rfl, ((below_drewN' hH.below _).setCell (by dsimp only; omega) _).setCell (by dsimp only; omega) _⟩
        · rw [decide_eq_false hq2] at hs
          have HP : Hid ((E.take (k + 1)).find? (isAt di nm) = none) := by
            rw [if_neg (by unfold isAt; simp [hq2])] at hp
            exact hp
          clear hp
          go_wp2_with fail
          go_quiet (fail)
          go_wp2_with fail
          go_roundg (gk - 1)
          case measure => omega
          case rel => exact ⟨k + 1, by go_num, by omega, by omega, HP.out, hH.drewN _⟩
      · have hv := eqSt_no hq
        have HP : Hid ((E.take (k + 1)).find? (isAt at' nm) = none) := by
          rw [if_neg (by unfold isAt; simp [hq])] at hp
          exact hp
        clear hp
        go_wp2_with fail
        go_quiet (fail)
        go_wp2_with fail
        go_roundg (gk - 1)
        case measure => omega
        case rel => exact ⟨k + 1, by go_num, by omega, by omega, HP.out, hH.drewN _⟩
    · have HG : Hid (lookE E at' nm = none) := by
        have h := hnone.out
        rw [List.take_of_length_le (by omega)] at h
        show (E.find? (isAt at' nm)).map _ = _
        rw [h]
        rfl
      go_wp2_with fail
      exact bodyPost_ret (v := .tuple #[.agg (stA (0, 0)), .bool false]) (by simp [results, Try.results16, go_sem, stA, m0, m1]) rfl ⟨by rw [HG.out]; rfl, ((hH.below).setCell (by dsimp only; omega) _).setCell (by dsimp only; omega) _⟩

end Go.Proofs.Ythobfeohgeeofaa
