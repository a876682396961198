/-
  Entries are few. It needs no program.
-/
import Derived.Test.YthobfeohgeeofaaGreatZ00
import Derived.Test.YthobfeohgeeofaaGreatZ03
namespace Go.Proofs.YthobfeohgeeofaaGreat
open StampMath GraphMath

/-- Entries are few. -/
theorem ents_few : ∀ (ids : List St) (E : List Ent), (∀ e ∈ E, e.ino ∈ ids) → (∀ id, linksE E id ≤ 6) → E.length ≤ 6 * ids.length
  | [], E, h, _ => by
    cases E with
    | nil => simp
    | cons e l => exact absurd (h e (List.mem_cons_self ..)) (by simp)
  | d :: ids, E, h, h6 => by
    have h1 : (E.filter fun e => decide (e.ino = d)).length ≤ 6 := h6 d
    have h2 := ents_few ids (E.filter fun e => !decide (e.ino = d)) (fun e he => by
      have hm := List.mem_filter.1 he
      have hne : ¬ e.ino = d := by simpa using hm.2
      rcases List.mem_cons.1 (h e hm.1) with q | q
      · exact absurd q hne
      · exact q) (fun id => by
      refine Nat.le_trans ?_ (h6 id)
      unfold linksE
      exact (List.filter_sublist.filter _).length_le)
    have h3 : ∀ l : List Ent, l.length = (l.filter fun e => decide (e.ino = d)).length + (l.filter fun e => !decide (e.ino = d)).length := by
      intro l
      induction l with
      | nil => rfl
      | cons e l ih =>
        by_cases q : e.ino = d
        · simp [q]; omega
        · simp [q]; omega
    rw [h3 E, List.length_cons]
    omega

theorem GraphMath.Gr.ok.entsFew {g : Gr} (h : g.ok) : g.E.length ≤ 240 := by
  have h1 := ents_few (g.I.map fun x => x.id) g.E (fun e he => by
    obtain ⟨x, hx, e1⟩ := h.inos e he
    exact List.mem_map.2 ⟨x, hx, e1⟩) h.six
  rw [List.length_map] at h1
  have := h.few
  omega

end Go.Proofs.YthobfeohgeeofaaGreat

/-
  A deed of layer 9's statements: what it makes of a graph; the walk of the statements' do.
-/
namespace Go.Proofs.YthobfeohgeeofaaGreat
open Go.RowKit StampMath GraphMath OpMath

/-- A deed. -/
structure Dd where
  kind : Int
  kof : Int
  mode : Int
  e : Ent
  data : ByteArray

def ddA (d : Dd) : Array Value := #[.int .i64 d.kind, .int .i64 d.kof, .int .i64 d.mode, .int .i64 d.e.dir.1, .int .i64 d.e.dir.2, .string d.e.name, .int .i64 d.e.ino.1, .int .i64 d.e.ino.2, .string d.data]

/-- What a deed makes of a graph, and the error. -/
def doG (g : Gr) (d : Dd) : Gr × Int :=
  if d.kind = 0 then makeG g d.e.ino d.kof
  else if d.kind = 1 then tieG (nameB d.e.name) g d.e
  else if d.kind = 2 then ((untieG g d.e.dir d.e.name).1, (untieG g d.e.dir d.e.name).2.2)
  else if d.kind = 3 then dropG g d.e.ino
  else setG g d.e.ino d.mode d.data

theorem doG_ok {g : Gr} (h : g.ok) (d : Dd) : (doG g d).1.ok := by
  unfold doG
  split
  · exact h.make _ _
  split
  · exact h.tie _ _
  split
  · exact h.untie _ _
  split
  · exact h.drop _
  · exact h.set _ _ _

theorem dd_kinds (d : Dd) : (d.kind = 0 ∧ ((d.kind == 0) = true)) ∨ (¬ d.kind = 0 ∧ d.kind = 1 ∧ ((d.kind == 0) = false ∧ (d.kind == 1) = true)) ∨ (¬ d.kind = 0 ∧ ¬ d.kind = 1 ∧ d.kind = 2 ∧ ((d.kind == 0) = false ∧ (d.kind == 1) = false ∧ (d.kind == 2) = true)) ∨
    (¬ d.kind = 0 ∧ ¬ d.kind = 1 ∧ ¬ d.kind = 2 ∧ d.kind = 3 ∧ ((d.kind == 0) = false ∧ (d.kind == 1) = false ∧ (d.kind == 2) = false ∧ (d.kind == 3) = true)) ∨
    (¬ d.kind = 0 ∧ ¬ d.kind = 1 ∧ ¬ d.kind = 2 ∧ ¬ d.kind = 3 ∧ ((d.kind == 0) = false ∧ (d.kind == 1) = false ∧ (d.kind == 2) = false ∧ (d.kind == 3) = false)) := by
  simp only [beq_eq_false_iff_ne, beq_iff_eq, ne_eq]
  omega

theorem deed_end {H : GraphHave} {a : Addr} {S : Nat → Prop} {w w' : World} {o : Obj} {g : Gr} (h : ∃ S', H.rep w' S' a g ∧ (∀ i, S' i → S i ∨ (w.alloc o).heap.size ≤ i) ∧ But S (w.alloc o) w') :
    ∃ S', H.rep w' S' a g ∧ (∀ i, S' i → S i ∨ w.heap.size ≤ i) ∧ But S w w' := by
  obtain ⟨S', h1, h2, h3⟩ := h
  exact ⟨S', h1, fun i hi => (h2 i hi).imp_right fun q => Nat.le_trans (by simp) q, ((But.refl S w).alloc o).trans h3 fun i hi _ => hi⟩

theorem deed_more {H : GraphHave} {a : Addr} {S S' : Nat → Prop} {w w' : World} {g : Gr} (h : H.rep w' S' a g ∧ (∀ i, S' i → S i ∨ w.heap.size ≤ i) ∧ But S w w') (o : Obj) : H.rep (w'.alloc o) S' a g ∧ (∀ i, S' i → S i ∨ w.heap.size ≤ i) ∧ But S w (w'.alloc o) :=
  ⟨H.keep h.1 fun i hi => ((Below.refl w'.heap.size w').alloc (Nat.le_refl _) o).block i (H.lt h.1 i hi), h.2.1, h.2.2.alloc o⟩

set_option maxRecDepth 100000 in
set_option maxHeartbeats 1600000 in
theorem do_any (H : GraphHave) (a : Addr) (S : Nat → Prop) (g : Gr) (d : Dd) (w : World) (h : H.rep w S a g) (hg : g.ok) (hs : d.e.name.size ≤ maxLen) :
    Calls Tryz.prog 8 #[.pointer (some a), .agg (ddA d)] w fun e w' => ∃ S', e = .returned (.int .i64 (doG g d).2) ∧ H.rep w' S' a (doG g d).1 ∧ (∀ i, S' i → S i ∨ w.heap.size ≤ i) ∧ But S w w' := by
  have hrep : H.rep (w.alloc (.cells (ddA d) 38)) S a g := H.keep h fun i hi => ((Below.refl w.heap.size w).alloc (Nat.le_refl _) _).block i (H.lt h i hi)
  rcases dd_kinds d with ⟨k, b0⟩ | ⟨k0, k, b0, b1⟩ | ⟨k0, k1, k, b0, b1, b2⟩ | ⟨k0, k1, k2, k, b0, b1, b2, b3⟩ | ⟨k0, k1, k2, k3, b0, b1, b2, b3⟩
  · have e : doG g d = makeG g d.e.ino d.kof := by unfold doG; rw [if_pos k]
    rw [e]
    have HC := Lib.hid (H.make a S g d.e.ino d.kof _ hrep hg)
    clear k e hrep h hg hs
    unfold ddA at HC ⊢
    try unfold stA at HC
    go_enter Tryz.func8, Tryz.ntmps8
    go_wp2_with fail
    refine HC.out.mono ?_
    rintro z w1 ⟨S', rfl, q⟩
    have q2 := Lib.hid (deed_end ⟨S', q⟩)
    clear q HC
    go_wp2_with fail
    go_ret
    obtain ⟨S2, q3⟩ := q2.out
    first | exact ⟨S2, rfl, q3⟩ | exact ⟨rfl, S2, q3⟩ | exact ⟨S2, rfl, deed_more q3 _⟩ | exact ⟨rfl, S2, deed_more q3 _⟩
  · have e : doG g d = tieG (nameB d.e.name) g d.e := by unfold doG; rw [if_neg k0, if_pos k]
    rw [e]
    have HC := Lib.hid (H.tie a S g d.e _ hrep hg hs)
    clear k0 k e hrep h hg hs
    unfold ddA at HC ⊢
    try unfold stA at HC
    go_enter Tryz.func8, Tryz.ntmps8
    go_wp2_with fail
    refine HC.out.mono ?_
    rintro z w1 ⟨S', rfl, q⟩
    have q2 := Lib.hid (deed_end ⟨S', q⟩)
    clear q HC
    go_wp2_with fail
    go_ret
    obtain ⟨S2, q3⟩ := q2.out
    first | exact ⟨S2, rfl, q3⟩ | exact ⟨rfl, S2, q3⟩ | exact ⟨S2, rfl, deed_more q3 _⟩ | exact ⟨rfl, S2, deed_more q3 _⟩
  · have e : doG g d = ((untieG g d.e.dir d.e.name).1, (untieG g d.e.dir d.e.name).2.2) := by unfold doG; rw [if_neg k0, if_neg k1, if_pos k]
    rw [e]
    have HC := Lib.hid (H.untie a S g d.e.dir d.e.name _ hrep hg hs)
    clear k0 k1 k e hrep h hg hs
    unfold ddA at HC ⊢
    try unfold stA at HC
    go_enter Tryz.func8, Tryz.ntmps8
    go_wp2_with fail
    refine HC.out.mono ?_
    rintro z w1 ⟨S', rfl, q⟩
    have q2 := Lib.hid (deed_end ⟨S', q⟩)
    clear q HC
    go_wp2_with fail
    go_ret
    obtain ⟨S2, q3⟩ := q2.out
    first | exact ⟨S2, rfl, q3⟩ | exact ⟨rfl, S2, q3⟩ | exact ⟨S2, rfl, deed_more q3 _⟩ | exact ⟨rfl, S2, deed_more q3 _⟩
  · have e : doG g d = dropG g d.e.ino := by unfold doG; rw [if_neg k0, if_neg k1, if_neg k2, if_pos k]
    rw [e]
    have HC := Lib.hid (H.drop a S g d.e.ino _ hrep hg)
    clear k0 k1 k2 k e hrep h hg hs
    unfold ddA at HC ⊢
    try unfold stA at HC
    go_enter Tryz.func8, Tryz.ntmps8
    go_wp2_with fail
    refine HC.out.mono ?_
    rintro z w1 ⟨S', rfl, q⟩
    have q2 := Lib.hid (deed_end ⟨S', q⟩)
    clear q HC
    go_wp2_with fail
    go_ret
    obtain ⟨S2, q3⟩ := q2.out
    first | exact ⟨S2, rfl, q3⟩ | exact ⟨rfl, S2, q3⟩ | exact ⟨S2, rfl, deed_more q3 _⟩ | exact ⟨rfl, S2, deed_more q3 _⟩
  · have e : doG g d = setG g d.e.ino d.mode d.data := by unfold doG; rw [if_neg k0, if_neg k1, if_neg k2, if_neg k3]
    rw [e]
    have HC := Lib.hid (H.set a S g d.e.ino d.mode d.data _ hrep hg)
    clear k0 k1 k2 k3 e hrep h hg hs
    unfold ddA at HC ⊢
    try unfold stA at HC
    go_enter Tryz.func8, Tryz.ntmps8
    go_wp2_with fail
    refine HC.out.mono ?_
    rintro z w1 ⟨S', rfl, q⟩
    have q2 := Lib.hid (deed_end ⟨S', q⟩)
    clear q HC
    go_wp2_with fail
    go_ret
    obtain ⟨S2, q3⟩ := q2.out
    first | exact ⟨S2, rfl, q3⟩ | exact ⟨rfl, S2, q3⟩ | exact ⟨S2, rfl, deed_more q3 _⟩ | exact ⟨rfl, S2, deed_more q3 _⟩

end Go.Proofs.YthobfeohgeeofaaGreat

/-
  A graph in memory beside blocks that are set apart; what each call leaves of both. A copy; the document's graph beside it.
-/
namespace Go.Proofs.YthobfeohgeeofaaGreat
open Go.RowKit StampMath GraphMath OpMath

/-- A graph, made since w, outside the blocks N, which are there. -/
structure GX (H : GraphHave) (w W : World) (N : Nat → Prop) (a : Addr) (g : Gr) : Prop where
  at' : ∃ S, H.rep W S a g ∧ (∀ i, S i → w.heap.size ≤ i) ∧ ∀ i, N i → ¬ S i
  ok : g.ok
  lt : ∀ i, N i → i < W.heap.size
  below : Below w.heap.size w W

/-- The blocks N are as they were. -/
def Same (N : Nat → Prop) (W W' : World) : Prop := W.heap.size ≤ W'.heap.size ∧ ∀ i, N i → W'.heap[i]? = W.heap[i]?

theorem Same.below {N : Nat → Prop} {W W' : World} (hN : ∀ i, N i → i < W.heap.size) (hb : Below W.heap.size W W') : Same N W W' := ⟨hb.size, fun i hi => hb.block i (hN i hi)⟩

theorem GX.step {H : GraphHave} {w W W' : World} {N : Nat → Prop} {a : Addr} {g : Gr} (h : GX H w W N a g) (hb : Below W.heap.size W W') : GX H w W' N a g := by
  obtain ⟨⟨S, h1, h2, h3⟩, h4, h5, h6⟩ := h
  exact ⟨⟨S, H.keep h1 fun i hi => hb.block i (H.lt h1 i hi), h2, h3⟩, h4, fun i hi => Nat.lt_of_lt_of_le (h5 i hi) hb.size, below_step h6 hb⟩

/-- Fewer blocks are set apart. -/
theorem GX.less {H : GraphHave} {w W : World} {N N' : Nat → Prop} {a : Addr} {g : Gr} (h : GX H w W N a g) (hN : ∀ i, N' i → N i) : GX H w W N' a g := by
  obtain ⟨⟨S, h1, h2, h3⟩, h4, h5, h6⟩ := h
  exact ⟨⟨S, h1, h2, fun i hi => h3 i (hN i hi)⟩, h4, fun i hi => h5 i (hN i hi), h6⟩

/-- What a call makes is set apart, too. -/
theorem GX.grow {H : GraphHave} {w W W' : World} {N : Nat → Prop} {a : Addr} {g : Gr} (h : GX H w W N a g) (hb : Below W.heap.size W W') : GX H w W' (fun i => N i ∨ (W.heap.size ≤ i ∧ i < W'.heap.size)) a g := by
  obtain ⟨⟨S, h1, h2, h3⟩, h4, h5, h6⟩ := h
  refine ⟨⟨S, H.keep h1 fun i hi => hb.block i (H.lt h1 i hi), h2, fun i hi hs => ?_⟩, h4, fun i hi => ?_, below_step h6 hb⟩
  · rcases hi with hi | hi
    · exact h3 i hi hs
    · have := H.lt h1 i hs; omega
  · rcases hi with hi | hi
    · exact Nat.lt_of_lt_of_le (h5 i hi) hb.size
    · exact hi.2

/-- A block that is set apart is written. -/
theorem GX.put {H : GraphHave} {w W W' : World} {N T : Nat → Prop} {a : Addr} {g : Gr} (h : GX H w W N a g) (hb : But T W W') (hT : ∀ i, T i → N i ∧ w.heap.size ≤ i) : GX H w W' N a g := by
  obtain ⟨⟨S, h1, h2, h3⟩, h4, h5, h6⟩ := h
  exact ⟨⟨S, H.keep h1 fun i hi => hb.block i (H.lt h1 i hi) fun ht => h3 i (hT i ht).1 hi, h2, h3⟩, h4, fun i hi => Nat.lt_of_lt_of_le (h5 i hi) hb.size, h6.trans (hb.below (fun i hi => (hT i hi).2) h6.size)⟩

theorem GX.new {H : GraphHave} {w W : World} (hB : Below w.heap.size w W) (N : Nat → Prop) (hN : ∀ i, N i → i < W.heap.size) :
    Calls Tryz.prog 5 #[] W fun e w' => ∃ a, e = .returned (.pointer (some a)) ∧ GX H w w' N a newG ∧ Below W.heap.size W w' := by
  refine (H.new W).mono ?_
  rintro e w' ⟨a, S, he, h1, h2, h3⟩
  exact ⟨a, he, ⟨⟨S, h1, fun i hi => Nat.le_trans hB.size (h2 i hi), fun i hi hs => by have := hN i hi; have := h2 i hs; omega⟩, new_okG, fun i hi => Nat.lt_of_lt_of_le (hN i hi) h3.size, below_step hB h3⟩, h3⟩

theorem GX.mut {H : GraphHave} {w W W' : World} {N S S' : Nat → Prop} {a : Addr} {g' : Gr} (h2 : ∀ i, S i → w.heap.size ≤ i) (h3 : ∀ i, N i → ¬ S i) (h5 : ∀ i, N i → i < W.heap.size) (h6 : Below w.heap.size w W)
    (k1 : H.rep W' S' a g') (k2 : ∀ i, S' i → S i ∨ W.heap.size ≤ i) (k3 : But S W W') (hg : g'.ok) : GX H w W' N a g' ∧ Same N W W' :=
  ⟨⟨⟨S', k1, fun i hi => (k2 i hi).elim (h2 i) (Nat.le_trans h6.size), fun i hi hs => (k2 i hs).elim (h3 i hi) fun q => by have := h5 i hi; omega⟩, hg, fun i hi => Nat.lt_of_lt_of_le (h5 i hi) k3.size, h6.trans (k3.below h2 h6.size)⟩,
    k3.size, fun i hi => k3.block i (h5 i hi) (h3 i hi)⟩

/-- A deed is done. -/
theorem GX.deed {H : GraphHave} {w W : World} {N : Nat → Prop} {a : Addr} {g : Gr} (h : GX H w W N a g) (d : Dd) (hs : d.e.name.size ≤ maxLen) :
    Calls Tryz.prog 8 #[.pointer (some a), .agg (ddA d)] W fun e w' => e = .returned (.int .i64 (doG g d).2) ∧ GX H w w' N a (doG g d).1 ∧ Same N W w' := by
  obtain ⟨⟨S, h1, h2, h3⟩, h4, h5, h6⟩ := h
  refine (do_any H a S g d W h1 h4 hs).mono ?_
  rintro e w' ⟨S', he, k1, k2, k3⟩
  exact ⟨he, GX.mut h2 h3 h5 h6 k1 k2 k3 (doG_ok h4 d)⟩

theorem GX.make {H : GraphHave} {w W : World} {N : Nat → Prop} {a : Addr} {g : Gr} (h : GX H w W N a g) (id : St) (kind : Int) :
    Calls Tryz.prog 11 #[.pointer (some a), .agg (stA id), .int .i64 kind] W fun e w' => e = .returned (.int .i64 (makeG g id kind).2) ∧ GX H w w' N a (makeG g id kind).1 ∧ Same N W w' := by
  obtain ⟨⟨S, h1, h2, h3⟩, h4, h5, h6⟩ := h
  refine (H.make a S g id kind W h1 h4).mono ?_
  rintro e w' ⟨S', he, k1, k2, k3⟩
  exact ⟨he, GX.mut h2 h3 h5 h6 k1 k2 k3 (h4.make id kind)⟩

theorem GX.tie {H : GraphHave} {w W : World} {N : Nat → Prop} {a : Addr} {g : Gr} (h : GX H w W N a g) (x : Ent) (hx : x.name.size ≤ maxLen) :
    Calls Tryz.prog 12 #[.pointer (some a), .agg (entA x)] W fun e w' => e = .returned (.int .i64 (tieG (nameB x.name) g x).2) ∧ GX H w w' N a (tieG (nameB x.name) g x).1 ∧ Same N W w' := by
  obtain ⟨⟨S, h1, h2, h3⟩, h4, h5, h6⟩ := h
  refine (H.tie a S g x W h1 h4 hx).mono ?_
  rintro e w' ⟨S', he, k1, k2, k3⟩
  exact ⟨he, GX.mut h2 h3 h5 h6 k1 k2 k3 (h4.tie _ x)⟩

theorem GX.untie {H : GraphHave} {w W : World} {N : Nat → Prop} {a : Addr} {g : Gr} (h : GX H w W N a g) (d : St) (nm : ByteArray) (hn : nm.size ≤ maxLen) :
    Calls Tryz.prog 16 #[.pointer (some a), .agg (stA d), .string nm] W fun e w' => e = .returned (.tuple #[.agg (stA (untieG g d nm).2.1), .int .i64 (untieG g d nm).2.2]) ∧ GX H w w' N a (untieG g d nm).1 ∧ Same N W w' := by
  obtain ⟨⟨S, h1, h2, h3⟩, h4, h5, h6⟩ := h
  refine (H.untie a S g d nm W h1 h4 hn).mono ?_
  rintro e w' ⟨S', he, k1, k2, k3⟩
  exact ⟨he, GX.mut h2 h3 h5 h6 k1 k2 k3 (h4.untie d nm)⟩

/-- A copy: each of the two beside the other one's blocks, and N. -/
theorem GX.copy {H : GraphHave} {w W : World} {N : Nat → Prop} {a : Addr} {g : Gr} (h : GX H w W N a g) :
    Calls Tryz.prog 7 #[.pointer (some a)] W fun e w' => ∃ b S T, e = .returned (.pointer (some b)) ∧ (GX H w w' (fun i => N i ∨ T i) a g ∧ H.rep w' T b g ∧ (∀ i, T i → W.heap.size ≤ i)) ∧ (GX H w w' (fun i => N i ∨ S i) b g ∧ H.rep w' S a g ∧ (∀ i, S i → w.heap.size ≤ i) ∧ (∀ i, N i → ¬ S i)) ∧ Below W.heap.size W w' := by
  obtain ⟨⟨S, h1, h2, h3⟩, h4, h5, h6⟩ := h
  refine (H.copy a S g W h1 h4).mono ?_
  rintro e w' ⟨b, T, he, k1, k2, k3⟩
  have r1 := H.keep h1 fun i hi => k3.block i (H.lt h1 i hi)
  refine ⟨b, S, T, he, ⟨⟨⟨S, r1, h2, fun i hi hs => ?_⟩, h4, fun i hi => ?_, below_step h6 k3⟩, k1, k2⟩, ⟨⟨⟨T, k1, fun i hi => Nat.le_trans h6.size (k2 i hi), fun i hi ht => ?_⟩, h4, fun i hi => ?_, below_step h6 k3⟩, r1, h2, h3⟩, k3⟩
  · rcases hi with hi | hi
    · exact h3 i hi hs
    · have := k2 i hi; have := H.lt h1 i hs; omega
  · rcases hi with hi | hi
    · exact Nat.lt_of_lt_of_le (h5 i hi) k3.size
    · exact H.lt k1 i hi
  · rcases hi with hi | hi
    · have := k2 i ht; have := h5 i hi; omega
    · have := k2 i ht; have := H.lt h1 i hi; omega
  · rcases hi with hi | hi
    · exact Nat.lt_of_lt_of_le (h5 i hi) k3.size
    · exact H.lt r1 i hi

theorem GX.get {H : GraphHave} {w W : World} {N : Nat → Prop} {a : Addr} {g : Gr} (h : GX H w W N a g) (id : St) :
    Calls Tryz.prog 30 #[.pointer (some a), .agg (stA id)] W fun e w' => e = .returned (.tuple #[.agg (inoA ((getG g id).getD noIno)), .bool (getG g id).isSome]) ∧ GX H w w' N a g ∧ Below W.heap.size W w' := by
  have h0 := h
  obtain ⟨⟨S, h1, h2, h3⟩, h4, h5, h6⟩ := h
  refine (H.get a S g id W h1 h4).mono ?_
  rintro e w' ⟨he, hb⟩
  exact ⟨he, h0.step hb, hb⟩

theorem GX.look {H : GraphHave} {w W : World} {N : Nat → Prop} {a : Addr} {g : Gr} (h : GX H w W N a g) (d : St) (nm : ByteArray) (hn : nm.size ≤ maxLen) :
    Calls Tryz.prog 34 #[.pointer (some a), .agg (stA d), .string nm] W fun e w' => e = .returned (.tuple #[.agg (stA ((lookE g.E d nm).getD (0, 0))), .bool (lookE g.E d nm).isSome]) ∧ GX H w w' N a g ∧ Below W.heap.size W w' := by
  have h0 := h
  obtain ⟨⟨S, h1, h2, h3⟩, h4, h5, h6⟩ := h
  refine (H.look a S g d nm W h1 h4 hn).mono ?_
  rintro e w' ⟨he, hb⟩
  exact ⟨he, h0.step hb, hb⟩

theorem GX.parent {H : GraphHave} {w W : World} {N : Nat → Prop} {a : Addr} {g : Gr} (h : GX H w W N a g) (d : St) :
    Calls Tryz.prog 66 #[.pointer (some a), .agg (stA d)] W fun e w' => e = .returned (.tuple #[.agg (stA ((parentG g d).getD (0, 0))), .bool (parentG g d).isSome]) ∧ GX H w w' N a g ∧ Below W.heap.size W w' := by
  have h0 := h
  obtain ⟨⟨S, h1, h2, h3⟩, h4, h5, h6⟩ := h
  refine (H.parent a S g d W h1 h4).mono ?_
  rintro e w' ⟨he, hb⟩
  exact ⟨he, h0.step hb, hb⟩

theorem GX.under {H : GraphHave} {w W : World} {N : Nat → Prop} {a : Addr} {g : Gr} (h : GX H w W N a g) (id d : St) :
    Calls Tryz.prog 51 #[.pointer (some a), .agg (stA id), .agg (stA d)] W fun e w' => e = .returned (.bool (underG g id d)) ∧ GX H w w' N a g ∧ Below W.heap.size W w' := by
  have h0 := h
  obtain ⟨⟨S, h1, h2, h3⟩, h4, h5, h6⟩ := h
  refine (H.under a S g id d W h1 h4).mono ?_
  rintro e w' ⟨he, hb⟩
  exact ⟨he, h0.step hb, hb⟩

/-- Entries are told: a slice of its own. -/
theorem GX.entries {H : GraphHave} {w W : World} {N : Nat → Prop} {a : Addr} {g : Gr} (h : GX H w W N a g) :
    Calls Tryz.prog 28 #[.pointer (some a)] W fun e w' => EntsNew g.E W e w' ∧ GX H w w' N a g := by
  have h0 := h
  obtain ⟨⟨S, h1, h2, h3⟩, h4, h5, h6⟩ := h
  refine (H.entries a S g W h1 h4).mono ?_
  rintro e w' ⟨v, rfl, hown, hb⟩
  exact ⟨⟨v, rfl, hown, hb⟩, h0.step hb⟩

theorem GX.list {H : GraphHave} {w W : World} {N : Nat → Prop} {a : Addr} {g : Gr} (h : GX H w W N a g) (d : St) :
    Calls Tryz.prog 35 #[.pointer (some a), .agg (stA d)] W fun e w' => EntsNew (listE g.E d) W e w' ∧ GX H w w' N a g := by
  have h0 := h
  obtain ⟨⟨S, h1, h2, h3⟩, h4, h5, h6⟩ := h
  refine (H.list a S g d W h1 h4).mono ?_
  rintro e w' ⟨v, rfl, hown, hb⟩
  exact ⟨⟨v, rfl, hown, hb⟩, h0.step hb⟩

theorem GX.inodes {H : GraphHave} {w W : World} {N : Nat → Prop} {a : Addr} {g : Gr} (h : GX H w W N a g) :
    Calls Tryz.prog 25 #[.pointer (some a)] W fun e w' => InosNew (inodesG g) W e w' ∧ GX H w w' N a g := by
  have h0 := h
  obtain ⟨⟨S, h1, h2, h3⟩, h4, h5, h6⟩ := h
  refine (H.inodes a S g W h1 h4).mono ?_
  rintro e w' ⟨v, rfl, hown, hb⟩
  exact ⟨⟨v, rfl, hown, hb⟩, h0.step hb⟩

end Go.Proofs.YthobfeohgeeofaaGreat

/-
  The head of layer 9's statements: the document's example.
-/
namespace Go.Proofs.YthobfeohgeeofaaGreat
open Go.RowKit StampMath GraphMath OpMath

/-- The example's graphs. -/
def shG1 : Gr := (makeG newG (1, 0) 1).1
def shG2 : Gr := (tieG (nameB ⟨#[97]⟩) shG1 ⟨(0, 0), ⟨#[97]⟩, (1, 0)⟩).1

set_option maxRecDepth 100000 in
theorem sh_errs : (makeG newG (1, 0) 1).2 = 0 ∧ (tieG (nameB ⟨#[97]⟩) shG1 ⟨(0, 0), ⟨#[97]⟩, (1, 0)⟩).2 = 0 ∧ (tieG (nameB ⟨#[98]⟩) shG2 ⟨(1, 0), ⟨#[98]⟩, (0, 0)⟩).2 = 8 := by decide +kernel

set_option maxRecDepth 100000 in
set_option maxHeartbeats 800000 in
theorem GraphHave.shown (H : GraphHave) (w : World) :
    Calls Tryz.prog 4 #[] w fun e w' => e = .returned (.bool true) ∧ Below w.heap.size w w' := by
  obtain ⟨r1, r2, r3⟩ := sh_errs
  have HR := Lib.hid (And.intro r1 (And.intro r2 r3))
  clear r1 r2 r3
  go_enter Tryz.func4, Tryz.ntmps4
  go_wp2_with fail
  refine (GX.new (H := H) (Below.refl w.heap.size w) (fun _ => False) (fun _ h => h.elim)).mono ?_
  rintro e w1 ⟨a, rfl, g1, hb1⟩
  have q1 : GX H w (w1.alloc (.cells #[.int .i64 1, .int .i64 0] 34)) (fun i => i = w1.heap.size) a newG := (g1.grow ((Below.refl w1.heap.size w1).alloc (Nat.le_refl _) (.cells #[.int .i64 1, .int .i64 0] 34))).less fun i hi => .inr (by subst hi; simp)
  have hx := heap_alloc_new w1 (.cells #[.int .i64 1, .int .i64 0] 34)
  have Q1 := Lib.hid (And.intro q1 hx)
  clear q1 hx g1 hb1
  go_wp2_with fail
  refine (Q1.out.1.make (1, 0) 1).mono ?_
  rw [HR.out.1]
  rintro e w2 ⟨rfl, q2, s2⟩
  have hx2 := (s2.2 _ rfl).trans Q1.out.2
  obtain ⟨e0, e1⟩ := two_cells hx2
  have Q2 := Lib.hid (And.intro q2 hx2)
  clear q2 s2 hx2 Q1
  go_wp2_with fail
  have HT : Hid (Calls Tryz.prog 12 #[.pointer (some a), .agg #[.int .i64 0, .int .i64 0, .string ⟨#[97]⟩, .int .i64 1, .int .i64 0]] w2 _) := Q2.out.1.tie ⟨(0, 0), ⟨#[97]⟩, (1, 0)⟩ (by decide)
  refine HT.out.mono ?_
  rw [show (tieG (nameB ⟨#[97]⟩) (makeG newG (1, 0) 1).1 ⟨(0, 0), ⟨#[97]⟩, (1, 0)⟩).2 = 0 from HR.out.2.1]
  rintro e w3 ⟨rfl, q3, s3⟩
  have hx3 := (s3.2 _ rfl).trans Q2.out.2
  clear e0 e1
  obtain ⟨e0, e1⟩ := two_cells hx3
  have Q3 := Lib.hid q3
  clear q3 s3 hx3 HT Q2
  go_wp2_with fail
  have HT : Hid (Calls Tryz.prog 12 #[.pointer (some a), .agg #[.int .i64 1, .int .i64 0, .string ⟨#[98]⟩, .int .i64 0, .int .i64 0]] w3 _) := Q3.out.tie ⟨(1, 0), ⟨#[98]⟩, (0, 0)⟩ (by decide)
  refine HT.out.mono ?_
  rw [show (tieG (nameB ⟨#[98]⟩) (tieG (nameB ⟨#[97]⟩) (makeG newG (1, 0) 1).1 ⟨(0, 0), ⟨#[97]⟩, (1, 0)⟩).1 ⟨(1, 0), ⟨#[98]⟩, (0, 0)⟩).2 = 8 from HR.out.2.2]
  rintro e w4 ⟨rfl, q4, s4⟩
  have hB := q4.below
  clear q4 s4 HT Q3 e0 e1
  go_wp2_with fail
  go_ret
  exact ⟨rfl, hB⟩

end Go.Proofs.YthobfeohgeeofaaGreat

/-
  A slice of layer 9's deeds that is only read. It needs no program's function.
-/
namespace Go.Proofs.YthobfeohgeeofaaGreat
open Go.RowKit StampMath GraphMath OpMath

/-- The slice reads as deeds, and lies below block B. -/
def DdsIn (W : World) (B : Nat) (A : Option Addr) (n : Nat) (ds : List Dd) : Prop := TabIn 9 W B A n (ds.map ddA)

theorem DdsIn.len {W : World} {B : Nat} {A : Option Addr} {n : Nat} {ds : List Dd} (h : DdsIn W B A n ds) : ds.length = n := by have := h.1; rwa [List.length_map] at this

/-- A deed's cells at ⟨g, p⟩. -/
def DdAt (W : World) (g p : Nat) (d : Dd) : Prop :=
  W.cell? ⟨g, p, none⟩ = some (.int .i64 d.kind) ∧ W.cell? ⟨g, p + 1, none⟩ = some (.int .i64 d.kof) ∧ W.cell? ⟨g, p + 2, none⟩ = some (.int .i64 d.mode) ∧ W.cell? ⟨g, p + 3, none⟩ = some (.int .i64 d.e.dir.1) ∧ W.cell? ⟨g, p + 4, none⟩ = some (.int .i64 d.e.dir.2) ∧
  W.cell? ⟨g, p + 5, none⟩ = some (.string d.e.name) ∧ W.cell? ⟨g, p + 6, none⟩ = some (.int .i64 d.e.ino.1) ∧ W.cell? ⟨g, p + 7, none⟩ = some (.int .i64 d.e.ino.2) ∧ W.cell? ⟨g, p + 8, none⟩ = some (.string d.data)

theorem DdsIn.row {W : World} {B : Nat} {A : Option Addr} {n : Nat} {ds : List Dd} (h : DdsIn W B A n ds) (hn : 0 < n) : ∃ g o, A = some ⟨g, o, none⟩ ∧ g < B ∧ ∀ k (hk : k < ds.length), DdAt W g (o + k * 9) ds[k] := by
  obtain ⟨g, o, e, hg, hc⟩ := h.2 hn
  refine ⟨g, o, e, hg, fun k hk => ?_⟩
  have hk' : k < (ds.map ddA).length := by simpa using hk
  have he : (ds.map ddA)[k] = ddA ds[k] := by simp
  exact ⟨hc k hk' 0 _ (by rw [he]; rfl), hc k hk' 1 _ (by rw [he]; rfl), hc k hk' 2 _ (by rw [he]; rfl), hc k hk' 3 _ (by rw [he]; rfl), hc k hk' 4 _ (by rw [he]; rfl), hc k hk' 5 _ (by rw [he]; rfl), hc k hk' 6 _ (by rw [he]; rfl), hc k hk' 7 _ (by rw [he]; rfl), hc k hk' 8 _ (by rw [he]; rfl)⟩

theorem DdAt.below {W W' : World} {B g p : Nat} {d : Dd} (h : DdAt W g p d) (hb : Below B W W') (hg : g < B) : DdAt W' g p d := by
  obtain ⟨h0, h1, h2, h3, h4, h5, h6, h7, h8⟩ := h
  exact ⟨(hb.cell (p := ⟨g, p, none⟩) hg).trans h0, (hb.cell (p := ⟨g, p + 1, none⟩) hg).trans h1, (hb.cell (p := ⟨g, p + 2, none⟩) hg).trans h2, (hb.cell (p := ⟨g, p + 3, none⟩) hg).trans h3, (hb.cell (p := ⟨g, p + 4, none⟩) hg).trans h4, (hb.cell (p := ⟨g, p + 5, none⟩) hg).trans h5, (hb.cell (p := ⟨g, p + 6, none⟩) hg).trans h6, (hb.cell (p := ⟨g, p + 7, none⟩) hg).trans h7, (hb.cell (p := ⟨g, p + 8, none⟩) hg).trans h8⟩

end Go.Proofs.YthobfeohgeeofaaGreat

/-
  The walk of the document's own Set (graphs).
-/
namespace Go.Proofs.YthobfeohgeeofaaGreat
open Go.RowKit StampMath GraphMath OpMath

/-- What Set makes of an inode. -/
def setI (id : St) (mode : Int) (data : ByteArray) (x : Ino) : Ino := if x.id = id then { x with mode := mode, data := data } else x

theorem setG_eq (g : Gr) (id : St) (mode : Int) (data : ByteArray) : setG g id mode data = if (getG g id).isSome = false then (g, 3) else (⟨g.I.map (setI id mode data), g.E⟩, 0) := by
  unfold setG
  cases h : getG g id with
  | none => simp
  | some x => rfl

/-- The first k of them set. -/
def setK (id : St) (mode : Int) (data : ByteArray) (I : List Ino) (k : Nat) : List Ino := (I.take k).map (setI id mode data) ++ I.drop k

theorem setK_zero (id : St) (mode : Int) (data : ByteArray) (I : List Ino) : setK id mode data I 0 = I := by simp [setK]
theorem setK_all (id : St) (mode : Int) (data : ByteArray) (I : List Ino) (k : Nat) (h : I.length ≤ k) : setK id mode data I k = I.map (setI id mode data) := by
  unfold setK
  rw [List.take_of_length_le h, List.drop_of_length_le h, List.append_nil]
theorem setK_len (id : St) (mode : Int) (data : ByteArray) (I : List Ino) (k : Nat) : (setK id mode data I k).length = I.length := by
  unfold setK
  rw [List.length_append, List.length_map, ← List.length_append, List.take_append_drop]
theorem setK_at (id : St) (mode : Int) (data : ByteArray) (I : List Ino) (k : Nat) (h : k < I.length) : (setK id mode data I k)[k]? = some I[k] := by
  unfold setK
  rw [List.getElem?_append_right (by rw [List.length_map, List.length_take]; omega), List.length_map, List.length_take, show k - min k I.length = 0 by omega, List.getElem?_drop, Nat.add_zero]
  exact List.getElem?_eq_getElem h
theorem setK_succ (id : St) (mode : Int) (data : ByteArray) (I : List Ino) (k : Nat) (h : k < I.length) : setK id mode data I (k + 1) = (setK id mode data I k).set k (setI id mode data I[k]) := by
  unfold setK
  rw [List.take_succ_eq_append_getElem h, List.map_append]
  have hl : ((I.take k).map (setI id mode data)).length = k := by rw [List.length_map, List.length_take]; omega
  rw [List.set_append_right _ _ (by omega), hl, Nat.sub_self, List.drop_eq_getElem_cons h, List.set_cons_zero, List.append_assoc]
  rfl

/-- Mode and data of row k written. -/
theorem flat_set (I : List Ino) (k : Nat) (h : k < I.length) (mode : Int) (data : ByteArray) (x : Ino) (hx : I[k] = x) :
    ((flat (I.map inoA)).set (k * 6 + 4) (.int .i64 mode)).set (k * 6 + 5) (.string data) = flat ((I.set k { x with mode := mode, data := data }).map inoA) := by
  apply List.ext_getElem?
  intro p
  have hl : (flat (I.map inoA)).length = I.length * 6 := by rw [flat_len ino_sizes, List.length_map]
  have hl2 : (flat ((I.set k { x with mode := mode, data := data }).map inoA)).length = I.length * 6 := by rw [flat_len ino_sizes, List.length_map, List.length_set]
  by_cases hp : p < I.length * 6
  · have hj : p / 6 < I.length := by omega
    have hi : p % 6 < 6 := Nat.mod_lt _ (by decide)
    have hpe : p = p / 6 * 6 + p % 6 := by omega
    obtain ⟨j, hjd⟩ : ∃ j, j = p / 6 := ⟨_, rfl⟩
    obtain ⟨i, hid⟩ : ∃ i, i = p % 6 := ⟨_, rfl⟩
    rw [← hjd, ← hid] at hpe
    rw [← hjd] at hj
    rw [← hid] at hi
    subst hpe
    have f1 := flat_at (k := 6) (ino_sizes (I := I)) j (by rw [List.length_map]; exact hj) i hi
    have f2 := flat_at (k := 6) (ino_sizes (I := I.set k { x with mode := mode, data := data })) j (by rw [List.length_map, List.length_set]; exact hj) i hi
    rw [f2]
    rw [List.getElem?_set, List.getElem?_set, f1, List.length_set, hl]
    by_cases hjk : j = k
    · subst hjk
      have hi6 : i = 0 ∨ i = 1 ∨ i = 2 ∨ i = 3 ∨ i = 4 ∨ i = 5 := by omega
      rcases hi6 with rfl | rfl | rfl | rfl | rfl | rfl <;> simp [inoA, hx] <;> omega
    · rw [if_neg (by omega), if_neg (by omega)]
      simp [Ne.symm hjk]
  · rw [List.getElem?_eq_none (by simp; omega), List.getElem?_eq_none (by omega)]

/-- An owned row whose k-th inode is written. -/
theorem own_write {W : World} {base u : Nat} {n cap : Nat} {I : List Ino} (h : W.ownsRow base 47 6 (.slice (some ⟨u, 0, none⟩) n cap) n (flat (I.map inoA))) {k : Nat} (hk : k < I.length) (mode : Int) (data : ByteArray) :
    ((W.setCell ⟨u, k * 6 + 4, none⟩ (.int .i64 mode)).setCell ⟨u, k * 6 + 5, none⟩ (.string data)).ownsRow base 47 6 (.slice (some ⟨u, 0, none⟩) n cap) n (flat ((I.set k { I[k] with mode := mode, data := data }).map inoA)) := by
  obtain ⟨h1, h2⟩ := h
  rcases h2 with ⟨h0, _⟩ | ⟨g, cap', cur, he, hb, hg, hnc, hcm, hsz, htk⟩
  · cases h0
  · injection he with e1 e2 e3
    injection e1 with e1
    injection e1 with e1
    subst e1 e3
    refine ⟨by rw [← flat_set I k hk mode data I[k] rfl, List.length_set, List.length_set]; exact h1, Or.inr ⟨u, cap, _, rfl, hb, heap_setCell_same _ _ _ _ _ _ (heap_setCell_same _ _ _ _ _ _ hg), hnc, hcm, by simp [hsz], ?_⟩⟩
    rw [← flat_set I k hk mode data I[k] rfl, ← htk, Array.toList_setIfInBounds, Array.toList_setIfInBounds]
    rw [List.take_set, List.take_set]

end Go.Proofs.YthobfeohgeeofaaGreat
