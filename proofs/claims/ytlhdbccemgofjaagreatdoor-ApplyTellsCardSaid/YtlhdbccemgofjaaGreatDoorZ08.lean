/-
  The landed audit's seven questions, each a method of its lists.
-/
import Derived.Test.YtlhdbccemgofjaaGreatDoorZ07
import Derived.Test.YtlhdbccemgofjaaGreatDoorZ07
import Derived.Test.YtlhdbccemgofjaaGreatDoorZ07
import Derived.BigQuiet
import Derived.Deep.RegionWith
import Derived.Test.YtlhdbccemgofjaaGreatDoorZ00
import Derived.Test.YtlhdbccemgofjaaGreatDoorZ01
import Derived.Deep.LoopGhost
import Derived.Laws.EntriesVeiled
import Derived.Test.YtlhdbccemgofjaaGreatDoorZ05
import Derived.Test.YtlhdbccemgofjaaGreatDoorRows
import Derived.ProofKit
import Derived.OpenShut
import Derived.Deep.Slices
import Derived.Deep.Strs
import Derived.ChangeSame
import Derived.Lib.SmallJoins
import Derived.SevenTiedAt
import Derived.LaidMore
import Derived.Stop.Joined
namespace Go.Proofs.YtlhdbccemgofjaaGreatDoor
open Go.RowKit StampMath GraphMath OpMath

/-- Is it not so? -/
noncomputable def badB (p : Prop) : Bool := @decide (¬ p) (Classical.propDecidable _)

theorem badB_iff {p : Prop} : badB p = true ↔ ¬ p := by unfold badB; exact @decide_eq_true_iff _ (Classical.propDecidable _)

theorem badB_of {p : Prop} {b : Bool} (h : b = true ↔ ¬ p) : badB p = b := by
  rw [Bool.eq_iff_iff, badB_iff, h]

theorem any_ok {α : Type} {p : α → Bool} {q : α → Prop} {l : List α} (h : ∀ x ∈ l, p x = true ↔ ¬ q x) : l.any p = true ↔ ¬ ∀ x ∈ l, q x := by
  rw [List.any_eq_true]
  constructor
  · rintro ⟨x, hx, hp⟩ hq
    exact (h x hx).1 hp (hq x hx)
  · intro hq
    refine Classical.byContradiction fun hn => hq fun x hx => Classical.byContradiction fun hqx => hn ⟨x, hx, (h x hx).2 hqx⟩

theorem shape_bad {N : List Ino} {E : List Ent} : badB (shapeOk N E) = (!decide (kindI N (0, 0) = some 1) || N.any noneB || E.any fun e => !nameB e.name) := by
  refine badB_of ?_
  have h1 : N.any noneB = true ↔ ¬ ∀ x ∈ N, mayB x.id.1 x.id.2 = true ∧ 1 ≤ x.kind ∧ x.kind ≤ 3 := any_ok fun x _ => by
    unfold noneB
    simp only [Bool.not_eq_true', Bool.and_eq_false_iff, decide_eq_false_iff_not]
    cases mayB x.id.1 x.id.2 <;> simp
  have h2 : (E.any fun e => !nameB e.name) = true ↔ ¬ ∀ e ∈ E, nameB e.name = true := any_ok fun x _ => by simp
  unfold shapeOk
  rw [Bool.or_eq_true, Bool.or_eq_true, h1, h2]
  simp only [Bool.not_eq_true', decide_eq_false_iff_not]
  constructor
  · rintro ((h | h) | h) ⟨q1, q2, q3⟩
    · exact h q3
    · exact h q1
    · exact h q2
  · intro h
    by_cases q3 : kindI N (0, 0) = some 1
    · by_cases q1 : ∀ x ∈ N, mayB x.id.1 x.id.2 = true ∧ 1 ≤ x.kind ∧ x.kind ≤ 3
      · exact .inr fun q2 => h ⟨q1, q2, q3⟩
      · exact .inl (.inr q1)
    · exact .inl (.inl q3)

theorem lost_bad {N : List Ino} {E : List Ent} : badB (lostOk N E) = E.any (lostB N) :=
  badB_of (any_ok fun x _ => by
    unfold lostB
    simp only [Bool.not_eq_true', Bool.and_eq_false_iff, decide_eq_false_iff_not]
    cases (kindI N x.ino).isSome <;> simp)

theorem count_bad {N : List Ino} {E : List Ent} : badB (countOk N E) = N.any fun x => !decide (x.links = (linksE E x.id : Int)) :=
  badB_of (any_ok fun x _ => by simp)

theorem many_bad {N : List Ino} {E : List Ent} : badB (manyOk N E) = N.any fun x => !manyB x (linksE E x.id : Nat) :=
  badB_of (any_ok fun x _ => by
    unfold manyB manyOk1
    by_cases h : x.id = (0, 0)
    · simp [h]
    · by_cases h1 : x.kind = 1
      · simp [h, h1]; omega
      · simp [h, h1]; omega)

theorem bounds_bad {N : List Ino} : badB (boundsOk N) = (decide (40 < N.length) || N.any muchB) := by
  refine badB_of ?_
  have h1 : N.any muchB = true ↔ ¬ ∀ x ∈ N, boundOk1 x := any_ok fun x _ => by
    unfold muchB boundOk1 dataB
    by_cases hm : 0 ≤ x.mode ∧ x.mode ≤ 4095
    · rw [decide_eq_true hm, Bool.true_and]
      by_cases k1 : x.kind = 1
      · simp [k1, hm]
      · by_cases k2 : x.kind = 2
        · simp [k2, hm]; omega
        · by_cases k3 : x.kind = 3
          · simp [k3, hm]; omega
          · simp [k1, k2, k3, hm]
    · rw [decide_eq_false hm, Bool.false_and]
      simp only [Bool.not_false, true_iff]
      exact fun q => hm ⟨q.1, q.2.1⟩
  unfold boundsOk
  rw [Bool.or_eq_true, h1, decide_eq_true_iff]
  constructor
  · rintro (h | h) ⟨q1, q2⟩
    · omega
    · exact h q1
  · intro h
    by_cases q2 : N.length ≤ 40
    · exact .inr fun q1 => h ⟨q1, q2⟩
    · exact .inl (by omega)

theorem apart_bad {N : List Ino} {E : List Ent} {F : List St} (hn : F.Nodup) (hF : ∀ s, s ∈ F ↔ Reached N E s) {K : List (St × Int)} (hk : (K.map Prod.fst).Nodup) (hK : ∀ id, lookL K id = kindI N id) : badB (apartOk N E) = decide ((F.length : Int) < (K.length : Int)) := by
  refine badB_of ?_
  have hkey : ∀ s, s ∈ K.map Prod.fst ↔ (kindI N s).isSome := fun s => by
    rw [← hK s]
    constructor
    · intro h
      obtain ⟨⟨a, v⟩, hp, rfl⟩ := List.mem_map.1 h
      rw [(mem_lookL hk).2 hp]
      rfl
    · intro h
      cases hq : lookL K s with
      | none => rw [hq] at h; cases h
      | some v => exact List.mem_map.2 ⟨(s, v), (mem_lookL hk).1 hq, rfl⟩
  have hl : (K.map Prod.fst).length = K.length := List.length_map _
  rw [decide_eq_true_iff]
  constructor
  · intro h ha
    have := nodup_le hk (M := F) fun s hs => by
      obtain ⟨x, hx, rfl⟩ := kindI_some ((hkey s).1 hs)
      exact (hF _).2 (ha x hx)
    omega
  · intro ha
    refine Classical.byContradiction fun h => ha fun x hx => (hF _).1 (Classical.byContradiction fun hnx => ?_)
    have := nodup_le (L := x.id :: F) (M := K.map Prod.fst) (List.nodup_cons.2 ⟨hnx, hn⟩) fun s hs => by
      rw [hkey]
      rcases List.mem_cons.1 hs with rfl | hs
      · exact kindI_of hx
      · obtain ⟨y, hy, rfl⟩ := ((hF s).1 hs).ino
        exact kindI_of hy
    simp at this
    omega

theorem order_bad {N : List Ino} {E : List Ent} : badB (orderOk N E) = (!decide (N.Pairwise fun a b => lessS a.id b.id = true) || !decide (E.Pairwise fun a b => aheadE a b = true)) := by
  refine badB_of ?_
  unfold orderOk
  by_cases h1 : N.Pairwise fun a b => lessS a.id b.id = true
  · by_cases h2 : E.Pairwise fun a b => aheadE a b = true
    · simp [h1, h2]
    · simp [h1, h2]
  · simp [h1]

section
variable (A A' : Option Addr) (n c m d bk bl : Nat) (N : List Ino) (E : List Ent) (w : World) (h : Given w A n N A' m E) (hL : Looked w bk bl N E)
include h hL

theorem box_held : Below w.heap.size w (w.alloc (.cells (listsA A A' n c m d bk bl) 127)) ∧ (w.alloc (.cells (listsA A A' n c m d bk bl) 127)).heap[w.heap.size]? = some (.cells (listsA A A' n c m d bk bl) 127 (0, 0)) ∧
    Given (w.alloc (.cells (listsA A A' n c m d bk bl) 127)) A n N A' m E ∧ Looked (w.alloc (.cells (listsA A A' n c m d bk bl) 127)) bk bl N E :=
  ⟨(Below.refl _ _).alloc (Nat.le_refl _) _, heap_alloc_new _ _, h.below ((Below.refl _ _).alloc (Nat.le_refl _) _), hL.below ((Below.refl _ _).alloc (Nat.le_refl _) _)⟩

set_option maxRecDepth 100000 in
theorem disordered_code : Calls Tryz.prog 96 #[.agg #[.slice A n c, .slice A' m d, .map (some bk), .map (some bl)]] w fun e w' => e = .returned (.bool (badB (orderOk N E))) ∧ Below w.heap.size w w' := by
  obtain ⟨hb0, he0, hg0, hl0⟩ := box_held A A' n c m d bk bl N E w h hL
  rw [order_bad]
  have HI : Hid (∀ W : World, Below w.heap.size w W → Calls Tryz.prog 136 #[.slice A n c, .func (.func 137) #[] #[]] W fun e w' => e = .returned (.bool (decide (N.Pairwise fun a b => lessS a.id b.id = true))) ∧ Below W.heap.size W w') := fun W hW => risesI_code A n c N h.fewI W ((h.below hW).inos)
  have HJ : Hid (∀ W : World, Below w.heap.size w W → Calls Tryz.prog 138 #[.slice A' m d, .func (.func 139) #[] #[]] W fun e w' => e = .returned (.bool (decide (E.Pairwise fun a b => aheadE a b = true))) ∧ Below W.heap.size W w') := fun W hW => risesE_code A' m d E h.fewE W ((h.below hW).ents)
  generalize decide (N.Pairwise fun a b => lessS a.id b.id = true) = p at HI ⊢
  generalize decide (E.Pairwise fun a b => aheadE a b = true) = q at HJ ⊢
  have HE := Lib.hid he0
  clear h hL he0 hg0 hl0
  go_enter Tryz.func96, Tryz.ntmps96
  go_wp2_with fail
  refine (HI.out _ hb0).mono ?_
  rintro e w2 ⟨rfl, hb2⟩
  have he2 := (hb2.block _ (heap_lt HE.out)).trans HE.out
  have hb3 := below_step hb0 hb2
  clear hb0 hb2 HE HI
  obtain ⟨c0, c1, c2, c3⟩ := lists_cells he2
  cases p with
  | false =>
    go_wp2_with fail
    go_ret
    exact ⟨rfl, hb3⟩
  | true =>
    go_wp2_with fail
    refine (HJ.out _ hb3).mono ?_
    rintro e w4 ⟨rfl, hb4⟩
    go_wp2_with fail
    go_ret
    exact ⟨rfl, below_step hb3 hb4⟩

set_option maxRecDepth 100000 in
theorem lost_code : Calls Tryz.prog 98 #[.agg #[.slice A n c, .slice A' m d, .map (some bk), .map (some bl)]] w fun e w' => e = .returned (.bool (badB (lostOk N E))) ∧ Below w.heap.size w w' := by
  obtain ⟨hb0, he0, hg0, hl0⟩ := box_held A A' n c m d bk bl N E w h hL
  rw [lost_bad]
  have HC := Lib.hid (has_lost w.heap.size (lostB N) A' m d E h.fewE _ hg0.ents fun x _ W hW => lostClo_code A A' n c m d bk bl w.heap.size N E x W ((hW.block _ (heap_lt he0)).trans he0) (hl0.below hW))
  clear h hL he0 hg0 hl0
  go_enter Tryz.func98, Tryz.ntmps98
  go_wp2_with fail
  refine HC.out.mono ?_
  rintro e w2 ⟨rfl, hb2⟩
  go_wp2_with fail
  go_ret
  exact ⟨rfl, below_step hb0 hb2⟩

set_option maxRecDepth 100000 in
theorem miscounted_code : Calls Tryz.prog 99 #[.agg #[.slice A n c, .slice A' m d, .map (some bk), .map (some bl)]] w fun e w' => e = .returned (.bool (badB (countOk N E))) ∧ Below w.heap.size w w' := by
  obtain ⟨hb0, he0, hg0, hl0⟩ := box_held A A' n c m d bk bl N E w h hL
  rw [count_bad]
  have HC := Lib.hid (has_miscounted w.heap.size (fun x => !decide (x.links = (linksE E x.id : Int))) A n c N h.fewI _ hg0.inos fun x _ W hW => countClo_code A A' n c m d bk bl w.heap.size N E x W ((hW.block _ (heap_lt he0)).trans he0) (hl0.below hW))
  clear h hL he0 hg0 hl0
  go_enter Tryz.func99, Tryz.ntmps99
  go_wp2_with fail
  refine HC.out.mono ?_
  rintro e w2 ⟨rfl, hb2⟩
  go_wp2_with fail
  go_ret
  exact ⟨rfl, below_step hb0 hb2⟩

set_option maxRecDepth 100000 in
theorem mislinked_code : Calls Tryz.prog 100 #[.agg #[.slice A n c, .slice A' m d, .map (some bk), .map (some bl)]] w fun e w' => e = .returned (.bool (badB (manyOk N E))) ∧ Below w.heap.size w w' := by
  obtain ⟨hb0, he0, hg0, hl0⟩ := box_held A A' n c m d bk bl N E w h hL
  rw [many_bad]
  have HC := Lib.hid (has_mislinked w.heap.size (fun x => !manyB x (linksE E x.id : Nat)) A n c N h.fewI _ hg0.inos fun x _ W hW => linkClo_code A A' n c m d bk bl w.heap.size N E x W ((hW.block _ (heap_lt he0)).trans he0) (hl0.below hW))
  clear h hL he0 hg0 hl0
  go_enter Tryz.func100, Tryz.ntmps100
  go_wp2_with fail
  refine HC.out.mono ?_
  rintro e w2 ⟨rfl, hb2⟩
  go_wp2_with fail
  go_ret
  exact ⟨rfl, below_step hb0 hb2⟩

set_option maxRecDepth 100000 in
theorem unbounded_code : Calls Tryz.prog 102 #[.agg #[.slice A n c, .slice A' m d, .map (some bk), .map (some bl)]] w fun e w' => e = .returned (.bool (badB (boundsOk N))) ∧ Below w.heap.size w w' := by
  obtain ⟨hb0, he0, hg0, hl0⟩ := box_held A A' n c m d bk bl N E w h hL
  rw [bounds_bad, h.inos.len]
  have HC := Lib.hid (has_tooMuch muchB A n c N h.fewI _ hg0.inos fun x hx W _ => tooMuch_code x (h.datas x hx) W)
  clear h hL he0 hg0 hl0
  by_cases h40 : 40 < n
  · rw [decide_eq_true h40]
    go_enter Tryz.func102, Tryz.ntmps102
    go_wp2_with fail
    go_ret
    exact ⟨by first | rfl | simp [h40], hb0⟩
  · rw [decide_eq_false h40]
    have hd : decide ((n : Int) > 40) = false := decide_eq_false (by omega)
    go_enter Tryz.func102, Tryz.ntmps102
    go_wp2_with fail
    refine HC.out.mono ?_
    rintro e w2 ⟨rfl, hb2⟩
    go_wp2_with fail
    go_ret
    exact ⟨by first | rfl | simp, below_step hb0 hb2⟩

set_option maxRecDepth 100000 in
set_option maxHeartbeats 1600000 in
theorem misshapen_code : Calls Tryz.prog 97 #[.agg #[.slice A n c, .slice A' m d, .map (some bk), .map (some bl)]] w fun e w' => e = .returned (.bool (badB (shapeOk N E))) ∧ Below w.heap.size w w' := by
  obtain ⟨hb0, he0, hg0, hl0⟩ := box_held A A' n c m d bk bl N E w h hL
  rw [shape_bad]
  have HD : Hid (∀ W : World, Below w.heap.size w W → Calls Tryz.prog 140 #[.agg #[.slice A n c, .slice A' m d, .map (some bk), .map (some bl)], .agg #[.int .i64 0, .int .i64 0]] W fun e w' => e = .returned (.bool (decide (kindI N (0, 0) = some 1))) ∧ Below W.heap.size W w') := fun W hW => isDir_code A A' n c m d bk bl N E (0, 0) W (hL.below hW)
  have HI : Hid (∀ W : World, Below w.heap.size w W → Calls Tryz.prog 142 #[.slice A n c, .func (.func 143) #[] #[]] W fun e w' => e = .returned (.bool (N.any noneB)) ∧ Below W.heap.size W w') := fun W hW => has_isNone noneB A n c N h.fewI W (h.below hW).inos fun x _ W' _ => isNone_code x W'
  have HJ : Hid (∀ W : World, Below w.heap.size w W → Calls Tryz.prog 144 #[.slice A' m d, .func (.func 145) #[] #[]] W fun e w' => e = .returned (.bool (E.any fun e => !nameB e.name)) ∧ Below W.heap.size W w') := fun W hW => has_nameless (fun e => !nameB e.name) A' m d E h.fewE W (h.below hW).ents fun x hx W' _ => nameless_code x (h.names x hx) W'
  generalize decide (kindI N (0, 0) = some 1) = p at HD ⊢
  generalize N.any noneB = q at HI ⊢
  generalize (E.any fun e => !nameB e.name) = r at HJ ⊢
  clear h hL hg0 hl0
  go_enter Tryz.func97, Tryz.ntmps97
  go_upto_region 1 with fail
  change Code.wp _ _ _ _ (w.alloc (.cells (listsA A A' n c m d bk bl) 127))
  generalize w.alloc (.cells (listsA A A' n c m d bk bl) 127) = w1 at he0 hb0 ⊢
  obtain ⟨c0, c1, c2, c3⟩ := lists_cells he0
  have l0 := later_cell c0
  have l1 := later_cell c1
  have l2 := later_cell c2
  have l3 := later_cell c3
  have HB := Lib.hid hb0
  have HRl := Lib.hid fun (y : World) => later_call (auRoot_code (later w1 y))
  have HDl := Lib.hid fun (y : World) => later_call (HD.out (later w1 y) (below_step HB.out (later_below w1 y)))
  have HIl := Lib.hid fun (y : World) => later_call (HI.out (later w1 y) (below_step HB.out (later_below w1 y)))
  have HJl := Lib.hid fun (y : World) => later_call (HJ.out (later w1 y) (below_step HB.out (later_below w1 y)))
  clear c0 c1 c2 c3 he0 hb0 HD HI HJ
  have hcase : p = false ∨ (p = true ∧ q = true) ∨ (p = true ∧ q = false) := by cases p <;> cases q <;> simp
  rcases hcase with rfl | ⟨rfl, rfl⟩ | ⟨rfl, rfl⟩
  all_goals
    refine wp_region_later (by kernel_rfl) (by kernel_rfl) ?_
    repeat (go_big_quiet_step (first | (with_reducible exact HRl.out _) | (with_reducible exact HDl.out _) | (with_reducible exact HIl.out _) | (with_reducible exact HJl.out _)))
    refine wpQuiet_nil ?_
    intro _ hw'
    obtain ⟨y, rfl⟩ := hw'
    clear l0 l1 l2 l3
    go_wp2_with fail
    go_ret
    exact ⟨rfl, below_step HB.out (later_below w1 y)⟩

end

end Go.Proofs.YtlhdbccemgofjaaGreatDoor

/-
  A slice of integers that was appended to, and is only read. It needs no program.
-/
namespace Go.Proofs.YtlhdbccemgofjaaGreatDoor
open Go.RowKit

/-- Integers as cells. -/
def intV (xs : List Int) : List Value := xs.map fun x => .int .i64 x

theorem intV_len (xs : List Int) : (intV xs).length = xs.length := by simp [intV]
theorem intV_at {xs : List Int} {j : Nat} (h : j < xs.length) : (intV xs)[j]? = some (.int .i64 xs[j]) := by
  unfold intV
  rw [List.getElem?_map, List.getElem?_eq_getElem h]
  rfl

/-- The slice with address A and length n reads as the integers xs, and lies below block B. -/
def IntsIn (W : World) (B : Nat) (A : Option Addr) (n : Nat) (xs : List Int) : Prop :=
  xs.length = n ∧ (0 < n → ∃ g o, A = some ⟨g, o, none⟩ ∧ g < B ∧ ∀ j (h : j < xs.length), W.cell? ⟨g, o + j, none⟩ = some (.int .i64 xs[j]))

theorem IntsIn.below {W W' : World} {B : Nat} {A : Option Addr} {n : Nat} {xs : List Int} (h : IntsIn W B A n xs) (hb : Below B W W') : IntsIn W' B A n xs :=
  ⟨h.1, fun hn => by
    obtain ⟨g, o, e, hg, hc⟩ := h.2 hn
    exact ⟨g, o, e, hg, fun j hj => (hb.cell (p := ⟨g, o + j, none⟩) hg).trans (hc j hj)⟩⟩

theorem IntsIn.more {W : World} {B B' : Nat} {A : Option Addr} {n : Nat} {xs : List Int} (h : IntsIn W B A n xs) (hB : B ≤ B') : IntsIn W B' A n xs :=
  ⟨h.1, fun hn => by
    obtain ⟨g, o, e, hg, hc⟩ := h.2 hn
    exact ⟨g, o, e, by omega, hc⟩⟩

/-- What was appended to reads so. -/
theorem ints_own {W : World} {base : Nat} {e : TypeId} {v : Value} {n : Nat} {xs : List Int} (h : W.ownsRow base e 1 v n (intV xs)) :
    ∃ (A : Option Addr) (c : Nat), v = .slice A n c ∧ IntsIn W W.heap.size A n xs ∧ n ≤ c ∧ c ≤ maxLen := by
  have hl : xs.length = n := by have := h.1; rw [intV_len] at this; omega
  rcases h.2 with ⟨rfl, h0⟩ | ⟨g, cap, cur, rfl, hb, hg, hnc, hcm, _, _⟩
  · exact ⟨Option.none, 0, by rw [h0], ⟨hl, fun hn => by omega⟩, by omega, by decide⟩
  · refine ⟨some ⟨g, 0, Option.none⟩, cap, rfl, ⟨hl, fun _ => ⟨g, 0, rfl, (Array.getElem?_eq_some_iff.1 hg).1, fun j hj => ?_⟩⟩, hnc, hcm⟩
    have q := h.cells (g := g) rfl _ _ (intV_at hj)
    have e : (⟨g, 0, Option.none⟩ : Addr).add j = ⟨g, 0 + j, Option.none⟩ := by
      unfold Addr.add
      split <;> simp_all
    rw [e] at q
    exact q

/-- A new cell with an integer. -/
theorem int_there (w : World) (T : TypeId) (x : Int) : ∀ j u, (intV [x])[j]? = some u → (w.alloc (.cells #[.int .i64 x] T)).cell? (Addr.add ⟨w.heap.size, 0, none⟩ j) = some u := by
  intro j u hj
  have h0 : j = 0 := by
    by_cases e : j = 0
    · exact e
    · rw [List.getElem?_eq_none (by simp [intV]; omega)] at hj
      cases hj
  subst h0
  simp [intV] at hj
  subst hj
  exact cell_of_row _ _ 0 _ _ (0, 0) (heap_alloc_new w _)

theorem int_one (x : Int) : ∀ u ∈ intV [x], u.oneCell' = true := by
  intro u hu
  simp [intV] at hu
  subst hu
  rfl

end Go.Proofs.YtlhdbccemgofjaaGreatDoor

/-
  What every statement of layer 10 needs of the package's own calls; and the statements' head.
-/
namespace Go.Proofs.YtlhdbccemgofjaaGreatDoor
open Go.RowKit StampMath GraphMath OpMath

structure AuditAsk : Prop where
  check : ∀ (A : Option Addr) (n c : Nat) (N : List Ino) (A' : Option Addr) (m d : Nat) (E : List Ent) (w : World), Given w A n N A' m E →
    Calls Tryz.prog 54 #[.slice A n c, .slice A' m d] w fun e w' => ∃ (v : Value) (l : List Int), e = .returned v ∧ IsCheck N E l ∧ w'.ownsRow w.heap.size 3 1 v l.length (intV l) ∧ Below w.heap.size w w'
  fine : ∀ (A : Option Addr) (n c : Nat) (N : List Ino) (A' : Option Addr) (m d : Nat) (E : List Ent) (w : World), Given w A n N A' m E →
    Calls Tryz.prog 23 #[.slice A n c, .slice A' m d] w fun e w' => ∃ b : Bool, e = .returned (.bool b) ∧ (b = true ↔ fineP N E) ∧ Below w.heap.size w w'

/-! ### the head -/

end Go.Proofs.YtlhdbccemgofjaaGreatDoor

/-
  What the statements of layer 10 need of the landed audit: Check and Fine.
-/
namespace Go.Proofs.YtlhdbccemgofjaaGreatDoor
open Go.RowKit StampMath GraphMath OpMath

section
variable (A A' : Option Addr) (n c m d bk bl : Nat) (N : List Ino) (E : List Ent) (w : World) (h : Given w A n N A' m E) (hL : Looked w bk bl N E)
include h hL

set_option maxRecDepth 100000 in
set_option maxHeartbeats 1600000 in
theorem apart_code : Calls Tryz.prog 101 #[.agg #[.slice A n c, .slice A' m d, .map (some bk), .map (some bl)]] w fun e w' => e = .returned (.bool (badB (apartOk N E))) ∧ Below w.heap.size w w' := by
  obtain ⟨hb0, he0, hg0, hl0⟩ := box_held A A' n c m d bk bl N E w h hL
  obtain ⟨K, hk1, hk2⟩ := hL.kinds
  have HR : Hid (∀ W : World, Below w.heap.size w W → Calls Tryz.prog 151 #[.agg #[.slice A n c, .slice A' m d, .map (some bk), .map (some bl)]] W fun e w' => ∃ (A : Option Addr) (c : Nat) (F : List St), e = .returned (.slice A F.length c) ∧ F.Nodup ∧ (∀ s, s ∈ F ↔ Reached N E s) ∧ Below W.heap.size W w') := fun W hW => (reached_code A A' n c m d bk bl N E W (h.below hW) (hL.below hW)).mono fun _ _ ⟨v, F, q1, q2, q3, q4, q5⟩ => by
    obtain ⟨A, c, rfl, _⟩ := sts_own rfl q4
    exact ⟨A, c, F, q1, q2, q3, q5⟩
  have hlen : ∀ W : World, Below w.heap.size w W → (Builtin.len_ #[125] 3 #[.map (some bk)]).run Tryz.prog W = .ok (.int .i64 (K.length : Int)) W := fun W hW => (hk1.kept (hW.block _ hL.lt.1)).len Tryz.underlying125 _
  have HLen := Lib.hid hlen
  have HK1 := Lib.hid hk1.keys
  have HK2 := Lib.hid hk2
  clear h hL hg0 hl0 hlen hk1 hk2
  go_enter Tryz.func101, Tryz.ntmps101
  go_upto_region 1 with fail
  change Code.wp _ _ _ _ (w.alloc (.cells (listsA A A' n c m d bk bl) 127))
  generalize w.alloc (.cells (listsA A A' n c m d bk bl) 127) = w1 at he0 hb0 ⊢
  obtain ⟨c0, c1, c2, c3⟩ := lists_cells he0
  have hl1 := HLen.out _ hb0
  have hl2 := HLen.out _ hb0.drew
  go_region_with (first
    | (go_at_call 151; (with_reducible refine (HR.out _ (by repeat (first | assumption | apply Below.drew | refine below_step ?_ (by assumption)))).mono ?_); rintro zz w2 ⟨A2, c2', F, rfl, hF1, hF2, hb2⟩; have HF1 := Lib.hid hF1; have HF2 := Lib.hid hF2; clear hF1 hF2; have c0 := cell_later hb2 c0; have c1 := cell_later hb2 c1; have c2 := cell_later hb2 c2; have c3 := cell_later hb2 c3; have hl3 := HLen.out w2 (below_step hb0.drew hb2); have HB2 := Lib.hid (below_step hb0.drew hb2)))
  all_goals
    go_wp2_with fail
    go_ret
    exact ⟨by rw [apart_bad HF1.out HF2.out HK1.out HK2.out, show decide ((F.length : Int) < (K.length : Int)) = decide (F.length < K.length) by simp]; rfl, HB2.out⟩

end

/-- Is there the fault of this number? -/
noncomputable def faultK (N : List Ino) (E : List Ent) (k : Nat) : Bool :=
  if k = 1 then badB (orderOk N E) else if k = 2 then badB (shapeOk N E) else if k = 3 then badB (lostOk N E) else if k = 4 then badB (countOk N E) else if k = 5 then badB (manyOk N E) else if k = 6 then badB (apartOk N E) else if k = 7 then badB (boundsOk N) else false

/-- The faults of smaller numbers. -/
noncomputable def faultsL (N : List Ino) (E : List Ent) (k : Nat) : List Int := ((List.range k).filter (faultK N E)).map fun (j : Nat) => (j : Int)

theorem faultsL_succ (N : List Ino) (E : List Ent) (k : Nat) : faultsL N E (k + 1) = faultsL N E k ++ if faultK N E k = true then [(k : Int)] else [] := by
  unfold faultsL
  rw [List.range_succ, List.filter_append, List.map_append]
  congr 1
  by_cases h : faultK N E k = true
  · rw [if_pos h, List.filter_cons, if_pos h]
    rfl
  · rw [if_neg h, List.filter_cons, if_neg h]
    rfl

theorem faultsL_len (N : List Ino) (E : List Ent) (k : Nat) : (faultsL N E k).length ≤ k := by
  unfold faultsL
  rw [List.length_map]
  exact Nat.le_trans (List.length_filter_le _ _) (by simp)

theorem faultK_iff (N : List Ino) (E : List Ent) (k : Nat) : faultK N E k = true ↔ faultOf N E (k : Int) := by
  unfold faultOf faultK
  by_cases h : k ≤ 7
  · have h7 : k = 0 ∨ k = 1 ∨ k = 2 ∨ k = 3 ∨ k = 4 ∨ k = 5 ∨ k = 6 ∨ k = 7 := by omega
    rcases h7 with rfl | rfl | rfl | rfl | rfl | rfl | rfl | rfl <;> simp [badB_iff]
  · rw [if_neg (by omega), if_neg (by omega), if_neg (by omega), if_neg (by omega), if_neg (by omega), if_neg (by omega), if_neg (by omega)]
    constructor
    · intro q; cases q
    · rintro (⟨q, _⟩ | ⟨q, _⟩ | ⟨q, _⟩ | ⟨q, _⟩ | ⟨q, _⟩ | ⟨q, _⟩ | ⟨q, _⟩) <;> omega

theorem faults_check (N : List Ino) (E : List Ent) : IsCheck N E (faultsL N E 8) := by
  constructor
  · unfold faultsL
    rw [List.pairwise_map]
    refine (List.Pairwise.filter _ List.pairwise_lt_range).imp fun h => ?_
    omega
  · intro k
    unfold faultsL
    rw [List.mem_map]
    constructor
    · rintro ⟨j, hj, rfl⟩
      exact (faultK_iff N E j).1 (List.mem_filter.1 hj).2
    · intro h
      have hk : ∃ j : Nat, j < 8 ∧ k = (j : Int) := by
        refine ⟨k.toNat, ?_⟩
        rcases h with ⟨q, _⟩ | ⟨q, _⟩ | ⟨q, _⟩ | ⟨q, _⟩ | ⟨q, _⟩ | ⟨q, _⟩ | ⟨q, _⟩ <;> omega
      obtain ⟨j, hj, rfl⟩ := hk
      exact ⟨j, List.mem_filter.2 ⟨List.mem_range.2 hj, (faultK_iff N E j).2 h⟩, rfl⟩

theorem int_infos : (Tryz.prog.info? 3).map (fun i => (i.zero, i.size, i.bytes)) = some (some (.int .i64 0), 1, 8) := by kernel_rfl

set_option maxRecDepth 100000 in
set_option maxHeartbeats 4000000 in
theorem check_code (A A' : Option Addr) (n c m d : Nat) (N : List Ino) (E : List Ent) (w : World) (h : Given w A n N A' m E) :
    Calls Tryz.prog 54 #[.slice A n c, .slice A' m d] w fun e w' => ∃ v : Value, e = .returned v ∧ w'.ownsRow w.heap.size 3 1 v (faultsL N E 8).length (intV (faultsL N E 8)) ∧ Below w.heap.size w w' := by
  obtain ⟨i0, hi0, hz0, hz1, hz2⟩ := info_parts int_infos
  have HG := Lib.hid h
  clear h
  go_enter Tryz.func54, Tryz.ntmps54
  go_upto_region 2 with fail
  have hb0 : Below w.heap.size w (w.alloc (.cells #[.nilFunc, .func (.func 96) #[] #[], .func (.func 97) #[] #[], .func (.func 98) #[] #[], .func (.func 99) #[] #[], .func (.func 100) #[] #[], .func (.func 101) #[] #[], .func (.func 102) #[] #[]] 128)) := (Below.refl _ _).alloc (Nat.le_refl _) _
  have he0 := heap_alloc_new w (.cells #[.nilFunc, .func (.func 96) #[] #[], .func (.func 97) #[] #[], .func (.func 98) #[] #[], .func (.func 99) #[] #[], .func (.func 100) #[] #[], .func (.func 101) #[] #[], .func (.func 102) #[] #[]] 128)
  obtain ⟨s, hs⟩ : ∃ s, s = w.heap.size := ⟨_, rfl⟩
  rw [← hs] at he0 ⊢
  generalize w.alloc (.cells #[.nilFunc, .func (.func 96) #[] #[], .func (.func 97) #[] #[], .func (.func 98) #[] #[], .func (.func 99) #[] #[], .func (.func 100) #[] #[], .func (.func 101) #[] #[], .func (.func 102) #[] #[]] 128) = w1 at he0 hb0 ⊢
  have HE0 := Lib.hid he0
  have HB0 := Lib.hid hb0
  clear hs he0 hb0
  go_wp2_with fail
  refine (auLook_code A A' n c m d N E w1 (HG.out.below HB0.out)).mono ?_
  rintro e w2 ⟨bk, bl, rfl, hL2, hb2⟩
  have he2 := (hb2.block _ (heap_lt HE0.out)).trans HE0.out
  have hB2 := below_step HB0.out hb2
  go_upto_region 3 with fail
  change Code.wp _ _ _ _ (w2.alloc (.cells (listsA A A' n c m d bk bl) 127))
  obtain ⟨u, hu⟩ : ∃ u, u = w2.heap.size := ⟨_, rfl⟩
  have hbA : Below w2.heap.size w2 (w2.alloc (.cells (listsA A A' n c m d bk bl) 127)) := (Below.refl _ _).alloc (Nat.le_refl _) _
  have hu3 : (w2.alloc (.cells (listsA A A' n c m d bk bl) 127)).heap[u]? = some (.cells (listsA A A' n c m d bk bl) 127 (0, 0)) := by rw [hu]; exact heap_alloc_new _ _
  rw [← hu]
  generalize w2.alloc (.cells (listsA A A' n c m d bk bl) 127) = wb at hbA hu3 ⊢
  have he3 := (hbA.block _ (heap_lt he2)).trans he2
  have HL := Lib.hid (hL2.below hbA)
  have HB := Lib.hid (below_step hB2 hbA)
  have HG3 := Lib.hid (HG.out.below HB.out)
  have HE3 := Lib.hid he3
  have HU3 := Lib.hid hu3
  clear HE0 HB0 hL2 hb2 he2 hB2 hu hbA hu3 he3 HG
  go_wp2_with fail
  go_loopg [7, 8] 10 (fun gk v i wr => ∃ k : Nat, i = .int .i64 (k : Int) ∧ gk + k = 11 ∧ 1 ≤ k ∧ k ≤ 8 ∧ wr.ownsRow wb.heap.size 3 1 v (faultsL N E k).length (intV (faultsL N E k)) ∧ Hid (Below wb.heap.size wb wr))
  case atStart => exact ⟨1, rfl, rfl, by omega, by omega, World.ownsRow_nil _ _ _ _, Below.refl _ _⟩
  case round =>
    obtain ⟨k, rfl, hgk, hk1, hk8, hown, hB⟩ := hrel
    have hs := hB.out.size
    by_cases hlt : k < 8
    · have q0 := (hB.out.block _ (heap_lt HE3.out)).trans HE3.out
      have q1 := (hB.out.block _ (heap_lt HU3.out)).trans HU3.out
      have hBy : ∀ y, Below wb.heap.size wb (later wr y) := fun y => hB.out.trans ((later_below wr y).mono hs)
      have H1 := Lib.hid fun (y : World) => later_call (disordered_code A A' n c m d bk bl N E (later wr y) (HG3.out.below (hBy y)) (HL.out.below (hBy y)))
      have H2 := Lib.hid fun (y : World) => later_call (misshapen_code A A' n c m d bk bl N E (later wr y) (HG3.out.below (hBy y)) (HL.out.below (hBy y)))
      have H3 := Lib.hid fun (y : World) => later_call (lost_code A A' n c m d bk bl N E (later wr y) (HG3.out.below (hBy y)) (HL.out.below (hBy y)))
      have H4 := Lib.hid fun (y : World) => later_call (miscounted_code A A' n c m d bk bl N E (later wr y) (HG3.out.below (hBy y)) (HL.out.below (hBy y)))
      have H5 := Lib.hid fun (y : World) => later_call (mislinked_code A A' n c m d bk bl N E (later wr y) (HG3.out.below (hBy y)) (HL.out.below (hBy y)))
      have H6 := Lib.hid fun (y : World) => later_call (apart_code A A' n c m d bk bl N E (later wr y) (HG3.out.below (hBy y)) (HL.out.below (hBy y)))
      have H7 := Lib.hid fun (y : World) => later_call (unbounded_code A A' n c m d bk bl N E (later wr y) (HG3.out.below (hBy y)) (HL.out.below (hBy y)))
      obtain ⟨k2, hk2⟩ : ∃ k2, k2 = k + 1 := ⟨_, rfl⟩
      have hnx := faultsL_succ N E k
      rw [← hk2] at hnx
      have HK2 := Lib.hid hk2
      clear hk2
      have hln := faultsL_len N E k
      obtain ⟨b, hb⟩ : ∃ b, b = faultK N E k := ⟨_, rfl⟩
      rw [← hb] at hnx
      generalize faultsL N E k = l at hnx hln hown
      have HNx := Lib.hid hnx
      obtain ⟨c0, c1, c2, c3⟩ := lists_cells q1
      have l0 := later_cell c0
      have l1 := later_cell c1
      have l2 := later_cell c2
      have l3 := later_cell c3
      have a1 := later_cell (cell_of_row _ _ 1 _ _ (0, 0) q0)
      have a2 := later_cell (cell_of_row _ _ 2 _ _ (0, 0) q0)
      have a3 := later_cell (cell_of_row _ _ 3 _ _ (0, 0) q0)
      have a4 := later_cell (cell_of_row _ _ 4 _ _ (0, 0) q0)
      have a5 := later_cell (cell_of_row _ _ 5 _ _ (0, 0) q0)
      have a6 := later_cell (cell_of_row _ _ 6 _ _ (0, 0) q0)
      have a7 := later_cell (cell_of_row _ _ 7 _ _ (0, 0) q0)
      clear hnx hBy q0 q1 c0 c1 c2 c3
      have h7 : k = 1 ∨ k = 2 ∨ k = 3 ∨ k = 4 ∨ k = 5 ∨ k = 6 ∨ k = 7 := by omega
      rcases h7 with rfl | rfl | rfl | rfl | rfl | rfl | rfl
      all_goals
        simp [faultK] at hb
        cases b
        · have hb2 := hb.symm
          rw [if_neg (by decide), List.append_nil] at HNx
          try simp only [hb2] at H1
          try simp only [hb2] at H2
          try simp only [hb2] at H3
          try simp only [hb2] at H4
          try simp only [hb2] at H5
          try simp only [hb2] at H6
          try simp only [hb2] at H7
          clear hb hb2
          go_upto_region 7 with fail
          refine wp_region_later (by kernel_rfl) (by kernel_rfl) ?_
          repeat (go_big_quiet_step (first | (with_reducible exact H1.out _) | (with_reducible exact H2.out _) | (with_reducible exact H3.out _) | (with_reducible exact H4.out _) | (with_reducible exact H5.out _) | (with_reducible exact H6.out _) | (with_reducible exact H7.out _)))
          refine wpQuiet_nil ?_
          intro _ hw'
          obtain ⟨y, rfl⟩ := hw'
          have hB3 := Lib.hid (hB.out.trans ((later_below wr y).mono hs))
          have hown3 := own_call hown (later_below wr y)
          clear l0 l1 l2 l3 a1 a2 a3 a4 a5 a6 a7 H1 H2 H3 H4 H5 H6 H7 hown
          generalize later wr y = w3 at hB3 hown3 ⊢
          go_wp2_with fail
          go_roundg (gk - 1)
          case measure => omega
          case rel =>
            have hk2 := HK2.out
            exact ⟨k2, by rw [hk2]; go_num, by omega, by omega, by omega, by rw [HNx.out]; exact hown3, hB3⟩
        · have hb2 := hb.symm
          rw [if_pos rfl] at HNx
          try simp only [hb2] at H1
          try simp only [hb2] at H2
          try simp only [hb2] at H3
          try simp only [hb2] at H4
          try simp only [hb2] at H5
          try simp only [hb2] at H6
          try simp only [hb2] at H7
          clear hb hb2
          go_upto_region 7 with fail
          refine wp_region_later (by kernel_rfl) (by kernel_rfl) ?_
          repeat (go_big_quiet_step (first | (with_reducible exact H1.out _) | (with_reducible exact H2.out _) | (with_reducible exact H3.out _) | (with_reducible exact H4.out _) | (with_reducible exact H5.out _) | (with_reducible exact H6.out _) | (with_reducible exact H7.out _)))
          refine wpQuiet_nil ?_
          intro _ hw'
          obtain ⟨y, rfl⟩ := hw'
          have hB3 := hB.out.trans ((later_below wr y).mono hs)
          have hown3 := own_call hown (later_below wr y)
          clear l0 l1 l2 l3 a1 a2 a3 a4 a5 a6 a7 H1 H2 H3 H4 H5 H6 H7 hown
          generalize later wr y = w3 at hB3 hown3 ⊢
          have hs3 := hB3.size
          have hm1 : l.length + 1 ≤ maxLen := by unfold maxLen; omega
          go_wp2_with (at_builtin; refine wpList_append_own _ (by rfl) (.tmp 22) (.tmp 24) 96 (by rfl) wb.heap.size 3 i0 _ 1 8 Tryz.underlying96 hi0 hz0 hz1 hz2 (by rfl) (by decide) _ _ _ (by rfl) (hown3.alloc _) ⟨w3.heap.size, 0, none⟩ 1 1 _ (by rfl) (by rfl) (int_there w3 3 _) (int_one _) hm1 (by omega) (by simp; omega) ?_; intro v2 w11 hown11 hg11 _)
          have hb11 := Lib.hid ((hB3.alloc hB3.size _).grown hg11 (hB3.alloc hB3.size _).size (fun q hq => (hown3.lt q hq).1))
          go_roundg (gk - 1)
          case measure => omega
          case rel =>
            have hk2 := HK2.out
            refine ⟨k2, by rw [hk2]; go_num, by omega, by omega, by omega, ?_, hb11⟩
            rw [HNx.out, List.length_append, show ∀ x : Int, intV (l ++ [x]) = intV l ++ intV [x] from fun x => by simp [intV]]
            exact hown11
    · obtain rfl : k = 8 := by omega
      go_wp2_with fail
      go_ret
      exact ⟨_, rfl, own_lower hown HB.out.size, HB.out.trans (hB.out.mono HB.out.size)⟩

set_option maxRecDepth 100000 in
theorem fine_code (A A' : Option Addr) (n c m d : Nat) (N : List Ino) (E : List Ent) (w : World) (h : Given w A n N A' m E) :
    Calls Tryz.prog 23 #[.slice A n c, .slice A' m d] w fun e w' => e = .returned (.bool (decide (faultsL N E 8 = []))) ∧ Below w.heap.size w w' := by
  have HC := Lib.hid (check_code A A' n c m d N E w h)
  have hl8 := faultsL_len N E 8
  clear h
  generalize faultsL N E 8 = l at HC hl8 ⊢
  go_enter Tryz.func23, Tryz.ntmps23
  go_wp2_with fail
  refine HC.out.mono ?_
  rintro e w2 ⟨v, rfl, hown, hb2⟩
  obtain ⟨A2, c2, rfl, _⟩ := ints_own hown
  cases l with
  | nil =>
    go_wp2_with fail
    go_ret
    exact ⟨rfl, hb2⟩
  | cons x l =>
    go_wp2_with fail
    go_ret
    exact ⟨by simp; omega, hb2⟩

theorem auditAsk : AuditAsk where
  check := fun A n c N A' m d E w h => (check_code A A' n c m d N E w h).mono fun _ _ ⟨v, q1, q2, q3⟩ => ⟨v, _, q1, faults_check N E, q2, q3⟩
  fine := fun A n c N A' m d E w h => (fine_code A A' n c m d N E w h).mono fun _ _ ⟨q1, q2⟩ => ⟨_, q1, by rw [decide_eq_true_iff]; exact fineP_iff (faults_check N E), q2⟩

end Go.Proofs.YtlhdbccemgofjaaGreatDoor

/-
  What the statements of layer 11 need of the landed code: all contracts in one.
-/
namespace Go.Proofs.YtlhdbccemgofjaaGreatDoor
open Go.RowKit StampMath GraphMath OpMath PackMath ExtentMath

theorem applyHave : ApplyHave graphHave where
  why := fun a S g o w _ h hf ho => why_code graphHave a S g o w h hf.ok ho
  does := fun a S g o w _ h _ hf ho => (do_core graphHave extentHave (bare w) w _ a g o (bare_gx h hf.ok) hf ho).mono fun _ _ ⟨he, k⟩ => by
    obtain ⟨S', q⟩ := gx_bare k
    exact ⟨S', he, q⟩
  nilDo := fun o w _ _ => do_nil o w
  may := fun o w _ ho => opMay_any o w ho.ok ho.name ho.new ho.data
  makes := fun o w _ _ => makes_any o w
  fine := auditAsk.fine
  read := extentHave.read

end Go.Proofs.YtlhdbccemgofjaaGreatDoor

/-
  Arguments that are stamps or entries, opened.
-/
namespace Go.Proofs.YtlhdbccemgofjaaGreatDoor
open Go.ChangeShapes Go.WideShapes Go.RowKit StampMath GraphMath

variable {H : Type} {enc : TypeId × Value → H}

theorem st_trod {w : World} {n : Nat} {a b : Value} {y : DataW H × List MemPlace} (h : DataW.trod enc Tryz.prog w 0 (fun _ => true) true n 35 [a, b] = some y) : ∃ s : St, a = .int .i64 s.1 ∧ b = .int .i64 s.2 := by
  have h1 : Tryz.prog.cellsOf 3 = 1 := by kernel_rfl
  have h2 : Tryz.prog.cellsOf 2 = 1 := by kernel_rfl
  obtain ⟨xs, m, _, _, _, hlen, hg⟩ := DataW.trod_struct Tryz.underlying35 h
  match xs, hlen with
  | [y0, y1], _ =>
    have g0 : DataW.trod enc Tryz.prog w 0 (fun _ => true) true m 2 (([a, b].drop 0).take (Tryz.prog.cellsOf 2)) = some y0 := hg 0 _ rfl
    have g1 : DataW.trod enc Tryz.prog w 0 (fun _ => true) true m 3 (([a, b].drop 1).take (Tryz.prog.cellsOf 3)) = some y1 := hg 1 _ rfl
    rw [h2] at g0
    rw [h1] at g1
    obtain ⟨t, e0, _, _⟩ := DataW.trod_int Tryz.underlying2 g0
    obtain ⟨r, e1, _, _⟩ := DataW.trod_int Tryz.underlying3 g1
    simp at e0 e1
    exact ⟨(t, r), e0, e1⟩

theorem ent_trod {w : World} {n : Nat} {c0 c1 c2 c3 c4 : Value} {y : DataW H × List MemPlace} (h : DataW.trod enc Tryz.prog w 0 (fun _ => true) true n 93 [c0, c1, c2, c3, c4] = some y) :
    ∃ e : Ent, #[c0, c1, c2, c3, c4] = entA e ∧ e.name.size ≤ maxLen := by
  have hC2 : Tryz.prog.cellsOf 35 = 2 := by kernel_rfl
  have hC3 : Tryz.prog.cellsOf 9 = 1 := by kernel_rfl
  obtain ⟨xs, m, _, _, _, hlen, hg⟩ := DataW.trod_struct Tryz.underlying93 h
  match xs, hlen with
  | [y0, y1, y2], _ =>
    have g0 : DataW.trod enc Tryz.prog w 0 (fun _ => true) true m 35 (([c0, c1, c2, c3, c4].drop 0).take (Tryz.prog.cellsOf 35)) = some y0 := hg 0 _ rfl
    have g1 : DataW.trod enc Tryz.prog w 0 (fun _ => true) true m 9 (([c0, c1, c2, c3, c4].drop 2).take (Tryz.prog.cellsOf 9)) = some y1 := hg 1 _ rfl
    have g2 : DataW.trod enc Tryz.prog w 0 (fun _ => true) true m 35 (([c0, c1, c2, c3, c4].drop 3).take (Tryz.prog.cellsOf 35)) = some y2 := hg 2 _ rfl
    rw [hC2] at g0 g2
    rw [hC3] at g1
    obtain ⟨s, rfl, rfl⟩ := st_trod (a := c0) (b := c1) g0
    obtain ⟨nm, e2, _, w2⟩ := DataW.trod_string Tryz.underlying9 g1
    obtain ⟨t, rfl, rfl⟩ := st_trod (a := c3) (b := c4) g2
    simp at e2
    subst e2
    exact ⟨⟨s, nm, t⟩, rfl, w2⟩

set_option maxRecDepth 100000 in
theorem open_st {w : World} {v : Value} {d : DataW H} {p : List MemPlace} {r : Reach} {b0 : Nat} (hv : Value.okWide Tryz.prog w r b0 35 v) (h : DataW.Trod enc Tryz.prog w 0 (fun _ => true) true 35 v d p) :
    ∃ s : St, v = .agg (stA s) := by
  have hC : Tryz.prog.cellsOf 35 = 2 := by kernel_rfl
  obtain ⟨cs, rfl, hsz⟩ := okWide_struct Tryz.underlying35 hv
  obtain ⟨l⟩ := cs
  match l, hsz.trans hC with
  | [c0, c1], _ =>
    obtain ⟨fuel, hf⟩ := h
    obtain ⟨s, rfl, rfl⟩ := st_trod (a := c0) (b := c1) hf
    exact ⟨s, rfl⟩

set_option maxRecDepth 100000 in
theorem open_ent {w : World} {v : Value} {d : DataW H} {p : List MemPlace} {r : Reach} {b0 : Nat} (hv : Value.okWide Tryz.prog w r b0 93 v) (h : DataW.Trod enc Tryz.prog w 0 (fun _ => true) true 93 v d p) :
    ∃ e : Ent, v = .agg (entA e) ∧ e.name.size ≤ maxLen := by
  have hC : Tryz.prog.cellsOf 93 = 5 := by kernel_rfl
  obtain ⟨cs, rfl, hsz⟩ := okWide_struct Tryz.underlying93 hv
  obtain ⟨l⟩ := cs
  match l, hsz.trans hC with
  | [c0, c1, c2, c3, c4], _ =>
    obtain ⟨fuel, hf⟩ := h
    obtain ⟨e, he, hs⟩ := ent_trod (c0 := c0) (c1 := c1) (c2 := c2) (c3 := c3) (c4 := c4) hf
    exact ⟨e, by rw [← he], hs⟩

theorem cell_spot {w : World} {g o : Nat} {s : Option Nat} {v : Value} (h : w.cell? ⟨g, o, s⟩ = some v) : s = none := by
  unfold World.cell? at h
  cases hb : w.heap[g]? with
  | none => simp [hb] at h
  | some x =>
    cases x <;> simp [hb] at h
    exact h.1

end Go.Proofs.YtlhdbccemgofjaaGreatDoor

/-
  An argument that is a slice of structs of k cells each, opened.
-/
namespace Go.Proofs.YtlhdbccemgofjaaGreatDoor
open Go.ChangeShapes Go.WideShapes Go.RowKit StampMath GraphMath

variable {H : Type} {enc : TypeId × Value → H}

set_option maxRecDepth 100000 in
/-- A slice whose elements are of k cells each. -/
theorem open_tab {α : Type} (encA : α → Array Value) (Good : α → Prop) (dflt : α) {k : Nat} (hk : 0 < k) (hsz : ∀ x, (encA x).size = k) {T E : TypeId} (hT : Tryz.prog.underlying T = some (.slice E)) (hC : Tryz.prog.cellsOf E = k) {w : World}
    (one : ∀ {n : Nat} {cs : List Value} {y : DataW H × List MemPlace}, cs.length = k → DataW.trod enc Tryz.prog w 0 (fun _ => true) true n E cs = some y → ∃ x, cs = (encA x).toList ∧ Good x)
    {v : Value} {d : DataW H} {p : List MemPlace} {r : Reach} {b0 : Nat} (hv : Value.okWide Tryz.prog w r b0 T v) (h : DataW.Trod enc Tryz.prog w 0 (fun _ => true) true T v d p) :
    ∃ (A : Option Addr) (n c : Nat) (xs : List α), v = .slice A n c ∧ n ≤ c ∧ c ≤ maxLen ∧ (∀ x ∈ xs, Good x) ∧ TabIn k w w.heap.size A n (xs.map encA) ∧ (A = Option.none → c = 0) := by
  obtain ⟨A, n, c, rfl⟩ := okWide_slice hT hv
  obtain ⟨fuel, hf⟩ := h
  rcases Deep.open_slice hT hf with ⟨hcs, _⟩ | ⟨a, len, cap, m, kk, D, Pl, hcs, _, hlc, hcm, hm, hx, hi⟩
  · simp only [Value.cells, List.cons.injEq, and_true, Value.slice.injEq] at hcs
    obtain ⟨rfl, rfl, rfl⟩ := hcs
    exact ⟨Option.none, 0, 0, [], rfl, by omega, by decide, (fun x hx => by cases hx), TabIn.nil k w _ _, fun _ => rfl⟩
  · simp only [Value.cells, List.cons.injEq, and_true, Value.slice.injEq] at hcs
    obtain ⟨rfl, rfl, rfl⟩ := hcs
    have hmc : m = c := by rw [hm]; rfl
    subst hmc
    rw [hC] at hi
    have each : ∀ i, i < n → ∃ x : α, (∀ j v, (encA x)[j]? = some v → w.cell? ((a.add (i * k)).add j) = some v) ∧ Good x := by
      intro i hin
      obtain ⟨cs, hc, ht⟩ := hi i (by omega)
      obtain ⟨_, hl, hat⟩ := World.cells?_some hc
      obtain ⟨x, he, hs⟩ := one hl ht
      refine ⟨x, fun j v hj => ?_, hs⟩
      have hjk : j < k := by rw [← hsz x]; exact (Array.getElem?_eq_some_iff.1 hj).1
      rw [hat j hjk, he]
      simpa using hj
    obtain ⟨g, o, sp⟩ := a
    have hsp : 0 < n → sp = Option.none := fun hn => by
      obtain ⟨x, hc, _⟩ := each 0 hn
      have h0 : 0 < (encA x).size := by rw [hsz]; exact hk
      exact cell_spot (by simpa [Addr.add] using hc 0 _ (Array.getElem?_eq_getElem h0))
    refine ⟨some ⟨g, o, sp⟩, n, m, (List.range n).map (fun i => if h : i < n then Classical.choose (each i h) else dflt), rfl, hlc, hcm, fun x hx => ?_, ⟨by simp, fun hn => ?_⟩, fun h => by cases h⟩
    · obtain ⟨i, hi1, rfl⟩ := List.mem_map.1 hx
      have hin := List.mem_range.1 hi1
      rw [dif_pos hin]
      exact (Classical.choose_spec (each i hin)).2
    · have hs := hsp hn
      subst hs
      obtain ⟨x0, c0, _⟩ := each 0 hn
      have h0 : 0 < (encA x0).size := by rw [hsz]; exact hk
      refine ⟨g, o, rfl, by have := World.block_lt_of_cell? _ _ (c0 0 _ (Array.getElem?_eq_getElem h0)); simpa [Addr.add] using this, fun j hj i v hv => ?_⟩
      have hjn : j < n := by simpa using hj
      have he : (((List.range n).map (fun i => if h : i < n then Classical.choose (each i h) else dflt)).map encA)[j]'hj = encA (Classical.choose (each j hjn)) := by
        rw [List.getElem_map, List.getElem_map, List.getElem_range, dif_pos hjn]
      rw [he] at hv
      have q := (Classical.choose_spec (each j hjn)).1 i v hv
      rw [tab_add, tab_add] at q
      exact q

end Go.Proofs.YtlhdbccemgofjaaGreatDoor

/-
  An argument that is an operation, opened.
-/
namespace Go.Proofs.YtlhdbccemgofjaaGreatDoor
open Go.ChangeShapes Go.WideShapes Go.RowKit OpMath PackMath

variable {H : Type} {enc : TypeId × Value → H}

theorem stamp_trod {w : World} {n : Nat} {a b : Value} {y : DataW H × List MemPlace} (h : DataW.trod enc Tryz.prog w 0 (fun _ => true) true n 35 [a, b] = some y) :
    ∃ t r : Int, a = .int .i64 t ∧ b = .int .i64 r ∧ IsI64 t ∧ IsI64 r := by
  have h1 : Tryz.prog.cellsOf 3 = 1 := by kernel_rfl
  have h2 : Tryz.prog.cellsOf 2 = 1 := by kernel_rfl
  obtain ⟨xs, m, _, _, _, hlen, hg⟩ := DataW.trod_struct Tryz.underlying35 h
  match xs, hlen with
  | [y0, y1], _ =>
    have g0 : DataW.trod enc Tryz.prog w 0 (fun _ => true) true m 2 (([a, b].drop 0).take (Tryz.prog.cellsOf 2)) = some y0 := hg 0 _ rfl
    have g1 : DataW.trod enc Tryz.prog w 0 (fun _ => true) true m 3 (([a, b].drop 1).take (Tryz.prog.cellsOf 3)) = some y1 := hg 1 _ rfl
    rw [h2] at g0
    rw [h1] at g1
    obtain ⟨t, e0, _, w0⟩ := DataW.trod_int Tryz.underlying2 g0
    obtain ⟨r, e1, _, w1⟩ := DataW.trod_int Tryz.underlying3 g1
    simp at e0 e1
    exact ⟨t, r, e0, e1, bounds_i64 w0, bounds_i64 w1⟩

set_option maxRecDepth 100000 in
theorem op_trod {w : World} {n : Nat} {c0 c1 c2 c3 c4 c5 c6 c7 c8 c9 c10 c11 c12 : Value} {y : DataW H × List MemPlace} (h : DataW.trod enc Tryz.prog w 0 (fun _ => true) true n 37 [c0, c1, c2, c3, c4, c5, c6, c7, c8, c9, c10, c11, c12] = some y) :
    ∃ o : Opn, Value.agg #[c0, c1, c2, c3, c4, c5, c6, c7, c8, c9, c10, c11, c12] = .agg (opA o) ∧ Ok64 o ∧ o.name.size ≤ maxLen ∧ o.new.size ≤ maxLen ∧ o.data.size ≤ maxLen := by
  have hC1 : Tryz.prog.cellsOf 3 = 1 := by kernel_rfl
  have hC2 : Tryz.prog.cellsOf 35 = 2 := by kernel_rfl
  have hC3 : Tryz.prog.cellsOf 9 = 1 := by kernel_rfl
  obtain ⟨xs, n, _, _, _, hlen, hg⟩ := DataW.trod_struct Tryz.underlying37 h
  match xs, hlen with
  | [y0, y1, y2, y3, y4, y5, y6, y7, y8], _ =>
    have g0 : DataW.trod enc Tryz.prog w 0 (fun _ => true) true n 35 (([c0, c1, c2, c3, c4, c5, c6, c7, c8, c9, c10, c11, c12].drop 0).take (Tryz.prog.cellsOf 35)) = some y0 := hg 0 _ rfl
    have g1 : DataW.trod enc Tryz.prog w 0 (fun _ => true) true n 3 (([c0, c1, c2, c3, c4, c5, c6, c7, c8, c9, c10, c11, c12].drop 2).take (Tryz.prog.cellsOf 3)) = some y1 := hg 1 _ rfl
    have g2 : DataW.trod enc Tryz.prog w 0 (fun _ => true) true n 35 (([c0, c1, c2, c3, c4, c5, c6, c7, c8, c9, c10, c11, c12].drop 3).take (Tryz.prog.cellsOf 35)) = some y2 := hg 2 _ rfl
    have g3 : DataW.trod enc Tryz.prog w 0 (fun _ => true) true n 35 (([c0, c1, c2, c3, c4, c5, c6, c7, c8, c9, c10, c11, c12].drop 5).take (Tryz.prog.cellsOf 35)) = some y3 := hg 3 _ rfl
    have g4 : DataW.trod enc Tryz.prog w 0 (fun _ => true) true n 35 (([c0, c1, c2, c3, c4, c5, c6, c7, c8, c9, c10, c11, c12].drop 7).take (Tryz.prog.cellsOf 35)) = some y4 := hg 4 _ rfl
    have g5 : DataW.trod enc Tryz.prog w 0 (fun _ => true) true n 9 (([c0, c1, c2, c3, c4, c5, c6, c7, c8, c9, c10, c11, c12].drop 9).take (Tryz.prog.cellsOf 9)) = some y5 := hg 5 _ rfl
    have g6 : DataW.trod enc Tryz.prog w 0 (fun _ => true) true n 9 (([c0, c1, c2, c3, c4, c5, c6, c7, c8, c9, c10, c11, c12].drop 10).take (Tryz.prog.cellsOf 9)) = some y6 := hg 6 _ rfl
    have g7 : DataW.trod enc Tryz.prog w 0 (fun _ => true) true n 3 (([c0, c1, c2, c3, c4, c5, c6, c7, c8, c9, c10, c11, c12].drop 11).take (Tryz.prog.cellsOf 3)) = some y7 := hg 7 _ rfl
    have g8 : DataW.trod enc Tryz.prog w 0 (fun _ => true) true n 9 (([c0, c1, c2, c3, c4, c5, c6, c7, c8, c9, c10, c11, c12].drop 12).take (Tryz.prog.cellsOf 9)) = some y8 := hg 8 _ rfl
    rw [hC2] at g0 g2 g3 g4
    rw [hC1] at g1 g7
    rw [hC3] at g5 g6 g8
    obtain ⟨st, sr, rfl, rfl, i0, i1⟩ := stamp_trod (a := c0) (b := c1) g0
    obtain ⟨k, e2, _, w2⟩ := DataW.trod_int Tryz.underlying3 g1
    obtain ⟨pt, pr, rfl, rfl, i3, i4⟩ := stamp_trod (a := c3) (b := c4) g2
    obtain ⟨it, ir, rfl, rfl, i5, i6⟩ := stamp_trod (a := c5) (b := c6) g3
    obtain ⟨tt, tr, rfl, rfl, i7, i8⟩ := stamp_trod (a := c7) (b := c8) g4
    obtain ⟨a, e9, _, w9⟩ := DataW.trod_string Tryz.underlying9 g5
    obtain ⟨b, e10, _, w10⟩ := DataW.trod_string Tryz.underlying9 g6
    obtain ⟨f, e11, _, w11⟩ := DataW.trod_int Tryz.underlying3 g7
    obtain ⟨c, e12, _, w12⟩ := DataW.trod_string Tryz.underlying9 g8
    simp at e2 e9 e10 e11 e12
    subst e2 e9 e10 e11 e12
    exact ⟨⟨st, sr, k, pt, pr, it, ir, tt, tr, a, b, f, c⟩, rfl, ⟨i0, i1, bounds_i64 w2, i3, i4, i5, i6, i7, i8, bounds_i64 w11⟩, w9, w10, w12⟩

set_option maxRecDepth 100000 in
theorem open_op {w : World} {v : Value} {d : DataW H} {p : List MemPlace} {r : Reach} {b0 : Nat} (hv : Value.okWide Tryz.prog w r b0 37 v) (h : DataW.Trod enc Tryz.prog w 0 (fun _ => true) true 37 v d p) :
    ∃ o : Opn, v = .agg (opA o) ∧ Ok64 o ∧ o.name.size ≤ maxLen ∧ o.new.size ≤ maxLen ∧ o.data.size ≤ maxLen := by
  have hC : Tryz.prog.cellsOf 37 = 13 := by kernel_rfl
  obtain ⟨cs, rfl, hsz⟩ := okWide_struct Tryz.underlying37 hv
  obtain ⟨l⟩ := cs
  match l, hsz.trans hC with
  | [c0, c1, c2, c3, c4, c5, c6, c7, c8, c9, c10, c11, c12], _ =>
    obtain ⟨fuel, hf⟩ := h
    exact op_trod (c0 := c0) (c1 := c1) (c2 := c2) (c3 := c3) (c4 := c4) (c5 := c5) (c6 := c6) (c7 := c7) (c8 := c8) (c9 := c9) (c10 := c10) (c11 := c11) (c12 := c12) hf

end Go.Proofs.YtlhdbccemgofjaaGreatDoor

/-
  Arguments of layer 11's statements, opened: a slice of operations.
-/
namespace Go.Proofs.YtlhdbccemgofjaaGreatDoor
open Go.ChangeShapes Go.WideShapes Go.RowKit StampMath GraphMath OpMath PackMath

variable {H : Type} {enc : TypeId × Value → H}

set_option maxRecDepth 100000 in
theorem open_ops {w : World} {v : Value} {d : DataW H} {p : List MemPlace} {r : Reach} {b0 : Nat} (hv : Value.okWide Tryz.prog w r b0 22 v) (h : DataW.Trod enc Tryz.prog w 0 (fun _ => true) true 22 v d p) :
    ∃ (A : Option Addr) (n c : Nat) (l : List Opn), v = .slice A n c ∧ n ≤ c ∧ c ≤ maxLen ∧ (∀ x ∈ l, OpFit x) ∧ OpsIn w w.heap.size A n l := by
  obtain ⟨A, n, c, l, h1, h2, h3, h4, h5, _⟩ := open_tab opA OpFit ⟨0, 0, 0, 0, 0, 0, 0, 0, 0, ⟨#[]⟩, ⟨#[]⟩, 0, ⟨#[]⟩⟩ (k := 13) (by omega) (fun _ => rfl) Tryz.underlying22 (by kernel_rfl) (fun {n cs y} hl ht => by
    match cs, hl with
    | [c0, c1, c2, c3, c4, c5, c6, c7, c8, c9, c10, c11, c12], _ =>
      obtain ⟨o, he, q1, q2, q3, q4⟩ := op_trod (c0 := c0) (c1 := c1) (c2 := c2) (c3 := c3) (c4 := c4) (c5 := c5) (c6 := c6) (c7 := c7) (c8 := c8) (c9 := c9) (c10 := c10) (c11 := c11) (c12 := c12) ht
      simp only [Value.agg.injEq] at he
      exact ⟨o, by rw [← he], ⟨q1, q2, q3, q4⟩⟩) hv h
  exact ⟨A, n, c, l, h1, h2, h3, h4, h5⟩

end Go.Proofs.YtlhdbccemgofjaaGreatDoor

/-
  From the rows' condition on the table of fields to its cells; a start that meets the condition.
-/
namespace Go.Proofs.YtlhdbccemgofjaaGreatDoor
open Go.ChangeShapes Go.WideShapes Go.ChangeAt Go.RowKit

theorem tab_global : Tryz.prog.globalNamed "thimble/op.fields" = some 0 := by kernel_rfl
theorem tab_type : (Tryz.prog.globals[0]?).map (·.type) = some 166 := by kernel_rfl

/-- A start in which the table lies. -/
theorem tab_met (os : Os) (args : Array Value) : laidMetH Tryz.prog [("thimble/op.fields", Rows.laid_thimble_op_fields)] ((World.doorLaid Tryz.prog 400 os).forCall (fun _ _ => 0) ⟨#[], args, []⟩).memory :=
  laidMetH_of_parts3 (fuel := 8) (laidMet_of_run' 8 (by kernel_rfl) (by kernel_rfl)) (by kernel_rfl) (by kernel_rfl)

theorem tab_of_laid {W : World} (h : laidMetH Tryz.prog [("thimble/op.fields", Rows.laid_thimble_op_fields)] W) : Tab W := by
  rw [MakeChecks.laidMetH_plain _ _ _ (by kernel_rfl)] at h
  obtain ⟨ps, ⟨g0, t0, cs0, f0, p0, q0, hg0, ht0, hv0, hd0, _⟩, _, _⟩ := h
  obtain rfl := Option.some.inj (tab_global.symm.trans hg0)
  obtain rfl := Option.some.inj (tab_type.symm.trans ht0)
  obtain ⟨xs, m, rfl, hx, hlen, hn, hel⟩ := DataW.trod_array Tryz.underlying166 hd0
  have c1 : Tryz.prog.cellsOf 3 = 1 := by kernel_rfl
  have hm : xs.map (·.1) = tabL.map fun n => DataW.lit (.int .i64 n) := by
    have h2 := (Prod.mk.inj hx).1
    exact (DataW.agg.inj h2).symm
  refine ⟨Lib.hid fun i x hi => ?_⟩
  have hl : i < 11 := (List.getElem?_eq_some_iff.1 hi).1
  have hE := hel i hl
  rw [c1, Nat.mul_one] at hE
  have hy : (xs.map (·.1))[i]? = some (DataW.lit (.int .i64 x)) := by rw [hm, List.getElem?_map, hi]; rfl
  rw [List.getElem?_map] at hy
  cases hxi : xs[i]? with
  | none => rw [hxi] at hy; cases hy
  | some y =>
    rw [hxi] at hE hy
    simp only [Option.map_some, Option.some.injEq] at hy
    obtain ⟨k, e1, e2, _⟩ := DataW.trod_int Tryz.underlying3 hE
    rw [e2] at hy
    simp only [DataW.lit.injEq, Lit.int.injEq, true_and] at hy
    subst hy
    have hc := World.var?_cell hg0 hv0 i
    rw [hc, ← Array.getElem?_toList]
    have h3 : (cs0.toList.drop i).head? = some (.int .i64 k) := by
      cases hdr : cs0.toList.drop i with
      | nil => rw [hdr] at e1; simp at e1
      | cons a r => rw [hdr] at e1; simp at e1; rw [e1]; rfl
    rw [List.head?_drop] at h3
    exact h3

end Go.Proofs.YtlhdbccemgofjaaGreatDoor
