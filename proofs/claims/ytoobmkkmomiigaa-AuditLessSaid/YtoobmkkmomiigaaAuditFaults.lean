/-
  The landed audit's seven questions, each a method of its lists.
-/
import Derived.Test.YtoobmkkmomiigaaAuditReached
import Derived.Test.YtoobmkkmomiigaaAuditIdx
import Derived.Test.YtoobmkkmomiigaaAuditCmp
import Derived.BigQuiet
import Derived.Deep.RegionWith
namespace Go.Proofs.Ytoobmkkmomiigaa
open Go.RowKit StampMath GraphMath OpMath

/-- Is it not so? -/
noncomputable def badB (p : Prop) : Bool := @decide (¬ p) (Classical.propDecidable _)

theorem badB_iff {p : Prop} : badB p = true ↔ ¬ p := by unfold badB; exact @decide_eq_true_iff _ (Classical.propDecidable _)

theorem badB_of {p : Prop} {b : Bool} (h : b = true ↔ ¬ p) : badB p = b := by
  rw [Bool.eq_iff_iff, badB_iff, h]

theorem any_ok {α : Type} {p : α → Bool} {q : α → Prop} {l : List α} (h : ∀ x ∈ l, p x = true ↔ ¬ q x) : l.any p = true ↔ ¬ ∀ x ∈ l, q x := by
  rw [List.any_eq_true]
  constructor
  · rintro ⟨x, hx, hp⟩ hq
    exact (h x hx).1 hp (hq x hx)
  · intro hq
    refine Classical.byContradiction fun hn => hq fun x hx => Classical.byContradiction fun hqx => hn ⟨x, hx, (h x hx).2 hqx⟩

theorem shape_bad {N : List Ino} {E : List Ent} : badB (shapeOk N E) = (!decide (kindI N (0, 0) = some 1) || N.any noneB || E.any fun e => !nameB e.name) := by
  refine badB_of ?_
  have h1 : N.any noneB = true ↔ ¬ ∀ x ∈ N, mayB x.id.1 x.id.2 = true ∧ 1 ≤ x.kind ∧ x.kind ≤ 3 := any_ok fun x _ => by
    unfold noneB
    simp only [Bool.not_eq_true', Bool.and_eq_false_iff, decide_eq_false_iff_not]
    cases mayB x.id.1 x.id.2 <;> simp
  have h2 : (E.any fun e => !nameB e.name) = true ↔ ¬ ∀ e ∈ E, nameB e.name = true := any_ok fun x _ => by simp
  unfold shapeOk
  rw [Bool.or_eq_true, Bool.or_eq_true, h1, h2]
  simp only [Bool.not_eq_true', decide_eq_false_iff_not]
  constructor
  · rintro ((h | h) | h) ⟨q1, q2, q3⟩
    · exact h q3
    · exact h q1
    · exact h q2
  · intro h
    by_cases q3 : kindI N (0, 0) = some 1
    · by_cases q1 : ∀ x ∈ N, mayB x.id.1 x.id.2 = true ∧ 1 ≤ x.kind ∧ x.kind ≤ 3
      · exact .inr fun q2 => h ⟨q1, q2, q3⟩
      · exact .inl (.inr q1)
    · exact .inl (.inl q3)

theorem lost_bad {N : List Ino} {E : List Ent} : badB (lostOk N E) = E.any (lostB N) :=
  badB_of (any_ok fun x _ => by
    unfold lostB
    simp only [Bool.not_eq_true', Bool.and_eq_false_iff, decide_eq_false_iff_not]
    cases (kindI N x.ino).isSome <;> simp)

theorem count_bad {N : List Ino} {E : List Ent} : badB (countOk N E) = N.any fun x => !decide (x.links = (linksE E x.id : Int)) :=
  badB_of (any_ok fun x _ => by simp)

theorem many_bad {N : List Ino} {E : List Ent} : badB (manyOk N E) = N.any fun x => !manyB x (linksE E x.id : Nat) :=
  badB_of (any_ok fun x _ => by
    unfold manyB manyOk1
    by_cases h : x.id = (0, 0)
    · simp [h]
    · by_cases h1 : x.kind = 1
      · simp [h, h1]; omega
      · simp [h, h1]; omega)

theorem bounds_bad {N : List Ino} : badB (boundsOk N) = (decide (40 < N.length) || N.any muchB) := by
  refine badB_of ?_
  have h1 : N.any muchB = true ↔ ¬ ∀ x ∈ N, boundOk1 x := any_ok fun x _ => by
    unfold muchB boundOk1 dataB
    by_cases hm : 0 ≤ x.mode ∧ x.mode ≤ 4095
    · rw [decide_eq_true hm, Bool.true_and]
      by_cases k1 : x.kind = 1
      · simp [k1, hm]
      · by_cases k2 : x.kind = 2
        · simp [k2, hm]; omega
        · by_cases k3 : x.kind = 3
          · simp [k3, hm]; omega
          · simp [k1, k2, k3, hm]
    · rw [decide_eq_false hm, Bool.false_and]
      simp only [Bool.not_false, true_iff]
      exact fun q => hm ⟨q.1, q.2.1⟩
  unfold boundsOk
  rw [Bool.or_eq_true, h1, decide_eq_true_iff]
  constructor
  · rintro (h | h) ⟨q1, q2⟩
    · omega
    · exact h q1
  · intro h
    by_cases q2 : N.length ≤ 40
    · exact .inr fun q1 => h ⟨q1, q2⟩
    · exact .inl (by omega)

theorem apart_bad {N : List Ino} {E : List Ent} {F : List St} (hn : F.Nodup) (hF : ∀ s, s ∈ F ↔ Reached N E s) {K : List (St × Int)} (hk : (K.map Prod.fst).Nodup) (hK : ∀ id, lookL K id = kindI N id) : badB (apartOk N E) = decide ((F.length : Int) < (K.length : Int)) := by
  refine badB_of ?_
  have hkey : ∀ s, s ∈ K.map Prod.fst ↔ (kindI N s).isSome := fun s => by
    rw [← hK s]
    constructor
    · intro h
      obtain ⟨⟨a, v⟩, hp, rfl⟩ := List.mem_map.1 h
      rw [(mem_lookL hk).2 hp]
      rfl
    · intro h
      cases hq : lookL K s with
      | none => rw [hq] at h; cases h
      | some v => exact List.mem_map.2 ⟨(s, v), (mem_lookL hk).1 hq, rfl⟩
  have hl : (K.map Prod.fst).length = K.length := List.length_map _
  rw [decide_eq_true_iff]
  constructor
  · intro h ha
    have := nodup_le hk (M := F) fun s hs => by
      obtain ⟨x, hx, rfl⟩ := kindI_some ((hkey s).1 hs)
      exact (hF _).2 (ha x hx)
    omega
  · intro ha
    refine Classical.byContradiction fun h => ha fun x hx => (hF _).1 (Classical.byContradiction fun hnx => ?_)
    have := nodup_le (L := x.id :: F) (M := K.map Prod.fst) (List.nodup_cons.2 ⟨hnx, hn⟩) fun s hs => by
      rw [hkey]
      rcases List.mem_cons.1 hs with rfl | hs
      · exact kindI_of hx
      · obtain ⟨y, hy, rfl⟩ := ((hF s).1 hs).ino
        exact kindI_of hy
    simp at this
    omega

theorem order_bad {N : List Ino} {E : List Ent} : badB (orderOk N E) = (!decide (N.Pairwise fun a b => lessS a.id b.id = true) || !decide (E.Pairwise fun a b => aheadE a b = true)) := by
  refine badB_of ?_
  unfold orderOk
  by_cases h1 : N.Pairwise fun a b => lessS a.id b.id = true
  · by_cases h2 : E.Pairwise fun a b => aheadE a b = true
    · simp [h1, h2]
    · simp [h1, h2]
  · simp [h1]

section
variable (A A' : Option Addr) (n c m d bk bl : Nat) (N : List Ino) (E : List Ent) (w : World) (h : Given w A n N A' m E) (hL : Looked w bk bl N E)
include h hL

theorem box_held : Below w.heap.size w (w.alloc (.cells (listsA A A' n c m d bk bl) 44)) ∧ (w.alloc (.cells (listsA A A' n c m d bk bl) 44)).heap[w.heap.size]? = some (.cells (listsA A A' n c m d bk bl) 44 (0, 0)) ∧
    Given (w.alloc (.cells (listsA A A' n c m d bk bl) 44)) A n N A' m E ∧ Looked (w.alloc (.cells (listsA A A' n c m d bk bl) 44)) bk bl N E :=
  ⟨(Below.refl _ _).alloc (Nat.le_refl _) _, heap_alloc_new _ _, h.below ((Below.refl _ _).alloc (Nat.le_refl _) _), hL.below ((Below.refl _ _).alloc (Nat.le_refl _) _)⟩

set_option maxRecDepth 100000 in
theorem disordered_code : Calls Try.prog 21 #[.agg #[.slice A n c, .slice A' m d, .map (some bk), .map (some bl)]] w fun e w' => e = .returned (.bool (badB (orderOk N E))) ∧ Below w.heap.size w w' := by
  obtain ⟨hb0, he0, hg0, hl0⟩ := box_held A A' n c m d bk bl N E w h hL
  rw [order_bad]
  have HI : Hid (∀ W : World, Below w.heap.size w W → Calls Try.prog 36 #[.slice A n c, .func (.func 37) #[] #[]] W fun e w' => e = .returned (.bool (decide (N.Pairwise fun a b => lessS a.id b.id = true))) ∧ Below W.heap.size W w') := fun W hW => risesI_code A n c N h.fewI W ((h.below hW).inos)
  have HJ : Hid (∀ W : World, Below w.heap.size w W → Calls Try.prog 38 #[.slice A' m d, .func (.func 39) #[] #[]] W fun e w' => e = .returned (.bool (decide (E.Pairwise fun a b => aheadE a b = true))) ∧ Below W.heap.size W w') := fun W hW => risesE_code A' m d E h.fewE W ((h.below hW).ents)
  generalize decide (N.Pairwise fun a b => lessS a.id b.id = true) = p at HI ⊢
  generalize decide (E.Pairwise fun a b => aheadE a b = true) = q at HJ ⊢
  have HE := Lib.hid he0
  clear h hL he0 hg0 hl0
  go_enter Try.func21, Try.ntmps21
  go_wp2_with fail
  refine (HI.out _ hb0).mono ?_
  rintro e w2 ⟨rfl, hb2⟩
  have he2 := (hb2.block _ (heap_lt HE.out)).trans HE.out
  have hb3 := below_step hb0 hb2
  clear hb0 hb2 HE HI
  obtain ⟨c0, c1, c2, c3⟩ := lists_cells he2
  cases p with
  | false =>
    go_wp2_with fail
    go_ret
    exact ⟨rfl, hb3⟩
  | true =>
    go_wp2_with fail
    refine (HJ.out _ hb3).mono ?_
    rintro e w4 ⟨rfl, hb4⟩
    go_wp2_with fail
    go_ret
    exact ⟨rfl, below_step hb3 hb4⟩

set_option maxRecDepth 100000 in
theorem lost_code : Calls Try.prog 23 #[.agg #[.slice A n c, .slice A' m d, .map (some bk), .map (some bl)]] w fun e w' => e = .returned (.bool (badB (lostOk N E))) ∧ Below w.heap.size w w' := by
  obtain ⟨hb0, he0, hg0, hl0⟩ := box_held A A' n c m d bk bl N E w h hL
  rw [lost_bad]
  have HC := Lib.hid (has_lost w.heap.size (lostB N) A' m d E h.fewE _ hg0.ents fun x _ W hW => lostClo_code A A' n c m d bk bl w.heap.size N E x W ((hW.block _ (heap_lt he0)).trans he0) (hl0.below hW))
  clear h hL he0 hg0 hl0
  go_enter Try.func23, Try.ntmps23
  go_wp2_with fail
  refine HC.out.mono ?_
  rintro e w2 ⟨rfl, hb2⟩
  go_wp2_with fail
  go_ret
  exact ⟨rfl, below_step hb0 hb2⟩

set_option maxRecDepth 100000 in
theorem miscounted_code : Calls Try.prog 24 #[.agg #[.slice A n c, .slice A' m d, .map (some bk), .map (some bl)]] w fun e w' => e = .returned (.bool (badB (countOk N E))) ∧ Below w.heap.size w w' := by
  obtain ⟨hb0, he0, hg0, hl0⟩ := box_held A A' n c m d bk bl N E w h hL
  rw [count_bad]
  have HC := Lib.hid (has_miscounted w.heap.size (fun x => !decide (x.links = (linksE E x.id : Int))) A n c N h.fewI _ hg0.inos fun x _ W hW => countClo_code A A' n c m d bk bl w.heap.size N E x W ((hW.block _ (heap_lt he0)).trans he0) (hl0.below hW))
  clear h hL he0 hg0 hl0
  go_enter Try.func24, Try.ntmps24
  go_wp2_with fail
  refine HC.out.mono ?_
  rintro e w2 ⟨rfl, hb2⟩
  go_wp2_with fail
  go_ret
  exact ⟨rfl, below_step hb0 hb2⟩

set_option maxRecDepth 100000 in
theorem mislinked_code : Calls Try.prog 25 #[.agg #[.slice A n c, .slice A' m d, .map (some bk), .map (some bl)]] w fun e w' => e = .returned (.bool (badB (manyOk N E))) ∧ Below w.heap.size w w' := by
  obtain ⟨hb0, he0, hg0, hl0⟩ := box_held A A' n c m d bk bl N E w h hL
  rw [many_bad]
  have HC := Lib.hid (has_mislinked w.heap.size (fun x => !manyB x (linksE E x.id : Nat)) A n c N h.fewI _ hg0.inos fun x _ W hW => linkClo_code A A' n c m d bk bl w.heap.size N E x W ((hW.block _ (heap_lt he0)).trans he0) (hl0.below hW))
  clear h hL he0 hg0 hl0
  go_enter Try.func25, Try.ntmps25
  go_wp2_with fail
  refine HC.out.mono ?_
  rintro e w2 ⟨rfl, hb2⟩
  go_wp2_with fail
  go_ret
  exact ⟨rfl, below_step hb0 hb2⟩

set_option maxRecDepth 100000 in
theorem unbounded_code : Calls Try.prog 27 #[.agg #[.slice A n c, .slice A' m d, .map (some bk), .map (some bl)]] w fun e w' => e = .returned (.bool (badB (boundsOk N))) ∧ Below w.heap.size w w' := by
  obtain ⟨hb0, he0, hg0, hl0⟩ := box_held A A' n c m d bk bl N E w h hL
  rw [bounds_bad, h.inos.len]
  have HC := Lib.hid (has_tooMuch muchB A n c N h.fewI _ hg0.inos fun x hx W _ => tooMuch_code x (h.datas x hx) W)
  clear h hL he0 hg0 hl0
  by_cases h40 : 40 < n
  · rw [decide_eq_true h40]
    go_enter Try.func27, Try.ntmps27
    go_wp2_with fail
    go_ret
    exact ⟨by first | rfl | simp [h40], hb0⟩
  · rw [decide_eq_false h40]
    have hd : decide ((n : Int) > 40) = false := decide_eq_false (by omega)
    go_enter Try.func27, Try.ntmps27
    go_wp2_with fail
    refine HC.out.mono ?_
    rintro e w2 ⟨rfl, hb2⟩
    go_wp2_with fail
    go_ret
    exact ⟨by first | rfl | simp, below_step hb0 hb2⟩

set_option maxRecDepth 100000 in
set_option maxHeartbeats 1600000 in
theorem misshapen_code : Calls Try.prog 22 #[.agg #[.slice A n c, .slice A' m d, .map (some bk), .map (some bl)]] w fun e w' => e = .returned (.bool (badB (shapeOk N E))) ∧ Below w.heap.size w w' := by
  obtain ⟨hb0, he0, hg0, hl0⟩ := box_held A A' n c m d bk bl N E w h hL
  rw [shape_bad]
  have HD : Hid (∀ W : World, Below w.heap.size w W → Calls Try.prog 31 #[.agg #[.slice A n c, .slice A' m d, .map (some bk), .map (some bl)], .agg #[.int .i64 0, .int .i64 0]] W fun e w' => e = .returned (.bool (decide (kindI N (0, 0) = some 1))) ∧ Below W.heap.size W w') := fun W hW => isDir_code A A' n c m d bk bl N E (0, 0) W (hL.below hW)
  have HI : Hid (∀ W : World, Below w.heap.size w W → Calls Try.prog 40 #[.slice A n c, .func (.func 41) #[] #[]] W fun e w' => e = .returned (.bool (N.any noneB)) ∧ Below W.heap.size W w') := fun W hW => has_isNone noneB A n c N h.fewI W (h.below hW).inos fun x _ W' _ => isNone_code x W'
  have HJ : Hid (∀ W : World, Below w.heap.size w W → Calls Try.prog 42 #[.slice A' m d, .func (.func 43) #[] #[]] W fun e w' => e = .returned (.bool (E.any fun e => !nameB e.name)) ∧ Below W.heap.size W w') := fun W hW => has_nameless (fun e => !nameB e.name) A' m d E h.fewE W (h.below hW).ents fun x hx W' _ => nameless_code x (h.names x hx) W'
  generalize decide (kindI N (0, 0) = some 1) = p at HD ⊢
  generalize N.any noneB = q at HI ⊢
  generalize (E.any fun e => !nameB e.name) = r at HJ ⊢
  clear h hL hg0 hl0
  go_enter Try.func22, Try.ntmps22
  go_upto_region 1 with fail
  change Code.wp _ _ _ _ (w.alloc (.cells (listsA A A' n c m d bk bl) 44))
  generalize w.alloc (.cells (listsA A A' n c m d bk bl) 44) = w1 at he0 hb0 ⊢
  obtain ⟨c0, c1, c2, c3⟩ := lists_cells he0
  have l0 := later_cell c0
  have l1 := later_cell c1
  have l2 := later_cell c2
  have l3 := later_cell c3
  have HB := Lib.hid hb0
  have HRl := Lib.hid fun (y : World) => later_call (auRoot_code (later w1 y))
  have HDl := Lib.hid fun (y : World) => later_call (HD.out (later w1 y) (below_step HB.out (later_below w1 y)))
  have HIl := Lib.hid fun (y : World) => later_call (HI.out (later w1 y) (below_step HB.out (later_below w1 y)))
  have HJl := Lib.hid fun (y : World) => later_call (HJ.out (later w1 y) (below_step HB.out (later_below w1 y)))
  clear c0 c1 c2 c3 he0 hb0 HD HI HJ
  have hcase : p = false ∨ (p = true ∧ q = true) ∨ (p = true ∧ q = false) := by cases p <;> cases q <;> simp
  rcases hcase with rfl | ⟨rfl, rfl⟩ | ⟨rfl, rfl⟩
  all_goals
    refine wp_region_later (by kernel_rfl) (by kernel_rfl) ?_
    repeat (go_big_quiet_step (first | (with_reducible exact HRl.out _) | (with_reducible exact HDl.out _) | (with_reducible exact HIl.out _) | (with_reducible exact HJl.out _)))
    refine wpQuiet_nil ?_
    intro _ hw'
    obtain ⟨y, rfl⟩ := hw'
    clear l0 l1 l2 l3
    go_wp2_with fail
    go_ret
    exact ⟨rfl, below_step HB.out (later_below w1 y)⟩

end

end Go.Proofs.Ytoobmkkmomiigaa
