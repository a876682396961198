/-
  The landed audit's reached: which Ids are reached, each once, as they are come to.
-/
import Derived.Test.YtoobmkkmomiigaaAuditReachMath
import Derived.Test.YtoobmkkmomiigaaAuditRef
import Derived.Test.YtoobmkkmomiigaaAuditCodeB
import Derived.Test.YtoobmkkmomiigaaRowKeep
import Derived.Test.YtoobmkkmomiigaaKmapEntry
import Derived.Test.YtoobmkkmomiigaaAuditLook
import Derived.Maps.AppendAt
import Derived.Laws.OwnMore
import Derived.Deep.LoopGhost
import Derived.Deep.Cut
import Derived.Maps.Own
import Derived.Maps.OwnOps
namespace Go.Proofs.Ytoobmkkmomiigaa
open Go.RowKit StampMath GraphMath OpMath

abbrev slV (v : Value) : Value := v
def unV (_ : Unit) : Value := .agg #[]
theorem zeroSl (w : World) : (zeroValue 34).run Try.prog w = .ok (slV (.slice none 0 0)) w := by kernel_rfl
theorem zeroUn (w : World) : (zeroValue 59).run Try.prog w = .ok (unV ()) w := by kernel_rfl
theorem st_infos : (Try.prog.info? 29).map (fun i => (i.zero, i.size, i.bytes)) = some (some (.agg #[.int .i64 0, .int .i64 0]), 2, 16) := by kernel_rfl
theorem st_one2 (x : St) : ∀ u ∈ (stA x).toList, u.oneCell' = true := by
  intro u hu
  simp [stA] at hu
  rcases hu with rfl | rfl <;> rfl

/-- The slice that stands at a key. -/
def valM (M : List (St × Value)) (s : St) : Value := (lookL M s).getD (.slice none 0 0)

/-- In the map lies what is right below each Id. -/
structure BelowI (W : World) (bB base : Nat) (N : List Ino) (E : List Ent) (M : List (St × Value)) : Prop where
  map : KMap stV slV W bB M
  rows : ∀ s, W.ownsRow base 29 2 (valM M s) (belowL N E s).length (flat ((belowL N E s).map stA))
  apart : ∀ s t b, (valM M s).ownBlock = some b → (valM M t).ownBlock = some b → s = t

theorem BelowI.below {W W' : World} {bB base : Nat} {N : List Ino} {E : List Ent} {M : List (St × Value)} (h : BelowI W bB base N E M) (hb : Below W.heap.size W W') : BelowI W' bB base N E M :=
  ⟨h.map.kept (hb.block _ h.map.lt), fun s => own_call (h.rows s) hb, h.apart⟩

/-- One more entry that doesn't lead anywhere. -/
theorem BelowI.same {W : World} {bB base : Nat} {N : List Ino} {E E' : List Ent} {M : List (St × Value)} (h : BelowI W bB base N E M) (he : ∀ s, belowL N E' s = belowL N E s) : BelowI W bB base N E' M :=
  ⟨h.map, fun s => by rw [he]; exact h.rows s, h.apart⟩

theorem BelowI.new {W : World} {bB base : Nat} {N : List Ino} (h : W.heap[bB]? = some (.map #[] 0)) : BelowI W bB base N [] [] :=
  ⟨⟨#[], 0, [], h, MapKept.stamped_empty 0, rfl, List.Perm.nil⟩, fun _ => World.ownsRow_nil _ _ _ _, fun _ _ _ h => by cases h⟩

theorem valM_put (M : List (St × Value)) (k : St) (v : Value) (s : St) : valM ((k, v) :: offL M k) s = if k = s then v else valM M s := by
  unfold valM
  rw [look_put]
  by_cases h : k = s <;> simp [h]

theorem flat_st (F : List St) (x : St) : flat (F.map stA) ++ (stA x).toList = flat ((F ++ [x]).map stA) := by simp [flat]

theorem grown_but {w w' : World} {b : Nat} (hb : But (fun i => i = b) w w') : w.grownBy w' (some b) := ⟨hb.os, hb.tape, hb.output, hb.size, fun i hi hn => hb.block i hi fun q => hn (by rw [q])⟩

/-- A row is kept through a write to another block. -/
theorem own_off {w w' : World} {base : Nat} {e : TypeId} {k : Nat} {v : Value} {n : Nat} {xs : List Value} (h : w.ownsRow base e k v n xs) {b : Nat} (hb : But (fun i => i = b) w w') (hne : ∀ j, v.ownBlock = some j → j ≠ b) : w'.ownsRow base e k v n xs :=
  h.kept (grown_but hb) (by
    cases hv : v.ownBlock with
    | none => exact .inl rfl
    | some j => exact .inr fun q => by cases q; exact hne _ hv rfl)

/-- One more entry that leads from a directory to an inode. -/
theorem BelowI.put {W W1 W2 W3 : World} {bB base : Nat} {N : List Ino} {E E' : List Ent} {M : List (St × Value)} {key ino : St} {v' : Value} (h : BelowI W bB base N E M) (hbase : bB < base)
    (he : ∀ s, belowL N E' s = belowL N E s ++ if key = s then [ino] else [])
    (h1 : But (fun i => i = bB) W W1) (h2 : W1.grownBy W2 (valM M key).ownBlock) (h3 : But (fun i => i = bB) W2 W3) (hm : KMap stV slV W3 bB ((key, v') :: offL M key))
    (hown : W2.ownsRow base 29 2 v' ((belowL N E key).length + 1) (flat ((belowL N E key).map stA) ++ (stA ino).toList)) (hat : v'.ownBlock = (valM M key).ownBlock ∨ v'.ownBlock = some W1.heap.size) : BelowI W3 bB base N E' ((key, v') :: offL M key) := by
  have hlow : ∀ s j, (valM M s).ownBlock = some j → base ≤ j ∧ j < W.heap.size := fun s j hj => (h.rows s).lt j hj
  refine ⟨hm, fun s => ?_, fun s t b hs ht => ?_⟩
  · rw [valM_put, he]
    by_cases hk : key = s
    · subst hk
      rw [if_pos rfl, if_pos rfl, List.length_append, ← flat_st]
      exact own_off hown h3 fun j hj => by have := (hown.lt j hj).1; omega
    · rw [if_neg hk, if_neg hk, List.append_nil]
      have r1 := own_off (h.rows s) h1 fun j hj => by have := (hlow s j hj).1; omega
      have r2 := r1.kept h2 (by
        cases hv : (valM M s).ownBlock with
        | none => exact .inl rfl
        | some j => exact .inr fun q => hk (h.apart key s j q.symm hv))
      exact own_off r2 h3 fun j hj => by have := (hlow s j hj).1; omega
  · rw [valM_put] at hs ht
    by_cases hks : key = s
    · by_cases hkt : key = t
      · rw [← hks, hkt]
      · rw [if_pos hks] at hs
        rw [if_neg hkt] at ht
        rcases hat with q | q
        · rw [hs] at q
          exact absurd (h.apart key t b q.symm ht) hkt
        · rw [hs] at q
          cases q
          have := (hlow t _ ht).2
          have := h1.size
          omega
    · rw [if_neg hks] at hs
      by_cases hkt : key = t
      · rw [if_pos hkt] at ht
        rcases hat with q | q
        · rw [ht] at q
          exact absurd (h.apart key s b q.symm hs) hks
        · rw [ht] at q
          cases q
          have := (hlow s _ hs).2
          have := h1.size
          omega
      · rw [if_neg hkt] at ht
        exact h.apart s t b hs ht

/-- A row of the call's own is no map. -/
theorem own_no_map {K V : Type} {ek : K → Value} {ev : V → Value} {w : World} {base : Nat} {e : TypeId} {k : Nat} {v : Value} {n : Nat} {xs : List Value} (h : w.ownsRow base e k v n xs) {b : Nat} {L : List (K × V)} (hm : KMap ek ev w b L) : ∀ j, v.ownBlock = some j → j ≠ b := by
  intro j hj hjb
  subst hjb
  obtain ⟨es, cl, M, q1, _⟩ := hm
  rcases h.2 with ⟨rfl, _⟩ | ⟨g, cap, cur, rfl, _, hg, _⟩
  · cases hj
  · cases hj
    rw [q1] at hg
    cases hg

theorem take_mem {α : Type} {L : List α} {j : Nat} (hj : j < L.length) {t : α} (h : t ∈ L.take (j + 1)) : t ∈ L.take j ∨ t = L[j] := by
  rw [List.take_succ_eq_append_getElem hj] at h
  rcases List.mem_append.1 h with h | h
  · exact .inl h
  · exact .inr (List.mem_singleton.1 h)

set_option maxRecDepth 100000 in
set_option maxHeartbeats 4000000 in
theorem reached_code (A A' : Option Addr) (n c m d bk bl : Nat) (N : List Ino) (E : List Ent) (w : World) (h : Given w A n N A' m E) (hL : Looked w bk bl N E) :
    Calls Try.prog 16 #[.agg #[.slice A n c, .slice A' m d, .map (some bk), .map (some bl)]] w fun e w' => ∃ (v : Value) (F : List St), e = .returned v ∧ F.Nodup ∧ (∀ s, s ∈ F ↔ Reached N E s) ∧ w'.ownsRow w.heap.size 29 2 v F.length (flat (F.map stA)) ∧ Below w.heap.size w w' := by
  have hm := h.fewE
  have hn := h.fewI
  have hE := h.ents.len
  have hNl := h.inos.len
  have HG := Lib.hid h
  have HL := Lib.hid hL
  obtain ⟨i0, hi0, hz0, hz1, hz2⟩ := info_parts st_infos
  have hb0 : Below w.heap.size w (w.alloc (.cells #[.slice A n c, .slice A' m d, .map (some bk), .map (some bl)] 44)) := (Below.refl _ _).alloc (Nat.le_refl _) _
  have he0 := heap_alloc_new w (.cells #[.slice A n c, .slice A' m d, .map (some bk), .map (some bl)] 44)
  clear h hL
  go_enter Try.func16, Try.ntmps16
  go_upto_region 1 with fail
  have hs0 : ∃ s, s = w.heap.size := ⟨_, rfl⟩
  obtain ⟨s, hs⟩ := hs0
  rw [← hs] at he0 ⊢
  have hws : w.heap.size ≤ s := Nat.le_of_eq hs.symm
  clear hs
  generalize w.alloc (.cells #[.slice A n c, .slice A' m d, .map (some bk), .map (some bl)] 44) = w1 at he0 hb0 ⊢
  have HB0 := Lib.hid hb0
  have HE0 := Lib.hid he0
  obtain ⟨b, hb⟩ : ∃ b, b = (kindI N (0, 0)).isSome := ⟨_, rfl⟩
  have HRl : Hid (∀ y, Calls Try.prog 30 #[] (later w1 y) fun e w' => e = .returned (.agg #[.int .i64 0, .int .i64 0]) ∧ ∃ z, w' = later w1 z) := fun y => later_call (auRoot_code _)
  have HHl : Hid (∀ y, Calls Try.prog 29 #[.agg #[.slice A n c, .slice A' m d, .map (some bk), .map (some bl)], .agg #[.int .i64 0, .int .i64 0]] (later w1 y) fun e w' => e = .returned (.bool b) ∧ ∃ z, w' = later w1 z) := fun y => later_call (by rw [hb]; exact has_code A A' n c m d bk bl N E (0, 0) _ (HL.out.below (below_step HB0.out (later_below w1 y))))
  obtain ⟨c0, c1, c2, c3⟩ := lists_cells he0
  have l0 := later_cell c0
  have l1 := later_cell c1
  have l2 := later_cell c2
  have l3 := later_cell c3
  have HBb := Lib.hid hb
  clear c0 c1 c2 c3 he0 hb0 hb
  cases b with
  | false =>
    have hno : Hid (∀ s, ¬ Reached N E s) := fun s => reached_none (by
      have := HBb.out
      cases hk : kindI N (0, 0) with
      | none => rfl
      | some _ => rw [hk] at this; cases this)
    refine wp_region_later (by kernel_rfl) (by kernel_rfl) ?_
    repeat (go_big_quiet_step (first | (with_reducible exact HRl.out _) | (with_reducible exact HHl.out _)))
    refine wpQuiet_nil ?_
    intro _ hw'
    obtain ⟨y, rfl⟩ := hw'
    clear l0 l1 l2 l3
    go_wp2_with fail
    go_ret
    exact ⟨_, [], rfl, List.nodup_nil, (fun s => ⟨(fun q => by cases q), fun q => absurd q (hno.out s)⟩), World.ownsRow_nil _ _ _ _, below_step HB0.out (later_below w1 y)⟩
  | true =>
    have hrt : Hid (Reached N E (0, 0)) := reached_root HBb.out.symm
    refine wp_region_later (by kernel_rfl) (by kernel_rfl) ?_
    repeat (go_big_quiet_step (first | (with_reducible exact HRl.out _) | (with_reducible exact HHl.out _)))
    refine wpQuiet_nil ?_
    intro _ hw'
    obtain ⟨y, rfl⟩ := hw'
    clear l0 l1 l2 l3 HRl HHl
    have HB1 := Lib.hid (below_step HB0.out (later_below w1 y))
    have he1 := ((later_below w1 y).block _ (heap_lt HE0.out)).trans HE0.out
    generalize later w1 y = w2 at HB1 he1 ⊢
    clear HE0 HB0 HBb
    have hmk : ∀ W : World, (Instr.makeMap 58 none).run Try.prog W = .ok (.map (some W.heap.size)) (W.alloc (.map #[] 0)) := fun _ => rfl
    obtain ⟨c0, c1, c2, c3⟩ := lists_cells he1
    obtain ⟨z, hz⟩ : ∃ z, z = w2.heap.size := ⟨_, rfl⟩
    have hzm : (w2.alloc (.map #[] 0)).heap[z]? = some (.map #[] 0) := by rw [hz]; exact heap_alloc_new _ _
    have hsz : s < z := by rw [hz]; exact heap_lt he1
    have he2 := (heap_alloc_old w2 (.map #[] 0) (heap_lt he1)).trans he1
    have hB2 := Lib.hid (HB1.out.alloc HB1.out.size (.map #[] 0))
    have hz3 : (w2.alloc (.map #[] 0)).heap.size = z + 1 := by simp [hz]
    have cc1 := cell_of_row _ _ 1 _ _ (0, 0) he2
    go_upto_region 4 with fail
    rw [← hz]
    have HZ := Lib.hid hz
    clear hmk hz c0 c1 c2 c3
    generalize w2.alloc (.map #[] 0) = w3 at hzm he2 hB2 hz3 cc1 ⊢
    have hI0 : BelowI w3 z (z + 1) N (E.take 0) [] := BelowI.new hzm
    go_wp2_with fail
    go_loopg [21] (m + 1) (fun gk i wr => ∃ (k : Nat) (M : List (St × Value)), i = .int .i64 (k : Int) ∧ gk + k = m + 1 ∧ k ≤ m ∧ Hid (BelowI wr z (z + 1) N (E.take k) M) ∧ wr.heap[s]? = some (.cells #[.slice A n c, .slice A' m d, .map (some bk), .map (some bl)] 44 (0, 0)) ∧ Hid (Below w.heap.size w wr) ∧ z + 1 ≤ wr.heap.size)
    case atStart => exact ⟨0, [], rfl, by omega, by omega, hI0, he2, hB2, by omega⟩
    case round =>
      obtain ⟨k, M, rfl, hgk, hk, hI, hq, hB, hlow⟩ := hrel
      clear hI0 he2 hB2 hz3 hzm he1 HB1 HZ cc1
      by_cases hlt : k < m
      · obtain ⟨g, o, rfl, hg, hrow⟩ := HG.out.ents.row (by omega)
        obtain ⟨e0, e1, e2, e3, e4⟩ := (hrow k (by omega)).below hB.out hg
        clear hrow
        have hsn := fun t => belowL_snoc N E k (by omega) t
        have HD : Hid (∀ W : World, Below w.heap.size w W → Calls Try.prog 31 #[.agg #[.slice A n c, .slice (some ⟨g, o, none⟩) m d, .map (some bk), .map (some bl)], .agg #[.int .i64 E[k].dir.1, .int .i64 E[k].dir.2]] W fun e w' => e = .returned (.bool (decide (kindI N E[k].dir = some 1))) ∧ Below W.heap.size W w') := fun W hW => isDir_code A (some ⟨g, o, none⟩) n c m d bk bl N E E[k].dir W (HL.out.below hW)
        have HH : Hid (∀ W : World, Below w.heap.size w W → Calls Try.prog 29 #[.agg #[.slice A n c, .slice (some ⟨g, o, none⟩) m d, .map (some bk), .map (some bl)], .agg #[.int .i64 E[k].ino.1, .int .i64 E[k].ino.2]] W fun e w' => e = .returned (.bool (kindI N E[k].ino).isSome) ∧ Below W.heap.size W w') := fun W hW => has_code A (some ⟨g, o, none⟩) n c m d bk bl N E E[k].ino W (HL.out.below hW)
        have hlen := fun t => belowL_len N (E.take k) t
        simp only [List.length_take] at hlen
        have HLen := Lib.hid hlen
        obtain ⟨x, hx⟩ : ∃ x, x = E[k] := ⟨_, rfl⟩
        rw [← hx] at e0 e1 e2 e3 e4 HD HH
        simp only [← hx] at hsn
        unfold okE at hsn
        generalize decide (kindI N x.dir = some 1) = p at HD hsn
        generalize (kindI N x.ino).isSome = r at HH hsn
        clear hx hlen
        obtain ⟨⟨d1, d2⟩, nm, ⟨i1, i2⟩⟩ := x
        dsimp only at e0 e1 e2 e3 e4 HD HH hsn
        have HSn := Lib.hid hsn
        clear hsn
        obtain ⟨c0, c1, c2, c3⟩ := lists_cells hq
        go_upto_region 7 with fail
        change Code.wp _ _ _ _ (wr.alloc (.cells (entA ⟨(d1, d2), nm, (i1, i2)⟩) 33))
        obtain ⟨u, hu⟩ : ∃ u, u = wr.heap.size := ⟨_, rfl⟩
        have t5 : (wr.alloc (.cells (entA ⟨(d1, d2), nm, (i1, i2)⟩) 33)).heap[u]? = some (.cells (entA ⟨(d1, d2), nm, (i1, i2)⟩) 33 (0, 0)) := by rw [hu]; exact heap_alloc_new _ _
        have hbA : Below wr.heap.size wr (wr.alloc (.cells (entA ⟨(d1, d2), nm, (i1, i2)⟩) 33)) := (Below.refl _ _).alloc (Nat.le_refl _) _
        rw [← hu]
        generalize wr.alloc (.cells (entA ⟨(d1, d2), nm, (i1, i2)⟩) 33) = w4 at t5 hbA ⊢
        have hI4 := Lib.hid (hI.out.below hbA)
        have hq4 := (hbA.block _ (heap_lt hq)).trans hq
        have hB4 := below_step hB.out hbA
        have hz4 := hbA.size
        have huz : z + 1 ≤ u := by omega
        clear hu hI hB hbA hq c0 c1 c2 c3 e0 e1 e2 e3 e4
        obtain ⟨c0, c1, c2, c3⟩ := lists_cells hq4
        obtain ⟨e0, e1, e2, e3, e4⟩ := ent_cells t5
        go_wp2_with fail
        refine (HD.out _ hB4).mono ?_
        rintro e w5 ⟨rfl, hb5⟩
        have hI5 := Lib.hid (hI4.out.below hb5)
        have hq5 := (hb5.block _ (heap_lt hq4)).trans hq4
        have t55 := (hb5.block _ (heap_lt t5)).trans t5
        have hB5 := below_step hB4 hb5
        have hz5 := hb5.size
        clear hI4 hq4 t5 hB4 hb5 c0 c1 c2 c3 e0 e1 e2 e3 e4 HD
        obtain ⟨c0, c1, c2, c3⟩ := lists_cells hq5
        obtain ⟨e0, e1, e2, e3, e4⟩ := ent_cells t55
        cases p with
        | false =>
          go_wp2_with fail
          go_roundg (gk - 1)
          case measure => omega
          case rel => exact ⟨k + 1, M, by go_num, by omega, by omega, hI5.out.same (fun t => by rw [HSn.out t, if_neg (by simp), List.append_nil]), hq5, hB5, by omega⟩
        | true =>
          go_wp2_with fail
          refine (HH.out _ hB5).mono ?_
          rintro e w6 ⟨rfl, hb6⟩
          have hI6 := Lib.hid (hI5.out.below hb6)
          have hq6 := (hb6.block _ (heap_lt hq5)).trans hq5
          have t56 := (hb6.block _ (heap_lt t55)).trans t55
          have hB6 := below_step hB5 hb6
          have hz6 := hb6.size
          clear hI5 hq5 t55 hB5 hb6 c0 c1 c2 c3 e0 e1 e2 e3 e4 HH
          obtain ⟨e0, e1, e2, e3, e4⟩ := ent_cells t56
          cases r with
          | false =>
            go_wp2_with fail
            go_roundg (gk - 1)
            case measure => omega
            case rel => exact ⟨k + 1, M, by go_num, by omega, by omega, hI6.out.same (fun t => by rw [HSn.out t, if_neg (by simp), List.append_nil]), hq6, hB6, by omega⟩
          | true =>
            have hbA : Below w6.heap.size w6 (w6.alloc (.cells #[.int .i64 i1, .int .i64 i2] 29)) := (Below.refl _ _).alloc (Nat.le_refl _) _
            have HIA := Lib.hid (hI6.out.below hbA)
            have HNW := Lib.hid (row_there w6 29 (stA (i1, i2)))
            have hl1 := HLen.out (d1, d2)
            have hm1 : (belowL N (E.take k) (d1, d2)).length + 1 ≤ maxLen := by unfold maxLen; omega
            have hm2 : ((belowL N (E.take k) (d1, d2)).length + 1) * 16 ≤ 140737488355328 := by omega
            go_wp2_with (first
              | (refine wpList_k_entry stShape (by rfl) (.tmp 35) (.tmp 37) _ (by rfl) Try.underlying58 (.slice none 0 0) zeroSl z M (by rfl) HIA.out.map (d1, d2) (by rfl) ?_; intro v0 st w8 hv0 HM8 HU8 HS8 HSl8; have hs8 := HS8.out; have hown8 : w8.ownsRow (z + 1) 29 2 v0 (belowL N (E.take k) (d1, d2)).length (flat ((belowL N (E.take k) (d1, d2)).map stA)) := (by rw [hv0]; exact own_off (HIA.out.rows (d1, d2)) HU8.out (fun j hj => by have := ((HIA.out.rows (d1, d2)).lt j hj).1; omega)); have HVV : Hid (valM M (d1, d2) = v0) := hv0.symm; clear hv0)
              | (at_builtin; refine wpList_append_own_at _ (by rfl) (.tmp 38) (.tmp 41) 34 (by rfl) (z + 1) 29 i0 _ 2 16 Try.underlying34 hi0 hz0 hz1 hz2 (by rfl) (by decide) v0 _ _ (by rfl) hown8 ⟨w6.heap.size, 0, none⟩ 1 1 (stA (i1, i2)).toList (by rfl) (by rfl) (fun j u hj => by have q := HNW.out j u hj; rw [tab_add] at q ⊢; exact HU8.out.cell q (fun q2 => by dsimp only at q2; omega)) (st_one2 _) hm1 hm2 (by simp at hs8; omega) ?_; intro v2 w9 hown9 hg9 _ hat9; have HW9 : Hid (w9.heap[z]? = w8.heap[z]?) := hg9.block z (by simp at hs8; omega) (fun q => by have := (hown8.lt z q.symm).1; omega))
              | (refine wpList_k_entryStore (by rfl) (.tmp 35) (.tmp 44) (.tmp 43) _ (by rfl) z M (by rfl) (d1, d2) st w8 HSl8.out HW9.out (by rfl) v2 (by rfl) ?_; intro w10 HM10 HU10 HS10))
            have hat : v2.ownBlock = (valM M (d1, d2)).ownBlock ∨ v2.ownBlock = some w8.heap.size := by rw [HVV.out]; exact hat9
            have hg8 : w8.grownBy w9 (valM M (d1, d2)).ownBlock := by rw [HVV.out]; exact hg9
            have hsA : (w6.alloc (.cells #[.int .i64 i1, .int .i64 i2] 29)).heap.size = w6.heap.size + 1 := by simp
            have hI10 := Lib.hid (HIA.out.put (E' := E.take (k + 1)) (by omega) (fun t => by
              rw [HSn.out t]
              by_cases ht : ((d1, d2) : St) = t
              · rw [if_pos ⟨rfl, ht⟩, if_pos ht]
              · rw [if_neg (fun q => ht q.2), if_neg ht]) HU8.out hg8 HU10.out HM10.out hown9 hat)
            have hBA := hB6.alloc hB6.size (.cells #[.int .i64 i1, .int .i64 i2] 29)
            have hB8 := hBA.trans (HU8.out.below (fun i hi => by omega) hBA.size)
            have hB9 := hB8.grown hg9 hB8.size (fun q hq => by have := (hown8.lt q hq).1; omega)
            have hB10 := Lib.hid (hB9.trans (HU10.out.below (fun i hi => by omega) hB9.size))
            have hz9 := hg9.size
            have hz10 := HU10.out.size
            have hq8 := HU8.out.heap ((heap_alloc_old w6 (.cells #[.int .i64 i1, .int .i64 i2] 29) (heap_lt hq6)).trans hq6) (by omega)
            have hq9 := (hg9.block s (heap_lt hq8) (fun q => by have := (hown8.lt s q.symm).1; omega)).trans hq8
            have hq10 := HU10.out.heap hq9 (by omega)
            have hs10 : z + 1 ≤ w10.heap.size := by omega
            clear hown8 hown9 hg9 hg8 hat9 hat HM8 HSl8 HU8 HM10 HU10 hBA hB8 hB9 hq6 hq8 hq9 hB6 hI6 HIA HNW e0 e1 e2 e3 e4
            go_roundg (gk - 1)
            case measure => omega
            case rel => exact ⟨k + 1, _, by go_num, by omega, by omega, hI10.out, hq10, hB10.out, hs10⟩
      · obtain ⟨wb, hwb⟩ : ∃ x, x = wr := ⟨_, rfl⟩
        subst hwb
        have hIE : BelowI wb z (z + 1) N E M := by have := hI.out; rwa [List.take_of_length_le (by omega)] at this
        have HIE := Lib.hid hIE
        obtain ⟨c0, c1, c2, c3⟩ := lists_cells hq
        clear hIE hI
        go_wp2_with fail
        refine (auRoot_code _).mono ?_
        rintro e w4 ⟨rfl, hb4⟩
        have hmk : ∀ W : World, (Instr.makeMap 60 none).run Try.prog W = .ok (.map (some W.heap.size)) (W.alloc (.map #[] 0)) := fun _ => rfl
        obtain ⟨u, hu⟩ : ∃ u, u = w4.heap.size := ⟨_, rfl⟩
        have hur : wb.heap.size ≤ u := by rw [hu]; exact hb4.size
        have ho0 : ((w4.alloc (.cells #[.int .i64 0, .int .i64 0] 29)).alloc (.map #[] 0)).ownsRow wb.heap.size 29 2 (.slice (some ⟨u, 0, none⟩) 1 1) 1 (flat ([((0, 0) : St)].map stA)) := by
          rw [hu]
          exact (World.ownsRow_lit w4 #[.int .i64 0, .int .i64 0] 1 (by omega) (by decide) rfl).alloc _
        have hm0 : ((w4.alloc (.cells #[.int .i64 0, .int .i64 0] 29)).alloc (.map #[] 0)).heap[u + 1]? = some (.map #[] 0) := by rw [hu]; exact heap_alloc2_new w4 _ _
        have hb5 : Below wb.heap.size wb ((w4.alloc (.cells #[.int .i64 0, .int .i64 0] 29)).alloc (.map #[] 0)) := (hb4.alloc hb4.size _).alloc (by simp; omega) _
        have HU := Lib.hid hu
        clear c0 c1 c2 c3 hu
        go_wp2_with fail
        rw [← HU.out]
        generalize ((w4.alloc (.cells #[.int .i64 0, .int .i64 0] 29)).alloc (.map #[] 0)) = w5 at ho0 hm0 hb5 ⊢
        clear HU hmk
        refine (auRoot_code _).mono ?_
        rintro e w6 ⟨rfl, hb6⟩
        have hm6 : KMap stV unV w6 (u + 1) ([] : List (St × Unit)) := ⟨#[], 0, [], (hb6.block _ (heap_lt hm0)).trans hm0, MapKept.stamped_empty 0, rfl, List.Perm.nil⟩
        have ho6 := own_call ho0 hb6
        have hb7 := below_step hb5 hb6
        obtain ⟨w7, hrun, hm7, hbut7, hsz7⟩ := hm6.store stShape Try.underlying60 (0, 0) ()
        simp only [stV, stA, unV] at hrun
        have ho7 := own_off ho6 hbut7 (fun j hj => by
          intro e
          subst e
          cases hj)
        have hb8 := Lib.hid (hb7.trans (hbut7.below (fun i hi => by omega) hb7.size))
        have HM7 := Lib.hid hm7
        have HO7 := Lib.hid ho7
        clear ho0 hm0 hb5 hb6 hm6 ho6 hb7 hm7 hbut7 hsz7 ho7
        go_wp2_with fail
        clear hrun
        have hrow0 := fun t => sts_own rfl (HIE.out.rows t)
        have HRow : Hid (∀ t, ∃ (A : Option Addr) (c : Nat), valM M t = .slice A (belowL N E t).length c ∧ StsIn wb wb.heap.size A (belowL N E t).length (belowL N E t)) := fun t => by
          obtain ⟨A, c, q1, q2, _⟩ := hrow0 t
          exact ⟨A, c, q1, q2⟩
        have hzr : z < wb.heap.size := by omega
        clear hrow0
        go_loopg [6, 8] (N.length + 1) (fun gp v i wq => ∃ (F : List St) (SF : List (St × Unit)) (q : Nat), i = .int .i64 (q : Int) ∧ gp + q = N.length + 1 ∧ q ≤ F.length ∧
          Hid (F.Nodup ∧ (∀ t ∈ F, Reached N E t) ∧ (0, 0) ∈ F ∧ ∀ j (hj : j < F.length), j < q → ∀ t ∈ belowL N E F[j], t ∈ F) ∧ Hid (KMap stV unV wq (u + 1) SF) ∧ Hid (∀ t, (lookL SF t).isSome = decide (t ∈ F)) ∧
          wq.ownsRow wb.heap.size 29 2 v F.length (flat (F.map stA)) ∧ Hid (Below wb.heap.size wb wq))
        case atStart =>
          refine ⟨[(0, 0)], _, 0, rfl, by omega, by simp, ⟨by simp, ?_, by simp, fun j hj q => by omega⟩, HM7, fun t => ?_, HO7.out, hb8⟩
          · intro t ht
            rw [List.mem_singleton.1 ht]
            exact hrt.out
          · rw [look_put]
            by_cases ht : ((0, 0) : St) = t
            · rw [if_pos ht, ← ht]
              simp
            · rw [if_neg ht]
              have : ¬ t = (0, 0) := fun q => ht q.symm
              simp [lookL, this]
        case round =>
          obtain ⟨F, SF, q, rfl, hgp, hqF, hF, hS, hSl, hown, hBq⟩ := hrel
          obtain ⟨wq, hwq⟩ : ∃ x, x = wr := ⟨_, rfl⟩
          subst hwq
          obtain ⟨gp, hgpe⟩ : ∃ x, x = gk := ⟨_, rfl⟩
          subst hgpe
          clear HM7 HO7 hb8
          have hFn : F.length ≤ N.length := found_few hF.out.1 hF.out.2.1
          have hFl : F.length ≤ 1000 := by omega
          obtain ⟨Af, cf, rfl, hin, _⟩ := sts_own rfl hown
          by_cases hlt : q < F.length
          · obtain ⟨g, o, rfl, hg, hrowF⟩ := hin.row (by omega)
            obtain ⟨f0, f1⟩ := hrowF q hlt
            have HFq : Hid (F[q] ∈ F) := List.getElem_mem hlt
            have hcl := hF.out.2.2.2
            have hnext : Hid (∀ F' : List St, F <+: F' → (∀ t ∈ belowL N E F[q], t ∈ F') → ∀ j (hj : j < F'.length), j < q + 1 → ∀ t ∈ belowL N E F'[j], t ∈ F') := fun F' hp hl j hj hjq t ht => by
              obtain ⟨G, rfl⟩ := hp
              have hjF : j < F.length := by omega
              rw [List.getElem_append_left hjF] at ht
              by_cases hjq2 : j < q
              · exact List.mem_append_left _ (hcl j hjF hjq2 t ht)
              · obtain rfl : j = q := by omega
                exact hl t ht
            clear hcl hrowF hin
            generalize F[q] = p at f0 f1 HFq hnext
            obtain ⟨Ab, cb, hv, hinL⟩ := HRow.out p
            have hlk : (Instr.lookup 58 (.map (some z)) (.agg #[.int .i64 p.1, .int .i64 p.2]) false).run Try.prog wq = .ok (.slice Ab (belowL N E p).length cb) wq := by
              have hl := (HIE.out.map.kept (hBq.out.block _ hzr)).look stShape Try.underlying58 (zeroSl wq) p false
              rw [if_neg (by decide), show ((lookL M p).map slV).getD (slV (.slice none 0 0)) = valM M p by unfold valM; cases lookL M p <;> rfl, hv] at hl
              exact hl
            have HRL : Hid (∀ t ∈ belowL N E p, Reached N E t) := fun t ht => belowL_reached (hF.out.2.1 p HFq.out) ht
            have hLl : (belowL N E p).length ≤ 1000 := by have := belowL_len N E p; omega
            generalize belowL N E p = L at hlk HRL hLl hinL hnext
            have HIL := Lib.hid hinL
            clear hv hinL HFq
            go_wp2_with fail
            clear hlk f0 f1
            go_loopg [6, 65] (L.length + 1) (fun gl v i wi => ∃ (F' : List St) (SF' : List (St × Unit)) (j : Nat), i = .int .i64 (j : Int) ∧ gl + j = L.length + 1 ∧ j ≤ L.length ∧
              Hid (F'.Nodup ∧ (∀ t ∈ F', Reached N E t) ∧ F <+: F' ∧ ∀ t ∈ L.take j, t ∈ F') ∧ Hid (KMap stV unV wi (u + 1) SF') ∧ Hid (∀ t, (lookL SF' t).isSome = decide (t ∈ F')) ∧
              wi.ownsRow wb.heap.size 29 2 v F'.length (flat (F'.map stA)) ∧ Hid (Below wb.heap.size wb wi))
            case atStart => exact ⟨F, SF, 0, rfl, by omega, by omega, ⟨hF.out.1, hF.out.2.1, List.prefix_refl _, fun t ht => by cases ht⟩, hS, hSl, hown, hBq⟩
            case round =>
              obtain ⟨F', SF', j, rfl, hgl, hj, hF', hS', hSl', hown', hBi⟩ := hrel
              have hFl' : F'.length ≤ 1000 := by
                have := found_few hF'.out.1 hF'.out.2.1
                omega
              by_cases hjl : j < L.length
              · obtain ⟨ga, oa, rfl, hga, hrowL⟩ := HIL.out.row (by omega)
                obtain ⟨r0, r1⟩ := (hrowL j hjl).below hBi.out hga
                have hRt := HRL.out L[j] (List.getElem_mem hjl)
                have htk : ∀ t, t ∈ L.take (j + 1) → t ∈ L.take j ∨ t = L[j] := fun t => take_mem hjl
                clear hrowL
                generalize L[j] = t at r0 r1 hRt htk
                have HRt := Lib.hid hRt
                have HTk := Lib.hid htk
                have hin' := hSl'.out t
                obtain ⟨b, hb⟩ : ∃ b, b = decide (t ∈ F') := ⟨_, rfl⟩
                rw [← hb] at hin'
                have HBd := Lib.hid hb
                clear hRt htk hb
                obtain ⟨t1, t2⟩ := t
                dsimp only at r0 r1
                go_upto_region 18 with fail
                change Code.wp _ _ _ _ (wr.alloc (.cells (stA (t1, t2)) 29))
                obtain ⟨x, hx⟩ : ∃ x, x = wr.heap.size := ⟨_, rfl⟩
                have hx8 : (wr.alloc (.cells (stA (t1, t2)) 29)).heap[x]? = some (.cells (stA (t1, t2)) 29 (0, 0)) := by rw [hx]; exact heap_alloc_new _ _
                have hbA : Below wr.heap.size wr (wr.alloc (.cells (stA (t1, t2)) 29)) := (Below.refl _ _).alloc (Nat.le_refl _) _
                rw [← hx]
                generalize wr.alloc (.cells (stA (t1, t2)) 29) = w8 at hx8 hbA ⊢
                have hm8 := hS'.out.kept (hbA.block _ hS'.out.lt)
                have ho8 := own_call hown' hbA
                have hb8 := hBi.out.trans (hbA.mono hBi.out.size)
                have hl := hm8.look stShape Try.underlying60 (zeroUn w8) (t1, t2) true
                rw [if_pos rfl, show ((lookL SF' (t1, t2)).map unV).getD (unV ()) = .agg #[] by cases lookL SF' (t1, t2) <;> rfl, hin'] at hl
                simp only [stV, stA] at hl
                have HM8 := Lib.hid hm8
                have HB8 := Lib.hid hb8
                obtain ⟨c0, c1⟩ := two_cells hx8
                clear hS' hown' hBi hbA hx hm8 hb8 r0 r1 hin'
                cases b with
                | true =>
                  go_wp2_with fail
                  go_roundg (gk - 1)
                  case measure => omega
                  case rel =>
                    have hin2 : (t1, t2) ∈ F' := of_decide_eq_true HBd.out.symm
                    refine ⟨F', SF', j + 1, by go_num, by omega, by omega, ⟨hF'.out.1, hF'.out.2.1, hF'.out.2.2.1, fun t ht => ?_⟩, HM8.out.kept (heap_alloc_old _ _ HM8.out.lt), hSl', ho8.alloc _, HB8.out.alloc HB8.out.size _⟩
                    rcases HTk.out t ht with h | h
                    · exact hF'.out.2.2.2 t h
                    · rw [h]; exact hin2
                | false =>
                  go_upto_region 19 with fail
                  have hbA : Below w8.heap.size w8 (w8.alloc (.cells #[] 59)) := (Below.refl _ _).alloc (Nat.le_refl _) _
                  have hx9 := (hbA.block _ (heap_lt hx8)).trans hx8
                  have hm9 := HM8.out.kept (hbA.block _ HM8.out.lt)
                  have ho9 := own_call ho8 hbA
                  have hb9 := HB8.out.trans (hbA.mono HB8.out.size)
                  generalize w8.alloc (.cells #[] 59) = w9 at hx9 hm9 ho9 hb9 ⊢
                  clear hl c0 c1 hx8 ho8 hbA HM8 HB8
                  obtain ⟨w10, hrun, hm10, hbut, hsz⟩ := hm9.store stShape Try.underlying60 (t1, t2) ()
                  simp only [stV, stA, unV] at hrun
                  have hxu : x ≠ u + 1 := fun q => by
                    obtain ⟨es, cl, M', q1, _⟩ := hm9
                    rw [← q, hx9] at q1
                    cases q1
                  have hx10 := hbut.heap hx9 hxu
                  have ho10 := own_off ho9 hbut (own_no_map ho9 hm9)
                  have hb10 := hb9.trans (hbut.below (fun i hi => by omega) hb9.size)
                  have hno := own_no_map ho10 hm10
                  have hmlt := hm10.lt
                  obtain ⟨c0, c1⟩ := two_cells hx9
                  obtain ⟨d0, d1⟩ := two_cells hx10
                  have HM10 := Lib.hid hm10
                  have HB10 := Lib.hid hb10
                  have hs10 := hb10.size
                  have hm1 : F'.length + 1 ≤ maxLen := by unfold maxLen; omega
                  clear hm9 ho9 hb9 hbut hsz hm10 hb10 hx9 hx10
                  go_wp2_with (at_builtin; refine wpList_append_own _ (by rfl) (.tmp 80) (.tmp 82) 34 (by rfl) wb.heap.size 29 i0 _ 2 16 Try.underlying34 hi0 hz0 hz1 hz2 (by rfl) (by decide) _ _ _ (by rfl) (ho10.alloc _) ⟨w10.heap.size, 0, none⟩ 1 1 (stA (t1, t2)).toList (by rfl) (by rfl) (row_there w10 29 (stA (t1, t2))) (st_one2 _) hm1 (by omega) (by simp; omega) ?_; intro v2 w11 hown11 hg11 _)
                  have hown12 : w11.ownsRow wb.heap.size 29 2 v2 (F' ++ [(t1, t2)]).length (flat ((F' ++ [(t1, t2)]).map stA)) := by
                    rw [List.length_append, ← flat_st]
                    exact hown11
                  have hsA : (w10.alloc (.cells #[.int .i64 t1, .int .i64 t2] 29)).heap.size = w10.heap.size + 1 := by simp
                  have hmk : w11.heap[u + 1]? = w10.heap[u + 1]? := (hg11.block (u + 1) (by omega) (fun q => hno _ q.symm rfl)).trans (heap_alloc_old _ _ hmlt)
                  have hm11 := Lib.hid (HM10.out.kept hmk)
                  have hBA := HB10.out.alloc HB10.out.size (.cells #[.int .i64 t1, .int .i64 t2] 29)
                  have hb11 := Lib.hid (hBA.grown hg11 hBA.size (fun q hq => by have := ((ho10.alloc (.cells #[.int .i64 t1, .int .i64 t2] 29)).lt q hq).1; omega))
                  have hno2 : Hid ((t1, t2) ∉ F') := of_decide_eq_false HBd.out.symm
                  clear hown11 hg11 ho10 hrun c0 c1 d0 d1 hno hBA
                  go_roundg (gk - 1)
                  case measure => omega
                  case rel =>
                    refine ⟨F' ++ [(t1, t2)], _, j + 1, by go_num, by omega, by omega, ⟨?_, fun t ht => ?_, hF'.out.2.2.1.trans (List.prefix_append _ _), fun t ht => ?_⟩, hm11, fun t => ?_, hown12, hb11⟩
                    · exact List.nodup_append.2 ⟨hF'.out.1, by simp, fun a ha b hb q => hno2.out (by rw [← List.mem_singleton.1 hb, ← q]; exact ha)⟩
                    · rcases List.mem_append.1 ht with h | h
                      · exact hF'.out.2.1 t h
                      · rw [List.mem_singleton.1 h]; exact HRt.out
                    · rcases HTk.out t ht with h | h
                      · exact List.mem_append_left _ (hF'.out.2.2.2 t h)
                      · rw [h]; simp
                    · rw [look_put]
                      by_cases ht : ((t1, t2) : St) = t
                      · rw [if_pos ht, ← ht]
                        simp
                      · rw [if_neg ht, hSl'.out t]
                        have : ¬ t = (t1, t2) := fun q => ht q.symm
                        simp [this]
              · go_wp2_with fail
                have hpl := hF'.out.2.2.1.length_le
                go_roundg (gp - 1)
                case measure => omega
                case rel =>
                  refine ⟨F', SF', q + 1, by go_num, by omega, by omega, ⟨hF'.out.1, hF'.out.2.1, hF'.out.2.2.1.subset hF.out.2.2.1, hnext.out F' hF'.out.2.2.1 fun t ht => hF'.out.2.2.2 t ?_⟩, hS', hSl', hown', hBi⟩
                  rw [List.take_of_length_le (by omega)]
                  exact ht
          · go_wp2_with fail
            go_ret
            refine ⟨_, F, rfl, hF.out.1, fun t => ⟨hF.out.2.1 t, fun hr => reached_closed hF.out.2.2.1 (fun s hs t ht => ?_) hr⟩, own_lower hown hB.out.size, hB.out.trans (hBq.out.mono hB.out.size)⟩
            obtain ⟨j, hj, rfl⟩ := List.getElem_of_mem hs
            exact hF.out.2.2.2 j hj (by omega) t ht

end Go.Proofs.Ytoobmkkmomiigaa
