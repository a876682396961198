/-
  The landed graph's sorted (made by gen_graphsorted.py), at each of the closures that come to it; List, Entries.
-/
import Derived.Test.YthobfeohgeeofaaZ13
import Derived.Test.YthobfeohgeeofaaZ14
import Derived.Test.YthobfeohgeeofaaZ14
import Derived.Test.YthobfeohgeeofaaZ14
import Derived.Test.YthobfeohgeeofaaZ04
import Derived.Deep.Cut
namespace Go.Proofs.Ythobfeohgeeofaa
open Go.RowKit StampMath GraphMath

def entOf (p : (St × ByteArray) × St) : Ent := ⟨p.1.1, p.1.2, p.2⟩

/-- Has the call made the block r, and the blocks from base on alone? -/
theorem own_iter {w w' : World} {base r : Nat} {e : TypeId} {k : Nat} {v : Value} {n : Nat} {xs : List Value} (h : w.ownsRow base e k v n xs) (hb : But (fun i => i = r) w w') (hr : r < base) : w'.ownsRow base e k v n xs :=
  h.kept (row := some r) ⟨hb.os, hb.tape, hb.output, hb.size, fun i hi hn => hb.block i hi fun q => hn (by rw [q])⟩ (by
    cases hv : v.ownBlock with
    | none => exact .inl rfl
    | some j => exact .inr (fun q => by have := (h.lt j hv).1; injection q with q; omega))

/-- A call that leaves all that was there leaves the row. -/
theorem own_call {w w' : World} {base : Nat} {e : TypeId} {k : Nat} {v : Value} {n : Nat} {xs : List Value} (h : w.ownsRow base e k v n xs) (hb : Below w.heap.size w w') : w'.ownsRow base e k v n xs :=
  h.kept (row := none) ⟨hb.os, hb.tape, hb.output, hb.size, fun i hi _ => hb.block i hi⟩ (by
    cases hv : v.ownBlock with
    | none => exact .inl rfl
    | some j => exact .inr (fun q => by cases q))

theorem own_lower {w : World} {b b' : Nat} {e : TypeId} {k : Nat} {v : Value} {n : Nat} {xs : List Value} (h : w.ownsRow b e k v n xs) (hb : b' ≤ b) : w.ownsRow b' e k v n xs := by
  obtain ⟨h0, h1 | ⟨g, cap, cur, h1, h2, h3⟩⟩ := h
  · exact ⟨h0, Or.inl h1⟩
  · exact ⟨h0, Or.inr ⟨g, cap, cur, h1, Nat.le_trans hb h2, h3⟩⟩

set_option maxRecDepth 100000 in
theorem listClo (d e : St) (b : Nat) (W : World) (hb : W.heap[b]? = some (.cells #[.int .i64 d.1, .int .i64 d.2] 24 (0, 0))) :
    Calls Try.prog 41 #[.agg #[.int .i64 e.1, .int .i64 e.2], .pointer (some ⟨b, 0, none⟩)] W fun x W' => x = .returned (.bool (decide (e = d))) ∧ Below W.heap.size W W' := by
  obtain ⟨c0, c1⟩ := two_cells hb
  have hl := heap_lt hb
  by_cases hq : e = d
  · have hv := eqSt_yes hq
    rw [decide_eq_true hq]
    clear hq
    go_enter Try.func41, Try.ntmps41
    go_wp2_with fail
    go_ret
    exact ⟨rfl, (Below.refl _ _).alloc (Nat.le_refl _) _⟩
  · have hv := eqSt_no hq
    rw [decide_eq_false hq]
    clear hq
    go_enter Try.func41, Try.ntmps41
    go_wp2_with fail
    go_ret
    exact ⟨rfl, (Below.refl _ _).alloc (Nat.le_refl _) _⟩

theorem allClo (e : St) (W : World) :
    Calls Try.prog 42 #[.agg #[.int .i64 e.1, .int .i64 e.2]] W fun x W' => x = .returned (.bool true) ∧ Below W.heap.size W W' := by
  go_enter Try.func42, Try.ntmps42
  go_wp2_with fail
  go_ret
  exact ⟨rfl, (Below.refl _ _).alloc (Nat.le_refl _) _⟩

set_option maxRecDepth 100000 in
set_option maxHeartbeats 1600000 in
theorem sortedList_code (a : Addr) (S : Nat → Prop) (g : Gr) (d : St) (bc : Nat) (q : St → Bool) (hq : ∀ x, q x = decide (x = d)) (w : World) (h : GIn w S a g) (hg : g.ok) (hc : w.heap[bc]? = some (.cells #[.int .i64 d.1, .int .i64 d.2] 24 (0, 0))) :
    Calls Try.prog 40 #[.pointer (some a), .func (.func 41) #[] #[.pointer (some ⟨bc, 0, none⟩)]] w (EntsNew (g.E.filter fun e => q e.dir) w) := by
  have HC : Hid (∀ (e : St) (W : World), Below w.heap.size w W → Calls Try.prog 41 #[.agg #[.int .i64 e.1, .int .i64 e.2], .pointer (some ⟨bc, 0, none⟩)] W fun x W' => x = .returned (.bool (q e)) ∧ Below W.heap.size W W') := fun e W hW => by rw [hq]; exact listClo d e bc W ((hW.block bc (heap_lt hc)).trans hc)
  clear hq hc
  obtain ⟨b, bi, be, rfl, h1, h2, h3, hb, hi, he, hS⟩ := h
  obtain ⟨c0, c1⟩ := two_cells hb
  obtain ⟨i0, hi0, hz0, hz1, hz2⟩ := info_parts ent_infos
  have HE := Lib.hid he
  have hlt := heap_lt hb
  have hltE := he.lt
  clear hi he hb hS
  have hlen : Hid ((pairsE g).length ≤ 1000) := by
    show (pairsE g).length ≤ 1000
    unfold pairsE
    rw [List.length_map]
    exact Nat.le_trans hg.entsFew (by decide)
  have hgE := Lib.hid (hg.sortE.filter fun e => q e.dir)
  go_enter Try.func40, Try.ntmps40
  go_wp2_with (at_range; refine wpList_k_range (by rfl) _ _ (by rfl) Try.underlying71 be _ (by rfl) HE.out ?_; intro w1 HR1 HB1 HS1)
  go_frame
  go_loopg [5] ((pairsE g).length + 1) (fun gk l wr => ∃ (done todo : List ((St × ByteArray) × St)), gk = todo.length + 1 ∧ Hid (KRange plV stV wr be w.heap.size (pairsE g) todo) ∧ Hid ((done ++ todo).Perm (pairsE g)) ∧ wr.ownsRow (w.heap.size + 1) 26 5 l ((done.map entOf).filter fun e => q e.dir).length (flat (((done.map entOf).filter fun e => q e.dir).map entA)) ∧ Hid (Below w.heap.size w wr) ∧ w.heap.size + 1 ≤ wr.heap.size)
  case atStart => exact ⟨[], pairsE g, rfl, HR1, List.Perm.refl _, World.ownsRow_nil _ _ _ _, HB1, by rw [HS1.out]; omega⟩
  case round =>
    obtain ⟨done, todo, rfl, hR, hP, hown, hB, hs1⟩ := hrel
    clear HR1 HB1 HS1
    go_wp2_with (refine wpList_k_next (by rfl) _ (by rfl) be w.heap.size _ _ (by rfl) hR.out ?_ ?_)
    · intro h0
      have hdone : ((done.map entOf).filter fun e => q e.dir).Perm (g.E.filter fun e => q e.dir) := by
        refine List.Perm.filter _ ?_
        have h5 := hP.out
        rw [h0, List.append_nil] at h5
        have h6 := h5.map entOf
        unfold pairsE at h6
        rwa [List.map_map, show entOf ∘ (fun e : Ent => ((e.dir, e.name), e.ino)) = id from rfl, List.map_id] at h6
      have h1000 : ((done.map entOf).filter fun e => q e.dir).length < 4611686018427387904 := by
        have h5 := hlen.out
        have h6 := hP.out.length_eq
        have h7 := List.length_filter_le (fun e : Ent => q e.dir) (done.map entOf)
        simp only [List.length_append, List.length_map] at h6 h7
        omega
      generalize ((done.map entOf).filter fun e => q e.dir) = fs at hdone h1000 hown ⊢
      have HD := Lib.hid hdone
      clear hdone
      have hs := sort_own (w := wr) Try.sortEnt 5 Try.isAgg26 Try.sizeOf26 entA (fun _ => rfl) ent_one aheadI swo_ents 57 #[] (enters_of Try.func57 (by kernel_rfl) rfl)
        (fun W x y => (ahead_grown x y W).mono fun _ _ h => ⟨h.1, h.2.grow⟩) (by simp) hown h1000
      change Calls Try.prog 56 _ _ _ at hs
      have hrow := hown.lt
      clear hown
      have HS := Lib.hid hs
      clear hs
      go_wp2_with fail
      refine (HS.out).mono ?_
      rintro e w2 ⟨rfl, ys, hp, hsd, hown2, hbut⟩
      have hys : ys = g.E.filter fun e => q e.dir := sorted_ents hgE.out (hp.trans HD.out) hsd
      have hl : fs.length = (g.E.filter fun e => q e.dir).length := HD.out.length_eq
      rw [hys, hl] at hown2
      clear hp hsd hys
      go_wp2_with fail
      go_ret
      refine ⟨_, rfl, ?_, ?_⟩
      · exact own_lower hown2 (Nat.le_succ _)
      · exact hB.out.trans (hbut.below (fun i hi => Nat.le_of_succ_le (hrow i hi).1) (by omega))
    · intro t r nm t' r' todo' w2 hp hR2 hB2 hs2 hen
      simp only [plV, stV, stA] at hen ⊢
      have hown2 := own_iter hown hB2.out (by omega)
      have h1000 : ((done.map entOf).filter fun e => q e.dir).length ≤ 1000 := by
        have h5 := hlen.out
        have h6 := hP.out.length_eq
        have h7 := List.length_filter_le (fun e : Ent => q e.dir) (done.map entOf)
        simp only [List.length_append, List.length_map] at h6 h7
        omega
      have hfs : ∀ b : Bool, q (t, r) = b → ((done ++ [(((t, r), nm), (t', r'))]).map entOf).filter (fun e => q e.dir) = ((done.map entOf).filter fun e => q e.dir) ++ (if b = true then [⟨(t, r), nm, (t', r')⟩] else []) := by
        intro b hb
        rw [List.map_append, List.filter_append]
        congr 1
        simp only [List.map_cons, List.map_nil, entOf, List.filter_cons, List.filter_nil, hb]
      have HF := Lib.hid hfs
      clear hfs
      have e2 : Below w.heap.size wr w2 := hB2.out.below (fun i hi => by omega) (by omega)
      have hb2 := hB.out.trans e2
      have hP2 : Hid ((done ++ [(((t, r), nm), (t', r'))] ++ todo').Perm (pairsE g)) := by
        have e1 : (done ++ todo).Perm (done ++ ((((t, r), nm), (t', r')) :: todo')) := hp.out.append_left _
        show (done ++ [(((t, r), nm), (t', r'))] ++ todo').Perm _
        rw [List.append_assoc]
        exact e1.symm.trans hP.out
      have hlen2 := hp.out.length_eq
      simp only [List.length_cons] at hlen2
      generalize ((done.map entOf).filter fun e => q e.dir) = fs at hown2 h1000 HF
      have hm : fs.length + 1 ≤ maxLen := by unfold maxLen; omega
      have hs2' : w.heap.size + 1 ≤ w2.heap.size := by rw [hs2.out]; exact hs1
      clear hown hB hB2 hs2 hP hp hR e2
      go_upto_region 7 with fail
      obtain ⟨z, hz⟩ : ∃ z, z = w2.heap.size := ⟨_, rfl⟩
      have k0 : ((w2.alloc (.cells #[.int .i64 t, .int .i64 r, .string nm] 82)).alloc (.cells #[.int .i64 t', .int .i64 r'] 24)).heap[z]? = some (.cells #[.int .i64 t, .int .i64 r, .string nm] 82 (0, 0)) := by rw [hz]; exact heap_alloc2_old w2 _ _
      have k1 : ((w2.alloc (.cells #[.int .i64 t, .int .i64 r, .string nm] 82)).alloc (.cells #[.int .i64 t', .int .i64 r'] 24)).heap[z + 1]? = some (.cells #[.int .i64 t', .int .i64 r'] 24 (0, 0)) := by rw [hz]; exact heap_alloc2_new w2 _ _
      have hbA : Below w2.heap.size w2 ((w2.alloc (.cells #[.int .i64 t, .int .i64 r, .string nm] 82)).alloc (.cells #[.int .i64 t', .int .i64 r'] 24)) := ((Below.refl _ _).alloc (Nat.le_refl _) _).alloc (by simp) _
      rw [← hz]
      generalize ((w2.alloc (.cells #[.int .i64 t, .int .i64 r, .string nm] 82)).alloc (.cells #[.int .i64 t', .int .i64 r'] 24)) = w3 at k0 k1 hbA ⊢
      have hz3 := hbA.size
      have hown3 := own_call hown2 hbA
      have hR3 := hR2.out.kept (hbA.block _ (by omega)) (hbA.block _ (by omega))
      have hb3 := below_step hb2 hbA
      clear hown2 hR2 hb2 hbA hen hz
      have x0 := cell_of_row _ _ 0 _ _ (0, 0) k0
      have x1 := cell_of_row _ _ 1 _ _ (0, 0) k0
      go_wp2_with fail
      refine (HC.out (t, r) w3 hb3).mono ?_
      rintro e w4 ⟨rfl, hb4⟩
      have l0 := (hb4.block _ (heap_lt k0)).trans k0
      have l1 := (hb4.block _ (heap_lt k1)).trans k1
      have hz4 := hb4.size
      have hown4 := own_call hown3 hb4
      have hR4 := hR3.kept (hb4.block _ (by omega)) (hb4.block _ (by omega))
      have hb5 := below_step hb3 hb4
      have HR4 := Lib.hid hR4
      have HB5 := Lib.hid hb5
      have HL0 := Lib.hid l0
      clear hown3 hR3 hb3 hb4 x0 x1 k0 k1 hR4 hb5
      obtain ⟨qb, hqb⟩ : ∃ qb, qb = q (t, r) := ⟨_, rfl⟩
      have hF := HF.out qb hqb.symm
      rw [← hqb]
      clear hqb HF
      cases qb with
      | false =>
        rw [if_neg (by decide), List.append_nil] at hF
        have HF := Lib.hid hF
        clear hF
        go_wp2_with fail
        go_roundg (todo'.length + 1)
        case measure => omega
        case rel => exact ⟨done ++ [(((t, r), nm), (t', r'))], todo', rfl, HR4.out, hP2.out, by rw [HF.out]; exact hown4, HB5.out, by omega⟩
      | true =>
        rw [if_pos rfl] at hF
        have HF := Lib.hid hF
        clear hF
        have x0 := cell_of_row _ _ 0 _ _ (0, 0) HL0.out
        have x1 := cell_of_row _ _ 1 _ _ (0, 0) HL0.out
        have x2 := cell_of_row _ _ 2 _ _ (0, 0) HL0.out
        obtain ⟨y0, y1⟩ := two_cells l1
        have HW := Lib.hid (row_there w4 26 (entA ⟨(t, r), nm, (t', r')⟩))
        go_wp2_with (at_builtin; refine wpList_append_own _ rfl (.tmp 24) (.tmp 31) 31 rfl (w.heap.size + 1) 26 i0 _ 5 48 Try.underlying31 hi0 hz0 hz1 hz2 rfl (by decide) _ _ _ rfl (hown4.alloc _) ⟨w4.heap.size, 0, none⟩ 1 1 (entA ⟨(t, r), nm, (t', r')⟩).toList rfl rfl HW.out (ent_one _) hm (by omega) (by simp; omega) ?_; intro v2 w5 hown5 hg5 _)
        have hbw : Below (w.heap.size + 1) w4 w5 := (((Below.refl w4.heap.size w4).alloc (Nat.le_refl _) _).mono (by omega)).grown hg5 (by simp; omega) (fun j hj => (hown4.lt j hj).1)
        go_roundg (todo'.length + 1)
        case measure => omega
        case rel =>
          refine ⟨done ++ [(((t, r), nm), (t', r'))], todo', rfl, HR4.out.kept (hbw.block _ (by omega)) (hbw.block _ (by omega)), hP2.out, ?_, HB5.out.trans (hbw.mono (by omega)), by have := hbw.size; omega⟩
          rw [HF.out, List.length_append]
          show w5.ownsRow _ _ 5 v2 (fs.length + 1) _
          rw [← flat_ent]
          exact hown5

set_option maxRecDepth 100000 in
set_option maxHeartbeats 1600000 in
theorem sortedAll_code (a : Addr) (S : Nat → Prop) (g : Gr) (q : St → Bool) (hq : ∀ x, q x = true) (w : World) (h : GIn w S a g) (hg : g.ok) :
    Calls Try.prog 40 #[.pointer (some a), .func (.func 42) #[] #[]] w (EntsNew (g.E.filter fun e => q e.dir) w) := by
  have HC : Hid (∀ (e : St) (W : World), Below w.heap.size w W → Calls Try.prog 42 #[.agg #[.int .i64 e.1, .int .i64 e.2]] W fun x W' => x = .returned (.bool (q e)) ∧ Below W.heap.size W W') := fun e W hW => by rw [hq]; exact allClo e W
  clear hq
  obtain ⟨b, bi, be, rfl, h1, h2, h3, hb, hi, he, hS⟩ := h
  obtain ⟨c0, c1⟩ := two_cells hb
  obtain ⟨i0, hi0, hz0, hz1, hz2⟩ := info_parts ent_infos
  have HE := Lib.hid he
  have hlt := heap_lt hb
  have hltE := he.lt
  clear hi he hb hS
  have hlen : Hid ((pairsE g).length ≤ 1000) := by
    show (pairsE g).length ≤ 1000
    unfold pairsE
    rw [List.length_map]
    exact Nat.le_trans hg.entsFew (by decide)
  have hgE := Lib.hid (hg.sortE.filter fun e => q e.dir)
  go_enter Try.func40, Try.ntmps40
  go_wp2_with (at_range; refine wpList_k_range (by rfl) _ _ (by rfl) Try.underlying71 be _ (by rfl) HE.out ?_; intro w1 HR1 HB1 HS1)
  go_frame
  go_loopg [5] ((pairsE g).length + 1) (fun gk l wr => ∃ (done todo : List ((St × ByteArray) × St)), gk = todo.length + 1 ∧ Hid (KRange plV stV wr be w.heap.size (pairsE g) todo) ∧ Hid ((done ++ todo).Perm (pairsE g)) ∧ wr.ownsRow (w.heap.size + 1) 26 5 l ((done.map entOf).filter fun e => q e.dir).length (flat (((done.map entOf).filter fun e => q e.dir).map entA)) ∧ Hid (Below w.heap.size w wr) ∧ w.heap.size + 1 ≤ wr.heap.size)
  case atStart => exact ⟨[], pairsE g, rfl, HR1, List.Perm.refl _, World.ownsRow_nil _ _ _ _, HB1, by rw [HS1.out]; omega⟩
  case round =>
    obtain ⟨done, todo, rfl, hR, hP, hown, hB, hs1⟩ := hrel
    clear HR1 HB1 HS1
    go_wp2_with (refine wpList_k_next (by rfl) _ (by rfl) be w.heap.size _ _ (by rfl) hR.out ?_ ?_)
    · intro h0
      have hdone : ((done.map entOf).filter fun e => q e.dir).Perm (g.E.filter fun e => q e.dir) := by
        refine List.Perm.filter _ ?_
        have h5 := hP.out
        rw [h0, List.append_nil] at h5
        have h6 := h5.map entOf
        unfold pairsE at h6
        rwa [List.map_map, show entOf ∘ (fun e : Ent => ((e.dir, e.name), e.ino)) = id from rfl, List.map_id] at h6
      have h1000 : ((done.map entOf).filter fun e => q e.dir).length < 4611686018427387904 := by
        have h5 := hlen.out
        have h6 := hP.out.length_eq
        have h7 := List.length_filter_le (fun e : Ent => q e.dir) (done.map entOf)
        simp only [List.length_append, List.length_map] at h6 h7
        omega
      generalize ((done.map entOf).filter fun e => q e.dir) = fs at hdone h1000 hown ⊢
      have HD := Lib.hid hdone
      clear hdone
      have hs := sort_own (w := wr) Try.sortEnt 5 Try.isAgg26 Try.sizeOf26 entA (fun _ => rfl) ent_one aheadI swo_ents 57 #[] (enters_of Try.func57 (by kernel_rfl) rfl)
        (fun W x y => (ahead_grown x y W).mono fun _ _ h => ⟨h.1, h.2.grow⟩) (by simp) hown h1000
      change Calls Try.prog 56 _ _ _ at hs
      have hrow := hown.lt
      clear hown
      have HS := Lib.hid hs
      clear hs
      go_wp2_with fail
      refine (HS.out).mono ?_
      rintro e w2 ⟨rfl, ys, hp, hsd, hown2, hbut⟩
      have hys : ys = g.E.filter fun e => q e.dir := sorted_ents hgE.out (hp.trans HD.out) hsd
      have hl : fs.length = (g.E.filter fun e => q e.dir).length := HD.out.length_eq
      rw [hys, hl] at hown2
      clear hp hsd hys
      go_wp2_with fail
      go_ret
      refine ⟨_, rfl, ?_, ?_⟩
      · exact own_lower hown2 (Nat.le_succ _)
      · exact hB.out.trans (hbut.below (fun i hi => Nat.le_of_succ_le (hrow i hi).1) (by omega))
    · intro t r nm t' r' todo' w2 hp hR2 hB2 hs2 hen
      simp only [plV, stV, stA] at hen ⊢
      have hown2 := own_iter hown hB2.out (by omega)
      have h1000 : ((done.map entOf).filter fun e => q e.dir).length ≤ 1000 := by
        have h5 := hlen.out
        have h6 := hP.out.length_eq
        have h7 := List.length_filter_le (fun e : Ent => q e.dir) (done.map entOf)
        simp only [List.length_append, List.length_map] at h6 h7
        omega
      have hfs : ∀ b : Bool, q (t, r) = b → ((done ++ [(((t, r), nm), (t', r'))]).map entOf).filter (fun e => q e.dir) = ((done.map entOf).filter fun e => q e.dir) ++ (if b = true then [⟨(t, r), nm, (t', r')⟩] else []) := by
        intro b hb
        rw [List.map_append, List.filter_append]
        congr 1
        simp only [List.map_cons, List.map_nil, entOf, List.filter_cons, List.filter_nil, hb]
      have HF := Lib.hid hfs
      clear hfs
      have e2 : Below w.heap.size wr w2 := hB2.out.below (fun i hi => by omega) (by omega)
      have hb2 := hB.out.trans e2
      have hP2 : Hid ((done ++ [(((t, r), nm), (t', r'))] ++ todo').Perm (pairsE g)) := by
        have e1 : (done ++ todo).Perm (done ++ ((((t, r), nm), (t', r')) :: todo')) := hp.out.append_left _
        show (done ++ [(((t, r), nm), (t', r'))] ++ todo').Perm _
        rw [List.append_assoc]
        exact e1.symm.trans hP.out
      have hlen2 := hp.out.length_eq
      simp only [List.length_cons] at hlen2
      generalize ((done.map entOf).filter fun e => q e.dir) = fs at hown2 h1000 HF
      have hm : fs.length + 1 ≤ maxLen := by unfold maxLen; omega
      have hs2' : w.heap.size + 1 ≤ w2.heap.size := by rw [hs2.out]; exact hs1
      clear hown hB hB2 hs2 hP hp hR e2
      go_upto_region 7 with fail
      obtain ⟨z, hz⟩ : ∃ z, z = w2.heap.size := ⟨_, rfl⟩
      have k0 : ((w2.alloc (.cells #[.int .i64 t, .int .i64 r, .string nm] 82)).alloc (.cells #[.int .i64 t', .int .i64 r'] 24)).heap[z]? = some (.cells #[.int .i64 t, .int .i64 r, .string nm] 82 (0, 0)) := by rw [hz]; exact heap_alloc2_old w2 _ _
      have k1 : ((w2.alloc (.cells #[.int .i64 t, .int .i64 r, .string nm] 82)).alloc (.cells #[.int .i64 t', .int .i64 r'] 24)).heap[z + 1]? = some (.cells #[.int .i64 t', .int .i64 r'] 24 (0, 0)) := by rw [hz]; exact heap_alloc2_new w2 _ _
      have hbA : Below w2.heap.size w2 ((w2.alloc (.cells #[.int .i64 t, .int .i64 r, .string nm] 82)).alloc (.cells #[.int .i64 t', .int .i64 r'] 24)) := ((Below.refl _ _).alloc (Nat.le_refl _) _).alloc (by simp) _
      rw [← hz]
      generalize ((w2.alloc (.cells #[.int .i64 t, .int .i64 r, .string nm] 82)).alloc (.cells #[.int .i64 t', .int .i64 r'] 24)) = w3 at k0 k1 hbA ⊢
      have hz3 := hbA.size
      have hown3 := own_call hown2 hbA
      have hR3 := hR2.out.kept (hbA.block _ (by omega)) (hbA.block _ (by omega))
      have hb3 := below_step hb2 hbA
      clear hown2 hR2 hb2 hbA hen hz
      have x0 := cell_of_row _ _ 0 _ _ (0, 0) k0
      have x1 := cell_of_row _ _ 1 _ _ (0, 0) k0
      go_wp2_with fail
      refine (HC.out (t, r) w3 hb3).mono ?_
      rintro e w4 ⟨rfl, hb4⟩
      have l0 := (hb4.block _ (heap_lt k0)).trans k0
      have l1 := (hb4.block _ (heap_lt k1)).trans k1
      have hz4 := hb4.size
      have hown4 := own_call hown3 hb4
      have hR4 := hR3.kept (hb4.block _ (by omega)) (hb4.block _ (by omega))
      have hb5 := below_step hb3 hb4
      have HR4 := Lib.hid hR4
      have HB5 := Lib.hid hb5
      have HL0 := Lib.hid l0
      clear hown3 hR3 hb3 hb4 x0 x1 k0 k1 hR4 hb5
      obtain ⟨qb, hqb⟩ : ∃ qb, qb = q (t, r) := ⟨_, rfl⟩
      have hF := HF.out qb hqb.symm
      rw [← hqb]
      clear hqb HF
      cases qb with
      | false =>
        rw [if_neg (by decide), List.append_nil] at hF
        have HF := Lib.hid hF
        clear hF
        go_wp2_with fail
        go_roundg (todo'.length + 1)
        case measure => omega
        case rel => exact ⟨done ++ [(((t, r), nm), (t', r'))], todo', rfl, HR4.out, hP2.out, by rw [HF.out]; exact hown4, HB5.out, by omega⟩
      | true =>
        rw [if_pos rfl] at hF
        have HF := Lib.hid hF
        clear hF
        have x0 := cell_of_row _ _ 0 _ _ (0, 0) HL0.out
        have x1 := cell_of_row _ _ 1 _ _ (0, 0) HL0.out
        have x2 := cell_of_row _ _ 2 _ _ (0, 0) HL0.out
        obtain ⟨y0, y1⟩ := two_cells l1
        have HW := Lib.hid (row_there w4 26 (entA ⟨(t, r), nm, (t', r')⟩))
        go_wp2_with (at_builtin; refine wpList_append_own _ rfl (.tmp 24) (.tmp 31) 31 rfl (w.heap.size + 1) 26 i0 _ 5 48 Try.underlying31 hi0 hz0 hz1 hz2 rfl (by decide) _ _ _ rfl (hown4.alloc _) ⟨w4.heap.size, 0, none⟩ 1 1 (entA ⟨(t, r), nm, (t', r')⟩).toList rfl rfl HW.out (ent_one _) hm (by omega) (by simp; omega) ?_; intro v2 w5 hown5 hg5 _)
        have hbw : Below (w.heap.size + 1) w4 w5 := (((Below.refl w4.heap.size w4).alloc (Nat.le_refl _) _).mono (by omega)).grown hg5 (by simp; omega) (fun j hj => (hown4.lt j hj).1)
        go_roundg (todo'.length + 1)
        case measure => omega
        case rel =>
          refine ⟨done ++ [(((t, r), nm), (t', r'))], todo', rfl, HR4.out.kept (hbw.block _ (by omega)) (hbw.block _ (by omega)), hP2.out, ?_, HB5.out.trans (hbw.mono (by omega)), by have := hbw.size; omega⟩
          rw [HF.out, List.length_append]
          show w5.ownsRow _ _ 5 v2 (fs.length + 1) _
          rw [← flat_ent]
          exact hown5

set_option maxRecDepth 100000 in
theorem list_code (a : Addr) (S : Nat → Prop) (g : Gr) (id : St) (w : World) (h : GIn w S a g) (hg : g.ok) :
    Calls Try.prog 20 #[.pointer (some a), .agg (stA id)] w (EntsNew (listE g.E id) w) := by
  have hb0 : Below w.heap.size w (w.alloc (.cells #[.int .i64 id.1, .int .i64 id.2] 24)) := (Below.refl _ _).alloc (Nat.le_refl _) _
  have hs := sortedList_code a S g id w.heap.size (fun x => decide (x = id)) (fun _ => rfl) (w.alloc (.cells #[.int .i64 id.1, .int .i64 id.2] 24)) (h.keep fun i hi => hb0.block i (h.lt i hi)) hg (heap_alloc_new w _)
  have HS := Lib.hid hs
  clear h hs
  unfold stA
  go_enter Try.func20, Try.ntmps20
  go_wp2_with fail
  refine (HS.out).mono ?_
  rintro e w2 ⟨v, rfl, hown, hb⟩
  go_wp2_with fail
  go_ret
  exact ⟨v, rfl, own_lower hown hb0.size, below_step hb0 hb⟩

set_option maxRecDepth 100000 in
theorem entries_code (a : Addr) (S : Nat → Prop) (g : Gr) (w : World) (h : GIn w S a g) (hg : g.ok) :
    Calls Try.prog 24 #[.pointer (some a)] w (EntsNew g.E w) := by
  have hs := sortedAll_code a S g (fun _ => true) (fun _ => rfl) w h hg
  rw [show (g.E.filter fun e => (fun _ : St => true) e.dir) = g.E from List.filter_eq_self.2 fun _ _ => rfl] at hs
  have HS := Lib.hid hs
  clear h hs
  go_enter Try.func24, Try.ntmps24
  go_wp2_with fail
  refine (HS.out).mono ?_
  rintro e w2 ⟨v, rfl, hown, hb⟩
  go_wp2_with fail
  go_ret
  exact ⟨v, rfl, hown, hb⟩

end Go.Proofs.Ythobfeohgeeofaa
