/-
  The landed undo's alone: who is in one list alone, at each instance that the package makes of it; the numbers of inodes.
-/
import Derived.Test.YthcmgaibbpacfaaGreatDoorZ01
import Derived.Test.YthcmgaibbpacfaaGreatDoorZ01
import Derived.Test.YthcmgaibbpacfaaGreatDoorZ01
import Derived.Deep.LoopGhost
import Derived.Deep.DeepCutAuto
import Derived.Maps.Own
import Derived.Maps.OwnOps
import Derived.Test.YthcmgaibbpacfaaGreatDoorZ00
import Derived.Deep.Cut
namespace Go.Proofs.YthcmgaibbpacfaaGreatDoor
open Go.RowKit StampMath GraphMath

theorem st_infos2 : (Tryz.prog.info? 24).map (fun i => (i.zero, i.size, i.bytes)) = some (some (.agg #[.int .i64 0, .int .i64 0]), 2, 16) := by kernel_rfl
theorem st_one3 (x : St) : ∀ u ∈ (stA x).toList, u.oneCell' = true := by
  intro u hu
  simp [stA] at hu
  rcases hu with rfl | rfl <;> rfl
theorem flat_st3 (F : List St) (x : St) : flat (F.map stA) ++ (stA x).toList = flat ((F ++ [x]).map stA) := by simp [flat]

set_option maxRecDepth 100000 in
set_option maxHeartbeats 1600000 in
theorem aloneEn_code (A A' : Option Addr) (n c m d : Nat) (l o : List Ent) (hn : n ≤ 1000) (hm : m ≤ 1000) (w : World) (h : EntsIn w w.heap.size A n l) (h' : EntsIn w w.heap.size A' m o) :
    Calls Tryz.prog 28 #[.slice A n c, .slice A' m d, .func (.func 29) #[] #[]] w fun e w' => ∃ v, e = .returned v ∧ w'.ownsRow (w.heap.size + 1) 66 5 v (aloneL (fun e : Ent => e) l o).length (flat ((aloneL (fun e : Ent => e) l o).map entA)) ∧ Below w.heap.size w w' := by
  have hl := h.len
  have hl' := h'.len
  have HX := Lib.hid h
  have HY := Lib.hid h'
  obtain ⟨i0, hi0, hz0, hz1, hz2⟩ := info_parts ent_infos
  have hmk : ∀ W : World, (Instr.makeMap 117 none).run Tryz.prog W = .ok (.map (some W.heap.size)) (W.alloc (.map #[] 0)) := fun _ => rfl
  obtain ⟨z, hz⟩ : ∃ z, z = w.heap.size := ⟨_, rfl⟩
  have hm0 : KMap enV voidV (w.alloc (.map #[] 0)) z ([] : List (Ent × Unit)) := by rw [hz]; exact KMap.made w
  have hb0 : Below w.heap.size w (w.alloc (.map #[] 0)) := (Below.refl _ _).alloc (Nat.le_refl _) _
  clear h h'
  go_enter Tryz.func28, Tryz.ntmps28
  go_upto_region 2 with fail
  rw [← hz]
  have HZ := Lib.hid hz
  have HM0 := Lib.hid hm0
  have HB0 := Lib.hid hb0
  clear hmk hz hm0 hb0
  generalize w.alloc (.map #[] 0) = w1 at HM0 HB0 ⊢
  go_wp2_with fail
  go_loopg [18] (m + 1) (fun gk i wr => ∃ (k : Nat) (L : List (Ent × Unit)), i = .int .i64 (k : Int) ∧ gk + k = m + 1 ∧ k ≤ m ∧ Hid (KMap enV voidV wr z L) ∧ Hid (SeenK L ((o.take k).map (fun e : Ent => e))) ∧ Hid (Below w.heap.size w wr))
  case atStart => exact ⟨0, [], rfl, by omega, by omega, HM0, seen_nil, HB0⟩
  case round =>
    obtain ⟨k, L, rfl, hgk, hk, hM, hS, hB⟩ := hrel
    have HG := Lib.hid hgk
    clear hgk HM0 HB0
    by_cases hlt : k < m
    · obtain ⟨gi, ofs, rfl, hg, hrow⟩ := HY.out.row (by omega)
      have lk : k < o.length := by omega
      obtain ⟨e0, e1, e2, e3, e4⟩ := (hrow k lk).below hB.out hg
      have hsn := seen_snoc (f := fun e : Ent => e) lk hS.out
      obtain ⟨x, hx⟩ : ∃ x, o[k] = x := ⟨_, rfl⟩
      rw [hx] at e0 e1 e2 e3 e4 hsn
      have HSn := Lib.hid hsn
      clear hrow hx hsn lk
      have hi0' : (0 : Int) ≤ (k : Int) := by omega
      have hi1' : (k : Int) < (m : Int) := by omega
      go_wp2_with fail
      refine (whole_code x _).mono ?_
      rintro e w5 ⟨rfl, hb5⟩
      have hbA := below_step ((Below.refl wr.heap.size wr).alloc (Nat.le_refl _) (.cells (entA x) 66)) hb5
      have HM5 := Lib.hid (hM.out.kept (hbA.block _ hM.out.lt))
      have HB5 := Lib.hid (below_step hB.out hbA)
      clear e0 e1 e2 e3 e4 hM hS hB hb5 hbA
      go_wp2_with (refine wpList_k_store enShape (by rfl) (.tmp 22) (.tmp 25) (.tmp 26) _ (by rfl) Tryz.underlying117 z L (by rfl) HM5.out x (by rfl) () (by rfl) ?_; intro w6 HM6 HU6 _)
      have HB6 := Lib.hid (HB5.out.trans (HU6.out.below (fun i hi => by have := HZ.out; omega) HB5.out.size))
      go_roundg (gk - 1)
      case measure => have := HG.out; omega
      case rel => exact ⟨k + 1, _, by go_num, by have := HG.out; omega, by omega, HM6.out, HSn.out, HB6.out⟩
    · have hkm : k = m := by omega
      subst hkm
      have hS2 : Hid (SeenK L (o.map (fun e : Ent => e))) := by have := hS.out; rwa [List.take_of_length_le (by omega)] at this
      have hM2 := hM
      have hB2 := hB
      obtain ⟨w2, hw2⟩ : ∃ W, W = wr := ⟨_, rfl⟩
      rw [← hw2] at hM2 hB2 ⊢
      clear hw2 hM hS hB hlt
      go_wp2_with fail
      go_loopg [10, 30] (n + 1) (fun gq v i wq => ∃ (q : Nat), i = .int .i64 (q : Int) ∧ gq + q = n + 1 ∧ q ≤ n ∧ Hid (KMap enV voidV wq z L) ∧ wq.ownsRow (w.heap.size + 1) 66 5 v (aloneL (fun e : Ent => e) (l.take q) o).length (flat ((aloneL (fun e : Ent => e) (l.take q) o).map entA)) ∧ Hid (Below w.heap.size w wq))
      case atStart => exact ⟨0, rfl, by omega, by omega, hM2, World.ownsRow_nil _ _ _ _, hB2⟩
      case round =>
        obtain ⟨q, rfl, hgq, hq, hM, hown, hB⟩ := hrel
        have HG2 := Lib.hid hgq
        clear hgq hM2 hB2
        by_cases hlt : q < n
        · obtain ⟨gi, ofs, rfl, hg, hrow⟩ := HX.out.row (by omega)
          have lk : q < l.length := by omega
          obtain ⟨e0, e1, e2, e3, e4⟩ := (hrow q lk).below hB.out hg
          have hsn := alone_snoc (fun e : Ent => e) l o q lk
          have hle : (aloneL (fun e : Ent => e) (l.take q) o).length ≤ 1000 := by have := alone_le (fun e : Ent => e) (l.take q) o; rw [List.length_take] at this; omega
          obtain ⟨x, hx⟩ : ∃ x, l[q] = x := ⟨_, rfl⟩
          rw [hx] at e0 e1 e2 e3 e4 hsn
          have hlk : ∀ W : World, KMap enV voidV W z L → (Instr.lookup 117 (.map (some z)) (enV x) true).run Tryz.prog W = .ok (.tuple #[.agg #[], .bool (decide (x ∈ o.map (fun e : Ent => e)))]) W := fun W hW => by
            have := hW.look enShape Tryz.underlying117 (zeroVoid W) x true
            rw [if_pos rfl, hS2.out x, show ((lookL L x).map voidV).getD (voidV ()) = .agg #[] by cases lookL L x <;> rfl] at this
            first | exact this | (rw [this]; congr)
          have HLk := Lib.hid hlk
          obtain ⟨u, hu⟩ : ∃ u, u = wr.heap.size := ⟨_, rfl⟩
          have t4 := heap_alloc_new wr (.cells (entA x) 66)
          rw [← hu] at t4
          have hbA : Below wr.heap.size wr (wr.alloc (.cells (entA x) 66)) := (Below.refl _ _).alloc (Nat.le_refl _) _
          clear hrow hx lk hlk
          have hi0' : (0 : Int) ≤ (q : Int) := by omega
          have hi1' : (q : Int) < (n : Int) := by omega
          go_upto_region 11 with fail
          rw [← hu]
          change Code.wp _ _ _ _ (wr.alloc (.cells (entA x) 66))
          have HM4 := Lib.hid (hM.out.kept (hbA.block _ hM.out.lt))
          have HB4 := Lib.hid (below_step hB.out hbA)
          have hown4 := own_call hown hbA
          have hu0 := HB4.out.size
          have hu1 : w.heap.size + 1 ≤ u := by have := hM.out.lt; have := HZ.out; omega
          clear e0 e1 e2 e3 e4 hM hB hown hbA hu hi0' hi1'
          generalize wr.alloc (.cells (entA x) 66) = w4 at t4 HM4 HB4 hown4 hu0 ⊢
          obtain ⟨e0, e1, e2, e3, e4⟩ := ent_cells t4
          go_wp2_with fail
          refine (whole_code x _).mono ?_
          rintro e w5 ⟨rfl, hb5⟩
          have t5 := (hb5.block _ (heap_lt t4)).trans t4
          have HM5 := Lib.hid (HM4.out.kept (hb5.block _ HM4.out.lt))
          have HB5 := Lib.hid (below_step HB4.out hb5)
          have hown5 := own_call hown4 hb5
          have hlk := HLk.out w5 HM5.out
          obtain ⟨b, hbv⟩ : ∃ b, b = decide (x ∈ o.map (fun e : Ent => e)) := ⟨_, rfl⟩
          rw [← hbv] at hlk
          have HBv := Lib.hid (And.intro hbv hsn)
          simp only [enV] at hlk
          clear e0 e1 e2 e3 e4 HLk HM4 HB4 hown4 hb5 t4 hsn hbv
          go_upto_region 12 with fail
          change Code.wp _ _ _ _ (w5.alloc (.cells #[] 118))
          have hbB : Below w5.heap.size w5 (w5.alloc (.cells #[] 118)) := (Below.refl _ _).alloc (Nat.le_refl _) _
          have t6 := (hbB.block _ (heap_lt t5)).trans t5
          have HM6 := Lib.hid (HM5.out.kept (hbB.block _ HM5.out.lt))
          have HB6 := Lib.hid (below_step HB5.out hbB)
          have hown6 := own_call hown5 hbB
          clear hlk t5 HM5 HB5 hown5 hbB
          generalize w5.alloc (.cells #[] 118) = w6 at t6 HM6 HB6 hown6 ⊢
          obtain ⟨e0, e1, e2, e3, e4⟩ := ent_cells t6
          have hlow := heap_lt t6
          cases b with
          | true =>
            have hin := of_decide_eq_true HBv.out.1.symm
            have HSn : Hid (aloneL (fun e : Ent => e) (l.take (q + 1)) o = aloneL (fun e : Ent => e) (l.take q) o) := by have := HBv.out.2; rwa [if_pos hin] at this
            clear HBv hin
            go_wp2_with fail
            go_roundg (gk - 1)
            case measure => have := HG2.out; omega
            case rel => exact ⟨q + 1, by go_num, by have := HG2.out; omega, by omega, HM6.out, by rw [HSn.out]; exact hown6, HB6.out⟩
          | false =>
            have hin := of_decide_eq_false HBv.out.1.symm
            have HSn : Hid (aloneL (fun e : Ent => e) (l.take (q + 1)) o = aloneL (fun e : Ent => e) (l.take q) o ++ [x]) := by have := HBv.out.2; rwa [if_neg hin] at this
            clear HBv hin
            have hmm : (aloneL (fun e : Ent => e) (l.take q) o).length + 1 ≤ maxLen := by unfold maxLen; omega
            go_wp2_with (at_builtin; refine wpList_append_own _ rfl (.tmp 44) (.tmp 46) 31 rfl (w.heap.size + 1) 66 i0 _ 5 48 Tryz.underlying31 hi0 hz0 hz1 hz2 rfl (by decide) _ _ _ rfl (hown6.alloc _) ⟨w6.heap.size, 0, none⟩ 1 1 (entA x).toList rfl rfl (row_there w6 _ _) (ent_one x) hmm (by omega) (by simp; omega) ?_; intro v3 w7 hown7 hg7 _)
            have hA : Below w6.heap.size w6 (w6.alloc (.cells (entA x) 66)) := (Below.refl _ _).alloc (Nat.le_refl _) _
            have hz1' := HZ.out
            have hgz := hg7.block z (Nat.lt_of_lt_of_le HM6.out.lt hA.size) (fun p => by have := (hown6.lt z p.symm).1; omega)
            have HM7 := Lib.hid (HM6.out.kept (hgz.trans (hA.block _ HM6.out.lt)))
            have HB7 := Lib.hid ((below_step HB6.out hA).grown hg7 (below_step HB6.out hA).size (fun p hp => by have := (hown6.lt p hp).1; omega))
            rw [flat_ent] at hown7
            clear hA hgz hown6 HM6 HB6 hg7 e0 e1 e2 e3 e4
            go_roundg (gk - 1)
            case measure => have := HG2.out; omega
            case rel => exact ⟨q + 1, by go_num, by have := HG2.out; omega, by omega, HM7.out, by rw [HSn.out, List.length_append]; exact hown7, HB7.out⟩
        · have hE : aloneL (fun e : Ent => e) (l.take q) o = aloneL (fun e : Ent => e) l o := by rw [List.take_of_length_le (by omega)]
          rw [hE] at hown
          clear hE
          go_wp2_with fail
          go_ret
          exact ⟨_, rfl, hown, hB.out⟩

set_option maxRecDepth 100000 in
set_option maxHeartbeats 1600000 in
theorem aloneIn_code (A A' : Option Addr) (n c m d : Nat) (l o : List Ino) (hn : n ≤ 1000) (hm : m ≤ 1000) (w : World) (h : InosIn w w.heap.size A n l) (h' : InosIn w w.heap.size A' m o) :
    Calls Tryz.prog 30 #[.slice A n c, .slice A' m d, .func (.func 31) #[] #[]] w fun e w' => ∃ v, e = .returned v ∧ w'.ownsRow (w.heap.size + 1) 70 6 v (aloneL (bare1) l o).length (flat ((aloneL (bare1) l o).map inoA)) ∧ Below w.heap.size w w' := by
  have hl := h.len
  have hl' := h'.len
  have HX := Lib.hid h
  have HY := Lib.hid h'
  obtain ⟨i0, hi0, hz0, hz1, hz2⟩ := info_parts ino_infos
  have hmk : ∀ W : World, (Instr.makeMap 120 none).run Tryz.prog W = .ok (.map (some W.heap.size)) (W.alloc (.map #[] 0)) := fun _ => rfl
  obtain ⟨z, hz⟩ : ∃ z, z = w.heap.size := ⟨_, rfl⟩
  have hm0 : KMap inoV voidV (w.alloc (.map #[] 0)) z ([] : List (Ino × Unit)) := by rw [hz]; exact KMap.made w
  have hb0 : Below w.heap.size w (w.alloc (.map #[] 0)) := (Below.refl _ _).alloc (Nat.le_refl _) _
  clear h h'
  go_enter Tryz.func30, Tryz.ntmps30
  go_upto_region 2 with fail
  rw [← hz]
  have HZ := Lib.hid hz
  have HM0 := Lib.hid hm0
  have HB0 := Lib.hid hb0
  clear hmk hz hm0 hb0
  generalize w.alloc (.map #[] 0) = w1 at HM0 HB0 ⊢
  go_wp2_with fail
  go_loopg [18] (m + 1) (fun gk i wr => ∃ (k : Nat) (L : List (Ino × Unit)), i = .int .i64 (k : Int) ∧ gk + k = m + 1 ∧ k ≤ m ∧ Hid (KMap inoV voidV wr z L) ∧ Hid (SeenK L ((o.take k).map (bare1))) ∧ Hid (Below w.heap.size w wr))
  case atStart => exact ⟨0, [], rfl, by omega, by omega, HM0, seen_nil, HB0⟩
  case round =>
    obtain ⟨k, L, rfl, hgk, hk, hM, hS, hB⟩ := hrel
    have HG := Lib.hid hgk
    clear hgk HM0 HB0
    by_cases hlt : k < m
    · obtain ⟨gi, ofs, rfl, hg, hrow⟩ := HY.out.row (by omega)
      have lk : k < o.length := by omega
      obtain ⟨e0, e1, e2, e3, e4, e5⟩ := (hrow k lk).below hB.out hg
      have hsn := seen_snoc (f := bare1) lk hS.out
      obtain ⟨x, hx⟩ : ∃ x, o[k] = x := ⟨_, rfl⟩
      rw [hx] at e0 e1 e2 e3 e4 e5 hsn
      have HSn := Lib.hid hsn
      clear hrow hx hsn lk
      have hi0' : (0 : Int) ≤ (k : Int) := by omega
      have hi1' : (k : Int) < (m : Int) := by omega
      go_wp2_with fail
      refine (unlinked_code x _).mono ?_
      rintro e w5 ⟨rfl, hb5⟩
      have hbA := below_step ((Below.refl wr.heap.size wr).alloc (Nat.le_refl _) (.cells (inoA x) 70)) hb5
      have HM5 := Lib.hid (hM.out.kept (hbA.block _ hM.out.lt))
      have HB5 := Lib.hid (below_step hB.out hbA)
      clear e0 e1 e2 e3 e4 e5 hM hS hB hb5 hbA
      go_wp2_with (refine wpList_k_store inShape2 (by rfl) (.tmp 22) (.tmp 25) (.tmp 26) _ (by rfl) Tryz.underlying120 z L (by rfl) HM5.out (bare1 x) (by rfl) () (by rfl) ?_; intro w6 HM6 HU6 _)
      have HB6 := Lib.hid (HB5.out.trans (HU6.out.below (fun i hi => by have := HZ.out; omega) HB5.out.size))
      go_roundg (gk - 1)
      case measure => have := HG.out; omega
      case rel => exact ⟨k + 1, _, by go_num, by have := HG.out; omega, by omega, HM6.out, HSn.out, HB6.out⟩
    · have hkm : k = m := by omega
      subst hkm
      have hS2 : Hid (SeenK L (o.map (bare1))) := by have := hS.out; rwa [List.take_of_length_le (by omega)] at this
      have hM2 := hM
      have hB2 := hB
      obtain ⟨w2, hw2⟩ : ∃ W, W = wr := ⟨_, rfl⟩
      rw [← hw2] at hM2 hB2 ⊢
      clear hw2 hM hS hB hlt
      go_wp2_with fail
      go_loopg [10, 30] (n + 1) (fun gq v i wq => ∃ (q : Nat), i = .int .i64 (q : Int) ∧ gq + q = n + 1 ∧ q ≤ n ∧ Hid (KMap inoV voidV wq z L) ∧ wq.ownsRow (w.heap.size + 1) 70 6 v (aloneL (bare1) (l.take q) o).length (flat ((aloneL (bare1) (l.take q) o).map inoA)) ∧ Hid (Below w.heap.size w wq))
      case atStart => exact ⟨0, rfl, by omega, by omega, hM2, World.ownsRow_nil _ _ _ _, hB2⟩
      case round =>
        obtain ⟨q, rfl, hgq, hq, hM, hown, hB⟩ := hrel
        have HG2 := Lib.hid hgq
        clear hgq hM2 hB2
        by_cases hlt : q < n
        · obtain ⟨gi, ofs, rfl, hg, hrow⟩ := HX.out.row (by omega)
          have lk : q < l.length := by omega
          obtain ⟨e0, e1, e2, e3, e4, e5⟩ := (hrow q lk).below hB.out hg
          have hsn := alone_snoc (bare1) l o q lk
          have hle : (aloneL (bare1) (l.take q) o).length ≤ 1000 := by have := alone_le (bare1) (l.take q) o; rw [List.length_take] at this; omega
          obtain ⟨x, hx⟩ : ∃ x, l[q] = x := ⟨_, rfl⟩
          rw [hx] at e0 e1 e2 e3 e4 e5 hsn
          have hlk : ∀ W : World, KMap inoV voidV W z L → (Instr.lookup 120 (.map (some z)) (inoV (bare1 x)) true).run Tryz.prog W = .ok (.tuple #[.agg #[], .bool (decide ((bare1 x) ∈ o.map (bare1)))]) W := fun W hW => by
            have := hW.look inShape2 Tryz.underlying120 (zeroVoid W) (bare1 x) true
            rw [if_pos rfl, hS2.out (bare1 x), show ((lookL L (bare1 x)).map voidV).getD (voidV ()) = .agg #[] by cases lookL L (bare1 x) <;> rfl] at this
            first | exact this | (rw [this]; congr)
          have HLk := Lib.hid hlk
          obtain ⟨u, hu⟩ : ∃ u, u = wr.heap.size := ⟨_, rfl⟩
          have t4 := heap_alloc_new wr (.cells (inoA x) 70)
          rw [← hu] at t4
          have hbA : Below wr.heap.size wr (wr.alloc (.cells (inoA x) 70)) := (Below.refl _ _).alloc (Nat.le_refl _) _
          clear hrow hx lk hlk
          have hi0' : (0 : Int) ≤ (q : Int) := by omega
          have hi1' : (q : Int) < (n : Int) := by omega
          go_upto_region 11 with fail
          rw [← hu]
          change Code.wp _ _ _ _ (wr.alloc (.cells (inoA x) 70))
          have HM4 := Lib.hid (hM.out.kept (hbA.block _ hM.out.lt))
          have HB4 := Lib.hid (below_step hB.out hbA)
          have hown4 := own_call hown hbA
          have hu0 := HB4.out.size
          have hu1 : w.heap.size + 1 ≤ u := by have := hM.out.lt; have := HZ.out; omega
          clear e0 e1 e2 e3 e4 e5 hM hB hown hbA hu hi0' hi1'
          generalize wr.alloc (.cells (inoA x) 70) = w4 at t4 HM4 HB4 hown4 hu0 ⊢
          obtain ⟨e0, e1, e2, e3, e4, e5⟩ := ino_cells t4
          go_wp2_with fail
          refine (unlinked_code x _).mono ?_
          rintro e w5 ⟨rfl, hb5⟩
          have t5 := (hb5.block _ (heap_lt t4)).trans t4
          have HM5 := Lib.hid (HM4.out.kept (hb5.block _ HM4.out.lt))
          have HB5 := Lib.hid (below_step HB4.out hb5)
          have hown5 := own_call hown4 hb5
          have hlk := HLk.out w5 HM5.out
          obtain ⟨b, hbv⟩ : ∃ b, b = decide ((bare1 x) ∈ o.map (bare1)) := ⟨_, rfl⟩
          rw [← hbv] at hlk
          have HBv := Lib.hid (And.intro hbv hsn)
          simp only [inoV] at hlk
          clear e0 e1 e2 e3 e4 e5 HLk HM4 HB4 hown4 hb5 t4 hsn hbv
          go_upto_region 12 with fail
          change Code.wp _ _ _ _ (w5.alloc (.cells #[] 118))
          have hbB : Below w5.heap.size w5 (w5.alloc (.cells #[] 118)) := (Below.refl _ _).alloc (Nat.le_refl _) _
          have t6 := (hbB.block _ (heap_lt t5)).trans t5
          have HM6 := Lib.hid (HM5.out.kept (hbB.block _ HM5.out.lt))
          have HB6 := Lib.hid (below_step HB5.out hbB)
          have hown6 := own_call hown5 hbB
          clear hlk t5 HM5 HB5 hown5 hbB
          generalize w5.alloc (.cells #[] 118) = w6 at t6 HM6 HB6 hown6 ⊢
          obtain ⟨e0, e1, e2, e3, e4, e5⟩ := ino_cells t6
          have hlow := heap_lt t6
          cases b with
          | true =>
            have hin := of_decide_eq_true HBv.out.1.symm
            have HSn : Hid (aloneL (bare1) (l.take (q + 1)) o = aloneL (bare1) (l.take q) o) := by have := HBv.out.2; rwa [if_pos hin] at this
            clear HBv hin
            go_wp2_with fail
            go_roundg (gk - 1)
            case measure => have := HG2.out; omega
            case rel => exact ⟨q + 1, by go_num, by have := HG2.out; omega, by omega, HM6.out, by rw [HSn.out]; exact hown6, HB6.out⟩
          | false =>
            have hin := of_decide_eq_false HBv.out.1.symm
            have HSn : Hid (aloneL (bare1) (l.take (q + 1)) o = aloneL (bare1) (l.take q) o ++ [x]) := by have := HBv.out.2; rwa [if_neg hin] at this
            clear HBv hin
            have hmm : (aloneL (bare1) (l.take q) o).length + 1 ≤ maxLen := by unfold maxLen; omega
            go_wp2_with (at_builtin; refine wpList_append_own _ rfl (.tmp 44) (.tmp 46) 32 rfl (w.heap.size + 1) 70 i0 _ 6 56 Tryz.underlying32 hi0 hz0 hz1 hz2 rfl (by decide) _ _ _ rfl (hown6.alloc _) ⟨w6.heap.size, 0, none⟩ 1 1 (inoA x).toList rfl rfl (row_there w6 _ _) (ino_one x) hmm (by omega) (by simp; omega) ?_; intro v3 w7 hown7 hg7 _)
            have hA : Below w6.heap.size w6 (w6.alloc (.cells (inoA x) 70)) := (Below.refl _ _).alloc (Nat.le_refl _) _
            have hz1' := HZ.out
            have hgz := hg7.block z (Nat.lt_of_lt_of_le HM6.out.lt hA.size) (fun p => by have := (hown6.lt z p.symm).1; omega)
            have HM7 := Lib.hid (HM6.out.kept (hgz.trans (hA.block _ HM6.out.lt)))
            have HB7 := Lib.hid ((below_step HB6.out hA).grown hg7 (below_step HB6.out hA).size (fun p hp => by have := (hown6.lt p hp).1; omega))
            rw [flat_ino] at hown7
            clear hA hgz hown6 HM6 HB6 hg7 e0 e1 e2 e3 e4 e5
            go_roundg (gk - 1)
            case measure => have := HG2.out; omega
            case rel => exact ⟨q + 1, by go_num, by have := HG2.out; omega, by omega, HM7.out, by rw [HSn.out, List.length_append]; exact hown7, HB7.out⟩
        · have hE : aloneL (bare1) (l.take q) o = aloneL (bare1) l o := by rw [List.take_of_length_le (by omega)]
          rw [hE] at hown
          clear hE
          go_wp2_with fail
          go_ret
          exact ⟨_, rfl, hown, hB.out⟩

set_option maxRecDepth 100000 in
set_option maxHeartbeats 1600000 in
theorem aloneSt_code (A A' : Option Addr) (n c m d : Nat) (l o : List Ino) (hn : n ≤ 1000) (hm : m ≤ 1000) (w : World) (h : InosIn w w.heap.size A n l) (h' : InosIn w w.heap.size A' m o) :
    Calls Tryz.prog 33 #[.slice A n c, .slice A' m d, .func (.func 34) #[] #[]] w fun e w' => ∃ v, e = .returned v ∧ w'.ownsRow (w.heap.size + 1) 70 6 v (aloneL (fun x : Ino => x.id) l o).length (flat ((aloneL (fun x : Ino => x.id) l o).map inoA)) ∧ Below w.heap.size w w' := by
  have hl := h.len
  have hl' := h'.len
  have HX := Lib.hid h
  have HY := Lib.hid h'
  obtain ⟨i0, hi0, hz0, hz1, hz2⟩ := info_parts ino_infos
  have hmk : ∀ W : World, (Instr.makeMap 121 none).run Tryz.prog W = .ok (.map (some W.heap.size)) (W.alloc (.map #[] 0)) := fun _ => rfl
  obtain ⟨z, hz⟩ : ∃ z, z = w.heap.size := ⟨_, rfl⟩
  have hm0 : KMap stV voidV (w.alloc (.map #[] 0)) z ([] : List (St × Unit)) := by rw [hz]; exact KMap.made w
  have hb0 : Below w.heap.size w (w.alloc (.map #[] 0)) := (Below.refl _ _).alloc (Nat.le_refl _) _
  clear h h'
  go_enter Tryz.func33, Tryz.ntmps33
  go_upto_region 2 with fail
  rw [← hz]
  have HZ := Lib.hid hz
  have HM0 := Lib.hid hm0
  have HB0 := Lib.hid hb0
  clear hmk hz hm0 hb0
  generalize w.alloc (.map #[] 0) = w1 at HM0 HB0 ⊢
  go_wp2_with fail
  go_loopg [18] (m + 1) (fun gk i wr => ∃ (k : Nat) (L : List (St × Unit)), i = .int .i64 (k : Int) ∧ gk + k = m + 1 ∧ k ≤ m ∧ Hid (KMap stV voidV wr z L) ∧ Hid (SeenK L ((o.take k).map (fun x : Ino => x.id))) ∧ Hid (Below w.heap.size w wr))
  case atStart => exact ⟨0, [], rfl, by omega, by omega, HM0, seen_nil, HB0⟩
  case round =>
    obtain ⟨k, L, rfl, hgk, hk, hM, hS, hB⟩ := hrel
    have HG := Lib.hid hgk
    clear hgk HM0 HB0
    by_cases hlt : k < m
    · obtain ⟨gi, ofs, rfl, hg, hrow⟩ := HY.out.row (by omega)
      have lk : k < o.length := by omega
      obtain ⟨e0, e1, e2, e3, e4, e5⟩ := (hrow k lk).below hB.out hg
      have hsn := seen_snoc (f := fun x : Ino => x.id) lk hS.out
      obtain ⟨x, hx⟩ : ∃ x, o[k] = x := ⟨_, rfl⟩
      rw [hx] at e0 e1 e2 e3 e4 e5 hsn
      have HSn := Lib.hid hsn
      clear hrow hx hsn lk
      have hi0' : (0 : Int) ≤ (k : Int) := by omega
      have hi1' : (k : Int) < (m : Int) := by omega
      go_wp2_with fail
      refine (number_code x _).mono ?_
      rintro e w5 ⟨rfl, hb5⟩
      have hbA := below_step ((Below.refl wr.heap.size wr).alloc (Nat.le_refl _) (.cells (inoA x) 70)) hb5
      have HM5 := Lib.hid (hM.out.kept (hbA.block _ hM.out.lt))
      have HB5 := Lib.hid (below_step hB.out hbA)
      clear e0 e1 e2 e3 e4 e5 hM hS hB hb5 hbA
      go_wp2_with (refine wpList_k_store stShape (by rfl) (.tmp 22) (.tmp 25) (.tmp 26) _ (by rfl) Tryz.underlying121 z L (by rfl) HM5.out x.id (by rfl) () (by rfl) ?_; intro w6 HM6 HU6 _)
      have HB6 := Lib.hid (HB5.out.trans (HU6.out.below (fun i hi => by have := HZ.out; omega) HB5.out.size))
      go_roundg (gk - 1)
      case measure => have := HG.out; omega
      case rel => exact ⟨k + 1, _, by go_num, by have := HG.out; omega, by omega, HM6.out, HSn.out, HB6.out⟩
    · have hkm : k = m := by omega
      subst hkm
      have hS2 : Hid (SeenK L (o.map (fun x : Ino => x.id))) := by have := hS.out; rwa [List.take_of_length_le (by omega)] at this
      have hM2 := hM
      have hB2 := hB
      obtain ⟨w2, hw2⟩ : ∃ W, W = wr := ⟨_, rfl⟩
      rw [← hw2] at hM2 hB2 ⊢
      clear hw2 hM hS hB hlt
      go_wp2_with fail
      go_loopg [10, 30] (n + 1) (fun gq v i wq => ∃ (q : Nat), i = .int .i64 (q : Int) ∧ gq + q = n + 1 ∧ q ≤ n ∧ Hid (KMap stV voidV wq z L) ∧ wq.ownsRow (w.heap.size + 1) 70 6 v (aloneL (fun x : Ino => x.id) (l.take q) o).length (flat ((aloneL (fun x : Ino => x.id) (l.take q) o).map inoA)) ∧ Hid (Below w.heap.size w wq))
      case atStart => exact ⟨0, rfl, by omega, by omega, hM2, World.ownsRow_nil _ _ _ _, hB2⟩
      case round =>
        obtain ⟨q, rfl, hgq, hq, hM, hown, hB⟩ := hrel
        have HG2 := Lib.hid hgq
        clear hgq hM2 hB2
        by_cases hlt : q < n
        · obtain ⟨gi, ofs, rfl, hg, hrow⟩ := HX.out.row (by omega)
          have lk : q < l.length := by omega
          obtain ⟨e0, e1, e2, e3, e4, e5⟩ := (hrow q lk).below hB.out hg
          have hsn := alone_snoc (fun x : Ino => x.id) l o q lk
          have hle : (aloneL (fun x : Ino => x.id) (l.take q) o).length ≤ 1000 := by have := alone_le (fun x : Ino => x.id) (l.take q) o; rw [List.length_take] at this; omega
          obtain ⟨x, hx⟩ : ∃ x, l[q] = x := ⟨_, rfl⟩
          rw [hx] at e0 e1 e2 e3 e4 e5 hsn
          have hlk : ∀ W : World, KMap stV voidV W z L → (Instr.lookup 121 (.map (some z)) (stV x.id) true).run Tryz.prog W = .ok (.tuple #[.agg #[], .bool (decide (x.id ∈ o.map (fun x : Ino => x.id)))]) W := fun W hW => by
            have := hW.look stShape Tryz.underlying121 (zeroVoid W) x.id true
            rw [if_pos rfl, hS2.out x.id, show ((lookL L x.id).map voidV).getD (voidV ()) = .agg #[] by cases lookL L x.id <;> rfl] at this
            first | exact this | (rw [this]; congr)
          have HLk := Lib.hid hlk
          obtain ⟨u, hu⟩ : ∃ u, u = wr.heap.size := ⟨_, rfl⟩
          have t4 := heap_alloc_new wr (.cells (inoA x) 70)
          rw [← hu] at t4
          have hbA : Below wr.heap.size wr (wr.alloc (.cells (inoA x) 70)) := (Below.refl _ _).alloc (Nat.le_refl _) _
          clear hrow hx lk hlk
          have hi0' : (0 : Int) ≤ (q : Int) := by omega
          have hi1' : (q : Int) < (n : Int) := by omega
          go_upto_region 11 with fail
          rw [← hu]
          change Code.wp _ _ _ _ (wr.alloc (.cells (inoA x) 70))
          have HM4 := Lib.hid (hM.out.kept (hbA.block _ hM.out.lt))
          have HB4 := Lib.hid (below_step hB.out hbA)
          have hown4 := own_call hown hbA
          have hu0 := HB4.out.size
          have hu1 : w.heap.size + 1 ≤ u := by have := hM.out.lt; have := HZ.out; omega
          clear e0 e1 e2 e3 e4 e5 hM hB hown hbA hu hi0' hi1'
          generalize wr.alloc (.cells (inoA x) 70) = w4 at t4 HM4 HB4 hown4 hu0 ⊢
          obtain ⟨e0, e1, e2, e3, e4, e5⟩ := ino_cells t4
          go_wp2_with fail
          refine (number_code x _).mono ?_
          rintro e w5 ⟨rfl, hb5⟩
          have t5 := (hb5.block _ (heap_lt t4)).trans t4
          have HM5 := Lib.hid (HM4.out.kept (hb5.block _ HM4.out.lt))
          have HB5 := Lib.hid (below_step HB4.out hb5)
          have hown5 := own_call hown4 hb5
          have hlk := HLk.out w5 HM5.out
          obtain ⟨b, hbv⟩ : ∃ b, b = decide (x.id ∈ o.map (fun x : Ino => x.id)) := ⟨_, rfl⟩
          rw [← hbv] at hlk
          have HBv := Lib.hid (And.intro hbv hsn)
          simp only [stV] at hlk
          clear e0 e1 e2 e3 e4 e5 HLk HM4 HB4 hown4 hb5 t4 hsn hbv
          go_upto_region 12 with fail
          change Code.wp _ _ _ _ (w5.alloc (.cells #[] 118))
          have hbB : Below w5.heap.size w5 (w5.alloc (.cells #[] 118)) := (Below.refl _ _).alloc (Nat.le_refl _) _
          have t6 := (hbB.block _ (heap_lt t5)).trans t5
          have HM6 := Lib.hid (HM5.out.kept (hbB.block _ HM5.out.lt))
          have HB6 := Lib.hid (below_step HB5.out hbB)
          have hown6 := own_call hown5 hbB
          clear hlk t5 HM5 HB5 hown5 hbB
          generalize w5.alloc (.cells #[] 118) = w6 at t6 HM6 HB6 hown6 ⊢
          obtain ⟨e0, e1, e2, e3, e4, e5⟩ := ino_cells t6
          have hlow := heap_lt t6
          cases b with
          | true =>
            have hin := of_decide_eq_true HBv.out.1.symm
            have HSn : Hid (aloneL (fun x : Ino => x.id) (l.take (q + 1)) o = aloneL (fun x : Ino => x.id) (l.take q) o) := by have := HBv.out.2; rwa [if_pos hin] at this
            clear HBv hin
            go_wp2_with fail
            go_roundg (gk - 1)
            case measure => have := HG2.out; omega
            case rel => exact ⟨q + 1, by go_num, by have := HG2.out; omega, by omega, HM6.out, by rw [HSn.out]; exact hown6, HB6.out⟩
          | false =>
            have hin := of_decide_eq_false HBv.out.1.symm
            have HSn : Hid (aloneL (fun x : Ino => x.id) (l.take (q + 1)) o = aloneL (fun x : Ino => x.id) (l.take q) o ++ [x]) := by have := HBv.out.2; rwa [if_neg hin] at this
            clear HBv hin
            have hmm : (aloneL (fun x : Ino => x.id) (l.take q) o).length + 1 ≤ maxLen := by unfold maxLen; omega
            go_wp2_with (at_builtin; refine wpList_append_own _ rfl (.tmp 44) (.tmp 46) 32 rfl (w.heap.size + 1) 70 i0 _ 6 56 Tryz.underlying32 hi0 hz0 hz1 hz2 rfl (by decide) _ _ _ rfl (hown6.alloc _) ⟨w6.heap.size, 0, none⟩ 1 1 (inoA x).toList rfl rfl (row_there w6 _ _) (ino_one x) hmm (by omega) (by simp; omega) ?_; intro v3 w7 hown7 hg7 _)
            have hA : Below w6.heap.size w6 (w6.alloc (.cells (inoA x) 70)) := (Below.refl _ _).alloc (Nat.le_refl _) _
            have hz1' := HZ.out
            have hgz := hg7.block z (Nat.lt_of_lt_of_le HM6.out.lt hA.size) (fun p => by have := (hown6.lt z p.symm).1; omega)
            have HM7 := Lib.hid (HM6.out.kept (hgz.trans (hA.block _ HM6.out.lt)))
            have HB7 := Lib.hid ((below_step HB6.out hA).grown hg7 (below_step HB6.out hA).size (fun p hp => by have := (hown6.lt p hp).1; omega))
            rw [flat_ino] at hown7
            clear hA hgz hown6 HM6 HB6 hg7 e0 e1 e2 e3 e4 e5
            go_roundg (gk - 1)
            case measure => have := HG2.out; omega
            case rel => exact ⟨q + 1, by go_num, by have := HG2.out; omega, by omega, HM7.out, by rw [HSn.out, List.length_append]; exact hown7, HB7.out⟩
        · have hE : aloneL (fun x : Ino => x.id) (l.take q) o = aloneL (fun x : Ino => x.id) l o := by rw [List.take_of_length_le (by omega)]
          rw [hE] at hown
          clear hE
          go_wp2_with fail
          go_ret
          exact ⟨_, rfl, hown, hB.out⟩

set_option maxRecDepth 100000 in
set_option maxHeartbeats 1600000 in
theorem numbers_code (A : Option Addr) (n c : Nat) (l : List Ino) (hn : n ≤ 1000) (w : World) (h : InosIn w w.heap.size A n l) :
    Calls Tryz.prog 32 #[.slice A n c] w fun e w' => ∃ v, e = .returned v ∧ w'.ownsRow w.heap.size 24 2 v (l.map fun x => x.id).length (flat ((l.map fun x => x.id).map stA)) ∧ Below w.heap.size w w' := by
  have hl := h.len
  have HX := Lib.hid h
  obtain ⟨i0, hi0, hz0, hz1, hz2⟩ := info_parts st_infos2
  clear h
  go_enter Tryz.func32, Tryz.ntmps32
  go_wp2_with fail
  go_loopg [3, 8] (n + 1) (fun gk v i wr => ∃ (k : Nat), i = .int .i64 (k : Int) ∧ gk + k = n + 1 ∧ k ≤ n ∧ wr.ownsRow w.heap.size 24 2 v k (flat (((l.take k).map fun x => x.id).map stA)) ∧ Hid (Below w.heap.size w wr))
  case atStart => exact ⟨0, rfl, by omega, by omega, World.ownsRow_nil _ _ _ _, Below.refl _ _⟩
  case round =>
    obtain ⟨k, rfl, hgk, hk, hown, hB⟩ := hrel
    have HG := Lib.hid hgk
    clear hgk
    by_cases hlt : k < n
    · obtain ⟨gi, ofs, rfl, hg, hrow⟩ := HX.out.row (by omega)
      have lk : k < l.length := by omega
      obtain ⟨e0, e1, e2, e3, e4, e5⟩ := (hrow k lk).below hB.out hg
      have hsn : (l.take (k + 1)).map (fun x => x.id) = (l.take k).map (fun x => x.id) ++ [l[k].id] := by rw [List.take_succ_eq_append_getElem lk, List.map_append]; rfl
      obtain ⟨x, hx⟩ : ∃ x, l[k] = x := ⟨_, rfl⟩
      rw [hx] at e0 e1 e2 e3 e4 e5 hsn
      have HSn := Lib.hid hsn
      clear hrow hx hsn lk
      have hi0' : (0 : Int) ≤ (k : Int) := by omega
      have hi1' : (k : Int) < (n : Int) := by omega
      go_wp2_with fail
      have HN : ∀ W, Calls Tryz.prog 34 #[.agg (inoA x)] W fun r w' => r = .returned (.agg #[.int .i64 x.id.1, .int .i64 x.id.2]) ∧ Below W.heap.size W w' := number_code x
      refine (HN _).mono ?_
      clear HN
      rintro e w5 ⟨rfl, hb5⟩
      have hbA := below_step ((Below.refl wr.heap.size wr).alloc (Nat.le_refl _) (.cells (inoA x) 70)) hb5
      have HB5 := Lib.hid (below_step hB.out hbA)
      have hown5 := own_call hown hbA
      have hlow := HB5.out.size
      clear e0 e1 e2 e3 e4 e5 hB hb5 hbA hown
      have hmm : k + 1 ≤ maxLen := by unfold maxLen; omega
      go_wp2_with (at_builtin; refine wpList_append_own _ rfl (.tmp 12) (.tmp 15) 33 rfl w.heap.size 24 i0 _ 2 16 Tryz.underlying33 hi0 hz0 hz1 hz2 rfl (by decide) _ _ _ rfl (hown5.alloc _) ⟨w5.heap.size, 0, none⟩ 1 1 (stA x.id).toList rfl rfl (row_there w5 _ _) (st_one3 x.id) hmm (by omega) (by simp; omega) ?_; intro v3 w7 hown7 hg7 _)
      have hA : Below w5.heap.size w5 (w5.alloc (.cells (stA x.id) 24)) := (Below.refl _ _).alloc (Nat.le_refl _) _
      have HB7 := Lib.hid ((below_step HB5.out hA).grown hg7 (below_step HB5.out hA).size (fun p hp => (hown5.lt p hp).1))
      rw [flat_st3] at hown7
      clear hA hown5 HB5 hg7
      go_roundg (gk - 1)
      case measure => have := HG.out; omega
      case rel => exact ⟨k + 1, by go_num, by have := HG.out; omega, by omega, by rw [HSn.out]; exact hown7, HB7.out⟩
    · have hkn : k = n := by omega
      subst hkn
      rw [List.take_of_length_le (by omega)] at hown
      go_wp2_with fail
      go_ret
      exact ⟨_, rfl, by rw [List.length_map, hl]; exact hown, hB.out⟩

end Go.Proofs.YthcmgaibbpacfaaGreatDoor

/-
  The landed undo's Diff: what one graph lost, and got, against another one.
-/
namespace Go.Proofs.YthcmgaibbpacfaaGreatDoor
open Go.RowKit StampMath GraphMath OpMath PackMath

/-- A row of the call's own is read, and lies in new blocks. -/
theorem tabAt_own {W : World} {base : Nat} {e : TypeId} {k : Nat} {v : Value} {n : Nat} {rows : List (Array Value)} (hk : ∀ r ∈ rows, r.size = k) (hn : rows.length = n) (h : W.ownsRow base e k v n (flat rows)) {T : Nat → Prop} (hT : ∀ i, base ≤ i → T i) :
    ∃ (A : Option Addr) (c : Nat), v = .slice A n c ∧ TabAt T k W A n rows ∧ (A = none → c = 0) := by
  obtain ⟨A, c, rfl, h1, _, _, h2⟩ := tab_own hk hn h
  refine ⟨A, c, rfl, ⟨h1.1, fun hp => ?_⟩, h2⟩
  obtain ⟨g, o, e1, hg, hc⟩ := h1.2 hp
  refine ⟨g, o, e1, hT g ?_, hg, hc⟩
  exact (h.lt g (by rw [e1]; rfl)).1

theorem rec_free {w : World} {g : Nat} {a b c d e : Value} {T : TypeId} (h : w.heap[g]? = some (.cells #[a, b, c, d, e] T (0, 0))) :
    w.frozen? ⟨g, 0, none⟩ = false ∧ w.frozen? ⟨g, 1, none⟩ = false ∧ w.frozen? ⟨g, 2, none⟩ = false ∧ w.frozen? ⟨g, 3, none⟩ = false ∧ w.frozen? ⟨g, 4, none⟩ = false :=
  ⟨frozen_of_row _ _ 0 _ _ h, frozen_of_row _ _ 1 _ _ h, frozen_of_row _ _ 2 _ _ h, frozen_of_row _ _ 3 _ _ h, frozen_of_row _ _ 4 _ _ h⟩

set_option maxRecDepth 100000 in
set_option maxHeartbeats 1600000 in
theorem diff_code (H : GraphHave) (a b : Addr) (S T : Nat → Prop) (g h : Gr) (w : World) (ha : H.rep w S a g) (hb : H.rep w T b h) (hg : g.ok) (hh : h.ok) :
    Calls Tryz.prog 11 #[.pointer (some a), .pointer (some b)] w fun e w' => ∃ v, e = .returned v ∧ RecAt (fun i => w.heap.size ≤ i) w' v (diffG g h 0) ∧ Below w.heap.size w w' := by
  have I1 : Hid (∀ W, Below w.heap.size w W → Calls Tryz.prog 25 #[.pointer (some a)] W (InosPost (inodesG g) W)) := fun W hW => told_inos H ha hg hW
  have I2 : Hid (∀ W, Below w.heap.size w W → Calls Tryz.prog 25 #[.pointer (some b)] W (InosPost (inodesG h) W)) := fun W hW => told_inos H hb hh hW
  have E1 : Hid (∀ W, Below w.heap.size w W → Calls Tryz.prog 26 #[.pointer (some a)] W (EntsPost g.E W)) := fun W hW => told_ents H ha hg hW
  have E2 : Hid (∀ W, Below w.heap.size w W → Calls Tryz.prog 26 #[.pointer (some b)] W (EntsPost h.E W)) := fun W hW => told_ents H hb hh hW
  have n1 : (inodesG g).length ≤ 1000 := by unfold inodesG; rw [List.length_map]; exact Nat.le_trans hg.few (by decide)
  have n2 : (inodesG h).length ≤ 1000 := by unfold inodesG; rw [List.length_map]; exact Nat.le_trans hh.few (by decide)
  have m1 : g.E.length ≤ 1000 := Nat.le_trans hg.entsFew (by decide)
  have m2 : h.E.length ≤ 1000 := Nat.le_trans hh.entsFew (by decide)
  have C1 : Hid (∀ (A A' : Option Addr) (c d : Nat) (W : World), EntsIn W W.heap.size A g.E.length g.E → EntsIn W W.heap.size A' h.E.length h.E → Calls Tryz.prog 28 #[.slice A g.E.length c, .slice A' h.E.length d, .func (.func 29) #[] #[]] W fun e w' => ∃ v, e = .returned v ∧ w'.ownsRow (W.heap.size + 1) 66 5 v (lostG g h).length (flat ((lostG g h).map entA)) ∧ Below W.heap.size W w') := fun A A' c d W q1 q2 => by
    have := aloneEn_code A A' _ c _ d g.E h.E m1 m2 W q1 q2
    rwa [alone_lost] at this
  have C2 : Hid (∀ (A A' : Option Addr) (c d : Nat) (W : World), EntsIn W W.heap.size A h.E.length h.E → EntsIn W W.heap.size A' g.E.length g.E → Calls Tryz.prog 28 #[.slice A h.E.length c, .slice A' g.E.length d, .func (.func 29) #[] #[]] W fun e w' => ∃ v, e = .returned v ∧ w'.ownsRow (W.heap.size + 1) 66 5 v (lostG h g).length (flat ((lostG h g).map entA)) ∧ Below W.heap.size W w') := fun A A' c d W q1 q2 => by
    have := aloneEn_code A A' _ c _ d h.E g.E m2 m1 W q1 q2
    rwa [alone_lost] at this
  have C3 : Hid (∀ (A A' : Option Addr) (c d : Nat) (W : World), InosIn W W.heap.size A (inodesG g).length (inodesG g) → InosIn W W.heap.size A' (inodesG h).length (inodesG h) → Calls Tryz.prog 30 #[.slice A (inodesG g).length c, .slice A' (inodesG h).length d, .func (.func 31) #[] #[]] W fun e w' => ∃ v, e = .returned v ∧ w'.ownsRow (W.heap.size + 1) 70 6 v (wasG g h).length (flat ((wasG g h).map inoA)) ∧ Below W.heap.size W w') := fun A A' c d W q1 q2 => by
    have := aloneIn_code A A' _ c _ d (inodesG g) (inodesG h) n1 n2 W q1 q2
    rwa [alone_was hh] at this
  have C4 : Hid (∀ (A A' : Option Addr) (c d : Nat) (W : World), InosIn W W.heap.size A (inodesG h).length (inodesG h) → InosIn W W.heap.size A' (inodesG g).length (inodesG g) → Calls Tryz.prog 33 #[.slice A (inodesG h).length c, .slice A' (inodesG g).length d, .func (.func 34) #[] #[]] W fun e w' => ∃ (D : Option Addr) (p : Nat) (X : List Ino), e = .returned (.slice D X.length p) ∧ InosIn w' w'.heap.size D X.length X ∧ X.length ≤ 1000 ∧ X.map (fun x => x.id) = newN g h ∧ Below W.heap.size W w') := fun A A' c d W q1 q2 => by
    refine (aloneSt_code A A' _ c _ d (inodesG h) (inodesG g) n2 n1 W q1 q2).mono ?_
    rintro e w' ⟨v, rfl, own, hb⟩
    obtain ⟨D, p, rfl, r1, _⟩ := inos_own rfl own
    exact ⟨D, p, _, rfl, r1, Nat.le_trans (alone_le _ _ _) n2, alone_new hg hh, hb⟩
  have k1 : (lostG g h).length = (diffG g h 0).lost.length := rfl
  obtain ⟨r, hr⟩ : ∃ r, r = diffG g h 0 := ⟨_, rfl⟩
  have HR : Hid (r.lost = lostG g h ∧ r.made = lostG h g ∧ r.was = wasG g h ∧ r.new = newN g h ∧ r.err = 0) := by rw [hr]; exact ⟨rfl, rfl, rfl, rfl, rfl⟩
  rw [← hr]
  clear ha hb hg hh n1 n2 m1 m2 k1 hr
  generalize lostG g h = L1 at C1 HR
  generalize lostG h g = L2 at C2 HR
  generalize wasG g h = L3 at C3 HR
  generalize newN g h = L4 at C4 HR
  generalize inodesG g = X at I1 C3 C4
  generalize inodesG h = Y at I2 C3 C4
  generalize g.E = E at E1 C1 C2
  generalize h.E = F at E2 C1 C2
  have hq0 := heap_alloc_new w (.cells #[.slice none 0 0, .slice none 0 0, .slice none 0 0, .slice none 0 0, .int .i64 0] 36)
  have hb0 : Below w.heap.size w (w.alloc (.cells #[.slice none 0 0, .slice none 0 0, .slice none 0 0, .slice none 0 0, .int .i64 0] 36)) := (Below.refl _ _).alloc (Nat.le_refl _) _
  obtain ⟨u, hu⟩ : ∃ u, u = w.heap.size := ⟨_, rfl⟩
  rw [← hu] at hq0
  have HU := Lib.hid hu
  have HQ0 := Lib.hid hq0
  have HB0 := Lib.hid hb0
  clear hq0 hb0
  go_enter Tryz.func11, Tryz.ntmps11
  go_upto_region 1 with fail
  rw [← hu]
  clear hu
  change Code.wp _ _ _ _ (w.alloc (.cells #[.slice none 0 0, .slice none 0 0, .slice none 0 0, .slice none 0 0, .int .i64 0] 36))
  generalize w.alloc (.cells #[.slice none 0 0, .slice none 0 0, .slice none 0 0, .slice none 0 0, .int .i64 0] 36) = w0 at HQ0 HB0 ⊢
  go_wp2_with fail
  refine (I1.out _ HB0.out).mono ?_
  rintro e w1 ⟨A1, c1, rfl, x1, _, _, _, hb1⟩
  have B1 := Lib.hid (below_step HB0.out hb1)
  have X1 := Lib.hid x1
  have HQ1 := Lib.hid ((hb1.block _ (heap_lt HQ0.out)).trans HQ0.out)
  clear x1 hb1 HQ0 HB0
  go_wp2_with fail
  refine (I2.out _ B1.out).mono ?_
  rintro e w2 ⟨A2, c2, rfl, y2, _, _, _, hb2⟩
  have B2 := Lib.hid (below_step B1.out hb2)
  have X2 := Lib.hid (inos_later X1.out hb2)
  have Y2 := Lib.hid y2
  have HQ2 := Lib.hid ((hb2.block _ (heap_lt HQ1.out)).trans HQ1.out)
  clear y2 hb2 HQ1 B1 X1
  go_wp2_with fail
  refine (E1.out _ B2.out).mono ?_
  rintro e w3 ⟨A3, c3, rfl, e3, _, _, _, hb3⟩
  have B3 := Lib.hid (below_step B2.out hb3)
  have X3 := Lib.hid (inos_later X2.out hb3)
  have Y3 := Lib.hid (inos_later Y2.out hb3)
  have P3 := Lib.hid e3
  have HQ3 := Lib.hid ((hb3.block _ (heap_lt HQ2.out)).trans HQ2.out)
  clear e3 hb3 HQ2 B2 X2 Y2
  go_wp2_with fail
  refine (E2.out _ B3.out).mono ?_
  rintro e w4 ⟨A4, c4, rfl, f4, _, _, _, hb4⟩
  have B4 := Lib.hid (below_step B3.out hb4)
  have X4 := Lib.hid (inos_later X3.out hb4)
  have Y4 := Lib.hid (inos_later Y3.out hb4)
  have P4 := Lib.hid (ents_later P3.out hb4)
  have F4 := Lib.hid f4
  have HQ4 := Lib.hid ((hb4.block _ (heap_lt HQ3.out)).trans HQ3.out)
  clear f4 hb4 HQ3 B3 X3 Y3 P3
  go_wp2_with fail
  refine (C1.out _ _ _ _ _ P4.out F4.out).mono ?_
  rintro e w5 ⟨v5, rfl, o5, hb5⟩
  have O5 := Lib.hid (own_lower o5 (show w.heap.size + 1 ≤ w4.heap.size + 1 from Nat.succ_le_succ B4.out.size))
  have B5 := Lib.hid (below_step B4.out hb5)
  have X5 := Lib.hid (inos_later X4.out hb5)
  have Y5 := Lib.hid (inos_later Y4.out hb5)
  have P5 := Lib.hid (ents_later P4.out hb5)
  have F5 := Lib.hid (ents_later F4.out hb5)
  have HQ5 := Lib.hid ((hb5.block _ (heap_lt HQ4.out)).trans HQ4.out)
  clear o5 hb5 HQ4 B4 X4 Y4 P4 F4
  go_wp2_with fail
  refine (C2.out _ _ _ _ _ F5.out P5.out).mono ?_
  rintro e w6 ⟨v6, rfl, o6, hb6⟩
  have O5 := Lib.hid (own_call O5.out hb6)
  have O6 := Lib.hid (own_lower o6 (show w.heap.size + 1 ≤ w5.heap.size + 1 from Nat.succ_le_succ B5.out.size))
  have B6 := Lib.hid (below_step B5.out hb6)
  have X6 := Lib.hid (inos_later X5.out hb6)
  have Y6 := Lib.hid (inos_later Y5.out hb6)
  have HQ6 := Lib.hid ((hb6.block _ (heap_lt HQ5.out)).trans HQ5.out)
  clear o6 hb6 HQ5 B5 X5 Y5 P5 F5
  go_wp2_with fail
  refine (C3.out _ _ _ _ _ X6.out Y6.out).mono ?_
  rintro e w7 ⟨v7, rfl, o7, hb7⟩
  have O5 := Lib.hid (own_call O5.out hb7)
  have O6 := Lib.hid (own_call O6.out hb7)
  have O7 := Lib.hid (own_lower o7 (show w.heap.size + 1 ≤ w6.heap.size + 1 from Nat.succ_le_succ B6.out.size))
  have B7 := Lib.hid (below_step B6.out hb7)
  have X7 := Lib.hid (inos_later X6.out hb7)
  have Y7 := Lib.hid (inos_later Y6.out hb7)
  have HQ7 := Lib.hid ((hb7.block _ (heap_lt HQ6.out)).trans HQ6.out)
  clear o7 hb7 HQ6 B6 X6 Y6
  go_wp2_with fail
  refine (C4.out _ _ _ _ _ Y7.out X7.out).mono ?_
  rintro e w8 ⟨D8, p8, Z, rfl, z8, hz8, hzn, hb8⟩
  have O5 := Lib.hid (own_call O5.out hb8)
  have O6 := Lib.hid (own_call O6.out hb8)
  have O7 := Lib.hid (own_call O7.out hb8)
  have B8 := Lib.hid (below_step B7.out hb8)
  have HN : Hid (∀ W, InosIn W W.heap.size D8 Z.length Z → Calls Tryz.prog 32 #[.slice D8 Z.length p8] W fun e w' => ∃ v, e = .returned v ∧ w'.ownsRow W.heap.size 24 2 v L4.length (flat (L4.map stA)) ∧ Below W.heap.size W w') := Lib.hid fun W hW => by
    have := numbers_code D8 Z.length p8 Z hz8 W hW
    rwa [hzn] at this
  have Z8 := Lib.hid z8
  have HQ8 := Lib.hid ((hb8.block _ (heap_lt HQ7.out)).trans HQ7.out)
  clear hb8 hz8 hzn z8 HQ7 B7 X7 Y7
  go_wp2_with fail
  refine (HN.out _ Z8.out).mono ?_
  rintro e w9 ⟨v9, rfl, o9, hb9⟩
  have B9 := Lib.hid (below_step B8.out hb9)
  have hq9 := (hb9.block _ (heap_lt HQ8.out)).trans HQ8.out
  obtain ⟨T1, d1, rfl, t1, s1⟩ := tabAt_own (T := fun i => w.heap.size + 1 ≤ i) (fun r hr => by obtain ⟨e, _, rfl⟩ := List.mem_map.1 hr; rfl) (by rw [List.length_map]) (own_call O5.out hb9) (fun _ hi => hi)
  obtain ⟨T2, d2, rfl, t2, s2⟩ := tabAt_own (T := fun i => w.heap.size + 1 ≤ i) (fun r hr => by obtain ⟨e, _, rfl⟩ := List.mem_map.1 hr; rfl) (by rw [List.length_map]) (own_call O6.out hb9) (fun _ hi => hi)
  obtain ⟨T3, d3, rfl, t3, _⟩ := tabAt_own (T := fun i => w.heap.size + 1 ≤ i) (fun r hr => by obtain ⟨e, _, rfl⟩ := List.mem_map.1 hr; rfl) (by rw [List.length_map]) (own_call O7.out hb9) (fun _ hi => hi)
  obtain ⟨T4, d4, rfl, t4, _⟩ := tabAt_own (T := fun i => w.heap.size + 1 ≤ i) (fun r hr => by obtain ⟨e, _, rfl⟩ := List.mem_map.1 hr; rfl) (by rw [List.length_map]) o9 (fun i hi => by have := heap_lt HQ8.out; have := HU.out; omega)
  have HT := Lib.hid (And.intro t1 (And.intro t2 (And.intro t3 (And.intro t4 (And.intro s1 s2)))))
  obtain ⟨x0, x1, x2, x3, x4⟩ := rec_cells hq9
  obtain ⟨f0, f1, f2, f3, f4⟩ := rec_free hq9
  have ho : ∀ i, i ≠ u → (((((w9.setCell ⟨u, 0, none⟩ (.slice T1 L1.length d1)).setCell ⟨u, 1, none⟩ (.slice T2 L2.length d2)).setCell ⟨u, 2, none⟩ (.slice T3 L3.length d3)).setCell ⟨u, 3, none⟩ (.slice T4 L4.length d4)).setCell ⟨u, 4, none⟩ (.int .i64 0)).heap[i]? = w9.heap[i]? := fun i hi => by
    rw [heap_setCell_other _ _ _ _ hi, heap_setCell_other _ _ _ _ hi, heap_setCell_other _ _ _ _ hi, heap_setCell_other _ _ _ _ hi, heap_setCell_other _ _ _ _ hi]
  have hx : (((((w9.setCell ⟨u, 0, none⟩ (.slice T1 L1.length d1)).setCell ⟨u, 1, none⟩ (.slice T2 L2.length d2)).setCell ⟨u, 2, none⟩ (.slice T3 L3.length d3)).setCell ⟨u, 3, none⟩ (.slice T4 L4.length d4)).setCell ⟨u, 4, none⟩ (.int .i64 0)).heap[u]? = some (.cells #[.slice T1 L1.length d1, .slice T2 L2.length d2, .slice T3 L3.length d3, .slice T4 L4.length d4, .int .i64 0] 36 (0, 0)) := by
    rw [heap_setCell_same _ _ _ _ _ _ (heap_setCell_same _ _ _ _ _ _ (heap_setCell_same _ _ _ _ _ _ (heap_setCell_same _ _ _ _ _ _ (heap_setCell_same _ _ _ _ _ _ hq9))))]
    rfl
  have hU : w.heap.size ≤ u := Nat.le_of_eq HU.out.symm
  have hB : Below w.heap.size w (((((w9.setCell ⟨u, 0, none⟩ (.slice T1 L1.length d1)).setCell ⟨u, 1, none⟩ (.slice T2 L2.length d2)).setCell ⟨u, 2, none⟩ (.slice T3 L3.length d3)).setCell ⟨u, 3, none⟩ (.slice T4 L4.length d4)).setCell ⟨u, 4, none⟩ (.int .i64 0)) :=
    ((((B9.out.setCell (p := ⟨u, 0, none⟩) hU _).setCell (p := ⟨u, 1, none⟩) hU _).setCell (p := ⟨u, 2, none⟩) hU _).setCell (p := ⟨u, 3, none⟩) hU _).setCell (p := ⟨u, 4, none⟩) hU _
  have HO := Lib.hid ho
  have HX := Lib.hid hx
  have HB := Lib.hid hB
  clear ho hx hB hq9 t1 t2 t3 t4 s1 s2 hb9 o9
  go_wp2_with fail
  obtain ⟨y0, y1, y2, y3, y4⟩ := rec_cells HX.out
  refine bodyPost_ret (v := .agg #[.slice T1 L1.length d1, .slice T2 L2.length d2, .slice T3 L3.length d3, .slice T4 L4.length d4, .int .i64 0]) (by simp [results, Tryz.results11, go_sem, y0, y1, y2, y3, y4]) rfl ⟨_, rfl, ?_, HB.out⟩
  obtain ⟨r1, r2, r3, r4, r5⟩ := HR.out
  obtain ⟨t1, t2, t3, t4, s1, s2⟩ := HT.out
  have hk : ∀ i, w.heap.size + 1 ≤ i → i < w9.heap.size → (((((w9.setCell ⟨u, 0, none⟩ (.slice T1 L1.length d1)).setCell ⟨u, 1, none⟩ (.slice T2 L2.length d2)).setCell ⟨u, 2, none⟩ (.slice T3 L3.length d3)).setCell ⟨u, 3, none⟩ (.slice T4 L4.length d4)).setCell ⟨u, 4, none⟩ (.int .i64 0)).heap[i]? = w9.heap[i]? := fun i hi _ => HO.out i (by have := HU.out; omega)
  refine ⟨T1, L1.length, d1, T2, L2.length, d2, T3, L3.length, d3, T4, L4.length, d4, by rw [r5], ?_, ?_, ?_, ?_, s1, s2⟩
  · rw [r1]; exact (t1.keep hk (by simp)).mono fun i hi _ => Nat.le_of_succ_le hi
  · rw [r2]; exact (t2.keep hk (by simp)).mono fun i hi _ => Nat.le_of_succ_le hi
  · rw [r3]; exact (t3.keep hk (by simp)).mono fun i hi _ => Nat.le_of_succ_le hi
  · rw [r4]; exact (t4.keep hk (by simp)).mono fun i hi _ => Nat.le_of_succ_le hi

end Go.Proofs.YthcmgaibbpacfaaGreatDoor

/-
  The landed undo's Do: an operation is done, and told what it turned.
-/
namespace Go.Proofs.YthcmgaibbpacfaaGreatDoor
open Go.RowKit StampMath GraphMath OpMath PackMath

set_option maxRecDepth 100000 in
set_option maxHeartbeats 1600000 in
theorem undo_do (H : GraphHave) (Q : ApplyHave H) (a : Addr) (S : Nat → Prop) (g : Gr) (o : Opn) (w : World) [Tab w] (h : H.rep w S a g) (hS : ¬ S 0) (hf : g.fine) (ho : OpFit o) :
    Calls Tryz.prog 14 #[.pointer (some a), .agg (opA o)] w fun e w' => ∃ S' T v, e = .returned v ∧ H.rep w' S' a (doA g o).1 ∧ (∀ i, S' i → S i ∨ w.heap.size ≤ i) ∧ But S w w' ∧ RecAt T w' v (doR g o) ∧ (∀ i, T i → w.heap.size ≤ i ∧ ¬ S' i) := by
  have hlt := Lib.hid (fun i (hi : S i) => H.lt h i hi)
  obtain ⟨u, hu⟩ : ∃ u, u = w.heap.size := ⟨_, rfl⟩
  have H0 : Held w [(u + 1, .cells #[.slice none 0 0, .slice none 0 0, .slice none 0 0, .slice none 0 0, .int .i64 0] 36), (u, .cells (opA o) 26)] ((w.alloc (.cells (opA o) 26)).alloc (.cells #[.slice none 0 0, .slice none 0 0, .slice none 0 0, .slice none 0 0, .int .i64 0] 36)) :=
    ((Held.refl w).alloc (.cells (opA o) 26) hu.symm).alloc (.cells #[.slice none 0 0, .slice none 0 0, .slice none 0 0, .slice none 0 0, .int .i64 0] 36) (by simp [hu])
  have HH := Lib.hid h
  have HS := Lib.hid hS
  have HF := Lib.hid hf
  have HO := Lib.hid ho
  have HH0 := Lib.hid H0
  clear h hS hf ho H0
  unfold opA
  go_enter Tryz.func14, Tryz.ntmps14
  go_upto_region 1 with fail
  rw [← hu]
  change Code.wp _ _ _ _ ((w.alloc (.cells (opA o) 26)).alloc (.cells #[.slice none 0 0, .slice none 0 0, .slice none 0 0, .slice none 0 0, .int .i64 0] 36))
  have HU := Lib.hid hu
  clear hu
  generalize (w.alloc (.cells (opA o) 26)).alloc (.cells #[.slice none 0 0, .slice none 0 0, .slice none 0 0, .slice none 0 0, .int .i64 0] 36) = w0 at HH0 ⊢
  have i0 : Tab w0 := tab_step HH0.out.below
  go_wp2_with fail
  refine (H.copy a S g w0 (H.keep HH.out fun i hi => HH0.out.below.block i (hlt.out i hi)) HF.out.ok).mono ?_
  rintro e w1 ⟨b, T, rfl, rT, hT, hb1⟩
  have i1 : Tab w1 := tab_step hb1
  have H1 := Lib.hid (HH0.out.step hb1)
  have RT1 := Lib.hid (And.intro rT (fun i (hi : T i) => Nat.le_trans HH0.out.below.size (hT i hi)))
  have D := Lib.hid (Q.does a S g o w1 (H.keep HH.out fun i hi => H1.out.below.block i (hlt.out i hi)) HS.out HF.out HO.out)
  unfold opA at D
  obtain ⟨e0, e1, e2, e3, e4, e5, e6, e7, e8, e9, e10, e11, e12⟩ := op_cells (o := o) (g := u) (H1.out.at 1 rfl)
  clear rT hT hb1 HH0 i0
  go_wp2_with fail
  refine D.out.mono ?_
  rintro e w2 ⟨S', rfl, rS, hS', but2⟩
  have BW2 : Hid (But S w w2) := Lib.hid ((But.of_below H1.out.below).trans but2 fun i hi _ => hi)
  have hn1 : ¬ S (u + 1) := fun q => by have := hlt.out _ q; have := HU.out; omega
  have X2 : Hid (w2.heap[u + 1]? = some (.cells #[.slice none 0 0, .slice none 0 0, .slice none 0 0, .slice none 0 0, .int .i64 0] 36 (0, 0))) := Lib.hid (but2.heap (H1.out.at 0 rfl) hn1)
  have rT2 := H.keep RT1.out.1 (fun i hi => but2.block i (H.lt RT1.out.1 i hi) fun q => by have := hlt.out i q; have := RT1.out.2 i hi; omega)
  have SS : Hid (∀ i, S' i → S i ∨ w.heap.size ≤ i) := Lib.hid fun i hi => (hS' i hi).imp id fun q => Nat.le_trans H1.out.below.size q
  have h1lt : u + 1 < w1.heap.size := heap_lt (H1.out.at 0 rfl)
  have SN : Hid (∀ i, S' i → i ≠ u + 1) := Lib.hid fun i hi q => (hS' i hi).elim (fun r => by have := hlt.out i r; have := HU.out; omega) fun r => by omega
  have RS2 := Lib.hid rS
  have DF := Lib.hid (diff_code H b a T S' g (doA g o).1 w2 rT2 rS HF.out.ok (HF.out.does o).ok)
  have hsz : u + 1 < w2.heap.size := heap_lt X2.out
  clear e0 e1 e2 e3 e4 e5 e6 e7 e8 e9 e10 e11 e12 D rS hS' but2 rT2 RT1 H1 hn1 i1 h1lt
  go_wp2_with fail
  refine DF.out.mono ?_
  rintro e w3 ⟨v, rfl, hr3, hb3⟩
  obtain ⟨A1, n1, c1, A2, n2, c2, A3, n3, c3, A4, n4, c4, rfl, t1, t2, t3, t4, s1, s2⟩ := hr3
  have HT := Lib.hid (And.intro t1 (And.intro t2 (And.intro t3 (And.intro t4 (And.intro s1 s2)))))
  have X3 := Lib.hid ((hb3.block _ hsz).trans X2.out)
  have BW3 := Lib.hid (BW2.out.then_below hb3)
  have hsz3 := hb3.size
  have RS3 := Lib.hid (H.keep RS2.out fun i hi => hb3.block i (H.lt RS2.out i hi))
  have SL : Hid (∀ i, S' i → i < w2.heap.size) := Lib.hid fun i hi => H.lt RS2.out i hi
  have e0 : (diffG g (doA g o).1 0).err = 0 := rfl
  rw [e0]
  clear t1 t2 t3 t4 s1 s2 hb3 X2 BW2 RS2 DF e0
  go_upto_region 4 with fail
  obtain ⟨x, hx⟩ : ∃ x, x = w3.heap.size := ⟨_, rfl⟩
  rw [← hx]
  change Code.wp _ _ _ _ (w3.alloc (.cells #[.slice A1 n1 c1, .slice A2 n2 c2, .slice A3 n3 c3, .slice A4 n4 c4, .int .i64 0] 36))
  have hbA : Below w3.heap.size w3 (w3.alloc (.cells #[.slice A1 n1 c1, .slice A2 n2 c2, .slice A3 n3 c3, .slice A4 n4 c4, .int .i64 0] 36)) := (Below.refl _ _).alloc (Nat.le_refl _) _
  have y4 := heap_alloc_new w3 (.cells #[.slice A1 n1 c1, .slice A2 n2 c2, .slice A3 n3 c3, .slice A4 n4 c4, .int .i64 0] 36)
  rw [← hx] at y4
  have X4 := Lib.hid ((hbA.block _ (by omega)).trans X3.out)
  have BW4 := Lib.hid (BW3.out.then_below hbA)
  have HBA := Lib.hid hbA
  have RS4 := Lib.hid (H.keep RS3.out fun i hi => hbA.block i (H.lt RS3.out i hi))
  have HXX := Lib.hid hx
  clear hx hbA X3 BW3 RS3
  generalize w3.alloc (.cells #[.slice A1 n1 c1, .slice A2 n2 c2, .slice A3 n3 c3, .slice A4 n4 c4, .int .i64 0] 36) = w4 at y4 X4 BW4 HBA RS4 ⊢
  obtain ⟨er, her⟩ : ∃ er, er = (doA g o).2 := ⟨_, rfl⟩
  rw [← her]
  have HER := Lib.hid her
  clear her
  obtain ⟨p0, p1, p2, p3, p4⟩ := rec_cells y4
  obtain ⟨q0, q1, q2, q3, q4⟩ := rec_free y4
  have y5 : (w4.setCell ⟨x, 4, none⟩ (.int .i64 er)).heap[x]? = some (.cells #[.slice A1 n1 c1, .slice A2 n2 c2, .slice A3 n3 c3, .slice A4 n4 c4, .int .i64 er] 36 (0, 0)) := by
    rw [heap_setCell_same _ _ _ _ _ _ y4]
    rfl
  have hne : u + 1 ≠ x := by have := HXX.out; omega
  have X5 : (w4.setCell ⟨x, 4, none⟩ (.int .i64 er)).heap[u + 1]? = some (.cells #[.slice none 0 0, .slice none 0 0, .slice none 0 0, .slice none 0 0, .int .i64 0] 36 (0, 0)) := (heap_setCell_other _ _ _ _ hne).trans X4.out
  have K5 : Hid (∀ i, i ≠ x → (w4.setCell ⟨x, 4, none⟩ (.int .i64 er)).heap[i]? = w4.heap[i]?) := Lib.hid fun i hi => heap_setCell_other _ _ _ _ hi
  have hxw : w.heap.size ≤ x := by have := HXX.out; have := HU.out; omega
  have BW5 := Lib.hid (BW4.out.setCell (p := ⟨x, 4, none⟩) (Or.inr hxw) (.int .i64 er))
  have Z5 : Hid ((w4.setCell ⟨x, 4, none⟩ (.int .i64 er)).heap.size = w4.heap.size) := Lib.hid (by simp)
  clear y4
  go_upto_region 5 with fail
  generalize w4.setCell ⟨x, 4, none⟩ (.int .i64 er) = w5 at y5 X5 K5 BW5 Z5 ⊢
  clear p0 p1 p2 p3 p4 q0 q1 q2 q3 q4
  obtain ⟨p0, p1, p2, p3, p4⟩ := rec_cells y5
  obtain ⟨f0, f1, f2, f3, f4⟩ := rec_free X5
  obtain ⟨z0, z1, z2, z3, z4⟩ := rec_cells X5
  have ho : ∀ i, i ≠ u + 1 → (((((w5.setCell ⟨u + 1, 0, none⟩ (.slice A1 n1 c1)).setCell ⟨u + 1, 1, none⟩ (.slice A2 n2 c2)).setCell ⟨u + 1, 2, none⟩ (.slice A3 n3 c3)).setCell ⟨u + 1, 3, none⟩ (.slice A4 n4 c4)).setCell ⟨u + 1, 4, none⟩ (.int .i64 er)).heap[i]? = w5.heap[i]? := fun i hi => by
    rw [heap_setCell_other _ _ _ _ hi, heap_setCell_other _ _ _ _ hi, heap_setCell_other _ _ _ _ hi, heap_setCell_other _ _ _ _ hi, heap_setCell_other _ _ _ _ hi]
  have hx : (((((w5.setCell ⟨u + 1, 0, none⟩ (.slice A1 n1 c1)).setCell ⟨u + 1, 1, none⟩ (.slice A2 n2 c2)).setCell ⟨u + 1, 2, none⟩ (.slice A3 n3 c3)).setCell ⟨u + 1, 3, none⟩ (.slice A4 n4 c4)).setCell ⟨u + 1, 4, none⟩ (.int .i64 er)).heap[u + 1]? = some (.cells #[.slice A1 n1 c1, .slice A2 n2 c2, .slice A3 n3 c3, .slice A4 n4 c4, .int .i64 er] 36 (0, 0)) := by
    rw [heap_setCell_same _ _ _ _ _ _ (heap_setCell_same _ _ _ _ _ _ (heap_setCell_same _ _ _ _ _ _ (heap_setCell_same _ _ _ _ _ _ (heap_setCell_same _ _ _ _ _ _ X5))))]
    rfl
  have huw : w.heap.size ≤ u + 1 := by have := HU.out; omega
  have BW6 := Lib.hid (((((BW5.out.setCell (p := ⟨u + 1, 0, none⟩) (Or.inr huw) (.slice A1 n1 c1)).setCell (p := ⟨u + 1, 1, none⟩) (Or.inr huw) (.slice A2 n2 c2)).setCell (p := ⟨u + 1, 2, none⟩) (Or.inr huw) (.slice A3 n3 c3)).setCell (p := ⟨u + 1, 3, none⟩) (Or.inr huw) (.slice A4 n4 c4)).setCell (p := ⟨u + 1, 4, none⟩) (Or.inr huw) (.int .i64 er))
  have HO6 := Lib.hid ho
  have HX6 := Lib.hid hx
  clear ho hx X5 y5 BW5
  go_wp2_with fail
  obtain ⟨y0, y1, y2, y3, y4⟩ := rec_cells HX6.out
  refine bodyPost_ret (v := .agg #[.slice A1 n1 c1, .slice A2 n2 c2, .slice A3 n3 c3, .slice A4 n4 c4, .int .i64 er]) (by simp [results, Tryz.results14, go_sem, y0, y1, y2, y3, y4]) rfl ?_
  have hk : ∀ i, i ≠ u + 1 → i ≠ x → (((((w5.setCell ⟨u + 1, 0, none⟩ (.slice A1 n1 c1)).setCell ⟨u + 1, 1, none⟩ (.slice A2 n2 c2)).setCell ⟨u + 1, 2, none⟩ (.slice A3 n3 c3)).setCell ⟨u + 1, 3, none⟩ (.slice A4 n4 c4)).setCell ⟨u + 1, 4, none⟩ (.int .i64 er)).heap[i]? = w4.heap[i]? := fun i h1 h2 => (HO6.out i h1).trans (K5.out i h2)
  obtain ⟨t1, t2, t3, t4, s1, s2⟩ := HT.out
  have hk3 : ∀ i, w2.heap.size ≤ i → i < w3.heap.size → (((((w5.setCell ⟨u + 1, 0, none⟩ (.slice A1 n1 c1)).setCell ⟨u + 1, 1, none⟩ (.slice A2 n2 c2)).setCell ⟨u + 1, 2, none⟩ (.slice A3 n3 c3)).setCell ⟨u + 1, 3, none⟩ (.slice A4 n4 c4)).setCell ⟨u + 1, 4, none⟩ (.int .i64 er)).heap[i]? = w3.heap[i]? := fun i h1 h2 => (hk i (by omega) (by have := HXX.out; omega)).trans (HBA.out.block i h2)
  have hz : w3.heap.size ≤ (((((w5.setCell ⟨u + 1, 0, none⟩ (.slice A1 n1 c1)).setCell ⟨u + 1, 1, none⟩ (.slice A2 n2 c2)).setCell ⟨u + 1, 2, none⟩ (.slice A3 n3 c3)).setCell ⟨u + 1, 3, none⟩ (.slice A4 n4 c4)).setCell ⟨u + 1, 4, none⟩ (.int .i64 er)).heap.size := by
    have := Z5.out
    have := HBA.out.size
    simp only [World.size_setCell]
    omega
  refine ⟨S', fun i => w2.heap.size ≤ i, _, rfl, H.keep RS4.out fun i hi => hk i ?_ ?_, SS.out, BW6.out, ?_, fun i hi => ⟨?_, fun q => ?_⟩⟩
  · exact SN.out i hi
  · have := SL.out i hi
    have := HXX.out
    omega
  · refine ⟨A1, n1, c1, A2, n2, c2, A3, n3, c3, A4, n4, c4, by rw [HER.out]; rfl, t1.keep hk3 hz, t2.keep hk3 hz, t3.keep hk3 hz, t4.keep hk3 hz, s1, s2⟩
  · have := BW6.out.size
    omega
  · have := SL.out i q
    omega

end Go.Proofs.YthcmgaibbpacfaaGreatDoor

/-
  Data are small in a graph that is fine, and in an operation that may be. It needs no program.
-/
namespace Go.Proofs.YthcmgaibbpacfaaGreatDoor
open Go.RowKit StampMath GraphMath OpMath PackMath ExtentMath

theorem inoG_small {g : Gr} (hf : g.fine) (id : St) : (inoG g id).data.size ≤ 64 := by
  unfold inoG
  cases hq : getG g id with
  | none => exact Nat.zero_le _
  | some y =>
    obtain ⟨x, hx, _, rfl⟩ := get_some hq
    have hb := hf.bound x hx
    have hk := hf.ok.kinds x hx
    unfold boundOk1 at hb
    dsimp only [Option.getD_some]
    have h1 := hb.2.2.1
    have h2 := hb.2.2.2.1
    have h3 := hb.2.2.2.2
    rcases show x.kind = 1 ∨ x.kind = 2 ∨ x.kind = 3 by omega with q | q | q
    · have := h1 q; omega
    · have := h2 q; omega
    · have := h3 q; omega

theorem data_small {o : Opn} (hm : mayO o = true) (hk : o.k = 8) : o.data.size ≤ 64 := by
  obtain ⟨_, _, _, _, _, _, _, h8⟩ := mayO_parts hm
  unfold dataB at h8
  rw [if_neg (by omega), if_pos hk] at h8
  simp only [Bool.and_eq_true, decide_eq_true_iff] at h8
  omega

theorem wrote_is {g : Gr} (hf : g.fine) {o : Opn} (hm : mayO o = true) (hk : o.k = 8) (id : St) : (wR (inoG g id).data o.off o.data).1 = GraphMath.bytes (wL (inoG g id).data.data.toList o.data.data.toList o.off.toNat) := by
  obtain ⟨_, _, _, _, _, _, _, h8⟩ := mayO_parts hm
  unfold dataB at h8
  rw [if_neg (by omega), if_pos hk] at h8
  simp only [Bool.and_eq_true, decide_eq_true_iff] at h8
  have := inoG_small hf id
  unfold wR
  rw [if_neg (by omega), if_neg (by omega)]
  rfl

theorem cut_is {g : Gr} (hf : g.fine) {o : Opn} (hm : mayO o = true) (hk : o.k = 9) (id : St) : (tR (inoG g id).data o.off).1 = GraphMath.bytes (tL (inoG g id).data.data.toList o.off.toNat) := by
  obtain ⟨_, _, _, _, _, _, _, h8⟩ := mayO_parts hm
  unfold dataB at h8
  rw [if_neg (by omega), if_neg (by omega), if_pos hk] at h8
  simp only [Bool.and_eq_true, decide_eq_true_iff] at h8
  have := inoG_small hf id
  unfold tR
  rw [if_neg (by omega), if_neg (by omega)]
  rfl

end Go.Proofs.YthcmgaibbpacfaaGreatDoor

/-
  Plain mathematics of the landed apply: what its questions answer is why an operation can't be done; what its changes make is what an operation makes. It needs no program.
-/
namespace Go.Proofs.YthcmgaibbpacfaaGreatDoor.GraphMath
open StampMath OpMath ExtentMath

/-- The inode that an operation's entry is of. -/
def namedG (g : Gr) (o : Opn) : Option Ino := if lookE g.E (oAt o) o.name = some (oIno o) then getG g (oIno o) else none

/-- The target's inode. -/
def aimG (g : Gr) (o : Opn) : Option Ino := (targetG g o).bind (getG g)

theorem not_false {b : Bool} (h : ¬ b = false) : b = true := by cases b with | false => exact absurd rfl h | true => rfl

theorem kind_none {g : Gr} {id : St} (q : getG g id = none) : kindG g id = 0 := by unfold kindG; rw [q]; rfl

theorem kind_is {g : Gr} (h : g.ok) {id : St} {x : Ino} (q : getG g id = some x) : kindG g id = x.kind ∧ x.id = id ∧ 1 ≤ x.kind ∧ x.kind ≤ 3 ∧ x.links = (linksE g.E id : Int) := by
  obtain ⟨y, hy, h1, h2⟩ := get_some q
  have hk := h.kinds y hy
  refine ⟨by unfold kindG; rw [q]; rfl, by rw [h2]; exact h1, by rw [h2]; exact hk.1, by rw [h2]; exact hk.2, by rw [h2]⟩

theorem Gr.ok.entry {g : Gr} (h : g.ok) {d : St} {nm : ByteArray} {id : St} (q : lookE g.E d nm = some id) : ∃ x, getG g id = some x := by
  unfold lookE at q
  rw [Option.map_eq_some_iff] at q
  obtain ⟨e, he, rfl⟩ := q
  obtain ⟨x, hx, hxe⟩ := h.inos e (List.mem_of_find?_eq_some he)
  exact ⟨_, by rw [← hxe]; exact h.get hx⟩

theorem Gr.ok.list_kind {g : Gr} (h : g.ok) {id : St} (hk : GraphMath.kindG g id ≠ 1) : listE g.E id = [] := h.list_none hk

/-- Why can't an inode be made. -/
def makeB (ba : Bool) (ka : Int) (bn bi : Bool) (n : Int) : Int := if ba = false then 3 else if ka ≠ 1 then 6 else if bn = true ∨ bi = true then 4 else if 40 ≤ n then 13 else 0
def linkB (ba bx : Bool) (ka kx : Int) (bn : Bool) (lx : Int) : Int := if ba = false ∨ bx = false then 3 else if ka ≠ 1 then 6 else if kx = 1 then 5 else if bn = true then 4 else if 6 ≤ lx then 12 else 0
def unlinkB (b : Bool) (k : Int) : Int := if b = false then 3 else if k = 1 then 5 else 0
def rmdirB (b : Bool) (k n : Int) : Int := if b = false then 3 else if k ≠ 1 then 6 else if 0 < n then 7 else 0
def replaceB (k ka n : Int) : Int := if ka = 1 ∧ k ≠ 1 then 5 else if k = 1 ∧ ka ≠ 1 then 6 else if 0 < n then 7 else 0
def fillB (b : Bool) (k : Int) : Int := if b = false then 3 else if k = 1 then 5 else if k = 3 then 8 else 0
def setB (b : Bool) : Int := if b = false then 3 else 0

theorem some_kind {g : Gr} (h : g.ok) (id : St) : (getG g id).isSome = decide (kindG g id ≠ 0) := by
  cases q : getG g id with
  | none => rw [kind_none q]; rfl
  | some x =>
    have := kind_is h q
    rw [Option.isSome_some, this.1]
    exact (decide_eq_true (by omega)).symm

theorem make_why {g : Gr} (h : g.ok) {o : Opn} (hm : mayO o = true) (hk : o.k ≤ 3) :
    whyA g o = makeB (getG g (oAt o)).isSome ((getG g (oAt o)).getD noIno).kind (lookE g.E (oAt o) o.name).isSome (getG g (oSt o)).isSome (g.I.length : Int) := by
  have h4 : o.k ≠ 4 := by omega
  unfold whyA makesW makeB
  rw [if_neg (by rw [hm]; decide), if_pos (by omega), some_kind h, some_kind h, show ((getG g (oAt o)).getD noIno).kind = kindG g (oAt o) from rfl]
  have e40 : (40 ≤ g.I.length) = ((40 : Int) ≤ (g.I.length : Int)) := propext (by omega)
  simp [h4, e40]

theorem link_why' {g : Gr} (h : g.ok) {o : Opn} (hm : mayO o = true) (hk : o.k = 4) :
    whyA g o = linkB (getG g (oAt o)).isSome (getG g (oIno o)).isSome ((getG g (oAt o)).getD noIno).kind ((getG g (oIno o)).getD noIno).kind (lookE g.E (oAt o) o.name).isSome ((getG g (oIno o)).getD noIno).links := by
  unfold whyA makesW linkB
  rw [if_neg (by rw [hm]; decide), if_pos (by omega), some_kind h, some_kind h, show ((getG g (oAt o)).getD noIno).kind = kindG g (oAt o) from rfl, show ((getG g (oIno o)).getD noIno).kind = kindG g (oIno o) from rfl, show ((getG g (oIno o)).getD noIno).links = linksG g (oIno o) from rfl]
  simp [hk]

theorem named_none {g : Gr} (h : g.ok) {o : Opn} : (lookE g.E (oAt o) o.name ≠ some (oIno o) ∨ kindG g (oIno o) = 0) ↔ (namedG g o).isSome = false := by
  unfold namedG
  by_cases q : lookE g.E (oAt o) o.name = some (oIno o)
  · rw [if_pos q, some_kind h]
    simp [q]
  · rw [if_neg q]
    simp [q]

theorem named_kind {g : Gr} {o : Opn} (q : (namedG g o).isSome = true) : ((namedG g o).getD noIno).kind = kindG g (oIno o) := by
  unfold namedG at q ⊢
  split at q
  · rename_i e; rw [if_pos e]; rfl
  · cases q

theorem named_some {g : Gr} (h : g.ok) {o : Opn} {x : Ino} (q : namedG g o = some x) : lookE g.E (oAt o) o.name = some (oIno o) ∧ getG g (oIno o) = some x ∧ x.id = oIno o ∧ kindG g (oIno o) = x.kind := by
  unfold namedG at q
  split at q
  · rename_i e
    have := kind_is h q
    exact ⟨e, q, this.2.1, this.1⟩
  · cases q

theorem unlink_why {g : Gr} (h : g.ok) {o : Opn} (hm : mayO o = true) (hk : o.k = 5) : whyA g o = unlinkB (namedG g o).isSome ((namedG g o).getD noIno).kind := by
  unfold whyA unlinkB
  rw [if_neg (by rw [hm]; decide), if_neg (by omega), if_neg (by omega)]
  by_cases q : (namedG g o).isSome = false
  · rw [if_pos q]
    have := (named_none h).2 q
    rw [if_pos (by rcases this with z | z; exact Or.inl ⟨by omega, z⟩; exact Or.inr z)]
  · rw [if_neg q]
    have hn := mt (named_none h).1 q
    have hn1 : lookE g.E (oAt o) o.name = some (oIno o) := Classical.byContradiction fun z => hn (Or.inl z)
    rw [if_neg (fun z => hn (z.elim (fun y => Or.inl y.2) Or.inr)), named_kind (not_false q)]
    simp [hk]

theorem rmdir_why {g : Gr} (h : g.ok) {o : Opn} (hm : mayO o = true) (hk : o.k = 6) : whyA g o = rmdirB (namedG g o).isSome ((namedG g o).getD noIno).kind ((listE g.E (oIno o)).length : Int) := by
  unfold whyA rmdirB
  rw [if_neg (by rw [hm]; decide), if_neg (by omega), if_neg (by omega)]
  by_cases q : (namedG g o).isSome = false
  · rw [if_pos q]
    have := (named_none h).2 q
    rw [if_pos (by rcases this with z | z; exact Or.inl ⟨by omega, z⟩; exact Or.inr z)]
  · rw [if_neg q]
    have hn := mt (named_none h).1 q
    rw [if_neg (fun z => hn (z.elim (fun y => Or.inl y.2) Or.inr)), named_kind (not_false q)]
    rw [if_neg (by omega)]
    by_cases c : kindG g (oIno o) ≠ 1
    · rw [if_pos ⟨hk, c⟩, if_pos c]
    rw [if_neg (fun z => c z.2), if_neg c]
    by_cases d : 0 < (listE g.E (oIno o)).length
    · rw [if_pos ⟨hk, d⟩, if_pos (by omega)]
    · rw [if_neg (fun z => d z.2), if_neg (by omega), if_neg (by omega)]

theorem fill_why {g : Gr} (h : g.ok) {o : Opn} (hm : mayO o = true) (hk : o.k = 8 ∨ o.k = 9) : whyA g o = fillB (getG g (oIno o)).isSome ((getG g (oIno o)).getD noIno).kind := by
  unfold whyA fillB
  rw [if_neg (by rw [hm]; decide), if_neg (by omega), if_neg (by omega), some_kind h, show ((getG g (oIno o)).getD noIno).kind = kindG g (oIno o) from rfl]
  have h6 : ¬ o.k ≤ 6 := by omega
  have h6' : o.k ≠ 6 := by omega
  simp [h6, h6', hk]

theorem set_why {g : Gr} (h : g.ok) {o : Opn} (hm : mayO o = true) (hk : o.k = 10) : whyA g o = setB (getG g (oIno o)).isSome := by
  unfold whyA setB
  rw [if_neg (by rw [hm]; decide), if_neg (by omega), if_neg (by omega), some_kind h]
  simp [hk]

/-- The target is there, and is its inode; the rest of Rename. -/
theorem rename_none {g : Gr} (h : g.ok) {o : Opn} (hm : mayO o = true) (hk : o.k = 7) (hq : namedG g o = none ∨ getG g (oTo o) = none) : whyA g o = 3 := by
  unfold whyA renamesW
  rw [if_neg (by rw [hm]; decide), if_neg (by omega), if_pos hk]
  rcases hq with q | q
  · have := (named_none h).2 (by rw [q]; rfl)
    rcases this with z | z
    · rw [if_pos (Or.inl z)]
    · by_cases z' : lookE g.E (oAt o) o.name = some (oIno o)
      · obtain ⟨x, hx⟩ := h.entry z'
        have := kind_is h hx
        omega
      · rw [if_pos (Or.inl z')]
  · rw [if_pos (Or.inr (kind_none q))]

theorem aim_none {g : Gr} (h : g.ok) {o : Opn} : aimG g o = none ↔ targetG g o = none := by
  unfold aimG
  cases q : targetG g o with
  | none => simp
  | some t =>
    obtain ⟨x, hx⟩ := h.entry (show lookE g.E (oTo o) o.new = some t from q)
    simp [hx]

theorem aim_some {g : Gr} (h : g.ok) {o : Opn} {t : Ino} (q : aimG g o = some t) : targetG g o = some t.id ∧ getG g t.id = some t ∧ kindG g t.id = t.kind := by
  unfold aimG at q
  cases hq : targetG g o with
  | none => rw [hq] at q; cases q
  | some i =>
    rw [hq] at q
    have q' : getG g i = some t := q
    have := kind_is h q'
    rw [this.2.1]
    exact ⟨rfl, q', this.1⟩

def renameB (k kt : Int) (same un : Bool) (t : Option Ino) (n : Int) : Int := if kt ≠ 1 then 6 else if same = true then 0 else if k = 1 ∧ un = true then 8 else match t with | none => 0 | some t => replaceB k t.kind n

theorem rename_why {g : Gr} (h : g.ok) {o : Opn} (hm : mayO o = true) (hk : o.k = 7) {x t : Ino} (hx : namedG g o = some x) (ht : getG g (oTo o) = some t) :
    whyA g o = renameB x.kind t.kind (match aimG g o with | none => false | some a => decide (a.id = oIno o)) (underG g (oTo o) (oIno o)) (aimG g o) (match aimG g o with | none => 0 | some a => ((listE g.E a.id).length : Int)) := by
  obtain ⟨n1, n2, n3, n4⟩ := named_some h hx
  have t1 := kind_is h ht
  unfold whyA renamesW renameB
  rw [if_neg (by rw [hm]; decide), if_neg (by omega), if_pos hk, if_neg (by rw [n1, t1.1]; rintro (z | z); exact z rfl; omega), t1.1, n4]
  by_cases c1 : t.kind ≠ 1
  · rw [if_pos c1, if_pos c1]
  rw [if_neg c1, if_neg c1]
  cases hq : aimG g o with
  | none =>
    have ha := (aim_none h).1 hq
    rw [ha]
    simp
  | some a =>
    obtain ⟨a1, a2, a3⟩ := aim_some h hq
    rw [a1]
    dsimp only
    by_cases c2 : a.id = oIno o
    · rw [if_pos (by rw [c2]), if_pos (decide_eq_true c2)]
    rw [if_neg (fun z => c2 (Option.some.inj z)), if_neg (show ¬ decide (a.id = oIno o) = true by simpa using c2)]
    by_cases c3 : x.kind = 1 ∧ underG g (oTo o) (oIno o) = true
    · rw [if_pos c3, if_pos c3]
    rw [if_neg c3, if_neg c3]
    unfold replaceB
    simp only [Option.isSome_some, Option.getD_some, true_and, a3]
    by_cases c4 : a.kind = 1
    · by_cases d : 0 < (listE g.E a.id).length
      · have d' : (0 : Int) < ((listE g.E a.id).length : Int) := by omega
        simp only [c4, d, d', and_true, if_true, ne_eq, not_true_eq_false, and_false, if_false, true_and]
      · have d' : ¬ (0 : Int) < ((listE g.E a.id).length : Int) := by omega
        simp only [c4, d, d', ne_eq, not_true_eq_false, and_false, if_false, true_and]
    · have hl : listE g.E a.id = [] := h.list_none (by rw [a3]; exact c4)
      simp [c4, hl]

/-- What goes with its last name. -/
theorem gone_drop {g : Gr} (h : g.ok) (d : St) (nm : ByteArray) : (dropG (untieG g d nm).1 (untieG g d nm).2.1).1 = goneG g d nm := by
  unfold goneG
  by_cases c : linksE (untieG g d nm).1.E (untieG g d nm).2.1 = 0
  · rw [if_pos c]
  · rw [if_neg c]
    have hok := h.untie d nm
    unfold dropG
    split
    · rfl
    · rename_i x hx
      have hi := (kind_is hok hx).2.2.2.2
      split
      · rfl
      · rw [if_pos (Or.inl (by rw [hi]; omega))]

/-- What Rename makes, by the target's inode. -/
theorem rename_made {g : Gr} (h : g.ok) {o : Opn} (hk : o.k = 7) : madeA g o = match aimG g o with
    | none => tie1 (untieG g (oAt o) o.name).1 (oTo o) o.new (oIno o)
    | some a => if a.id = oIno o then g else tie1 (untieG (goneG g (oTo o) o.new) (oAt o) o.name).1 (oTo o) o.new (oIno o) := by
  unfold madeA
  rw [if_neg (by omega), if_neg (by omega), if_neg (by omega), if_pos hk]
  cases hq : aimG g o with
  | none =>
    rw [(aim_none h).1 hq]
    simp
  | some a =>
    rw [(aim_some h hq).1]
    by_cases c : a.id = oIno o
    · simp [c]
    · simp [c]

theorem add_made {g : Gr} {o : Opn} (hk : 1 ≤ o.k) (hk3 : o.k ≤ 3) : madeA g o = (tieG (nameB o.name) (setG (makeG g (oSt o) (makesO o)).1 (oSt o) 0 o.data).1 ⟨oAt o, o.name, oSt o⟩).1 := by
  unfold madeA makesO
  rw [if_pos hk3, if_pos ⟨hk, hk3⟩]
  rfl

theorem link_made {g : Gr} {o : Opn} (hk : o.k = 4) : madeA g o = (tieG (nameB o.name) g ⟨oAt o, o.name, oIno o⟩).1 := by
  unfold madeA
  rw [if_neg (by omega), if_pos hk]
  rfl

theorem take_made {g : Gr} {o : Opn} (hk : o.k = 5 ∨ o.k = 6) : madeA g o = goneG g (oAt o) o.name := by
  unfold madeA
  rw [if_neg (by omega), if_neg (by omega), if_pos (by omega)]

/-- What is written is the inode's that there is. -/
theorem kept_id {g : Gr} (h : g.ok) {o : Opn} (hw : whyA g o = 0) (hk : 8 ≤ o.k) (h10 : o.k ≤ 10) : (inoG g (oIno o)).id = oIno o := by
  have hk0 : kindG g (oIno o) ≠ 0 := fun q => by
    unfold whyA at hw
    split at hw
    · cases hw
    · rw [if_neg (by omega), if_neg (by omega), if_pos (Or.inr q)] at hw
      cases hw
  obtain ⟨x, hx⟩ := h.there hk0
  have := kind_is h hx
  unfold inoG
  rw [hx]
  exact this.2.1

theorem write_made {g : Gr} (hf : g.fine) {o : Opn} (hm : mayO o = true) (hk : o.k = 8) : madeA g o = (setG g (oIno o) (inoG g (oIno o)).mode (wR (inoG g (oIno o)).data o.off o.data).1).1 := by
  rw [wrote_is hf hm hk]
  unfold madeA
  rw [if_neg (by omega), if_neg (by omega), if_neg (by omega), if_neg (by omega), if_pos hk]

theorem trunc_made {g : Gr} (hf : g.fine) {o : Opn} (hm : mayO o = true) (hk : o.k = 9) : madeA g o = (setG g (oIno o) (inoG g (oIno o)).mode (tR (inoG g (oIno o)).data o.off).1).1 := by
  rw [cut_is hf hm hk]
  unfold madeA
  rw [if_neg (by omega), if_neg (by omega), if_neg (by omega), if_neg (by omega), if_neg (by omega), if_pos hk]

theorem mode_made {g : Gr} {o : Opn} (hk : o.k = 10) : madeA g o = (setG g (oIno o) o.off (inoG g (oIno o)).data).1 := by
  unfold madeA
  rw [if_neg (by omega), if_neg (by omega), if_neg (by omega), if_neg (by omega), if_neg (by omega), if_neg (by omega)]

end Go.Proofs.YthcmgaibbpacfaaGreatDoor.GraphMath

/-
  The landed apply: a deed in memory; what it asks of a graph.
-/
namespace Go.Proofs.YthcmgaibbpacfaaGreatDoor
open Go.RowKit StampMath GraphMath OpMath PackMath

/-- A deed: a graph, and an operation. -/
def deedA (a : Addr) (o : Opn) : Array Value := #[.pointer (some a), .int .i64 o.st, .int .i64 o.sr, .int .i64 o.k, .int .i64 o.pt, .int .i64 o.pr, .int .i64 o.it, .int .i64 o.ir, .int .i64 o.tt, .int .i64 o.tr, .string o.name, .string o.new, .int .i64 o.off, .string o.data]

theorem deed_cells {w : World} {g : Nat} {a : Addr} {o : Opn} {T : TypeId} (h : w.heap[g]? = some (.cells (deedA a o) T (0, 0))) :
    w.cell? ⟨g, 0, none⟩ = some (.pointer (some a)) ∧ w.cell? ⟨g, 1, none⟩ = some (.int .i64 o.st) ∧ w.cell? ⟨g, 2, none⟩ = some (.int .i64 o.sr) ∧ w.cell? ⟨g, 3, none⟩ = some (.int .i64 o.k) ∧ w.cell? ⟨g, 4, none⟩ = some (.int .i64 o.pt) ∧ w.cell? ⟨g, 5, none⟩ = some (.int .i64 o.pr) ∧
    w.cell? ⟨g, 6, none⟩ = some (.int .i64 o.it) ∧ w.cell? ⟨g, 7, none⟩ = some (.int .i64 o.ir) ∧ w.cell? ⟨g, 8, none⟩ = some (.int .i64 o.tt) ∧ w.cell? ⟨g, 9, none⟩ = some (.int .i64 o.tr) ∧
    w.cell? ⟨g, 10, none⟩ = some (.string o.name) ∧ w.cell? ⟨g, 11, none⟩ = some (.string o.new) ∧ w.cell? ⟨g, 12, none⟩ = some (.int .i64 o.off) ∧ w.cell? ⟨g, 13, none⟩ = some (.string o.data) :=
  ⟨cell_of_row _ _ 0 _ _ (0, 0) h, cell_of_row _ _ 1 _ _ (0, 0) h, cell_of_row _ _ 2 _ _ (0, 0) h, cell_of_row _ _ 3 _ _ (0, 0) h, cell_of_row _ _ 4 _ _ (0, 0) h, cell_of_row _ _ 5 _ _ (0, 0) h, cell_of_row _ _ 6 _ _ (0, 0) h,
    cell_of_row _ _ 7 _ _ (0, 0) h, cell_of_row _ _ 8 _ _ (0, 0) h, cell_of_row _ _ 9 _ _ (0, 0) h, cell_of_row _ _ 10 _ _ (0, 0) h, cell_of_row _ _ 11 _ _ (0, 0) h, cell_of_row _ _ 12 _ _ (0, 0) h, cell_of_row _ _ 13 _ _ (0, 0) h⟩

theorem rep_below {H : GraphHave} {a : Addr} {S : Nat → Prop} {g : Gr} {w W : World} (h : H.rep w S a g) (hb : Below w.heap.size w W) : H.rep W S a g := H.keep h fun i hi => hb.block i (H.lt h i hi)

set_option maxRecDepth 100000 in
theorem dirQ_code (x : Ino) (w : World) :
    Calls Tryz.prog 157 #[.agg (inoA x)] w fun e w' => e = .returned (.bool (x.kind == 1)) ∧ Below w.heap.size w w' := by
  unfold inoA
  go_enter Tryz.func157, Tryz.ntmps157
  go_wp2_with fail
  go_ret
  exact ⟨rfl, (Below.refl _ _).alloc (Nat.le_refl _) _⟩

set_option maxRecDepth 100000 in
theorem fullQ_code (H : GraphHave) (a : Addr) (S : Nat → Prop) (g : Gr) (o : Opn) (d : St) (w : World) (h : H.rep w S a g) (hg : g.ok) :
    Calls Tryz.prog 159 #[.agg (deedA a o), .agg (stA d)] w fun e w' => e = .returned (.bool (decide (0 < (listE g.E d).length))) ∧ Below w.heap.size w w' := by
  have LI : Hid (∀ W : World, Below w.heap.size w W → Calls Tryz.prog 82 #[.pointer (some a), .agg #[.int .i64 d.1, .int .i64 d.2]] W fun e w' => ∃ B c, e = .returned (.slice B (listE g.E d).length c) ∧ Below W.heap.size W w') := Lib.hid fun W hW => by
    refine (H.list a S g d W (rep_below h hW) hg).mono ?_
    rintro e w' ⟨v, rfl, hown, hb⟩
    obtain ⟨B, c, rfl, _⟩ := ents_own rfl hown
    exact ⟨B, c, rfl, hb⟩
  generalize (listE g.E d).length = n at LI ⊢
  clear h hg
  have hb0 : Below w.heap.size w ((w.alloc (.cells (deedA a o) 116)).alloc (.cells (stA d) 24)) := ((Below.refl _ _).alloc (Nat.le_refl _) _).alloc (by simp) _
  unfold deedA stA at hb0 ⊢
  have hcase : (decide (0 < n) = true ∧ decide ((n : Int) > 0) = true) ∨ (decide (0 < n) = false ∧ decide ((n : Int) > 0) = false) := by
    by_cases hn : 0 < n
    · exact Or.inl ⟨decide_eq_true hn, decide_eq_true (by omega)⟩
    · exact Or.inr ⟨decide_eq_false hn, decide_eq_false (by omega)⟩
  rcases hcase with ⟨h1, h2⟩ | ⟨h1, h2⟩
  all_goals
    rw [h1]
    clear h1
    go_enter Tryz.func159, Tryz.ntmps159
    go_wp2_with fail
    refine (LI.out _ hb0).mono ?_
    rintro e w1 ⟨B, c, rfl, hb1⟩
    have hb2 := below_step hb0 hb1
    clear hb0 hb1 LI
    go_wp2_with fail
    go_ret
    exact ⟨by simp at h2 ⊢; omega, hb2⟩

end Go.Proofs.YthcmgaibbpacfaaGreatDoor

/-
  The landed apply: why an inode can't be made, or have one entry more.
-/
namespace Go.Proofs.YthcmgaibbpacfaaGreatDoor
open Go.RowKit StampMath GraphMath OpMath PackMath

set_option maxRecDepth 100000 in
set_option maxHeartbeats 3200000 in
theorem whyMake_code (H : GraphHave) (a : Addr) (S : Nat → Prop) (g : Gr) (o : Opn) (w : World) (h : H.rep w S a g) (hg : g.ok) (hm : mayO o = true) (hk : o.k ≤ 3) (hn : o.name.size ≤ maxLen) :
    Calls Tryz.prog 121 #[.agg (deedA a o)] w fun e w' => e = .returned (.int .i64 (whyA g o)) ∧ Below w.heap.size w w' := by
  obtain ⟨r, hr⟩ : ∃ r, r = whyA g o := ⟨_, rfl⟩
  rw [← hr]
  obtain ⟨xa, hxa⟩ : ∃ xa, xa = (getG g (oAt o)).getD noIno := ⟨_, rfl⟩
  obtain ⟨ba, hba⟩ : ∃ ba, ba = (getG g (oAt o)).isSome := ⟨_, rfl⟩
  obtain ⟨t, ht⟩ : ∃ t, t = (lookE g.E (oAt o) o.name).getD (0, 0) := ⟨_, rfl⟩
  obtain ⟨bn, hbn⟩ : ∃ bn, bn = (lookE g.E (oAt o) o.name).isSome := ⟨_, rfl⟩
  obtain ⟨xs, hxs⟩ : ∃ xs, xs = (getG g (oSt o)).getD noIno := ⟨_, rfl⟩
  obtain ⟨bi, hbi⟩ : ∃ bi, bi = (getG g (oSt o)).isSome := ⟨_, rfl⟩
  obtain ⟨kd, hkd⟩ : ∃ kd, kd = (xa.kind == 1) := ⟨_, rfl⟩
  obtain ⟨n, hn'⟩ : ∃ n, n = g.I.length := ⟨_, rfl⟩
  have GA : Hid (∀ W : World, Below w.heap.size w W → Calls Tryz.prog 81 #[.pointer (some a), .agg #[.int .i64 o.pt, .int .i64 o.pr]] W fun e w' => e = .returned (.tuple #[.agg #[.int .i64 xa.id.1, .int .i64 xa.id.2, .int .i64 xa.kind, .int .i64 xa.links, .int .i64 xa.mode, .string xa.data], .bool ba]) ∧ Below W.heap.size W w') := Lib.hid fun W hW => by
    rw [hxa, hba]
    exact H.get a S g (oAt o) W (rep_below h hW) hg
  have LK : Hid (∀ W : World, Below w.heap.size w W → Calls Tryz.prog 79 #[.pointer (some a), .agg #[.int .i64 o.pt, .int .i64 o.pr], .string o.name] W fun e w' => e = .returned (.tuple #[.agg #[.int .i64 t.1, .int .i64 t.2], .bool bn]) ∧ Below W.heap.size W w') := Lib.hid fun W hW => by
    rw [ht, hbn]
    exact H.look a S g (oAt o) o.name W (rep_below h hW) hg hn
  have GS : Hid (∀ W : World, Below w.heap.size w W → Calls Tryz.prog 81 #[.pointer (some a), .agg #[.int .i64 o.st, .int .i64 o.sr]] W fun e w' => e = .returned (.tuple #[.agg #[.int .i64 xs.id.1, .int .i64 xs.id.2, .int .i64 xs.kind, .int .i64 xs.links, .int .i64 xs.mode, .string xs.data], .bool bi]) ∧ Below W.heap.size W w') := Lib.hid fun W hW => by
    rw [hxs, hbi]
    exact H.get a S g (oSt o) W (rep_below h hW) hg
  have DA : Hid (∀ W : World, Below w.heap.size w W → Calls Tryz.prog 157 #[.agg #[.int .i64 xa.id.1, .int .i64 xa.id.2, .int .i64 xa.kind, .int .i64 xa.links, .int .i64 xa.mode, .string xa.data]] W fun e w' => e = .returned (.bool kd) ∧ Below W.heap.size W w') := Lib.hid fun W hW => by
    rw [hkd]
    exact dirQ_code xa W
  have IN : Hid (∀ W : World, Below w.heap.size w W → Calls Tryz.prog 25 #[.pointer (some a)] W fun e w' => ∃ B c, e = .returned (.slice B n c) ∧ Below W.heap.size W w') := Lib.hid fun W hW => by
    rw [hn']
    refine (H.inodes a S g W (rep_below h hW) hg).mono ?_
    rintro e w' ⟨v, rfl, hown, hb⟩
    obtain ⟨B, c, rfl, _⟩ := inos_own rfl hown
    exact ⟨B, c, by rw [hg.inodes, List.length_map], hb⟩
  have hr2 : r = if ba = false then 3 else if kd = false then 6 else if bn = true ∨ bi = true then 4 else if (40 : Int) ≤ (n : Int) then 13 else 0 := by
    rw [hr, make_why hg hm hk, ← hxa, ← hba, ← hbn, ← hbi, ← hn', hkd]
    unfold makeB
    simp
  have HR := Lib.hid hr2
  have hH0 : Held w [(w.heap.size, .cells (deedA a o) 116)] (w.alloc (.cells (deedA a o) 116)) := (Held.refl w).alloc (.cells (deedA a o) 116) rfl
  clear h hr hr2 hxa hba ht hbn hxs hbi hkd hn' hg hm hk hn
  go_enter Tryz.func121, Tryz.ntmps121
  go_upto_region 1 with fail
  change Code.wp _ _ _ _ (w.alloc (.cells (deedA a o) 116))
  generalize w.alloc (.cells (deedA a o) 116) = v0 at hH0 ⊢
  obtain ⟨d0, d1, d2, d3, d4, d5, d6, d7, d8, d9, d10, d11, d12, d13⟩ := deed_cells (g := w.heap.size) (hH0.at 0 rfl)
  go_wp2_with fail
  refine (GA.out _ hH0.below).mono ?_
  rintro e y0 ⟨rfl, hb0⟩
  have hH1 := hH0.step hb0
  clear hH0 hb0 d0 d1 d2 d3 d4 d5 d6 d7 d8 d9 d10 d11 d12 d13 GA
  go_upto_region 2 with fail
  obtain ⟨u0, hu0⟩ : ∃ u, u = y0.heap.size := ⟨_, rfl⟩
  have hl0 : w.heap.size < u0 := by rw [hu0]; exact heap_lt (hH1.at 0 rfl)
  have hH2 := hH1.alloc (.cells (inoA xa) 70) hu0.symm
  change Code.wp _ _ _ _ (y0.alloc (.cells (inoA xa) 70))
  rw [← hu0]
  generalize y0.alloc (.cells (inoA xa) 70) = v1 at hH2 ⊢
  clear hH1 hu0
  obtain ⟨d0, d1, d2, d3, d4, d5, d6, d7, d8, d9, d10, d11, d12, d13⟩ := deed_cells (g := w.heap.size) (hH2.at 1 rfl)
  go_wp2_with fail
  refine (LK.out _ hH2.below).mono ?_
  rintro e y1 ⟨rfl, hb1⟩
  have hH3 := hH2.step hb1
  clear hH2 hb1 d0 d1 d2 d3 d4 d5 d6 d7 d8 d9 d10 d11 d12 d13 LK
  go_upto_region 3 with fail
  obtain ⟨u1, hu1⟩ : ∃ u, u = y1.heap.size := ⟨_, rfl⟩
  have hl1 : w.heap.size < u1 := by rw [hu1]; exact heap_lt (hH3.at 1 rfl)
  have hH4 := hH3.alloc (.cells (stA t) 24) hu1.symm
  change Code.wp _ _ _ _ (y1.alloc (.cells (stA t) 24))
  rw [← hu1]
  generalize y1.alloc (.cells (stA t) 24) = v2 at hH4 ⊢
  clear hH3 hu1
  obtain ⟨d0, d1, d2, d3, d4, d5, d6, d7, d8, d9, d10, d11, d12, d13⟩ := deed_cells (g := w.heap.size) (hH4.at 2 rfl)
  go_wp2_with fail
  refine (GS.out _ hH4.below).mono ?_
  rintro e y2 ⟨rfl, hb2⟩
  have hH5 := hH4.step hb2
  clear hH4 hb2 d0 d1 d2 d3 d4 d5 d6 d7 d8 d9 d10 d11 d12 d13 GS
  go_upto_region 4 with fail
  obtain ⟨u2, hu2⟩ : ∃ u, u = y2.heap.size := ⟨_, rfl⟩
  have hl2 : w.heap.size < u2 := by rw [hu2]; exact heap_lt (hH5.at 2 rfl)
  have hH6 := hH5.alloc (.cells (inoA xs) 70) hu2.symm
  change Code.wp _ _ _ _ (y2.alloc (.cells (inoA xs) 70))
  rw [← hu2]
  generalize y2.alloc (.cells (inoA xs) 70) = v3 at hH6 ⊢
  clear hH5 hu2
  have O := Lib.hid (fun y => deed_cells (g := w.heap.size) (((later_below v3 y).block _ (heap_lt (hH6.at 3 rfl))).trans (hH6.at 3 rfl)))
  have d0 := fun y => (O.out y).1
  have d1 := fun y => (O.out y).2.1
  have d2 := fun y => (O.out y).2.2.1
  have d3 := fun y => (O.out y).2.2.2.1
  have d4 := fun y => (O.out y).2.2.2.2.1
  have d5 := fun y => (O.out y).2.2.2.2.2.1
  have d6 := fun y => (O.out y).2.2.2.2.2.2.1
  have d7 := fun y => (O.out y).2.2.2.2.2.2.2.1
  have d8 := fun y => (O.out y).2.2.2.2.2.2.2.2.1
  have d9 := fun y => (O.out y).2.2.2.2.2.2.2.2.2.1
  have d10 := fun y => (O.out y).2.2.2.2.2.2.2.2.2.2.1
  have d11 := fun y => (O.out y).2.2.2.2.2.2.2.2.2.2.2.1
  have d12 := fun y => (O.out y).2.2.2.2.2.2.2.2.2.2.2.2.1
  have d13 := fun y => (O.out y).2.2.2.2.2.2.2.2.2.2.2.2.2
  have X0 := Lib.hid (fun y => ino_cells (g := u0) (((later_below v3 y).block _ (heap_lt (hH6.at 2 rfl))).trans (hH6.at 2 rfl)))
  have x00 := fun y => (X0.out y).1
  have x01 := fun y => (X0.out y).2.1
  have x02 := fun y => (X0.out y).2.2.1
  have x03 := fun y => (X0.out y).2.2.2.1
  have x04 := fun y => (X0.out y).2.2.2.2.1
  have x05 := fun y => (X0.out y).2.2.2.2.2
  clear X0
  have X2 := Lib.hid (fun y => ino_cells (g := u2) (((later_below v3 y).block _ (heap_lt (hH6.at 0 rfl))).trans (hH6.at 0 rfl)))
  have x20 := fun y => (X2.out y).1
  have x21 := fun y => (X2.out y).2.1
  have x22 := fun y => (X2.out y).2.2.1
  have x23 := fun y => (X2.out y).2.2.2.1
  have x24 := fun y => (X2.out y).2.2.2.2.1
  have x25 := fun y => (X2.out y).2.2.2.2.2
  clear X2
  have HB := Lib.hid hH6.below
  have DA' : Hid (∀ y, Calls Tryz.prog 157 #[.agg #[.int .i64 xa.id.1, .int .i64 xa.id.2, .int .i64 xa.kind, .int .i64 xa.links, .int .i64 xa.mode, .string xa.data]] (later v3 y) fun e w' => e = .returned (.bool kd) ∧ ∃ z, w' = later v3 z) := Lib.hid fun y => later_call (DA.out _ (below_step HB.out (later_below v3 y)))
  have IN' : Hid (∀ y, Calls Tryz.prog 25 #[.pointer (some a)] (later v3 y) fun e w' => ∃ B c, e = .returned (.slice B n c) ∧ ∃ z, w' = later v3 z) := Lib.hid fun y => (IN.out _ (below_step HB.out (later_below v3 y))).mono fun _ w' ⟨B, c, he, hb⟩ => ⟨B, c, he, w', (later_of (below_step (later_below v3 y) hb)).symm⟩
  rw [show v3 = later v3 v3 from (later_of (Below.refl _ _)).symm]
  clear hH6 O DA IN
  go_wp2_with fail
  iterate 5
    all_goals first
      | ((fail_if_success (go_at_call 157)); (fail_if_success (go_at_call 25)); go_ret; exact ⟨by rw [HR.out]; clear d0 d1 d2 d3 d4 d5 d6 d7 d8 d9 d10 d11 d12 d13 x00 x01 x02 x03 x04 x05 x20 x21 x22 x23 x24 x25 DA' IN' HB HR; simp_all, below_step HB.out (later_below v3 _)⟩)
      | (go_at_call 157; (with_reducible refine (DA'.out _).mono ?_); rintro z w5 ⟨rfl, y5, rfl⟩; go_wp2_with fail)
      | (go_at_call 25; (with_reducible refine (IN'.out _).mono ?_); rintro z w5 ⟨B, c, rfl, y5, rfl⟩; go_wp2_with fail)
      | skip

set_option maxRecDepth 100000 in
set_option maxHeartbeats 3200000 in
theorem whyLink_code (H : GraphHave) (a : Addr) (S : Nat → Prop) (g : Gr) (o : Opn) (w : World) (h : H.rep w S a g) (hg : g.ok) (hm : mayO o = true) (hk : o.k = 4) (hn : o.name.size ≤ maxLen) :
    Calls Tryz.prog 122 #[.agg (deedA a o)] w fun e w' => e = .returned (.int .i64 (whyA g o)) ∧ Below w.heap.size w w' := by
  obtain ⟨r, hr⟩ : ∃ r, r = whyA g o := ⟨_, rfl⟩
  rw [← hr]
  obtain ⟨xa, hxa⟩ : ∃ xa, xa = (getG g (oAt o)).getD noIno := ⟨_, rfl⟩
  obtain ⟨ba, hba⟩ : ∃ ba, ba = (getG g (oAt o)).isSome := ⟨_, rfl⟩
  obtain ⟨xi, hxi⟩ : ∃ xi, xi = (getG g (oIno o)).getD noIno := ⟨_, rfl⟩
  obtain ⟨bx, hbx⟩ : ∃ bx, bx = (getG g (oIno o)).isSome := ⟨_, rfl⟩
  obtain ⟨t, ht⟩ : ∃ t, t = (lookE g.E (oAt o) o.name).getD (0, 0) := ⟨_, rfl⟩
  obtain ⟨bn, hbn⟩ : ∃ bn, bn = (lookE g.E (oAt o) o.name).isSome := ⟨_, rfl⟩
  obtain ⟨kd, hkd⟩ : ∃ kd, kd = (xa.kind == 1) := ⟨_, rfl⟩
  obtain ⟨ki, hki⟩ : ∃ ki, ki = (xi.kind == 1) := ⟨_, rfl⟩
  have GA : Hid (∀ W : World, Below w.heap.size w W → Calls Tryz.prog 81 #[.pointer (some a), .agg #[.int .i64 o.pt, .int .i64 o.pr]] W fun e w' => e = .returned (.tuple #[.agg #[.int .i64 xa.id.1, .int .i64 xa.id.2, .int .i64 xa.kind, .int .i64 xa.links, .int .i64 xa.mode, .string xa.data], .bool ba]) ∧ Below W.heap.size W w') := Lib.hid fun W hW => by
    rw [hxa, hba]
    exact H.get a S g (oAt o) W (rep_below h hW) hg
  have GI : Hid (∀ W : World, Below w.heap.size w W → Calls Tryz.prog 81 #[.pointer (some a), .agg #[.int .i64 o.it, .int .i64 o.ir]] W fun e w' => e = .returned (.tuple #[.agg #[.int .i64 xi.id.1, .int .i64 xi.id.2, .int .i64 xi.kind, .int .i64 xi.links, .int .i64 xi.mode, .string xi.data], .bool bx]) ∧ Below W.heap.size W w') := Lib.hid fun W hW => by
    rw [hxi, hbx]
    exact H.get a S g (oIno o) W (rep_below h hW) hg
  have LK : Hid (∀ W : World, Below w.heap.size w W → Calls Tryz.prog 79 #[.pointer (some a), .agg #[.int .i64 o.pt, .int .i64 o.pr], .string o.name] W fun e w' => e = .returned (.tuple #[.agg #[.int .i64 t.1, .int .i64 t.2], .bool bn]) ∧ Below W.heap.size W w') := Lib.hid fun W hW => by
    rw [ht, hbn]
    exact H.look a S g (oAt o) o.name W (rep_below h hW) hg hn
  have DA : Hid (∀ W : World, Below w.heap.size w W → Calls Tryz.prog 157 #[.agg #[.int .i64 xa.id.1, .int .i64 xa.id.2, .int .i64 xa.kind, .int .i64 xa.links, .int .i64 xa.mode, .string xa.data]] W fun e w' => e = .returned (.bool kd) ∧ Below W.heap.size W w') := Lib.hid fun W hW => by
    rw [hkd]
    exact dirQ_code xa W
  have DI : Hid (∀ W : World, Below w.heap.size w W → Calls Tryz.prog 157 #[.agg #[.int .i64 xi.id.1, .int .i64 xi.id.2, .int .i64 xi.kind, .int .i64 xi.links, .int .i64 xi.mode, .string xi.data]] W fun e w' => e = .returned (.bool ki) ∧ Below W.heap.size W w') := Lib.hid fun W hW => by
    rw [hki]
    exact dirQ_code xi W
  have hr2 : r = if ba = false ∨ bx = false then 3 else if kd = false then 6 else if ki = true then 5 else if bn = true then 4 else if (6 : Int) ≤ xi.links then 12 else 0 := by
    rw [hr, link_why' hg hm hk, ← hxa, ← hba, ← hxi, ← hbx, ← hbn, hkd, hki]
    unfold linkB
    simp
  have HR := Lib.hid hr2
  have hH0 : Held w [(w.heap.size, .cells (deedA a o) 116)] (w.alloc (.cells (deedA a o) 116)) := (Held.refl w).alloc (.cells (deedA a o) 116) rfl
  clear h hr hr2 hxa hba hxi hbx ht hbn hkd hki hg hm hk hn
  go_enter Tryz.func122, Tryz.ntmps122
  go_upto_region 1 with fail
  change Code.wp _ _ _ _ (w.alloc (.cells (deedA a o) 116))
  generalize w.alloc (.cells (deedA a o) 116) = v0 at hH0 ⊢
  obtain ⟨d0, d1, d2, d3, d4, d5, d6, d7, d8, d9, d10, d11, d12, d13⟩ := deed_cells (g := w.heap.size) (hH0.at 0 rfl)
  go_wp2_with fail
  refine (GA.out _ hH0.below).mono ?_
  rintro e y0 ⟨rfl, hb0⟩
  have hH1 := hH0.step hb0
  clear hH0 hb0 d0 d1 d2 d3 d4 d5 d6 d7 d8 d9 d10 d11 d12 d13 GA
  go_upto_region 2 with fail
  obtain ⟨u0, hu0⟩ : ∃ u, u = y0.heap.size := ⟨_, rfl⟩
  have hl0 : w.heap.size < u0 := by rw [hu0]; exact heap_lt (hH1.at 0 rfl)
  have hH2 := hH1.alloc (.cells (inoA xa) 70) hu0.symm
  change Code.wp _ _ _ _ (y0.alloc (.cells (inoA xa) 70))
  rw [← hu0]
  generalize y0.alloc (.cells (inoA xa) 70) = v1 at hH2 ⊢
  clear hH1 hu0
  obtain ⟨d0, d1, d2, d3, d4, d5, d6, d7, d8, d9, d10, d11, d12, d13⟩ := deed_cells (g := w.heap.size) (hH2.at 1 rfl)
  go_wp2_with fail
  refine (GI.out _ hH2.below).mono ?_
  rintro e y1 ⟨rfl, hb1⟩
  have hH3 := hH2.step hb1
  clear hH2 hb1 d0 d1 d2 d3 d4 d5 d6 d7 d8 d9 d10 d11 d12 d13 GI
  go_upto_region 3 with fail
  obtain ⟨u1, hu1⟩ : ∃ u, u = y1.heap.size := ⟨_, rfl⟩
  have hl1 : w.heap.size < u1 := by rw [hu1]; exact heap_lt (hH3.at 1 rfl)
  have hH4 := hH3.alloc (.cells (inoA xi) 70) hu1.symm
  change Code.wp _ _ _ _ (y1.alloc (.cells (inoA xi) 70))
  rw [← hu1]
  generalize y1.alloc (.cells (inoA xi) 70) = v2 at hH4 ⊢
  clear hH3 hu1
  obtain ⟨d0, d1, d2, d3, d4, d5, d6, d7, d8, d9, d10, d11, d12, d13⟩ := deed_cells (g := w.heap.size) (hH4.at 2 rfl)
  go_wp2_with fail
  refine (LK.out _ hH4.below).mono ?_
  rintro e y2 ⟨rfl, hb2⟩
  have hH5 := hH4.step hb2
  clear hH4 hb2 d0 d1 d2 d3 d4 d5 d6 d7 d8 d9 d10 d11 d12 d13 LK
  go_upto_region 4 with fail
  obtain ⟨u2, hu2⟩ : ∃ u, u = y2.heap.size := ⟨_, rfl⟩
  have hl2 : w.heap.size < u2 := by rw [hu2]; exact heap_lt (hH5.at 2 rfl)
  have hH6 := hH5.alloc (.cells (stA t) 24) hu2.symm
  change Code.wp _ _ _ _ (y2.alloc (.cells (stA t) 24))
  rw [← hu2]
  generalize y2.alloc (.cells (stA t) 24) = v3 at hH6 ⊢
  clear hH5 hu2
  have O := Lib.hid (fun y => deed_cells (g := w.heap.size) (((later_below v3 y).block _ (heap_lt (hH6.at 3 rfl))).trans (hH6.at 3 rfl)))
  have d0 := fun y => (O.out y).1
  have d1 := fun y => (O.out y).2.1
  have d2 := fun y => (O.out y).2.2.1
  have d3 := fun y => (O.out y).2.2.2.1
  have d4 := fun y => (O.out y).2.2.2.2.1
  have d5 := fun y => (O.out y).2.2.2.2.2.1
  have d6 := fun y => (O.out y).2.2.2.2.2.2.1
  have d7 := fun y => (O.out y).2.2.2.2.2.2.2.1
  have d8 := fun y => (O.out y).2.2.2.2.2.2.2.2.1
  have d9 := fun y => (O.out y).2.2.2.2.2.2.2.2.2.1
  have d10 := fun y => (O.out y).2.2.2.2.2.2.2.2.2.2.1
  have d11 := fun y => (O.out y).2.2.2.2.2.2.2.2.2.2.2.1
  have d12 := fun y => (O.out y).2.2.2.2.2.2.2.2.2.2.2.2.1
  have d13 := fun y => (O.out y).2.2.2.2.2.2.2.2.2.2.2.2.2
  have X0 := Lib.hid (fun y => ino_cells (g := u0) (((later_below v3 y).block _ (heap_lt (hH6.at 2 rfl))).trans (hH6.at 2 rfl)))
  have x00 := fun y => (X0.out y).1
  have x01 := fun y => (X0.out y).2.1
  have x02 := fun y => (X0.out y).2.2.1
  have x03 := fun y => (X0.out y).2.2.2.1
  have x04 := fun y => (X0.out y).2.2.2.2.1
  have x05 := fun y => (X0.out y).2.2.2.2.2
  clear X0
  have X1 := Lib.hid (fun y => ino_cells (g := u1) (((later_below v3 y).block _ (heap_lt (hH6.at 1 rfl))).trans (hH6.at 1 rfl)))
  have x10 := fun y => (X1.out y).1
  have x11 := fun y => (X1.out y).2.1
  have x12 := fun y => (X1.out y).2.2.1
  have x13 := fun y => (X1.out y).2.2.2.1
  have x14 := fun y => (X1.out y).2.2.2.2.1
  have x15 := fun y => (X1.out y).2.2.2.2.2
  clear X1
  have HB := Lib.hid hH6.below
  have DA' : Hid (∀ y, Calls Tryz.prog 157 #[.agg #[.int .i64 xa.id.1, .int .i64 xa.id.2, .int .i64 xa.kind, .int .i64 xa.links, .int .i64 xa.mode, .string xa.data]] (later v3 y) fun e w' => e = .returned (.bool kd) ∧ ∃ z, w' = later v3 z) := Lib.hid fun y => later_call (DA.out _ (below_step HB.out (later_below v3 y)))
  have DI' : Hid (∀ y, Calls Tryz.prog 157 #[.agg #[.int .i64 xi.id.1, .int .i64 xi.id.2, .int .i64 xi.kind, .int .i64 xi.links, .int .i64 xi.mode, .string xi.data]] (later v3 y) fun e w' => e = .returned (.bool ki) ∧ ∃ z, w' = later v3 z) := Lib.hid fun y => later_call (DI.out _ (below_step HB.out (later_below v3 y)))
  rw [show v3 = later v3 v3 from (later_of (Below.refl _ _)).symm]
  clear hH6 O DA DI
  go_wp2_with fail
  iterate 5
    all_goals first
      | ((fail_if_success (go_at_call 157)); go_ret; exact ⟨by rw [HR.out]; clear d0 d1 d2 d3 d4 d5 d6 d7 d8 d9 d10 d11 d12 d13 x00 x01 x02 x03 x04 x05 x10 x11 x12 x13 x14 x15 DA' DI' HB HR; simp_all, below_step HB.out (later_below v3 _)⟩)
      | (go_at_call 157; (with_reducible refine (DA'.out _).mono ?_); rintro z w5 ⟨rfl, y5, rfl⟩; go_wp2_with fail)
      | (go_at_call 157; (with_reducible refine (DI'.out _).mono ?_); rintro z w5 ⟨rfl, y5, rfl⟩; go_wp2_with fail)
      | skip

end Go.Proofs.YthcmgaibbpacfaaGreatDoor

/-
  The landed apply: the inode that an operation's entry is of, and its target's.
-/
namespace Go.Proofs.YthcmgaibbpacfaaGreatDoor
open Go.RowKit StampMath GraphMath OpMath PackMath

set_option maxRecDepth 100000 in
set_option maxHeartbeats 1600000 in
theorem named_code (H : GraphHave) (a : Addr) (S : Nat → Prop) (g : Gr) (o : Opn) (w : World) (h : H.rep w S a g) (hg : g.ok) (hn : o.name.size ≤ maxLen) :
    Calls Tryz.prog 158 #[.agg (deedA a o)] w fun e w' => e = .returned (.tuple #[.agg (inoA ((namedG g o).getD noIno)), .bool (namedG g o).isSome]) ∧ Below w.heap.size w w' := by
  obtain ⟨t, ht⟩ : ∃ t, t = (lookE g.E (oAt o) o.name).getD (0, 0) := ⟨_, rfl⟩
  obtain ⟨b, hb⟩ : ∃ b, b = (lookE g.E (oAt o) o.name).isSome := ⟨_, rfl⟩
  obtain ⟨x, hx⟩ : ∃ x, x = (getG g (oIno o)).getD noIno := ⟨_, rfl⟩
  obtain ⟨xi, hxi⟩ : ∃ xi, xi = (getG g (oIno o)).isSome := ⟨_, rfl⟩
  have LK : Hid (∀ W : World, Below w.heap.size w W → Calls Tryz.prog 79 #[.pointer (some a), .agg #[.int .i64 o.pt, .int .i64 o.pr], .string o.name] W fun e w' => e = .returned (.tuple #[.agg #[.int .i64 t.1, .int .i64 t.2], .bool b]) ∧ Below W.heap.size W w') := Lib.hid fun W hW => by
    rw [ht, hb]
    exact H.look a S g (oAt o) o.name W (rep_below h hW) hg hn
  have GT : Hid (∀ W : World, Below w.heap.size w W → Calls Tryz.prog 81 #[.pointer (some a), .agg #[.int .i64 o.it, .int .i64 o.ir]] W fun e w' => e = .returned (.tuple #[.agg #[.int .i64 x.id.1, .int .i64 x.id.2, .int .i64 x.kind, .int .i64 x.links, .int .i64 x.mode, .string x.data], .bool xi]) ∧ Below W.heap.size W w') := Lib.hid fun W hW => by
    rw [hx, hxi]
    exact H.get a S g (oIno o) W (rep_below h hW) hg
  have hcase : (b = false ∧ namedG g o = none) ∨ (b = true ∧ ((t.1 == o.it) = false ∨ (t.2 == o.ir) = false) ∧ namedG g o = none) ∨ (b = true ∧ t = (o.it, o.ir) ∧ (namedG g o).getD noIno = x ∧ (namedG g o).isSome = xi) := by
    unfold namedG
    cases hq : lookE g.E (oAt o) o.name with
    | none =>
      rw [hq] at hb
      exact Or.inl ⟨hb, by simp⟩
    | some s =>
      rw [hq] at hb ht
      have ht' : t = s := ht
      by_cases hs : s = oIno o
      · exact Or.inr (Or.inr ⟨hb, by rw [ht', hs]; rfl, by rw [if_pos (by rw [hs]), hx], by rw [if_pos (by rw [hs]), hxi]⟩)
      · refine Or.inr (Or.inl ⟨hb, ?_, if_neg fun q => hs (Option.some.inj q)⟩)
        rw [ht', beq_eq_false_iff_ne, beq_eq_false_iff_ne]
        by_cases h1 : s.1 = o.it
        · exact Or.inr fun h2 => hs (Prod.ext h1 h2)
        · exact Or.inl h1
  obtain ⟨r, hr0⟩ : ∃ r, r = (namedG g o).getD noIno := ⟨_, rfl⟩
  obtain ⟨ri, hri⟩ : ∃ ri, ri = (namedG g o).isSome := ⟨_, rfl⟩
  rw [← hr0, ← hri]
  have hcase : (b = false ∧ r = noIno ∧ ri = false) ∨ (b = true ∧ ((t.1 == o.it) = false ∨ (t.2 == o.ir) = false) ∧ r = noIno ∧ ri = false) ∨ (b = true ∧ t = (o.it, o.ir) ∧ r = x ∧ ri = xi) := by
    rcases hcase with ⟨q1, q2⟩ | ⟨q1, q2, q3⟩ | ⟨q1, q2, q3, q4⟩
    · exact Or.inl ⟨q1, by rw [hr0, q2]; rfl, by rw [hri, q2]; rfl⟩
    · exact Or.inr (Or.inl ⟨q1, q2, by rw [hr0, q3]; rfl, by rw [hri, q3]; rfl⟩)
    · exact Or.inr (Or.inr ⟨q1, q2, by rw [hr0, q3], by rw [hri, q4]⟩)
  clear ht hb hx hxi h hg hn hr0 hri
  have hb0 : Held w [(w.heap.size + 1, .cells (inoA noIno) 70), (w.heap.size, .cells (deedA a o) 116)] ((w.alloc (.cells (deedA a o) 116)).alloc (.cells (inoA noIno) 70)) :=
    ((Held.refl w).alloc (.cells (deedA a o) 116) rfl).alloc (.cells (inoA noIno) 70) (by simp)
  have HC := Lib.hid hcase
  clear hcase
  go_enter Tryz.func158, Tryz.ntmps158
  go_upto_region 1 with fail
  change Code.wp _ _ _ _ ((w.alloc (.cells (deedA a o) 116)).alloc (.cells (inoA noIno) 70))
  generalize (w.alloc (.cells (deedA a o) 116)).alloc (.cells (inoA noIno) 70) = w0 at hb0 ⊢
  obtain ⟨d0, d1, d2, d3, d4, d5, d6, d7, d8, d9, d10, d11, d12, d13⟩ := deed_cells (g := w.heap.size) (hb0.at 1 rfl)
  go_wp2_with fail
  refine (LK.out _ hb0.below).mono ?_
  rintro e w1 ⟨rfl, hb1⟩
  have hH1 := hb0.step hb1
  clear hb0 hb1 d0 d1 d2 d3 d4 d5 d6 d7 d8 d9 d10 d11 d12 d13 LK
  go_upto_region 2 with fail
  obtain ⟨u, hu⟩ : ∃ u, u = w1.heap.size := ⟨_, rfl⟩
  have hlu : w.heap.size + 1 < u := by rw [hu]; exact heap_lt (hH1.at 0 rfl)
  have hH2 := hH1.alloc (.cells (stA t) 24) hu.symm
  change Code.wp _ _ _ _ (w1.alloc (.cells (stA t) 24))
  rw [← hu]
  generalize w1.alloc (.cells (stA t) 24) = w2 at hH2 ⊢
  clear hH1 hu
  obtain ⟨d0, d1, d2, d3, d4, d5, d6, d7, d8, d9, d10, d11, d12, d13⟩ := deed_cells (g := w.heap.size) (hH2.at 2 rfl)
  obtain ⟨s0, s1⟩ := two_cells (g := u) (hH2.at 0 rfl)
  obtain ⟨i0, i1, i2, i3, i4, i5⟩ := ino_cells (g := w.heap.size + 1) (hH2.at 1 rfl)
  obtain ⟨f0, f1, f2, f3, f4, f5⟩ := ino_free (g := w.heap.size + 1) (hH2.at 1 rfl)
  have P := Lib.hid (ino_put (g := w.heap.size + 1) (hH2.at 1 rfl))
  have HB := Lib.hid hH2.below
  rcases HC.out with ⟨rfl, hnm, hni⟩ | ⟨rfl, hr, hnm, hni⟩ | ⟨rfl, rfl, hnm, hni⟩
  · have HN := Lib.hid hnm
    have HI := Lib.hid hni
    clear hH2 HC hnm hni GT
    obtain ⟨z0, z1, z2, z3, z4, z5⟩ := ino_cells (P.out noIno)
    have HBB := Lib.hid (below_six HB.out (g := w.heap.size + 1) (by omega) (.int .i64 noIno.id.1) (.int .i64 noIno.id.2) (.int .i64 noIno.kind) (.int .i64 noIno.links) (.int .i64 noIno.mode) (.string noIno.data))
    simp only [noIno] at i0 i1 i2 i3 i4 i5 z0 z1 z2 z3 z4 z5
    go_wp2_with fail
    exact bodyPost_ret (v := .tuple #[.agg (inoA noIno), .bool false]) (by simp [results, Tryz.results158, go_sem, inoA, noIno, z0, z1, z2, z3, z4, z5]) rfl ⟨by rw [HN.out, HI.out], HBB.out⟩
  · have HN := Lib.hid hnm
    have HI := Lib.hid hni
    clear hH2 HC hnm hni GT
    obtain ⟨z0, z1, z2, z3, z4, z5⟩ := ino_cells (P.out noIno)
    have HBB := Lib.hid (below_six HB.out (g := w.heap.size + 1) (by omega) (.int .i64 noIno.id.1) (.int .i64 noIno.id.2) (.int .i64 noIno.kind) (.int .i64 noIno.links) (.int .i64 noIno.mode) (.string noIno.data))
    simp only [noIno] at i0 i1 i2 i3 i4 i5 z0 z1 z2 z3 z4 z5
    obtain ⟨r1, hr1⟩ : ∃ r1, (t.1 == o.it) = r1 := ⟨_, rfl⟩
    obtain ⟨r2, hr2⟩ : ∃ r2, (t.2 == o.ir) = r2 := ⟨_, rfl⟩
    rw [hr1, hr2] at hr
    have hr' : (r1 && r2) = false := by rcases hr with q | q <;> rw [q] <;> simp
    clear hr
    cases r1 <;> cases r2
    case true.true => cases hr'
    all_goals
      clear hr'
      go_wp2_with fail
      exact bodyPost_ret (v := .tuple #[.agg (inoA noIno), .bool false]) (by simp [results, Tryz.results158, go_sem, inoA, noIno, z0, z1, z2, z3, z4, z5]) rfl ⟨by rw [HN.out, HI.out], HBB.out⟩
  · have HN := Lib.hid hnm
    have HI := Lib.hid hni
    clear HC hnm hni P HB i0 i1 i2 i3 i4 i5 f0 f1 f2 f3 f4 f5
    have HH2 := Lib.hid hH2
    clear hH2
    dsimp only at s0 s1
    have q1 : (o.it == o.it) = true := beq_self_eq_true _
    have q2 : (o.ir == o.ir) = true := beq_self_eq_true _
    go_wp2_with fail
    refine (GT.out _ HH2.out.below).mono ?_
    rintro e w3 ⟨rfl, hb3⟩
    have hH3 := HH2.out.step hb3
    obtain ⟨i0, i1, i2, i3, i4, i5⟩ := ino_cells (g := w.heap.size + 1) (hH3.at 1 rfl)
    obtain ⟨f0, f1, f2, f3, f4, f5⟩ := ino_free (g := w.heap.size + 1) (hH3.at 1 rfl)
    have P := Lib.hid (ino_put (g := w.heap.size + 1) (hH3.at 1 rfl) x)
    have HBB := Lib.hid (below_six hH3.below (g := w.heap.size + 1) (by omega) (.int .i64 x.id.1) (.int .i64 x.id.2) (.int .i64 x.kind) (.int .i64 x.links) (.int .i64 x.mode) (.string x.data))
    clear HH2 hb3 hH3 GT d0 d1 d2 d3 d4 d5 d6 d7 d8 d9 d10 d11 d12 d13 s0 s1
    obtain ⟨z0, z1, z2, z3, z4, z5⟩ := ino_cells P.out
    go_wp2_with fail
    exact bodyPost_ret (v := .tuple #[.agg (inoA x), .bool xi]) (by simp [results, Tryz.results158, go_sem, inoA, z0, z1, z2, z3, z4, z5]) rfl ⟨by rw [HN.out, HI.out], HBB.out⟩

end Go.Proofs.YthcmgaibbpacfaaGreatDoor

/-
  The landed apply: why an entry can't be gone, and an inode not have other contents, or another mode.
-/
namespace Go.Proofs.YthcmgaibbpacfaaGreatDoor
open Go.RowKit StampMath GraphMath OpMath PackMath

set_option maxRecDepth 100000 in
set_option maxHeartbeats 3200000 in
theorem whyUnlink_code (H : GraphHave) (a : Addr) (S : Nat → Prop) (g : Gr) (o : Opn) (w : World) (h : H.rep w S a g) (hg : g.ok) (hm : mayO o = true) (hk : o.k = 5) (hn : o.name.size ≤ maxLen) :
    Calls Tryz.prog 123 #[.agg (deedA a o)] w fun e w' => e = .returned (.int .i64 (whyA g o)) ∧ Below w.heap.size w w' := by
  obtain ⟨r, hr⟩ : ∃ r, r = whyA g o := ⟨_, rfl⟩
  rw [← hr]
  obtain ⟨x, hx⟩ : ∃ x, x = (namedG g o).getD noIno := ⟨_, rfl⟩
  obtain ⟨b, hb⟩ : ∃ b, b = (namedG g o).isSome := ⟨_, rfl⟩
  obtain ⟨kd, hkd⟩ : ∃ kd, kd = (x.kind == 1) := ⟨_, rfl⟩
  have NA : Hid (∀ W : World, Below w.heap.size w W → Calls Tryz.prog 158 #[.agg #[.pointer (some a), .int .i64 o.st, .int .i64 o.sr, .int .i64 o.k, .int .i64 o.pt, .int .i64 o.pr, .int .i64 o.it, .int .i64 o.ir, .int .i64 o.tt, .int .i64 o.tr, .string o.name, .string o.new, .int .i64 o.off, .string o.data]] W fun e w' => e = .returned (.tuple #[.agg #[.int .i64 x.id.1, .int .i64 x.id.2, .int .i64 x.kind, .int .i64 x.links, .int .i64 x.mode, .string x.data], .bool b]) ∧ Below W.heap.size W w') := Lib.hid fun W hW => by
    rw [hx, hb]
    exact named_code H a S g o W (rep_below h hW) hg hn
  have DX : Hid (∀ W : World, Below w.heap.size w W → Calls Tryz.prog 157 #[.agg #[.int .i64 x.id.1, .int .i64 x.id.2, .int .i64 x.kind, .int .i64 x.links, .int .i64 x.mode, .string x.data]] W fun e w' => e = .returned (.bool kd) ∧ Below W.heap.size W w') := Lib.hid fun W hW => by
    rw [hkd]
    exact dirQ_code x W
  have hr2 : r = if b = false then 3 else if kd = true then 5 else 0 := by
    rw [hr, unlink_why hg hm hk, ← hx, ← hb, hkd]
    unfold unlinkB
    simp
  have HR := Lib.hid hr2
  have hH0 : Held w [(w.heap.size, .cells (deedA a o) 116)] (w.alloc (.cells (deedA a o) 116)) := (Held.refl w).alloc (.cells (deedA a o) 116) rfl
  clear h hr hr2 hx hb hkd hg hm hk hn
  go_enter Tryz.func123, Tryz.ntmps123
  go_upto_region 1 with fail
  change Code.wp _ _ _ _ (w.alloc (.cells (deedA a o) 116))
  generalize w.alloc (.cells (deedA a o) 116) = v0 at hH0 ⊢
  obtain ⟨d0, d1, d2, d3, d4, d5, d6, d7, d8, d9, d10, d11, d12, d13⟩ := deed_cells (g := w.heap.size) (hH0.at 0 rfl)
  go_wp2_with fail
  refine (NA.out _ hH0.below).mono ?_
  rintro e y0 ⟨rfl, hb0⟩
  have hH1 := hH0.step hb0
  clear hH0 hb0 d0 d1 d2 d3 d4 d5 d6 d7 d8 d9 d10 d11 d12 d13 NA
  go_upto_region 2 with fail
  obtain ⟨u0, hu0⟩ : ∃ u, u = y0.heap.size := ⟨_, rfl⟩
  have hl0 : w.heap.size < u0 := by rw [hu0]; exact heap_lt (hH1.at 0 rfl)
  have hH2 := hH1.alloc (.cells (inoA x) 70) hu0.symm
  change Code.wp _ _ _ _ (y0.alloc (.cells (inoA x) 70))
  rw [← hu0]
  generalize y0.alloc (.cells (inoA x) 70) = v1 at hH2 ⊢
  clear hH1 hu0
  have O := Lib.hid (fun y => deed_cells (g := w.heap.size) (((later_below v1 y).block _ (heap_lt (hH2.at 1 rfl))).trans (hH2.at 1 rfl)))
  have d0 := fun y => (O.out y).1
  have d1 := fun y => (O.out y).2.1
  have d2 := fun y => (O.out y).2.2.1
  have d3 := fun y => (O.out y).2.2.2.1
  have d4 := fun y => (O.out y).2.2.2.2.1
  have d5 := fun y => (O.out y).2.2.2.2.2.1
  have d6 := fun y => (O.out y).2.2.2.2.2.2.1
  have d7 := fun y => (O.out y).2.2.2.2.2.2.2.1
  have d8 := fun y => (O.out y).2.2.2.2.2.2.2.2.1
  have d9 := fun y => (O.out y).2.2.2.2.2.2.2.2.2.1
  have d10 := fun y => (O.out y).2.2.2.2.2.2.2.2.2.2.1
  have d11 := fun y => (O.out y).2.2.2.2.2.2.2.2.2.2.2.1
  have d12 := fun y => (O.out y).2.2.2.2.2.2.2.2.2.2.2.2.1
  have d13 := fun y => (O.out y).2.2.2.2.2.2.2.2.2.2.2.2.2
  have X0 := Lib.hid (fun y => ino_cells (g := u0) (((later_below v1 y).block _ (heap_lt (hH2.at 0 rfl))).trans (hH2.at 0 rfl)))
  have x00 := fun y => (X0.out y).1
  have x01 := fun y => (X0.out y).2.1
  have x02 := fun y => (X0.out y).2.2.1
  have x03 := fun y => (X0.out y).2.2.2.1
  have x04 := fun y => (X0.out y).2.2.2.2.1
  have x05 := fun y => (X0.out y).2.2.2.2.2
  clear X0
  have HB := Lib.hid hH2.below
  have DX' : Hid (∀ y, Calls Tryz.prog 157 #[.agg #[.int .i64 x.id.1, .int .i64 x.id.2, .int .i64 x.kind, .int .i64 x.links, .int .i64 x.mode, .string x.data]] (later v1 y) fun e w' => e = .returned (.bool kd) ∧ ∃ z, w' = later v1 z) := Lib.hid fun y => later_call (DX.out _ (below_step HB.out (later_below v1 y)))
  rw [show v1 = later v1 v1 from (later_of (Below.refl _ _)).symm]
  clear hH2 O DX
  go_wp2_with fail
  iterate 3
    all_goals first
      | ((fail_if_success (go_at_call 157)); go_ret; exact ⟨by rw [HR.out]; clear d0 d1 d2 d3 d4 d5 d6 d7 d8 d9 d10 d11 d12 d13 x00 x01 x02 x03 x04 x05 DX' HB HR; simp_all, below_step HB.out (later_below v1 _)⟩)
      | (go_at_call 157; (with_reducible refine (DX'.out _).mono ?_); rintro z w5 ⟨rfl, y5, rfl⟩; go_wp2_with fail)
      | skip

set_option maxRecDepth 100000 in
set_option maxHeartbeats 3200000 in
theorem whyRmdir_code (H : GraphHave) (a : Addr) (S : Nat → Prop) (g : Gr) (o : Opn) (w : World) (h : H.rep w S a g) (hg : g.ok) (hm : mayO o = true) (hk : o.k = 6) (hn : o.name.size ≤ maxLen) :
    Calls Tryz.prog 124 #[.agg (deedA a o)] w fun e w' => e = .returned (.int .i64 (whyA g o)) ∧ Below w.heap.size w w' := by
  obtain ⟨r, hr⟩ : ∃ r, r = whyA g o := ⟨_, rfl⟩
  rw [← hr]
  obtain ⟨x, hx⟩ : ∃ x, x = (namedG g o).getD noIno := ⟨_, rfl⟩
  obtain ⟨b, hb⟩ : ∃ b, b = (namedG g o).isSome := ⟨_, rfl⟩
  obtain ⟨kd, hkd⟩ : ∃ kd, kd = (x.kind == 1) := ⟨_, rfl⟩
  obtain ⟨fu, hfu⟩ : ∃ fu, fu = decide (0 < (listE g.E x.id).length) := ⟨_, rfl⟩
  have NA : Hid (∀ W : World, Below w.heap.size w W → Calls Tryz.prog 158 #[.agg #[.pointer (some a), .int .i64 o.st, .int .i64 o.sr, .int .i64 o.k, .int .i64 o.pt, .int .i64 o.pr, .int .i64 o.it, .int .i64 o.ir, .int .i64 o.tt, .int .i64 o.tr, .string o.name, .string o.new, .int .i64 o.off, .string o.data]] W fun e w' => e = .returned (.tuple #[.agg #[.int .i64 x.id.1, .int .i64 x.id.2, .int .i64 x.kind, .int .i64 x.links, .int .i64 x.mode, .string x.data], .bool b]) ∧ Below W.heap.size W w') := Lib.hid fun W hW => by
    rw [hx, hb]
    exact named_code H a S g o W (rep_below h hW) hg hn
  have DX : Hid (∀ W : World, Below w.heap.size w W → Calls Tryz.prog 157 #[.agg #[.int .i64 x.id.1, .int .i64 x.id.2, .int .i64 x.kind, .int .i64 x.links, .int .i64 x.mode, .string x.data]] W fun e w' => e = .returned (.bool kd) ∧ Below W.heap.size W w') := Lib.hid fun W hW => by
    rw [hkd]
    exact dirQ_code x W
  have FU : Hid (∀ W : World, Below w.heap.size w W → Calls Tryz.prog 159 #[.agg #[.pointer (some a), .int .i64 o.st, .int .i64 o.sr, .int .i64 o.k, .int .i64 o.pt, .int .i64 o.pr, .int .i64 o.it, .int .i64 o.ir, .int .i64 o.tt, .int .i64 o.tr, .string o.name, .string o.new, .int .i64 o.off, .string o.data], .agg #[.int .i64 x.id.1, .int .i64 x.id.2]] W fun e w' => e = .returned (.bool fu) ∧ Below W.heap.size W w') := Lib.hid fun W hW => by
    rw [hfu]
    exact fullQ_code H a S g o x.id W (rep_below h hW) hg
  have hr2 : r = if b = false then 3 else if kd = false then 6 else if fu = true then 7 else 0 := by
    rw [hr, rmdir_why hg hm hk, ← hx, ← hb, hkd, hfu]
    unfold rmdirB
    cases hq : namedG g o with
    | none =>
      rw [hq] at hb
      rw [hb]
      simp
    | some y =>
      rw [hq] at hx
      rw [hx, Option.getD_some, (named_some hg hq).2.2.1]
      simp
  have HR := Lib.hid hr2
  have hH0 : Held w [(w.heap.size, .cells (deedA a o) 116)] (w.alloc (.cells (deedA a o) 116)) := (Held.refl w).alloc (.cells (deedA a o) 116) rfl
  clear h hr hr2 hx hb hkd hfu hg hm hk hn
  go_enter Tryz.func124, Tryz.ntmps124
  go_upto_region 1 with fail
  change Code.wp _ _ _ _ (w.alloc (.cells (deedA a o) 116))
  generalize w.alloc (.cells (deedA a o) 116) = v0 at hH0 ⊢
  obtain ⟨d0, d1, d2, d3, d4, d5, d6, d7, d8, d9, d10, d11, d12, d13⟩ := deed_cells (g := w.heap.size) (hH0.at 0 rfl)
  go_wp2_with fail
  refine (NA.out _ hH0.below).mono ?_
  rintro e y0 ⟨rfl, hb0⟩
  have hH1 := hH0.step hb0
  clear hH0 hb0 d0 d1 d2 d3 d4 d5 d6 d7 d8 d9 d10 d11 d12 d13 NA
  go_upto_region 2 with fail
  obtain ⟨u0, hu0⟩ : ∃ u, u = y0.heap.size := ⟨_, rfl⟩
  have hl0 : w.heap.size < u0 := by rw [hu0]; exact heap_lt (hH1.at 0 rfl)
  have hH2 := hH1.alloc (.cells (inoA x) 70) hu0.symm
  change Code.wp _ _ _ _ (y0.alloc (.cells (inoA x) 70))
  rw [← hu0]
  generalize y0.alloc (.cells (inoA x) 70) = v1 at hH2 ⊢
  clear hH1 hu0
  have O := Lib.hid (fun y => deed_cells (g := w.heap.size) (((later_below v1 y).block _ (heap_lt (hH2.at 1 rfl))).trans (hH2.at 1 rfl)))
  have d0 := fun y => (O.out y).1
  have d1 := fun y => (O.out y).2.1
  have d2 := fun y => (O.out y).2.2.1
  have d3 := fun y => (O.out y).2.2.2.1
  have d4 := fun y => (O.out y).2.2.2.2.1
  have d5 := fun y => (O.out y).2.2.2.2.2.1
  have d6 := fun y => (O.out y).2.2.2.2.2.2.1
  have d7 := fun y => (O.out y).2.2.2.2.2.2.2.1
  have d8 := fun y => (O.out y).2.2.2.2.2.2.2.2.1
  have d9 := fun y => (O.out y).2.2.2.2.2.2.2.2.2.1
  have d10 := fun y => (O.out y).2.2.2.2.2.2.2.2.2.2.1
  have d11 := fun y => (O.out y).2.2.2.2.2.2.2.2.2.2.2.1
  have d12 := fun y => (O.out y).2.2.2.2.2.2.2.2.2.2.2.2.1
  have d13 := fun y => (O.out y).2.2.2.2.2.2.2.2.2.2.2.2.2
  have X0 := Lib.hid (fun y => ino_cells (g := u0) (((later_below v1 y).block _ (heap_lt (hH2.at 0 rfl))).trans (hH2.at 0 rfl)))
  have x00 := fun y => (X0.out y).1
  have x01 := fun y => (X0.out y).2.1
  have x02 := fun y => (X0.out y).2.2.1
  have x03 := fun y => (X0.out y).2.2.2.1
  have x04 := fun y => (X0.out y).2.2.2.2.1
  have x05 := fun y => (X0.out y).2.2.2.2.2
  clear X0
  have HB := Lib.hid hH2.below
  have DX' : Hid (∀ y, Calls Tryz.prog 157 #[.agg #[.int .i64 x.id.1, .int .i64 x.id.2, .int .i64 x.kind, .int .i64 x.links, .int .i64 x.mode, .string x.data]] (later v1 y) fun e w' => e = .returned (.bool kd) ∧ ∃ z, w' = later v1 z) := Lib.hid fun y => later_call (DX.out _ (below_step HB.out (later_below v1 y)))
  have FU' : Hid (∀ y, Calls Tryz.prog 159 #[.agg #[.pointer (some a), .int .i64 o.st, .int .i64 o.sr, .int .i64 o.k, .int .i64 o.pt, .int .i64 o.pr, .int .i64 o.it, .int .i64 o.ir, .int .i64 o.tt, .int .i64 o.tr, .string o.name, .string o.new, .int .i64 o.off, .string o.data], .agg #[.int .i64 x.id.1, .int .i64 x.id.2]] (later v1 y) fun e w' => e = .returned (.bool fu) ∧ ∃ z, w' = later v1 z) := Lib.hid fun y => later_call (FU.out _ (below_step HB.out (later_below v1 y)))
  rw [show v1 = later v1 v1 from (later_of (Below.refl _ _)).symm]
  clear hH2 O DX FU
  go_wp2_with fail
  iterate 4
    all_goals first
      | ((fail_if_success (go_at_call 157)); (fail_if_success (go_at_call 159)); go_ret; exact ⟨by rw [HR.out]; clear d0 d1 d2 d3 d4 d5 d6 d7 d8 d9 d10 d11 d12 d13 x00 x01 x02 x03 x04 x05 DX' FU' HB HR; simp_all, below_step HB.out (later_below v1 _)⟩)
      | (go_at_call 157; (with_reducible refine (DX'.out _).mono ?_); rintro z w5 ⟨rfl, y5, rfl⟩; go_wp2_with fail)
      | (go_at_call 159; (with_reducible refine (FU'.out _).mono ?_); rintro z w5 ⟨rfl, y5, rfl⟩; go_wp2_with fail)
      | skip

set_option maxRecDepth 100000 in
set_option maxHeartbeats 3200000 in
theorem whyFill_code (H : GraphHave) (a : Addr) (S : Nat → Prop) (g : Gr) (o : Opn) (w : World) (h : H.rep w S a g) (hg : g.ok) (hm : mayO o = true) (hk : o.k = 8 ∨ o.k = 9) :
    Calls Tryz.prog 126 #[.agg (deedA a o)] w fun e w' => e = .returned (.int .i64 (whyA g o)) ∧ Below w.heap.size w w' := by
  obtain ⟨r, hr⟩ : ∃ r, r = whyA g o := ⟨_, rfl⟩
  rw [← hr]
  obtain ⟨x, hx⟩ : ∃ x, x = (getG g (oIno o)).getD noIno := ⟨_, rfl⟩
  obtain ⟨b, hb⟩ : ∃ b, b = (getG g (oIno o)).isSome := ⟨_, rfl⟩
  obtain ⟨kd, hkd⟩ : ∃ kd, kd = (x.kind == 1) := ⟨_, rfl⟩
  have GI : Hid (∀ W : World, Below w.heap.size w W → Calls Tryz.prog 81 #[.pointer (some a), .agg #[.int .i64 o.it, .int .i64 o.ir]] W fun e w' => e = .returned (.tuple #[.agg #[.int .i64 x.id.1, .int .i64 x.id.2, .int .i64 x.kind, .int .i64 x.links, .int .i64 x.mode, .string x.data], .bool b]) ∧ Below W.heap.size W w') := Lib.hid fun W hW => by
    rw [hx, hb]
    exact H.get a S g (oIno o) W (rep_below h hW) hg
  have DX : Hid (∀ W : World, Below w.heap.size w W → Calls Tryz.prog 157 #[.agg #[.int .i64 x.id.1, .int .i64 x.id.2, .int .i64 x.kind, .int .i64 x.links, .int .i64 x.mode, .string x.data]] W fun e w' => e = .returned (.bool kd) ∧ Below W.heap.size W w') := Lib.hid fun W hW => by
    rw [hkd]
    exact dirQ_code x W
  have hr2 : r = if b = false then 3 else if kd = true then 5 else if x.kind = 3 then 8 else 0 := by
    rw [hr, fill_why hg hm hk, ← hx, ← hb, hkd]
    unfold fillB
    simp
  have HR := Lib.hid hr2
  have hH0 : Held w [(w.heap.size, .cells (deedA a o) 116)] (w.alloc (.cells (deedA a o) 116)) := (Held.refl w).alloc (.cells (deedA a o) 116) rfl
  clear h hr hr2 hx hb hkd hg hm hk
  go_enter Tryz.func126, Tryz.ntmps126
  go_upto_region 1 with fail
  change Code.wp _ _ _ _ (w.alloc (.cells (deedA a o) 116))
  generalize w.alloc (.cells (deedA a o) 116) = v0 at hH0 ⊢
  obtain ⟨d0, d1, d2, d3, d4, d5, d6, d7, d8, d9, d10, d11, d12, d13⟩ := deed_cells (g := w.heap.size) (hH0.at 0 rfl)
  go_wp2_with fail
  refine (GI.out _ hH0.below).mono ?_
  rintro e y0 ⟨rfl, hb0⟩
  have hH1 := hH0.step hb0
  clear hH0 hb0 d0 d1 d2 d3 d4 d5 d6 d7 d8 d9 d10 d11 d12 d13 GI
  go_upto_region 2 with fail
  obtain ⟨u0, hu0⟩ : ∃ u, u = y0.heap.size := ⟨_, rfl⟩
  have hl0 : w.heap.size < u0 := by rw [hu0]; exact heap_lt (hH1.at 0 rfl)
  have hH2 := hH1.alloc (.cells (inoA x) 70) hu0.symm
  change Code.wp _ _ _ _ (y0.alloc (.cells (inoA x) 70))
  rw [← hu0]
  generalize y0.alloc (.cells (inoA x) 70) = v1 at hH2 ⊢
  clear hH1 hu0
  have O := Lib.hid (fun y => deed_cells (g := w.heap.size) (((later_below v1 y).block _ (heap_lt (hH2.at 1 rfl))).trans (hH2.at 1 rfl)))
  have d0 := fun y => (O.out y).1
  have d1 := fun y => (O.out y).2.1
  have d2 := fun y => (O.out y).2.2.1
  have d3 := fun y => (O.out y).2.2.2.1
  have d4 := fun y => (O.out y).2.2.2.2.1
  have d5 := fun y => (O.out y).2.2.2.2.2.1
  have d6 := fun y => (O.out y).2.2.2.2.2.2.1
  have d7 := fun y => (O.out y).2.2.2.2.2.2.2.1
  have d8 := fun y => (O.out y).2.2.2.2.2.2.2.2.1
  have d9 := fun y => (O.out y).2.2.2.2.2.2.2.2.2.1
  have d10 := fun y => (O.out y).2.2.2.2.2.2.2.2.2.2.1
  have d11 := fun y => (O.out y).2.2.2.2.2.2.2.2.2.2.2.1
  have d12 := fun y => (O.out y).2.2.2.2.2.2.2.2.2.2.2.2.1
  have d13 := fun y => (O.out y).2.2.2.2.2.2.2.2.2.2.2.2.2
  have X0 := Lib.hid (fun y => ino_cells (g := u0) (((later_below v1 y).block _ (heap_lt (hH2.at 0 rfl))).trans (hH2.at 0 rfl)))
  have x00 := fun y => (X0.out y).1
  have x01 := fun y => (X0.out y).2.1
  have x02 := fun y => (X0.out y).2.2.1
  have x03 := fun y => (X0.out y).2.2.2.1
  have x04 := fun y => (X0.out y).2.2.2.2.1
  have x05 := fun y => (X0.out y).2.2.2.2.2
  clear X0
  have HB := Lib.hid hH2.below
  have DX' : Hid (∀ y, Calls Tryz.prog 157 #[.agg #[.int .i64 x.id.1, .int .i64 x.id.2, .int .i64 x.kind, .int .i64 x.links, .int .i64 x.mode, .string x.data]] (later v1 y) fun e w' => e = .returned (.bool kd) ∧ ∃ z, w' = later v1 z) := Lib.hid fun y => later_call (DX.out _ (below_step HB.out (later_below v1 y)))
  rw [show v1 = later v1 v1 from (later_of (Below.refl _ _)).symm]
  clear hH2 O DX
  go_wp2_with fail
  iterate 3
    all_goals first
      | ((fail_if_success (go_at_call 157)); go_ret; exact ⟨by rw [HR.out]; clear d0 d1 d2 d3 d4 d5 d6 d7 d8 d9 d10 d11 d12 d13 x00 x01 x02 x03 x04 x05 DX' HB HR; simp_all, below_step HB.out (later_below v1 _)⟩)
      | (go_at_call 157; (with_reducible refine (DX'.out _).mono ?_); rintro z w5 ⟨rfl, y5, rfl⟩; go_wp2_with fail)
      | skip

set_option maxRecDepth 100000 in
set_option maxHeartbeats 3200000 in
theorem whySet_code (H : GraphHave) (a : Addr) (S : Nat → Prop) (g : Gr) (o : Opn) (w : World) (h : H.rep w S a g) (hg : g.ok) (hm : mayO o = true) (hk : o.k = 10) :
    Calls Tryz.prog 127 #[.agg (deedA a o)] w fun e w' => e = .returned (.int .i64 (whyA g o)) ∧ Below w.heap.size w w' := by
  obtain ⟨r, hr⟩ : ∃ r, r = whyA g o := ⟨_, rfl⟩
  rw [← hr]
  obtain ⟨x, hx⟩ : ∃ x, x = (getG g (oIno o)).getD noIno := ⟨_, rfl⟩
  obtain ⟨b, hb⟩ : ∃ b, b = (getG g (oIno o)).isSome := ⟨_, rfl⟩
  have GI : Hid (∀ W : World, Below w.heap.size w W → Calls Tryz.prog 81 #[.pointer (some a), .agg #[.int .i64 o.it, .int .i64 o.ir]] W fun e w' => e = .returned (.tuple #[.agg #[.int .i64 x.id.1, .int .i64 x.id.2, .int .i64 x.kind, .int .i64 x.links, .int .i64 x.mode, .string x.data], .bool b]) ∧ Below W.heap.size W w') := Lib.hid fun W hW => by
    rw [hx, hb]
    exact H.get a S g (oIno o) W (rep_below h hW) hg
  have hr2 : r = if b = false then 3 else 0 := by
    rw [hr, set_why hg hm hk, ← hb]
    rfl
  have HR := Lib.hid hr2
  have hH0 : Held w [(w.heap.size, .cells (deedA a o) 116)] (w.alloc (.cells (deedA a o) 116)) := (Held.refl w).alloc (.cells (deedA a o) 116) rfl
  clear h hr hr2 hx hb hg hm hk
  go_enter Tryz.func127, Tryz.ntmps127
  go_upto_region 1 with fail
  change Code.wp _ _ _ _ (w.alloc (.cells (deedA a o) 116))
  generalize w.alloc (.cells (deedA a o) 116) = v0 at hH0 ⊢
  obtain ⟨d0, d1, d2, d3, d4, d5, d6, d7, d8, d9, d10, d11, d12, d13⟩ := deed_cells (g := w.heap.size) (hH0.at 0 rfl)
  go_wp2_with fail
  refine (GI.out _ hH0.below).mono ?_
  rintro e y0 ⟨rfl, hb0⟩
  have hH1 := hH0.step hb0
  clear hH0 hb0 d0 d1 d2 d3 d4 d5 d6 d7 d8 d9 d10 d11 d12 d13 GI
  go_upto_region 2 with fail
  obtain ⟨u0, hu0⟩ : ∃ u, u = y0.heap.size := ⟨_, rfl⟩
  have hl0 : w.heap.size < u0 := by rw [hu0]; exact heap_lt (hH1.at 0 rfl)
  have hH2 := hH1.alloc (.cells (inoA x) 70) hu0.symm
  change Code.wp _ _ _ _ (y0.alloc (.cells (inoA x) 70))
  rw [← hu0]
  generalize y0.alloc (.cells (inoA x) 70) = v1 at hH2 ⊢
  clear hH1 hu0
  have O := Lib.hid (fun y => deed_cells (g := w.heap.size) (((later_below v1 y).block _ (heap_lt (hH2.at 1 rfl))).trans (hH2.at 1 rfl)))
  have d0 := fun y => (O.out y).1
  have d1 := fun y => (O.out y).2.1
  have d2 := fun y => (O.out y).2.2.1
  have d3 := fun y => (O.out y).2.2.2.1
  have d4 := fun y => (O.out y).2.2.2.2.1
  have d5 := fun y => (O.out y).2.2.2.2.2.1
  have d6 := fun y => (O.out y).2.2.2.2.2.2.1
  have d7 := fun y => (O.out y).2.2.2.2.2.2.2.1
  have d8 := fun y => (O.out y).2.2.2.2.2.2.2.2.1
  have d9 := fun y => (O.out y).2.2.2.2.2.2.2.2.2.1
  have d10 := fun y => (O.out y).2.2.2.2.2.2.2.2.2.2.1
  have d11 := fun y => (O.out y).2.2.2.2.2.2.2.2.2.2.2.1
  have d12 := fun y => (O.out y).2.2.2.2.2.2.2.2.2.2.2.2.1
  have d13 := fun y => (O.out y).2.2.2.2.2.2.2.2.2.2.2.2.2
  have X0 := Lib.hid (fun y => ino_cells (g := u0) (((later_below v1 y).block _ (heap_lt (hH2.at 0 rfl))).trans (hH2.at 0 rfl)))
  have x00 := fun y => (X0.out y).1
  have x01 := fun y => (X0.out y).2.1
  have x02 := fun y => (X0.out y).2.2.1
  have x03 := fun y => (X0.out y).2.2.2.1
  have x04 := fun y => (X0.out y).2.2.2.2.1
  have x05 := fun y => (X0.out y).2.2.2.2.2
  clear X0
  have HB := Lib.hid hH2.below
  rw [show v1 = later v1 v1 from (later_of (Below.refl _ _)).symm]
  clear hH2 O 
  go_wp2_with fail
  all_goals (go_ret; exact ⟨by rw [HR.out]; clear d0 d1 d2 d3 d4 d5 d6 d7 d8 d9 d10 d11 d12 d13 x00 x01 x02 x03 x04 x05  HB HR; simp_all, below_step HB.out (later_below v1 _)⟩)

end Go.Proofs.YthcmgaibbpacfaaGreatDoor

/-
  The landed apply: the inode of an operation's target; why an inode can't stand where a target does.
-/
namespace Go.Proofs.YthcmgaibbpacfaaGreatDoor
open Go.RowKit StampMath GraphMath OpMath PackMath

set_option maxRecDepth 100000 in
set_option maxHeartbeats 1600000 in
theorem target_code (H : GraphHave) (a : Addr) (S : Nat → Prop) (g : Gr) (o : Opn) (w : World) (h : H.rep w S a g) (hg : g.ok) (hn : o.new.size ≤ maxLen) :
    Calls Tryz.prog 128 #[.agg (deedA a o)] w fun e w' => e = .returned (.tuple #[.agg (inoA ((aimG g o).getD noIno)), .bool (aimG g o).isSome]) ∧ Below w.heap.size w w' := by
  obtain ⟨t, ht⟩ : ∃ t, t = (lookE g.E (oTo o) o.new).getD (0, 0) := ⟨_, rfl⟩
  obtain ⟨b, hb⟩ : ∃ b, b = (lookE g.E (oTo o) o.new).isSome := ⟨_, rfl⟩
  obtain ⟨x, hx⟩ : ∃ x, x = (getG g t).getD noIno := ⟨_, rfl⟩
  obtain ⟨xi, hxi⟩ : ∃ xi, xi = (getG g t).isSome := ⟨_, rfl⟩
  have LK : Hid (∀ W : World, Below w.heap.size w W → Calls Tryz.prog 79 #[.pointer (some a), .agg #[.int .i64 o.tt, .int .i64 o.tr], .string o.new] W fun e w' => e = .returned (.tuple #[.agg #[.int .i64 t.1, .int .i64 t.2], .bool b]) ∧ Below W.heap.size W w') := Lib.hid fun W hW => by
    rw [ht, hb]
    exact H.look a S g (oTo o) o.new W (rep_below h hW) hg hn
  have GT : Hid (∀ W : World, Below w.heap.size w W → Calls Tryz.prog 81 #[.pointer (some a), .agg #[.int .i64 t.1, .int .i64 t.2]] W fun e w' => e = .returned (.tuple #[.agg #[.int .i64 x.id.1, .int .i64 x.id.2, .int .i64 x.kind, .int .i64 x.links, .int .i64 x.mode, .string x.data], .bool xi]) ∧ Below W.heap.size W w') := Lib.hid fun W hW => by
    rw [hx, hxi]
    exact H.get a S g t W (rep_below h hW) hg
  have hcase : (b = false ∧ aimG g o = none) ∨ (b = true ∧ (aimG g o).getD noIno = x ∧ (aimG g o).isSome = xi) := by
    unfold aimG targetG
    cases hq : lookE g.E (oTo o) o.new with
    | none =>
      rw [hq] at hb
      exact Or.inl ⟨hb, rfl⟩
    | some s =>
      rw [hq] at hb ht
      have ht' : t = s := ht
      exact Or.inr ⟨hb, by rw [hx, ht']; rfl, by rw [hxi, ht']; rfl⟩
  obtain ⟨r, hr0⟩ : ∃ r, r = (aimG g o).getD noIno := ⟨_, rfl⟩
  obtain ⟨ri, hri⟩ : ∃ ri, ri = (aimG g o).isSome := ⟨_, rfl⟩
  rw [← hr0, ← hri]
  have hcase : (b = false ∧ r = noIno ∧ ri = false) ∨ (b = true ∧ r = x ∧ ri = xi) := by
    rcases hcase with ⟨q1, q2⟩ | ⟨q1, q2, q3⟩
    · exact Or.inl ⟨q1, by rw [hr0, q2]; rfl, by rw [hri, q2]; rfl⟩
    · exact Or.inr ⟨q1, by rw [hr0, q2], by rw [hri, q3]⟩
  clear ht hb hx hxi h hg hn hr0 hri
  have hb0 : Held w [(w.heap.size + 1, .cells (inoA noIno) 70), (w.heap.size, .cells (deedA a o) 116)] ((w.alloc (.cells (deedA a o) 116)).alloc (.cells (inoA noIno) 70)) :=
    ((Held.refl w).alloc (.cells (deedA a o) 116) rfl).alloc (.cells (inoA noIno) 70) (by simp)
  have HC := Lib.hid hcase
  clear hcase
  go_enter Tryz.func128, Tryz.ntmps128
  go_upto_region 1 with fail
  change Code.wp _ _ _ _ ((w.alloc (.cells (deedA a o) 116)).alloc (.cells (inoA noIno) 70))
  generalize (w.alloc (.cells (deedA a o) 116)).alloc (.cells (inoA noIno) 70) = w0 at hb0 ⊢
  obtain ⟨d0, d1, d2, d3, d4, d5, d6, d7, d8, d9, d10, d11, d12, d13⟩ := deed_cells (g := w.heap.size) (hb0.at 1 rfl)
  go_wp2_with fail
  refine (LK.out _ hb0.below).mono ?_
  rintro e w1 ⟨rfl, hb1⟩
  have hH1 := hb0.step hb1
  clear hb0 hb1 d0 d1 d2 d3 d4 d5 d6 d7 d8 d9 d10 d11 d12 d13 LK
  go_upto_region 2 with fail
  obtain ⟨u, hu⟩ : ∃ u, u = w1.heap.size := ⟨_, rfl⟩
  have hlu : w.heap.size + 1 < u := by rw [hu]; exact heap_lt (hH1.at 0 rfl)
  have hH2 := hH1.alloc (.cells (stA t) 24) hu.symm
  change Code.wp _ _ _ _ (w1.alloc (.cells (stA t) 24))
  rw [← hu]
  generalize w1.alloc (.cells (stA t) 24) = w2 at hH2 ⊢
  clear hH1 hu
  obtain ⟨d0, d1, d2, d3, d4, d5, d6, d7, d8, d9, d10, d11, d12, d13⟩ := deed_cells (g := w.heap.size) (hH2.at 2 rfl)
  obtain ⟨s0, s1⟩ := two_cells (g := u) (hH2.at 0 rfl)
  obtain ⟨i0, i1, i2, i3, i4, i5⟩ := ino_cells (g := w.heap.size + 1) (hH2.at 1 rfl)
  obtain ⟨f0, f1, f2, f3, f4, f5⟩ := ino_free (g := w.heap.size + 1) (hH2.at 1 rfl)
  have P := Lib.hid (ino_put (g := w.heap.size + 1) (hH2.at 1 rfl))
  have HB := Lib.hid hH2.below
  rcases HC.out with ⟨rfl, hnm, hni⟩ | ⟨rfl, hnm, hni⟩
  · have HN := Lib.hid hnm
    have HI := Lib.hid hni
    clear hH2 HC hnm hni GT
    obtain ⟨z0, z1, z2, z3, z4, z5⟩ := ino_cells (P.out noIno)
    have HBB := Lib.hid (below_six HB.out (g := w.heap.size + 1) (by omega) (.int .i64 noIno.id.1) (.int .i64 noIno.id.2) (.int .i64 noIno.kind) (.int .i64 noIno.links) (.int .i64 noIno.mode) (.string noIno.data))
    simp only [noIno] at i0 i1 i2 i3 i4 i5 z0 z1 z2 z3 z4 z5
    go_wp2_with fail
    exact bodyPost_ret (v := .tuple #[.agg (inoA noIno), .bool false]) (by simp [results, Tryz.results128, go_sem, inoA, noIno, z0, z1, z2, z3, z4, z5]) rfl ⟨by rw [HN.out, HI.out], HBB.out⟩
  · have HN := Lib.hid hnm
    have HI := Lib.hid hni
    clear HC hnm hni P HB i0 i1 i2 i3 i4 i5 f0 f1 f2 f3 f4 f5
    have HH2 := Lib.hid hH2
    clear hH2
    go_wp2_with fail
    refine (GT.out _ HH2.out.below).mono ?_
    rintro e w3 ⟨rfl, hb3⟩
    have hH3 := HH2.out.step hb3
    obtain ⟨i0, i1, i2, i3, i4, i5⟩ := ino_cells (g := w.heap.size + 1) (hH3.at 1 rfl)
    obtain ⟨f0, f1, f2, f3, f4, f5⟩ := ino_free (g := w.heap.size + 1) (hH3.at 1 rfl)
    have P := Lib.hid (ino_put (g := w.heap.size + 1) (hH3.at 1 rfl) x)
    have HBB := Lib.hid (below_six hH3.below (g := w.heap.size + 1) (by omega) (.int .i64 x.id.1) (.int .i64 x.id.2) (.int .i64 x.kind) (.int .i64 x.links) (.int .i64 x.mode) (.string x.data))
    clear HH2 hb3 hH3 GT d0 d1 d2 d3 d4 d5 d6 d7 d8 d9 d10 d11 d12 d13 s0 s1
    obtain ⟨z0, z1, z2, z3, z4, z5⟩ := ino_cells P.out
    go_wp2_with fail
    exact bodyPost_ret (v := .tuple #[.agg (inoA x), .bool xi]) (by simp [results, Tryz.results128, go_sem, inoA, z0, z1, z2, z3, z4, z5]) rfl ⟨by rw [HN.out, HI.out], HBB.out⟩

set_option maxRecDepth 100000 in
set_option maxHeartbeats 1600000 in
theorem replace_code (H : GraphHave) (a : Addr) (S : Nat → Prop) (g : Gr) (o : Opn) (x t : Ino) (w : World) (h : H.rep w S a g) (hg : g.ok) :
    Calls Tryz.prog 160 #[.agg (deedA a o), .agg (inoA x), .agg (inoA t)] w fun e w' => e = .returned (.int .i64 (replaceB x.kind t.kind ((listE g.E t.id).length : Int))) ∧ Below w.heap.size w w' := by
  have FU : Hid (∀ W : World, Below w.heap.size w W → Calls Tryz.prog 159 #[.agg (deedA a o), .agg #[.int .i64 t.id.1, .int .i64 t.id.2]] W fun e w' => e = .returned (.bool (decide (0 < (listE g.E t.id).length))) ∧ Below W.heap.size W w') := Lib.hid fun W hW => fullQ_code H a S g o t.id W (rep_below h hW) hg
  have DX : Hid (∀ W : World, Calls Tryz.prog 157 #[.agg #[.int .i64 x.id.1, .int .i64 x.id.2, .int .i64 x.kind, .int .i64 x.links, .int .i64 x.mode, .string x.data]] W fun e w' => e = .returned (.bool (x.kind == 1)) ∧ Below W.heap.size W w') := Lib.hid (dirQ_code x)
  have DT : Hid (∀ W : World, Calls Tryz.prog 157 #[.agg #[.int .i64 t.id.1, .int .i64 t.id.2, .int .i64 t.kind, .int .i64 t.links, .int .i64 t.mode, .string t.data]] W fun e w' => e = .returned (.bool (t.kind == 1)) ∧ Below W.heap.size W w') := Lib.hid (dirQ_code t)
  obtain ⟨fu, hfu⟩ : ∃ fu, fu = decide (0 < (listE g.E t.id).length) := ⟨_, rfl⟩
  obtain ⟨kx, hkx⟩ : ∃ kx, kx = (x.kind == 1) := ⟨_, rfl⟩
  obtain ⟨kt, hkt⟩ : ∃ kt, kt = (t.kind == 1) := ⟨_, rfl⟩
  rw [← hfu] at FU
  rw [← hkx] at DX
  rw [← hkt] at DT
  have hr : replaceB x.kind t.kind ((listE g.E t.id).length : Int) = if kt = true ∧ kx = false then 5 else if kx = true ∧ kt = false then 6 else if fu = true then 7 else 0 := by
    unfold replaceB
    rw [hfu, hkx, hkt]
    simp
  obtain ⟨r, hr'⟩ : ∃ r, r = replaceB x.kind t.kind ((listE g.E t.id).length : Int) := ⟨_, rfl⟩
  rw [← hr'] at hr ⊢
  have HR := Lib.hid hr
  have hb0 : Held w [(w.heap.size + 2, .cells (inoA t) 70), (w.heap.size + 1, .cells (inoA x) 70), (w.heap.size, .cells (deedA a o) 116)] (((w.alloc (.cells (deedA a o) 116)).alloc (.cells (inoA x) 70)).alloc (.cells (inoA t) 70)) :=
    (((Held.refl w).alloc (.cells (deedA a o) 116) rfl).alloc (.cells (inoA x) 70) (by simp)).alloc (.cells (inoA t) 70) (by simp)
  have HH := Lib.hid hb0
  clear h hg hfu hkx hkt hr hr' hb0
  go_enter Tryz.func160, Tryz.ntmps160
  go_upto_region 1 with fail
  change Code.wp _ _ _ _ (((w.alloc (.cells (deedA a o) 116)).alloc (.cells (inoA x) 70)).alloc (.cells (inoA t) 70))
  generalize ((w.alloc (.cells (deedA a o) 116)).alloc (.cells (inoA x) 70)).alloc (.cells (inoA t) 70) = w0 at HH ⊢
  have O := Lib.hid (fun y => deed_cells (g := w.heap.size) (((later_below w0 y).block _ (heap_lt (HH.out.at 2 rfl))).trans (HH.out.at 2 rfl)))
  have d0 := fun y => (O.out y).1
  have d1 := fun y => (O.out y).2.1
  have d2 := fun y => (O.out y).2.2.1
  have d3 := fun y => (O.out y).2.2.2.1
  have d4 := fun y => (O.out y).2.2.2.2.1
  have d5 := fun y => (O.out y).2.2.2.2.2.1
  have d6 := fun y => (O.out y).2.2.2.2.2.2.1
  have d7 := fun y => (O.out y).2.2.2.2.2.2.2.1
  have d8 := fun y => (O.out y).2.2.2.2.2.2.2.2.1
  have d9 := fun y => (O.out y).2.2.2.2.2.2.2.2.2.1
  have d10 := fun y => (O.out y).2.2.2.2.2.2.2.2.2.2.1
  have d11 := fun y => (O.out y).2.2.2.2.2.2.2.2.2.2.2.1
  have d12 := fun y => (O.out y).2.2.2.2.2.2.2.2.2.2.2.2.1
  have d13 := fun y => (O.out y).2.2.2.2.2.2.2.2.2.2.2.2.2
  have IX := Lib.hid (fun y => ino_cells (g := w.heap.size + 1) (((later_below w0 y).block _ (heap_lt (HH.out.at 1 rfl))).trans (HH.out.at 1 rfl)))
  have IT := Lib.hid (fun y => ino_cells (g := w.heap.size + 2) (((later_below w0 y).block _ (heap_lt (HH.out.at 0 rfl))).trans (HH.out.at 0 rfl)))
  have x0 := fun y => (IX.out y).1
  have x1 := fun y => (IX.out y).2.1
  have x2 := fun y => (IX.out y).2.2.1
  have x3 := fun y => (IX.out y).2.2.2.1
  have x4 := fun y => (IX.out y).2.2.2.2.1
  have x5 := fun y => (IX.out y).2.2.2.2.2
  have t0 := fun y => (IT.out y).1
  have t1 := fun y => (IT.out y).2.1
  have t2 := fun y => (IT.out y).2.2.1
  have t3 := fun y => (IT.out y).2.2.2.1
  have t4 := fun y => (IT.out y).2.2.2.2.1
  have t5 := fun y => (IT.out y).2.2.2.2.2
  have HB := Lib.hid HH.out.below
  have FU' : Hid (∀ y, Calls Tryz.prog 159 #[.agg #[.pointer (some a), .int .i64 o.st, .int .i64 o.sr, .int .i64 o.k, .int .i64 o.pt, .int .i64 o.pr, .int .i64 o.it, .int .i64 o.ir, .int .i64 o.tt, .int .i64 o.tr, .string o.name, .string o.new, .int .i64 o.off, .string o.data], .agg #[.int .i64 t.id.1, .int .i64 t.id.2]] (later w0 y) fun e w'' => e = .returned (.bool fu) ∧ ∃ z, w'' = later w0 z) := Lib.hid fun y => later_call (FU.out _ (below_step HB.out (later_below w0 y)))
  have DX' : Hid (∀ y, Calls Tryz.prog 157 #[.agg #[.int .i64 x.id.1, .int .i64 x.id.2, .int .i64 x.kind, .int .i64 x.links, .int .i64 x.mode, .string x.data]] (later w0 y) fun e w'' => e = .returned (.bool kx) ∧ ∃ z, w'' = later w0 z) := Lib.hid fun y => later_call (DX.out _)
  have DT' : Hid (∀ y, Calls Tryz.prog 157 #[.agg #[.int .i64 t.id.1, .int .i64 t.id.2, .int .i64 t.kind, .int .i64 t.links, .int .i64 t.mode, .string t.data]] (later w0 y) fun e w'' => e = .returned (.bool kt) ∧ ∃ z, w'' = later w0 z) := Lib.hid fun y => later_call (DT.out _)
  rw [show w0 = later w0 w0 from (later_of (Below.refl _ _)).symm]
  clear HH O IX IT FU DX DT
  go_wp2_with fail
  iterate 6
    all_goals first
      | ((fail_if_success (go_at_call 159)); (fail_if_success (go_at_call 157)); go_ret; exact ⟨by rw [HR.out]; simp, below_step HB.out (later_below w0 _)⟩)
      | (go_at_call 159; (with_reducible refine (FU'.out _).mono ?_); rintro z w5 ⟨rfl, y5, rfl⟩; cases fu <;> go_wp2_with fail)
      | (go_at_call 157; (with_reducible refine (DX'.out _).mono ?_); rintro z w5 ⟨rfl, y5, rfl⟩; (first | (cases kx <;> go_wp2_with fail) | go_wp2_with fail))
      | (go_at_call 157; (with_reducible refine (DT'.out _).mono ?_); rintro z w5 ⟨rfl, y5, rfl⟩; (first | (cases kt <;> go_wp2_with fail) | go_wp2_with fail))
      | skip

end Go.Proofs.YthcmgaibbpacfaaGreatDoor
