/-
  Parts have no slash, and are no points alone; a path of them, with slashes between, has the same ones: for any path of 500 bytes at most.
-/
import Derived.Test.YtbkijfhfjhpebaaGreatDoorZ01
import Derived.Test.YtbkijfhfjhpebaaGreatDoorFrameRefTextsZ
import Derived.OpenShut
import Derived.Deep.LoopGhost
namespace Go.Proofs.YtbkijfhfjhpebaaGreatDoor.lawPathParts
open Go.RowKit StampMath GraphMath OpMath PackMath

set_option maxRecDepth 100000 in
set_option maxHeartbeats 3200000 in
theorem core {H : GraphHave} (P : FoldHave H) (Q : PathHave H) (p : ByteArray) (w : World) (T : Tab w) :
    Calls Tryz.prog 5 #[.string p] w fun e w' => e = .returned (.bool true) ∧ Below w.heap.size w w' := by
  go_enter Tryz.func5, Tryz.ntmps5
  go_wp2_with fail
  refine (PathHave.shown P Q _ T).mono ?_
  rintro e w1 ⟨rfl, hb1⟩
  have B1 := Lib.hid hb1
  clear hb1
  by_cases hl : 500 < (p.size : Int)
  case pos =>
    go_wp2_with fail
    go_ret
    exact ⟨rfl, B1.out⟩
  have S1 := Lib.hid (Q.split p w1 (by omega))
  unfold SplitPost at S1
  obtain ⟨b, hb⟩ : ∃ b : Bs, b = p.data.toList := ⟨_, rfl⟩
  have hbl : b.length = p.size := by rw [hb]; simp
  rw [← hb] at S1
  clear hb
  go_wp2_with fail
  refine S1.out.mono ?_
  rintro e w2 ⟨A, n, c, rfl, hin, hnc, hcm, _, hb2⟩
  have B2 := Lib.hid (below_step B1.out hb2)
  clear hb2 B1 S1
  by_cases he : errP b = 0
  case neg =>
    have he0 : (errP b != 0) = true := bne_iff_ne.2 he
    rw [if_neg he] at hin
    have hn0 : n = 0 := hin.1.symm
    subst hn0
    go_wp2_with fail
    go_ret
    exact ⟨rfl, B2.out⟩
  have he0 : (errP b != 0) = false := by rw [he]; rfl
  rw [if_pos he] at hin
  have hlen : (partsP b).length = n := hin.1
  have hn : n ≤ 129 := by have := parts_len b; have := (err_zero he).2.1; omega
  have HIN := Lib.hid hin
  obtain ⟨z1, z2, z3, z4⟩ := err_zero he
  have HZ : Hid (∀ a ∈ partsP b, a.length ≤ 8 ∧ isPart a = true ∧ ∀ c ∈ a, c ≠ 47 ∧ c ≠ 0) := Lib.hid fun a ha => ⟨z3 a ha, (mem_parts ha).1, fun c hc => ⟨((mem_parts ha).2 c hc).1, fun q => z4 (q ▸ ((mem_parts ha).2 c hc).2)⟩⟩
  have HE := Lib.hid he
  clear hin z1 z2 z3 z4 he
  obtain ⟨l, hll⟩ : ∃ l, l = partsP b := ⟨_, rfl⟩
  rw [← hll] at hlen HIN HZ
  have HL := Lib.hid hll
  have HLN := Lib.hid hlen
  clear hll hlen hbl
  go_wp2_with fail
  go_loopg [6, 7] (n + 1) (fun gk q i wr => ∃ k : Nat, q = .string ⟨(47 :: (l.take k).flatMap fun a => a ++ [47]).toArray⟩ ∧ i = .int .i64 (k : Int) ∧ gk + k = n + 1 ∧ k ≤ n ∧ Hid (Below w2.heap.size w2 wr))
  case atStart => exact ⟨0, rfl, rfl, by omega, by omega, Lib.hid (Below.refl _ _)⟩
  case round =>
    obtain ⟨k, rfl, rfl, hgk, hk, hB⟩ := hrel
    obtain ⟨og, hog⟩ : ∃ og, og = gk := ⟨_, rfl⟩
    have HG : Hid (og + k = n + 1 ∧ og = gk) := Lib.hid ⟨by rw [hog]; exact hgk, hog⟩
    clear hgk hog
    by_cases hlt : k < n
    · obtain ⟨g, o, rfl, hg, hcell⟩ := HIN.out.2 (by omega)
      have l1 : k < l.length := by have := HLN.out; omega
      have d0 : wr.cell? ⟨g, o + k, none⟩ = some (.string ⟨l[k].toArray⟩) := (hB.out.cell (p := ⟨g, o + k, none⟩) hg).trans (hcell k l1)
      have hz := HZ.out l[k] (List.getElem_mem l1)
      have hnext : (47 :: (l.take (k + 1)).flatMap fun a => a ++ [47]) = (47 :: (l.take k).flatMap fun a => a ++ [47]) ++ l[k] ++ [47] := by
        rw [List.take_succ_eq_append_getElem l1, List.flatMap_append]
        simp
      have hql : (47 :: (l.take k).flatMap fun a => a ++ [47]).length ≤ 9 * k + 1 := by
        have := join_len (l.take k) fun a ha => (HZ.out a (List.mem_of_mem_take ha)).1
        rw [List.length_take] at this
        rw [List.length_cons]
        omega
      generalize (47 :: (l.take k).flatMap fun a => a ++ [47]) = q at hnext hql ⊢
      generalize l[k] = x at d0 hz hnext
      have hadd1 : (Op.stringOp .add ⟨q.toArray⟩ ⟨x.toArray⟩).run Tryz.prog wr = .ok (.string ⟨(q ++ x).toArray⟩) wr := by
        rw [run_string_add_sum wr _ _ (by show q.length + x.length ≤ _; omega), mk_append_data]
      have hadd2 : (Op.stringOp .add ⟨(q ++ x).toArray⟩ ⟨#[47]⟩).run Tryz.prog wr = .ok (.string ⟨(q ++ x ++ [47]).toArray⟩) wr := by
        rw [show (⟨#[47]⟩ : ByteArray) = ⟨([47] : List UInt8).toArray⟩ from rfl, run_string_add_sum wr _ _ (by show (q ++ x).length + 1 ≤ _; rw [List.length_append]; omega), mk_append_data]
      have hi0 : (0 : Int) ≤ (k : Int) := by omega
      have hi1 : (k : Int) < (n : Int) := by omega
      obtain ⟨X, hX⟩ : ∃ X : ByteArray, X = ⟨x.toArray⟩ := ⟨_, rfl⟩
      have hXl : X.data.toList = x := by rw [hX]
      have hXs : X.size = x.length := by rw [hX]; rfl
      rw [← hX] at d0 hadd1
      have HC : Hid (∀ j (h : j < X.size), ((X[j].toNat : Int) == 47) = false ∧ ((X[j].toNat : Int) == 0) = false) := Lib.hid fun j h => by
        have hm : X[j] ∈ x := by rw [← hXl]; exact List.getElem_mem (l := X.data.toList) h
        obtain ⟨e1, e2⟩ := hz.2.2 _ hm
        refine ⟨beq_eq_false_iff_ne.2 fun e => e1 (UInt8.toNat_inj.1 ?_), beq_eq_false_iff_ne.2 fun e => e2 (UInt8.toNat_inj.1 ?_)⟩
        · show X[j].toNat = 47; omega
        · show X[j].toNat = 0; omega
      have hp : (X.toList == []) = false ∧ (X.toList == [46]) = false := by
        have := hz.2.1
        unfold isPart at this
        rw [ByteArray.toList_eq, hXl]
        simpa using this
      obtain ⟨hp1, hp2⟩ := hp
      have hx8 : X.size ≤ 8 := by rw [hXs]; exact hz.1
      have HD0 := Lib.hid d0
      have HN := Lib.hid hnext
      have HBR := Lib.hid hB.out
      obtain ⟨qq, hqq⟩ : ∃ qq : ByteArray, qq = ⟨(q ++ x ++ [47]).toArray⟩ := ⟨_, rfl⟩
      have HQ := Lib.hid hqq
      rw [← hqq] at hadd2
      clear hcell hX hXl hXs hz hnext hqq hql hB
      go_wp2_with fail
      go_loopg [8] (X.size + 1) (fun gj i wq => ∃ j : Nat, i = .int .i64 (j : Int) ∧ gj + j = X.size + 1 ∧ j ≤ X.size ∧ wq = wr)
      case atStart => exact ⟨0, rfl, by omega, by omega, rfl⟩
      case round =>
        obtain ⟨j, rfl, hgj, hj, rfl⟩ := hrel
        have HJ := Lib.hid hgj
        clear hgj hadd1 hadd2
        by_cases hjl : j < X.size
        · obtain ⟨c1, c2⟩ := HC.out j hjl
          go_wp2_with fail
          go_roundg (gk - 1)
          case measure => have := HJ.out; omega
          case rel => exact ⟨j + 1, by go_num, by have := HJ.out; omega, by omega, rfl⟩
        · go_wp2_with fail
          go_roundg (og - 1)
          case measure => have := HG.out; omega
          case rel => exact ⟨k + 1, by rw [HQ.out, HN.out], by go_num, by have := HG.out; omega, by omega, HBR⟩
    · have hkn : k = n := by omega
      clear hlt
      have HJN : Hid (joinP l = 47 :: (l.take k).flatMap fun a => a ++ [47]) := Lib.hid (by rw [List.take_of_length_le (by have := HLN.out; omega)]; rfl)
      have hql : (47 :: (l.take k).flatMap fun a => a ++ [47]).length ≤ 9 * k + 1 := by
        have := join_len (l.take k) fun a ha => (HZ.out a (List.mem_of_mem_take ha)).1
        rw [List.length_take] at this
        rw [List.length_cons]
        omega
      rw [← HJN.out] at hql ⊢
      have HPJ : Hid (partsP (joinP l) = l) := Lib.hid (by
        rw [HL.out]
        exact parts_join fun a ha => ⟨(mem_parts ha).1, fun q => ((mem_parts ha).2 _ q).1 rfl⟩)
      have HEJ : Hid ((joinP l).length ≤ 128 → errP (joinP l) = 0) := Lib.hid (by
        rw [HL.out]
        exact err_join HE.out)
      generalize joinP l = q at HPJ HEJ hql HJN ⊢
      obtain ⟨X, hX⟩ : ∃ X : ByteArray, X = ⟨q.toArray⟩ := ⟨_, rfl⟩
      have hXl : X.data.toList = q := by rw [hX]
      have hXs : X.size = q.length := by rw [hX]; rfl
      rw [← hX]
      obtain ⟨w3, hw3⟩ : ∃ W, W = wr := ⟨_, rfl⟩
      rw [← hw3] at hB ⊢
      have S3 := Lib.hid (Q.split X w3 (by omega))
      unfold SplitPost at S3
      rw [hXl] at S3
      have HXS := Lib.hid hXs
      clear hX hXl hXs hw3 HG hk
      go_wp2_with fail
      refine S3.out.mono ?_
      rintro e w4 ⟨A', n', c', rfl, hin', hnc', hcm', _, hb4⟩
      have B24 := Lib.hid (below_step hB.out hb4)
      have B4 := Lib.hid (below_step B2.out B24.out)
      have HI4 := Lib.hid hin'
      clear hin' hb4 S3 hB
      by_cases hs : 128 < (X.size : Int)
      · go_wp2_with fail
        go_ret
        exact ⟨rfl, B4.out⟩
      · have he1 := HEJ.out (by have := HXS.out; omega)
        rw [he1] at HI4 ⊢
        rw [if_pos rfl, HPJ.out] at HI4
        have hll : l.length = n' := HI4.out.1
        have R4 := Lib.hid (refTexts A n c l A' n' c' l (by omega) (by have := HLN.out; omega) w4 ((HIN.out.below B24.out).more B24.out.size) HI4.out)
        rw [sameS_yes rfl fun _ _ _ => rfl] at R4
        clear he1 hll
        go_wp2_with fail
        refine R4.out.mono ?_
        rintro e w5 ⟨rfl, hb5⟩
        go_wp2_with fail
        go_ret
        exact ⟨rfl, below_step B4.out hb5⟩

theorem walk0 {H : GraphHave} (P : FoldHave H) (Q : PathHave H) (p : ByteArray) (w : World) [T : Tab w] (_ : p.size ≤ maxLen) :
    Calls Tryz.prog 5 #[.string p] w fun e w' => e = .returned (.bool true) ∧ Below w.heap.size w w' :=
  core P Q p w T

end Go.Proofs.YtbkijfhfjhpebaaGreatDoor.lawPathParts
