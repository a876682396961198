/-
  What is reached is inodes that there are, each once, rising; with an entry more no less is: for all inodes and entries, 60 of each at most (others are let go), and each entry more.
-/
import Derived.Test.YtoobmkkmomiigaaAuditFew
import Derived.Deep.RegionLaw
import Derived.Deep.AppendLies
import Derived.BigRegion
import Derived.Deep.DeepCutAuto
import Derived.Test.YtoobmkkmomiigaaLater
namespace Go.Proofs.Ytoobmkkmomiigaa.lawAuditReaches
open Go.RowKit StampMath GraphMath OpMath

theorem reach_few {N : List Ino} {E : List Ent} {l : List St} (h : IsReach N E l) : l.length ≤ N.length := by
  have := nodup_le h.1.nodup (M := N.map (·.id)) fun s hs => by
    obtain ⟨x, hx, hxe⟩ := ((h.2 s).1 hs).ino
    rw [← hxe]
    exact List.mem_map_of_mem hx
  simpa using this

theorem given_more {w W : World} {A : Option Addr} {n : Nat} {N : List Ino} {A' : Option Addr} {m : Nat} {E : List Ent} (h : Given w A n N A' m E) (hb : Below w.heap.size w W) {base g cap : Nat} {x : Ent}
    (hown : W.ownsRow base 33 5 (.slice (some ⟨g, 0, none⟩) (m + 1) cap) (m + 1) (flat (E.map entA) ++ (entA x).toList)) (hx : x.name.size ≤ maxLen) (hm : m ≤ 60) : Given W A n N (some ⟨g, 0, none⟩) (m + 1) (E ++ [x]) := by
  rw [flat_ent] at hown
  have hl := h.ents.len
  obtain ⟨A2, c2, e2, hin, -⟩ := ents_own (by rw [List.length_append, hl]; rfl) hown
  injection e2 with q1 q2 q3
  subst q1
  refine ⟨(h.below hb).inos, hin, h.fewI, by omega, h.datas, fun y hy => ?_⟩
  rcases List.mem_append.1 hy with hy | hy
  · exact h.names y hy
  · rw [List.mem_singleton.1 hy]; exact hx

/-- Is one of the first k inodes of this number? -/
def anyB (N : List Ino) (k : Nat) (s : St) : Bool := (N.take k).any fun x => decide (x.id = s)

theorem anyB_zero (N : List Ino) (s : St) : anyB N 0 s = false := by simp [anyB]
theorem anyB_next (N : List Ino) (s : St) {k : Nat} (h : k < N.length) : anyB N (k + 1) s = (anyB N k s || decide (N[k].id = s)) := by
  unfold anyB
  rw [List.take_succ_eq_append_getElem h, List.any_append]
  simp

set_option maxRecDepth 100000 in
set_option maxHeartbeats 16000000 in
theorem walk0 (H : AuditHave) (A : Option Addr) (n c : Nat) (N : List Ino) (A' : Option Addr) (m d : Nat) (E : List Ent) (x : Ent) (w : World) (ha : n ≤ c) (hc : c ≤ maxLen) (hN : ∀ x ∈ N, x.data.size ≤ maxLen) (hI : InosIn w w.heap.size A n N)
    (hb : m ≤ d) (hd : d ≤ maxLen) (hE : ∀ x ∈ E, x.name.size ≤ maxLen) (hJ : EntsIn w w.heap.size A' m E) (hd0 : A' = none → d = 0) (hxs : x.name.size ≤ maxLen) :
    Calls Try.prog 5 #[.slice A n c, .slice A' m d, .agg (entA x)] w fun e w' => e = .returned (.bool true) ∧ Below w.heap.size w w' := by
  have hlI := hI.len
  have hlE := hJ.len
  have SH := Lib.hid (fun W => H.shown W)
  have FW := Lib.hid (fun W => few_any A n c A' m d (by omega) (by omega) W)
  obtain ⟨⟨xd1, xd2⟩, xn, ⟨xi1, xi2⟩⟩ := x
  unfold entA
  by_cases hf : n ≤ 60 ∧ m ≤ 60
  · have hGv : Given w A n N A' m E := ⟨hI, hJ, by omega, by omega, hN, hE⟩
    have HG := Lib.hid hGv
    clear hGv hI hJ hN hE
    rw [decide_eq_true hf] at FW
    obtain ⟨i0, hi0, hz0, hz1, hz2⟩ := info_parts ent_infos
    go_enter Try.func5, Try.ntmps5
    go_wp2_with fail
    refine (SH.out _).mono ?_
    rintro e w1 ⟨rfl, hb1⟩
    go_wp2_with fail
    refine (FW.out _).mono ?_
    rintro e _ ⟨rfl, rfl⟩
    have hH := ((Held.refl w).alloc (.cells (entA ⟨(xd1, xd2), xn, (xi1, xi2)⟩) 33) rfl).step hb1
    clear hb1
    go_wp2_with fail
    refine (H.reach A n c N A' m d E _ (HG.out.below hH.below)).mono ?_
    rintro e w2 ⟨va, la, rfl, hra, howna, hb2⟩
    have hH2 := hH.step hb2
    obtain ⟨Aa, ca, rfl, hina, -⟩ := sts_own rfl howna
    have HRA := Lib.hid hra
    have HIA := Lib.hid hina
    clear hH hb2 hra hina howna
    obtain ⟨e0, e1, e2, e3, e4⟩ := ent_cells (g := w.heap.size) (hH2.at 0 rfl)
    have hlow : w.heap.size < w2.heap.size := heap_lt (hH2.at 0 rfl)
    go_upto_region 5 with fail
    go_cut [9] (fun p wx => ∃ (Ab : Option Addr) (cb : Nat) (lb : List St), p = .slice Ab lb.length cb ∧ Hid (IsReach N (E ++ [⟨(xd1, xd2), xn, (xi1, xi2)⟩]) lb) ∧ Hid (StsIn wx wx.heap.size Ab lb.length lb) ∧ Hid (Below w2.heap.size w2 wx))
    case first =>
      by_cases hm0 : m = 0
      · subst hm0
        obtain rfl : E = [] := List.eq_nil_of_length_eq_zero hlE
        rcases A' with _ | p
        · obtain rfl : d = 0 := hd0 rfl
          clear hd0
          have hHa := (hH2.step ((Below.refl w2.heap.size w2).alloc (Nat.le_refl _) (.cells #[] 33))).drew
          obtain ⟨a0, a1, a2, a3, a4⟩ := ent_cells (g := w.heap.size) (hHa.at 0 rfl)
          simp only [Nat.zero_add] at a0 a1 a2 a3 a4 e0 e1 e2 e3 e4
          have hxone := ent_one ⟨(xd1, xd2), xn, (xi1, xi2)⟩
          have hmx2 : 0 + 1 ≤ maxLen := by unfold maxLen; omega
          have bb : Below w2.heap.size w2 (((w2.alloc (.cells #[.int .i64 xd1, .int .i64 xd2, .string xn, .int .i64 xi1, .int .i64 xi2] 33)).alloc (.cells #[] 33)).drew) := (((Below.refl _ _).alloc (Nat.le_refl _) _).alloc (by simp) _).drew
          have bc : Below w2.heap.size w2 (((w2.alloc (.cells #[] 33)).alloc (.cells #[.int .i64 xd1, .int .i64 xd2, .string xn, .int .i64 xi1, .int .i64 xi2] 33)).drew) := (((Below.refl _ _).alloc (Nat.le_refl _) _).alloc (by simp) _).drew
          have ob : (((w2.alloc (.cells #[.int .i64 xd1, .int .i64 xd2, .string xn, .int .i64 xi1, .int .i64 xi2] 33)).alloc (.cells #[] 33)).drew).ownsRow w2.heap.size 33 5 (.slice (some ⟨w2.heap.size + 1, 0, none⟩) 0 0) 0 (flat []) := by
            have h := own_empty (w2.alloc (.cells #[.int .i64 xd1, .int .i64 xd2, .string xn, .int .i64 xi1, .int .i64 xi2] 33)) w2.heap.size 33 5 (by simp)
            rw [World.size_alloc] at h
            exact h
          have oc : (((w2.alloc (.cells #[] 33)).alloc (.cells #[.int .i64 xd1, .int .i64 xd2, .string xn, .int .i64 xi1, .int .i64 xi2] 33)).drew).ownsRow w2.heap.size 33 5 (.slice (some ⟨w2.heap.size, 0, none⟩) 0 0) 0 (flat []) := (own_empty w2 w2.heap.size 33 5 (Nat.le_refl _)).alloc _
          have ub : (((w2.alloc (.cells #[.int .i64 xd1, .int .i64 xd2, .string xn, .int .i64 xi1, .int .i64 xi2] 33)).alloc (.cells #[] 33)).drew).heap[w2.heap.size]? = some (.cells #[.int .i64 xd1, .int .i64 xd2, .string xn, .int .i64 xi1, .int .i64 xi2] 33 (0, 0)) := (heap_alloc_old _ _ (by simp)).trans (heap_alloc_new w2 _)
          have uc : (((w2.alloc (.cells #[] 33)).alloc (.cells #[.int .i64 xd1, .int .i64 xd2, .string xn, .int .i64 xi1, .int .i64 xi2] 33)).drew).heap[w2.heap.size + 1]? = some (.cells #[.int .i64 xd1, .int .i64 xd2, .string xn, .int .i64 xi1, .int .i64 xi2] 33 (0, 0)) := by
            have h := heap_alloc_new (w2.alloc (.cells #[] 33)) (.cells #[.int .i64 xd1, .int .i64 xd2, .string xn, .int .i64 xi1, .int .i64 xi2] 33)
            rw [World.size_alloc] at h
            exact h
          go_region_law (first
            | ((refine step_append_lies _ (by rfl) (.tmp 25) (.tmp 27) _ (by rfl) w2.heap.size 33 i0 _ 5 48 Try.underlying23 hi0 hz0 hz1 hz2 rfl (by decide) _ 0 (flat []) (by rfl) ob ⟨w2.heap.size, 0, none⟩ 1 1 (entA ⟨(xd1, xd2), xn, (xi1, xi2)⟩).toList (by rfl) (by rfl) (World.news_of_block ub) hxone (by omega) hmx2 (by omega) bb.size _ rfl ?_; intro g8 cap8 w8 hown8 hgrow8 hat8 hlt8; have hB8 : Below w2.heap.size w2 w8 := bb.grown hgrow8 bb.size (fun q hq => (ob.lt q hq).1); have HG8 := Lib.hid (given_more (x := ⟨(xd1, xd2), xn, (xi1, xi2)⟩) HG.out (hH2.below.trans (hB8.mono (by omega))) hown8 hxs (by omega))))
            | ((refine step_append_lies _ (by rfl) (.tmp 25) (.tmp 27) _ (by rfl) w2.heap.size 33 i0 _ 5 48 Try.underlying23 hi0 hz0 hz1 hz2 rfl (by decide) _ 0 (flat []) (by rfl) oc ⟨w2.heap.size + 1, 0, none⟩ 1 1 (entA ⟨(xd1, xd2), xn, (xi1, xi2)⟩).toList (by rfl) (by rfl) (World.news_of_block uc) hxone (by omega) hmx2 (by omega) bc.size _ rfl ?_; intro g8 cap8 w8 hown8 hgrow8 hat8 hlt8; have hB8 : Below w2.heap.size w2 w8 := bc.grown hgrow8 bc.size (fun q hq => (oc.lt q hq).1); have HG8 := Lib.hid (given_more (x := ⟨(xd1, xd2), xn, (xi1, xi2)⟩) HG.out (hH2.below.trans (hB8.mono (by omega))) hown8 hxs (by omega))))
            | (rw [if_pos (by rfl)]; unfold Oper.wp; go_simp; refine (H.reach A n c N (some ⟨g8, 0, none⟩) (0 + 1) cap8 _ w8 HG8.out).mono ?_; rintro e w9 ⟨vb, lb, rfl, hrb, hownb, hb9⟩))
          all_goals
            obtain ⟨Ab, cb, rfl, hinb, -⟩ := sts_own rfl hownb
            have HIB := Lib.hid (And.intro hinb (And.intro hrb (below_step hB8 hb9)))
            clear hinb hrb hownb hb9 hB8 HG8
            go_wp2_with fail
            go_meet
            case rel => exact ⟨Ab, cb, lb, rfl, HIB.out.2.1, HIB.out.1, HIB.out.2.2⟩
        · clear hd0
          have hHa := (hH2.step ((Below.refl w2.heap.size w2).alloc (Nat.le_refl _) (.cells #[] 33))).drew
          obtain ⟨a0, a1, a2, a3, a4⟩ := ent_cells (g := w.heap.size) (hHa.at 0 rfl)
          simp only [Nat.zero_add] at a0 a1 a2 a3 a4 e0 e1 e2 e3 e4
          have hxone := ent_one ⟨(xd1, xd2), xn, (xi1, xi2)⟩
          have hmx2 : 0 + 1 ≤ maxLen := by unfold maxLen; omega
          have bb : Below w2.heap.size w2 (((w2.alloc (.cells #[.int .i64 xd1, .int .i64 xd2, .string xn, .int .i64 xi1, .int .i64 xi2] 33)).alloc (.cells #[] 33)).drew) := (((Below.refl _ _).alloc (Nat.le_refl _) _).alloc (by simp) _).drew
          have bc : Below w2.heap.size w2 (((w2.alloc (.cells #[] 33)).alloc (.cells #[.int .i64 xd1, .int .i64 xd2, .string xn, .int .i64 xi1, .int .i64 xi2] 33)).drew) := (((Below.refl _ _).alloc (Nat.le_refl _) _).alloc (by simp) _).drew
          have ob : (((w2.alloc (.cells #[.int .i64 xd1, .int .i64 xd2, .string xn, .int .i64 xi1, .int .i64 xi2] 33)).alloc (.cells #[] 33)).drew).ownsRow w2.heap.size 33 5 (.slice (some ⟨w2.heap.size + 1, 0, none⟩) 0 0) 0 (flat []) := by
            have h := own_empty (w2.alloc (.cells #[.int .i64 xd1, .int .i64 xd2, .string xn, .int .i64 xi1, .int .i64 xi2] 33)) w2.heap.size 33 5 (by simp)
            rw [World.size_alloc] at h
            exact h
          have oc : (((w2.alloc (.cells #[] 33)).alloc (.cells #[.int .i64 xd1, .int .i64 xd2, .string xn, .int .i64 xi1, .int .i64 xi2] 33)).drew).ownsRow w2.heap.size 33 5 (.slice (some ⟨w2.heap.size, 0, none⟩) 0 0) 0 (flat []) := (own_empty w2 w2.heap.size 33 5 (Nat.le_refl _)).alloc _
          have ub : (((w2.alloc (.cells #[.int .i64 xd1, .int .i64 xd2, .string xn, .int .i64 xi1, .int .i64 xi2] 33)).alloc (.cells #[] 33)).drew).heap[w2.heap.size]? = some (.cells #[.int .i64 xd1, .int .i64 xd2, .string xn, .int .i64 xi1, .int .i64 xi2] 33 (0, 0)) := (heap_alloc_old _ _ (by simp)).trans (heap_alloc_new w2 _)
          have uc : (((w2.alloc (.cells #[] 33)).alloc (.cells #[.int .i64 xd1, .int .i64 xd2, .string xn, .int .i64 xi1, .int .i64 xi2] 33)).drew).heap[w2.heap.size + 1]? = some (.cells #[.int .i64 xd1, .int .i64 xd2, .string xn, .int .i64 xi1, .int .i64 xi2] 33 (0, 0)) := by
            have h := heap_alloc_new (w2.alloc (.cells #[] 33)) (.cells #[.int .i64 xd1, .int .i64 xd2, .string xn, .int .i64 xi1, .int .i64 xi2] 33)
            rw [World.size_alloc] at h
            exact h
          go_region_law (first
            | ((refine step_append_lies _ (by rfl) (.tmp 25) (.tmp 27) _ (by rfl) w2.heap.size 33 i0 _ 5 48 Try.underlying23 hi0 hz0 hz1 hz2 rfl (by decide) _ 0 (flat []) (by rfl) ob ⟨w2.heap.size, 0, none⟩ 1 1 (entA ⟨(xd1, xd2), xn, (xi1, xi2)⟩).toList (by rfl) (by rfl) (World.news_of_block ub) hxone (by omega) hmx2 (by omega) bb.size _ rfl ?_; intro g8 cap8 w8 hown8 hgrow8 hat8 hlt8; have hB8 : Below w2.heap.size w2 w8 := bb.grown hgrow8 bb.size (fun q hq => (ob.lt q hq).1); have HG8 := Lib.hid (given_more (x := ⟨(xd1, xd2), xn, (xi1, xi2)⟩) HG.out (hH2.below.trans (hB8.mono (by omega))) hown8 hxs (by omega))))
            | ((refine step_append_lies _ (by rfl) (.tmp 25) (.tmp 27) _ (by rfl) w2.heap.size 33 i0 _ 5 48 Try.underlying23 hi0 hz0 hz1 hz2 rfl (by decide) _ 0 (flat []) (by rfl) oc ⟨w2.heap.size + 1, 0, none⟩ 1 1 (entA ⟨(xd1, xd2), xn, (xi1, xi2)⟩).toList (by rfl) (by rfl) (World.news_of_block uc) hxone (by omega) hmx2 (by omega) bc.size _ rfl ?_; intro g8 cap8 w8 hown8 hgrow8 hat8 hlt8; have hB8 : Below w2.heap.size w2 w8 := bc.grown hgrow8 bc.size (fun q hq => (oc.lt q hq).1); have HG8 := Lib.hid (given_more (x := ⟨(xd1, xd2), xn, (xi1, xi2)⟩) HG.out (hH2.below.trans (hB8.mono (by omega))) hown8 hxs (by omega))))
            | (rw [if_pos (by rfl)]; unfold Oper.wp; go_simp; refine (H.reach A n c N (some ⟨g8, 0, none⟩) (0 + 1) cap8 _ w8 HG8.out).mono ?_; rintro e w9 ⟨vb, lb, rfl, hrb, hownb, hb9⟩))
          all_goals
            obtain ⟨Ab, cb, rfl, hinb, -⟩ := sts_own rfl hownb
            have HIB := Lib.hid (And.intro hinb (And.intro hrb (below_step hB8 hb9)))
            clear hinb hrb hownb hb9 hB8 HG8
            go_wp2_with fail
            go_meet
            case rel => exact ⟨Ab, cb, lb, rfl, HIB.out.2.1, HIB.out.1, HIB.out.2.2⟩
      · obtain ⟨g2, o2, rfl, hg2, -⟩ := HG.out.ents.2 (by omega)
        have hEc : ∀ W, Hid (Below w.heap.size w W) → ∀ j u, (flat (E.map entA))[j]? = some u → W.cell? ((⟨g2, o2, none⟩ : Addr).add j) = some u := fun W hW j u hu => by
          obtain ⟨g', o', e', _, hc'⟩ := ((HG.out.ents).below hW.out).2 (by omega)
          injection e' with e'
          injection e' with q1 q2
          subst q1 q2
          obtain ⟨jj, i', hjj, rfl, hv⟩ := flat_out ent_sizes hu
          rw [tab_add, ← Nat.add_assoc]
          exact hc' jj hjj i' u hv
        have HEC := Lib.hid hEc
        clear hEc
        have hHa := (hH2.step ((Below.refl w2.heap.size w2).alloc (Nat.le_refl _) (.cells #[] 33))).drew
        have hHb := ((hH2.step ((Below.refl w2.heap.size w2).alloc (Nat.le_refl _) (.cells #[.int .i64 xd1, .int .i64 xd2, .string xn, .int .i64 xi1, .int .i64 xi2] 33))).step ((Below.refl _ _).alloc (Nat.le_refl _) (.cells #[] 33))).drew
        have hHc := ((hH2.step ((Below.refl w2.heap.size w2).alloc (Nat.le_refl _) (.cells #[] 33))).step ((Below.refl _ _).alloc (Nat.le_refl _) (.cells #[.int .i64 xd1, .int .i64 xd2, .string xn, .int .i64 xi1, .int .i64 xi2] 33))).drew
        obtain ⟨a0, a1, a2, a3, a4⟩ := ent_cells (g := w.heap.size) (hHa.at 0 rfl)
        simp only [Nat.zero_add] at a0 a1 a2 a3 a4 e0 e1 e2 e3 e4
        have hlen : (flat (E.map entA)).length = m * 5 := by rw [flat_len ent_sizes, List.length_map, hlE]
        have hones := flat_cells (ent_ones (E := E))
        have hxone := ent_one ⟨(xd1, xd2), xn, (xi1, xi2)⟩
        have hmx : 0 + m ≤ maxLen := by unfold maxLen; omega
        have hmx2 : m + 1 ≤ maxLen := by unfold maxLen; omega
        have ba : Below w2.heap.size w2 ((w2.alloc (.cells #[] 33)).drew) := ((Below.refl _ _).alloc (Nat.le_refl _) _).drew
        have bb : Below w2.heap.size w2 (((w2.alloc (.cells #[.int .i64 xd1, .int .i64 xd2, .string xn, .int .i64 xi1, .int .i64 xi2] 33)).alloc (.cells #[] 33)).drew) := (((Below.refl _ _).alloc (Nat.le_refl _) _).alloc (by simp) _).drew
        have bc : Below w2.heap.size w2 (((w2.alloc (.cells #[] 33)).alloc (.cells #[.int .i64 xd1, .int .i64 xd2, .string xn, .int .i64 xi1, .int .i64 xi2] 33)).drew) := (((Below.refl _ _).alloc (Nat.le_refl _) _).alloc (by simp) _).drew
        have oa : ((w2.alloc (.cells #[] 33)).drew).ownsRow w2.heap.size 33 5 (.slice (some ⟨w2.heap.size, 0, none⟩) 0 0) 0 (flat []) := own_empty w2 w2.heap.size 33 5 (Nat.le_refl _)
        have ob : (((w2.alloc (.cells #[.int .i64 xd1, .int .i64 xd2, .string xn, .int .i64 xi1, .int .i64 xi2] 33)).alloc (.cells #[] 33)).drew).ownsRow w2.heap.size 33 5 (.slice (some ⟨w2.heap.size + 1, 0, none⟩) 0 0) 0 (flat []) := by
          have h := own_empty (w2.alloc (.cells #[.int .i64 xd1, .int .i64 xd2, .string xn, .int .i64 xi1, .int .i64 xi2] 33)) w2.heap.size 33 5 (by simp)
          rw [World.size_alloc] at h
          exact h
        have oc : (((w2.alloc (.cells #[] 33)).alloc (.cells #[.int .i64 xd1, .int .i64 xd2, .string xn, .int .i64 xi1, .int .i64 xi2] 33)).drew).ownsRow w2.heap.size 33 5 (.slice (some ⟨w2.heap.size, 0, none⟩) 0 0) 0 (flat []) := (own_empty w2 w2.heap.size 33 5 (Nat.le_refl _)).alloc _
        have ub : (((w2.alloc (.cells #[.int .i64 xd1, .int .i64 xd2, .string xn, .int .i64 xi1, .int .i64 xi2] 33)).alloc (.cells #[] 33)).drew).heap[w2.heap.size]? = some (.cells #[.int .i64 xd1, .int .i64 xd2, .string xn, .int .i64 xi1, .int .i64 xi2] 33 (0, 0)) := (heap_alloc_old _ _ (by simp)).trans (heap_alloc_new w2 _)
        have uc : (((w2.alloc (.cells #[] 33)).alloc (.cells #[.int .i64 xd1, .int .i64 xd2, .string xn, .int .i64 xi1, .int .i64 xi2] 33)).drew).heap[w2.heap.size + 1]? = some (.cells #[.int .i64 xd1, .int .i64 xd2, .string xn, .int .i64 xi1, .int .i64 xi2] 33 (0, 0)) := by
          have h := heap_alloc_new (w2.alloc (.cells #[] 33)) (.cells #[.int .i64 xd1, .int .i64 xd2, .string xn, .int .i64 xi1, .int .i64 xi2] 33)
          rw [World.size_alloc] at h
          exact h
        go_region_law (first
          | ((refine step_append_lies _ (by rfl) (.tmp 23) (.tmp 24) _ (by rfl) w2.heap.size 33 i0 _ 5 48 Try.underlying23 hi0 hz0 hz1 hz2 rfl (by decide) _ 0 (flat []) (by rfl) oa ⟨g2, o2, none⟩ m d (flat (E.map entA)) (by rfl) hlen (HEC.out _ hHa.below) hones (by omega) hmx (by omega) (by simp; try omega) _ rfl ?_; intro gg cap w7 hown7 hgrow hat hlt7; rw [Nat.zero_add, flat_nil, List.nil_append] at hown7; have hH7 := hHa.grown (B := w2.heap.size) hgrow (fun q hq => (oa.lt q hq).1) (by intro p hp; simp at hp; subst hp; (dsimp only; omega)) (by omega); have hB7 := ba.grown hgrow ba.size (fun q hq => (oa.lt q hq).1); obtain ⟨x70, x71, x72, x73, x74⟩ := ent_cells (g := w.heap.size) (hH7.at 0 rfl); simp only [Nat.zero_add] at x70 x71 x72 x73 x74; have x7a := ent_cells (g := w.heap.size) ((hH7.alloc (.cells #[.int .i64 xd1, .int .i64 xd2, .string xn, .int .i64 xi1, .int .i64 xi2] 33) rfl).at 1 rfl)))
          | ((refine step_append_lies _ (by rfl) (.tmp 23) (.tmp 24) _ (by rfl) w2.heap.size 33 i0 _ 5 48 Try.underlying23 hi0 hz0 hz1 hz2 rfl (by decide) _ 0 (flat []) (by rfl) ob ⟨g2, o2, none⟩ m d (flat (E.map entA)) (by rfl) hlen (HEC.out _ hHb.below) hones (by omega) hmx (by omega) (by simp; try omega) _ rfl ?_; intro gg cap w7 hown7 hgrow hat hlt7; rw [Nat.zero_add, flat_nil, List.nil_append] at hown7; have hH7 := hHb.grown (B := w2.heap.size) hgrow (fun q hq => (ob.lt q hq).1) (by intro p hp; simp at hp; subst hp; (dsimp only; omega)) (by omega); have hB7 := bb.grown hgrow bb.size (fun q hq => (ob.lt q hq).1); obtain ⟨x70, x71, x72, x73, x74⟩ := ent_cells (g := w.heap.size) (hH7.at 0 rfl); simp only [Nat.zero_add] at x70 x71 x72 x73 x74; have ho7 : w7.heap[w2.heap.size]? = some (.cells #[.int .i64 xd1, .int .i64 xd2, .string xn, .int .i64 xi1, .int .i64 xi2] 33 (0, 0)) := (hgrow.block (w2.heap.size) (by simp; try omega) (by intro q; simp [Value.ownBlock] at q; try omega)).trans ub))
          | ((refine step_append_lies _ (by rfl) (.tmp 23) (.tmp 24) _ (by rfl) w2.heap.size 33 i0 _ 5 48 Try.underlying23 hi0 hz0 hz1 hz2 rfl (by decide) _ 0 (flat []) (by rfl) oc ⟨g2, o2, none⟩ m d (flat (E.map entA)) (by rfl) hlen (HEC.out _ hHc.below) hones (by omega) hmx (by omega) (by simp; try omega) _ rfl ?_; intro gg cap w7 hown7 hgrow hat hlt7; rw [Nat.zero_add, flat_nil, List.nil_append] at hown7; have hH7 := hHc.grown (B := w2.heap.size) hgrow (fun q hq => (oc.lt q hq).1) (by intro p hp; simp at hp; subst hp; (dsimp only; omega)) (by omega); have hB7 := bc.grown hgrow bc.size (fun q hq => (oc.lt q hq).1); obtain ⟨x70, x71, x72, x73, x74⟩ := ent_cells (g := w.heap.size) (hH7.at 0 rfl); simp only [Nat.zero_add] at x70 x71 x72 x73 x74; have ho7 : w7.heap[w2.heap.size + 1]? = some (.cells #[.int .i64 xd1, .int .i64 xd2, .string xn, .int .i64 xi1, .int .i64 xi2] 33 (0, 0)) := (hgrow.block (w2.heap.size + 1) (by simp; try omega) (by intro q; simp [Value.ownBlock] at q; try omega)).trans uc))
          | ((refine step_append_lies _ (by rfl) (.tmp 25) (.tmp 27) _ (by rfl) w2.heap.size 33 i0 _ 5 48 Try.underlying23 hi0 hz0 hz1 hz2 rfl (by decide) _ m (flat (E.map entA)) (by rfl) (hown7.alloc _) ⟨w7.heap.size, 0, none⟩ 1 1 (entA ⟨(xd1, xd2), xn, (xi1, xi2)⟩).toList (by rfl) (by rfl) (World.news_of_block (heap_alloc_new w7 _)) hxone (by omega) hmx2 (by omega) (by have := hB7.size; simp; try omega) _ rfl ?_; intro g8 cap8 w8 hown8 hgrow8 hat8 hlt8; have hB8 : Below w2.heap.size w2 w8 := (hB7.alloc hB7.size _).grown hgrow8 (by simp; have := hB7.size; omega) (fun q hq => (hown7.lt q hq).1); have HG8 := Lib.hid (given_more (x := ⟨(xd1, xd2), xn, (xi1, xi2)⟩) HG.out (hH2.below.trans (hB8.mono (by omega))) hown8 hxs hf.2)))
          | ((refine step_append_lies _ (by rfl) (.tmp 25) (.tmp 27) _ (by rfl) w2.heap.size 33 i0 _ 5 48 Try.underlying23 hi0 hz0 hz1 hz2 rfl (by decide) _ m (flat (E.map entA)) (by rfl) hown7 ⟨w2.heap.size, 0, none⟩ 1 1 (entA ⟨(xd1, xd2), xn, (xi1, xi2)⟩).toList (by rfl) (by rfl) (World.news_of_block ho7) hxone (by omega) hmx2 (by omega) (by have := hB7.size; simp; try omega) _ rfl ?_; intro g8 cap8 w8 hown8 hgrow8 hat8 hlt8; have hB8 : Below w2.heap.size w2 w8 := hB7.grown hgrow8 hB7.size (fun q hq => (hown7.lt q hq).1); have HG8 := Lib.hid (given_more (x := ⟨(xd1, xd2), xn, (xi1, xi2)⟩) HG.out (hH2.below.trans (hB8.mono (by omega))) hown8 hxs hf.2)))
          | ((refine step_append_lies _ (by rfl) (.tmp 25) (.tmp 27) _ (by rfl) w2.heap.size 33 i0 _ 5 48 Try.underlying23 hi0 hz0 hz1 hz2 rfl (by decide) _ m (flat (E.map entA)) (by rfl) hown7 ⟨w2.heap.size + 1, 0, none⟩ 1 1 (entA ⟨(xd1, xd2), xn, (xi1, xi2)⟩).toList (by rfl) (by rfl) (World.news_of_block ho7) hxone (by omega) hmx2 (by omega) (by have := hB7.size; simp; try omega) _ rfl ?_; intro g8 cap8 w8 hown8 hgrow8 hat8 hlt8; have hB8 : Below w2.heap.size w2 w8 := hB7.grown hgrow8 hB7.size (fun q hq => (hown7.lt q hq).1); have HG8 := Lib.hid (given_more (x := ⟨(xd1, xd2), xn, (xi1, xi2)⟩) HG.out (hH2.below.trans (hB8.mono (by omega))) hown8 hxs hf.2)))
          | (rw [if_pos (by rfl)]; unfold Oper.wp; go_simp; refine (H.reach A n c N (some ⟨g8, 0, none⟩) (m + 1) cap8 _ w8 HG8.out).mono ?_; rintro e w9 ⟨vb, lb, rfl, hrb, hownb, hb9⟩))
        all_goals
          obtain ⟨Ab, cb, rfl, hinb, -⟩ := sts_own rfl hownb
          have HIB := Lib.hid (And.intro hinb (And.intro hrb (below_step hB8 hb9)))
          clear hinb hrb hownb hb9 hB8 HG8 hB7 hH7
          go_wp2_with fail
          go_meet
          case rel => exact ⟨Ab, cb, lb, rfl, HIB.out.2.1, HIB.out.1, HIB.out.2.2⟩
    case rest =>
      obtain ⟨Ab, cb, lb, rfl, hRB, hIB, hBx⟩ := hcut
      have hB9 := below_step hH2.below hBx.out
      have HA9 : Hid (StsIn wc wc.heap.size Aa la.length la) := (TabIn.below HIA.out hBx.out).more hBx.out.size
      have HG9 := Lib.hid (HG.out.below hB9)
      have HB9 := Lib.hid hB9
      have HRLEN : lb.length ≤ 60 := by have := reach_few hRB.out; omega
      clear e0 e1 e2 e3 e4 hH2 hBx hB9
      go_wp2_with fail
      go_loopg [10] (la.length + 1) (fun gk i wr => ∃ q : Nat, i = .int .i64 (q : Int) ∧ gk + q = la.length + 1 ∧ q ≤ la.length ∧ Hid (Below wc.heap.size wc wr))
      case atStart => exact ⟨0, rfl, by omega, by omega, Below.refl _ _⟩
      case round =>
        obtain ⟨q, rfl, hgk, hq, hB⟩ := hrel
        by_cases hlt : q < la.length
        · obtain ⟨ga, oa, rfl, hga, hrowa⟩ := HA9.out.row (by omega)
          obtain ⟨s, hs⟩ : ∃ s, la[q] = s := ⟨_, rfl⟩
          have hmem : s ∈ la := by rw [← hs]; exact List.getElem_mem _
          have HSA : Hid (∀ W, Hid (Below wc.heap.size wc W) → StAt W ga (oa + q * 2) s) := fun W hW => by rw [← hs]; exact (hrowa q (by omega)).below hW.out hga
          have hany : Hid (anyB N n s = true) := by
            obtain ⟨x, hx, hxe⟩ := ((HRA.out.2 s).1 hmem).ino
            show (N.take n).any _ = true
            rw [List.take_of_length_le (by omega)]
            exact List.any_eq_true.2 ⟨x, hx, by simpa using hxe⟩
          obtain ⟨gj, rfl⟩ : ∃ gj, gj = gk := ⟨gk, rfl⟩
          go_wp2_with fail
          go_loopg [11, 12] (n + 1) (fun gx ix kx wk => ∃ k : Nat, kx = .int .i64 (k : Int) ∧ gx + k = n + 1 ∧ k ≤ n ∧ ix = .bool (anyB N k s) ∧ Hid (Below wc.heap.size wc wk))
          case atStart => exact ⟨0, rfl, by omega, by omega, by rw [anyB_zero], hB⟩
          case round =>
            obtain ⟨k, rfl, hgx, hk, rfl, hBk⟩ := hrel
            clear hB
            obtain ⟨s0, s1⟩ := HSA.out _ hBk
            by_cases hkn : k < n
            · obtain ⟨gi, o, rfl, hg, hrow⟩ := HG9.out.inos.row (by omega)
              have hrk := (hrow k (by omega)).below hBk.out hg
              have hnx := anyB_next N s (show k < N.length by omega)
              obtain ⟨⟨xi, kd, lk, md, da⟩, hx⟩ : ∃ x, N[k] = x := ⟨_, rfl⟩
              rw [hx] at hrk hnx
              obtain ⟨bb, hbb⟩ : ∃ bb, anyB N k s = bb := ⟨_, rfl⟩
              rw [hbb] at hnx ⊢
              clear hrow hx hbb
              obtain ⟨e0, e1, e2, e3, e4, e5⟩ := hrk
              dsimp only at hnx
              cases bb with
              | true =>
                have HNX := Lib.hid hnx
                clear hnx
                go_wp2_with fail
                go_quiet (fail)
                go_wp2_with fail
                go_roundg (gk - 1)
                case measure => omega
                case rel => exact ⟨k + 1, by go_num, by omega, by omega, by rw [HNX.out]; rfl, below_drewN' hBk.out _⟩
              | false =>
                by_cases hqe : xi = s
                · have hv := eqSt_yes hqe
                  rw [decide_eq_true hqe] at hnx
                  subst hqe
                  have HNX := Lib.hid hnx
                  clear hnx
                  go_wp2_with fail
                  go_quiet (fail)
                  go_wp2_with fail
                  go_roundg (gk - 1)
                  case measure => omega
                  case rel => exact ⟨k + 1, by go_num, by omega, by omega, by rw [HNX.out]; rfl, below_drewN' hBk.out _⟩
                · have hv := eqSt_no hqe
                  rw [decide_eq_false hqe] at hnx
                  have HNX := Lib.hid hnx
                  clear hnx
                  go_wp2_with fail
                  go_quiet (fail)
                  go_wp2_with fail
                  go_roundg (gk - 1)
                  case measure => omega
                  case rel => exact ⟨k + 1, by go_num, by omega, by omega, by rw [HNX.out]; rfl, below_drewN' hBk.out _⟩
            · obtain rfl : k = n := by omega
              rw [hany.out]
              have hla60 : la.length ≤ 60 := by have := reach_few HRA.out; omega
              have hlb : lb.length ≤ 1000 := by have := HRLEN; omega
              have HIN : Hid (∀ y, Calls Try.prog 11 #[.slice Ab lb.length cb, .agg #[.int .i64 s.1, .int .i64 s.2]] (later wr y) fun e w' => e = .returned (.bool true) ∧ Below (later wr y).heap.size (later wr y) w') := fun y => by
                have hb := hBk.out.trans ((later_below wr y).mono hBk.out.size)
                have h := refIn Ab lb.length cb lb s hlb (later wr y) ((TabIn.below hIB.out hb).more hb.size)
                rw [decide_eq_true ((HRA.out.more hRB.out).1 s hmem)] at h
                exact h
              clear hlb
              have t0 := later_cell s0
              have t1 := later_cell s1
              clear s0 s1
              by_cases hq0 : q = 0
              · subst hq0
                simp only [Nat.zero_mul, Nat.add_zero] at t0 t1
                go_upto_region 14 with fail
                refine wp_region_later (by kernel_rfl) (by kernel_rfl) ?_
                repeat (go_big_quiet_step (first | (with_reducible exact later_call (HIN.out _))))
                refine wpQuiet_nil ?_
                intro _ hw'
                obtain ⟨y, rfl⟩ := hw'
                have hBy := hBk.out.trans ((later_below wr y).mono hBk.out.size)
                have HBY := Lib.hid hBy
                clear hBy t0 t1
                go_wp2_with fail
                go_roundg (gj - 1)
                case measure => omega
                case rel => exact ⟨0 + 1, by go_num, by omega, by omega, HBY.out⟩
              · obtain ⟨r, hr⟩ : ∃ r, la[q - 1] = r := ⟨_, rfl⟩
                have hrow2 := (hrowa (q - 1) (by omega)).below hBk.out hga
                rw [hr] at hrow2
                obtain ⟨v0, v1⟩ := hrow2
                have z0 := later_cell v0
                have z1 := later_cell v1
                have hless : lessS r s = true := by
                  have := List.pairwise_iff_getElem.1 HRA.out.1 (q - 1) q (by omega) (by omega) (by omega)
                  rw [hr, hs] at this
                  exact this
                have HCM : Hid (∀ W : World, Calls Try.prog 12 #[.agg #[.int .i64 r.1, .int .i64 r.2], .agg #[.int .i64 s.1, .int .i64 s.2]] W fun e w' => e = .returned (.int .i64 (-1)) ∧ Below W.heap.size W w') := fun W => by
                  have h := H.cmp r s W
                  have h1 : cmp r.1 r.2 s.1 s.2 = -1 := by unfold cmp; exact if_pos hless
                  rw [h1] at h
                  exact h
                have hq1 : 0 < q := by omega
                clear v0 v1 hless hr
                go_upto_region 14 with fail
                refine wp_region_later (by kernel_rfl) (by kernel_rfl) ?_
                repeat (go_big_quiet_step (first | (with_reducible exact later_call (HIN.out _)) | (with_reducible exact later_call (HCM.out _))))
                refine wpQuiet_nil ?_
                intro _ hw'
                obtain ⟨y, rfl⟩ := hw'
                have hBy := hBk.out.trans ((later_below wr y).mono hBk.out.size)
                have HBY := Lib.hid hBy
                clear hBy t0 t1 z0 z1
                go_wp2_with fail
                go_roundg (gj - 1)
                case measure => omega
                case rel => exact ⟨q + 1, by go_num, by omega, by omega, HBY.out⟩
        · go_wp2_with fail
          go_ret
          exact ⟨by simp; exact (HRA.out.more hRB.out).2, below_step HB9.out hB.out⟩
  · clear hI hJ hN hE
    rw [decide_eq_false hf] at FW
    go_enter Try.func5, Try.ntmps5
    go_wp2_with fail
    refine (SH.out _).mono ?_
    rintro e w1 ⟨rfl, hb1⟩
    go_wp2_with fail
    refine (FW.out _).mono ?_
    rintro e _ ⟨rfl, rfl⟩
    go_wp2_with fail
    go_ret
    exact ⟨rfl, below_step ((Below.refl _ _).alloc (Nat.le_refl _) _) hb1⟩

end Go.Proofs.Ytoobmkkmomiigaa.lawAuditReaches
