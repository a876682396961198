/-
  Of what is fine each directory but the root has one entry, and so the root is reached from it, upwards, in fewer steps than there are inodes; links together are as many as entries: for all inodes and entries, 60 of each at most (others are let go).
-/
import Derived.Test.YtoobmkkmomiigaaAuditFew
namespace Go.Proofs.Ytoobmkkmomiigaa.lawAuditTree
open Go.RowKit StampMath GraphMath OpMath

/-- Upwards by the first k entries. -/
def foldUp (E : List Ent) (cur : St) (k : Nat) : St := (E.take k).foldl (fun s e => if e.ino = cur then e.dir else s) cur

theorem foldUp_zero (E : List Ent) (cur : St) : foldUp E cur 0 = cur := by simp [foldUp]
theorem foldUp_next (E : List Ent) (cur : St) {k : Nat} (h : k < E.length) : foldUp E cur (k + 1) = if E[k].ino = cur then E[k].dir else foldUp E cur k := by
  unfold foldUp
  rw [List.take_succ_eq_append_getElem h, List.foldl_append]
  rfl
theorem foldUp_all (E : List Ent) (cur : St) {k : Nat} (h : E.length ≤ k) : foldUp E cur k = upL E cur := by
  unfold foldUp upL
  rw [List.take_of_length_le h]

/-- The links of the first q inodes together. -/
def sumL (N : List Ino) (q : Nat) : Int := ((N.take q).map fun x => x.links).sum

theorem sumL_next (N : List Ino) {q : Nat} (h : q < N.length) : sumL N (q + 1) = sumL N q + N[q].links := by
  unfold sumL
  rw [List.take_succ_eq_append_getElem h, List.map_append, List.sum_append]
  simp

theorem sumL_bound {N : List Ino} (h : ∀ x ∈ N, 0 ≤ x.links ∧ x.links ≤ 60) : ∀ q, q ≤ N.length → 0 ≤ sumL N q ∧ sumL N q ≤ 60 * (q : Int)
  | 0, _ => by simp [sumL]
  | q + 1, hq => by
    have ih := sumL_bound h q (by omega)
    have hx := h N[q] (List.getElem_mem _)
    rw [sumL_next N (by omega)]
    omega

set_option maxRecDepth 100000 in
set_option maxHeartbeats 1600000 in
theorem walk0 (H : AuditHave) (A : Option Addr) (n c : Nat) (N : List Ino) (A' : Option Addr) (m d : Nat) (E : List Ent) (w : World) (ha : n ≤ c) (hc : c ≤ maxLen) (hN : ∀ x ∈ N, x.data.size ≤ maxLen) (hI : InosIn w w.heap.size A n N)
    (hb : m ≤ d) (hd : d ≤ maxLen) (hE : ∀ x ∈ E, x.name.size ≤ maxLen) (hJ : EntsIn w w.heap.size A' m E) :
    Calls Try.prog 4 #[.slice A n c, .slice A' m d] w fun e w' => e = .returned (.bool true) ∧ Below w.heap.size w w' := by
  have hlI := hI.len
  have hlE := hJ.len
  have SH := Lib.hid (fun W => H.shown W)
  have FW := Lib.hid (fun W => few_any A n c A' m d (by omega) (by omega) W)
  by_cases hf : n ≤ 60 ∧ m ≤ 60
  · have hGv : Given w A n N A' m E := ⟨hI, hJ, by omega, by omega, hN, hE⟩
    have HG := Lib.hid hGv
    clear hGv hI hJ hN hE
    rw [decide_eq_true hf] at FW
    go_enter Try.func4, Try.ntmps4
    go_wp2_with fail
    refine (SH.out _).mono ?_
    rintro e w1 ⟨rfl, hb1⟩
    go_wp2_with fail
    refine (FW.out _).mono ?_
    rintro e _ ⟨rfl, rfl⟩
    go_wp2_with fail
    refine (H.fine A n c N A' m d E _ (HG.out.below hb1)).mono ?_
    rintro e w2 ⟨b, rfl, hfine, hb2⟩
    have hB2 := below_step hb1 hb2
    clear hb1 hb2
    cases b with
    | false =>
      go_wp2_with fail
      go_ret
      exact ⟨rfl, hB2⟩
    | true =>
      have hF : fineP N E := hfine.1 rfl
      have hpos := hF.nonempty
      have HF := Lib.hid hF
      clear hF hfine
      have hbound : Hid (∀ x ∈ N, 0 ≤ x.links ∧ x.links ≤ 60) := fun x hx => by
        have h1 := HF.out.count x hx
        have h2 := linksE_le E x.id
        omega
      go_wp2_with fail
      go_loopg [6, 7] (n + 1) (fun gk lk i wr => ∃ q : Nat, i = .int .i64 (q : Int) ∧ gk + q = n + 1 ∧ q ≤ n ∧ lk = .int .i64 (sumL N q) ∧ Hid (Below w.heap.size w wr))
      case atStart => exact ⟨0, rfl, by omega, by omega, rfl, hB2⟩
      case round =>
        obtain ⟨q, rfl, hgk, hq, rfl, hB⟩ := hrel
        clear hB2
        by_cases hlt : q < n
        · obtain ⟨gi, o, rfl, hg, hrow⟩ := HG.out.inos.row (by omega)
          have hnext := sumL_next N (show q < N.length by omega)
          have hlow := sumL_bound hbound.out q (by omega)
          have hx1 := hbound.out N[q] (List.getElem_mem _)
          have hcl : N[q].kind = 1 → climb E N.length N[q].id = (0, 0) := fun h => HF.out.climb (List.getElem_mem _) h
          have HR : Hid (∀ W, Hid (Below w.heap.size w W) → InoAt W gi (o + q * 6) N[q]) := fun W hW => (hrow q (by omega)).below hW.out hg
          obtain ⟨⟨xi, kd, lk, md, da⟩, hx⟩ : ∃ x, N[q] = x := ⟨_, rfl⟩
          rw [hx] at hnext hx1 hcl HR
          clear hrow hx
          obtain ⟨e0, e1, e2, e3, e4, e5⟩ := HR.out wr hB
          have HC := Lib.hid hcl
          clear hcl
          dsimp only at hnext hx1
          have HN := Lib.hid hnext
          clear hnext
          have hb0 : (wr.alloc (.cells #[.int .i64 xi.1, .int .i64 xi.2] 29)).heap[wr.heap.size]? = some (.cells (stA xi) 29 (0, 0)) := heap_new rfl
          have hB0 : Hid (Below w.heap.size w (wr.alloc (.cells #[.int .i64 xi.1, .int .i64 xi.2] 29))) := hB.out.alloc hB.out.size _
          obtain ⟨b, hbw⟩ : ∃ b, b = wr.heap.size := ⟨_, rfl⟩
          obtain ⟨gj, rfl⟩ : ∃ gj, gj = gk := ⟨gk, rfl⟩
          have hwb : w.heap.size ≤ b := by rw [hbw]; exact hB.out.size
          go_wp2_with fail
          rw [← hbw] at hb0 ⊢
          clear hbw
          go_loopg [9] (n + 1) (fun gs st wm => ∃ (t : Nat) (cur : St), st = .int .i64 (t : Int) ∧ gs + t = n + 1 ∧ t ≤ n ∧ Hid (kd = 1 → climb E (N.length - t) cur = (0, 0)) ∧ wm.heap[b]? = some (.cells (stA cur) 29 (0, 0)) ∧ Hid (Below w.heap.size w wm))
          case atStart => exact ⟨0, xi, rfl, by omega, by omega, HC, hb0, hB0⟩
          case round =>
            obtain ⟨t, cur, rfl, hgs, ht, hcl, hid, hBm⟩ := hrel
            clear hb0 hB0 hB e0 e1 e2 e3 e4 e5
            obtain ⟨e0, e1, e2, e3, e4, e5⟩ := HR.out _ hBm
            obtain ⟨i0, i1⟩ := two_cells hid
            by_cases hkd : kd = 1
            · by_cases h0 : cur = (0, 0)
              · have hv := eqSt_yes h0
                subst h0
                clear hcl
                by_cases htn : t < n
                · go_wp2_with fail
                  go_roundg (gj - 1)
                  case measure => omega
                  case rel => exact ⟨q + 1, by go_num, by omega, by omega, by rw [HN.out], hBm.out⟩
                · obtain rfl : t = n := by omega
                  go_wp2_with fail
                  go_roundg (gj - 1)
                  case measure => omega
                  case rel => exact ⟨q + 1, by go_num, by omega, by omega, by rw [HN.out], hBm.out⟩
              · have hv := eqSt_no h0
                have htn : t < n := by
                  rcases Nat.lt_or_ge t n with h | h
                  · exact h
                  · exfalso
                    have h1 := hcl.out hkd
                    rw [show N.length - t = 0 by omega] at h1
                    exact h0 h1
                have hstep : Hid (kd = 1 → climb E (N.length - (t + 1)) (upL E cur) = (0, 0)) := fun h => by
                  have h1 := hcl.out h
                  rw [show N.length - t = (N.length - (t + 1)) + 1 by omega] at h1
                  unfold climb at h1
                  rwa [if_neg h0] at h1
                obtain ⟨gs, rfl⟩ : ∃ gs, gs = gk := ⟨gk, rfl⟩
                have hc0 : (wr.alloc (.cells #[.int .i64 cur.1, .int .i64 cur.2] 29)).heap[wr.heap.size]? = some (.cells (stA cur) 29 (0, 0)) := heap_new rfl
                have hd0 : (wr.alloc (.cells #[.int .i64 cur.1, .int .i64 cur.2] 29)).heap[b]? = some (.cells (stA cur) 29 (0, 0)) := by rw [heap_alloc_old _ _ (heap_lt hid)]; exact hid
                have hB0 : Hid (Below w.heap.size w (wr.alloc (.cells #[.int .i64 cur.1, .int .i64 cur.2] 29))) := hBm.out.alloc hBm.out.size _
                obtain ⟨b2, hb2⟩ : ∃ b2, b2 = wr.heap.size := ⟨_, rfl⟩
                have hne2 : b < b2 := by rw [hb2]; exact heap_lt hid
                have hv0 : Hid (∀ W, (Op.equalIn 10000 29 (.agg #[.int .i64 cur.1, .int .i64 cur.2]) (.agg #[.int .i64 0, .int .i64 0])).run Try.prog W = .ok false W) := hv
                go_wp2_with fail
                rw [← hb2] at hc0 ⊢
                clear hid hBm i0 i1 e0 e1 e2 e3 e4 e5 hv hb2
                go_loopg [11] (m + 1) (fun gx kx wk => ∃ k : Nat, kx = .int .i64 (k : Int) ∧ gx + k = m + 1 ∧ k ≤ m ∧ wk.heap[b]? = some (.cells (stA (foldUp E cur k)) 29 (0, 0)) ∧ wk.heap[b2]? = some (.cells (stA cur) 29 (0, 0)) ∧ Hid (Below w.heap.size w wk))
                case atStart => exact ⟨0, rfl, by omega, by omega, by rw [foldUp_zero]; exact hd0, hc0, hB0⟩
                case round =>
                  obtain ⟨k, rfl, hgx, hk, hid, hat, hBk⟩ := hrel
                  clear hc0 hd0 hB0
                  obtain ⟨a0, a1⟩ := two_cells hat
                  by_cases hkm : k < m
                  · obtain ⟨g2, o2, rfl, hg2, hrow2⟩ := HG.out.ents.row (by omega)
                    have hrk := (hrow2 k (by omega)).below hBk.out hg2
                    have hfn := foldUp_next E cur (show k < E.length by omega)
                    obtain ⟨⟨di, en, ei⟩, hx⟩ : ∃ x, E[k] = x := ⟨_, rfl⟩
                    rw [hx] at hrk hfn
                    clear hrow2 hx
                    obtain ⟨e0, e1, e2, e3, e4⟩ := hrk
                    dsimp only at hfn
                    by_cases hq : ei = cur
                    · have hv := eqSt_yes hq
                      rw [if_pos hq] at hfn
                      subst hq
                      have HFN := Lib.hid hfn
                      clear hfn
                      obtain ⟨i0, i1⟩ := two_cells hid
                      obtain ⟨j0, j1⟩ := two_free hid
                      go_wp2_with fail
                      go_quiet (fail)
                      go_wp2_with fail
                      go_roundg (gk - 1)
                      case measure => omega
                      case rel =>
                        refine ⟨k + 1, by go_num, by omega, by omega, ?_, ?_, ?_⟩
                        · rw [heap_setCell_same _ _ _ _ _ _ (heap_setCell_same _ _ _ _ _ _ (show (wr.drewN nq).heap[b]? = _ from hid)), HFN.out]
                          rfl
                        · rw [heap_setCell_other _ _ _ _ (by dsimp only; omega), heap_setCell_other _ _ _ _ (by dsimp only; omega)]
                          exact hat
                        · exact ((below_drewN' hBk.out nq).setCell (by dsimp only; omega) _).setCell (by dsimp only; omega) _
                    · have hv := eqSt_no hq
                      rw [if_neg hq] at hfn
                      have HFN := Lib.hid hfn
                      clear hfn
                      go_wp2_with fail
                      go_quiet (fail)
                      go_wp2_with fail
                      go_roundg (gk - 1)
                      case measure => omega
                      case rel => exact ⟨k + 1, by go_num, by omega, by omega, by rw [HFN.out]; exact hid, hat, below_drewN' hBk.out _⟩
                  · have hfin : foldUp E cur k = upL E cur := foldUp_all E cur (by omega)
                    rw [hfin] at hid
                    clear hfin
                    go_wp2_with fail
                    go_roundg (gs - 1)
                    case measure => omega
                    case rel => exact ⟨t + 1, upL E cur, by go_num, by omega, by omega, hstep, hid, hBk⟩
            · by_cases htn : t < n
              · go_wp2_with fail
                go_roundg (gj - 1)
                case measure => omega
                case rel => exact ⟨q + 1, by go_num, by omega, by omega, by rw [HN.out], hBm.out⟩
              · obtain rfl : t = n := by omega
                go_wp2_with fail
                go_roundg (gj - 1)
                case measure => omega
                case rel => exact ⟨q + 1, by go_num, by omega, by omega, by rw [HN.out], hBm.out⟩
        · obtain rfl : q = n := by omega
          have hsum : sumL N q = (m : Int) := by
            have h := HF.out.links
            unfold sumL
            rw [List.take_of_length_le (by omega), h, hlE]
          rw [hsum]
          clear hsum
          go_wp2_with fail
          refine (H.reach A q c N A' m d E _ (HG.out.below hB.out)).mono ?_
          rintro e w5 ⟨v5, l5, rfl, hr5, hown5, hb5⟩
          have hl5 : l5.length = q := by rw [HF.out.reach hr5, List.length_map, hlI]
          rw [hl5] at hown5
          obtain ⟨A5, c5, rfl, -, -⟩ := sts_own hl5 hown5
          have hB5 := below_step hB.out hb5
          clear hown5 hr5 hb5 hl5
          go_wp2_with fail
          go_ret
          exact ⟨by simp, hB5⟩
  · clear hI hJ hN hE
    rw [decide_eq_false hf] at FW
    go_enter Try.func4, Try.ntmps4
    go_wp2_with fail
    refine (SH.out _).mono ?_
    rintro e w1 ⟨rfl, hb1⟩
    go_wp2_with fail
    refine (FW.out _).mono ?_
    rintro e _ ⟨rfl, rfl⟩
    go_wp2_with fail
    go_ret
    exact ⟨rfl, hb1⟩

end Go.Proofs.Ytoobmkkmomiigaa.lawAuditTree
