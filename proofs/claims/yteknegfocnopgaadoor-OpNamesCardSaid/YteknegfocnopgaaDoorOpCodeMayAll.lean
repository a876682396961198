/-
  The walk of op's May.
-/
import Derived.Test.YteknegfocnopgaaDoorOpCodeOwn
import Derived.Test.YteknegfocnopgaaDoorOpCodeA
import Derived.Test.YteknegfocnopgaaDoorOpEq
import Derived.Test.YteknegfocnopgaaDoorOpTakeMath
import Derived.Deep.DeepCutAuto
import Derived.Laws.StructEq
namespace Go.Proofs.YteknegfocnopgaaDoor
open Go.RowKit OpMath StampMath PackMath

set_option maxRecDepth 100000 in
set_option maxHeartbeats 3200000 in
theorem mayCode (o p : Opn) (same ms mn mr r : Bool) (hr : r = (decide (1 ≤ o.k) && decide (o.k ≤ 10) && same && ms && mn && mr))
    (EQ : Hid (∀ W : World, (Op.equalIn 10000 25 (.agg #[.int .i64 o.st, .int .i64 o.sr, .int .i64 o.k, .int .i64 o.pt, .int .i64 o.pr, .int .i64 o.it, .int .i64 o.ir, .int .i64 o.tt, .int .i64 o.tr, .string o.name, .string o.new, .int .i64 o.off, .string o.data]) (.agg #[.int .i64 p.st, .int .i64 p.sr, .int .i64 p.k, .int .i64 p.pt, .int .i64 p.pr, .int .i64 p.it, .int .i64 p.ir, .int .i64 p.tt, .int .i64 p.tr, .string p.name, .string p.new, .int .i64 p.off, .string p.data])).run Tryd.prog W = .ok same W))
    (OW : Hid (∀ (W : World) [Tab W], Calls Tryd.prog 31 #[.agg #[.int .i64 o.st, .int .i64 o.sr, .int .i64 o.k, .int .i64 o.pt, .int .i64 o.pr, .int .i64 o.it, .int .i64 o.ir, .int .i64 o.tt, .int .i64 o.tr, .string o.name, .string o.new, .int .i64 o.off, .string o.data]] W fun e w' => e = .returned (.agg #[.int .i64 p.st, .int .i64 p.sr, .int .i64 p.k, .int .i64 p.pt, .int .i64 p.pr, .int .i64 p.it, .int .i64 p.ir, .int .i64 p.tt, .int .i64 p.tr, .string p.name, .string p.new, .int .i64 p.off, .string p.data]) ∧ Below W.heap.size W w'))
    (MS : Hid (∀ (W : World) [Tab W], Calls Tryd.prog 32 #[.agg #[.int .i64 o.st, .int .i64 o.sr, .int .i64 o.k, .int .i64 o.pt, .int .i64 o.pr, .int .i64 o.it, .int .i64 o.ir, .int .i64 o.tt, .int .i64 o.tr, .string o.name, .string o.new, .int .i64 o.off, .string o.data]] W fun e w' => e = .returned (.bool ms) ∧ Below W.heap.size W w'))
    (MN : Hid (∀ (W : World) [Tab W], Calls Tryd.prog 33 #[.agg #[.int .i64 o.st, .int .i64 o.sr, .int .i64 o.k, .int .i64 o.pt, .int .i64 o.pr, .int .i64 o.it, .int .i64 o.ir, .int .i64 o.tt, .int .i64 o.tr, .string o.name, .string o.new, .int .i64 o.off, .string o.data]] W fun e w' => e = .returned (.bool mn) ∧ Below W.heap.size W w'))
    (MR : Hid (∀ (W : World) [Tab W], Calls Tryd.prog 34 #[.agg #[.int .i64 o.st, .int .i64 o.sr, .int .i64 o.k, .int .i64 o.pt, .int .i64 o.pr, .int .i64 o.it, .int .i64 o.ir, .int .i64 o.tt, .int .i64 o.tr, .string o.name, .string o.new, .int .i64 o.off, .string o.data]] W fun e w' => e = .returned (.bool mr) ∧ Below W.heap.size W w')) (w : World) [Tab w] :
    Calls Tryd.prog 14 #[.agg #[.int .i64 o.st, .int .i64 o.sr, .int .i64 o.k, .int .i64 o.pt, .int .i64 o.pr, .int .i64 o.it, .int .i64 o.ir, .int .i64 o.tt, .int .i64 o.tr, .string o.name, .string o.new, .int .i64 o.off, .string o.data]] w fun e w' => e = .returned (.bool r) ∧ Below w.heap.size w w' := by
  have HR := Lib.hid hr
  clear hr
  have E := EQ.out
  by_cases k1 : 1 ≤ o.k
  · have K1 := Lib.hid (show decide (1 ≤ o.k) = true by simpa using k1)
    by_cases k2 : o.k ≤ 10
    · have K2 := Lib.hid (show decide (o.k ≤ 10) = true by simpa using k2)
      go_enter Tryd.func14, Tryd.ntmps14
      have hh0 : (w.alloc (.cells (opA o) 25)).heap[w.heap.size]? = some (.cells (opA o) 25 (0, 0)) := heap_alloc_new w _
      have hB0 : Below w.heap.size w (w.alloc (.cells (opA o) 25)) := (Below.refl _ _).alloc (Nat.le_refl _) _
      go_upto_region 2 with fail
      have iw0 : Tab (w.alloc (.cells (opA o) 25)) := inferInstance
      change Code.wp _ _ _ _ (w.alloc (.cells (opA o) 25))
      generalize w.alloc (.cells (opA o) 25) = w0 at hh0 hB0 iw0 ⊢
      obtain ⟨l0, l1, l2, l3, l4, l5, l6, l7, l8, l9, l10, l11, l12⟩ := op_cells hh0
      have q0 := later_cell l0
      have q1 := later_cell l1
      have q2 := later_cell l2
      have q3 := later_cell l3
      have q4 := later_cell l4
      have q5 := later_cell l5
      have q6 := later_cell l6
      have q7 := later_cell l7
      have q8 := later_cell l8
      have q9 := later_cell l9
      have q10 := later_cell l10
      have q11 := later_cell l11
      have q12 := later_cell l12
      clear l0 l1 l2 l3 l4 l5 l6 l7 l8 l9 l10 l11 l12 k1 k2
      cases same
      · refine wp_region_later (by kernel_rfl) (by kernel_rfl) ?_
        repeat (go_big_quiet_step (first | (with_reducible exact later_call (OW.out _)) | (with_reducible exact later_call (MS.out _)) | (with_reducible exact later_call (MN.out _)) | (with_reducible exact later_call (MR.out _))))
        refine wpQuiet_nil ?_
        intro _ hw'
        obtain ⟨y1, rfl⟩ := hw'
        go_wp2_with fail
        go_ret
        exact ⟨by rw [HR.out]; simp, below_step hB0 (later_below w0 y1)⟩
      cases ms
      · refine wp_region_later (by kernel_rfl) (by kernel_rfl) ?_
        repeat (go_big_quiet_step (first | (with_reducible exact later_call (OW.out _)) | (with_reducible exact later_call (MS.out _)) | (with_reducible exact later_call (MN.out _)) | (with_reducible exact later_call (MR.out _))))
        refine wpQuiet_nil ?_
        intro _ hw'
        obtain ⟨y1, rfl⟩ := hw'
        go_wp2_with fail
        go_ret
        exact ⟨by rw [HR.out]; simp, below_step hB0 (later_below w0 y1)⟩
      cases mn
      · refine wp_region_later (by kernel_rfl) (by kernel_rfl) ?_
        repeat (go_big_quiet_step (first | (with_reducible exact later_call (OW.out _)) | (with_reducible exact later_call (MS.out _)) | (with_reducible exact later_call (MN.out _)) | (with_reducible exact later_call (MR.out _))))
        refine wpQuiet_nil ?_
        intro _ hw'
        obtain ⟨y1, rfl⟩ := hw'
        go_wp2_with fail
        go_ret
        exact ⟨by rw [HR.out]; simp, below_step hB0 (later_below w0 y1)⟩
      · refine wp_region_later (by kernel_rfl) (by kernel_rfl) ?_
        repeat (go_big_quiet_step (first | (with_reducible exact later_call (OW.out _)) | (with_reducible exact later_call (MS.out _)) | (with_reducible exact later_call (MN.out _)) | (with_reducible exact later_call (MR.out _))))
        refine wpQuiet_nil ?_
        intro _ hw'
        obtain ⟨y1, rfl⟩ := hw'
        go_wp2_with fail
        go_ret
        exact ⟨by rw [HR.out, K1.out, K2.out]; rfl, below_step hB0 (later_below w0 y1)⟩
    · have K2 := Lib.hid (show decide (o.k ≤ 10) = false by simpa using k2)
      have d2 : decide (o.k ≤ 10) = false := by simpa using k2
      clear k2
      go_enter Tryd.func14, Tryd.ntmps14
      have hB0 : Below w.heap.size w (w.alloc (.cells (opA o) 25)) := (Below.refl _ _).alloc (Nat.le_refl _) _
      go_upto_region 2 with fail
      change Code.wp _ _ _ _ (w.alloc (.cells (opA o) 25))
      generalize w.alloc (.cells (opA o) 25) = w0 at hB0 ⊢
      refine wp_region_later (by kernel_rfl) (by kernel_rfl) ?_
      repeat (go_big_quiet_step (first | (with_reducible exact later_call (OW.out _)) | (with_reducible exact later_call (MS.out _)) | (with_reducible exact later_call (MN.out _)) | (with_reducible exact later_call (MR.out _))))
      refine wpQuiet_nil ?_
      intro _ hw'
      obtain ⟨y1, rfl⟩ := hw'
      go_wp2_with fail
      go_ret
      exact ⟨by rw [HR.out, K2.out]; simp, below_step hB0 (later_below w0 y1)⟩
  · have K1 := Lib.hid (show decide (1 ≤ o.k) = false by simpa using k1)
    have d1 : decide (1 ≤ o.k) = false := by simpa using k1
    clear k1
    go_enter Tryd.func14, Tryd.ntmps14
    have hB0 : Below w.heap.size w (w.alloc (.cells (opA o) 25)) := (Below.refl _ _).alloc (Nat.le_refl _) _
    go_upto_region 2 with fail
    change Code.wp _ _ _ _ (w.alloc (.cells (opA o) 25))
    generalize w.alloc (.cells (opA o) 25) = w0 at hB0 ⊢
    refine wp_region_later (by kernel_rfl) (by kernel_rfl) ?_
    repeat (go_big_quiet_step (first | (with_reducible exact later_call (OW.out _)) | (with_reducible exact later_call (MS.out _)) | (with_reducible exact later_call (MN.out _)) | (with_reducible exact later_call (MR.out _))))
    refine wpQuiet_nil ?_
    intro _ hw'
    obtain ⟨y1, rfl⟩ := hw'
    go_wp2_with fail
    go_ret
    exact ⟨by rw [HR.out, K1.out]; simp, below_step hB0 (later_below w0 y1)⟩

theorem stamps_zero (o : Opn) (h : o.st = 0) : mayB o.st o.sr = (o.sr == 0) := by
  unfold mayB
  rw [if_pos h]

/-- The code's question is the document's. -/
theorem may_same (o : Opn) : (decide (1 ≤ o.k) && decide (o.k ≤ 10) && decide (o = ownO o) && (!(o.st == 0) && mayB o.st o.sr && mayB o.pt o.pr && mayB o.it o.ir && mayB o.tt o.tr) && namesB o && restB o) = mayO o := by
  by_cases h1 : 1 ≤ o.k
  · by_cases h2 : o.k ≤ 10
    · rw [own_bare o h1 h2]
      by_cases h3 : o = bareO o
      · have e3 : decide (o = bareO o) = true := decide_eq_true h3
        have e3' : decide (bareO o = o) = true := decide_eq_true h3.symm
        have f8 : hasF o.k 8 = decide (o.k ≤ 7) := by unfold hasF; rw [if_neg (by decide), if_neg (by decide), if_neg (by decide), if_pos rfl, decide_eq_decide]; omega
        have f16 : hasF o.k 16 = decide (o.k = 7) := by unfold hasF; rw [if_neg (by decide), if_neg (by decide), if_neg (by decide), if_neg (by decide), if_pos rfl]
        have hz : nameB ⟨#[]⟩ = false := by
          unfold nameB
          rfl
        have hN : (nameB o.name == hasF o.k 8) = (decide (7 < o.k) || nameB o.name) := by
          rw [f8]
          by_cases h7 : o.k ≤ 7
          · rw [decide_eq_true h7, decide_eq_false (by omega)]
            cases nameB o.name <;> rfl
          · have e := congrArg Opn.name h3
            simp only [bareO] at e
            rw [if_neg h7] at e
            rw [decide_eq_false h7, decide_eq_true (by omega), e, hz]
            rfl
        have hM : (nameB o.new == hasF o.k 16) = (!(o.k == 7) || nameB o.new) := by
          rw [f16]
          by_cases h7 : o.k = 7
          · rw [decide_eq_true h7, show (o.k == 7) = true by simpa using h7]
            cases nameB o.new <;> rfl
          · have e := congrArg Opn.new h3
            simp only [bareO] at e
            rw [if_neg h7] at e
            rw [decide_eq_false h7, show (o.k == 7) = false by simpa using h7, e, hz]
            rfl
        have hD : restB o = dataB o := by
          unfold restB dataB
          by_cases g3 : o.k = 3
          · rw [if_pos g3, if_pos g3]
          · rw [if_neg g3, if_neg g3]
            by_cases g8 : o.k = 8
            · rw [if_pos g8, if_pos g8]
              have es : (o.data.toList == []) = decide (o.data.size = 0) := by
                rw [ByteArray.toList_eq]
                have e2 : o.data.data.toList.length = o.data.size := by simp
                cases hl : o.data.data.toList with
                | nil => rw [hl] at e2; rw [decide_eq_true (by simpa using e2.symm)]; rfl
                | cons a l => rw [hl, List.length_cons] at e2; rw [decide_eq_false (by omega)]; rfl
              rw [es]
              by_cases t0 : 0 ≤ o.off
              · by_cases t1 : o.off ≤ 64 - (o.data.size : Int)
                · rw [decide_eq_true t0, decide_eq_true t1, show decide (o.data.size ≤ 64) = true from decide_eq_true (by omega)]
                  by_cases t2 : o.data.size = 0
                  · rw [decide_eq_true t2, decide_eq_false (show ¬ 1 ≤ o.data.size by omega)]; rfl
                  · rw [decide_eq_false t2, decide_eq_true (show 1 ≤ o.data.size by omega)]; rfl
                · rw [decide_eq_false t1]; simp
              · rw [decide_eq_false t0]; simp
            · rw [if_neg g8, if_neg g8]
        unfold namesB mayO
        rw [e3, e3', hN, hM, hD]
        cases decide (1 ≤ o.k) <;> cases decide (o.k ≤ 10) <;> cases o.st == 0 <;> cases mayB o.st o.sr <;> cases mayB o.pt o.pr <;> cases mayB o.it o.ir <;> cases mayB o.tt o.tr <;> cases (decide (7 < o.k) || nameB o.name) <;> cases (!(o.k == 7) || nameB o.new) <;> cases dataB o <;> rfl
      · have e3 : decide (o = bareO o) = false := decide_eq_false h3
        have e3' : decide (bareO o = o) = false := decide_eq_false fun h => h3 h.symm
        unfold mayO
        rw [e3, e3']
        simp
    · unfold mayO
      rw [decide_eq_false h2]
      simp
  · unfold mayO
    rw [decide_eq_false h1]
    simp

theorem opMay_any (o : Opn) (w : World) [Tab w] (ok : Ok64 o) (hn : o.name.size ≤ maxLen) (hm : o.new.size ≤ maxLen) (hd : o.data.size ≤ maxLen) :
    Calls Tryd.prog 14 #[.agg #[.int .i64 o.st, .int .i64 o.sr, .int .i64 o.k, .int .i64 o.pt, .int .i64 o.pr, .int .i64 o.it, .int .i64 o.ir, .int .i64 o.tt, .int .i64 o.tr, .string o.name, .string o.new, .int .i64 o.off, .string o.data]] w fun e w' => e = .returned (.bool (mayO o)) ∧ Below w.heap.size w w' :=
  mayCode o (ownO o) (decide (o = ownO o)) (!(o.st == 0) && mayB o.st o.sr && mayB o.pt o.pr && mayB o.it o.ir && mayB o.tt o.tr) (namesB o) (restB o) (mayO o) (may_same o).symm
    (fun W => run_eqO o (ownO o) W) (fun W _ => own_any o W)
    (fun W _ => mayStamps_core o _ _ _ _ (stamps_zero o) (fun W => may_any _ _ W) (fun W => may_any _ _ W) (fun W => may_any _ _ W) (fun W => may_any _ _ W) W)
    (fun W _ => mayNames_any o hn hm W) (fun W _ => mayRest_any o hd ok.off W) w

end Go.Proofs.YteknegfocnopgaaDoor
