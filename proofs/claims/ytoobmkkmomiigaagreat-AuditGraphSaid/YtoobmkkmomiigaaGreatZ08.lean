/-
  The landed graph's mayTie: why there can't be an entry.
-/
import Derived.Test.YtoobmkkmomiigaaGreatZ07
import Derived.Test.YtoobmkkmomiigaaGreatZ07
import Derived.Test.YtoobmkkmomiigaaGreatZ07
import Derived.Test.YtoobmkkmomiigaaGreatZ02
import Derived.Test.YtoobmkkmomiigaaGreatZ01
import Derived.Test.YtoobmkkmomiigaaGreatZ02
import Derived.BigQuiet
import Derived.Maps.Own
import Derived.Maps.OwnOps
import Derived.Deep.Cut
import Derived.Test.YtoobmkkmomiigaaGreatRows
import Derived.ProofKit
import Derived.OpenShut
import Derived.Deep.Slices
import Derived.Deep.Strs
import Derived.ChangeSame
namespace Go.Proofs.YtoobmkkmomiigaaGreat
open Go.RowKit StampMath GraphMath OpMath

theorem leads_dir {g : Gr} (h : g.ok) {a b : St} (hl : Leads g a b) (ha : g.isDir a) : g.isDir b := by
  induction hl with
  | here => exact ha
  | up e d he _ _ ih => exact ih (h.dirs e he)

theorem why_asked {g : Gr} (h : g.ok) {dir ino : St} {nm : ByteArray} {A X : Ino} (hA : getG g dir = some A) (hX : getG g ino = some X) :
    whyG true g ⟨dir, nm, ino⟩ = if A.kind ≠ 1 then 6 else if (lookE g.E dir nm).isSome then 4 else if ino = (0, 0) ∨ underG g dir ino = true then 8 else if fullB X = true then 12 else 0 := by
  unfold whyG
  rw [if_neg (by simp)]
  simp only [hA, hX]
  by_cases hk : A.kind = 1
  · have hk' : ¬ A.kind ≠ 1 := fun q => q hk
    rw [if_neg hk', if_neg hk']
    have hdir := getDir_of hA hk
    have hkind : ino = (0, 0) ∨ underG g dir ino = true → X.kind = 1 := by
      rintro (hz | hu)
      · obtain ⟨y, hy, hyi, hyk⟩ := h.root
        rw [hz, ← hyi, h.get hy] at hX
        injection hX with hX
        rw [← hX]
        exact hyk
      · obtain ⟨x, hx, hxk⟩ := h.getDir (leads_dir h (h.leads.1 hu) hdir)
        rw [hX] at hx
        injection hx with hx
        rw [hx]
        exact hxk
    by_cases hl : (lookE g.E dir nm).isSome = true
    · rw [if_pos hl, if_pos hl]
    · rw [if_neg hl, if_neg hl]
      by_cases hu : ino = (0, 0) ∨ underG g dir ino = true
      · rw [if_pos ⟨hkind hu, hu⟩, if_pos hu]
      · rw [if_neg fun q => hu q.2, if_neg hu]
        have hf : (X.kind = 1 ∧ 0 < X.links ∨ 6 ≤ X.links) ↔ fullB X = true := by
          unfold fullB
          by_cases hx : X.kind = 1
          · rw [if_pos hx, decide_eq_true_iff]; omega
          · rw [if_neg hx, decide_eq_true_iff]; omega
        by_cases hq : X.kind = 1 ∧ 0 < X.links ∨ 6 ≤ X.links
        · rw [if_pos hq, if_pos (hf.1 hq)]
        · rw [if_neg hq, if_neg fun r => hq (hf.2 r)]
  · rw [if_pos hk, if_pos hk]

theorem why_none {g : Gr} {dir ino : St} {nm : ByteArray} (h : (getG g dir).isSome = false ∨ (getG g ino).isSome = false) : whyG true g ⟨dir, nm, ino⟩ = 3 := by
  unfold whyG
  rw [if_neg (by simp)]
  cases h1 : getG g dir with
  | none => simp
  | some p =>
    cases h2 : getG g ino with
    | none => simp
    | some q => rw [h1, h2] at h; simp at h

set_option maxRecDepth 100000 in
set_option maxHeartbeats 4000000 in
theorem mayTie_code (a : Addr) (S : Nat → Prop) (g : Gr) (x : Ent) (w : World) (h : GIn w S a g) (hg : g.ok) (hsz : x.name.size ≤ maxLen) :
    Calls Tryz.prog 16 #[.pointer (some a), .agg (entA x)] w fun e w' => e = .returned (.int .i64 (whyG (nameB x.name) g x)) ∧ Below w.heap.size w w' := by
  obtain ⟨b, hb⟩ : ∃ b, b = nameB x.name := ⟨_, rfl⟩
  have HN : Hid (∀ W : World, Calls Tryz.prog 33 #[.string x.name] W fun e w' => e = .returned (.bool b) ∧ W = w') := fun W => by rw [hb]; exact name_any _ hsz W
  rw [← hb]
  clear hb hsz
  have HGet : Hid (∀ (id : St) (W : World), Below w.heap.size w W → Calls Tryz.prog 15 #[.pointer (some a), .agg #[.int .i64 id.1, .int .i64 id.2]] W fun e w' => e = .returned (.tuple #[.agg (inoA ((getG g id).getD noIno)), .bool (getG g id).isSome]) ∧ Below W.heap.size W w') := fun id W hW => get_code a S g id W (h.keep fun i hi => hW.block i (h.lt i hi)) hg
  have HLk : Hid (∀ W : World, Below w.heap.size w W → Calls Tryz.prog 34 #[.pointer (some a), .agg #[.int .i64 x.dir.1, .int .i64 x.dir.2], .string x.name] W fun e w' => e = .returned (.tuple #[.agg (stA ((lookE g.E x.dir x.name).getD (0, 0))), .bool (lookE g.E x.dir x.name).isSome]) ∧ Below W.heap.size W w') := fun W hW => look_code a S g x.dir x.name W (h.keep fun i hi => hW.block i (h.lt i hi))
  have HUn : Hid (∀ W : World, Below w.heap.size w W → Calls Tryz.prog 35 #[.pointer (some a), .agg #[.int .i64 x.dir.1, .int .i64 x.dir.2], .agg #[.int .i64 x.ino.1, .int .i64 x.ino.2]] W fun e w' => e = .returned (.bool (underG g x.dir x.ino)) ∧ Below W.heap.size W w') := fun W hW => under_code a S g x.dir x.ino W (h.keep fun i hi => hW.block i (h.lt i hi)) hg
  have HRt : Hid (∀ W : World, Calls Tryz.prog 13 #[] W fun e w' => e = .returned (.agg #[.int .i64 0, .int .i64 0]) ∧ Below W.heap.size W w') := root_any
  clear h
  obtain ⟨dir, nm, ino⟩ := x
  have hb0 : Below w.heap.size w (w.alloc (.cells (entA ⟨dir, nm, ino⟩) 34)) := (Below.refl _ _).alloc (Nat.le_refl _) _
  have he0 := heap_alloc_new w (.cells (entA ⟨dir, nm, ino⟩) 34)
  unfold entA
  cases b with
  | false =>
    have hw : Hid (whyG false g ⟨dir, nm, ino⟩ = 1) := by unfold whyG; exact if_pos rfl
    go_enter Tryz.func16, Tryz.ntmps16
    go_wp2_with fail
    refine (HN.out _).mono ?_
    rintro e w1 ⟨rfl, rfl⟩
    go_wp2_with fail
    go_ret
    exact ⟨by rw [hw.out]; rfl, hb0⟩
  | true =>
    go_enter Tryz.func16, Tryz.ntmps16
    go_wp2_with fail
    refine (HN.out _).mono ?_
    rintro e w1 ⟨rfl, rfl⟩
    have hW0 : ∃ W0, W0 = w.alloc (.cells (entA ⟨dir, nm, ino⟩) 34) := ⟨_, rfl⟩
    obtain ⟨W0, hW0⟩ := hW0
    have hW0' : w.alloc (.cells #[.int .i64 dir.1, .int .i64 dir.2, .string nm, .int .i64 ino.1, .int .i64 ino.2] 34) = W0 := hW0.symm
    rw [hW0']
    rw [← hW0] at he0 hb0
    clear hW0 hW0'
    obtain ⟨A, hA⟩ : ∃ A, A = (getG g dir).getD noIno := ⟨_, rfl⟩
    obtain ⟨ia, hia⟩ : ∃ ia, ia = (getG g dir).isSome := ⟨_, rfl⟩
    obtain ⟨X, hX⟩ : ∃ X, X = (getG g ino).getD noIno := ⟨_, rfl⟩
    obtain ⟨ix, hix⟩ : ∃ ix, ix = (getG g ino).isSome := ⟨_, rfl⟩
    have HA : Hid (∀ W : World, Below w.heap.size w W → Calls Tryz.prog 15 #[.pointer (some a), .agg #[.int .i64 dir.1, .int .i64 dir.2]] W fun e w' => e = .returned (.tuple #[.agg #[.int .i64 A.id.1, .int .i64 A.id.2, .int .i64 A.kind, .int .i64 A.links, .int .i64 A.mode, .string A.data], .bool ia]) ∧ Below W.heap.size W w') := by rw [hA, hia]; exact HGet.out dir
    have HX : Hid (∀ W : World, Below w.heap.size w W → Calls Tryz.prog 15 #[.pointer (some a), .agg #[.int .i64 ino.1, .int .i64 ino.2]] W fun e w' => e = .returned (.tuple #[.agg #[.int .i64 X.id.1, .int .i64 X.id.2, .int .i64 X.kind, .int .i64 X.links, .int .i64 X.mode, .string X.data], .bool ix]) ∧ Below W.heap.size W w') := by rw [hX, hix]; exact HGet.out ino
    have HFl : Hid (∀ W : World, Calls Tryz.prog 36 #[.agg #[.int .i64 X.id.1, .int .i64 X.id.2, .int .i64 X.kind, .int .i64 X.links, .int .i64 X.mode, .string X.data]] W fun e w' => e = .returned (.bool (fullB X)) ∧ Below W.heap.size W w') := fun W => full_code X W
    have HNo : Hid (ia = false ∨ ix = false → whyG true g ⟨dir, nm, ino⟩ = 3) := fun q => why_none (by rw [← hia, ← hix]; exact q)
    have HWh : Hid (ia = true → ix = true → whyG true g ⟨dir, nm, ino⟩ = if A.kind ≠ 1 then 6 else if (lookE g.E dir nm).isSome then 4 else if ino = (0, 0) ∨ underG g dir ino = true then 8 else if fullB X = true then 12 else 0) := fun q1 q2 => by
      rw [hia] at q1
      rw [hix] at q2
      refine why_asked hg ?_ ?_
      · rw [hA]
        cases h2 : getG g dir with
        | none => rw [h2] at q1; cases q1
        | some _ => rfl
      · rw [hX]
        cases h2 : getG g ino with
        | none => rw [h2] at q2; cases q2
        | some _ => rfl
    clear hA hia hX hix HGet
    obtain ⟨e0, e1, e2, e3, e4⟩ := ent_cells he0
    go_wp2_with fail
    refine (HA.out _ hb0).mono ?_
    rintro e w1 ⟨rfl, hb1⟩
    go_upto_region 4 with fail
    change Code.wp _ _ _ _ (w1.alloc (.cells (inoA A) 41))
    obtain ⟨u1, hu1⟩ : ∃ u, u = w1.heap.size := ⟨_, rfl⟩
    have hq0 := (hb1.block _ (heap_lt he0)).trans he0
    have hlow1 : w.heap.size < u1 := by rw [hu1]; exact heap_lt hq0
    have r0 := (heap_alloc_old w1 (.cells (inoA A) 41) (by omega)).trans hq0
    have r1 : (w1.alloc (.cells (inoA A) 41)).heap[u1]? = some (.cells (inoA A) 41 (0, 0)) := by rw [hu1]; exact heap_alloc_new _ _
    have hb2 := (below_step hb0 hb1).alloc (below_step hb0 hb1).size (.cells (inoA A) 41)
    rw [← hu1]
    generalize w1.alloc (.cells (inoA A) 41) = w2 at r0 r1 hb2 ⊢
    clear hq0 hb0 hb1 hu1 he0 e0 e1 e2 e3 e4
    obtain ⟨e0, e1, e2, e3, e4⟩ := ent_cells r0
    go_wp2_with fail
    refine (HX.out _ hb2).mono ?_
    rintro e w3 ⟨rfl, hb3⟩
    go_upto_region 5 with fail
    change Code.wp _ _ _ _ (w3.alloc (.cells (inoA X) 41))
    obtain ⟨u2, hu2⟩ : ∃ u, u = w3.heap.size := ⟨_, rfl⟩
    have q0 := (hb3.block _ (heap_lt r0)).trans r0
    have q1 := (hb3.block _ (heap_lt r1)).trans r1
    have hlow2 : u1 < u2 := by rw [hu2]; exact heap_lt q1
    have s0 := (heap_alloc_old w3 (.cells (inoA X) 41) (by omega)).trans q0
    have s1 := (heap_alloc_old w3 (.cells (inoA X) 41) (by omega)).trans q1
    have s2 : (w3.alloc (.cells (inoA X) 41)).heap[u2]? = some (.cells (inoA X) 41 (0, 0)) := by rw [hu2]; exact heap_alloc_new _ _
    have hb4 := (below_step hb2 hb3).alloc (below_step hb2 hb3).size (.cells (inoA X) 41)
    rw [← hu2]
    generalize w3.alloc (.cells (inoA X) 41) = w4 at s0 s1 s2 hb4 ⊢
    clear q0 q1 hb2 hb3 hu2 r0 r1 e0 e1 e2 e3 e4 HA HX
    obtain ⟨e0, e1, e2, e3, e4⟩ := ent_cells s0
    have a2 := (ino_cells s1).2.2.1
    have hcase : (ia = false ∨ (ia = true ∧ ix = false)) ∨ (ia = true ∧ ix = true) := by cases ia <;> cases ix <;> simp
    rcases hcase with hcase | ⟨rfl, rfl⟩
    · have hw : Hid (whyG true g ⟨dir, nm, ino⟩ = 3) := HNo.out (by rcases hcase with h | ⟨_, h⟩ <;> simp [h])
      rcases hcase with rfl | ⟨rfl, rfl⟩
      all_goals
        go_wp2_with fail
        go_ret
        exact ⟨by rw [hw.out]; rfl, hb4⟩
    · have hwhy := HWh.out rfl rfl
      by_cases hak : A.kind = 1
      · rw [if_neg (by simp [hak])] at hwhy
        have hak' : (A.kind != 1) = false := by simp [hak]
        obtain ⟨lk, hlk⟩ : ∃ lk, lk = (lookE g.E dir nm).isSome := ⟨_, rfl⟩
        obtain ⟨lv, hlv⟩ : ∃ lv, lv = (lookE g.E dir nm).getD (0, 0) := ⟨_, rfl⟩
        have HL : Hid (∀ W : World, Below w.heap.size w W → Calls Tryz.prog 34 #[.pointer (some a), .agg #[.int .i64 dir.1, .int .i64 dir.2], .string nm] W fun e w' => e = .returned (.tuple #[.agg #[.int .i64 lv.1, .int .i64 lv.2], .bool lk]) ∧ Below W.heap.size W w') := by rw [hlk, hlv]; exact HLk.out
        rw [← hlk] at hwhy
        have HW2 := Lib.hid hwhy
        clear hlk hlv hwhy HLk HWh HNo hak
        go_wp2_with fail
        refine (HL.out _ hb4).mono ?_
        rintro e w5 ⟨rfl, hb5⟩
        go_upto_region 10 with fail
        change Code.wp _ _ _ _ (w5.alloc (.cells #[.int .i64 lv.1, .int .i64 lv.2] 31))
        obtain ⟨u3, hu3⟩ : ∃ u, u = w5.heap.size := ⟨_, rfl⟩
        have q0 := (hb5.block _ (heap_lt s0)).trans s0
        have q2 := (hb5.block _ (heap_lt s2)).trans s2
        have hlow3 : u2 < u3 := by rw [hu3]; exact heap_lt q2
        have t0 := (heap_alloc_old w5 (.cells #[.int .i64 lv.1, .int .i64 lv.2] 31) (by omega)).trans q0
        have t2 := (heap_alloc_old w5 (.cells #[.int .i64 lv.1, .int .i64 lv.2] 31) (by omega)).trans q2
        have hb6 := (below_step hb4 hb5).alloc (below_step hb4 hb5).size (.cells #[.int .i64 lv.1, .int .i64 lv.2] 31)
        rw [← hu3]
        generalize w5.alloc (.cells #[.int .i64 lv.1, .int .i64 lv.2] 31) = w6 at t0 t2 hb6 ⊢
        clear q0 q2 hb4 hb5 hu3 s0 s1 s2 e0 e1 e2 e3 e4 a2 HL
        obtain ⟨e0, e1, e2, e3, e4⟩ := ent_cells t0
        cases lk with
        | true =>
          have hw : Hid (whyG true g ⟨dir, nm, ino⟩ = 4) := HW2.out.trans (if_pos rfl)
          go_wp2_with fail
          go_ret
          exact ⟨by rw [hw.out]; rfl, hb6⟩
        | false =>
          have hwhy3 : whyG true g ⟨dir, nm, ino⟩ = if ino = (0, 0) ∨ underG g dir ino = true then 8 else if fullB X = true then 12 else 0 := HW2.out.trans (if_neg (by simp))
          obtain ⟨un, hun⟩ : ∃ un, un = underG g dir ino := ⟨_, rfl⟩
          obtain ⟨fl, hfl⟩ : ∃ fl, fl = fullB X := ⟨_, rfl⟩
          have HU : Hid (∀ W : World, Below w.heap.size w W → Calls Tryz.prog 35 #[.pointer (some a), .agg #[.int .i64 dir.1, .int .i64 dir.2], .agg #[.int .i64 ino.1, .int .i64 ino.2]] W fun e w' => e = .returned (.bool un) ∧ Below W.heap.size W w') := by rw [hun]; exact HUn.out
          rw [← hun, ← hfl] at hwhy3
          rw [← hfl] at HFl
          have HW3 := Lib.hid hwhy3
          have HB6 := Lib.hid hb6
          have HT2 := Lib.hid t2
          have HT0 := Lib.hid t0
          have HRl : Hid (∀ y, Calls Tryz.prog 13 #[] (later w6 y) fun e w' => e = .returned (.agg #[.int .i64 0, .int .i64 0]) ∧ Below (later w6 y).heap.size (later w6 y) w') := fun y => HRt.out _
          have HUl : Hid (∀ y, Calls Tryz.prog 35 #[.pointer (some a), .agg #[.int .i64 dir.1, .int .i64 dir.2], .agg #[.int .i64 ino.1, .int .i64 ino.2]] (later w6 y) fun e w' => e = .returned (.bool un) ∧ Below (later w6 y).heap.size (later w6 y) w') := fun y => HU.out _ (below_step HB6.out (later_below w6 y))
          clear hun hfl hwhy3 HUn HW2 HU HRt
          by_cases hz : ino = (0, 0)
          · have hw : Hid (whyG true g ⟨dir, nm, ino⟩ = 8) := HW3.out.trans (if_pos (Or.inl hz))
            have hv : ∀ W : World, (Op.equalIn 10000 31 (.agg #[.int .i64 ino.1, .int .i64 ino.2]) (.agg #[.int .i64 0, .int .i64 0])).run Tryz.prog W = .ok true W := fun W => by rw [run_eqSt, decide_eq_true (show ((ino.1, ino.2) : St) = (0, 0) from hz)]
            clear hz
            have c0 := later_cell e0
            have c1 := later_cell e1
            have c3 := later_cell e3
            have c4 := later_cell e4
            clear e0 e1 e2 e3 e4
            go_upto_region 12 with fail
            refine wp_region_later (by kernel_rfl) (by kernel_rfl) ?_
            repeat (go_big_quiet_step (first | (with_reducible exact later_call (HRl.out _)) | (with_reducible exact later_call (HUl.out _))))
            refine wpQuiet_nil ?_
            intro _ hw'
            obtain ⟨y, rfl⟩ := hw'
            clear c0 c1 c3 c4
            go_wp2_with fail
            go_ret
            exact ⟨by rw [hw.out]; rfl, below_step HB6.out (later_below w6 y)⟩
          · have hv : ∀ W : World, (Op.equalIn 10000 31 (.agg #[.int .i64 ino.1, .int .i64 ino.2]) (.agg #[.int .i64 0, .int .i64 0])).run Tryz.prog W = .ok false W := fun W => by rw [run_eqSt, decide_eq_false (show ¬ ((ino.1, ino.2) : St) = (0, 0) from hz)]
            have hz' := Lib.hid hz
            clear hz
            cases un with
            | true =>
              have hw : Hid (whyG true g ⟨dir, nm, ino⟩ = 8) := HW3.out.trans (if_pos (Or.inr rfl))
              have c0 := later_cell e0
              have c1 := later_cell e1
              have c3 := later_cell e3
              have c4 := later_cell e4
              clear e0 e1 e2 e3 e4
              go_upto_region 12 with fail
              refine wp_region_later (by kernel_rfl) (by kernel_rfl) ?_
              repeat (go_big_quiet_step (first | (with_reducible exact later_call (HRl.out _)) | (with_reducible exact later_call (HUl.out _))))
              refine wpQuiet_nil ?_
              intro _ hw'
              obtain ⟨y, rfl⟩ := hw'
              clear c0 c1 c3 c4
              go_wp2_with fail
              go_ret
              exact ⟨by rw [hw.out]; rfl, below_step HB6.out (later_below w6 y)⟩
            | false =>
              have hwhy4 : Hid (whyG true g ⟨dir, nm, ino⟩ = if fl = true then 12 else 0) := HW3.out.trans (if_neg fun q => q.elim hz'.out (by simp))
              have c0 := later_cell e0
              have c1 := later_cell e1
              have c3 := later_cell e3
              have c4 := later_cell e4
              clear e0 e1 e2 e3 e4
              go_upto_region 12 with fail
              refine wp_region_later (by kernel_rfl) (by kernel_rfl) ?_
              repeat (go_big_quiet_step (first | (with_reducible exact later_call (HRl.out _)) | (with_reducible exact later_call (HUl.out _))))
              refine wpQuiet_nil ?_
              intro _ hw'
              obtain ⟨y, rfl⟩ := hw'
              clear c0 c1 c3 c4
              have hb9 := later_below w6 y
              have t2 := (hb9.block _ (heap_lt HT2.out)).trans HT2.out
              have hb10 := below_step HB6.out hb9
              obtain ⟨y0, y1, y2, y3, y4, y5⟩ := ino_cells t2
              clear t2 hb9
              cases fl with
              | true =>
                have hw : Hid (whyG true g ⟨dir, nm, ino⟩ = 12) := hwhy4.out.trans (if_pos rfl)
                go_wp2_with fail
                refine (HFl.out _).mono ?_
                rintro e w11 ⟨rfl, hb11⟩
                go_wp2_with fail
                go_ret
                exact ⟨by rw [hw.out]; rfl, below_step hb10 hb11⟩
              | false =>
                have hw : Hid (whyG true g ⟨dir, nm, ino⟩ = 0) := hwhy4.out.trans (if_neg (by simp))
                go_wp2_with fail
                refine (HFl.out _).mono ?_
                rintro e w11 ⟨rfl, hb11⟩
                go_wp2_with fail
                go_ret
                exact ⟨by rw [hw.out]; rfl, below_step hb10 hb11⟩
      · rw [if_pos hak] at hwhy
        have hw := Lib.hid hwhy
        have hak' : (A.kind != 1) = true := by simp [hak]
        clear hwhy hak
        go_wp2_with fail
        go_ret
        exact ⟨by rw [hw.out]; rfl, hb4⟩

end Go.Proofs.YtoobmkkmomiigaaGreat

/-
  The landed graph's Tie.
-/
namespace Go.Proofs.YtoobmkkmomiigaaGreat
open Go.RowKit StampMath GraphMath OpMath

set_option maxRecDepth 100000 in
set_option maxHeartbeats 1600000 in
theorem tie_code (a : Addr) (S : Nat → Prop) (g : Gr) (x : Ent) (w : World) (h : GIn w S a g) (hg : g.ok) (hsz : x.name.size ≤ maxLen) :
    Calls Tryz.prog 7 #[.pointer (some a), .agg (entA x)] w fun e w' => e = .returned (.int .i64 (tieG (nameB x.name) g x).2) ∧ GIn w' S a (tieG (nameB x.name) g x).1 ∧ But S w w' := by
  obtain ⟨why, hwhy⟩ : ∃ why, why = whyG (nameB x.name) g x := ⟨_, rfl⟩
  have HM : Hid (∀ W : World, Below w.heap.size w W → Calls Tryz.prog 16 #[.pointer (some a), .agg #[.int .i64 x.dir.1, .int .i64 x.dir.2, .string x.name, .int .i64 x.ino.1, .int .i64 x.ino.2]] W fun e w' => e = .returned (.int .i64 why) ∧ Below W.heap.size W w') := fun W hW => by
    rw [hwhy]
    exact mayTie_code a S g x W (h.keep fun i hi => hW.block i (h.lt i hi)) hg hsz
  have hG := Lib.hid h
  have hb0 : Below w.heap.size w (w.alloc (.cells (entA x) 34)) := (Below.refl _ _).alloc (Nat.le_refl _) _
  have he0 := heap_alloc_new w (.cells (entA x) 34)
  by_cases hw : why = 0
  · have htie : tieG (nameB x.name) g x = (⟨g.I, putIn (fun a => aheadE a x) g.E x⟩, 0) := by unfold tieG; rw [if_pos (by rw [← hwhy]; exact hw)]
    have h0 : (tieG (nameB x.name) g x).2 = 0 := by rw [htie]
    have hok := hg.tie (nameB x.name) x
    obtain ⟨X, hX⟩ : ∃ X, getG g x.ino = some X := by
      have : ¬ getG g x.ino = none := fun q => by
        have h1 : whyG (nameB x.name) g x = 0 := by rw [← hwhy]; exact hw
        unfold whyG at h1
        rw [q] at h1
        cases hn : nameB x.name with
        | false => rw [hn] at h1; simp at h1
        | true =>
          rw [hn] at h1
          cases hd : getG g x.dir with
          | none => rw [hd] at h1; simp at h1
          | some _ => rw [hd] at h1; simp at h1
      cases hq : getG g x.ino with
      | none => exact absurd hq this
      | some y => exact ⟨y, rfl⟩
    have hwr : wrap64 (X.links + 1) = X.links + 1 := by
      have h6 := hg.six x.ino
      obtain ⟨y, _, _, hy⟩ := get_some hX
      have h7 : X.links = (linksE g.E x.ino : Int) := by rw [hy]
      unfold wrap64
      omega
    have HG : Hid (tieG (nameB x.name) g x).1.ok := hok
    have HT0 := Lib.hid htie
    have HH0 := Lib.hid h0
    have HX := Lib.hid hX
    have HR := Lib.hid hwr
    obtain ⟨b, bi, be, rfl, h1, h2, h3, hb, hi, he, hS⟩ := h
    obtain ⟨d0, d1⟩ := two_cells hb
    have hlt := heap_lt hb
    have HI := Lib.hid hi
    have HE := Lib.hid he
    have HS := Lib.hid hS
    have HBlk := Lib.hid hb
    have hw0 : (why == 0) = true := beq_iff_eq.2 hw
    have HC : Hid (∀ W : World, W.heap[b]? = some (.cells #[.map (some bi), .map (some be)] 48 (0, 0)) → KMap stV inoV W bi (pairsI g) → Calls Tryz.prog 17 #[.pointer (some ⟨b, 0, none⟩), .agg #[.int .i64 x.ino.1, .int .i64 x.ino.2], .int .i64 1] W fun e w' => e = .returned (.tuple #[]) ∧ KMap stV inoV w' bi ((x.ino, { X with links := X.links + 1 }) :: offL (pairsI g) x.ino) ∧ But (fun i => i = bi) W w') := fun W hb hi => count_code b bi be (pairsI g) x.ino 1 X W hb hi (by rw [look_pairsI hg]; exact hX) hwr
    clear hi he hS hb hX hwr htie h0 hok hw hwhy d0
    obtain ⟨dir, nm, ino⟩ := x
    unfold entA
    go_enter Tryz.func7, Tryz.ntmps7
    go_upto_region 1 with fail
    change Code.wp _ _ _ _ (w.alloc (.cells (entA ⟨dir, nm, ino⟩) 34))
    generalize w.alloc (.cells (entA ⟨dir, nm, ino⟩) 34) = w1 at he0 hb0 ⊢
    obtain ⟨e0, e1, e2, e3, e4⟩ := ent_cells he0
    go_wp2_with fail
    refine (HM.out _ hb0).mono ?_
    rintro e w2 ⟨rfl, hb2⟩
    have he2 := (hb2.block _ (heap_lt he0)).trans he0
    have hb3 := below_step hb0 hb2
    clear he0 hb0 hb2 e0 e1 e2 e3 e4 HM
    obtain ⟨e0, e1, e2, e3, e4⟩ := ent_cells he2
    have d1w := (hb3.cell (p := ⟨b, 1, none⟩) hlt).trans d1
    obtain ⟨w3, hrun, hm3, hbut3, hsz3⟩ := (HE.out.kept (hb3.drew.block be HE.out.lt)).store plShape Tryz.underlying46 (dir, nm) ino
    simp only [stV, stA, plV] at hrun
    have HM3 := Lib.hid hm3
    have HU3 := Lib.hid hbut3
    have HB3 := Lib.hid hb3
    have HE2 := Lib.hid he2
    have hilt := HI.out.lt
    have helt := HE.out.lt
    clear hm3 hbut3 hb3 he2
    go_upto_region 4 with fail
    go_region
    clear hrun e0 e1 e2 e3 e4 d1w
    have hb4 : But (fun i => i = be) w w3 := (But.of_below HB3.out.drew).trans HU3.out fun i hi _ => hi
    have z0 : w3.heap[w.heap.size]? = some (.cells (entA ⟨dir, nm, ino⟩) 34 (0, 0)) := HU3.out.heap (a := w2.drew) HE2.out (fun q => by omega)
    have hblk := hb4.heap HBlk.out (fun q => h2 q)
    have hi3 : KMap stV inoV w3 bi (pairsI g) := HI.out.kept (hb4.block bi hilt fun q => h3 q)
    have HB4 := Lib.hid hb4
    obtain ⟨e0, e1, e2, e3, e4⟩ := ent_cells z0
    have hs4 := hb4.size
    clear hb4 z0
    go_wp2_with fail
    refine (HC.out _ hblk hi3).mono ?_
    rintro e w4 ⟨rfl, hm4, hb5⟩
    clear e0 e1 e2 e3 e4
    go_wp2_with fail
    go_ret
    have hb6 : But (fun i => i = bi ∨ i = be) w w4 := (HB4.out.mono (T := fun i => i = bi ∨ i = be) fun i hi => Or.inr hi).trans hb5 fun i hi _ => Or.inl hi
    refine ⟨by rw [HH0.out]; rfl, ⟨b, bi, be, rfl, h1, h2, h3, ?_, ?_, ?_, HS.out⟩, hb6.mono fun i hi => (HS.out i).2 (Or.inr hi)⟩
    · exact hb6.heap HBlk.out (fun q => q.elim h1 h2)
    · refine hm4.perm (put_perm (keys_pairsI hg) (keys_pairsI HG.out) (x := ino) (v := { X with links := X.links + 1 }) fun k => ?_)
      rw [look_pairsI HG.out, look_pairsI hg, tie_get HH0.out]
      by_cases hk : k = ino
      · rw [if_pos hk, hk, HX.out]
        simp
      · rw [if_neg hk]
        cases getG g k <;> simp [hk]
    · refine KMap.perm ?_ (put_perm (keys_pairsE hg) (keys_pairsE HG.out) fun p => ?_) (L := ((dir, nm), ino) :: offL (pairsE g) (dir, nm))
      · exact HM3.out.kept (hb5.block be (by omega) fun q => h3 q.symm)
      · rw [tie_look hg HH0.out]
  · have htie : tieG (nameB x.name) g x = (g, why) := by unfold tieG; rw [← hwhy, if_neg hw]
    rw [htie]
    have hw0 : (why == 0) = false := beq_eq_false_iff_ne.2 hw
    clear htie hwhy hw h
    obtain ⟨dir, nm, ino⟩ := x
    unfold entA
    go_enter Tryz.func7, Tryz.ntmps7
    go_upto_region 1 with fail
    change Code.wp _ _ _ _ (w.alloc (.cells (entA ⟨dir, nm, ino⟩) 34))
    generalize w.alloc (.cells (entA ⟨dir, nm, ino⟩) 34) = w1 at he0 hb0 ⊢
    obtain ⟨e0, e1, e2, e3, e4⟩ := ent_cells he0
    go_wp2_with fail
    refine (HM.out _ hb0).mono ?_
    rintro e w2 ⟨rfl, hb2⟩
    have hb3 := below_step hb0 hb2
    clear he0 hb0 hb2 e0 e1 e2 e3 e4 HM
    go_wp2_with fail
    go_ret
    exact ⟨rfl, hG.out.keep fun i hi => hb3.block i (hG.out.lt i hi), But.of_below hb3⟩

end Go.Proofs.YtoobmkkmomiigaaGreat

/-
  The code of package graph as layer 10's statements need it.
-/
namespace Go.Proofs.YtoobmkkmomiigaaGreat
open Go.RowKit StampMath GraphMath OpMath

noncomputable def graphFew : GraphFew where
  rep := GIn
  lt := GIn.lt
  keep := GIn.keep
  new := new_code
  inodes := inodes_code
  entries := entries_code
  make := fun a S g id kind w h hg => (make_code a S g id kind w h hg).mono fun _ _ q => ⟨S, q.1, q.2.1, fun _ hi => Or.inl hi, q.2.2⟩
  tie := fun a S g x w h hg hn => (tie_code a S g x w h hg hn).mono fun _ _ q => ⟨S, q.1, q.2.1, fun _ hi => Or.inl hi, q.2.2⟩

end Go.Proofs.YtoobmkkmomiigaaGreat

/-
  Arguments that are stamps or entries, opened.
-/
namespace Go.Proofs.YtoobmkkmomiigaaGreat
open Go.ChangeShapes Go.WideShapes Go.RowKit StampMath GraphMath

variable {H : Type} {enc : TypeId × Value → H}

theorem st_trod {w : World} {n : Nat} {a b : Value} {y : DataW H × List MemPlace} (h : DataW.trod enc Tryz.prog w 0 (fun _ => true) true n 31 [a, b] = some y) : ∃ s : St, a = .int .i64 s.1 ∧ b = .int .i64 s.2 := by
  have h1 : Tryz.prog.cellsOf 3 = 1 := by kernel_rfl
  have h2 : Tryz.prog.cellsOf 2 = 1 := by kernel_rfl
  obtain ⟨xs, m, _, _, _, hlen, hg⟩ := DataW.trod_struct Tryz.underlying31 h
  match xs, hlen with
  | [y0, y1], _ =>
    have g0 : DataW.trod enc Tryz.prog w 0 (fun _ => true) true m 2 (([a, b].drop 0).take (Tryz.prog.cellsOf 2)) = some y0 := hg 0 _ rfl
    have g1 : DataW.trod enc Tryz.prog w 0 (fun _ => true) true m 3 (([a, b].drop 1).take (Tryz.prog.cellsOf 3)) = some y1 := hg 1 _ rfl
    rw [h2] at g0
    rw [h1] at g1
    obtain ⟨t, e0, _, _⟩ := DataW.trod_int Tryz.underlying2 g0
    obtain ⟨r, e1, _, _⟩ := DataW.trod_int Tryz.underlying3 g1
    simp at e0 e1
    exact ⟨(t, r), e0, e1⟩

theorem ent_trod {w : World} {n : Nat} {c0 c1 c2 c3 c4 : Value} {y : DataW H × List MemPlace} (h : DataW.trod enc Tryz.prog w 0 (fun _ => true) true n 34 [c0, c1, c2, c3, c4] = some y) :
    ∃ e : Ent, #[c0, c1, c2, c3, c4] = entA e ∧ e.name.size ≤ maxLen := by
  have hC2 : Tryz.prog.cellsOf 31 = 2 := by kernel_rfl
  have hC3 : Tryz.prog.cellsOf 9 = 1 := by kernel_rfl
  obtain ⟨xs, m, _, _, _, hlen, hg⟩ := DataW.trod_struct Tryz.underlying34 h
  match xs, hlen with
  | [y0, y1, y2], _ =>
    have g0 : DataW.trod enc Tryz.prog w 0 (fun _ => true) true m 31 (([c0, c1, c2, c3, c4].drop 0).take (Tryz.prog.cellsOf 31)) = some y0 := hg 0 _ rfl
    have g1 : DataW.trod enc Tryz.prog w 0 (fun _ => true) true m 9 (([c0, c1, c2, c3, c4].drop 2).take (Tryz.prog.cellsOf 9)) = some y1 := hg 1 _ rfl
    have g2 : DataW.trod enc Tryz.prog w 0 (fun _ => true) true m 31 (([c0, c1, c2, c3, c4].drop 3).take (Tryz.prog.cellsOf 31)) = some y2 := hg 2 _ rfl
    rw [hC2] at g0 g2
    rw [hC3] at g1
    obtain ⟨s, rfl, rfl⟩ := st_trod (a := c0) (b := c1) g0
    obtain ⟨nm, e2, _, w2⟩ := DataW.trod_string Tryz.underlying9 g1
    obtain ⟨t, rfl, rfl⟩ := st_trod (a := c3) (b := c4) g2
    simp at e2
    subst e2
    exact ⟨⟨s, nm, t⟩, rfl, w2⟩

set_option maxRecDepth 100000 in
theorem open_st {w : World} {v : Value} {d : DataW H} {p : List MemPlace} {r : Reach} {b0 : Nat} (hv : Value.okWide Tryz.prog w r b0 31 v) (h : DataW.Trod enc Tryz.prog w 0 (fun _ => true) true 31 v d p) :
    ∃ s : St, v = .agg (stA s) := by
  have hC : Tryz.prog.cellsOf 31 = 2 := by kernel_rfl
  obtain ⟨cs, rfl, hsz⟩ := okWide_struct Tryz.underlying31 hv
  obtain ⟨l⟩ := cs
  match l, hsz.trans hC with
  | [c0, c1], _ =>
    obtain ⟨fuel, hf⟩ := h
    obtain ⟨s, rfl, rfl⟩ := st_trod (a := c0) (b := c1) hf
    exact ⟨s, rfl⟩

set_option maxRecDepth 100000 in
theorem open_ent {w : World} {v : Value} {d : DataW H} {p : List MemPlace} {r : Reach} {b0 : Nat} (hv : Value.okWide Tryz.prog w r b0 34 v) (h : DataW.Trod enc Tryz.prog w 0 (fun _ => true) true 34 v d p) :
    ∃ e : Ent, v = .agg (entA e) ∧ e.name.size ≤ maxLen := by
  have hC : Tryz.prog.cellsOf 34 = 5 := by kernel_rfl
  obtain ⟨cs, rfl, hsz⟩ := okWide_struct Tryz.underlying34 hv
  obtain ⟨l⟩ := cs
  match l, hsz.trans hC with
  | [c0, c1, c2, c3, c4], _ =>
    obtain ⟨fuel, hf⟩ := h
    obtain ⟨e, he, hs⟩ := ent_trod (c0 := c0) (c1 := c1) (c2 := c2) (c3 := c3) (c4 := c4) hf
    exact ⟨e, by rw [← he], hs⟩

theorem cell_spot {w : World} {g o : Nat} {s : Option Nat} {v : Value} (h : w.cell? ⟨g, o, s⟩ = some v) : s = none := by
  unfold World.cell? at h
  cases hb : w.heap[g]? with
  | none => simp [hb] at h
  | some x =>
    cases x <;> simp [hb] at h
    exact h.1

end Go.Proofs.YtoobmkkmomiigaaGreat

/-
  Arguments of layer 10's statements, opened: slices of inodes, of entries, of stamps and of numbers.
-/
namespace Go.Proofs.YtoobmkkmomiigaaGreat
open Go.ChangeShapes Go.WideShapes Go.RowKit StampMath GraphMath OpMath

variable {H : Type} {enc : TypeId × Value → H}

set_option maxRecDepth 100000 in
theorem ino_trod {w : World} {n : Nat} {c0 c1 c2 c3 c4 c5 : Value} {y : DataW H × List MemPlace} (h : DataW.trod enc Tryz.prog w 0 (fun _ => true) true n 41 [c0, c1, c2, c3, c4, c5] = some y) :
    ∃ x : Ino, #[c0, c1, c2, c3, c4, c5] = inoA x ∧ x.data.size ≤ maxLen := by
  have hC1 : Tryz.prog.cellsOf 3 = 1 := by kernel_rfl
  have hC2 : Tryz.prog.cellsOf 31 = 2 := by kernel_rfl
  have hC3 : Tryz.prog.cellsOf 9 = 1 := by kernel_rfl
  obtain ⟨xs, m, _, _, _, hlen, hg⟩ := DataW.trod_struct Tryz.underlying41 h
  match xs, hlen with
  | [y0, y1, y2, y3, y4], _ =>
    have g0 : DataW.trod enc Tryz.prog w 0 (fun _ => true) true m 31 (([c0, c1, c2, c3, c4, c5].drop 0).take (Tryz.prog.cellsOf 31)) = some y0 := hg 0 _ rfl
    have g1 : DataW.trod enc Tryz.prog w 0 (fun _ => true) true m 3 (([c0, c1, c2, c3, c4, c5].drop 2).take (Tryz.prog.cellsOf 3)) = some y1 := hg 1 _ rfl
    have g2 : DataW.trod enc Tryz.prog w 0 (fun _ => true) true m 3 (([c0, c1, c2, c3, c4, c5].drop 3).take (Tryz.prog.cellsOf 3)) = some y2 := hg 2 _ rfl
    have g3 : DataW.trod enc Tryz.prog w 0 (fun _ => true) true m 3 (([c0, c1, c2, c3, c4, c5].drop 4).take (Tryz.prog.cellsOf 3)) = some y3 := hg 3 _ rfl
    have g4 : DataW.trod enc Tryz.prog w 0 (fun _ => true) true m 9 (([c0, c1, c2, c3, c4, c5].drop 5).take (Tryz.prog.cellsOf 9)) = some y4 := hg 4 _ rfl
    rw [hC2] at g0
    rw [hC1] at g1 g2 g3
    rw [hC3] at g4
    obtain ⟨s, rfl, rfl⟩ := st_trod (a := c0) (b := c1) g0
    obtain ⟨a, e1, _, _⟩ := DataW.trod_int Tryz.underlying3 g1
    obtain ⟨b, e2, _, _⟩ := DataW.trod_int Tryz.underlying3 g2
    obtain ⟨c, e3, _, _⟩ := DataW.trod_int Tryz.underlying3 g3
    obtain ⟨da, e4, _, w4⟩ := DataW.trod_string Tryz.underlying9 g4
    simp at e1 e2 e3 e4
    subst e1 e2 e3 e4
    exact ⟨⟨s, a, b, c, da⟩, rfl, w4⟩

set_option maxRecDepth 100000 in
/-- A slice whose elements are of k cells each. -/
theorem open_tab {α : Type} (encA : α → Array Value) (Good : α → Prop) (dflt : α) {k : Nat} (hk : 0 < k) (hsz : ∀ x, (encA x).size = k) {T E : TypeId} (hT : Tryz.prog.underlying T = some (.slice E)) (hC : Tryz.prog.cellsOf E = k) {w : World}
    (one : ∀ {n : Nat} {cs : List Value} {y : DataW H × List MemPlace}, cs.length = k → DataW.trod enc Tryz.prog w 0 (fun _ => true) true n E cs = some y → ∃ x, cs = (encA x).toList ∧ Good x)
    {v : Value} {d : DataW H} {p : List MemPlace} {r : Reach} {b0 : Nat} (hv : Value.okWide Tryz.prog w r b0 T v) (h : DataW.Trod enc Tryz.prog w 0 (fun _ => true) true T v d p) :
    ∃ (A : Option Addr) (n c : Nat) (xs : List α), v = .slice A n c ∧ n ≤ c ∧ c ≤ maxLen ∧ (∀ x ∈ xs, Good x) ∧ TabIn k w w.heap.size A n (xs.map encA) ∧ (A = Option.none → c = 0) := by
  obtain ⟨A, n, c, rfl⟩ := okWide_slice hT hv
  obtain ⟨fuel, hf⟩ := h
  rcases Deep.open_slice hT hf with ⟨hcs, _⟩ | ⟨a, len, cap, m, kk, D, Pl, hcs, _, hlc, hcm, hm, hx, hi⟩
  · simp only [Value.cells, List.cons.injEq, and_true, Value.slice.injEq] at hcs
    obtain ⟨rfl, rfl, rfl⟩ := hcs
    exact ⟨Option.none, 0, 0, [], rfl, by omega, by decide, (fun x hx => by cases hx), TabIn.nil k w _ _, fun _ => rfl⟩
  · simp only [Value.cells, List.cons.injEq, and_true, Value.slice.injEq] at hcs
    obtain ⟨rfl, rfl, rfl⟩ := hcs
    have hmc : m = c := by rw [hm]; rfl
    subst hmc
    rw [hC] at hi
    have each : ∀ i, i < n → ∃ x : α, (∀ j v, (encA x)[j]? = some v → w.cell? ((a.add (i * k)).add j) = some v) ∧ Good x := by
      intro i hin
      obtain ⟨cs, hc, ht⟩ := hi i (by omega)
      obtain ⟨_, hl, hat⟩ := World.cells?_some hc
      obtain ⟨x, he, hs⟩ := one hl ht
      refine ⟨x, fun j v hj => ?_, hs⟩
      have hjk : j < k := by rw [← hsz x]; exact (Array.getElem?_eq_some_iff.1 hj).1
      rw [hat j hjk, he]
      simpa using hj
    obtain ⟨g, o, sp⟩ := a
    have hsp : 0 < n → sp = Option.none := fun hn => by
      obtain ⟨x, hc, _⟩ := each 0 hn
      have h0 : 0 < (encA x).size := by rw [hsz]; exact hk
      exact cell_spot (by simpa [Addr.add] using hc 0 _ (Array.getElem?_eq_getElem h0))
    refine ⟨some ⟨g, o, sp⟩, n, m, (List.range n).map (fun i => if h : i < n then Classical.choose (each i h) else dflt), rfl, hlc, hcm, fun x hx => ?_, ⟨by simp, fun hn => ?_⟩, fun h => by cases h⟩
    · obtain ⟨i, hi1, rfl⟩ := List.mem_map.1 hx
      have hin := List.mem_range.1 hi1
      rw [dif_pos hin]
      exact (Classical.choose_spec (each i hin)).2
    · have hs := hsp hn
      subst hs
      obtain ⟨x0, c0, _⟩ := each 0 hn
      have h0 : 0 < (encA x0).size := by rw [hsz]; exact hk
      refine ⟨g, o, rfl, by have := World.block_lt_of_cell? _ _ (c0 0 _ (Array.getElem?_eq_getElem h0)); simpa [Addr.add] using this, fun j hj i v hv => ?_⟩
      have hjn : j < n := by simpa using hj
      have he : (((List.range n).map (fun i => if h : i < n then Classical.choose (each i h) else dflt)).map encA)[j]'hj = encA (Classical.choose (each j hjn)) := by
        rw [List.getElem_map, List.getElem_map, List.getElem_range, dif_pos hjn]
      rw [he] at hv
      have q := (Classical.choose_spec (each j hjn)).1 i v hv
      rw [tab_add, tab_add] at q
      exact q

set_option maxRecDepth 100000 in
theorem open_inos {w : World} {v : Value} {d : DataW H} {p : List MemPlace} {r : Reach} {b0 : Nat} (hv : Value.okWide Tryz.prog w r b0 36 v) (h : DataW.Trod enc Tryz.prog w 0 (fun _ => true) true 36 v d p) :
    ∃ (A : Option Addr) (n c : Nat) (N : List Ino), v = .slice A n c ∧ n ≤ c ∧ c ≤ maxLen ∧ (∀ x ∈ N, x.data.size ≤ maxLen) ∧ InosIn w w.heap.size A n N ∧ (A = Option.none → c = 0) :=
  open_tab inoA (fun x => x.data.size ≤ maxLen) noIno (by omega) (fun _ => rfl) Tryz.underlying36 (by kernel_rfl) (fun {n cs y} hl ht => by
    match cs, hl with
    | [c0, c1, c2, c3, c4, c5], _ =>
      obtain ⟨x, he, hs⟩ := ino_trod ht
      exact ⟨x, by rw [← he], hs⟩) hv h

set_option maxRecDepth 100000 in
theorem open_ents {w : World} {v : Value} {d : DataW H} {p : List MemPlace} {r : Reach} {b0 : Nat} (hv : Value.okWide Tryz.prog w r b0 24 v) (h : DataW.Trod enc Tryz.prog w 0 (fun _ => true) true 24 v d p) :
    ∃ (A : Option Addr) (n c : Nat) (E : List Ent), v = .slice A n c ∧ n ≤ c ∧ c ≤ maxLen ∧ (∀ x ∈ E, x.name.size ≤ maxLen) ∧ EntsIn w w.heap.size A n E ∧ (A = Option.none → c = 0) :=
  open_tab entA (fun x => x.name.size ≤ maxLen) ⟨(0, 0), ⟨#[]⟩, (0, 0)⟩ (by omega) (fun _ => rfl) Tryz.underlying24 (by kernel_rfl) (fun {n cs y} hl ht => by
    match cs, hl with
    | [c0, c1, c2, c3, c4], _ =>
      obtain ⟨x, he, hs⟩ := ent_trod ht
      exact ⟨x, by rw [← he], hs⟩) hv h

set_option maxRecDepth 100000 in
theorem open_sts {w : World} {v : Value} {d : DataW H} {p : List MemPlace} {r : Reach} {b0 : Nat} (hv : Value.okWide Tryz.prog w r b0 22 v) (h : DataW.Trod enc Tryz.prog w 0 (fun _ => true) true 22 v d p) :
    ∃ (A : Option Addr) (n c : Nat) (l : List St), v = .slice A n c ∧ n ≤ c ∧ c ≤ maxLen ∧ StsIn w w.heap.size A n l := by
  obtain ⟨A, n, c, l, h1, h2, h3, _, h4, _⟩ := open_tab stA (fun _ => True) (0, 0) (k := 2) (by omega) (fun _ => rfl) Tryz.underlying22 (by kernel_rfl) (fun {n cs y} hl ht => by
    match cs, hl with
    | [c0, c1], _ =>
      obtain ⟨s, rfl, rfl⟩ := st_trod ht
      exact ⟨s, rfl, trivial⟩) hv h
  exact ⟨A, n, c, l, h1, h2, h3, h4⟩

set_option maxRecDepth 100000 in
theorem open_nums {w : World} {v : Value} {d : DataW H} {p : List MemPlace} {r : Reach} {b0 : Nat} (hv : Value.okWide Tryz.prog w r b0 23 v) (h : DataW.Trod enc Tryz.prog w 0 (fun _ => true) true 23 v d p) :
    ∃ (A : Option Addr) (n c : Nat) (l : List Int), v = .slice A n c ∧ n ≤ c ∧ c ≤ maxLen ∧ IntsIn w w.heap.size A n l := by
  obtain ⟨A, n, c, l, h1, h2, h3, _, h4, _⟩ := open_tab (fun x : Int => #[.int .i64 x]) (fun _ => True) 0 (k := 1) (by omega) (fun _ => rfl) Tryz.underlying23 (by kernel_rfl) (fun {n cs y} hl ht => by
    match cs, hl with
    | [c0], _ =>
      obtain ⟨a, e0, _, _⟩ := DataW.trod_int Tryz.underlying3 ht
      simp at e0
      subst e0
      exact ⟨a, rfl, trivial⟩) hv h
  refine ⟨A, n, c, l, h1, h2, h3, by have := h4.1; rwa [List.length_map] at this, fun hn => ?_⟩
  obtain ⟨g, o, e, hg, hc⟩ := h4.2 hn
  refine ⟨g, o, e, hg, fun j hj => ?_⟩
  have := hc j (by simpa using hj) 0 (.int .i64 l[j]) (by simp)
  simpa using this

end Go.Proofs.YtoobmkkmomiigaaGreat
