/-
  The landed graph's mayTie: why there can't be an entry.
-/
import Derived.Test.YtlhdbccemgofjaaGreatDoorZ06
import Derived.Test.YtlhdbccemgofjaaGreatDoorZ06
import Derived.Test.YtlhdbccemgofjaaGreatDoorZ06
import Derived.Test.YtlhdbccemgofjaaGreatDoorZ03
import Derived.Test.YtlhdbccemgofjaaGreatDoorZ01
import Derived.Test.YtlhdbccemgofjaaGreatDoorZ01
import Derived.BigQuiet
import Derived.Maps.Own
import Derived.Maps.OwnOps
import Derived.Deep.Cut
import Derived.Shelf.SlMaps.Clone
import Derived.Test.YtlhdbccemgofjaaGreatDoorZ05
import Derived.Test.YtlhdbccemgofjaaGreatDoorZ05
import Derived.Deep.RegionWith
import Derived.Test.YtlhdbccemgofjaaGreatDoorZ00
import Derived.Test.YtlhdbccemgofjaaGreatDoorZ04
import Derived.Deep.DeepCutAuto
import Derived.Lib.BufferWrite
import Derived.Deep.OwnRows
import Derived.Test.YtlhdbccemgofjaaGreatDoorRows
import Derived.ProofKit
import Derived.OpenShut
import Derived.WideKeyEntry
import Derived.RangeFuncNested
import Derived.RangeFuncBound
import Derived.RangeFuncBox
import Derived.RangeFuncLeaves
import Derived.Shelf.Abstract
import Derived.WalkKit
import Derived.OwnWalkIn
import Derived.TacticsInMore
import Derived.LoopNIn
import Derived.LoopIn
import Derived.Sort.LoopGhostIn
import Derived.Sort.QuietIn
import Derived.Deep.LoopGhost
import Derived.Maps.AppendAt
import Derived.Laws.OwnMore
namespace Go.Proofs.YtlhdbccemgofjaaGreatDoor
open Go.RowKit StampMath GraphMath OpMath

theorem leads_dir {g : Gr} (h : g.ok) {a b : St} (hl : Leads g a b) (ha : g.isDir a) : g.isDir b := by
  induction hl with
  | here => exact ha
  | up e d he _ _ ih => exact ih (h.dirs e he)

theorem why_asked {g : Gr} (h : g.ok) {dir ino : St} {nm : ByteArray} {A X : Ino} (hA : getG g dir = some A) (hX : getG g ino = some X) :
    whyG true g ⟨dir, nm, ino⟩ = if A.kind ≠ 1 then 6 else if (lookE g.E dir nm).isSome then 4 else if ino = (0, 0) ∨ underG g dir ino = true then 8 else if fullB X = true then 12 else 0 := by
  unfold whyG
  rw [if_neg (by simp)]
  simp only [hA, hX]
  by_cases hk : A.kind = 1
  · have hk' : ¬ A.kind ≠ 1 := fun q => q hk
    rw [if_neg hk', if_neg hk']
    have hdir := getDir_of hA hk
    have hkind : ino = (0, 0) ∨ underG g dir ino = true → X.kind = 1 := by
      rintro (hz | hu)
      · obtain ⟨y, hy, hyi, hyk⟩ := h.root
        rw [hz, ← hyi, h.get hy] at hX
        injection hX with hX
        rw [← hX]
        exact hyk
      · obtain ⟨x, hx, hxk⟩ := h.getDir (leads_dir h (h.leads.1 hu) hdir)
        rw [hX] at hx
        injection hx with hx
        rw [hx]
        exact hxk
    by_cases hl : (lookE g.E dir nm).isSome = true
    · rw [if_pos hl, if_pos hl]
    · rw [if_neg hl, if_neg hl]
      by_cases hu : ino = (0, 0) ∨ underG g dir ino = true
      · rw [if_pos ⟨hkind hu, hu⟩, if_pos hu]
      · rw [if_neg fun q => hu q.2, if_neg hu]
        have hf : (X.kind = 1 ∧ 0 < X.links ∨ 6 ≤ X.links) ↔ fullB X = true := by
          unfold fullB
          by_cases hx : X.kind = 1
          · rw [if_pos hx, decide_eq_true_iff]; omega
          · rw [if_neg hx, decide_eq_true_iff]; omega
        by_cases hq : X.kind = 1 ∧ 0 < X.links ∨ 6 ≤ X.links
        · rw [if_pos hq, if_pos (hf.1 hq)]
        · rw [if_neg hq, if_neg fun r => hq (hf.2 r)]
  · rw [if_pos hk, if_pos hk]

theorem why_none {g : Gr} {dir ino : St} {nm : ByteArray} (h : (getG g dir).isSome = false ∨ (getG g ino).isSome = false) : whyG true g ⟨dir, nm, ino⟩ = 3 := by
  unfold whyG
  rw [if_neg (by simp)]
  cases h1 : getG g dir with
  | none => simp
  | some p =>
    cases h2 : getG g ino with
    | none => simp
    | some q => rw [h1, h2] at h; simp at h

set_option maxRecDepth 100000 in
set_option maxHeartbeats 4000000 in
theorem mayTie_code (a : Addr) (S : Nat → Prop) (g : Gr) (x : Ent) (w : World) (h : GIn w S a g) (hg : g.ok) (hsz : x.name.size ≤ maxLen) :
    Calls Tryz.prog 120 #[.pointer (some a), .agg (entA x)] w fun e w' => e = .returned (.int .i64 (whyG (nameB x.name) g x)) ∧ Below w.heap.size w w' := by
  obtain ⟨b, hb⟩ : ∃ b, b = nameB x.name := ⟨_, rfl⟩
  have HN : Hid (∀ W : World, Calls Tryz.prog 109 #[.string x.name] W fun e w' => e = .returned (.bool b) ∧ W = w') := fun W => by rw [hb]; exact name_any _ hsz W
  rw [← hb]
  clear hb hsz
  have HGet : Hid (∀ (id : St) (W : World), Below w.heap.size w W → Calls Tryz.prog 30 #[.pointer (some a), .agg #[.int .i64 id.1, .int .i64 id.2]] W fun e w' => e = .returned (.tuple #[.agg (inoA ((getG g id).getD noIno)), .bool (getG g id).isSome]) ∧ Below W.heap.size W w') := fun id W hW => get_code a S g id W (h.keep fun i hi => hW.block i (h.lt i hi)) hg
  have HLk : Hid (∀ W : World, Below w.heap.size w W → Calls Tryz.prog 29 #[.pointer (some a), .agg #[.int .i64 x.dir.1, .int .i64 x.dir.2], .string x.name] W fun e w' => e = .returned (.tuple #[.agg (stA ((lookE g.E x.dir x.name).getD (0, 0))), .bool (lookE g.E x.dir x.name).isSome]) ∧ Below W.heap.size W w') := fun W hW => look_code a S g x.dir x.name W (h.keep fun i hi => hW.block i (h.lt i hi))
  have HUn : Hid (∀ W : World, Below w.heap.size w W → Calls Tryz.prog 116 #[.pointer (some a), .agg #[.int .i64 x.dir.1, .int .i64 x.dir.2], .agg #[.int .i64 x.ino.1, .int .i64 x.ino.2]] W fun e w' => e = .returned (.bool (underG g x.dir x.ino)) ∧ Below W.heap.size W w') := fun W hW => under_code a S g x.dir x.ino W (h.keep fun i hi => hW.block i (h.lt i hi)) hg
  have HRt : Hid (∀ W : World, Calls Tryz.prog 35 #[] W fun e w' => e = .returned (.agg #[.int .i64 0, .int .i64 0]) ∧ Below W.heap.size W w') := root_any
  clear h
  obtain ⟨dir, nm, ino⟩ := x
  have hb0 : Below w.heap.size w (w.alloc (.cells (entA ⟨dir, nm, ino⟩) 93)) := (Below.refl _ _).alloc (Nat.le_refl _) _
  have he0 := heap_alloc_new w (.cells (entA ⟨dir, nm, ino⟩) 93)
  unfold entA
  cases b with
  | false =>
    have hw : Hid (whyG false g ⟨dir, nm, ino⟩ = 1) := by unfold whyG; exact if_pos rfl
    go_enter Tryz.func120, Tryz.ntmps120
    go_wp2_with fail
    refine (HN.out _).mono ?_
    rintro e w1 ⟨rfl, rfl⟩
    go_wp2_with fail
    go_ret
    exact ⟨by rw [hw.out]; rfl, hb0⟩
  | true =>
    go_enter Tryz.func120, Tryz.ntmps120
    go_wp2_with fail
    refine (HN.out _).mono ?_
    rintro e w1 ⟨rfl, rfl⟩
    have hW0 : ∃ W0, W0 = w.alloc (.cells (entA ⟨dir, nm, ino⟩) 93) := ⟨_, rfl⟩
    obtain ⟨W0, hW0⟩ := hW0
    have hW0' : w.alloc (.cells #[.int .i64 dir.1, .int .i64 dir.2, .string nm, .int .i64 ino.1, .int .i64 ino.2] 93) = W0 := hW0.symm
    rw [hW0']
    rw [← hW0] at he0 hb0
    clear hW0 hW0'
    obtain ⟨A, hA⟩ : ∃ A, A = (getG g dir).getD noIno := ⟨_, rfl⟩
    obtain ⟨ia, hia⟩ : ∃ ia, ia = (getG g dir).isSome := ⟨_, rfl⟩
    obtain ⟨X, hX⟩ : ∃ X, X = (getG g ino).getD noIno := ⟨_, rfl⟩
    obtain ⟨ix, hix⟩ : ∃ ix, ix = (getG g ino).isSome := ⟨_, rfl⟩
    have HA : Hid (∀ W : World, Below w.heap.size w W → Calls Tryz.prog 30 #[.pointer (some a), .agg #[.int .i64 dir.1, .int .i64 dir.2]] W fun e w' => e = .returned (.tuple #[.agg #[.int .i64 A.id.1, .int .i64 A.id.2, .int .i64 A.kind, .int .i64 A.links, .int .i64 A.mode, .string A.data], .bool ia]) ∧ Below W.heap.size W w') := by rw [hA, hia]; exact HGet.out dir
    have HX : Hid (∀ W : World, Below w.heap.size w W → Calls Tryz.prog 30 #[.pointer (some a), .agg #[.int .i64 ino.1, .int .i64 ino.2]] W fun e w' => e = .returned (.tuple #[.agg #[.int .i64 X.id.1, .int .i64 X.id.2, .int .i64 X.kind, .int .i64 X.links, .int .i64 X.mode, .string X.data], .bool ix]) ∧ Below W.heap.size W w') := by rw [hX, hix]; exact HGet.out ino
    have HFl : Hid (∀ W : World, Calls Tryz.prog 157 #[.agg #[.int .i64 X.id.1, .int .i64 X.id.2, .int .i64 X.kind, .int .i64 X.links, .int .i64 X.mode, .string X.data]] W fun e w' => e = .returned (.bool (fullB X)) ∧ Below W.heap.size W w') := fun W => full_code X W
    have HNo : Hid (ia = false ∨ ix = false → whyG true g ⟨dir, nm, ino⟩ = 3) := fun q => why_none (by rw [← hia, ← hix]; exact q)
    have HWh : Hid (ia = true → ix = true → whyG true g ⟨dir, nm, ino⟩ = if A.kind ≠ 1 then 6 else if (lookE g.E dir nm).isSome then 4 else if ino = (0, 0) ∨ underG g dir ino = true then 8 else if fullB X = true then 12 else 0) := fun q1 q2 => by
      rw [hia] at q1
      rw [hix] at q2
      refine why_asked hg ?_ ?_
      · rw [hA]
        cases h2 : getG g dir with
        | none => rw [h2] at q1; cases q1
        | some _ => rfl
      · rw [hX]
        cases h2 : getG g ino with
        | none => rw [h2] at q2; cases q2
        | some _ => rfl
    clear hA hia hX hix HGet
    obtain ⟨e0, e1, e2, e3, e4⟩ := ent_cells he0
    go_wp2_with fail
    refine (HA.out _ hb0).mono ?_
    rintro e w1 ⟨rfl, hb1⟩
    go_upto_region 4 with fail
    change Code.wp _ _ _ _ (w1.alloc (.cells (inoA A) 54))
    obtain ⟨u1, hu1⟩ : ∃ u, u = w1.heap.size := ⟨_, rfl⟩
    have hq0 := (hb1.block _ (heap_lt he0)).trans he0
    have hlow1 : w.heap.size < u1 := by rw [hu1]; exact heap_lt hq0
    have r0 := (heap_alloc_old w1 (.cells (inoA A) 54) (by omega)).trans hq0
    have r1 : (w1.alloc (.cells (inoA A) 54)).heap[u1]? = some (.cells (inoA A) 54 (0, 0)) := by rw [hu1]; exact heap_alloc_new _ _
    have hb2 := (below_step hb0 hb1).alloc (below_step hb0 hb1).size (.cells (inoA A) 54)
    rw [← hu1]
    generalize w1.alloc (.cells (inoA A) 54) = w2 at r0 r1 hb2 ⊢
    clear hq0 hb0 hb1 hu1 he0 e0 e1 e2 e3 e4
    obtain ⟨e0, e1, e2, e3, e4⟩ := ent_cells r0
    go_wp2_with fail
    refine (HX.out _ hb2).mono ?_
    rintro e w3 ⟨rfl, hb3⟩
    go_upto_region 5 with fail
    change Code.wp _ _ _ _ (w3.alloc (.cells (inoA X) 54))
    obtain ⟨u2, hu2⟩ : ∃ u, u = w3.heap.size := ⟨_, rfl⟩
    have q0 := (hb3.block _ (heap_lt r0)).trans r0
    have q1 := (hb3.block _ (heap_lt r1)).trans r1
    have hlow2 : u1 < u2 := by rw [hu2]; exact heap_lt q1
    have s0 := (heap_alloc_old w3 (.cells (inoA X) 54) (by omega)).trans q0
    have s1 := (heap_alloc_old w3 (.cells (inoA X) 54) (by omega)).trans q1
    have s2 : (w3.alloc (.cells (inoA X) 54)).heap[u2]? = some (.cells (inoA X) 54 (0, 0)) := by rw [hu2]; exact heap_alloc_new _ _
    have hb4 := (below_step hb2 hb3).alloc (below_step hb2 hb3).size (.cells (inoA X) 54)
    rw [← hu2]
    generalize w3.alloc (.cells (inoA X) 54) = w4 at s0 s1 s2 hb4 ⊢
    clear q0 q1 hb2 hb3 hu2 r0 r1 e0 e1 e2 e3 e4 HA HX
    obtain ⟨e0, e1, e2, e3, e4⟩ := ent_cells s0
    have a2 := (ino_cells s1).2.2.1
    have hcase : (ia = false ∨ (ia = true ∧ ix = false)) ∨ (ia = true ∧ ix = true) := by cases ia <;> cases ix <;> simp
    rcases hcase with hcase | ⟨rfl, rfl⟩
    · have hw : Hid (whyG true g ⟨dir, nm, ino⟩ = 3) := HNo.out (by rcases hcase with h | ⟨_, h⟩ <;> simp [h])
      rcases hcase with rfl | ⟨rfl, rfl⟩
      all_goals
        go_wp2_with fail
        go_ret
        exact ⟨by rw [hw.out]; rfl, hb4⟩
    · have hwhy := HWh.out rfl rfl
      by_cases hak : A.kind = 1
      · rw [if_neg (by simp [hak])] at hwhy
        have hak' : (A.kind != 1) = false := by simp [hak]
        obtain ⟨lk, hlk⟩ : ∃ lk, lk = (lookE g.E dir nm).isSome := ⟨_, rfl⟩
        obtain ⟨lv, hlv⟩ : ∃ lv, lv = (lookE g.E dir nm).getD (0, 0) := ⟨_, rfl⟩
        have HL : Hid (∀ W : World, Below w.heap.size w W → Calls Tryz.prog 29 #[.pointer (some a), .agg #[.int .i64 dir.1, .int .i64 dir.2], .string nm] W fun e w' => e = .returned (.tuple #[.agg #[.int .i64 lv.1, .int .i64 lv.2], .bool lk]) ∧ Below W.heap.size W w') := by rw [hlk, hlv]; exact HLk.out
        rw [← hlk] at hwhy
        have HW2 := Lib.hid hwhy
        clear hlk hlv hwhy HLk HWh HNo hak
        go_wp2_with fail
        refine (HL.out _ hb4).mono ?_
        rintro e w5 ⟨rfl, hb5⟩
        go_upto_region 10 with fail
        change Code.wp _ _ _ _ (w5.alloc (.cells #[.int .i64 lv.1, .int .i64 lv.2] 35))
        obtain ⟨u3, hu3⟩ : ∃ u, u = w5.heap.size := ⟨_, rfl⟩
        have q0 := (hb5.block _ (heap_lt s0)).trans s0
        have q2 := (hb5.block _ (heap_lt s2)).trans s2
        have hlow3 : u2 < u3 := by rw [hu3]; exact heap_lt q2
        have t0 := (heap_alloc_old w5 (.cells #[.int .i64 lv.1, .int .i64 lv.2] 35) (by omega)).trans q0
        have t2 := (heap_alloc_old w5 (.cells #[.int .i64 lv.1, .int .i64 lv.2] 35) (by omega)).trans q2
        have hb6 := (below_step hb4 hb5).alloc (below_step hb4 hb5).size (.cells #[.int .i64 lv.1, .int .i64 lv.2] 35)
        rw [← hu3]
        generalize w5.alloc (.cells #[.int .i64 lv.1, .int .i64 lv.2] 35) = w6 at t0 t2 hb6 ⊢
        clear q0 q2 hb4 hb5 hu3 s0 s1 s2 e0 e1 e2 e3 e4 a2 HL
        obtain ⟨e0, e1, e2, e3, e4⟩ := ent_cells t0
        cases lk with
        | true =>
          have hw : Hid (whyG true g ⟨dir, nm, ino⟩ = 4) := HW2.out.trans (if_pos rfl)
          go_wp2_with fail
          go_ret
          exact ⟨by rw [hw.out]; rfl, hb6⟩
        | false =>
          have hwhy3 : whyG true g ⟨dir, nm, ino⟩ = if ino = (0, 0) ∨ underG g dir ino = true then 8 else if fullB X = true then 12 else 0 := HW2.out.trans (if_neg (by simp))
          obtain ⟨un, hun⟩ : ∃ un, un = underG g dir ino := ⟨_, rfl⟩
          obtain ⟨fl, hfl⟩ : ∃ fl, fl = fullB X := ⟨_, rfl⟩
          have HU : Hid (∀ W : World, Below w.heap.size w W → Calls Tryz.prog 116 #[.pointer (some a), .agg #[.int .i64 dir.1, .int .i64 dir.2], .agg #[.int .i64 ino.1, .int .i64 ino.2]] W fun e w' => e = .returned (.bool un) ∧ Below W.heap.size W w') := by rw [hun]; exact HUn.out
          rw [← hun, ← hfl] at hwhy3
          rw [← hfl] at HFl
          have HW3 := Lib.hid hwhy3
          have HB6 := Lib.hid hb6
          have HT2 := Lib.hid t2
          have HT0 := Lib.hid t0
          have HRl : Hid (∀ y, Calls Tryz.prog 35 #[] (later w6 y) fun e w' => e = .returned (.agg #[.int .i64 0, .int .i64 0]) ∧ Below (later w6 y).heap.size (later w6 y) w') := fun y => HRt.out _
          have HUl : Hid (∀ y, Calls Tryz.prog 116 #[.pointer (some a), .agg #[.int .i64 dir.1, .int .i64 dir.2], .agg #[.int .i64 ino.1, .int .i64 ino.2]] (later w6 y) fun e w' => e = .returned (.bool un) ∧ Below (later w6 y).heap.size (later w6 y) w') := fun y => HU.out _ (below_step HB6.out (later_below w6 y))
          clear hun hfl hwhy3 HUn HW2 HU HRt
          by_cases hz : ino = (0, 0)
          · have hw : Hid (whyG true g ⟨dir, nm, ino⟩ = 8) := HW3.out.trans (if_pos (Or.inl hz))
            have hv : ∀ W : World, (Op.equalIn 10000 35 (.agg #[.int .i64 ino.1, .int .i64 ino.2]) (.agg #[.int .i64 0, .int .i64 0])).run Tryz.prog W = .ok true W := fun W => by rw [run_eqSt, decide_eq_true (show ((ino.1, ino.2) : St) = (0, 0) from hz)]
            clear hz
            have c0 := later_cell e0
            have c1 := later_cell e1
            have c3 := later_cell e3
            have c4 := later_cell e4
            clear e0 e1 e2 e3 e4
            go_upto_region 12 with fail
            refine wp_region_later (by kernel_rfl) (by kernel_rfl) ?_
            repeat (go_big_quiet_step (first | (with_reducible exact later_call (HRl.out _)) | (with_reducible exact later_call (HUl.out _))))
            refine wpQuiet_nil ?_
            intro _ hw'
            obtain ⟨y, rfl⟩ := hw'
            clear c0 c1 c3 c4
            go_wp2_with fail
            go_ret
            exact ⟨by rw [hw.out]; rfl, below_step HB6.out (later_below w6 y)⟩
          · have hv : ∀ W : World, (Op.equalIn 10000 35 (.agg #[.int .i64 ino.1, .int .i64 ino.2]) (.agg #[.int .i64 0, .int .i64 0])).run Tryz.prog W = .ok false W := fun W => by rw [run_eqSt, decide_eq_false (show ¬ ((ino.1, ino.2) : St) = (0, 0) from hz)]
            have hz' := Lib.hid hz
            clear hz
            cases un with
            | true =>
              have hw : Hid (whyG true g ⟨dir, nm, ino⟩ = 8) := HW3.out.trans (if_pos (Or.inr rfl))
              have c0 := later_cell e0
              have c1 := later_cell e1
              have c3 := later_cell e3
              have c4 := later_cell e4
              clear e0 e1 e2 e3 e4
              go_upto_region 12 with fail
              refine wp_region_later (by kernel_rfl) (by kernel_rfl) ?_
              repeat (go_big_quiet_step (first | (with_reducible exact later_call (HRl.out _)) | (with_reducible exact later_call (HUl.out _))))
              refine wpQuiet_nil ?_
              intro _ hw'
              obtain ⟨y, rfl⟩ := hw'
              clear c0 c1 c3 c4
              go_wp2_with fail
              go_ret
              exact ⟨by rw [hw.out]; rfl, below_step HB6.out (later_below w6 y)⟩
            | false =>
              have hwhy4 : Hid (whyG true g ⟨dir, nm, ino⟩ = if fl = true then 12 else 0) := HW3.out.trans (if_neg fun q => q.elim hz'.out (by simp))
              have c0 := later_cell e0
              have c1 := later_cell e1
              have c3 := later_cell e3
              have c4 := later_cell e4
              clear e0 e1 e2 e3 e4
              go_upto_region 12 with fail
              refine wp_region_later (by kernel_rfl) (by kernel_rfl) ?_
              repeat (go_big_quiet_step (first | (with_reducible exact later_call (HRl.out _)) | (with_reducible exact later_call (HUl.out _))))
              refine wpQuiet_nil ?_
              intro _ hw'
              obtain ⟨y, rfl⟩ := hw'
              clear c0 c1 c3 c4
              have hb9 := later_below w6 y
              have t2 := (hb9.block _ (heap_lt HT2.out)).trans HT2.out
              have hb10 := below_step HB6.out hb9
              obtain ⟨y0, y1, y2, y3, y4, y5⟩ := ino_cells t2
              clear t2 hb9
              cases fl with
              | true =>
                have hw : Hid (whyG true g ⟨dir, nm, ino⟩ = 12) := hwhy4.out.trans (if_pos rfl)
                go_wp2_with fail
                refine (HFl.out _).mono ?_
                rintro e w11 ⟨rfl, hb11⟩
                go_wp2_with fail
                go_ret
                exact ⟨by rw [hw.out]; rfl, below_step hb10 hb11⟩
              | false =>
                have hw : Hid (whyG true g ⟨dir, nm, ino⟩ = 0) := hwhy4.out.trans (if_neg (by simp))
                go_wp2_with fail
                refine (HFl.out _).mono ?_
                rintro e w11 ⟨rfl, hb11⟩
                go_wp2_with fail
                go_ret
                exact ⟨by rw [hw.out]; rfl, below_step hb10 hb11⟩
      · rw [if_pos hak] at hwhy
        have hw := Lib.hid hwhy
        have hak' : (A.kind != 1) = true := by simp [hak]
        clear hwhy hak
        go_wp2_with fail
        go_ret
        exact ⟨by rw [hw.out]; rfl, hb4⟩

end Go.Proofs.YtlhdbccemgofjaaGreatDoor

/-
  The landed graph's Tie.
-/
namespace Go.Proofs.YtlhdbccemgofjaaGreatDoor
open Go.RowKit StampMath GraphMath OpMath

set_option maxRecDepth 100000 in
set_option maxHeartbeats 1600000 in
theorem tie_code (a : Addr) (S : Nat → Prop) (g : Gr) (x : Ent) (w : World) (h : GIn w S a g) (hg : g.ok) (hsz : x.name.size ≤ maxLen) :
    Calls Tryz.prog 71 #[.pointer (some a), .agg (entA x)] w fun e w' => e = .returned (.int .i64 (tieG (nameB x.name) g x).2) ∧ GIn w' S a (tieG (nameB x.name) g x).1 ∧ But S w w' := by
  obtain ⟨why, hwhy⟩ : ∃ why, why = whyG (nameB x.name) g x := ⟨_, rfl⟩
  have HM : Hid (∀ W : World, Below w.heap.size w W → Calls Tryz.prog 120 #[.pointer (some a), .agg #[.int .i64 x.dir.1, .int .i64 x.dir.2, .string x.name, .int .i64 x.ino.1, .int .i64 x.ino.2]] W fun e w' => e = .returned (.int .i64 why) ∧ Below W.heap.size W w') := fun W hW => by
    rw [hwhy]
    exact mayTie_code a S g x W (h.keep fun i hi => hW.block i (h.lt i hi)) hg hsz
  have hG := Lib.hid h
  have hb0 : Below w.heap.size w (w.alloc (.cells (entA x) 93)) := (Below.refl _ _).alloc (Nat.le_refl _) _
  have he0 := heap_alloc_new w (.cells (entA x) 93)
  by_cases hw : why = 0
  · have htie : tieG (nameB x.name) g x = (⟨g.I, putIn (fun a => aheadE a x) g.E x⟩, 0) := by unfold tieG; rw [if_pos (by rw [← hwhy]; exact hw)]
    have h0 : (tieG (nameB x.name) g x).2 = 0 := by rw [htie]
    have hok := hg.tie (nameB x.name) x
    obtain ⟨X, hX⟩ : ∃ X, getG g x.ino = some X := by
      have : ¬ getG g x.ino = none := fun q => by
        have h1 : whyG (nameB x.name) g x = 0 := by rw [← hwhy]; exact hw
        unfold whyG at h1
        rw [q] at h1
        cases hn : nameB x.name with
        | false => rw [hn] at h1; simp at h1
        | true =>
          rw [hn] at h1
          cases hd : getG g x.dir with
          | none => rw [hd] at h1; simp at h1
          | some _ => rw [hd] at h1; simp at h1
      cases hq : getG g x.ino with
      | none => exact absurd hq this
      | some y => exact ⟨y, rfl⟩
    have hwr : wrap64 (X.links + 1) = X.links + 1 := by
      have h6 := hg.six x.ino
      obtain ⟨y, _, _, hy⟩ := get_some hX
      have h7 : X.links = (linksE g.E x.ino : Int) := by rw [hy]
      unfold wrap64
      omega
    have HG : Hid (tieG (nameB x.name) g x).1.ok := hok
    have HT0 := Lib.hid htie
    have HH0 := Lib.hid h0
    have HX := Lib.hid hX
    have HR := Lib.hid hwr
    obtain ⟨b, bi, be, rfl, h1, h2, h3, hb, hi, he, hS⟩ := h
    obtain ⟨d0, d1⟩ := two_cells hb
    have hlt := heap_lt hb
    have HI := Lib.hid hi
    have HE := Lib.hid he
    have HS := Lib.hid hS
    have HBlk := Lib.hid hb
    have hw0 : (why == 0) = true := beq_iff_eq.2 hw
    have HC : Hid (∀ W : World, W.heap[b]? = some (.cells #[.map (some bi), .map (some be)] 68 (0, 0)) → KMap stV inoV W bi (pairsI g) → Calls Tryz.prog 61 #[.pointer (some ⟨b, 0, none⟩), .agg #[.int .i64 x.ino.1, .int .i64 x.ino.2], .int .i64 1] W fun e w' => e = .returned (.tuple #[]) ∧ KMap stV inoV w' bi ((x.ino, { X with links := X.links + 1 }) :: offL (pairsI g) x.ino) ∧ But (fun i => i = bi) W w') := fun W hb hi => count_code b bi be (pairsI g) x.ino 1 X W hb hi (by rw [look_pairsI hg]; exact hX) hwr
    clear hi he hS hb hX hwr htie h0 hok hw hwhy d0
    obtain ⟨dir, nm, ino⟩ := x
    unfold entA
    go_enter Tryz.func71, Tryz.ntmps71
    go_upto_region 1 with fail
    change Code.wp _ _ _ _ (w.alloc (.cells (entA ⟨dir, nm, ino⟩) 93))
    generalize w.alloc (.cells (entA ⟨dir, nm, ino⟩) 93) = w1 at he0 hb0 ⊢
    obtain ⟨e0, e1, e2, e3, e4⟩ := ent_cells he0
    go_wp2_with fail
    refine (HM.out _ hb0).mono ?_
    rintro e w2 ⟨rfl, hb2⟩
    have he2 := (hb2.block _ (heap_lt he0)).trans he0
    have hb3 := below_step hb0 hb2
    clear he0 hb0 hb2 e0 e1 e2 e3 e4 HM
    obtain ⟨e0, e1, e2, e3, e4⟩ := ent_cells he2
    have d1w := (hb3.cell (p := ⟨b, 1, none⟩) hlt).trans d1
    obtain ⟨w3, hrun, hm3, hbut3, hsz3⟩ := (HE.out.kept (hb3.drew.block be HE.out.lt)).store plShape Tryz.underlying66 (dir, nm) ino
    simp only [stV, stA, plV] at hrun
    have HM3 := Lib.hid hm3
    have HU3 := Lib.hid hbut3
    have HB3 := Lib.hid hb3
    have HE2 := Lib.hid he2
    have hilt := HI.out.lt
    have helt := HE.out.lt
    clear hm3 hbut3 hb3 he2
    go_upto_region 4 with fail
    go_region
    clear hrun e0 e1 e2 e3 e4 d1w
    have hb4 : But (fun i => i = be) w w3 := (But.of_below HB3.out.drew).trans HU3.out fun i hi _ => hi
    have z0 : w3.heap[w.heap.size]? = some (.cells (entA ⟨dir, nm, ino⟩) 93 (0, 0)) := HU3.out.heap (a := w2.drew) HE2.out (fun q => by omega)
    have hblk := hb4.heap HBlk.out (fun q => h2 q)
    have hi3 : KMap stV inoV w3 bi (pairsI g) := HI.out.kept (hb4.block bi hilt fun q => h3 q)
    have HB4 := Lib.hid hb4
    obtain ⟨e0, e1, e2, e3, e4⟩ := ent_cells z0
    have hs4 := hb4.size
    clear hb4 z0
    go_wp2_with fail
    refine (HC.out _ hblk hi3).mono ?_
    rintro e w4 ⟨rfl, hm4, hb5⟩
    clear e0 e1 e2 e3 e4
    go_wp2_with fail
    go_ret
    have hb6 : But (fun i => i = bi ∨ i = be) w w4 := (HB4.out.mono (T := fun i => i = bi ∨ i = be) fun i hi => Or.inr hi).trans hb5 fun i hi _ => Or.inl hi
    refine ⟨by rw [HH0.out]; rfl, ⟨b, bi, be, rfl, h1, h2, h3, ?_, ?_, ?_, HS.out⟩, hb6.mono fun i hi => (HS.out i).2 (Or.inr hi)⟩
    · exact hb6.heap HBlk.out (fun q => q.elim h1 h2)
    · refine hm4.perm (put_perm (keys_pairsI hg) (keys_pairsI HG.out) (x := ino) (v := { X with links := X.links + 1 }) fun k => ?_)
      rw [look_pairsI HG.out, look_pairsI hg, tie_get HH0.out]
      by_cases hk : k = ino
      · rw [if_pos hk, hk, HX.out]
        simp
      · rw [if_neg hk]
        cases getG g k <;> simp [hk]
    · refine KMap.perm ?_ (put_perm (keys_pairsE hg) (keys_pairsE HG.out) fun p => ?_) (L := ((dir, nm), ino) :: offL (pairsE g) (dir, nm))
      · exact HM3.out.kept (hb5.block be (by omega) fun q => h3 q.symm)
      · rw [tie_look hg HH0.out]
  · have htie : tieG (nameB x.name) g x = (g, why) := by unfold tieG; rw [← hwhy, if_neg hw]
    rw [htie]
    have hw0 : (why == 0) = false := beq_eq_false_iff_ne.2 hw
    clear htie hwhy hw h
    obtain ⟨dir, nm, ino⟩ := x
    unfold entA
    go_enter Tryz.func71, Tryz.ntmps71
    go_upto_region 1 with fail
    change Code.wp _ _ _ _ (w.alloc (.cells (entA ⟨dir, nm, ino⟩) 93))
    generalize w.alloc (.cells (entA ⟨dir, nm, ino⟩) 93) = w1 at he0 hb0 ⊢
    obtain ⟨e0, e1, e2, e3, e4⟩ := ent_cells he0
    go_wp2_with fail
    refine (HM.out _ hb0).mono ?_
    rintro e w2 ⟨rfl, hb2⟩
    have hb3 := below_step hb0 hb2
    clear he0 hb0 hb2 e0 e1 e2 e3 e4 HM
    go_wp2_with fail
    go_ret
    exact ⟨rfl, hG.out.keep fun i hi => hb3.block i (hG.out.lt i hi), But.of_below hb3⟩

end Go.Proofs.YtlhdbccemgofjaaGreatDoor

/-
  maps.Clone: another map that holds the same.
-/
namespace Go.Proofs.YtlhdbccemgofjaaGreatDoor
open Go.RowKit Go.Shelf

theorem KMap.clone {P : Program} {ρ : Ren} (L : SlLaysW.n5 P ρ) {K V : Type} {ek : K → Value} {ev : V → Value} {w : World} {b : Nat} {l : List (K × V)} (h : KMap ek ev w b l) :
    Calls P (ρ.f 5) #[.map (some b)] w fun e w' => e = .returned (.map (some w.heap.size)) ∧ KMap ek ev w' w.heap.size l ∧ Below w.heap.size w w' ∧ w'.heap.size = w.heap.size + 1 := by
  obtain ⟨es, clock, M, h1, h2, h3, h4⟩ := h
  refine (AnyW.maps_Clone L b es clock w h1).mono ?_
  rintro e w' ⟨rfl, rfl⟩
  exact ⟨rfl, ⟨es, clock, M, heap_alloc_new w _, h2, h3, h4⟩, (Below.refl _ _).alloc (Nat.le_refl _) _, by simp⟩

end Go.Proofs.YtlhdbccemgofjaaGreatDoor

/-
  The landed graph's Copy: two maps cloned.
-/
namespace Go.Proofs.YtlhdbccemgofjaaGreatDoor
open Go.RowKit StampMath GraphMath

theorem cloneI_code (b : Nat) (L : List (St × Ino)) (w : World) (h : KMap stV inoV w b L) :
    Calls Tryz.prog 55 #[.map (some b)] w fun e w' => e = .returned (.map (some w.heap.size)) ∧ KMap stV inoV w' w.heap.size L ∧ Below w.heap.size w w' ∧ w'.heap.size = w.heap.size + 1 :=
  h.clone Tryz.cloneIno

theorem cloneE_code (b : Nat) (L : List ((St × ByteArray) × St)) (w : World) (h : KMap plV stV w b L) :
    Calls Tryz.prog 56 #[.map (some b)] w fun e w' => e = .returned (.map (some w.heap.size)) ∧ KMap plV stV w' w.heap.size L ∧ Below w.heap.size w w' ∧ w'.heap.size = w.heap.size + 1 :=
  h.clone Tryz.cloneEnt

set_option maxRecDepth 100000 in
set_option maxHeartbeats 1600000 in
theorem copy_code (a : Addr) (S : Nat → Prop) (g : Gr) (w : World) (h : GIn w S a g) :
    Calls Tryz.prog 25 #[.pointer (some a)] w fun e w' => ∃ b T, e = .returned (.pointer (some b)) ∧ GIn w' T b g ∧ (∀ i, T i → w.heap.size ≤ i) ∧ Below w.heap.size w w' := by
  obtain ⟨b, bi, be, rfl, h1, h2, h3, hb, hi, he, hS⟩ := h
  obtain ⟨d0, d1⟩ := two_cells hb
  have hlt := heap_lt hb
  have HI : Hid (∀ W : World, Below w.heap.size w W → Calls Tryz.prog 55 #[.map (some bi)] W fun e w' => e = .returned (.map (some W.heap.size)) ∧ KMap stV inoV w' W.heap.size (pairsI g) ∧ Below W.heap.size W w' ∧ w'.heap.size = W.heap.size + 1) := fun W hW => cloneI_code bi _ W (hi.kept (hW.block bi hi.lt))
  have HE : Hid (∀ W : World, Below w.heap.size w W → Calls Tryz.prog 56 #[.map (some be)] W fun e w' => e = .returned (.map (some W.heap.size)) ∧ KMap plV stV w' W.heap.size (pairsE g) ∧ Below W.heap.size W w' ∧ w'.heap.size = W.heap.size + 1) := fun W hW => cloneE_code be _ W (he.kept (hW.block be he.lt))
  clear hi he hS hb
  go_enter Tryz.func25, Tryz.ntmps25
  go_wp2_with fail
  go_region_with (first
    | (go_at_call 55; (with_reducible refine (HI.out _ (by repeat (first | exact Below.refl _ _ | assumption | apply Below.drew | refine below_step ?_ (by assumption)))).mono ?_); rintro z w1 ⟨rfl, hm1, hb1, hs1⟩; have HM1 := Lib.hid hm1; have HS1 := Lib.hid hs1; clear hm1 hs1; have d0 := cell_later hb1 d0; have d1 := cell_later hb1 d1)
    | (go_at_call 56; (with_reducible refine (HE.out _ (by repeat (first | exact Below.refl _ _ | assumption | apply Below.drew | refine below_step ?_ (by assumption)))).mono ?_); rintro z w2 ⟨rfl, hm2, hb2, hs2⟩; have HM2 := Lib.hid hm2; have HS2 := Lib.hid hs2; clear hm2 hs2; have d0 := cell_later hb2 d0; have d1 := cell_later hb2 d1))
  all_goals
    go_wp2_with fail
    go_ret
    have e1 : w1.heap.size = w.heap.size + 1 := HS1.out
    have e2 : w2.heap.size = w1.heap.size + 1 := HS2.out
    have hb3 : Below w.heap.size w w2 := below_step (below_step (Below.refl w.heap.size w).drew hb1) hb2
    refine ⟨⟨w2.heap.size, 0, none⟩, fun i => i = w2.heap.size ∨ i = w.heap.size ∨ i = w1.heap.size, rfl, ⟨w2.heap.size, w.heap.size, w1.heap.size, rfl, by omega, by omega, by omega, heap_alloc_new _ _, ?_, ?_, fun i => Iff.rfl⟩, fun i hi => by omega, hb3.alloc hb3.size _⟩
    · have hk : KMap stV inoV w1 w.heap.size (pairsI g) := HM1.out
      exact (hk.kept (hb2.block _ (by omega))).kept (heap_alloc_old _ _ (by omega))
    · exact HM2.out.kept (heap_alloc_old _ _ (by omega))

end Go.Proofs.YtlhdbccemgofjaaGreatDoor

/-
  The landed graph: what is asked of a nil graph; all contracts in one.
-/
namespace Go.Proofs.YtlhdbccemgofjaaGreatDoor
open Go.RowKit StampMath GraphMath OpMath

set_option maxRecDepth 100000 in
theorem nil_get (id : St) (w : World) : Calls Tryz.prog 30 #[.pointer none, .agg (stA id)] w fun e w' => e = .returned (.tuple #[.agg (inoA noIno), .bool false]) ∧ Below w.heap.size w w' := by
  unfold stA
  go_enter Tryz.func30, Tryz.ntmps30
  go_wp2_with fail
  exact bodyPost_ret (v := .tuple #[.agg (inoA noIno), .bool false]) (by simp [results, Tryz.results30, go_sem, inoA, noIno]) rfl ⟨rfl, by
    repeat (first | exact Below.refl _ _ | apply Below.drew | refine Below.alloc ?_ (by simp <;> omega) _)⟩

set_option maxRecDepth 100000 in
theorem nil_look (d : St) (nm : ByteArray) (w : World) : Calls Tryz.prog 29 #[.pointer none, .agg (stA d), .string nm] w fun e w' => e = .returned (.tuple #[.agg (stA (0, 0)), .bool false]) ∧ Below w.heap.size w w' := by
  unfold stA
  go_enter Tryz.func29, Tryz.ntmps29
  go_wp2_with fail
  exact bodyPost_ret (v := .tuple #[.agg (stA (0, 0)), .bool false]) (by simp [results, Tryz.results29, go_sem, stA]) rfl ⟨rfl, by
    repeat (first | exact Below.refl _ _ | apply Below.drew | refine Below.alloc ?_ (by simp <;> omega) _)⟩

theorem nil_inodes (w : World) : Calls Tryz.prog 19 #[.pointer none] w (InosNew [] w) := by
  go_enter Tryz.func19, Tryz.ntmps19
  go_wp2_with fail
  go_ret
  exact ⟨_, rfl, World.ownsRow_nil _ _ _ _, Below.refl _ _⟩

theorem nil_sorted (w : World) : Calls Tryz.prog 52 #[.pointer none, .func (.func 53) #[] #[]] w (EntsNew [] w) := by
  go_enter Tryz.func52, Tryz.ntmps52
  go_wp2_with fail
  go_ret
  exact ⟨_, rfl, World.ownsRow_nil _ _ _ _, Below.refl _ _⟩

theorem nil_entries (w : World) : Calls Tryz.prog 22 #[.pointer none] w (EntsNew [] w) := by
  have HS := Lib.hid (nil_sorted w)
  go_enter Tryz.func22, Tryz.ntmps22
  go_wp2_with fail
  refine (HS.out).mono ?_
  rintro e w1 ⟨v, rfl, hown, hb⟩
  go_wp2_with fail
  go_ret
  exact ⟨v, rfl, hown, hb⟩

theorem nil_copy (w : World) : Calls Tryz.prog 25 #[.pointer none] w fun e w' => e = .returned (.pointer none) ∧ Below w.heap.size w w' := by
  go_enter Tryz.func25, Tryz.ntmps25
  go_wp2_with fail
  go_ret
  exact ⟨rfl, Below.refl _ _⟩

theorem nil_make (w : World) : Calls Tryz.prog 118 #[.pointer none, .agg (stA (1, 0)), .int .i64 1] w fun e w' => e = .returned (.int .i64 3) ∧ Below w.heap.size w w' := by
  have HM : Hid (∀ W : World, Calls Tryz.prog 108 #[.agg #[.int .i64 1, .int .i64 0]] W fun e w' => e = .returned (.bool true) ∧ Below W.heap.size W w') := fun W => may_any 1 0 W
  have HR : Hid (∀ W : World, Calls Tryz.prog 35 #[] W fun e w' => e = .returned (.agg #[.int .i64 0, .int .i64 0]) ∧ Below W.heap.size W w') := root_any
  have HG : Hid (∀ W : World, Calls Tryz.prog 30 #[.pointer none, .agg #[.int .i64 0, .int .i64 0]] W fun e w' => e = .returned (.tuple #[.agg #[.int .i64 0, .int .i64 0, .int .i64 0, .int .i64 0, .int .i64 0, .string ⟨#[]⟩], .bool false]) ∧ Below W.heap.size W w') := fun W => nil_get (0, 0) W
  unfold stA
  go_enter Tryz.func118, Tryz.ntmps118
  go_wp2_with fail
  refine (HM.out _).mono ?_
  rintro e w1 ⟨rfl, hb1⟩
  have hb := below_step ((Below.refl w.heap.size w).alloc (Nat.le_refl _) _) hb1
  clear hb1
  go_wp2_with fail
  refine (HR.out _).mono ?_
  rintro e w2 ⟨rfl, hb2⟩
  have hb3 := below_step hb hb2
  clear hb hb2
  go_wp2_with fail
  refine (HG.out _).mono ?_
  rintro e w3 ⟨rfl, hb4⟩
  have hb5 := below_step hb3 hb4
  go_wp2_with fail
  go_ret
  exact ⟨rfl, hb5.alloc hb5.size _⟩

theorem nil_drop (id : St) (w : World) : Calls Tryz.prog 32 #[.pointer none, .agg (stA id)] w fun e w' => e = .returned (.int .i64 3) ∧ Below w.heap.size w w' := by
  have HG : Hid (∀ W : World, Calls Tryz.prog 30 #[.pointer none, .agg #[.int .i64 id.1, .int .i64 id.2]] W fun e w' => e = .returned (.tuple #[.agg #[.int .i64 0, .int .i64 0, .int .i64 0, .int .i64 0, .int .i64 0, .string ⟨#[]⟩], .bool false]) ∧ Below W.heap.size W w') := fun W => nil_get id W
  unfold stA
  go_enter Tryz.func32, Tryz.ntmps32
  go_wp2_with fail
  refine (HG.out _).mono ?_
  rintro e w1 ⟨rfl, hb1⟩
  have hb := below_step ((Below.refl w.heap.size w).alloc (Nat.le_refl _) _) hb1
  go_wp2_with fail
  go_ret
  exact ⟨rfl, hb.alloc hb.size _⟩

theorem nil_set (id : St) (w : World) : Calls Tryz.prog 119 #[.pointer none, .agg (stA id), .int .i64 1, .string ⟨#[]⟩] w fun e w' => e = .returned (.int .i64 3) ∧ Below w.heap.size w w' := by
  have HG : Hid (∀ W : World, Calls Tryz.prog 30 #[.pointer none, .agg #[.int .i64 id.1, .int .i64 id.2]] W fun e w' => e = .returned (.tuple #[.agg #[.int .i64 0, .int .i64 0, .int .i64 0, .int .i64 0, .int .i64 0, .string ⟨#[]⟩], .bool false]) ∧ Below W.heap.size W w') := fun W => nil_get id W
  unfold stA
  go_enter Tryz.func119, Tryz.ntmps119
  go_wp2_with fail
  refine (HG.out _).mono ?_
  rintro e w1 ⟨rfl, hb1⟩
  have hb := below_step ((Below.refl w.heap.size w).alloc (Nat.le_refl _) _) hb1
  go_wp2_with fail
  go_ret
  exact ⟨rfl, hb.alloc hb.size _⟩

theorem nil_mayTie (w : World) : Calls Tryz.prog 120 #[.pointer none, .agg (entA ⟨(0, 0), ⟨#[97]⟩, (0, 0)⟩)] w fun e w' => e = .returned (.int .i64 3) ∧ Below w.heap.size w w' := by
  have HN : Hid (∀ W : World, Calls Tryz.prog 109 #[.string ⟨#[97]⟩] W fun e w' => e = .returned (.bool true) ∧ W = w') := fun W => by
    have := name_any ⟨#[97]⟩ (by decide) W
    rwa [show nameB ⟨#[97]⟩ = true by decide +kernel] at this
  have HG : Hid (∀ W : World, Calls Tryz.prog 30 #[.pointer none, .agg #[.int .i64 0, .int .i64 0]] W fun e w' => e = .returned (.tuple #[.agg #[.int .i64 0, .int .i64 0, .int .i64 0, .int .i64 0, .int .i64 0, .string ⟨#[]⟩], .bool false]) ∧ Below W.heap.size W w') := fun W => nil_get (0, 0) W
  obtain ⟨nm, hnm⟩ : ∃ nm : ByteArray, nm = ⟨#[97]⟩ := ⟨_, rfl⟩
  rw [← hnm] at HN ⊢
  clear hnm
  have he0 := heap_alloc_new w (.cells (entA ⟨(0, 0), nm, (0, 0)⟩) 93)
  have hb0 : Below w.heap.size w (w.alloc (.cells (entA ⟨(0, 0), nm, (0, 0)⟩) 93)) := (Below.refl _ _).alloc (Nat.le_refl _) _
  unfold entA at he0 hb0 ⊢
  go_enter Tryz.func120, Tryz.ntmps120
  go_wp2_with fail
  refine (HN.out _).mono ?_
  rintro e w1 ⟨rfl, rfl⟩
  go_wp2_with fail
  refine (HG.out _).mono ?_
  rintro e w1 ⟨rfl, hb1⟩
  have q0 := (hb1.block _ (heap_lt he0)).trans he0
  have hb2 := below_step hb0 hb1
  have hl := heap_lt q0
  go_upto_region 4 with fail
  have r0 := (heap_alloc_old w1 (.cells #[.int .i64 0, .int .i64 0, .int .i64 0, .int .i64 0, .int .i64 0, .string ⟨#[]⟩] 54) hl).trans q0
  have hb3 := hb2.alloc hb2.size (.cells #[.int .i64 0, .int .i64 0, .int .i64 0, .int .i64 0, .int .i64 0, .string ⟨#[]⟩] 54)
  generalize w1.alloc (.cells #[.int .i64 0, .int .i64 0, .int .i64 0, .int .i64 0, .int .i64 0, .string ⟨#[]⟩] 54) = w2 at r0 hb3 ⊢
  obtain ⟨e0, e1, e2, e3, e4⟩ := ent_cells (x := ⟨(0, 0), nm, (0, 0)⟩) r0
  go_wp2_with fail
  refine (HG.out _).mono ?_
  rintro e w3 ⟨rfl, hb4⟩
  have hb5 := below_step hb3 hb4
  go_wp2_with fail
  go_ret
  exact ⟨rfl, hb5.alloc hb5.size _⟩

theorem nil_tie (w : World) : Calls Tryz.prog 71 #[.pointer none, .agg (entA ⟨(0, 0), ⟨#[97]⟩, (0, 0)⟩)] w fun e w' => e = .returned (.int .i64 3) ∧ Below w.heap.size w w' := by
  have HM0 : ∀ W : World, Calls Tryz.prog 120 #[.pointer none, .agg (entA ⟨(0, 0), ⟨#[97]⟩, (0, 0)⟩)] W fun e w' => e = .returned (.int .i64 3) ∧ Below W.heap.size W w' := nil_mayTie
  obtain ⟨nm, hnm⟩ : ∃ nm : ByteArray, nm = ⟨#[97]⟩ := ⟨_, rfl⟩
  rw [← hnm] at HM0 ⊢
  clear hnm
  have he0 := heap_alloc_new w (.cells (entA ⟨(0, 0), nm, (0, 0)⟩) 93)
  have hb0 : Below w.heap.size w (w.alloc (.cells (entA ⟨(0, 0), nm, (0, 0)⟩) 93)) := (Below.refl _ _).alloc (Nat.le_refl _) _
  obtain ⟨e0, e1, e2, e3, e4⟩ := ent_cells he0
  have HM := Lib.hid HM0
  clear HM0
  unfold entA at e0 e1 e2 e3 e4 hb0 HM ⊢
  go_enter Tryz.func71, Tryz.ntmps71
  go_wp2_with fail
  refine (HM.out _).mono ?_
  rintro e w1 ⟨rfl, hb1⟩
  have hb2 := below_step hb0 hb1
  go_wp2_with fail
  go_ret
  exact ⟨rfl, hb2⟩

noncomputable def graphHave : GraphHave where
  rep := GIn
  lt := GIn.lt
  keep := GIn.keep
  new := new_code
  get := get_code
  look := fun a S g d nm w h _ _ => look_code a S g d nm w h
  list := list_code
  inodes := inodes_code
  entries := entries_code
  parent := parent_code
  under := under_code
  make := fun a S g id kind w h hg => (make_code a S g id kind w h hg).mono fun _ _ q => ⟨S, q.1, q.2.1, fun _ hi => Or.inl hi, q.2.2⟩
  tie := fun a S g x w h hg hn => (tie_code a S g x w h hg hn).mono fun _ _ q => ⟨S, q.1, q.2.1, fun _ hi => Or.inl hi, q.2.2⟩
  untie := fun a S g d nm w h hg _ => (untie_code a S g d nm w h hg).mono fun _ _ q => ⟨S, q.1, q.2.1, fun _ hi => Or.inl hi, q.2.2⟩
  drop := fun a S g id w h hg => (drop_code a S g id w h hg).mono fun _ _ q => ⟨S, q.1, q.2.1, fun _ hi => Or.inl hi, q.2.2⟩
  set := fun a S g id mode data w h hg => (set_code a S g id mode data w h hg).mono fun _ _ q => ⟨S, q.1, q.2.1, fun _ hi => Or.inl hi, q.2.2⟩
  copy := fun a S g w h _ => copy_code a S g w h
  nilGet := nil_get
  nilLook := nil_look
  nilInodes := nil_inodes
  nilEntries := nil_entries
  nilMake := nil_make
  nilTie := nil_tie
  nilDrop := nil_drop
  nilSet := nil_set
  nilCopy := nil_copy

end Go.Proofs.YtlhdbccemgofjaaGreatDoor

/-
  The landed code of package extent: its three calls are what the mathematics says.
-/
namespace Go.Proofs.YtlhdbccemgofjaaGreatDoor
open Go.RowKit ExtentMath PackMath

/-- A row of bytes in the block g; beneath B all is as it was. -/
def ByteRow (W : World) (B : Nat) (w : World) (g : Nat) (xs : List UInt8) : Prop :=
  W.heap[g]? = some (.cells (xs.map bcell).toArray 5 (0, 0)) ∧ Below B w W ∧ B ≤ g

theorem made_bytes (n : Nat) : madeCells #[.int .u8 0] n = ((List.replicate n (0 : UInt8)).map bcell).toArray := by
  apply Array.ext
  · simp [size_madeCells]
  · intro i h1 h2
    simp [madeCells, Nat.mod_one, bcell]

theorem wpList_make_bytes {w0 w : World} {ops : Array Oper} {rest : List Oper} {o : Oper} {a : Act} {Q : Exit → Act → World → Prop} {B : Nat}
    (hg : o.guard = none) (l c : Operand) (hop : o.op = Op.makeSlice 114 l c) (hb : Below B w0 w) (hB : B ≤ w.heap.size)
    (kl kc : IntKind) (n : Nat) (hl : a.eval l = .int kl (n : Int)) (hc : a.eval c = .int kc (n : Int)) (hn : n ≤ 100)
    (hK : ∀ w', Hid (ByteRow w' B w0 w.heap.size (List.replicate n 0)) → wpList Tryz.prog ops Q rest (a.put o.dst (.slice (some ⟨w.heap.size, 0, none⟩) n n)) w') :
    wpList Tryz.prog ops Q (o :: rest) a w := by
  obtain ⟨i0, hi0, hz0, hz1, hz2⟩ := info_parts u8_info
  refine wpList_make_row w hg l c _ hop 5 i0 (.int .u8 0) Tryz.underlying114 hi0 hz0 hz1 rfl kl kc n hl hc (by rw [hz2]; omega) (by omega) (hK _ ?_)
  refine ⟨?_, hb.alloc hB _, hB⟩
  rw [made_bytes]
  exact Go.Deep.blk_alloc_new _ _

/-- A string's bytes copied into a row: as many as there is room for. -/
theorem run_copy_str (w : World) (dT sT ty elem : TypeId) (g o dLen dCap : Nat) (s : ByteArray) (cur : Array Value) (t : TypeId)
    (hu : Tryz.prog.underlying dT = some (.slice elem)) (hs : (Tryz.prog.info? elem).map (·.size) = some 1) (hg : w.heap[g]? = some (.cells cur t (0, 0))) (hfit : o + min s.size dLen ≤ cur.size) :
    (Builtin.copy_ #[dT, sT] ty #[.slice (some ⟨g, o, none⟩) dLen dCap, .string s]).run Tryz.prog w =
      .ok (goInt ((min s.size dLen : Nat) : Int)) (w.setRow g (cur.toList.take o ++ (s.data.toList.take (min s.size dLen)).map bcell ++ cur.toList.drop (o + min s.size dLen)).toArray) := by
  have hlen : ((s.data.toList.take (min s.size dLen)).map bcell).length = min s.size dLen := by simp
  have hst := run_storeCells_at Tryz.prog g o t ((s.data.toList.take (min s.size dLen)).map bcell) 0 cur w hg (by rw [hlen]; simpa using hfit) (by
    intro v hv
    obtain ⟨b, _, rfl⟩ := List.mem_map.1 hv
    rfl)
  rw [hlen] at hst
  simp only [Nat.add_zero] at hst
  have htk : List.take (Nat.min s.size dLen) (List.map (fun b : UInt8 => Value.int IntKind.u8 (b.toNat : Int)) s.data.toList) = (s.data.toList.take (min s.size dLen)).map bcell := by
    rw [List.map_take]
    rfl
  cases hq : Tryz.prog.info? elem with
  | none => simp [hq] at hs
  | some i =>
    simp [Builtin.copy_, run_underlying hu, Builtin.lenOf, Builtin.firstCells, sizeOf, typeInfo, hq]
    rw [htk, hst]
    simp [Result.andThen]

/-- A row behind a copy. -/
def lay (xs : List UInt8) (o : Nat) (ys : List UInt8) : List UInt8 := xs.take o ++ ys ++ xs.drop (o + ys.length)

theorem lay_len {xs : List UInt8} {o : Nat} {ys : List UInt8} (h : o + ys.length ≤ xs.length) : (lay xs o ys).length = xs.length := by
  unfold lay
  simp
  omega

theorem bAt_lay {xs : List UInt8} {o : Nat} {ys : List UInt8} (h : o + ys.length ≤ xs.length) (i : Nat) : bAt (lay xs o ys) i = if o ≤ i ∧ i < o + ys.length then bAt ys (i - o) else bAt xs i := by
  unfold lay bAt
  simp only [List.getD_eq_getElem?_getD]
  by_cases h1 : i < o
  · rw [if_neg (by omega), List.append_assoc, List.getElem?_append_left (by simp; omega), List.getElem?_take, if_pos h1]
  · by_cases h2 : i < o + ys.length
    · rw [if_pos ⟨by omega, h2⟩, List.append_assoc, List.getElem?_append_right (by simp; omega), List.getElem?_append_left (by simp; omega)]
      congr 2
      simp
      omega
    · rw [if_neg (by omega), List.getElem?_append_right (by simp; omega), List.getElem?_drop]
      congr 2
      simp
      omega

set_option maxRecDepth 100000 in
theorem wpList_copy_str {w0 w : World} {ops : Array Oper} {rest : List Oper} {o : Oper} {a : Act} {Q : Exit → Act → World → Prop} {B : Nat} (hgd : o.guard = none) (d x : Operand)
    (ho : o.op = .call { callee := .builtin .copy, args := #[d, x], argTypes := #[114, 9] }) (g off dLen dCap : Nat) (xs : List UInt8) (hR : Hid (ByteRow w B w0 g xs)) (s : ByteArray)
    (hd : a.eval d = .slice (some ⟨g, off, none⟩) dLen dCap) (hx : a.eval x = .string s) (hfit : off + dLen ≤ xs.length)
    (h : ∀ w', Hid (ByteRow w' B w0 g (lay xs off (s.data.toList.take (min s.size dLen)))) → wpList Tryz.prog ops Q rest (a.put o.dst (goInt ((min s.size dLen : Nat) : Int))) w') : wpList Tryz.prog ops Q (o :: rest) a w := by
  obtain ⟨hg, hb, hB⟩ := hR.out
  obtain ⟨i0, hi0, hz0, hz1, hz2⟩ := info_parts u8_info
  have hm : (s.data.toList.take (min s.size dLen)).length = min s.size dLen := by
    rw [List.length_take]
    have e : s.data.toList.length = s.size := by simp
    omega
  refine wpList_plain hgd fun K hK => ?_
  have hrun := run_copy_str w 114 9 o.type 5 g off dLen dCap s _ _ Tryz.underlying114 (by rw [hi0]; simp [hz1]) hg (by rw [List.size_toArray, List.length_map]; omega)
  unfold Oper.wp
  simp only [execOp, ho, resolve, invoke, builtin, Sem.run_bind, Sem.run_pure, Result.andThen_ok, List.map_toArray, List.map_cons, List.map_nil, hd, hx, hrun]
  refine hK _ _ (h _ ⟨?_, ?_, hB⟩)
  · rw [setRow_heap w g _ _ _ _ hg]
    congr 3
    unfold lay
    rw [hm]
    simp
  · exact hb.trans ⟨rfl, rfl, rfl, by simp [World.setRow], fun k hk => setRow_other w g k _ (by omega)⟩

theorem conv_row {w0 w : World} {B g n cap : Nat} {xs : List UInt8} (hR : Hid (ByteRow w B w0 g xs)) (hn : xs.length = n) :
    (convert 114 9 (.slice (some ⟨g, 0, none⟩) n cap)).run Tryz.prog w = .ok (.string ⟨xs.toArray⟩) w := by
  subst hn
  obtain ⟨hg, _, _⟩ := hR.out
  refine run_convert_bytes_back w _ _ _ _ cap xs Tryz.underlying114 Tryz.underlying5 Tryz.underlying9 (fun j hj => ?_)
  have hh := cell_of_row w g j (xs.map bcell).toArray 5 (0, 0) hg
  rw [show (⟨g, 0, none⟩ : Addr).add j = ⟨g, j, none⟩ by unfold Addr.add; split <;> simp_all, hh]
  simp [bcell, List.getElem?_eq_getElem hj]

/-- The greater one of two numbers, as a variable. -/
theorem wpList_max_nat {w : World} {ops : Array Oper} {rest : List Oper} {o : Oper} {a : Act} {Q : Exit → Act → World → Prop} (hgd : o.guard = none) (x y : Operand) (ats : Array TypeId)
    (ho : o.op = .call { callee := .builtin .max, args := #[x, y], argTypes := ats }) (A C : Int) (n : Nat) (hx : a.eval x = .int .i64 A) (hy : a.eval y = .int .i64 C) (hn : max A C = (n : Int))
    (h : wpList Tryz.prog ops Q rest (a.put o.dst (.int .i64 (n : Int))) w) : wpList Tryz.prog ops Q (o :: rest) a w := by
  refine wpList_plain hgd fun K hK => ?_
  have hrun := run_max_int2 (P := Tryz.prog) (w := w) ats o.type .i64 .i64 A C
  rw [show (if C > A then C else A) = (n : Int) by rw [← hn]; split <;> omega] at hrun
  unfold Oper.wp
  simp only [execOp, ho, resolve, invoke, builtin, Sem.run_bind, Sem.run_pure, Result.andThen_ok, List.map_toArray, List.map_cons, List.map_nil, hx, hy, hrun]
  exact hK _ _ h

/-- What Trunc lays. -/
theorem lay_tL' (d : List UInt8) (n : Nat) : lay (List.replicate n 0) 0 (d.take (min d.length n)) = tL d n := by
  have hl : 0 + (d.take (min d.length n)).length ≤ (List.replicate n (0 : UInt8)).length := by simp; omega
  refine same_bytes (by rw [lay_len hl, tL_len]; simp) fun i hi => ?_
  rw [lay_len hl, List.length_replicate] at hi
  rw [bAt_lay hl, bAt_tL, if_pos hi]
  by_cases h : i < d.length
  · rw [if_pos ⟨Nat.zero_le _, by simp; omega⟩]
    unfold bAt
    simp only [List.getD_eq_getElem?_getD, Nat.sub_zero, List.getElem?_take]
    rw [if_pos (by omega)]
  · rw [if_neg (by simp; omega), bAt_ge (show d.length ≤ i by omega)]
    unfold bAt
    simp [List.getD_eq_getElem?_getD, hi]

/-- What Write lays. -/
theorem lay_wL' (d s : List UInt8) (o n : Nat) (hn : n = max d.length (o + s.length)) : lay (lay (List.replicate n 0) 0 (d.take (min d.length n))) o (s.take (min s.length (n - o))) = wL d s o := by
  rw [lay_tL', Nat.min_eq_left (by omega), List.take_length]
  have hl : o + s.length ≤ (tL d n).length := by rw [tL_len]; omega
  refine same_bytes (by rw [lay_len hl, tL_len, wL_len, hn]) fun i hi => ?_
  rw [lay_len hl, tL_len] at hi
  rw [bAt_lay hl, bAt_wL, bAt_tL, if_pos hi]
  rfl

theorem lay_tL (d : ByteArray) (n : Nat) : lay (List.replicate n 0) 0 (d.data.toList.take (min d.size n)) = tL d.data.toList n := by
  have h := lay_tL' d.data.toList n
  rwa [len_bytes] at h

theorem lay_wL (d s : ByteArray) (o n : Nat) (hn : n = max d.size (o + s.size)) : lay (lay (List.replicate n 0) 0 (d.data.toList.take (min d.size n))) o (s.data.toList.take (min s.size (n - o))) = wL d.data.toList s.data.toList o := by
  have h := lay_wL' d.data.toList s.data.toList o n (by rw [len_bytes, len_bytes]; exact hn)
  rwa [len_bytes, len_bytes] at h

theorem lay_room (d : ByteArray) (n : Nat) : (lay (List.replicate n 0) 0 (d.data.toList.take (min d.size n))).length = n := by rw [lay_tL, tL_len]

set_option maxRecDepth 100000 in
theorem trunc_code (d : ByteArray) (n : Int) (w : World) (hd : d.size ≤ 2000) (hn : IsI64 n) :
    Calls Tryz.prog 122 #[.string d, .int .i64 n] w fun e w' => e = .returned (.tuple #[.string (tR d n).1, .int .i64 (tR d n).2]) ∧ Below w.heap.size w w' := by
  by_cases h0 : n < 0
  · rw [show tR d n = (d, 1) by unfold tR; rw [if_pos h0]]
    go_enter Tryz.func122, Tryz.ntmps122
    go_wp2_with fail
    go_ret2
    exact ⟨rfl, Below.refl _ _⟩
  by_cases h1 : 64 < n
  · rw [show tR d n = (d, 11) by unfold tR; rw [if_neg h0, if_pos (Or.inl h1)]]
    go_enter Tryz.func122, Tryz.ntmps122
    go_wp2_with fail
    go_ret2
    exact ⟨rfl, Below.refl _ _⟩
  by_cases h2 : 64 < d.size
  · rw [show tR d n = (d, 11) by unfold tR; rw [if_neg h0, if_pos (Or.inr h2)]]
    go_enter Tryz.func122, Tryz.ntmps122
    go_wp2_with fail
    go_ret2
    exact ⟨rfl, Below.refl _ _⟩
  obtain ⟨m, rfl⟩ : ∃ m : Nat, n = (m : Int) := ⟨n.toNat, by omega⟩
  have hm64 : m ≤ 64 := by omega
  rw [show tR d (m : Int) = (⟨(tL d.data.toList m).toArray⟩, 0) by unfold tR; rw [if_neg h0, if_neg (by omega)]; rfl]
  clear h0 h1 hn
  have hl := Lib.hid (lay_tL d m)
  go_enter Tryz.func122, Tryz.ntmps122
  go_wp2_with (first
    | (at_make; refine wpList_make_bytes rfl _ _ rfl (Below.refl w.heap.size w) (Nat.le_refl _) _ _ m rfl rfl (by omega) ?_; intro w1 HR1)
    | (refine wpList_copy_str (by rfl) _ _ (by rfl) _ 0 m m _ HR1 d (by rfl) (by rfl) (by simp) ?_; intro w2 HR2; have hcv := conv_row (n := m) (cap := m) HR2 (by rw [hl.out]; exact tL_len _ _)))
  go_ret2
  exact ⟨by rw [← hl.out]; rfl, HR2.out.2.1⟩

set_option maxRecDepth 100000 in
theorem write_code (d : ByteArray) (off : Int) (s : ByteArray) (w : World) (hd : d.size ≤ 2000) (hs : s.size ≤ 2000) (ho : IsI64 off) :
    Calls Tryz.prog 121 #[.string d, .int .i64 off, .string s] w fun e w' => e = .returned (.tuple #[.string (wR d off s).1, .int .i64 (wR d off s).2]) ∧ Below w.heap.size w w' := by
  have hes : (s.toList == []) = decide (s.size = 0) := by
    rw [ByteArray.toList_eq]
    have e2 : s.data.toList.length = s.size := by simp
    cases hl : s.data.toList with
    | nil => rw [hl] at e2; rw [decide_eq_true (by simpa using e2.symm)]; rfl
    | cons a l => rw [hl, List.length_cons] at e2; rw [decide_eq_false (by omega)]; rfl
  by_cases h0 : off < 0
  · rw [show wR d off s = (d, 1) by unfold wR; rw [if_pos (Or.inl h0)]]
    go_enter Tryz.func121, Tryz.ntmps121
    go_wp2_with fail
    go_ret2
    exact ⟨rfl, Below.refl _ _⟩
  by_cases hs0 : s.size = 0
  · rw [show wR d off s = (d, 1) by unfold wR; rw [if_pos (Or.inr hs0)]]
    rw [decide_eq_true hs0] at hes
    go_enter Tryz.func121, Tryz.ntmps121
    go_wp2_with fail
    go_ret2
    exact ⟨rfl, Below.refl _ _⟩
  rw [decide_eq_false hs0] at hes
  have hw := Lib.hid (show wrap64 (64 - off) = 64 - off by unfold IsI64 at ho; unfold wrap64; omega)
  by_cases h1 : 64 - off < (s.size : Int)
  · rw [show wR d off s = (d, 11) by unfold wR; rw [if_neg (by omega), if_pos (by omega)]]
    have hq : decide (wrap64 (64 - off) < (s.size : Int)) = true := by rw [hw.out]; exact decide_eq_true h1
    go_enter Tryz.func121, Tryz.ntmps121
    go_wp2_with fail
    go_ret2
    exact ⟨rfl, Below.refl _ _⟩
  by_cases h2 : 64 < d.size
  · rw [show wR d off s = (d, 11) by unfold wR; rw [if_neg (by omega), if_pos (by omega)]]
    go_enter Tryz.func121, Tryz.ntmps121
    go_wp2_with fail
    go_ret2
    exact ⟨rfl, Below.refl _ _⟩
  obtain ⟨o, rfl⟩ : ∃ m : Nat, off = (m : Int) := ⟨off.toNat, by omega⟩
  obtain ⟨n, hn⟩ : ∃ n, n = max d.size (o + s.size) := ⟨_, rfl⟩
  have hn64 : n ≤ 64 := by omega
  rw [show wR d (o : Int) s = (⟨(wL d.data.toList s.data.toList o).toArray⟩, 0) by unfold wR; rw [if_neg (by omega), if_neg (by omega)]; rfl]
  have hq : decide (wrap64 (64 - (o : Int)) < (s.size : Int)) = false := by rw [hw.out]; exact decide_eq_false h1
  have hw2 := Lib.hid (show max (d.size : Int) ((o : Int) + (s.size : Int)) = (n : Int) by omega)
  have hl := Lib.hid (lay_wL d s o n hn)
  have hll := Lib.hid (show (wL d.data.toList s.data.toList o).length = n by rw [wL_len, len_bytes, len_bytes, hn])
  have hod : o ≤ n := by omega
  have hno : ¬ n = o := by omega
  have hcut := Lib.hid (show o + (n - o) ≤ n by omega)
  clear h0 ho hn
  go_enter Tryz.func121, Tryz.ntmps121
  go_wp2_with (first
    | (refine wpList_max_nat (by rfl) _ _ _ (by rfl) _ _ n (by rfl) (by rfl) hw2.out ?_)
    | (at_make; refine wpList_make_bytes rfl _ _ rfl (Below.refl w.heap.size w) (Nat.le_refl _) _ _ n rfl rfl (by omega) ?_; intro w1 HR1)
    | (refine wpList_copy_str (by rfl) _ _ (by rfl) _ 0 n n _ HR1 d (by rfl) (by rfl) (by simp) ?_; intro w2 HR2)
    | (refine wpList_copy_str (by rfl) _ _ (by rfl) _ o (n - o) (n - o) _ HR2 s (by rfl) (by rfl) (by rw [lay_room]; exact hcut.out) ?_; intro w3 HR3; have hcv := conv_row (n := n) (cap := n) HR3 (by rw [hl.out]; exact hll.out)))
  go_ret2
  exact ⟨by rw [← hl.out]; rfl, HR3.out.2.1⟩

theorem read_none (d : ByteArray) (off many : Int) (h : off < 0 ∨ many < 1 ∨ (d.size : Int) ≤ off) : rR d off many = ⟨#[]⟩ := by
  unfold rR
  by_cases h0 : off < 0
  · rw [if_pos h0]
  · rw [if_neg h0]
    have e : (rL d.data.toList off.toNat many.toNat).length = 0 := by rw [rL_len, len_bytes]; omega
    rw [List.length_eq_zero_iff.1 e]

theorem read_cut (d : ByteArray) (o m k : Nat) (hk : k = min m (d.size - o)) : rR d (o : Int) (m : Int) = (d.extract o d.size).extract 0 k := by
  unfold rR
  rw [if_neg (by omega), Int.toNat_natCast, Int.toNat_natCast]
  apply ByteArray.ext
  apply Array.ext'
  have hs : d.data.toList.length = d.size := by simp
  simp only [ByteArray.data_extract, Array.toList_extract, List.extract_eq_take_drop, List.drop_zero, Nat.sub_zero]
  unfold rL
  rw [List.take_of_length_le (l := d.data.toList.drop o) (i := d.size - o) (by simp), hk]
  apply List.ext_getElem?
  intro i
  rw [List.getElem?_take, List.getElem?_take]
  by_cases h1 : i < m
  · rw [if_pos h1]
    by_cases h2 : i < d.size - o
    · rw [if_pos (by omega)]
    · rw [if_neg (by omega), List.getElem?_eq_none (by rw [List.length_drop, hs]; omega)]
  · rw [if_neg h1, if_neg (by omega)]

set_option maxRecDepth 100000 in
theorem read_code (d : ByteArray) (off many : Int) (w : World) (hd : d.size ≤ 2000) (ho : IsI64 off) (hm : IsI64 many) :
    Calls Tryz.prog 33 #[.string d, .int .i64 off, .int .i64 many] w fun e w' => e = .returned (.string (rR d off many)) ∧ Below w.heap.size w w' := by
  by_cases h0 : off < 0 ∨ many < 1 ∨ (d.size : Int) ≤ off
  · rw [show rR d off many = ⟨#[]⟩ from read_none d off many h0]
    have hq : (decide (off < 0) || decide (many < 1) || decide ((d.size : Int) ≤ off)) = true := by simp; omega
    go_enter Tryz.func33, Tryz.ntmps33
    go_wp2_with fail
    all_goals go_ret
    all_goals exact ⟨rfl, Below.refl _ _⟩
  obtain ⟨o, rfl⟩ : ∃ m : Nat, off = (m : Int) := ⟨off.toNat, by omega⟩
  obtain ⟨m, rfl⟩ : ∃ m : Nat, many = (m : Int) := ⟨many.toNat, by omega⟩
  have c1 : o < d.size := by omega
  have c2 : 1 ≤ m := by omega
  have hw : wrap64 ((d.size : Int) - (o : Int)) = ((d.size - o : Nat) : Int) := by unfold wrap64; omega
  clear h0
  go_enter Tryz.func33, Tryz.ntmps33
  go_wp2_with fail
  all_goals go_ret
  all_goals first
    | exact ⟨by rw [show rR d (o : Int) (m : Int) = (d.extract o d.size).extract 0 (min (m : Int) ((d.size : Int) - (o : Int))).toNat from read_cut d o m _ (by omega)]; rfl, Below.refl _ _⟩
    | exact ⟨by rw [show rR d (o : Int) (m : Int) = (d.extract o d.size).extract 0 (d.size - o) from read_cut d o m _ (by omega)]; rfl, Below.refl _ _⟩
    | exact ⟨by rw [show rR d (o : Int) (m : Int) = (d.extract o d.size).extract 0 m from read_cut d o m _ (by omega)]; rfl, Below.refl _ _⟩

theorem extentHave : ExtentHave :=
  ⟨fun d off s w hd hs ho => write_code d off s w hd hs ho, fun d n w hd hn => trunc_code d n w hd hn, fun d off many w hd ho hm => read_code d off many w hd ho hm⟩

end Go.Proofs.YtlhdbccemgofjaaGreatDoor

/-
  Plain mathematics of what is reached, as the landed audit goes through it: each Id's entries by their directory. It needs no program.
-/
namespace Go.Proofs.YtlhdbccemgofjaaGreatDoor.GraphMath
open StampMath OpMath

/-- Is an entry one that leads from a directory to an inode? -/
def okE (N : List Ino) (e : Ent) : Bool := decide (kindI N e.dir = some 1) && (kindI N e.ino).isSome

/-- What is right below an Id. -/
def belowL (N : List Ino) (E : List Ent) (s : St) : List St := (E.filter fun e => okE N e && decide (e.dir = s)).map (·.ino)

theorem belowL_snoc (N : List Ino) (E : List Ent) (k : Nat) (hk : k < E.length) (s : St) : belowL N (E.take (k + 1)) s = belowL N (E.take k) s ++ if okE N E[k] = true ∧ E[k].dir = s then [E[k].ino] else [] := by
  rw [List.take_succ_eq_append_getElem hk]
  unfold belowL
  rw [List.filter_append, List.map_append]
  congr 1
  by_cases h : okE N E[k] = true ∧ E[k].dir = s
  · rw [if_pos h, List.filter_cons, if_pos (by rw [h.1, decide_eq_true h.2]; rfl)]
    rfl
  · rw [if_neg h, List.filter_cons, if_neg fun q => h (by simpa using q)]
    rfl

theorem belowL_len (N : List Ino) (E : List Ent) (s : St) : (belowL N E s).length ≤ E.length := by
  unfold belowL
  rw [List.length_map]
  exact List.length_filter_le _ _

theorem belowL_reached {N : List Ino} {E : List Ent} {s t : St} (h : Reached N E s) (ht : t ∈ belowL N E s) : Reached N E t := by
  obtain ⟨e, he, rfl⟩ := List.mem_map.1 ht
  obtain ⟨h1, h2⟩ := List.mem_filter.1 he
  simp only [okE, Bool.and_eq_true, decide_eq_true_eq] at h2
  obtain ⟨⟨h3, h4⟩, h5⟩ := h2
  obtain ⟨n, hn⟩ := h
  exact ⟨n + 1, .step h1 (by rw [h5]; exact hn) h3 h4⟩

theorem reached_closed {N : List Ino} {E : List Ent} {F : List St} (h0 : (0, 0) ∈ F) (h1 : ∀ s ∈ F, ∀ t ∈ belowL N E s, t ∈ F) {s : St} (h : Reached N E s) : s ∈ F := by
  obtain ⟨n, h⟩ := h
  induction h with
  | root _ => exact h0
  | @step n e he _ hk hi ih =>
    refine h1 _ ih _ (List.mem_map.2 ⟨e, List.mem_filter.2 ⟨he, ?_⟩, rfl⟩)
    simp [okE, hk, hi]

theorem reached_none {N : List Ino} {E : List Ent} (h : kindI N (0, 0) = none) {s : St} : ¬ Reached N E s := by
  rintro ⟨n, hn⟩
  induction hn with
  | root h2 => rw [h] at h2; cases h2
  | step _ _ _ _ ih => exact ih

theorem reached_root {N : List Ino} {E : List Ent} (h : (kindI N (0, 0)).isSome) : Reached N E (0, 0) := ⟨0, .root h⟩

theorem found_few {N : List Ino} {E : List Ent} {F : List St} (hn : F.Nodup) (h : ∀ s ∈ F, Reached N E s) : F.length ≤ N.length := by
  have := nodup_le hn (M := N.map (·.id)) fun s hs => by
    obtain ⟨x, hx, hxe⟩ := (h s hs).ino
    rw [← hxe]
    exact List.mem_map_of_mem hx
  simpa using this

end Go.Proofs.YtlhdbccemgofjaaGreatDoor.GraphMath

/-
  Stamps in memory: a slice that is only read, and one that was appended to.
-/
namespace Go.Proofs.YtlhdbccemgofjaaGreatDoor
open Go.RowKit StampMath GraphMath OpMath

/-- The slice reads as stamps, and lies below block B. -/
def StsIn (W : World) (B : Nat) (A : Option Addr) (n : Nat) (l : List St) : Prop := TabIn 2 W B A n (l.map stA)

theorem StsIn.len {W : World} {B : Nat} {A : Option Addr} {n : Nat} {l : List St} (h : StsIn W B A n l) : l.length = n := by have := h.1; rwa [List.length_map] at this

def StAt (W : World) (g p : Nat) (s : St) : Prop := W.cell? ⟨g, p, none⟩ = some (.int .i64 s.1) ∧ W.cell? ⟨g, p + 1, none⟩ = some (.int .i64 s.2)

theorem StsIn.row {W : World} {B : Nat} {A : Option Addr} {n : Nat} {l : List St} (h : StsIn W B A n l) (hn : 0 < n) : ∃ g o, A = some ⟨g, o, none⟩ ∧ g < B ∧ ∀ k (hk : k < l.length), StAt W g (o + k * 2) l[k] := by
  obtain ⟨g, o, e, hg, hc⟩ := h.2 hn
  refine ⟨g, o, e, hg, fun k hk => ?_⟩
  have hk' : k < (l.map stA).length := by simpa using hk
  have he : (l.map stA)[k] = stA l[k] := by simp
  exact ⟨hc k hk' 0 _ (by rw [he]; rfl), hc k hk' 1 _ (by rw [he]; rfl)⟩

theorem StAt.below {W W' : World} {B g p : Nat} {s : St} (h : StAt W g p s) (hb : Below B W W') (hg : g < B) : StAt W' g p s :=
  ⟨(hb.cell (p := ⟨g, p, none⟩) hg).trans h.1, (hb.cell (p := ⟨g, p + 1, none⟩) hg).trans h.2⟩

theorem sts_own {W : World} {base : Nat} {v : Value} {n : Nat} {l : List St} (hn : l.length = n) (h : W.ownsRow base 35 2 v n (flat (l.map stA))) :
    ∃ (A : Option Addr) (c : Nat), v = .slice A n c ∧ StsIn W W.heap.size A n l ∧ n ≤ c ∧ c ≤ maxLen ∧ (A = Option.none → c = 0) :=
  tab_own (k := 2) (fun r hr => by obtain ⟨e, _, rfl⟩ := List.mem_map.1 hr; rfl) (by simpa using hn) h

end Go.Proofs.YtlhdbccemgofjaaGreatDoor

/-
  Maps of any shape: 'm[k]++' and 'm[k] = append(m[k], ..)': an entry is laid, then stored into.
-/
namespace Go.Proofs.YtlhdbccemgofjaaGreatDoor
open Go.RowKit Go.MapKept
open Go.ChangeMaps (setBlock)

section
variable {K V : Type} {ek : K → Value} {ev : V → Value} {P : Program} {k e : TypeId}

theorem entry_parts (S : KShape P k ek) {t : TypeId} {w : World} {b : Nat} {es : Array MapEntry} {clock : Nat} (ht : P.underlying t = some (.map k e)) {z : Value} (hz : ∀ u : World, (zeroValue e).run P u = .ok z u) (hb : w.heap[b]? = some (.map es clock)) (hs : Stamped es clock) (hall : ∀ e ∈ es.toList, ∃ y, e.key = ek y) (x : K) :
    ∃ (v0 : Value) (st : Nat) (es1 : Array MapEntry) (clock1 : Nat), (Instr.mapEntry t (.map (some b)) (ek x)).run P w = .ok (.tuple #[v0, goInt st]) (setBlock w b (.map es1 clock1)) ∧
      ((∃ e0 ∈ es.toList, e0.key = ek x ∧ v0 = e0.val) ∨ ((∀ x' ∈ es.toList, x'.key ≠ ek x) ∧ v0 = z)) ∧ (Instr.mapUpdate t (.map (some b)) (ek x) v0).run P w = .ok () (setBlock w b (.map es1 clock1)) ∧
      ∀ (w2 : World) (val : Value), w2.heap[b]? = some (.map es1 clock1) → ∃ es' clock', (Instr.entryStore t (.map (some b)) (goInt st) val).run P w2 = .ok () (setBlock w2 b (.map es' clock')) ∧
        (Instr.mapUpdate t (.map (some b)) (ek x) val).run P w = .ok () (setBlock w b (.map es' clock')) := by
  obtain ⟨s1, s2, _⟩ := hs
  rcases S.find w x es.toList hall with ⟨h1, h2⟩ | ⟨j, e0, h1, h2, h3⟩
  · refine ⟨z, clock, es.push ⟨ek x, z, clock⟩, clock + 1, ?_, Or.inr ⟨h2, rfl⟩, ?_, fun w2 val hw2 => ⟨es.push ⟨ek x, val, clock⟩, clock + 1, ?_, ?_⟩⟩
    · simp [Instr.mapEntry, run_underlying ht, MapKept.run_getObj_map hb, S.check w, h1, hz, MapKept.run_setObj_map _ hb, Result.andThen, setBlock]
    · simp [Instr.mapUpdate, run_underlying ht, MapKept.run_getObj_map hb, S.check w, h1, MapKept.run_setObj_map _ hb, Result.andThen, setBlock]
    · have hidx : (es.push ⟨ek x, z, clock⟩).findIdx? (fun e => ((e.born : Nat) : Int) == ((clock : Nat) : Int)) = some es.size := by
        rw [WideElems.findIdx_arr]
        have := WideElems.findIdx_born (l := (es.push ⟨ek x, z, clock⟩).toList) (j := es.size) (e0 := ⟨ek x, z, clock⟩) (by
          simp only [Array.toList_push, List.map_append, List.map_cons, List.map_nil]
          refine List.nodup_append.2 ⟨s2, by simp, fun a ha c hc e1 => ?_⟩
          simp only [List.mem_singleton] at hc
          obtain ⟨x, hx, rfl⟩ := List.mem_map.1 ha
          have := s1 x hx
          omega) (by simp)
        exact this
      have hmod : (es.push ⟨ek x, z, clock⟩).modify es.size (fun e => { e with val := val }) = es.push ⟨ek x, val, clock⟩ := by
        apply Array.ext'
        rw [Array.toList_modify, Array.toList_push, Array.toList_push, ← Array.length_toList, WideElems.modify_last]
      simp [Instr.entryStore, MapKept.run_getObj_map hw2, asInt, asIntOf, goInt, hidx, hmod, MapKept.run_setObj_map _ hw2, Result.andThen, setBlock]
    · simp [Instr.mapUpdate, run_underlying ht, MapKept.run_getObj_map hb, S.check w, h1, MapKept.run_setObj_map _ hb, Result.andThen, setBlock]
  · have hj : es[j]? = some e0 := by simpa using h2
    have hsame : es.modify j (fun e => { e with key := ek x }) = es := by
      apply Array.ext'
      rw [Array.toList_modify, ChangeMaps.modify_eq_set _ _ _ _ h2]
      have : ({ e0 with key := ek x } : MapEntry) = e0 := by rw [← h3]
      rw [this]
      exact WideElems.set_self _ _ _ h2
    have hsame2 : es.modify j (fun e => { e with key := ek x, val := e0.val }) = es := by
      apply Array.ext'
      rw [Array.toList_modify, ChangeMaps.modify_eq_set _ _ _ _ h2]
      have : ({ e0 with key := ek x, val := e0.val } : MapEntry) = e0 := by rw [← h3]
      rw [this]
      exact WideElems.set_self _ _ _ h2
    refine ⟨e0.val, e0.born, es, clock, ?_, Or.inl ⟨e0, List.mem_of_getElem? h2, h3, rfl⟩, ?_, fun w2 val hw2 => ⟨es.modify j (fun e' => { e' with key := ek x, val := val }), clock, ?_, ?_⟩⟩
    · simp [Instr.mapEntry, run_underlying ht, MapKept.run_getObj_map hb, S.check w, h1, hj, h3, S.stays w, hsame, MapKept.run_setObj_map _ hb, Result.andThen, setBlock]
    · simp [Instr.mapUpdate, run_underlying ht, MapKept.run_getObj_map hb, S.check w, h1, hj, h3, S.stays w, hsame2, MapKept.run_setObj_map _ hb, Result.andThen, setBlock]
    · have hidx : es.findIdx? (fun e => ((e.born : Nat) : Int) == ((e0.born : Nat) : Int)) = some j := by
        rw [WideElems.findIdx_arr]
        exact WideElems.findIdx_born s2 h2
      have hmod : es.modify j (fun e => { e with val := val }) = es.modify j (fun e' => { e' with key := ek x, val := val }) := by
        apply Array.ext'
        rw [Array.toList_modify, Array.toList_modify, ChangeMaps.modify_eq_set _ _ _ _ h2, ChangeMaps.modify_eq_set _ _ _ _ h2, ← h3]
      simp [Instr.entryStore, MapKept.run_getObj_map hw2, asInt, asIntOf, goInt, hidx, hmod, MapKept.run_setObj_map _ hw2, Result.andThen, setBlock]
    · simp [Instr.mapUpdate, run_underlying ht, MapKept.run_getObj_map hb, S.check w, h1, hj, h3, S.stays w, MapKept.run_setObj_map _ hb, Result.andThen, setBlock]

variable (ek ev P) in
/-- The entry of the key x lies in the map's block: what is stored into it makes this map. -/
def KSlot [DecidableEq K] (t : TypeId) (W : World) (b : Nat) (L : List (K × V)) (x : K) (st : Nat) : Prop :=
  ∀ (W2 : World), W2.heap[b]? = W.heap[b]? → ∀ val : V, ∃ W3, (Instr.entryStore t (.map (some b)) (.int .i64 (st : Int)) (ev val)).run P W2 = .ok () W3 ∧ KMap ek ev W3 b ((x, val) :: offL L x) ∧ But (fun i => i = b) W2 W3 ∧ W3.heap.size = W2.heap.size

theorem KMap.entry [DecidableEq K] (S : KShape P k ek) {t : TypeId} {w : World} {b : Nat} {L : List (K × V)} (h : KMap ek ev w b L) (ht : P.underlying t = some (.map k e)) (zv : V) (hz : ∀ u : World, (zeroValue e).run P u = .ok (ev zv) u) (x : K) :
    ∃ (st : Nat) (w1 : World), (Instr.mapEntry t (.map (some b)) (ek x)).run P w = .ok (.tuple #[ev ((lookL L x).getD zv), .int .i64 (st : Int)]) w1 ∧ KMap ek ev w1 b ((x, (lookL L x).getD zv) :: offL L x) ∧ But (fun i => i = b) w w1 ∧ w1.heap.size = w.heap.size ∧ KSlot ek ev P t w1 b L x st := by
  have hup := fun v => h.store S ht x v
  obtain ⟨es, clock, M, h1, h2, h3, h4⟩ := h
  have hkM := keys_of h2 h3
  obtain ⟨v0, st, es1, clock1, r1, hv, r2, r3⟩ := entry_parts S ht hz h1 h2 (all_shape h3) x
  have hv0 : v0 = ev ((lookL L x).getD zv) := by
    rw [← lookL_perm h4 hkM]
    rcases hv with ⟨e0, he0, hk0, rfl⟩ | ⟨hn, rfl⟩
    · obtain ⟨j, hj, rfl⟩ := List.getElem_of_mem he0
      obtain ⟨p, q1, q2, q3⟩ := entry_shape h3 (List.getElem?_eq_getElem hj)
      have hpx : p.1 = x := S.inj _ _ (q2.symm.trans hk0)
      have : lookL M x = some p.2 := (mem_lookL hkM).2 (by rw [← hpx]; exact List.mem_of_getElem? q1)
      rw [this, q3]
      rfl
    · have hno : lookL M x = none := lookL_none fun p hp e1 => by
        obtain ⟨j, hj, rfl⟩ := List.getElem_of_mem hp
        have hl : j < es.toList.length := by have := congrArg List.length h3; simp only [List.length_map] at this; omega
        obtain ⟨p', q1, q2, _⟩ := entry_shape h3 (List.getElem?_eq_getElem hl)
        rw [List.getElem?_eq_getElem hj] at q1
        have := Option.some.inj q1
        subst this
        exact hn _ (List.getElem_mem hl) (by rw [q2, e1])
      rw [hno]
      rfl
  subst hv0
  obtain ⟨w', s1, s2, s3, s4⟩ := hup ((lookL L x).getD zv)
  rw [r2] at s1
  cases s1
  refine ⟨st, _, r1, s2, s3, s4, fun W2 hW2 val => ?_⟩
  have hW2' := hW2.trans (heap_set (o' := .map es1 clock1) h1).1
  obtain ⟨es', clock', t1, t2⟩ := r3 W2 (ev val) hW2'
  obtain ⟨w'', u1, u2, u3, u4⟩ := hup val
  rw [t2] at u1
  cases u1
  refine ⟨_, t1, u2.kept ?_, setBlock_but hW2', by simp [setBlock]⟩
  show (setBlock W2 b (.map es' clock')).heap[b]? = (setBlock w b (.map es' clock')).heap[b]?
  exact (heap_set hW2').1.trans (heap_set h1).1.symm

/-- An entry is laid. -/
theorem wpList_k_entry [DecidableEq K] (S : KShape P k ek) {w : World} {ops : Array Oper} {rest : List Oper} {o : Oper} {a : Act} {Q : Exit → Act → World → Prop} (hg : o.guard = none) (m x : Operand) (t : TypeId)
    (hop : o.op = Op.mapEntry t m x) (ht : P.underlying t = some (.map k e)) (zv : V) (hz : ∀ u : World, (zeroValue e).run P u = .ok (ev zv) u) (b : Nat) (L : List (K × V)) (hm : a.eval m = .map (some b)) (h : KMap ek ev w b L) (key : K) (hx : a.eval x = ek key)
    (hK : ∀ (v : V) (st : Nat) (w' : World), v = (lookL L key).getD zv → Hid (KMap ek ev w' b ((key, v) :: offL L key)) → Hid (But (fun i => i = b) w w') → Hid (w'.heap.size = w.heap.size) → Hid (KSlot ek ev P t w' b L key st) → wpList P ops Q rest (a.put o.dst (.tuple #[ev v, .int .i64 (st : Int)])) w') : wpList P ops Q (o :: rest) a w := by
  refine wpList_plain hg fun K' hK' => ?_
  obtain ⟨st, w', hrun, r1, r2, r3, r4⟩ := h.entry S ht zv hz key
  unfold Oper.wp
  simp [execOp, hop, hm, hx, hrun, Result.andThen]
  exact hK' _ _ (hK _ st w' rfl r1 r2 r3 r4)

/-- .. and stored into. -/
theorem wpList_k_entryStore [DecidableEq K] {w : World} {ops : Array Oper} {rest : List Oper} {o : Oper} {a : Act} {Q : Exit → Act → World → Prop} (hg : o.guard = none) (m s v : Operand) (t : TypeId)
    (hop : o.op = Op.entryStore t m s v) (b : Nat) (L : List (K × V)) (hm : a.eval m = .map (some b)) (key : K) (st : Nat) (W : World) (h : KSlot ek ev P t W b L key st) (hW : w.heap[b]? = W.heap[b]?) (hs : a.eval s = .int .i64 (st : Int)) (val : V) (hv : a.eval v = ev val)
    (hK : ∀ w', Hid (KMap ek ev w' b ((key, val) :: offL L key)) → Hid (But (fun i => i = b) w w') → Hid (w'.heap.size = w.heap.size) → wpList P ops Q rest (a.put o.dst undef) w') : wpList P ops Q (o :: rest) a w := by
  refine wpList_plain hg fun K' hK' => ?_
  obtain ⟨w', hrun, r1, r2, r3⟩ := h w hW val
  unfold Oper.wp
  simp [execOp, hop, hm, hs, hv, hrun, Result.andThen]
  exact hK' _ _ (hK w' r1 r2 r3)

end
end Go.Proofs.YtlhdbccemgofjaaGreatDoor

/-
  The landed audit's lists: what is looked up in inodes and entries; its small functions.
-/
namespace Go.Proofs.YtlhdbccemgofjaaGreatDoor
open Go.RowKit StampMath GraphMath OpMath

theorem beq_dec (a b : Int) : (a == b) = decide (a = b) := by
  by_cases h : a = b
  · simp [h]
  · simp [h]

def iV (x : Int) : Value := .int .i64 x
theorem zeroI (w : World) : (zeroValue 3).run Tryz.prog w = .ok (iV 0) w := by kernel_rfl

/-- In these two maps lies what is looked up in inodes and entries. -/
structure Looked (W : World) (bk bl : Nat) (N : List Ino) (E : List Ent) : Prop where
  kinds : ∃ K : List (St × Int), KMap stV iV W bk K ∧ ∀ id, lookL K id = kindI N id
  links : ∃ L : List (St × Int), KMap stV iV W bl L ∧ ∀ id, (lookL L id).getD 0 = (linksE E id : Int)

theorem Looked.kept {W W' : World} {bk bl : Nat} {N : List Ino} {E : List Ent} (h : Looked W bk bl N E) (h1 : W'.heap[bk]? = W.heap[bk]?) (h2 : W'.heap[bl]? = W.heap[bl]?) : Looked W' bk bl N E := by
  obtain ⟨⟨K, k1, k2⟩, ⟨L, l1, l2⟩⟩ := h
  exact ⟨⟨K, k1.kept h1, k2⟩, ⟨L, l1.kept h2, l2⟩⟩

theorem Looked.lt {W : World} {bk bl : Nat} {N : List Ino} {E : List Ent} (h : Looked W bk bl N E) : bk < W.heap.size ∧ bl < W.heap.size := by
  obtain ⟨⟨K, k1, k2⟩, ⟨L, l1, l2⟩⟩ := h
  exact ⟨k1.lt, l1.lt⟩

theorem Looked.below {W W' : World} {bk bl : Nat} {N : List Ino} {E : List Ent} (h : Looked W bk bl N E) (hb : Below W.heap.size W W') : Looked W' bk bl N E := h.kept (hb.block _ h.lt.1) (hb.block _ h.lt.2)

theorem Looked.kind_ok {W : World} {bk bl : Nat} {N : List Ino} {E : List Ent} (h : Looked W bk bl N E) (id : St) :
    (Instr.lookup 125 (.map (some bk)) (.agg #[.int .i64 id.1, .int .i64 id.2]) true).run Tryz.prog W = .ok (.tuple #[.int .i64 ((kindI N id).getD 0), .bool (kindI N id).isSome]) W := by
  obtain ⟨⟨K, k1, k2⟩, _⟩ := h
  have hl := k1.look stShape Tryz.underlying125 (zeroI W) id true
  rw [if_pos rfl, k2 id, show ((kindI N id).map iV).getD (iV 0) = iV ((kindI N id).getD 0) by cases kindI N id <;> rfl] at hl
  exact hl

theorem Looked.kind {W : World} {bk bl : Nat} {N : List Ino} {E : List Ent} (h : Looked W bk bl N E) (id : St) :
    (Instr.lookup 125 (.map (some bk)) (.agg #[.int .i64 id.1, .int .i64 id.2]) false).run Tryz.prog W = .ok (.int .i64 ((kindI N id).getD 0)) W := by
  obtain ⟨⟨K, k1, k2⟩, _⟩ := h
  have hl := k1.look stShape Tryz.underlying125 (zeroI W) id false
  rw [if_neg (by decide), k2 id, show ((kindI N id).map iV).getD (iV 0) = iV ((kindI N id).getD 0) by cases kindI N id <;> rfl] at hl
  exact hl

theorem Looked.link {W : World} {bk bl : Nat} {N : List Ino} {E : List Ent} (h : Looked W bk bl N E) (id : St) :
    (Instr.lookup 125 (.map (some bl)) (.agg #[.int .i64 id.1, .int .i64 id.2]) false).run Tryz.prog W = .ok (.int .i64 (linksE E id : Nat)) W := by
  obtain ⟨_, ⟨L, l1, l2⟩⟩ := h
  have hl := l1.look stShape Tryz.underlying125 (zeroI W) id false
  rw [if_neg (by decide), show ((lookL L id).map iV).getD (iV 0) = iV ((lookL L id).getD 0) by cases lookL L id <;> rfl, l2 id] at hl
  exact hl

theorem auRoot_code (w : World) : Calls Tryz.prog 141 #[] w fun e w' => e = .returned (.agg #[.int .i64 0, .int .i64 0]) ∧ Below w.heap.size w w' := by
  go_enter Tryz.func141, Tryz.ntmps141
  go_wp2_with fail
  obtain ⟨z0, z1⟩ := two_cells (heap_alloc_new w (.cells #[.int .i64 0, .int .i64 0] 35))
  exact bodyPost_ret (v := .agg #[.int .i64 0, .int .i64 0]) (by simp [results, Tryz.results141, go_sem, z0, z1]) rfl ⟨rfl, (Below.refl _ _).alloc (Nat.le_refl _) _⟩

set_option maxRecDepth 100000 in
theorem has_code (A A' : Option Addr) (n c m d bk bl : Nat) (N : List Ino) (E : List Ent) (id : St) (w : World) (h : Looked w bk bl N E) :
    Calls Tryz.prog 147 #[.agg #[.slice A n c, .slice A' m d, .map (some bk), .map (some bl)], .agg #[.int .i64 id.1, .int .i64 id.2]] w fun e w' => e = .returned (.bool (kindI N id).isSome) ∧ Below w.heap.size w w' := by
  have hb : Below w.heap.size w ((w.alloc (.cells #[.slice A n c, .slice A' m d, .map (some bk), .map (some bl)] 127)).alloc (.cells #[.int .i64 id.1, .int .i64 id.2] 35)) := ((Below.refl _ _).alloc (Nat.le_refl _) _).alloc (by simp) _
  have hl := (h.below hb).kind_ok id
  clear h
  go_enter Tryz.func147, Tryz.ntmps147
  go_wp2_with fail
  go_ret
  exact ⟨rfl, hb⟩

set_option maxRecDepth 100000 in
theorem isDir_code (A A' : Option Addr) (n c m d bk bl : Nat) (N : List Ino) (E : List Ent) (id : St) (w : World) (h : Looked w bk bl N E) :
    Calls Tryz.prog 140 #[.agg #[.slice A n c, .slice A' m d, .map (some bk), .map (some bl)], .agg #[.int .i64 id.1, .int .i64 id.2]] w fun e w' => e = .returned (.bool (decide (kindI N id = some 1))) ∧ Below w.heap.size w w' := by
  have hb : Below w.heap.size w ((w.alloc (.cells #[.slice A n c, .slice A' m d, .map (some bk), .map (some bl)] 127)).alloc (.cells #[.int .i64 id.1, .int .i64 id.2] 35)) := ((Below.refl _ _).alloc (Nat.le_refl _) _).alloc (by simp) _
  have hl := (h.below hb).kind id
  have hv : ((kindI N id).getD 0 == 1) = decide (kindI N id = some 1) := by
    cases kindI N id with
    | none => rfl
    | some k =>
      show (k == 1) = _
      rw [beq_dec]
      simp only [Option.some.injEq]
  generalize (kindI N id).getD 0 = k at hl hv
  clear h
  go_enter Tryz.func140, Tryz.ntmps140
  go_wp2_with fail
  go_ret
  exact ⟨by first | rfl | rw [← hv], hb⟩

/-- May so many entries be of an inode? -/
def manyB (x : Ino) (k : Int) : Bool := if x.id = (0, 0) then decide (k = 0) else if x.kind = 1 then decide (k = 1) else decide (1 ≤ k ∧ k ≤ 6)

set_option maxRecDepth 100000 in
set_option maxHeartbeats 1600000 in
theorem mayLinks_code (x : Ino) (k : Int) (w : World) :
    Calls Tryz.prog 150 #[.agg (inoA x), .int .i64 k] w fun e w' => e = .returned (.bool (manyB x k)) ∧ Below w.heap.size w w' := by
  obtain ⟨b, hb⟩ : ∃ b, b = manyB x k := ⟨_, rfl⟩
  rw [← hb]
  unfold manyB at hb
  have hb0 : Below w.heap.size w (w.alloc (.cells (inoA x) 54)) := (Below.refl _ _).alloc (Nat.le_refl _) _
  have he0 := heap_alloc_new w (.cells (inoA x) 54)
  obtain ⟨⟨i1, i2⟩, xk, xl, xm, xd⟩ := x
  dsimp only at hb
  unfold inoA
  go_enter Tryz.func150, Tryz.ntmps150
  go_upto_region 1 with fail
  change Code.wp _ _ _ _ (w.alloc (.cells (inoA ⟨(i1, i2), xk, xl, xm, xd⟩) 54))
  generalize w.alloc (.cells (inoA ⟨(i1, i2), xk, xl, xm, xd⟩) 54) = w1 at he0 hb0 ⊢
  obtain ⟨x0, x1, x2, x3, x4, x5⟩ := ino_cells he0
  have l0 := later_cell x0
  have l1 := later_cell x1
  have HRl : Hid (∀ y, Calls Tryz.prog 141 #[] (later w1 y) fun e w' => e = .returned (.agg #[.int .i64 0, .int .i64 0]) ∧ Below (later w1 y).heap.size (later w1 y) w') := fun y => auRoot_code _
  have HE := Lib.hid he0
  have HB := Lib.hid hb0
  clear x0 x1 x2 x3 x4 x5 he0 hb0
  by_cases hz : ((i1, i2) : St) = (0, 0)
  · have hv : ∀ W : World, (Op.equalIn 10000 35 (.agg #[.int .i64 i1, .int .i64 i2]) (.agg #[.int .i64 0, .int .i64 0])).run Tryz.prog W = .ok true W := fun W => by rw [run_eqSt, decide_eq_true hz]
    rw [if_pos hz] at hb
    clear hz
    refine wp_region_later (by kernel_rfl) (by kernel_rfl) ?_
    repeat (go_big_quiet_step (first | (with_reducible exact later_call (HRl.out _))))
    refine wpQuiet_nil ?_
    intro _ hw'
    obtain ⟨y, rfl⟩ := hw'
    clear l0 l1 hv
    have hk : (k == 0) = b := by rw [hb]; exact beq_dec _ _
    clear hb
    go_wp2_with fail
    go_ret
    exact ⟨by first | rfl | rw [← hk], below_step HB.out (later_below w1 y)⟩
  · have hv : ∀ W : World, (Op.equalIn 10000 35 (.agg #[.int .i64 i1, .int .i64 i2]) (.agg #[.int .i64 0, .int .i64 0])).run Tryz.prog W = .ok false W := fun W => by rw [run_eqSt, decide_eq_false hz]
    rw [if_neg hz] at hb
    clear hz
    refine wp_region_later (by kernel_rfl) (by kernel_rfl) ?_
    repeat (go_big_quiet_step (first | (with_reducible exact later_call (HRl.out _))))
    refine wpQuiet_nil ?_
    intro _ hw'
    obtain ⟨y, rfl⟩ := hw'
    clear l0 l1 hv
    have hB := below_step HB.out (later_below w1 y)
    have he1 := ((later_below w1 y).block _ (heap_lt HE.out)).trans HE.out
    generalize later w1 y = w2 at hB he1 ⊢
    obtain ⟨x0, x1, x2, x3, x4, x5⟩ := ino_cells he1
    clear he1 HRl
    dsimp only at x2
    by_cases hk : xk = 1
    · have hk' : (xk == 1) = true := beq_iff_eq.2 hk
      rw [if_pos hk] at hb
      clear hk
      have hk2 : (k == 1) = b := by rw [hb]; exact beq_dec _ _
      clear hb
      go_wp2_with fail
      go_ret
      exact ⟨by first | rfl | rw [← hk2], hB⟩
    · have hk' : (xk == 1) = false := beq_eq_false_iff_ne.2 hk
      rw [if_neg hk] at hb
      clear hk
      by_cases h1 : 1 ≤ k
      · by_cases h6 : k ≤ 6
        · rw [decide_eq_true ⟨h1, h6⟩] at hb
          subst hb
          go_wp2_with fail
          go_ret
          exact ⟨by first | rfl | simp [h1, h6], hB⟩
        · rw [decide_eq_false (fun q => h6 q.2)] at hb
          subst hb
          go_wp2_with fail
          go_ret
          exact ⟨by first | rfl | simp [h1, h6], hB⟩
      · rw [decide_eq_false (fun q => h1 q.1)] at hb
        subst hb
        go_wp2_with fail
        go_ret
        exact ⟨by first | rfl | simp [h1], hB⟩

end Go.Proofs.YtlhdbccemgofjaaGreatDoor

/-
  The landed audit's questions about one inode, or one entry.
-/
namespace Go.Proofs.YtlhdbccemgofjaaGreatDoor
open Go.RowKit StampMath GraphMath OpMath

/-- May an inode's Id and kind be none? -/
def noneB (x : Ino) : Bool := !(mayB x.id.1 x.id.2 && decide (1 ≤ x.kind ∧ x.kind ≤ 3))

/-- May there be so many bytes of data in an inode of a kind? -/
def dataB (k : Int) (z : Int) : Bool := if k = 1 then decide (z = 0) else if k = 2 then decide (z ≤ 64) else if k = 3 then decide (1 ≤ z ∧ z ≤ 32) else true

/-- Are an inode's mode or data out of their bounds? -/
def muchB (x : Ino) : Bool := !(decide (0 ≤ x.mode ∧ x.mode ≤ 4095) && dataB x.kind x.data.size)

set_option maxRecDepth 100000 in
theorem isNone_code (x : Ino) (w : World) :
    Calls Tryz.prog 143 #[.agg (inoA x)] w fun e w' => e = .returned (.bool (noneB x)) ∧ Below w.heap.size w w' := by
  obtain ⟨b, hb⟩ : ∃ b, b = noneB x := ⟨_, rfl⟩
  rw [← hb]
  unfold noneB at hb
  have hb0 : Below w.heap.size w (w.alloc (.cells (inoA x) 54)) := (Below.refl _ _).alloc (Nat.le_refl _) _
  have he0 := heap_alloc_new w (.cells (inoA x) 54)
  obtain ⟨⟨i1, i2⟩, xk, xl, xm, xd⟩ := x
  dsimp only at hb
  obtain ⟨m, hm⟩ : ∃ m, m = mayB i1 i2 := ⟨_, rfl⟩
  have HM : Hid (∀ W : World, Calls Tryz.prog 108 #[.agg #[.int .i64 i1, .int .i64 i2]] W fun e w' => e = .returned (.bool m) ∧ Below W.heap.size W w') := fun W => by rw [hm]; exact may_any i1 i2 W
  rw [← hm] at hb
  clear hm
  have HE := Lib.hid he0
  clear he0
  unfold inoA
  go_enter Tryz.func143, Tryz.ntmps143
  go_wp2_with fail
  refine (HM.out _).mono ?_
  rintro e w2 ⟨rfl, hb2⟩
  have he2 := (hb2.block _ (heap_lt HE.out)).trans HE.out
  have hB := below_step hb0 hb2
  clear hb0 hb2 HE HM
  obtain ⟨x0, x1, x2, x3, x4, x5⟩ := ino_cells he2
  dsimp only at x2
  cases m with
  | false =>
    have hb' : b = true := by rw [hb]; rfl
    clear hb
    subst hb'
    go_wp2_with fail
    go_ret
    exact ⟨rfl, hB⟩
  | true =>
    rw [Bool.true_and] at hb
    by_cases h1 : 1 ≤ xk
    · by_cases h3 : xk ≤ 3
      · rw [decide_eq_true ⟨h1, h3⟩] at hb
        subst hb
        have q1 : decide (xk < 1) = false := decide_eq_false (by omega)
        have q3 : decide (xk > 3) = false := decide_eq_false (by omega)
        go_wp2_with fail
        go_ret
        exact ⟨by first | rfl | simp <;> omega, hB⟩
      · rw [decide_eq_false (fun q => h3 q.2)] at hb
        subst hb
        have q1 : decide (xk < 1) = false := decide_eq_false (by omega)
        have q3 : decide (xk > 3) = true := decide_eq_true (by omega)
        go_wp2_with fail
        go_ret
        exact ⟨by first | rfl | simp <;> omega, hB⟩
    · rw [decide_eq_false (fun q => h1 q.1)] at hb
      subst hb
      have q1 : xk < 1 := by omega
      go_wp2_with fail
      go_ret
      exact ⟨by first | rfl | simp <;> omega, hB⟩

set_option maxRecDepth 100000 in
theorem nameless_code (x : Ent) (hs : x.name.size ≤ maxLen) (w : World) :
    Calls Tryz.prog 145 #[.agg (entA x)] w fun e w' => e = .returned (.bool (!nameB x.name)) ∧ Below w.heap.size w w' := by
  have hb0 : Below w.heap.size w (w.alloc (.cells (entA x) 93)) := (Below.refl _ _).alloc (Nat.le_refl _) _
  obtain ⟨⟨d1, d2⟩, nm, ⟨i1, i2⟩⟩ := x
  obtain ⟨b, hb⟩ : ∃ b, b = nameB nm := ⟨_, rfl⟩
  have HN : Hid (∀ W : World, Calls Tryz.prog 109 #[.string nm] W fun e w' => e = .returned (.bool b) ∧ W = w') := fun W => by rw [hb]; exact name_any _ hs W
  dsimp only
  rw [← hb]
  clear hb hs
  unfold entA
  go_enter Tryz.func145, Tryz.ntmps145
  go_wp2_with fail
  refine (HN.out _).mono ?_
  rintro e w2 ⟨rfl, rfl⟩
  go_wp2_with fail
  go_ret
  exact ⟨rfl, hb0⟩

set_option maxRecDepth 100000 in
theorem mayData_code (k z : Int) (w : World) :
    Calls Tryz.prog 180 #[.int .i64 k, .int .i64 z] w fun e w' => e = .returned (.bool (dataB k z)) ∧ w = w' := by
  obtain ⟨b, hb⟩ : ∃ b, b = dataB k z := ⟨_, rfl⟩
  rw [← hb]
  unfold dataB at hb
  by_cases k1 : k = 1
  · rw [if_pos k1] at hb
    have q1 : (k == 1) = true := beq_iff_eq.2 k1
    have hk : (z == 0) = b := by rw [hb]; exact beq_dec _ _
    clear hb k1
    go_enter Tryz.func180, Tryz.ntmps180
    go_wp2_with fail
    go_ret
    exact ⟨by first | rfl | rw [← hk], rfl⟩
  rw [if_neg k1] at hb
  have q1 : (k == 1) = false := beq_eq_false_iff_ne.2 k1
  clear k1
  by_cases k2 : k = 2
  · rw [if_pos k2] at hb
    have q2 : (k == 2) = true := beq_iff_eq.2 k2
    clear k2
    subst hb
    go_enter Tryz.func180, Tryz.ntmps180
    go_wp2_with fail
    go_ret
    exact ⟨rfl, rfl⟩
  rw [if_neg k2] at hb
  have q2 : (k == 2) = false := beq_eq_false_iff_ne.2 k2
  clear k2
  by_cases k3 : k = 3
  · rw [if_pos k3] at hb
    have q3 : (k == 3) = true := beq_iff_eq.2 k3
    clear k3
    by_cases h1 : 1 ≤ z
    · by_cases h6 : z ≤ 32
      · rw [decide_eq_true ⟨h1, h6⟩] at hb
        subst hb
        go_enter Tryz.func180, Tryz.ntmps180
        go_wp2_with fail
        go_ret
        exact ⟨by first | rfl | simp [h1, h6], rfl⟩
      · rw [decide_eq_false (fun q => h6 q.2)] at hb
        subst hb
        go_enter Tryz.func180, Tryz.ntmps180
        go_wp2_with fail
        go_ret
        exact ⟨by first | rfl | simp [h1, h6], rfl⟩
    · rw [decide_eq_false (fun q => h1 q.1)] at hb
      subst hb
      go_enter Tryz.func180, Tryz.ntmps180
      go_wp2_with fail
      go_ret
      exact ⟨by first | rfl | simp [h1], rfl⟩
  rw [if_neg k3] at hb
  have q3 : (k == 3) = false := beq_eq_false_iff_ne.2 k3
  clear k3
  subst hb
  go_enter Tryz.func180, Tryz.ntmps180
  go_wp2_with fail
  go_ret
  exact ⟨rfl, rfl⟩

set_option maxRecDepth 100000 in
theorem tooMuch_code (x : Ino) (hs : x.data.size ≤ maxLen) (w : World) :
    Calls Tryz.prog 152 #[.agg (inoA x)] w fun e w' => e = .returned (.bool (muchB x)) ∧ Below w.heap.size w w' := by
  obtain ⟨b, hb⟩ : ∃ b, b = muchB x := ⟨_, rfl⟩
  rw [← hb]
  unfold muchB at hb
  have hb0 : Below w.heap.size w (w.alloc (.cells (inoA x) 54)) := (Below.refl _ _).alloc (Nat.le_refl _) _
  obtain ⟨⟨i1, i2⟩, xk, xl, xm, xd⟩ := x
  dsimp only at hb hs
  have hs' : xd.size ≤ 9223372036854775807 := by unfold maxLen at hs; omega
  clear hs
  obtain ⟨d, hd⟩ : ∃ d, d = dataB xk xd.size := ⟨_, rfl⟩
  have HM : Hid (∀ W : World, Calls Tryz.prog 180 #[.int .i64 xk, .int .i64 (xd.size : Int)] W fun e w' => e = .returned (.bool d) ∧ W = w') := fun W => by rw [hd]; exact mayData_code xk _ W
  rw [← hd] at hb
  clear hd
  unfold inoA
  by_cases h1 : 0 ≤ xm
  · by_cases h3 : xm ≤ 4095
    · rw [decide_eq_true ⟨h1, h3⟩, Bool.true_and] at hb
      subst hb
      have q1 : decide (xm < 0) = false := decide_eq_false (by omega)
      have q3 : decide (xm > 4095) = false := decide_eq_false (by omega)
      go_enter Tryz.func152, Tryz.ntmps152
      go_wp2_with fail
      refine (HM.out _).mono ?_
      rintro e w2 ⟨rfl, rfl⟩
      go_wp2_with fail
      go_ret
      exact ⟨rfl, hb0⟩
    · rw [decide_eq_false (fun q => h3 q.2), Bool.false_and] at hb
      subst hb
      have q1 : decide (xm < 0) = false := decide_eq_false (by omega)
      have q3 : xm > 4095 := by omega
      go_enter Tryz.func152, Tryz.ntmps152
      go_wp2_with fail
      go_ret
      exact ⟨by first | rfl | simp <;> omega, hb0⟩
  · rw [decide_eq_false (fun q => h1 q.1), Bool.false_and] at hb
    subst hb
    have q1 : xm < 0 := by omega
    go_enter Tryz.func152, Tryz.ntmps152
    go_wp2_with fail
    go_ret
    exact ⟨by first | rfl | simp <;> omega, hb0⟩

/-! ### the closures -/

/-- In the block of a captured variable lie the lists. -/
abbrev listsA (A A' : Option Addr) (n c m d bk bl : Nat) : Array Value := #[.slice A n c, .slice A' m d, .map (some bk), .map (some bl)]

theorem lists_cells {w : World} {g : Nat} {A A' : Option Addr} {n c m d bk bl : Nat} {T : TypeId} (h : w.heap[g]? = some (.cells (listsA A A' n c m d bk bl) T (0, 0))) :
    w.cell? ⟨g, 0, none⟩ = some (.slice A n c) ∧ w.cell? ⟨g, 1, none⟩ = some (.slice A' m d) ∧ w.cell? ⟨g, 2, none⟩ = some (.map (some bk)) ∧ w.cell? ⟨g, 3, none⟩ = some (.map (some bl)) :=
  ⟨cell_of_row _ _ 0 _ _ (0, 0) h, cell_of_row _ _ 1 _ _ (0, 0) h, cell_of_row _ _ 2 _ _ (0, 0) h, cell_of_row _ _ 3 _ _ (0, 0) h⟩

/-- Is an entry lost? -/
def lostB (N : List Ino) (x : Ent) : Bool := !(decide (kindI N x.dir = some 1) && (kindI N x.ino).isSome)

set_option maxRecDepth 100000 in
theorem lostClo_code (A A' : Option Addr) (n c m d bk bl g : Nat) (N : List Ino) (E : List Ent) (x : Ent) (w : World) (hg : w.heap[g]? = some (.cells (listsA A A' n c m d bk bl) 127 (0, 0))) (h : Looked w bk bl N E) :
    Calls Tryz.prog 146 #[.agg (entA x), .pointer (some ⟨g, 0, none⟩)] w fun e w' => e = .returned (.bool (lostB N x)) ∧ Below w.heap.size w w' := by
  have HD : Hid (∀ W : World, Below w.heap.size w W → Calls Tryz.prog 140 #[.agg #[.slice A n c, .slice A' m d, .map (some bk), .map (some bl)], .agg #[.int .i64 x.dir.1, .int .i64 x.dir.2]] W fun e w' => e = .returned (.bool (decide (kindI N x.dir = some 1))) ∧ Below W.heap.size W w') := fun W hW => isDir_code A A' n c m d bk bl N E x.dir W (h.below hW)
  have HI : Hid (∀ W : World, Below w.heap.size w W → Calls Tryz.prog 147 #[.agg #[.slice A n c, .slice A' m d, .map (some bk), .map (some bl)], .agg #[.int .i64 x.ino.1, .int .i64 x.ino.2]] W fun e w' => e = .returned (.bool (kindI N x.ino).isSome) ∧ Below W.heap.size W w') := fun W hW => has_code A A' n c m d bk bl N E x.ino W (h.below hW)
  unfold lostB
  generalize decide (kindI N x.dir = some 1) = p at HD ⊢
  generalize (kindI N x.ino).isSome = q at HI ⊢
  clear h
  have hlt := heap_lt hg
  have hb0 : Below w.heap.size w (w.alloc (.cells (entA x) 93)) := (Below.refl _ _).alloc (Nat.le_refl _) _
  have he0 := heap_alloc_new w (.cells (entA x) 93)
  have hg0 := (hb0.block _ hlt).trans hg
  have HE := Lib.hid he0
  have HG := Lib.hid hg0
  obtain ⟨s0, s1, s2, s3⟩ := lists_cells hg
  clear he0 hg0 hg
  obtain ⟨⟨d1, d2⟩, nm, ⟨i1, i2⟩⟩ := x
  unfold entA
  go_enter Tryz.func146, Tryz.ntmps146
  go_wp2_with fail
  refine (HD.out _ hb0).mono ?_
  rintro e w2 ⟨rfl, hb2⟩
  cases p with
  | false =>
    go_wp2_with fail
    go_ret
    exact ⟨rfl, below_step hb0 hb2⟩
  | true =>
    have he2 := (hb2.block _ (heap_lt HE.out)).trans HE.out
    have hg2 := (hb2.block _ (heap_lt HG.out)).trans HG.out
    have hB := below_step hb0 hb2
    clear hb0 hb2 s0 s1 s2 s3
    obtain ⟨s0, s1, s2, s3⟩ := lists_cells hg2
    obtain ⟨e0, e1, e2, e3, e4⟩ := ent_cells he2
    clear he2 hg2
    go_wp2_with fail
    refine (HI.out _ hB).mono ?_
    rintro e w3 ⟨rfl, hb3⟩
    go_wp2_with fail
    go_ret
    exact ⟨rfl, below_step hB hb3⟩

set_option maxRecDepth 100000 in
theorem countClo_code (A A' : Option Addr) (n c m d bk bl g : Nat) (N : List Ino) (E : List Ent) (x : Ino) (w : World) (hg : w.heap[g]? = some (.cells (listsA A A' n c m d bk bl) 127 (0, 0))) (h : Looked w bk bl N E) :
    Calls Tryz.prog 148 #[.agg (inoA x), .pointer (some ⟨g, 0, none⟩)] w fun e w' => e = .returned (.bool (!decide (x.links = (linksE E x.id : Int)))) ∧ Below w.heap.size w w' := by
  have hb0 : Below w.heap.size w (w.alloc (.cells (inoA x) 54)) := (Below.refl _ _).alloc (Nat.le_refl _) _
  have he0 := heap_alloc_new w (.cells (inoA x) 54)
  have hg0 := (hb0.block _ (heap_lt hg)).trans hg
  have hL := fun y => (h.below (below_step hb0 (later_below _ y))).link x.id
  obtain ⟨b, hb⟩ : ∃ b, b = decide (x.links = (linksE E x.id : Int)) := ⟨_, rfl⟩
  rw [← hb]
  clear h hg
  obtain ⟨⟨i1, i2⟩, xk, xl, xm, xd⟩ := x
  dsimp only at hb hL
  unfold inoA
  generalize (linksE E (i1, i2) : Int) = k at hb hL
  have hv : (xl != k) = !b := by rw [hb, ← beq_dec]; rfl
  clear hb
  go_enter Tryz.func148, Tryz.ntmps148
  go_upto_region 1 with fail
  change Code.wp _ _ _ _ (w.alloc (.cells (inoA ⟨(i1, i2), xk, xl, xm, xd⟩) 54))
  generalize w.alloc (.cells (inoA ⟨(i1, i2), xk, xl, xm, xd⟩) 54) = w1 at he0 hb0 hg0 hL ⊢
  obtain ⟨x0, x1, x2, x3, x4, x5⟩ := ino_cells he0
  obtain ⟨s0, s1, s2, s3⟩ := lists_cells hg0
  have l0 := later_cell x0
  have l1 := later_cell x1
  have l3 := later_cell x3
  have k3 := later_cell s3
  clear x0 x1 x2 x3 x4 x5 s0 s1 s2 s3 he0 hg0
  have HB := Lib.hid hb0
  clear hb0
  refine wp_region_later (by kernel_rfl) (by kernel_rfl) ?_
  repeat (go_big_quiet_step (fail))
  refine wpQuiet_nil ?_
  intro _ hw'
  obtain ⟨y, rfl⟩ := hw'
  clear l0 l1 l3 k3 hL
  go_wp2_with fail
  go_ret
  exact ⟨by first | rfl | rw [← hv], below_step HB.out (later_below w1 y)⟩

set_option maxRecDepth 100000 in
theorem linkClo_code (A A' : Option Addr) (n c m d bk bl g : Nat) (N : List Ino) (E : List Ent) (x : Ino) (w : World) (hg : w.heap[g]? = some (.cells (listsA A A' n c m d bk bl) 127 (0, 0))) (h : Looked w bk bl N E) :
    Calls Tryz.prog 149 #[.agg (inoA x), .pointer (some ⟨g, 0, none⟩)] w fun e w' => e = .returned (.bool (!manyB x (linksE E x.id : Nat))) ∧ Below w.heap.size w w' := by
  have hb0 : Below w.heap.size w (w.alloc (.cells (inoA x) 54)) := (Below.refl _ _).alloc (Nat.le_refl _) _
  have he0 := heap_alloc_new w (.cells (inoA x) 54)
  have hg0 := (hb0.block _ (heap_lt hg)).trans hg
  have hL := fun y => (h.below (below_step hb0 (later_below _ y))).link x.id
  have hM := fun W => mayLinks_code x (linksE E x.id : Nat) W
  obtain ⟨b, hb⟩ : ∃ b, b = manyB x (linksE E x.id : Nat) := ⟨_, rfl⟩
  rw [← hb]
  rw [← hb] at hM
  clear h hg hb
  obtain ⟨⟨i1, i2⟩, xk, xl, xm, xd⟩ := x
  dsimp only at hL hM
  unfold inoA at hM ⊢
  generalize (linksE E (i1, i2) : Int) = k at hM hL
  go_enter Tryz.func149, Tryz.ntmps149
  go_upto_region 1 with fail
  change Code.wp _ _ _ _ (w.alloc (.cells (inoA ⟨(i1, i2), xk, xl, xm, xd⟩) 54))
  generalize w.alloc (.cells (inoA ⟨(i1, i2), xk, xl, xm, xd⟩) 54) = w1 at he0 hb0 hg0 hL ⊢
  obtain ⟨x0, x1, x2, x3, x4, x5⟩ := ino_cells he0
  obtain ⟨s0, s1, s2, s3⟩ := lists_cells hg0
  have l0 := later_cell x0
  have l1 := later_cell x1
  have l2 := later_cell x2
  have l3 := later_cell x3
  have l4 := later_cell x4
  have l5 := later_cell x5
  have k3 := later_cell s3
  clear x0 x1 x2 x3 x4 x5 s0 s1 s2 s3 he0 hg0
  have HB := Lib.hid hb0
  have HMl := Lib.hid fun (y : World) => later_call (hM (later w1 y))
  clear hb0 hM
  refine wp_region_later (by kernel_rfl) (by kernel_rfl) ?_
  repeat (go_big_quiet_step (first | (with_reducible exact HMl.out _)))
  refine wpQuiet_nil ?_
  intro _ hw'
  obtain ⟨y, rfl⟩ := hw'
  clear l0 l1 l2 l3 l4 l5 k3 hL
  go_wp2_with fail
  go_ret
  exact ⟨rfl, below_step HB.out (later_below w1 y)⟩

end Go.Proofs.YtlhdbccemgofjaaGreatDoor

/-
  The library's slices.Backward at inodes: an iterator that reads a slice from its end on, while the round writes maps and new blocks alone.
-/
namespace Go.Proofs.YtlhdbccemgofjaaGreatDoor
open Go.RowKit StampMath GraphMath

attribute [local go_sem] Oper.semAt_some

/-- All blocks of cells are as they were. -/
def KeepsRows (W W' : World) : Prop := ∀ (k : Nat) (o : Obj), W.heap[k]? = some o → o.isCells = true → W'.heap[k]? = some o

theorem KeepsRows.trans {A B C : World} (h : KeepsRows A B) (k : KeepsRows B C) : KeepsRows A C := fun i o hi ho => k i o (h i o hi ho) ho
theorem KeepsRows.alloc (W : World) (o : Obj) : KeepsRows W (W.alloc o) := fun _ _ hi _ => (heap_alloc_old _ _ (heap_lt hi)).trans hi
theorem KeepsRows.of_but {W W' : World} {S : Nat → Prop} (h : But S W W') (hS : ∀ i o, S i → W.heap[i]? = some o → o.isCells = false) : KeepsRows W W' := fun i o hi ho => by
  refine (h.block i (heap_lt hi) fun hs => ?_).trans hi
  rw [hS i o hs hi] at ho
  cases ho
theorem KeepsRows.putObj {W : World} {l : Nat} {o : Obj} (o' : Obj) (h : W.heap[l]? = some o) (hc : o.isCells = false) : KeepsRows W (W.putObj l o') := fun i o'' hi ho => by
  by_cases e : i = l
  · subst e
    rw [h] at hi
    cases hi
    rw [hc] at ho
    cases ho
  · exact (World.putObj_heap_other e).trans hi

theorem KeepsRows.cell {W W' : World} (h : KeepsRows W W') {a : Addr} {v : Value} (hc : W.cell? a = some v) : W'.cell? a = some v := by
  have hlt := World.block_lt_of_cell? _ _ hc
  obtain ⟨o, ho⟩ : ∃ o, W.heap[a.block]? = some o := ⟨_, Array.getElem?_eq_getElem hlt⟩
  have hcells : o.isCells = true := by
    cases o with
    | cells _ _ _ => rfl
    | _ => simp [World.cell?, ho] at hc
  rw [World.cell?_of_block ((h _ _ ho hcells).trans ho.symm)]
  exact hc

theorem KeepsRows.tab {W W' : World} (h : KeepsRows W W') {k B : Nat} {A : Option Addr} {n : Nat} {rows : List (Array Value)} (ht : TabIn k W B A n rows) : TabIn k W' B A n rows :=
  ⟨ht.1, fun hn => by
    obtain ⟨g, o, e, hg, hc⟩ := ht.2 hn
    exact ⟨g, o, e, hg, fun j hj i v hv => h.cell (hc j hj i v hv)⟩⟩

/-- What a round hands on: a number and its inode. -/
abbrev backed (x : Int × Ino) : Array Value := #[.int .i64 x.1, .agg (inoA x.2)]

theorem backward_code (v : Value) (A : Option Addr) (n c : Nat) (hv : v = .slice A n c) (w : World) :
    Calls Tryz.prog 153 #[v] w fun e w' => e = .returned (.func (.func 181) #[] #[.pointer (some ⟨w.heap.size, 0, none⟩)]) ∧ w' = w.alloc (.cells #[.slice A n c] 27) := by
  subst hv
  go_enter Tryz.func153, Tryz.ntmps153
  go_wp2_with fail
  go_ret
  exact ⟨rfl, rfl⟩

set_option maxRecDepth 100000 in
set_option maxHeartbeats 2000000 in
theorem backward_in (nf : Nat) (hf : 1 ≤ nf) (l Bn : Nat) (A : Option Addr) (n c : Nat) (N : List Ino) (hn : n ≤ 1000) (J Jx : List (Int × Ino) → World → Prop) (W0 : World)
    (hY : ∀ pre x W, J pre W → pre.length < 1001 → YieldAt Fence.wide (nf - 1) Tryz.prog l (backed x) W fun e W' =>
      (e = .returned (.bool true) ∧ J (pre ++ [x]) W' ∧ KeepsRows W W') ∨ (e = .returned (.bool false) ∧ Jx (pre ++ [x]) W'))
    (hc : W0.heap[Bn]? = some (.cells #[.slice A n c] 27 (0, 0))) (hin : InosIn W0 W0.heap.size A n N) (h0 : J [] W0) :
    CallsIn Fence.wide nf Tryz.prog 181 #[.func (.yield l) #[] #[], .pointer (some ⟨Bn, 0, none⟩)] W0 fun e W' => (∃ v, e = .returned v) ∧
      ((∃ ys : List (Int × Ino), ys.map Prod.snd = N.reverse ∧ J ys W') ∨ (∃ pre, True ∧ Jx pre W')) := by
  have hl := hin.len
  have HI := Lib.hid hin
  have c0 : W0.cell? ⟨Bn, 0, none⟩ = some (.slice A n c) := cell_of_row _ _ 0 _ _ (0, 0) hc
  clear hin
  refine callsIn_of_wp Tryz.func181 rfl trivial ?_ rfl
  simp only [Tryz.ntmps181, List.size_toArray, List.length_cons, List.length_nil, Nat.reduceAdd, Nat.reduceSub, Array.replicate_succ, Array.replicate_zero, List.push_toArray, List.append_toArray, List.nil_append, List.cons_append]
  gi_wp2_with fail
  gi_loopg [3] (n + 1) (fun gk vi wr => ∃ (k : Nat) (i : Int) (pre : List (Int × Ino)), vi = .int .i64 i ∧ i = (k : Int) - 1 ∧ gk = k + 1 ∧ k ≤ n ∧ pre.length + k = n ∧ Hid (pre.map Prod.snd = (N.drop k).reverse) ∧ Hid (J pre wr) ∧ wr.heap[Bn]? = some (.cells #[.slice A n c] 27 (0, 0)) ∧ Hid (InosIn wr W0.heap.size A n N))
  case atStart =>
    exact ⟨n, _, [], by go_num, rfl, by omega, by omega, by simp, by rw [List.drop_of_length_le (by omega)]; rfl, h0, hc, HI.out⟩
  case round =>
    obtain ⟨k, i, pre, rfl, hi, rfl, hk, hpre, hp, hJ, hcell, hin⟩ := hrel
    clear c0
    have c0 : wr.cell? ⟨Bn, 0, none⟩ = some (.slice A n c) := cell_of_row _ _ 0 _ _ (0, 0) hcell
    cases k with
    | zero =>
      have hi0 : decide (i ≥ 0) = false := decide_eq_false (by omega)
      clear hi
      gi_wp2_with fail
      go_end0
      exact ⟨⟨_, rfl⟩, .inl ⟨pre, by rw [hp.out]; rfl, hJ.out⟩⟩
    | succ j =>
      obtain rfl : i = (j : Int) := by omega
      clear hi
      obtain ⟨g, o, rfl, hg, hrow⟩ := hin.out.row (by omega)
      obtain ⟨e0, e1, e2, e3, e4, e5⟩ := hrow j (by omega)
      clear hrow
      have hnext : ((pre ++ [((j : Int), N[j])]).map Prod.snd) = (N.drop j).reverse := by
        rw [List.map_append, hp.out, List.drop_eq_getElem_cons (show j < N.length by omega), List.reverse_cons]
        rfl
      have hy0 := hY pre ((j : Int), N[j]) wr hJ.out (by omega)
      generalize N[j] = x at e0 e1 e2 e3 e4 e5 hnext hy0
      have HN := Lib.hid hnext
      clear hnext
      obtain ⟨⟨i1, i2⟩, xk, xl, xm, xd⟩ := x
      obtain ⟨fn, tmps, assign, body, hy, hRd⟩ := hy0
      simp only [inoA, backed] at hy
      dsimp only at e0 e1 e2 e3 e4 e5
      have HRd := Lib.hid hRd
      clear hRd hp hJ
      gi_wp2_with fail
      refine HRd.out.mono ?_
      rintro e W3 (⟨rfl, hJ3, hk3⟩ | ⟨rfl, hJx3⟩)
      · have hcell3 := hk3 _ _ hcell rfl
        have hin3 : InosIn W3 W0.heap.size (some ⟨g, o, none⟩) n N := hk3.tab hin.out
        clear hy e0 e1 e2 e3 e4 e5 c0 hcell hin
        gi_wp2_with fail
        gi_roundg (j + 1)
        case measure => omega
        case rel => exact ⟨j, _, pre ++ [((j : Int), Ino.mk (i1, i2) xk xl xm xd)], by go_num, rfl, rfl, by omega, by rw [List.length_append]; simp; omega, HN, hJ3, hcell3, hin3⟩
      · clear hy
        gi_wp2_with fail
        refine bodyPost_ret (results_none rfl _ _ _) rfl ?_
        exact ⟨⟨_, rfl⟩, .inr ⟨_, trivial, hJx3⟩⟩

theorem backward_stops (nf : Nat) (hf : 1 ≤ nf) (Bn : Nat) (A : Option Addr) (n c : Nat) (N : List Ino) (hn : n ≤ 1000) (w : World) (hc : w.heap[Bn]? = some (.cells #[.slice A n c] 27 (0, 0))) (hin : InosIn w w.heap.size A n N) :
    SeqStopsK Fence.wide nf Tryz.prog 181 #[.pointer (some ⟨Bn, 0, none⟩)] backed KeepsRows (fun ys => ys.map Prod.snd = N.reverse) (fun _ => True) 1001 w := fun l J Jx W hW _ _ hY h0 =>
  backward_in nf hf l Bn A n c N hn J Jx W hY ((hW.block Bn (heap_lt hc)).trans hc) ((hin.below hW).more hW.size) h0

end Go.Proofs.YtlhdbccemgofjaaGreatDoor

/-
  The landed audit's look: what is looked up in inodes (by a range over slices.Backward) and in entries.
-/
namespace Go.Proofs.YtlhdbccemgofjaaGreatDoor
open Go.RowKit StampMath GraphMath

/-- What is looked up in inodes that came from the end on. -/
theorem kindI_cons (x : Ino) (N : List Ino) (id : St) : kindI (x :: N) id = if x.id = id then some x.kind else kindI N id := by
  unfold kindI
  rw [List.find?_cons]
  by_cases h : x.id = id
  · rw [decide_eq_true h, if_pos h]; rfl
  · rw [decide_eq_false h, if_neg h]

theorem off_of {K V : Type} [DecidableEq K] (L : List (K × V)) (k x : K) : lookL (offL L k) x = if k = x then none else lookL L x := by
  unfold lookL offL
  induction L with
  | nil => by_cases h : k = x <;> simp [h]
  | cons p l ih =>
    rw [List.filter_cons]
    by_cases hp : p.1 = k
    · rw [decide_eq_true hp, Bool.not_true, if_neg (by decide), ih, List.find?_cons]
      by_cases h : k = x
      · rw [if_pos h, if_pos h]
      · rw [if_neg h, if_neg h, decide_eq_false (by rw [hp]; exact h)]
    · rw [decide_eq_false hp, Bool.not_false, if_pos rfl, List.find?_cons, List.find?_cons]
      by_cases h : p.1 = x
      · rw [decide_eq_true h]
        have : ¬ k = x := fun q => hp (by rw [h, q])
        rw [if_neg this]
      · rw [decide_eq_false h]
        exact ih

theorem look_put {K V : Type} [DecidableEq K] (L : List (K × V)) (k : K) (v : V) (x : K) : lookL ((k, v) :: offL L k) x = if k = x then some v else lookL L x := by
  by_cases h : k = x
  · rw [if_pos h]
    unfold lookL
    rw [List.find?_cons, decide_eq_true h]
    rfl
  · rw [if_neg h]
    have : lookL ((k, v) :: offL L k) x = lookL (offL L k) x := by
      unfold lookL
      rw [List.find?_cons, decide_eq_false h]
    rw [this, off_of, if_neg h]

theorem links_snoc (E : List Ent) (k : Nat) (hk : k < E.length) (id : St) : (linksE (E.take (k + 1)) id : Int) = (linksE (E.take k) id : Int) + if E[k].ino = id then 1 else 0 := by
  rw [List.take_succ_eq_append_getElem hk]
  unfold linksE
  rw [List.filter_append, List.length_append, List.filter_cons]
  by_cases h : E[k].ino = id
  · simp [h]
  · simp [h]

/-- What a round of look's first loop holds: its own inode in a box. -/
def LkAt (A A' : Option Addr) (n c m d s : Nat) (x : Int × Ino) (a : Act) (W : World) : Prop :=
  ∃ q, a = { tmps := #[.slice A n c, .slice A' m d, undef, undef, .pointer (some ⟨s, 0, none⟩), .pointer (some ⟨s + 1 + 1 + 1, 0, none⟩), undef, .pointer (some ⟨q, 0, none⟩), undef, undef, .slice A n c, .slice A' m d, .map (some (s + 1)), .map (some (s + 1 + 1)), .agg #[.slice A n c, .slice A' m d, .map (some (s + 1)), .map (some (s + 1 + 1))], .slice A n c, .func (.func 181) #[] #[.pointer (some ⟨s + 1 + 1 + 1 + 1, 0, none⟩)], .int .i64 x.1, .agg (inoA x.2), undef, undef, undef, undef, undef, undef, undef, undef, undef, undef, undef, undef, undef, undef, undef, undef, undef, undef, undef, undef, undef, undef], defers := [] } ∧ W.heap[q]? = some (.cells (inoA x.2) 54 (0, 0))

theorem lk_own (A A' : Option Addr) (n c m d s B0 : Nat) (x : Int × Ino) (a : Act) : OwnFrom B0 (fun (_ : Unit) W => LkAt A A' n c m d s x a W) := by
  rintro _ W W' row ⟨q, ha, hq⟩ hg hr
  refine ⟨q, ha, (hg.block q (heap_lt hq) fun e => ?_).trans hq⟩
  obtain ⟨_, o, ho, hc⟩ := hr q e.symm
  rw [hq] at ho
  cases ho
  cases hc

/-- What lies in memory between the rounds of look's first loop. -/
structure LkI (w : World) (A A' : Option Addr) (n c m d s B0 : Nat) (pre : List (Int × Ino)) (W : World) : Prop where
  res : W.heap[s]? = some (.cells #[.slice none 0 0, .slice none 0 0, .map none, .map none] 127 (0, 0))
  lists : W.heap[s + 1 + 1 + 1]? = some (.cells #[.slice A n c, .slice A' m d, .map (some (s + 1)), .map (some (s + 1 + 1))] 127 (0, 0))
  kinds : ∃ K : List (St × Int), KMap stV iV W (s + 1) K ∧ ∀ id, lookL K id = kindI (pre.map Prod.snd).reverse id
  links : KMap stV iV W (s + 1 + 1) ([] : List (St × Int))
  below : Below w.heap.size w W
  size : B0 ≤ W.heap.size

theorem LkI.step {w : World} {A A' : Option Addr} {n c m d s B0 : Nat} {pre : List (Int × Ino)} {W W' : World} (h : LkI w A A' n c m d s B0 pre W) (hs : s + 1 + 1 + 1 < B0) (hb : Below w.heap.size w W') (hz : B0 ≤ W'.heap.size) (hk : ∀ k, k < B0 → W'.heap[k]? = W.heap[k]?) : LkI w A A' n c m d s B0 pre W' := by
  obtain ⟨K, k1, k2⟩ := h.kinds
  exact ⟨(hk _ (by omega)).trans h.res, (hk _ hs).trans h.lists, ⟨K, k1.kept (hk _ (by omega)), k2⟩, h.links.kept (hk _ (by omega)), hb, hz⟩

theorem lkI_own (w : World) (A A' : Option Addr) (n c m d s B0 : Nat) (hs : s + 1 + 1 + 1 < B0) (hw : w.heap.size ≤ B0) : OwnFrom B0 (fun (pre : List (Int × Ino)) W => LkI w A A' n c m d s B0 pre W) := by
  intro pre W W' row h hg hr
  refine h.step hs ?_ (Nat.le_trans h.size hg.size) fun k hk => hg.block k (by have := h.size; omega) fun e => by have := (hr k e.symm).1; omega
  exact h.below.grown hg h.below.size fun q e => by have := (hr q e).1; omega

theorem but_four (w : World) (s : Nat) (a b c d : Value) : But (fun i => i = s) w ((((w.setCell ⟨s, 0, none⟩ a).setCell ⟨s, 1, none⟩ b).setCell ⟨s, 2, none⟩ c).setCell ⟨s, 3, none⟩ d) := by
  refine But.setCell (But.setCell (But.setCell (But.setCell (But.refl (fun i => i = s) w) ?_ a) ?_ b) ?_ c) ?_ d
  all_goals exact Or.inl rfl

theorem four_put {w : World} {s : Nat} {x y z t : Value} {T : TypeId} (h : w.heap[s]? = some (.cells #[x, y, z, t] T (0, 0))) (a b c d : Value) :
    ((((w.setCell ⟨s, 0, none⟩ a).setCell ⟨s, 1, none⟩ b).setCell ⟨s, 2, none⟩ c).setCell ⟨s, 3, none⟩ d).heap[s]? = some (.cells #[a, b, c, d] T (0, 0)) := by
  rw [heap_setCell_same _ _ _ _ _ _ (heap_setCell_same _ _ _ _ _ _ (heap_setCell_same _ _ _ _ _ _ (heap_setCell_same _ _ _ _ _ _ h)))]
  rfl

section
attribute [local go_sem] Oper.semAt_some

set_option maxRecDepth 100000 in
set_option maxHeartbeats 4000000 in
theorem auLook_code (A A' : Option Addr) (n c m d : Nat) (N : List Ino) (E : List Ent) (w : World) (h : Given w A n N A' m E) :
    Calls Tryz.prog 103 #[.slice A n c, .slice A' m d] w fun e w' => ∃ bk bl, e = .returned (.agg #[.slice A n c, .slice A' m d, .map (some bk), .map (some bl)]) ∧ Looked w' bk bl N E ∧ Below w.heap.size w w' := by
  have hn := h.fewI
  have hm := h.fewE
  have hE := h.ents.len
  have HG := Lib.hid h
  clear h
  refine (callsIn_wide (n := 5)).1 ?_
  refine callsIn_of_wp_marks Tryz.func103 rfl trivial ?_ rfl
  simp only [Tryz.ntmps103, List.size_toArray, List.length_cons, List.length_nil, Nat.reduceAdd, Nat.reduceSub, Array.replicate_succ, Array.replicate_zero, List.push_toArray, List.append_toArray, List.nil_append, List.cons_append]
  have hmk : ∀ W : World, (Instr.makeMap 125 none).run Tryz.prog W = .ok (.map (some W.heap.size)) (W.alloc (.map #[] 0)) := fun _ => rfl
  gi_wp2_with fail
  refine ⟨trivial, (callsIn_wide.2 (backward_code _ A n c rfl _)).mono ?_⟩
  rintro e w' ⟨rfl, rfl⟩
  clear hmk
  gi_wp2_with fail
  have hH := (((((Held.refl w).alloc (.cells #[.slice none 0 0, .slice none 0 0, .map none, .map none] 127) rfl).alloc (g := w.heap.size + 1) (.map #[] 0) (by simp)).alloc (g := w.heap.size + 1 + 1) (.map #[] 0) (by simp)).alloc (g := w.heap.size + 1 + 1 + 1) (.cells #[.slice A n c, .slice A' m d, .map (some (w.heap.size + 1)), .map (some (w.heap.size + 1 + 1))] 127) (by simp)).alloc (g := w.heap.size + 1 + 1 + 1 + 1) (.cells #[.slice A n c] 27) (by simp)
  have hz0 : (((((w.alloc (.cells #[.slice none 0 0, .slice none 0 0, .map none, .map none] 127)).alloc (.map #[] 0)).alloc (.map #[] 0)).alloc (.cells #[.slice A n c, .slice A' m d, .map (some (w.heap.size + 1)), .map (some (w.heap.size + 1 + 1))] 127)).alloc (.cells #[.slice A n c] 27)).heap.size = w.heap.size + 1 + 1 + 1 + 1 + 1 := by simp
  generalize (((((w.alloc (.cells #[.slice none 0 0, .slice none 0 0, .map none, .map none] 127)).alloc (.map #[] 0)).alloc (.map #[] 0)).alloc (.cells #[.slice A n c, .slice A' m d, .map (some (w.heap.size + 1)), .map (some (w.heap.size + 1 + 1))] 127)).alloc (.cells #[.slice A n c] 27)) = W0 at hH hz0 ⊢
  have hI0 : LkI w A A' n c m d w.heap.size W0.heap.size [] W0 :=
    ⟨hH.at 4 rfl, hH.at 1 rfl, ⟨[], ⟨#[], 0, [], hH.at 3 rfl, MapKept.stamped_empty 0, rfl, List.Perm.nil⟩, fun id => rfl⟩, ⟨#[], 0, [], hH.at 2 rfl, MapKept.stamped_empty 0, rfl, List.Perm.nil⟩, hH.below, Nat.le_refl _⟩
  have hb4 := hH.at 0 rfl
  have hin : InosIn W0 W0.heap.size A n N := (HG.out.inos.below hH.below).more hH.below.size
  obtain ⟨s, hs⟩ : ∃ s, s = w.heap.size := ⟨_, rfl⟩
  rw [← hs] at hz0 hI0 hb4 ⊢
  have hsB : s + 1 + 1 + 1 < W0.heap.size := by omega
  have hws : w.heap.size ≤ s := Nat.le_of_eq hs.symm
  have hwB : w.heap.size ≤ W0.heap.size := by omega
  have HS := Lib.hid hs
  clear hH hs
  refine wpIn_rangeFunc_ownH rfl (by decide) (gf := 181) (lb := #[.pointer (some ⟨s + 1 + 1 + 1 + 1, 0, none⟩)]) rfl trivial (enters_of Tryz.func181 (by kernel_rfl) rfl)
    (backward_stops (5 - 1) (by decide) (s + 1 + 1 + 1 + 1) A n c N hn W0 hb4 hin) (fun h k => KeepsRows.trans h k) (fun W l o o' _ hl hc _ => KeepsRows.putObj o' hl hc) (Below.refl _ _) (fun _ => rfl)
    (fun (pre : List (Int × Ino)) W => LkI w A A' n c m d s W0.heap.size pre W)
    (fun _ _ _ => False)
    (lkI_own w A A' n c m d s _ hsB hwB)
    (fun _ _ _ _ _ hs _ _ => hs)
    hI0
    (fun x a' W => LkAt A A' n c m d s x a' W) (fun x a' => lk_own _ _ _ _ _ _ _ _ x a') ?assign ?body ?done ?stop
  case assign =>
    rintro l pre x W K hI hK
    have hK' := hK { tmps := #[.slice A n c, .slice A' m d, undef, undef, .pointer (some ⟨s, 0, none⟩), .pointer (some ⟨s + 1 + 1 + 1, 0, none⟩), undef, .pointer (some ⟨W.heap.size, 0, none⟩), undef, undef, .slice A n c, .slice A' m d, .map (some (s + 1)), .map (some (s + 1 + 1)), .agg #[.slice A n c, .slice A' m d, .map (some (s + 1)), .map (some (s + 1 + 1))], .slice A n c, .func (.func 181) #[] #[.pointer (some ⟨s + 1 + 1 + 1 + 1, 0, none⟩)], .int .i64 x.1, .agg (inoA x.2), undef, undef, undef, undef, undef, undef, undef, undef, undef, undef, undef, undef, undef, undef, undef, undef, undef, undef, undef, undef, undef, undef], defers := [] } (W.alloc (.cells (inoA x.2) 54))
      ((KeepsOthers.alloc _ _).from _) (KeepsRows.alloc _ _) (hI.step hsB (hI.below.alloc hI.below.size _) (by have := hI.size; simp; omega) fun k hk => heap_alloc_old _ _ (by have := hI.size; omega)) ⟨W.heap.size, rfl, heap_alloc_new _ _⟩
    have HK := Lib.hid hK'
    clear hK hK' hI hI0
    obtain ⟨xi, ⟨i1, i2⟩, xk, xl, xm, xd⟩ := x
    simp only [backed, inoA] at HK ⊢
    gi_wp2_with fail
    exact HK.out
  case body =>
    rintro l pre x a' W hl _ hI ⟨q, rfl, hq⟩ hlt
    have hsz2 := hI.size
    obtain ⟨K, k1, k2⟩ := hI.kinds
    obtain ⟨w1, hrun, hm1, hbut, hsz⟩ := k1.store stShape Tryz.underlying125 x.2.id x.2.kind
    simp only [stV, stA, iV] at hrun
    have hc := cell_of_row _ _ 2 _ _ (0, 0) hI.lists
    obtain ⟨x0, x1, x2, x3, x4, x5⟩ := ino_cells hq
    have HI := Lib.hid hI
    have HM := Lib.hid hm1
    have HB := Lib.hid hbut
    have HK := Lib.hid k2
    have hkc : ∃ o, W.heap[s + 1]? = some o ∧ o.isCells = false := by
      obtain ⟨es, cl, M, q1, _⟩ := k1
      exact ⟨_, q1, rfl⟩
    clear hI hI0 k1 k2 hm1 hbut
    obtain ⟨xi, ⟨i1, i2⟩, xk, xl, xm, xd⟩ := x
    dsimp only at hrun x0 x1 x2 x3 x4 x5
    gi_wp2_with fail
    have hbk : ∀ k, k ≠ s + 1 → k < W.heap.size → w1.heap[k]? = W.heap[k]? := fun k h1 h2 => HB.out.block k h2 h1
    have hbelow : Below w.heap.size w w1 := HI.out.below.trans (HB.out.below (fun i hi => by omega) HI.out.below.size)
    refine ⟨⟨HB.out.size, fun k o h1 h2 h3 => (hbk k (by omega) (heap_lt h2)).trans h2⟩, KeepsRows.of_but HB.out (fun i o hi ho => ?_), ⟨(hbk _ (by omega) (by omega)).trans HI.out.res, (hbk _ (by omega) (by omega)).trans HI.out.lists, ⟨_, HM.out, fun id => ?_⟩, HI.out.links.kept (hbk _ (by omega) (by omega)), hbelow, by omega⟩⟩
    · obtain ⟨o', h1, h2⟩ := hkc
      rw [hi, h1] at ho
      cases ho
      exact h2
    · rw [look_put, List.map_append, List.reverse_append]
      simp only [List.map_cons, List.map_nil, List.reverse_cons, List.reverse_nil, List.nil_append, List.singleton_append]
      rw [kindI_cons, HK.out id]
  case done =>
    rintro D ys W hD hS hI hK
    obtain ⟨K, k1, k2⟩ := hI.kinds
    have hkK : Hid (∀ id, lookL K id = kindI N id) := fun id => by
      rw [k2 id, hS, List.reverse_reverse]
    have hsD : s + 1 + 1 + 1 < D := by omega
    have r0 := hI.res
    have r3 := hI.lists
    have HK1 := Lib.hid k1
    have HL0 := Lib.hid hI.links
    have hB0 := hI.below
    have hz := hI.size
    clear hI hI0 k1 k2 hS hin hb4
    dsimp only [Exit.inBlock, Exit.then]
    apply_assumption
    refine wpIn_wide.2 ?_
    go_wp2_with fail
    go_loopg [27] (m + 1) (fun gk i wr => ∃ k : Nat, i = .int .i64 (k : Int) ∧ gk + k = m + 1 ∧ k ≤ m ∧ Hid (KMap stV iV wr (s + 1) K) ∧ Hid (∃ L : List (St × Int), KMap stV iV wr (s + 1 + 1) L ∧ ∀ id, (lookL L id).getD 0 = (linksE (E.take k) id : Int)) ∧ wr.heap[s]? = some (.cells #[.slice none 0 0, .slice none 0 0, .map none, .map none] 127 (0, 0)) ∧ wr.heap[s + 1 + 1 + 1]? = some (.cells #[.slice A n c, .slice A' m d, .map (some (s + 1)), .map (some (s + 1 + 1))] 127 (0, 0)) ∧ wr.heap[D]? = some (.deferred (some [])) ∧ Hid (Below w.heap.size w wr))
    case atStart => exact ⟨0, rfl, by omega, by omega, HK1, ⟨[], HL0.out, fun id => rfl⟩, r0, r3, hK, hB0⟩
    case round =>
      obtain ⟨k, rfl, hgk, hk, hKs, hLs, q0, q3, qD, hB⟩ := hrel
      clear r0 r3 hK hB0 HK1 HL0 hz
      have hD := heap_lt qD
      by_cases hlt : k < m
      · obtain ⟨g, o, rfl, hg, hrow⟩ := HG.out.ents.row (by omega)
        have hlow := hB.out.size
        obtain ⟨e0, e1, e2, e3, e4⟩ := (hrow k (by omega)).below hB.out hg
        clear hrow
        obtain ⟨L, l1, l2⟩ := hLs.out
        have hsn := fun id => links_snoc E k (by omega) id
        have hnum : (linksE (E.take k) E[k].ino : Int) ≤ 1000 := by have := linksE_le (E.take k) E[k].ino; rw [List.length_take] at this; omega
        generalize E[k] = x at e0 e1 e2 e3 e4 hsn hnum
        obtain ⟨⟨d1, d2⟩, nm, ⟨i1, i2⟩⟩ := x
        dsimp only at e0 e1 e2 e3 e4 hsn hnum
        have HSn := Lib.hid hsn
        clear hsn hLs
        go_upto_region 8 with fail
        change Code.wp _ _ _ _ (wr.alloc (.cells (entA ⟨(d1, d2), nm, (i1, i2)⟩) 93))
        obtain ⟨u, hu⟩ : ∃ u, u = wr.heap.size := ⟨_, rfl⟩
        have hDu : D < u := by omega
        have t9 : (wr.alloc (.cells (entA ⟨(d1, d2), nm, (i1, i2)⟩) 93)).heap[u]? = some (.cells (entA ⟨(d1, d2), nm, (i1, i2)⟩) 93 (0, 0)) := by rw [hu]; exact heap_alloc_new _ _
        have hbA : Below wr.heap.size wr (wr.alloc (.cells (entA ⟨(d1, d2), nm, (i1, i2)⟩) 93)) := (Below.refl _ _).alloc (Nat.le_refl _) _
        rw [← hu]
        generalize wr.alloc (.cells (entA ⟨(d1, d2), nm, (i1, i2)⟩) 93) = w2 at t9 hbA ⊢
        have hB2 := below_step hB.out hbA
        have HK2 := Lib.hid (hKs.out.kept (hbA.block _ (by omega)))
        have l12 := l1.kept (hbA.block _ (by omega))
        have p0 := (hbA.block _ (by omega)).trans q0
        have p3 := (hbA.block _ (by omega)).trans q3
        have pD := (hbA.block _ hD).trans qD
        clear hbA hB hKs l1 q0 q3 qD e0 e1 e2 e3 e4 hu hlow hD
        obtain ⟨e0, e1, e2, e3, e4⟩ := ent_cells t9
        have c3 := cell_of_row _ _ 3 _ _ (0, 0) p3
        obtain ⟨v, hv⟩ : ∃ v, v = (linksE (E.take k) (i1, i2) : Int) := ⟨_, rfl⟩
        have hv2 : (lookL L (i1, i2)).getD 0 = v := by rw [hv]; exact l2 (i1, i2)
        have hwr : wrap64 (v + 1) = v + 1 := by
          have : 0 ≤ v := by omega
          unfold wrap64
          omega
        have l13 : KMap stV iV w2.drew (s + 1 + 1) L := l12
        obtain ⟨st, w3, hrun, hm3, hbut3, hsz3, hslot⟩ := l13.entry stShape Tryz.underlying125 0 zeroI (i1, i2)
        rw [hv2] at hrun hm3
        have hl2 := l13.look stShape Tryz.underlying125 (zeroI _) (i1, i2) false
        rw [if_neg (by decide), show ((lookL L (i1, i2)).map iV).getD (iV 0) = iV ((lookL L (i1, i2)).getD 0) by cases lookL L (i1, i2) <;> rfl, hv2] at hl2
        have hl3 := hm3.look stShape Tryz.underlying125 (zeroI _) (i1, i2) false
        rw [if_neg (by decide), look_put, if_pos rfl] at hl3
        obtain ⟨w4, hst, hm4, hbut4, hsz4⟩ := hslot w3 rfl (v + 1)
        simp only [stV, stA, iV, Option.map_some, Option.getD_some] at hrun hl2 hl3 hst
        have HM4 := Lib.hid hm4
        have hbut5 : But (fun i => i = s + 1 + 1) w2 w4 := (But.of_below (w := w2) (w' := w2.drew) (Below.refl _ _).drew).trans (hbut3.trans hbut4 fun i hi _ => hi) fun i hi _ => hi
        have HB5 := Lib.hid hbut5
        have HL2 := Lib.hid l2
        have HV := Lib.hid hv
        clear hm3 hm4 hbut3 hbut4 hslot l12 l13 l2 hv hv2 hnum hbut5 hsz3 hsz4
        go_region
        have h0 := (HB5.out.block _ (by have := heap_lt p0; omega) (by omega)).trans p0
        have h3 := (HB5.out.block _ (by have := heap_lt p3; omega) (by omega)).trans p3
        have hD := (HB5.out.block _ (by have := heap_lt pD; omega) (by omega)).trans pD
        have hKK := HK2.out.kept (HB5.out.block _ (by have := HK2.out.lt; omega) (by omega))
        have hBB := hB2.trans (HB5.out.below (fun i hi => by omega) hB2.size)
        have HSt : Hid (∀ id, (lookL (((i1, i2), v + 1) :: offL L (i1, i2)) id).getD 0 = (linksE (E.take (k + 1)) id : Int)) := fun id => by
          rw [look_put, HSn.out id]
          by_cases hid : ((i1, i2) : St) = id
          · rw [if_pos hid, if_pos hid, Option.getD_some, HV.out, hid]
          · rw [if_neg hid, if_neg hid, HL2.out id]
            omega
        clear hrun hl2 hl3 hst e0 e1 e2 e3 e4 c3 t9 p0 p3 pD
        go_wp2_with fail
        go_roundg (gk - 1)
        case measure => omega
        case rel => exact ⟨k + 1, by go_num, by omega, by omega, hKK, ⟨_, HM4.out, HSt.out⟩, h0, h3, hD, hBB⟩
      · obtain ⟨L, l1, l2⟩ := hLs.out
        have HLk : Hid (Looked wr (s + 1) (s + 1 + 1) N E) := ⟨⟨K, hKs.out, hkK.out⟩, ⟨L, l1, fun id => by rw [l2 id, List.take_of_length_le (by omega)]⟩⟩
        clear hLs l1 l2
        obtain ⟨c0, c1, c2, c3⟩ := lists_cells q3
        have f0 := frozen_of_row _ _ 0 _ _ q0
        have f1 := frozen_of_row _ _ 1 _ _ q0
        have f2 := frozen_of_row _ _ 2 _ _ q0
        have f3 := frozen_of_row _ _ 3 _ _ q0
        have z0 := cell_of_row _ _ 0 _ _ (0, 0) q0
        have z1 := cell_of_row _ _ 1 _ _ (0, 0) q0
        have z2 := cell_of_row _ _ 2 _ _ (0, 0) q0
        have z3 := cell_of_row _ _ 3 _ _ (0, 0) q0
        go_wp2_with fail
        have hbut : But (fun i => i = s) wr ((((wr.setCell ⟨s, 0, none⟩ (.slice A n c)).setCell ⟨s, 1, none⟩ (.slice A' m d)).setCell ⟨s, 2, none⟩ (.map (some (s + 1)))).setCell ⟨s, 3, none⟩ (.map (some (s + 1 + 1)))) :=
          but_four wr s _ _ _ _
        have h4 : ((((wr.setCell ⟨s, 0, none⟩ (.slice A n c)).setCell ⟨s, 1, none⟩ (.slice A' m d)).setCell ⟨s, 2, none⟩ (.map (some (s + 1)))).setCell ⟨s, 3, none⟩ (.map (some (s + 1 + 1)))).heap[s]? = some (.cells #[.slice A n c, .slice A' m d, .map (some (s + 1)), .map (some (s + 1 + 1))] 127 (0, 0)) := four_put q0 _ _ _ _
        generalize ((((wr.setCell ⟨s, 0, none⟩ (.slice A n c)).setCell ⟨s, 1, none⟩ (.slice A' m d)).setCell ⟨s, 2, none⟩ (.map (some (s + 1)))).setCell ⟨s, 3, none⟩ (.map (some (s + 1 + 1)))) = w4 at hbut h4 ⊢
        have hD4 := hbut.heap qD (by omega)
        have hb4 := hB.out.trans (hbut.below (fun i hi => by omega) hB.out.size)
        have hk4 := HLk.out.kept (W' := w4) (hbut.block _ HLk.out.lt.1 (by omega)) (hbut.block _ HLk.out.lt.2 (by omega))
        have hb5 := belowK_b (n₀ := w.heap.size) (w := w) (Nat.le_refl _) w4 D _ (.deferred none) (by omega) hD4 rfl rfl
        have hlow4 := heap_lt hD4
        have hDk := hb4.size
        have h5 : (w4.putObj D (.deferred none)).heap[s]? = _ := (World.putObj_heap_other (by omega)).trans h4
        have hk5 := hk4.kept (W' := w4.putObj D (.deferred none)) (World.putObj_heap_other (by omega)) (World.putObj_heap_other (by omega))
        obtain ⟨y0, y1, y2, y3⟩ := lists_cells h5
        refine ⟨by simp, .inl ⟨_, _, rfl, run_takeDeferred hD4, ?_⟩⟩
        exact ⟨.agg #[.slice A n c, .slice A' m d, .map (some (s + 1)), .map (some (s + 1 + 1))], by simp [results, Tryz.results103, go_sem, y0, y1, y2, y3], s + 1, s + 1 + 1, rfl, hk5, hb4.trans hb5⟩
  case stop =>
    rintro D c pre W _ _ h _
    exact h.elim
end

end Go.Proofs.YtlhdbccemgofjaaGreatDoor

/-
  The landed audit's reached: which Ids are reached, each once, as they are come to.
-/
namespace Go.Proofs.YtlhdbccemgofjaaGreatDoor
open Go.RowKit StampMath GraphMath OpMath

abbrev slV (v : Value) : Value := v
def unV (_ : Unit) : Value := .agg #[]
theorem zeroSl (w : World) : (zeroValue 161).run Tryz.prog w = .ok (slV (.slice none 0 0)) w := by kernel_rfl
theorem zeroUn (w : World) : (zeroValue 190).run Tryz.prog w = .ok (unV ()) w := by kernel_rfl
theorem st_infos : (Tryz.prog.info? 35).map (fun i => (i.zero, i.size, i.bytes)) = some (some (.agg #[.int .i64 0, .int .i64 0]), 2, 16) := by kernel_rfl
theorem st_one2 (x : St) : ∀ u ∈ (stA x).toList, u.oneCell' = true := by
  intro u hu
  simp [stA] at hu
  rcases hu with rfl | rfl <;> rfl

/-- The slice that stands at a key. -/
def valM (M : List (St × Value)) (s : St) : Value := (lookL M s).getD (.slice none 0 0)

/-- In the map lies what is right below each Id. -/
structure BelowI (W : World) (bB base : Nat) (N : List Ino) (E : List Ent) (M : List (St × Value)) : Prop where
  map : KMap stV slV W bB M
  rows : ∀ s, W.ownsRow base 35 2 (valM M s) (belowL N E s).length (flat ((belowL N E s).map stA))
  apart : ∀ s t b, (valM M s).ownBlock = some b → (valM M t).ownBlock = some b → s = t

theorem BelowI.below {W W' : World} {bB base : Nat} {N : List Ino} {E : List Ent} {M : List (St × Value)} (h : BelowI W bB base N E M) (hb : Below W.heap.size W W') : BelowI W' bB base N E M :=
  ⟨h.map.kept (hb.block _ h.map.lt), fun s => own_call (h.rows s) hb, h.apart⟩

/-- One more entry that doesn't lead anywhere. -/
theorem BelowI.same {W : World} {bB base : Nat} {N : List Ino} {E E' : List Ent} {M : List (St × Value)} (h : BelowI W bB base N E M) (he : ∀ s, belowL N E' s = belowL N E s) : BelowI W bB base N E' M :=
  ⟨h.map, fun s => by rw [he]; exact h.rows s, h.apart⟩

theorem BelowI.new {W : World} {bB base : Nat} {N : List Ino} (h : W.heap[bB]? = some (.map #[] 0)) : BelowI W bB base N [] [] :=
  ⟨⟨#[], 0, [], h, MapKept.stamped_empty 0, rfl, List.Perm.nil⟩, fun _ => World.ownsRow_nil _ _ _ _, fun _ _ _ h => by cases h⟩

theorem valM_put (M : List (St × Value)) (k : St) (v : Value) (s : St) : valM ((k, v) :: offL M k) s = if k = s then v else valM M s := by
  unfold valM
  rw [look_put]
  by_cases h : k = s <;> simp [h]

theorem flat_st (F : List St) (x : St) : flat (F.map stA) ++ (stA x).toList = flat ((F ++ [x]).map stA) := by simp [flat]

theorem grown_but {w w' : World} {b : Nat} (hb : But (fun i => i = b) w w') : w.grownBy w' (some b) := ⟨hb.os, hb.tape, hb.output, hb.size, fun i hi hn => hb.block i hi fun q => hn (by rw [q])⟩

/-- A row is kept through a write to another block. -/
theorem own_off {w w' : World} {base : Nat} {e : TypeId} {k : Nat} {v : Value} {n : Nat} {xs : List Value} (h : w.ownsRow base e k v n xs) {b : Nat} (hb : But (fun i => i = b) w w') (hne : ∀ j, v.ownBlock = some j → j ≠ b) : w'.ownsRow base e k v n xs :=
  h.kept (grown_but hb) (by
    cases hv : v.ownBlock with
    | none => exact .inl rfl
    | some j => exact .inr fun q => by cases q; exact hne _ hv rfl)

/-- One more entry that leads from a directory to an inode. -/
theorem BelowI.put {W W1 W2 W3 : World} {bB base : Nat} {N : List Ino} {E E' : List Ent} {M : List (St × Value)} {key ino : St} {v' : Value} (h : BelowI W bB base N E M) (hbase : bB < base)
    (he : ∀ s, belowL N E' s = belowL N E s ++ if key = s then [ino] else [])
    (h1 : But (fun i => i = bB) W W1) (h2 : W1.grownBy W2 (valM M key).ownBlock) (h3 : But (fun i => i = bB) W2 W3) (hm : KMap stV slV W3 bB ((key, v') :: offL M key))
    (hown : W2.ownsRow base 35 2 v' ((belowL N E key).length + 1) (flat ((belowL N E key).map stA) ++ (stA ino).toList)) (hat : v'.ownBlock = (valM M key).ownBlock ∨ v'.ownBlock = some W1.heap.size) : BelowI W3 bB base N E' ((key, v') :: offL M key) := by
  have hlow : ∀ s j, (valM M s).ownBlock = some j → base ≤ j ∧ j < W.heap.size := fun s j hj => (h.rows s).lt j hj
  refine ⟨hm, fun s => ?_, fun s t b hs ht => ?_⟩
  · rw [valM_put, he]
    by_cases hk : key = s
    · subst hk
      rw [if_pos rfl, if_pos rfl, List.length_append, ← flat_st]
      exact own_off hown h3 fun j hj => by have := (hown.lt j hj).1; omega
    · rw [if_neg hk, if_neg hk, List.append_nil]
      have r1 := own_off (h.rows s) h1 fun j hj => by have := (hlow s j hj).1; omega
      have r2 := r1.kept h2 (by
        cases hv : (valM M s).ownBlock with
        | none => exact .inl rfl
        | some j => exact .inr fun q => hk (h.apart key s j q.symm hv))
      exact own_off r2 h3 fun j hj => by have := (hlow s j hj).1; omega
  · rw [valM_put] at hs ht
    by_cases hks : key = s
    · by_cases hkt : key = t
      · rw [← hks, hkt]
      · rw [if_pos hks] at hs
        rw [if_neg hkt] at ht
        rcases hat with q | q
        · rw [hs] at q
          exact absurd (h.apart key t b q.symm ht) hkt
        · rw [hs] at q
          cases q
          have := (hlow t _ ht).2
          have := h1.size
          omega
    · rw [if_neg hks] at hs
      by_cases hkt : key = t
      · rw [if_pos hkt] at ht
        rcases hat with q | q
        · rw [ht] at q
          exact absurd (h.apart key s b q.symm hs) hks
        · rw [ht] at q
          cases q
          have := (hlow s _ hs).2
          have := h1.size
          omega
      · rw [if_neg hkt] at ht
        exact h.apart s t b hs ht

/-- A row of the call's own is no map. -/
theorem own_no_map {K V : Type} {ek : K → Value} {ev : V → Value} {w : World} {base : Nat} {e : TypeId} {k : Nat} {v : Value} {n : Nat} {xs : List Value} (h : w.ownsRow base e k v n xs) {b : Nat} {L : List (K × V)} (hm : KMap ek ev w b L) : ∀ j, v.ownBlock = some j → j ≠ b := by
  intro j hj hjb
  subst hjb
  obtain ⟨es, cl, M, q1, _⟩ := hm
  rcases h.2 with ⟨rfl, _⟩ | ⟨g, cap, cur, rfl, _, hg, _⟩
  · cases hj
  · cases hj
    rw [q1] at hg
    cases hg

theorem take_mem {α : Type} {L : List α} {j : Nat} (hj : j < L.length) {t : α} (h : t ∈ L.take (j + 1)) : t ∈ L.take j ∨ t = L[j] := by
  rw [List.take_succ_eq_append_getElem hj] at h
  rcases List.mem_append.1 h with h | h
  · exact .inl h
  · exact .inr (List.mem_singleton.1 h)

set_option maxRecDepth 100000 in
set_option maxHeartbeats 4000000 in
theorem reached_code (A A' : Option Addr) (n c m d bk bl : Nat) (N : List Ino) (E : List Ent) (w : World) (h : Given w A n N A' m E) (hL : Looked w bk bl N E) :
    Calls Tryz.prog 151 #[.agg #[.slice A n c, .slice A' m d, .map (some bk), .map (some bl)]] w fun e w' => ∃ (v : Value) (F : List St), e = .returned v ∧ F.Nodup ∧ (∀ s, s ∈ F ↔ Reached N E s) ∧ w'.ownsRow w.heap.size 35 2 v F.length (flat (F.map stA)) ∧ Below w.heap.size w w' := by
  have hm := h.fewE
  have hn := h.fewI
  have hE := h.ents.len
  have hNl := h.inos.len
  have HG := Lib.hid h
  have HL := Lib.hid hL
  obtain ⟨i0, hi0, hz0, hz1, hz2⟩ := info_parts st_infos
  have hb0 : Below w.heap.size w (w.alloc (.cells #[.slice A n c, .slice A' m d, .map (some bk), .map (some bl)] 127)) := (Below.refl _ _).alloc (Nat.le_refl _) _
  have he0 := heap_alloc_new w (.cells #[.slice A n c, .slice A' m d, .map (some bk), .map (some bl)] 127)
  clear h hL
  go_enter Tryz.func151, Tryz.ntmps151
  go_upto_region 1 with fail
  have hs0 : ∃ s, s = w.heap.size := ⟨_, rfl⟩
  obtain ⟨s, hs⟩ := hs0
  rw [← hs] at he0 ⊢
  have hws : w.heap.size ≤ s := Nat.le_of_eq hs.symm
  clear hs
  generalize w.alloc (.cells #[.slice A n c, .slice A' m d, .map (some bk), .map (some bl)] 127) = w1 at he0 hb0 ⊢
  have HB0 := Lib.hid hb0
  have HE0 := Lib.hid he0
  obtain ⟨b, hb⟩ : ∃ b, b = (kindI N (0, 0)).isSome := ⟨_, rfl⟩
  have HRl : Hid (∀ y, Calls Tryz.prog 141 #[] (later w1 y) fun e w' => e = .returned (.agg #[.int .i64 0, .int .i64 0]) ∧ ∃ z, w' = later w1 z) := fun y => later_call (auRoot_code _)
  have HHl : Hid (∀ y, Calls Tryz.prog 147 #[.agg #[.slice A n c, .slice A' m d, .map (some bk), .map (some bl)], .agg #[.int .i64 0, .int .i64 0]] (later w1 y) fun e w' => e = .returned (.bool b) ∧ ∃ z, w' = later w1 z) := fun y => later_call (by rw [hb]; exact has_code A A' n c m d bk bl N E (0, 0) _ (HL.out.below (below_step HB0.out (later_below w1 y))))
  obtain ⟨c0, c1, c2, c3⟩ := lists_cells he0
  have l0 := later_cell c0
  have l1 := later_cell c1
  have l2 := later_cell c2
  have l3 := later_cell c3
  have HBb := Lib.hid hb
  clear c0 c1 c2 c3 he0 hb0 hb
  cases b with
  | false =>
    have hno : Hid (∀ s, ¬ Reached N E s) := fun s => reached_none (by
      have := HBb.out
      cases hk : kindI N (0, 0) with
      | none => rfl
      | some _ => rw [hk] at this; cases this)
    refine wp_region_later (by kernel_rfl) (by kernel_rfl) ?_
    repeat (go_big_quiet_step (first | (with_reducible exact HRl.out _) | (with_reducible exact HHl.out _)))
    refine wpQuiet_nil ?_
    intro _ hw'
    obtain ⟨y, rfl⟩ := hw'
    clear l0 l1 l2 l3
    go_wp2_with fail
    go_ret
    exact ⟨_, [], rfl, List.nodup_nil, (fun s => ⟨(fun q => by cases q), fun q => absurd q (hno.out s)⟩), World.ownsRow_nil _ _ _ _, below_step HB0.out (later_below w1 y)⟩
  | true =>
    have hrt : Hid (Reached N E (0, 0)) := reached_root HBb.out.symm
    refine wp_region_later (by kernel_rfl) (by kernel_rfl) ?_
    repeat (go_big_quiet_step (first | (with_reducible exact HRl.out _) | (with_reducible exact HHl.out _)))
    refine wpQuiet_nil ?_
    intro _ hw'
    obtain ⟨y, rfl⟩ := hw'
    clear l0 l1 l2 l3 HRl HHl
    have HB1 := Lib.hid (below_step HB0.out (later_below w1 y))
    have he1 := ((later_below w1 y).block _ (heap_lt HE0.out)).trans HE0.out
    generalize later w1 y = w2 at HB1 he1 ⊢
    clear HE0 HB0 HBb
    have hmk : ∀ W : World, (Instr.makeMap 189 none).run Tryz.prog W = .ok (.map (some W.heap.size)) (W.alloc (.map #[] 0)) := fun _ => rfl
    obtain ⟨c0, c1, c2, c3⟩ := lists_cells he1
    obtain ⟨z, hz⟩ : ∃ z, z = w2.heap.size := ⟨_, rfl⟩
    have hzm : (w2.alloc (.map #[] 0)).heap[z]? = some (.map #[] 0) := by rw [hz]; exact heap_alloc_new _ _
    have hsz : s < z := by rw [hz]; exact heap_lt he1
    have he2 := (heap_alloc_old w2 (.map #[] 0) (heap_lt he1)).trans he1
    have hB2 := Lib.hid (HB1.out.alloc HB1.out.size (.map #[] 0))
    have hz3 : (w2.alloc (.map #[] 0)).heap.size = z + 1 := by simp [hz]
    have cc1 := cell_of_row _ _ 1 _ _ (0, 0) he2
    go_upto_region 4 with fail
    rw [← hz]
    have HZ := Lib.hid hz
    clear hmk hz c0 c1 c2 c3
    generalize w2.alloc (.map #[] 0) = w3 at hzm he2 hB2 hz3 cc1 ⊢
    have hI0 : BelowI w3 z (z + 1) N (E.take 0) [] := BelowI.new hzm
    go_wp2_with fail
    go_loopg [21] (m + 1) (fun gk i wr => ∃ (k : Nat) (M : List (St × Value)), i = .int .i64 (k : Int) ∧ gk + k = m + 1 ∧ k ≤ m ∧ Hid (BelowI wr z (z + 1) N (E.take k) M) ∧ wr.heap[s]? = some (.cells #[.slice A n c, .slice A' m d, .map (some bk), .map (some bl)] 127 (0, 0)) ∧ Hid (Below w.heap.size w wr) ∧ z + 1 ≤ wr.heap.size)
    case atStart => exact ⟨0, [], rfl, by omega, by omega, hI0, he2, hB2, by omega⟩
    case round =>
      obtain ⟨k, M, rfl, hgk, hk, hI, hq, hB, hlow⟩ := hrel
      clear hI0 he2 hB2 hz3 hzm he1 HB1 HZ cc1
      by_cases hlt : k < m
      · obtain ⟨g, o, rfl, hg, hrow⟩ := HG.out.ents.row (by omega)
        obtain ⟨e0, e1, e2, e3, e4⟩ := (hrow k (by omega)).below hB.out hg
        clear hrow
        have hsn := fun t => belowL_snoc N E k (by omega) t
        have HD : Hid (∀ W : World, Below w.heap.size w W → Calls Tryz.prog 140 #[.agg #[.slice A n c, .slice (some ⟨g, o, none⟩) m d, .map (some bk), .map (some bl)], .agg #[.int .i64 E[k].dir.1, .int .i64 E[k].dir.2]] W fun e w' => e = .returned (.bool (decide (kindI N E[k].dir = some 1))) ∧ Below W.heap.size W w') := fun W hW => isDir_code A (some ⟨g, o, none⟩) n c m d bk bl N E E[k].dir W (HL.out.below hW)
        have HH : Hid (∀ W : World, Below w.heap.size w W → Calls Tryz.prog 147 #[.agg #[.slice A n c, .slice (some ⟨g, o, none⟩) m d, .map (some bk), .map (some bl)], .agg #[.int .i64 E[k].ino.1, .int .i64 E[k].ino.2]] W fun e w' => e = .returned (.bool (kindI N E[k].ino).isSome) ∧ Below W.heap.size W w') := fun W hW => has_code A (some ⟨g, o, none⟩) n c m d bk bl N E E[k].ino W (HL.out.below hW)
        have hlen := fun t => belowL_len N (E.take k) t
        simp only [List.length_take] at hlen
        have HLen := Lib.hid hlen
        obtain ⟨x, hx⟩ : ∃ x, x = E[k] := ⟨_, rfl⟩
        rw [← hx] at e0 e1 e2 e3 e4 HD HH
        simp only [← hx] at hsn
        unfold okE at hsn
        generalize decide (kindI N x.dir = some 1) = p at HD hsn
        generalize (kindI N x.ino).isSome = r at HH hsn
        clear hx hlen
        obtain ⟨⟨d1, d2⟩, nm, ⟨i1, i2⟩⟩ := x
        dsimp only at e0 e1 e2 e3 e4 HD HH hsn
        have HSn := Lib.hid hsn
        clear hsn
        obtain ⟨c0, c1, c2, c3⟩ := lists_cells hq
        go_upto_region 7 with fail
        change Code.wp _ _ _ _ (wr.alloc (.cells (entA ⟨(d1, d2), nm, (i1, i2)⟩) 93))
        obtain ⟨u, hu⟩ : ∃ u, u = wr.heap.size := ⟨_, rfl⟩
        have t5 : (wr.alloc (.cells (entA ⟨(d1, d2), nm, (i1, i2)⟩) 93)).heap[u]? = some (.cells (entA ⟨(d1, d2), nm, (i1, i2)⟩) 93 (0, 0)) := by rw [hu]; exact heap_alloc_new _ _
        have hbA : Below wr.heap.size wr (wr.alloc (.cells (entA ⟨(d1, d2), nm, (i1, i2)⟩) 93)) := (Below.refl _ _).alloc (Nat.le_refl _) _
        rw [← hu]
        generalize wr.alloc (.cells (entA ⟨(d1, d2), nm, (i1, i2)⟩) 93) = w4 at t5 hbA ⊢
        have hI4 := Lib.hid (hI.out.below hbA)
        have hq4 := (hbA.block _ (heap_lt hq)).trans hq
        have hB4 := below_step hB.out hbA
        have hz4 := hbA.size
        have huz : z + 1 ≤ u := by omega
        clear hu hI hB hbA hq c0 c1 c2 c3 e0 e1 e2 e3 e4
        obtain ⟨c0, c1, c2, c3⟩ := lists_cells hq4
        obtain ⟨e0, e1, e2, e3, e4⟩ := ent_cells t5
        go_wp2_with fail
        refine (HD.out _ hB4).mono ?_
        rintro e w5 ⟨rfl, hb5⟩
        have hI5 := Lib.hid (hI4.out.below hb5)
        have hq5 := (hb5.block _ (heap_lt hq4)).trans hq4
        have t55 := (hb5.block _ (heap_lt t5)).trans t5
        have hB5 := below_step hB4 hb5
        have hz5 := hb5.size
        clear hI4 hq4 t5 hB4 hb5 c0 c1 c2 c3 e0 e1 e2 e3 e4 HD
        obtain ⟨c0, c1, c2, c3⟩ := lists_cells hq5
        obtain ⟨e0, e1, e2, e3, e4⟩ := ent_cells t55
        cases p with
        | false =>
          go_wp2_with fail
          go_roundg (gk - 1)
          case measure => omega
          case rel => exact ⟨k + 1, M, by go_num, by omega, by omega, hI5.out.same (fun t => by rw [HSn.out t, if_neg (by simp), List.append_nil]), hq5, hB5, by omega⟩
        | true =>
          go_wp2_with fail
          refine (HH.out _ hB5).mono ?_
          rintro e w6 ⟨rfl, hb6⟩
          have hI6 := Lib.hid (hI5.out.below hb6)
          have hq6 := (hb6.block _ (heap_lt hq5)).trans hq5
          have t56 := (hb6.block _ (heap_lt t55)).trans t55
          have hB6 := below_step hB5 hb6
          have hz6 := hb6.size
          clear hI5 hq5 t55 hB5 hb6 c0 c1 c2 c3 e0 e1 e2 e3 e4 HH
          obtain ⟨e0, e1, e2, e3, e4⟩ := ent_cells t56
          cases r with
          | false =>
            go_wp2_with fail
            go_roundg (gk - 1)
            case measure => omega
            case rel => exact ⟨k + 1, M, by go_num, by omega, by omega, hI6.out.same (fun t => by rw [HSn.out t, if_neg (by simp), List.append_nil]), hq6, hB6, by omega⟩
          | true =>
            have hbA : Below w6.heap.size w6 (w6.alloc (.cells #[.int .i64 i1, .int .i64 i2] 35)) := (Below.refl _ _).alloc (Nat.le_refl _) _
            have HIA := Lib.hid (hI6.out.below hbA)
            have HNW := Lib.hid (row_there w6 35 (stA (i1, i2)))
            have hl1 := HLen.out (d1, d2)
            have hm1 : (belowL N (E.take k) (d1, d2)).length + 1 ≤ maxLen := by unfold maxLen; omega
            have hm2 : ((belowL N (E.take k) (d1, d2)).length + 1) * 16 ≤ 140737488355328 := by omega
            go_wp2_with (first
              | (refine wpList_k_entry stShape (by rfl) (.tmp 35) (.tmp 37) _ (by rfl) Tryz.underlying189 (.slice none 0 0) zeroSl z M (by rfl) HIA.out.map (d1, d2) (by rfl) ?_; intro v0 st w8 hv0 HM8 HU8 HS8 HSl8; have hs8 := HS8.out; have hown8 : w8.ownsRow (z + 1) 35 2 v0 (belowL N (E.take k) (d1, d2)).length (flat ((belowL N (E.take k) (d1, d2)).map stA)) := (by rw [hv0]; exact own_off (HIA.out.rows (d1, d2)) HU8.out (fun j hj => by have := ((HIA.out.rows (d1, d2)).lt j hj).1; omega)); have HVV : Hid (valM M (d1, d2) = v0) := hv0.symm; clear hv0)
              | (at_builtin; refine wpList_append_own_at _ (by rfl) (.tmp 38) (.tmp 41) 161 (by rfl) (z + 1) 35 i0 _ 2 16 Tryz.underlying161 hi0 hz0 hz1 hz2 (by rfl) (by decide) v0 _ _ (by rfl) hown8 ⟨w6.heap.size, 0, none⟩ 1 1 (stA (i1, i2)).toList (by rfl) (by rfl) (fun j u hj => by have q := HNW.out j u hj; rw [tab_add] at q ⊢; exact HU8.out.cell q (fun q2 => by dsimp only at q2; omega)) (st_one2 _) hm1 hm2 (by simp at hs8; omega) ?_; intro v2 w9 hown9 hg9 _ hat9; have HW9 : Hid (w9.heap[z]? = w8.heap[z]?) := hg9.block z (by simp at hs8; omega) (fun q => by have := (hown8.lt z q.symm).1; omega))
              | (refine wpList_k_entryStore (by rfl) (.tmp 35) (.tmp 44) (.tmp 43) _ (by rfl) z M (by rfl) (d1, d2) st w8 HSl8.out HW9.out (by rfl) v2 (by rfl) ?_; intro w10 HM10 HU10 HS10))
            have hat : v2.ownBlock = (valM M (d1, d2)).ownBlock ∨ v2.ownBlock = some w8.heap.size := by rw [HVV.out]; exact hat9
            have hg8 : w8.grownBy w9 (valM M (d1, d2)).ownBlock := by rw [HVV.out]; exact hg9
            have hsA : (w6.alloc (.cells #[.int .i64 i1, .int .i64 i2] 35)).heap.size = w6.heap.size + 1 := by simp
            have hI10 := Lib.hid (HIA.out.put (E' := E.take (k + 1)) (by omega) (fun t => by
              rw [HSn.out t]
              by_cases ht : ((d1, d2) : St) = t
              · rw [if_pos ⟨rfl, ht⟩, if_pos ht]
              · rw [if_neg (fun q => ht q.2), if_neg ht]) HU8.out hg8 HU10.out HM10.out hown9 hat)
            have hBA := hB6.alloc hB6.size (.cells #[.int .i64 i1, .int .i64 i2] 35)
            have hB8 := hBA.trans (HU8.out.below (fun i hi => by omega) hBA.size)
            have hB9 := hB8.grown hg9 hB8.size (fun q hq => by have := (hown8.lt q hq).1; omega)
            have hB10 := Lib.hid (hB9.trans (HU10.out.below (fun i hi => by omega) hB9.size))
            have hz9 := hg9.size
            have hz10 := HU10.out.size
            have hq8 := HU8.out.heap ((heap_alloc_old w6 (.cells #[.int .i64 i1, .int .i64 i2] 35) (heap_lt hq6)).trans hq6) (by omega)
            have hq9 := (hg9.block s (heap_lt hq8) (fun q => by have := (hown8.lt s q.symm).1; omega)).trans hq8
            have hq10 := HU10.out.heap hq9 (by omega)
            have hs10 : z + 1 ≤ w10.heap.size := by omega
            clear hown8 hown9 hg9 hg8 hat9 hat HM8 HSl8 HU8 HM10 HU10 hBA hB8 hB9 hq6 hq8 hq9 hB6 hI6 HIA HNW e0 e1 e2 e3 e4
            go_roundg (gk - 1)
            case measure => omega
            case rel => exact ⟨k + 1, _, by go_num, by omega, by omega, hI10.out, hq10, hB10.out, hs10⟩
      · obtain ⟨wb, hwb⟩ : ∃ x, x = wr := ⟨_, rfl⟩
        subst hwb
        have hIE : BelowI wb z (z + 1) N E M := by have := hI.out; rwa [List.take_of_length_le (by omega)] at this
        have HIE := Lib.hid hIE
        obtain ⟨c0, c1, c2, c3⟩ := lists_cells hq
        clear hIE hI
        go_wp2_with fail
        refine (auRoot_code _).mono ?_
        rintro e w4 ⟨rfl, hb4⟩
        have hmk : ∀ W : World, (Instr.makeMap 191 none).run Tryz.prog W = .ok (.map (some W.heap.size)) (W.alloc (.map #[] 0)) := fun _ => rfl
        obtain ⟨u, hu⟩ : ∃ u, u = w4.heap.size := ⟨_, rfl⟩
        have hur : wb.heap.size ≤ u := by rw [hu]; exact hb4.size
        have ho0 : ((w4.alloc (.cells #[.int .i64 0, .int .i64 0] 35)).alloc (.map #[] 0)).ownsRow wb.heap.size 35 2 (.slice (some ⟨u, 0, none⟩) 1 1) 1 (flat ([((0, 0) : St)].map stA)) := by
          rw [hu]
          exact (World.ownsRow_lit w4 #[.int .i64 0, .int .i64 0] 1 (by omega) (by decide) rfl).alloc _
        have hm0 : ((w4.alloc (.cells #[.int .i64 0, .int .i64 0] 35)).alloc (.map #[] 0)).heap[u + 1]? = some (.map #[] 0) := by rw [hu]; exact heap_alloc2_new w4 _ _
        have hb5 : Below wb.heap.size wb ((w4.alloc (.cells #[.int .i64 0, .int .i64 0] 35)).alloc (.map #[] 0)) := (hb4.alloc hb4.size _).alloc (by simp; omega) _
        have HU := Lib.hid hu
        clear c0 c1 c2 c3 hu
        go_wp2_with fail
        rw [← HU.out]
        generalize ((w4.alloc (.cells #[.int .i64 0, .int .i64 0] 35)).alloc (.map #[] 0)) = w5 at ho0 hm0 hb5 ⊢
        clear HU hmk
        refine (auRoot_code _).mono ?_
        rintro e w6 ⟨rfl, hb6⟩
        have hm6 : KMap stV unV w6 (u + 1) ([] : List (St × Unit)) := ⟨#[], 0, [], (hb6.block _ (heap_lt hm0)).trans hm0, MapKept.stamped_empty 0, rfl, List.Perm.nil⟩
        have ho6 := own_call ho0 hb6
        have hb7 := below_step hb5 hb6
        obtain ⟨w7, hrun, hm7, hbut7, hsz7⟩ := hm6.store stShape Tryz.underlying191 (0, 0) ()
        simp only [stV, stA, unV] at hrun
        have ho7 := own_off ho6 hbut7 (fun j hj => by
          intro e
          subst e
          cases hj)
        have hb8 := Lib.hid (hb7.trans (hbut7.below (fun i hi => by omega) hb7.size))
        have HM7 := Lib.hid hm7
        have HO7 := Lib.hid ho7
        clear ho0 hm0 hb5 hb6 hm6 ho6 hb7 hm7 hbut7 hsz7 ho7
        go_wp2_with fail
        clear hrun
        have hrow0 := fun t => sts_own rfl (HIE.out.rows t)
        have HRow : Hid (∀ t, ∃ (A : Option Addr) (c : Nat), valM M t = .slice A (belowL N E t).length c ∧ StsIn wb wb.heap.size A (belowL N E t).length (belowL N E t)) := fun t => by
          obtain ⟨A, c, q1, q2, _⟩ := hrow0 t
          exact ⟨A, c, q1, q2⟩
        have hzr : z < wb.heap.size := by omega
        clear hrow0
        go_loopg [6, 8] (N.length + 1) (fun gp v i wq => ∃ (F : List St) (SF : List (St × Unit)) (q : Nat), i = .int .i64 (q : Int) ∧ gp + q = N.length + 1 ∧ q ≤ F.length ∧
          Hid (F.Nodup ∧ (∀ t ∈ F, Reached N E t) ∧ (0, 0) ∈ F ∧ ∀ j (hj : j < F.length), j < q → ∀ t ∈ belowL N E F[j], t ∈ F) ∧ Hid (KMap stV unV wq (u + 1) SF) ∧ Hid (∀ t, (lookL SF t).isSome = decide (t ∈ F)) ∧
          wq.ownsRow wb.heap.size 35 2 v F.length (flat (F.map stA)) ∧ Hid (Below wb.heap.size wb wq))
        case atStart =>
          refine ⟨[(0, 0)], _, 0, rfl, by omega, by simp, ⟨by simp, ?_, by simp, fun j hj q => by omega⟩, HM7, fun t => ?_, HO7.out, hb8⟩
          · intro t ht
            rw [List.mem_singleton.1 ht]
            exact hrt.out
          · rw [look_put]
            by_cases ht : ((0, 0) : St) = t
            · rw [if_pos ht, ← ht]
              simp
            · rw [if_neg ht]
              have : ¬ t = (0, 0) := fun q => ht q.symm
              simp [lookL, this]
        case round =>
          obtain ⟨F, SF, q, rfl, hgp, hqF, hF, hS, hSl, hown, hBq⟩ := hrel
          obtain ⟨wq, hwq⟩ : ∃ x, x = wr := ⟨_, rfl⟩
          subst hwq
          obtain ⟨gp, hgpe⟩ : ∃ x, x = gk := ⟨_, rfl⟩
          subst hgpe
          clear HM7 HO7 hb8
          have hFn : F.length ≤ N.length := found_few hF.out.1 hF.out.2.1
          have hFl : F.length ≤ 1000 := by omega
          obtain ⟨Af, cf, rfl, hin, _⟩ := sts_own rfl hown
          by_cases hlt : q < F.length
          · obtain ⟨g, o, rfl, hg, hrowF⟩ := hin.row (by omega)
            obtain ⟨f0, f1⟩ := hrowF q hlt
            have HFq : Hid (F[q] ∈ F) := List.getElem_mem hlt
            have hcl := hF.out.2.2.2
            have hnext : Hid (∀ F' : List St, F <+: F' → (∀ t ∈ belowL N E F[q], t ∈ F') → ∀ j (hj : j < F'.length), j < q + 1 → ∀ t ∈ belowL N E F'[j], t ∈ F') := fun F' hp hl j hj hjq t ht => by
              obtain ⟨G, rfl⟩ := hp
              have hjF : j < F.length := by omega
              rw [List.getElem_append_left hjF] at ht
              by_cases hjq2 : j < q
              · exact List.mem_append_left _ (hcl j hjF hjq2 t ht)
              · obtain rfl : j = q := by omega
                exact hl t ht
            clear hcl hrowF hin
            generalize F[q] = p at f0 f1 HFq hnext
            obtain ⟨Ab, cb, hv, hinL⟩ := HRow.out p
            have hlk : (Instr.lookup 189 (.map (some z)) (.agg #[.int .i64 p.1, .int .i64 p.2]) false).run Tryz.prog wq = .ok (.slice Ab (belowL N E p).length cb) wq := by
              have hl := (HIE.out.map.kept (hBq.out.block _ hzr)).look stShape Tryz.underlying189 (zeroSl wq) p false
              rw [if_neg (by decide), show ((lookL M p).map slV).getD (slV (.slice none 0 0)) = valM M p by unfold valM; cases lookL M p <;> rfl, hv] at hl
              exact hl
            have HRL : Hid (∀ t ∈ belowL N E p, Reached N E t) := fun t ht => belowL_reached (hF.out.2.1 p HFq.out) ht
            have hLl : (belowL N E p).length ≤ 1000 := by have := belowL_len N E p; omega
            generalize belowL N E p = L at hlk HRL hLl hinL hnext
            have HIL := Lib.hid hinL
            clear hv hinL HFq
            go_wp2_with fail
            clear hlk f0 f1
            go_loopg [6, 65] (L.length + 1) (fun gl v i wi => ∃ (F' : List St) (SF' : List (St × Unit)) (j : Nat), i = .int .i64 (j : Int) ∧ gl + j = L.length + 1 ∧ j ≤ L.length ∧
              Hid (F'.Nodup ∧ (∀ t ∈ F', Reached N E t) ∧ F <+: F' ∧ ∀ t ∈ L.take j, t ∈ F') ∧ Hid (KMap stV unV wi (u + 1) SF') ∧ Hid (∀ t, (lookL SF' t).isSome = decide (t ∈ F')) ∧
              wi.ownsRow wb.heap.size 35 2 v F'.length (flat (F'.map stA)) ∧ Hid (Below wb.heap.size wb wi))
            case atStart => exact ⟨F, SF, 0, rfl, by omega, by omega, ⟨hF.out.1, hF.out.2.1, List.prefix_refl _, fun t ht => by cases ht⟩, hS, hSl, hown, hBq⟩
            case round =>
              obtain ⟨F', SF', j, rfl, hgl, hj, hF', hS', hSl', hown', hBi⟩ := hrel
              have hFl' : F'.length ≤ 1000 := by
                have := found_few hF'.out.1 hF'.out.2.1
                omega
              by_cases hjl : j < L.length
              · obtain ⟨ga, oa, rfl, hga, hrowL⟩ := HIL.out.row (by omega)
                obtain ⟨r0, r1⟩ := (hrowL j hjl).below hBi.out hga
                have hRt := HRL.out L[j] (List.getElem_mem hjl)
                have htk : ∀ t, t ∈ L.take (j + 1) → t ∈ L.take j ∨ t = L[j] := fun t => take_mem hjl
                clear hrowL
                generalize L[j] = t at r0 r1 hRt htk
                have HRt := Lib.hid hRt
                have HTk := Lib.hid htk
                have hin' := hSl'.out t
                obtain ⟨b, hb⟩ : ∃ b, b = decide (t ∈ F') := ⟨_, rfl⟩
                rw [← hb] at hin'
                have HBd := Lib.hid hb
                clear hRt htk hb
                obtain ⟨t1, t2⟩ := t
                dsimp only at r0 r1
                go_upto_region 18 with fail
                change Code.wp _ _ _ _ (wr.alloc (.cells (stA (t1, t2)) 35))
                obtain ⟨x, hx⟩ : ∃ x, x = wr.heap.size := ⟨_, rfl⟩
                have hx8 : (wr.alloc (.cells (stA (t1, t2)) 35)).heap[x]? = some (.cells (stA (t1, t2)) 35 (0, 0)) := by rw [hx]; exact heap_alloc_new _ _
                have hbA : Below wr.heap.size wr (wr.alloc (.cells (stA (t1, t2)) 35)) := (Below.refl _ _).alloc (Nat.le_refl _) _
                rw [← hx]
                generalize wr.alloc (.cells (stA (t1, t2)) 35) = w8 at hx8 hbA ⊢
                have hm8 := hS'.out.kept (hbA.block _ hS'.out.lt)
                have ho8 := own_call hown' hbA
                have hb8 := hBi.out.trans (hbA.mono hBi.out.size)
                have hl := hm8.look stShape Tryz.underlying191 (zeroUn w8) (t1, t2) true
                rw [if_pos rfl, show ((lookL SF' (t1, t2)).map unV).getD (unV ()) = .agg #[] by cases lookL SF' (t1, t2) <;> rfl, hin'] at hl
                simp only [stV, stA] at hl
                have HM8 := Lib.hid hm8
                have HB8 := Lib.hid hb8
                obtain ⟨c0, c1⟩ := two_cells hx8
                clear hS' hown' hBi hbA hx hm8 hb8 r0 r1 hin'
                cases b with
                | true =>
                  go_wp2_with fail
                  go_roundg (gk - 1)
                  case measure => omega
                  case rel =>
                    have hin2 : (t1, t2) ∈ F' := of_decide_eq_true HBd.out.symm
                    refine ⟨F', SF', j + 1, by go_num, by omega, by omega, ⟨hF'.out.1, hF'.out.2.1, hF'.out.2.2.1, fun t ht => ?_⟩, HM8.out.kept (heap_alloc_old _ _ HM8.out.lt), hSl', ho8.alloc _, HB8.out.alloc HB8.out.size _⟩
                    rcases HTk.out t ht with h | h
                    · exact hF'.out.2.2.2 t h
                    · rw [h]; exact hin2
                | false =>
                  go_upto_region 19 with fail
                  have hbA : Below w8.heap.size w8 (w8.alloc (.cells #[] 190)) := (Below.refl _ _).alloc (Nat.le_refl _) _
                  have hx9 := (hbA.block _ (heap_lt hx8)).trans hx8
                  have hm9 := HM8.out.kept (hbA.block _ HM8.out.lt)
                  have ho9 := own_call ho8 hbA
                  have hb9 := HB8.out.trans (hbA.mono HB8.out.size)
                  generalize w8.alloc (.cells #[] 190) = w9 at hx9 hm9 ho9 hb9 ⊢
                  clear hl c0 c1 hx8 ho8 hbA HM8 HB8
                  obtain ⟨w10, hrun, hm10, hbut, hsz⟩ := hm9.store stShape Tryz.underlying191 (t1, t2) ()
                  simp only [stV, stA, unV] at hrun
                  have hxu : x ≠ u + 1 := fun q => by
                    obtain ⟨es, cl, M', q1, _⟩ := hm9
                    rw [← q, hx9] at q1
                    cases q1
                  have hx10 := hbut.heap hx9 hxu
                  have ho10 := own_off ho9 hbut (own_no_map ho9 hm9)
                  have hb10 := hb9.trans (hbut.below (fun i hi => by omega) hb9.size)
                  have hno := own_no_map ho10 hm10
                  have hmlt := hm10.lt
                  obtain ⟨c0, c1⟩ := two_cells hx9
                  obtain ⟨d0, d1⟩ := two_cells hx10
                  have HM10 := Lib.hid hm10
                  have HB10 := Lib.hid hb10
                  have hs10 := hb10.size
                  have hm1 : F'.length + 1 ≤ maxLen := by unfold maxLen; omega
                  clear hm9 ho9 hb9 hbut hsz hm10 hb10 hx9 hx10
                  go_wp2_with (at_builtin; refine wpList_append_own _ (by rfl) (.tmp 80) (.tmp 82) 161 (by rfl) wb.heap.size 35 i0 _ 2 16 Tryz.underlying161 hi0 hz0 hz1 hz2 (by rfl) (by decide) _ _ _ (by rfl) (ho10.alloc _) ⟨w10.heap.size, 0, none⟩ 1 1 (stA (t1, t2)).toList (by rfl) (by rfl) (row_there w10 35 (stA (t1, t2))) (st_one2 _) hm1 (by omega) (by simp; omega) ?_; intro v2 w11 hown11 hg11 _)
                  have hown12 : w11.ownsRow wb.heap.size 35 2 v2 (F' ++ [(t1, t2)]).length (flat ((F' ++ [(t1, t2)]).map stA)) := by
                    rw [List.length_append, ← flat_st]
                    exact hown11
                  have hsA : (w10.alloc (.cells #[.int .i64 t1, .int .i64 t2] 35)).heap.size = w10.heap.size + 1 := by simp
                  have hmk : w11.heap[u + 1]? = w10.heap[u + 1]? := (hg11.block (u + 1) (by omega) (fun q => hno _ q.symm rfl)).trans (heap_alloc_old _ _ hmlt)
                  have hm11 := Lib.hid (HM10.out.kept hmk)
                  have hBA := HB10.out.alloc HB10.out.size (.cells #[.int .i64 t1, .int .i64 t2] 35)
                  have hb11 := Lib.hid (hBA.grown hg11 hBA.size (fun q hq => by have := ((ho10.alloc (.cells #[.int .i64 t1, .int .i64 t2] 35)).lt q hq).1; omega))
                  have hno2 : Hid ((t1, t2) ∉ F') := of_decide_eq_false HBd.out.symm
                  clear hown11 hg11 ho10 hrun c0 c1 d0 d1 hno hBA
                  go_roundg (gk - 1)
                  case measure => omega
                  case rel =>
                    refine ⟨F' ++ [(t1, t2)], _, j + 1, by go_num, by omega, by omega, ⟨?_, fun t ht => ?_, hF'.out.2.2.1.trans (List.prefix_append _ _), fun t ht => ?_⟩, hm11, fun t => ?_, hown12, hb11⟩
                    · exact List.nodup_append.2 ⟨hF'.out.1, by simp, fun a ha b hb q => hno2.out (by rw [← List.mem_singleton.1 hb, ← q]; exact ha)⟩
                    · rcases List.mem_append.1 ht with h | h
                      · exact hF'.out.2.1 t h
                      · rw [List.mem_singleton.1 h]; exact HRt.out
                    · rcases HTk.out t ht with h | h
                      · exact List.mem_append_left _ (hF'.out.2.2.2 t h)
                      · rw [h]; simp
                    · rw [look_put]
                      by_cases ht : ((t1, t2) : St) = t
                      · rw [if_pos ht, ← ht]
                        simp
                      · rw [if_neg ht, hSl'.out t]
                        have : ¬ t = (t1, t2) := fun q => ht q.symm
                        simp [this]
              · go_wp2_with fail
                have hpl := hF'.out.2.2.1.length_le
                go_roundg (gp - 1)
                case measure => omega
                case rel =>
                  refine ⟨F', SF', q + 1, by go_num, by omega, by omega, ⟨hF'.out.1, hF'.out.2.1, hF'.out.2.2.1.subset hF.out.2.2.1, hnext.out F' hF'.out.2.2.1 fun t ht => hF'.out.2.2.2 t ?_⟩, hS', hSl', hown', hBi⟩
                  rw [List.take_of_length_le (by omega)]
                  exact ht
          · go_wp2_with fail
            go_ret
            refine ⟨_, F, rfl, hF.out.1, fun t => ⟨hF.out.2.1 t, fun hr => reached_closed hF.out.2.2.1 (fun s hs t ht => ?_) hr⟩, own_lower hown hB.out.size, hB.out.trans (hBq.out.mono hB.out.size)⟩
            obtain ⟨j, hj, rfl⟩ := List.getElem_of_mem hs
            exact hF.out.2.2.2 j hj (by omega) t ht

end Go.Proofs.YtlhdbccemgofjaaGreatDoor

/-
  The library's IndexFunc and ContainsFunc, at each closure of audit's that comes to them (made by gen_auditidx.py).
-/
namespace Go.Proofs.YtlhdbccemgofjaaGreatDoor
open Go.RowKit StampMath GraphMath OpMath

theorem any_none {α : Type} {p : α → Bool} {l : List α} (h : ∀ x ∈ l, p x = false) : l.any p = false := by
  rw [List.any_eq_false]
  exact fun x hx => by rw [h x hx]; decide

theorem any_some {α : Type} {p : α → Bool} {l : List α} {x : α} (hx : x ∈ l) (h : p x = true) : l.any p = true := List.any_eq_true.2 ⟨x, hx, h⟩

theorem all_take {α : Type} {p : α → Bool} {l : List α} {k : Nat} (hk : k < l.length) (h : ∀ x ∈ l.take k, p x = false) (h2 : p l[k] = false) : ∀ x ∈ l.take (k + 1), p x = false := by
  intro x hx
  rw [List.take_succ_eq_append_getElem hk] at hx
  rcases List.mem_append.1 hx with hx | hx
  · exact h x hx
  · rw [List.mem_singleton.1 hx]; exact h2

set_option maxRecDepth 100000 in
set_option maxHeartbeats 1600000 in
theorem idx_isNone (p : Ino → Bool) (A : Option Addr) (n c : Nat) (N : List Ino) (hn : n ≤ 1000) (w : World) (h : InosIn w w.heap.size A n N)
    (hC : ∀ (x : Ino), x ∈ N → ∀ W : World, Below w.heap.size w W → Calls Tryz.prog 143 #[.agg (inoA x)] W fun e w' => e = .returned (.bool (p x)) ∧ Below W.heap.size W w') :
    Calls Tryz.prog 178 #[.slice A n c, .func (.func 143) #[] #[]] w fun e w' => ∃ i : Int, e = .returned (.int .i64 i) ∧ decide (i ≥ 0) = N.any p ∧ Below w.heap.size w w' := by
  have hl := h.len
  have HI := Lib.hid h
  have HC := Lib.hid hC
  clear h hC
  go_enter Tryz.func178, Tryz.ntmps178
  go_wp2_with fail
  go_loopg [8] (n + 1) (fun gk i wr => ∃ k : Nat, i = .int .i64 (k : Int) ∧ gk + k = n + 1 ∧ k ≤ n ∧ Hid (∀ x ∈ N.take k, p x = false) ∧ Hid (Below w.heap.size w wr))
  case atStart => exact ⟨0, rfl, by omega, by omega, (fun x hx => by cases hx), Below.refl _ _⟩
  case round =>
    obtain ⟨k, rfl, hgk, hk, hno, hB⟩ := hrel
    by_cases hlt : k < n
    · obtain ⟨g, o, rfl, hg, hrow⟩ := HI.out.row (by omega)
      have hlow := hB.out.size
      obtain ⟨e0, e1, e2, e3, e4, e5⟩ := (hrow k (by omega)).below hB.out hg
      clear hrow
      have hx := HC.out N[k] (List.getElem_mem (by omega)) wr hB.out
      have hno' := all_take (p := p) (l := N) (k := k) (by omega)
      have hyes := any_some (p := p) (l := N) (x := N[k]) (List.getElem_mem (by omega))
      obtain ⟨v, hv⟩ : ∃ v, v = p N[k] := ⟨_, rfl⟩
      rw [← hv] at hx hno' hyes
      generalize N[k] = x at e0 e1 e2 e3 e4 e5 hx
      have HX := Lib.hid hx
      have HN := Lib.hid hno'
      have HY := Lib.hid hyes
      clear hx hno' hyes hv
      unfold inoA at HX
      cases v with
      | false =>
        go_wp2_with fail
        refine HX.out.mono ?_
        rintro e w2 ⟨rfl, hb2⟩
        go_wp2_with fail
        go_roundg (gk - 1)
        case measure => omega
        case rel => exact ⟨k + 1, by go_num, by omega, by omega, HN.out hno.out (by simp), below_step hB.out hb2⟩
      | true =>
        go_wp2_with fail
        refine HX.out.mono ?_
        rintro e w2 ⟨rfl, hb2⟩
        go_wp2_with fail
        go_ret
        exact ⟨_, rfl, by rw [HY.out (by simp)]; exact decide_eq_true (by omega), below_step hB.out hb2⟩
    · go_wp2_with fail
      go_ret
      exact ⟨_, rfl, by rw [any_none (p := p) (l := N) (fun x hx => hno.out x (by rw [List.take_of_length_le (by omega)]; exact hx))]; rfl, hB.out⟩

set_option maxRecDepth 100000 in
theorem has_isNone (p : Ino → Bool) (A : Option Addr) (n c : Nat) (N : List Ino) (hn : n ≤ 1000) (w : World) (h : InosIn w w.heap.size A n N)
    (hC : ∀ (x : Ino), x ∈ N → ∀ W : World, Below w.heap.size w W → Calls Tryz.prog 143 #[.agg (inoA x)] W fun e w' => e = .returned (.bool (p x)) ∧ Below W.heap.size W w') :
    Calls Tryz.prog 142 #[.slice A n c, .func (.func 143) #[] #[]] w fun e w' => e = .returned (.bool (N.any p)) ∧ Below w.heap.size w w' := by
  have HX := Lib.hid (idx_isNone p A n c N hn w h hC)
  clear h hC
  generalize N.any p = v at HX ⊢
  go_enter Tryz.func142, Tryz.ntmps142
  go_wp2_with fail
  refine HX.out.mono ?_
  rintro e w2 ⟨i, rfl, hi, hb2⟩
  cases v with
  | false =>
    have hi' := of_decide_eq_false hi
    clear hi
    go_wp2_with fail
    go_ret
    exact ⟨by first | rfl | simp <;> omega, hb2⟩
  | true =>
    have hi' := of_decide_eq_true hi
    clear hi
    go_wp2_with fail
    go_ret
    exact ⟨by first | rfl | simp <;> omega, hb2⟩

set_option maxRecDepth 100000 in
set_option maxHeartbeats 1600000 in
theorem idx_nameless (p : Ent → Bool) (A : Option Addr) (n c : Nat) (N : List Ent) (hn : n ≤ 1000) (w : World) (h : EntsIn w w.heap.size A n N)
    (hC : ∀ (x : Ent), x ∈ N → ∀ W : World, Below w.heap.size w W → Calls Tryz.prog 145 #[.agg (entA x)] W fun e w' => e = .returned (.bool (p x)) ∧ Below W.heap.size W w') :
    Calls Tryz.prog 179 #[.slice A n c, .func (.func 145) #[] #[]] w fun e w' => ∃ i : Int, e = .returned (.int .i64 i) ∧ decide (i ≥ 0) = N.any p ∧ Below w.heap.size w w' := by
  have hl := h.len
  have HI := Lib.hid h
  have HC := Lib.hid hC
  clear h hC
  go_enter Tryz.func179, Tryz.ntmps179
  go_wp2_with fail
  go_loopg [8] (n + 1) (fun gk i wr => ∃ k : Nat, i = .int .i64 (k : Int) ∧ gk + k = n + 1 ∧ k ≤ n ∧ Hid (∀ x ∈ N.take k, p x = false) ∧ Hid (Below w.heap.size w wr))
  case atStart => exact ⟨0, rfl, by omega, by omega, (fun x hx => by cases hx), Below.refl _ _⟩
  case round =>
    obtain ⟨k, rfl, hgk, hk, hno, hB⟩ := hrel
    by_cases hlt : k < n
    · obtain ⟨g, o, rfl, hg, hrow⟩ := HI.out.row (by omega)
      have hlow := hB.out.size
      obtain ⟨e0, e1, e2, e3, e4⟩ := (hrow k (by omega)).below hB.out hg
      clear hrow
      have hx := HC.out N[k] (List.getElem_mem (by omega)) wr hB.out
      have hno' := all_take (p := p) (l := N) (k := k) (by omega)
      have hyes := any_some (p := p) (l := N) (x := N[k]) (List.getElem_mem (by omega))
      obtain ⟨v, hv⟩ : ∃ v, v = p N[k] := ⟨_, rfl⟩
      rw [← hv] at hx hno' hyes
      generalize N[k] = x at e0 e1 e2 e3 e4 hx
      have HX := Lib.hid hx
      have HN := Lib.hid hno'
      have HY := Lib.hid hyes
      clear hx hno' hyes hv
      unfold entA at HX
      cases v with
      | false =>
        go_wp2_with fail
        refine HX.out.mono ?_
        rintro e w2 ⟨rfl, hb2⟩
        go_wp2_with fail
        go_roundg (gk - 1)
        case measure => omega
        case rel => exact ⟨k + 1, by go_num, by omega, by omega, HN.out hno.out (by simp), below_step hB.out hb2⟩
      | true =>
        go_wp2_with fail
        refine HX.out.mono ?_
        rintro e w2 ⟨rfl, hb2⟩
        go_wp2_with fail
        go_ret
        exact ⟨_, rfl, by rw [HY.out (by simp)]; exact decide_eq_true (by omega), below_step hB.out hb2⟩
    · go_wp2_with fail
      go_ret
      exact ⟨_, rfl, by rw [any_none (p := p) (l := N) (fun x hx => hno.out x (by rw [List.take_of_length_le (by omega)]; exact hx))]; rfl, hB.out⟩

set_option maxRecDepth 100000 in
theorem has_nameless (p : Ent → Bool) (A : Option Addr) (n c : Nat) (N : List Ent) (hn : n ≤ 1000) (w : World) (h : EntsIn w w.heap.size A n N)
    (hC : ∀ (x : Ent), x ∈ N → ∀ W : World, Below w.heap.size w W → Calls Tryz.prog 145 #[.agg (entA x)] W fun e w' => e = .returned (.bool (p x)) ∧ Below W.heap.size W w') :
    Calls Tryz.prog 144 #[.slice A n c, .func (.func 145) #[] #[]] w fun e w' => e = .returned (.bool (N.any p)) ∧ Below w.heap.size w w' := by
  have HX := Lib.hid (idx_nameless p A n c N hn w h hC)
  clear h hC
  generalize N.any p = v at HX ⊢
  go_enter Tryz.func144, Tryz.ntmps144
  go_wp2_with fail
  refine HX.out.mono ?_
  rintro e w2 ⟨i, rfl, hi, hb2⟩
  cases v with
  | false =>
    have hi' := of_decide_eq_false hi
    clear hi
    go_wp2_with fail
    go_ret
    exact ⟨by first | rfl | simp <;> omega, hb2⟩
  | true =>
    have hi' := of_decide_eq_true hi
    clear hi
    go_wp2_with fail
    go_ret
    exact ⟨by first | rfl | simp <;> omega, hb2⟩

set_option maxRecDepth 100000 in
set_option maxHeartbeats 1600000 in
theorem idx_lost (g0 : Nat) (p : Ent → Bool) (A : Option Addr) (n c : Nat) (N : List Ent) (hn : n ≤ 1000) (w : World) (h : EntsIn w w.heap.size A n N)
    (hC : ∀ (x : Ent), x ∈ N → ∀ W : World, Below w.heap.size w W → Calls Tryz.prog 146 #[.agg (entA x), .pointer (some ⟨g0, 0, none⟩)] W fun e w' => e = .returned (.bool (p x)) ∧ Below W.heap.size W w') :
    Calls Tryz.prog 179 #[.slice A n c, .func (.func 146) #[] #[.pointer (some ⟨g0, 0, none⟩)]] w fun e w' => ∃ i : Int, e = .returned (.int .i64 i) ∧ decide (i ≥ 0) = N.any p ∧ Below w.heap.size w w' := by
  have hl := h.len
  have HI := Lib.hid h
  have HC := Lib.hid hC
  clear h hC
  go_enter Tryz.func179, Tryz.ntmps179
  go_wp2_with fail
  go_loopg [8] (n + 1) (fun gk i wr => ∃ k : Nat, i = .int .i64 (k : Int) ∧ gk + k = n + 1 ∧ k ≤ n ∧ Hid (∀ x ∈ N.take k, p x = false) ∧ Hid (Below w.heap.size w wr))
  case atStart => exact ⟨0, rfl, by omega, by omega, (fun x hx => by cases hx), Below.refl _ _⟩
  case round =>
    obtain ⟨k, rfl, hgk, hk, hno, hB⟩ := hrel
    by_cases hlt : k < n
    · obtain ⟨g, o, rfl, hg, hrow⟩ := HI.out.row (by omega)
      have hlow := hB.out.size
      obtain ⟨e0, e1, e2, e3, e4⟩ := (hrow k (by omega)).below hB.out hg
      clear hrow
      have hx := HC.out N[k] (List.getElem_mem (by omega)) wr hB.out
      have hno' := all_take (p := p) (l := N) (k := k) (by omega)
      have hyes := any_some (p := p) (l := N) (x := N[k]) (List.getElem_mem (by omega))
      obtain ⟨v, hv⟩ : ∃ v, v = p N[k] := ⟨_, rfl⟩
      rw [← hv] at hx hno' hyes
      generalize N[k] = x at e0 e1 e2 e3 e4 hx
      have HX := Lib.hid hx
      have HN := Lib.hid hno'
      have HY := Lib.hid hyes
      clear hx hno' hyes hv
      unfold entA at HX
      cases v with
      | false =>
        go_wp2_with fail
        refine HX.out.mono ?_
        rintro e w2 ⟨rfl, hb2⟩
        go_wp2_with fail
        go_roundg (gk - 1)
        case measure => omega
        case rel => exact ⟨k + 1, by go_num, by omega, by omega, HN.out hno.out (by simp), below_step hB.out hb2⟩
      | true =>
        go_wp2_with fail
        refine HX.out.mono ?_
        rintro e w2 ⟨rfl, hb2⟩
        go_wp2_with fail
        go_ret
        exact ⟨_, rfl, by rw [HY.out (by simp)]; exact decide_eq_true (by omega), below_step hB.out hb2⟩
    · go_wp2_with fail
      go_ret
      exact ⟨_, rfl, by rw [any_none (p := p) (l := N) (fun x hx => hno.out x (by rw [List.take_of_length_le (by omega)]; exact hx))]; rfl, hB.out⟩

set_option maxRecDepth 100000 in
theorem has_lost (g0 : Nat) (p : Ent → Bool) (A : Option Addr) (n c : Nat) (N : List Ent) (hn : n ≤ 1000) (w : World) (h : EntsIn w w.heap.size A n N)
    (hC : ∀ (x : Ent), x ∈ N → ∀ W : World, Below w.heap.size w W → Calls Tryz.prog 146 #[.agg (entA x), .pointer (some ⟨g0, 0, none⟩)] W fun e w' => e = .returned (.bool (p x)) ∧ Below W.heap.size W w') :
    Calls Tryz.prog 144 #[.slice A n c, .func (.func 146) #[] #[.pointer (some ⟨g0, 0, none⟩)]] w fun e w' => e = .returned (.bool (N.any p)) ∧ Below w.heap.size w w' := by
  have HX := Lib.hid (idx_lost g0 p A n c N hn w h hC)
  clear h hC
  generalize N.any p = v at HX ⊢
  go_enter Tryz.func144, Tryz.ntmps144
  go_wp2_with fail
  refine HX.out.mono ?_
  rintro e w2 ⟨i, rfl, hi, hb2⟩
  cases v with
  | false =>
    have hi' := of_decide_eq_false hi
    clear hi
    go_wp2_with fail
    go_ret
    exact ⟨by first | rfl | simp <;> omega, hb2⟩
  | true =>
    have hi' := of_decide_eq_true hi
    clear hi
    go_wp2_with fail
    go_ret
    exact ⟨by first | rfl | simp <;> omega, hb2⟩

set_option maxRecDepth 100000 in
set_option maxHeartbeats 1600000 in
theorem idx_miscounted (g0 : Nat) (p : Ino → Bool) (A : Option Addr) (n c : Nat) (N : List Ino) (hn : n ≤ 1000) (w : World) (h : InosIn w w.heap.size A n N)
    (hC : ∀ (x : Ino), x ∈ N → ∀ W : World, Below w.heap.size w W → Calls Tryz.prog 148 #[.agg (inoA x), .pointer (some ⟨g0, 0, none⟩)] W fun e w' => e = .returned (.bool (p x)) ∧ Below W.heap.size W w') :
    Calls Tryz.prog 178 #[.slice A n c, .func (.func 148) #[] #[.pointer (some ⟨g0, 0, none⟩)]] w fun e w' => ∃ i : Int, e = .returned (.int .i64 i) ∧ decide (i ≥ 0) = N.any p ∧ Below w.heap.size w w' := by
  have hl := h.len
  have HI := Lib.hid h
  have HC := Lib.hid hC
  clear h hC
  go_enter Tryz.func178, Tryz.ntmps178
  go_wp2_with fail
  go_loopg [8] (n + 1) (fun gk i wr => ∃ k : Nat, i = .int .i64 (k : Int) ∧ gk + k = n + 1 ∧ k ≤ n ∧ Hid (∀ x ∈ N.take k, p x = false) ∧ Hid (Below w.heap.size w wr))
  case atStart => exact ⟨0, rfl, by omega, by omega, (fun x hx => by cases hx), Below.refl _ _⟩
  case round =>
    obtain ⟨k, rfl, hgk, hk, hno, hB⟩ := hrel
    by_cases hlt : k < n
    · obtain ⟨g, o, rfl, hg, hrow⟩ := HI.out.row (by omega)
      have hlow := hB.out.size
      obtain ⟨e0, e1, e2, e3, e4, e5⟩ := (hrow k (by omega)).below hB.out hg
      clear hrow
      have hx := HC.out N[k] (List.getElem_mem (by omega)) wr hB.out
      have hno' := all_take (p := p) (l := N) (k := k) (by omega)
      have hyes := any_some (p := p) (l := N) (x := N[k]) (List.getElem_mem (by omega))
      obtain ⟨v, hv⟩ : ∃ v, v = p N[k] := ⟨_, rfl⟩
      rw [← hv] at hx hno' hyes
      generalize N[k] = x at e0 e1 e2 e3 e4 e5 hx
      have HX := Lib.hid hx
      have HN := Lib.hid hno'
      have HY := Lib.hid hyes
      clear hx hno' hyes hv
      unfold inoA at HX
      cases v with
      | false =>
        go_wp2_with fail
        refine HX.out.mono ?_
        rintro e w2 ⟨rfl, hb2⟩
        go_wp2_with fail
        go_roundg (gk - 1)
        case measure => omega
        case rel => exact ⟨k + 1, by go_num, by omega, by omega, HN.out hno.out (by simp), below_step hB.out hb2⟩
      | true =>
        go_wp2_with fail
        refine HX.out.mono ?_
        rintro e w2 ⟨rfl, hb2⟩
        go_wp2_with fail
        go_ret
        exact ⟨_, rfl, by rw [HY.out (by simp)]; exact decide_eq_true (by omega), below_step hB.out hb2⟩
    · go_wp2_with fail
      go_ret
      exact ⟨_, rfl, by rw [any_none (p := p) (l := N) (fun x hx => hno.out x (by rw [List.take_of_length_le (by omega)]; exact hx))]; rfl, hB.out⟩

set_option maxRecDepth 100000 in
theorem has_miscounted (g0 : Nat) (p : Ino → Bool) (A : Option Addr) (n c : Nat) (N : List Ino) (hn : n ≤ 1000) (w : World) (h : InosIn w w.heap.size A n N)
    (hC : ∀ (x : Ino), x ∈ N → ∀ W : World, Below w.heap.size w W → Calls Tryz.prog 148 #[.agg (inoA x), .pointer (some ⟨g0, 0, none⟩)] W fun e w' => e = .returned (.bool (p x)) ∧ Below W.heap.size W w') :
    Calls Tryz.prog 142 #[.slice A n c, .func (.func 148) #[] #[.pointer (some ⟨g0, 0, none⟩)]] w fun e w' => e = .returned (.bool (N.any p)) ∧ Below w.heap.size w w' := by
  have HX := Lib.hid (idx_miscounted g0 p A n c N hn w h hC)
  clear h hC
  generalize N.any p = v at HX ⊢
  go_enter Tryz.func142, Tryz.ntmps142
  go_wp2_with fail
  refine HX.out.mono ?_
  rintro e w2 ⟨i, rfl, hi, hb2⟩
  cases v with
  | false =>
    have hi' := of_decide_eq_false hi
    clear hi
    go_wp2_with fail
    go_ret
    exact ⟨by first | rfl | simp <;> omega, hb2⟩
  | true =>
    have hi' := of_decide_eq_true hi
    clear hi
    go_wp2_with fail
    go_ret
    exact ⟨by first | rfl | simp <;> omega, hb2⟩

set_option maxRecDepth 100000 in
set_option maxHeartbeats 1600000 in
theorem idx_mislinked (g0 : Nat) (p : Ino → Bool) (A : Option Addr) (n c : Nat) (N : List Ino) (hn : n ≤ 1000) (w : World) (h : InosIn w w.heap.size A n N)
    (hC : ∀ (x : Ino), x ∈ N → ∀ W : World, Below w.heap.size w W → Calls Tryz.prog 149 #[.agg (inoA x), .pointer (some ⟨g0, 0, none⟩)] W fun e w' => e = .returned (.bool (p x)) ∧ Below W.heap.size W w') :
    Calls Tryz.prog 178 #[.slice A n c, .func (.func 149) #[] #[.pointer (some ⟨g0, 0, none⟩)]] w fun e w' => ∃ i : Int, e = .returned (.int .i64 i) ∧ decide (i ≥ 0) = N.any p ∧ Below w.heap.size w w' := by
  have hl := h.len
  have HI := Lib.hid h
  have HC := Lib.hid hC
  clear h hC
  go_enter Tryz.func178, Tryz.ntmps178
  go_wp2_with fail
  go_loopg [8] (n + 1) (fun gk i wr => ∃ k : Nat, i = .int .i64 (k : Int) ∧ gk + k = n + 1 ∧ k ≤ n ∧ Hid (∀ x ∈ N.take k, p x = false) ∧ Hid (Below w.heap.size w wr))
  case atStart => exact ⟨0, rfl, by omega, by omega, (fun x hx => by cases hx), Below.refl _ _⟩
  case round =>
    obtain ⟨k, rfl, hgk, hk, hno, hB⟩ := hrel
    by_cases hlt : k < n
    · obtain ⟨g, o, rfl, hg, hrow⟩ := HI.out.row (by omega)
      have hlow := hB.out.size
      obtain ⟨e0, e1, e2, e3, e4, e5⟩ := (hrow k (by omega)).below hB.out hg
      clear hrow
      have hx := HC.out N[k] (List.getElem_mem (by omega)) wr hB.out
      have hno' := all_take (p := p) (l := N) (k := k) (by omega)
      have hyes := any_some (p := p) (l := N) (x := N[k]) (List.getElem_mem (by omega))
      obtain ⟨v, hv⟩ : ∃ v, v = p N[k] := ⟨_, rfl⟩
      rw [← hv] at hx hno' hyes
      generalize N[k] = x at e0 e1 e2 e3 e4 e5 hx
      have HX := Lib.hid hx
      have HN := Lib.hid hno'
      have HY := Lib.hid hyes
      clear hx hno' hyes hv
      unfold inoA at HX
      cases v with
      | false =>
        go_wp2_with fail
        refine HX.out.mono ?_
        rintro e w2 ⟨rfl, hb2⟩
        go_wp2_with fail
        go_roundg (gk - 1)
        case measure => omega
        case rel => exact ⟨k + 1, by go_num, by omega, by omega, HN.out hno.out (by simp), below_step hB.out hb2⟩
      | true =>
        go_wp2_with fail
        refine HX.out.mono ?_
        rintro e w2 ⟨rfl, hb2⟩
        go_wp2_with fail
        go_ret
        exact ⟨_, rfl, by rw [HY.out (by simp)]; exact decide_eq_true (by omega), below_step hB.out hb2⟩
    · go_wp2_with fail
      go_ret
      exact ⟨_, rfl, by rw [any_none (p := p) (l := N) (fun x hx => hno.out x (by rw [List.take_of_length_le (by omega)]; exact hx))]; rfl, hB.out⟩

set_option maxRecDepth 100000 in
theorem has_mislinked (g0 : Nat) (p : Ino → Bool) (A : Option Addr) (n c : Nat) (N : List Ino) (hn : n ≤ 1000) (w : World) (h : InosIn w w.heap.size A n N)
    (hC : ∀ (x : Ino), x ∈ N → ∀ W : World, Below w.heap.size w W → Calls Tryz.prog 149 #[.agg (inoA x), .pointer (some ⟨g0, 0, none⟩)] W fun e w' => e = .returned (.bool (p x)) ∧ Below W.heap.size W w') :
    Calls Tryz.prog 142 #[.slice A n c, .func (.func 149) #[] #[.pointer (some ⟨g0, 0, none⟩)]] w fun e w' => e = .returned (.bool (N.any p)) ∧ Below w.heap.size w w' := by
  have HX := Lib.hid (idx_mislinked g0 p A n c N hn w h hC)
  clear h hC
  generalize N.any p = v at HX ⊢
  go_enter Tryz.func142, Tryz.ntmps142
  go_wp2_with fail
  refine HX.out.mono ?_
  rintro e w2 ⟨i, rfl, hi, hb2⟩
  cases v with
  | false =>
    have hi' := of_decide_eq_false hi
    clear hi
    go_wp2_with fail
    go_ret
    exact ⟨by first | rfl | simp <;> omega, hb2⟩
  | true =>
    have hi' := of_decide_eq_true hi
    clear hi
    go_wp2_with fail
    go_ret
    exact ⟨by first | rfl | simp <;> omega, hb2⟩

set_option maxRecDepth 100000 in
set_option maxHeartbeats 1600000 in
theorem idx_tooMuch (p : Ino → Bool) (A : Option Addr) (n c : Nat) (N : List Ino) (hn : n ≤ 1000) (w : World) (h : InosIn w w.heap.size A n N)
    (hC : ∀ (x : Ino), x ∈ N → ∀ W : World, Below w.heap.size w W → Calls Tryz.prog 152 #[.agg (inoA x)] W fun e w' => e = .returned (.bool (p x)) ∧ Below W.heap.size W w') :
    Calls Tryz.prog 178 #[.slice A n c, .func (.func 152) #[] #[]] w fun e w' => ∃ i : Int, e = .returned (.int .i64 i) ∧ decide (i ≥ 0) = N.any p ∧ Below w.heap.size w w' := by
  have hl := h.len
  have HI := Lib.hid h
  have HC := Lib.hid hC
  clear h hC
  go_enter Tryz.func178, Tryz.ntmps178
  go_wp2_with fail
  go_loopg [8] (n + 1) (fun gk i wr => ∃ k : Nat, i = .int .i64 (k : Int) ∧ gk + k = n + 1 ∧ k ≤ n ∧ Hid (∀ x ∈ N.take k, p x = false) ∧ Hid (Below w.heap.size w wr))
  case atStart => exact ⟨0, rfl, by omega, by omega, (fun x hx => by cases hx), Below.refl _ _⟩
  case round =>
    obtain ⟨k, rfl, hgk, hk, hno, hB⟩ := hrel
    by_cases hlt : k < n
    · obtain ⟨g, o, rfl, hg, hrow⟩ := HI.out.row (by omega)
      have hlow := hB.out.size
      obtain ⟨e0, e1, e2, e3, e4, e5⟩ := (hrow k (by omega)).below hB.out hg
      clear hrow
      have hx := HC.out N[k] (List.getElem_mem (by omega)) wr hB.out
      have hno' := all_take (p := p) (l := N) (k := k) (by omega)
      have hyes := any_some (p := p) (l := N) (x := N[k]) (List.getElem_mem (by omega))
      obtain ⟨v, hv⟩ : ∃ v, v = p N[k] := ⟨_, rfl⟩
      rw [← hv] at hx hno' hyes
      generalize N[k] = x at e0 e1 e2 e3 e4 e5 hx
      have HX := Lib.hid hx
      have HN := Lib.hid hno'
      have HY := Lib.hid hyes
      clear hx hno' hyes hv
      unfold inoA at HX
      cases v with
      | false =>
        go_wp2_with fail
        refine HX.out.mono ?_
        rintro e w2 ⟨rfl, hb2⟩
        go_wp2_with fail
        go_roundg (gk - 1)
        case measure => omega
        case rel => exact ⟨k + 1, by go_num, by omega, by omega, HN.out hno.out (by simp), below_step hB.out hb2⟩
      | true =>
        go_wp2_with fail
        refine HX.out.mono ?_
        rintro e w2 ⟨rfl, hb2⟩
        go_wp2_with fail
        go_ret
        exact ⟨_, rfl, by rw [HY.out (by simp)]; exact decide_eq_true (by omega), below_step hB.out hb2⟩
    · go_wp2_with fail
      go_ret
      exact ⟨_, rfl, by rw [any_none (p := p) (l := N) (fun x hx => hno.out x (by rw [List.take_of_length_le (by omega)]; exact hx))]; rfl, hB.out⟩

set_option maxRecDepth 100000 in
theorem has_tooMuch (p : Ino → Bool) (A : Option Addr) (n c : Nat) (N : List Ino) (hn : n ≤ 1000) (w : World) (h : InosIn w w.heap.size A n N)
    (hC : ∀ (x : Ino), x ∈ N → ∀ W : World, Below w.heap.size w W → Calls Tryz.prog 152 #[.agg (inoA x)] W fun e w' => e = .returned (.bool (p x)) ∧ Below W.heap.size W w') :
    Calls Tryz.prog 142 #[.slice A n c, .func (.func 152) #[] #[]] w fun e w' => e = .returned (.bool (N.any p)) ∧ Below w.heap.size w w' := by
  have HX := Lib.hid (idx_tooMuch p A n c N hn w h hC)
  clear h hC
  generalize N.any p = v at HX ⊢
  go_enter Tryz.func142, Tryz.ntmps142
  go_wp2_with fail
  refine HX.out.mono ?_
  rintro e w2 ⟨i, rfl, hi, hb2⟩
  cases v with
  | false =>
    have hi' := of_decide_eq_false hi
    clear hi
    go_wp2_with fail
    go_ret
    exact ⟨by first | rfl | simp <;> omega, hb2⟩
  | true =>
    have hi' := of_decide_eq_true hi
    clear hi
    go_wp2_with fail
    go_ret
    exact ⟨by first | rfl | simp <;> omega, hb2⟩

end Go.Proofs.YtlhdbccemgofjaaGreatDoor

/-
  The landed audit's orders, and whether a list rises (made by gen_auditcmp.py).
-/
namespace Go.Proofs.YtlhdbccemgofjaaGreatDoor
open Go.RowKit StampMath GraphMath OpMath

set_option maxRecDepth 100000 in
set_option maxHeartbeats 1600000 in
theorem auAhead_grown (x y : Ent) (w : World) :
    Calls Tryz.prog 139 #[.agg (entA x), .agg (entA y)] w fun e w' => e = .returned (.int .i64 (aheadI x y)) ∧ Grown w w' := by
  have hv : or2 (cmp x.dir.1 x.dir.2 y.dir.1 y.dir.2) (cmpB x.name.data.toList y.name.data.toList) = aheadI x y := rfl
  obtain ⟨⟨xd1, xd2⟩, xn, ⟨xi1, xi2⟩⟩ := x
  obtain ⟨⟨yd1, yd2⟩, yn, ⟨yi1, yi2⟩⟩ := y
  unfold entA
  obtain ⟨c, hc⟩ : ∃ c, c = cmp xd1 xd2 yd1 yd2 := ⟨_, rfl⟩
  obtain ⟨k, hk⟩ : ∃ k, k = cmpB xn.data.toList yn.data.toList := ⟨_, rfl⟩
  simp only [← hc, ← hk] at hv
  have HC : Hid (∀ W : World, Calls Tryz.prog 51 #[.agg #[.int .i64 xd1, .int .i64 xd2], .agg #[.int .i64 yd1, .int .i64 yd2]] W fun e w' => e = .returned (.int .i64 c) ∧ Grown W w') := fun W => by rw [hc]; exact compare_grown _ _ _ _ W
  have HK : Hid (∀ W : World, Calls Tryz.prog 135 #[.string xn, .string yn] W fun e w' => e = .returned (.int .i64 k) ∧ W = w') := fun W => by rw [hk]; exact compareStr _ _ W
  have HV := Lib.hid hv
  clear hv hc hk
  go_enter Tryz.func139, Tryz.ntmps139
  go_wp2_with fail
  have hS0 : (((w.alloc (.cells #[.int .i64 xd1, .int .i64 xd2, .string xn, .int .i64 xi1, .int .i64 xi2] 93)).alloc (.cells #[.int .i64 yd1, .int .i64 yd2, .string yn, .int .i64 yi1, .int .i64 yi2] 93)).drew.cell? ⟨w.heap.size, 0, none⟩ = some (.int .i64 xd1) ∧ ((w.alloc (.cells #[.int .i64 xd1, .int .i64 xd2, .string xn, .int .i64 xi1, .int .i64 xi2] 93)).alloc (.cells #[.int .i64 yd1, .int .i64 yd2, .string yn, .int .i64 yi1, .int .i64 yi2] 93)).drew.cell? ⟨w.heap.size, 1, none⟩ = some (.int .i64 xd2) ∧ ((w.alloc (.cells #[.int .i64 xd1, .int .i64 xd2, .string xn, .int .i64 xi1, .int .i64 xi2] 93)).alloc (.cells #[.int .i64 yd1, .int .i64 yd2, .string yn, .int .i64 yi1, .int .i64 yi2] 93)).drew.cell? ⟨w.heap.size, 2, none⟩ = some (.string xn) ∧ ((w.alloc (.cells #[.int .i64 xd1, .int .i64 xd2, .string xn, .int .i64 xi1, .int .i64 xi2] 93)).alloc (.cells #[.int .i64 yd1, .int .i64 yd2, .string yn, .int .i64 yi1, .int .i64 yi2] 93)).drew.cell? ⟨w.heap.size + 1, 0, none⟩ = some (.int .i64 yd1) ∧ ((w.alloc (.cells #[.int .i64 xd1, .int .i64 xd2, .string xn, .int .i64 xi1, .int .i64 xi2] 93)).alloc (.cells #[.int .i64 yd1, .int .i64 yd2, .string yn, .int .i64 yi1, .int .i64 yi2] 93)).drew.cell? ⟨w.heap.size + 1, 1, none⟩ = some (.int .i64 yd2) ∧ ((w.alloc (.cells #[.int .i64 xd1, .int .i64 xd2, .string xn, .int .i64 xi1, .int .i64 xi2] 93)).alloc (.cells #[.int .i64 yd1, .int .i64 yd2, .string yn, .int .i64 yi1, .int .i64 yi2] 93)).drew.cell? ⟨w.heap.size + 1, 2, none⟩ = some (.string yn)) ∧ Grown w ((w.alloc (.cells #[.int .i64 xd1, .int .i64 xd2, .string xn, .int .i64 xi1, .int .i64 xi2] 93)).alloc (.cells #[.int .i64 yd1, .int .i64 yd2, .string yn, .int .i64 yi1, .int .i64 yi2] 93)).drew := by
    refine ⟨⟨?_, ?_, ?_, ?_, ?_, ?_⟩, (((Grown.refl _).alloc _).alloc _).drew⟩
    · exact cell_of_row _ _ 0 _ _ (0, 0) (heap_alloc2_old w _ _)
    · exact cell_of_row _ _ 1 _ _ (0, 0) (heap_alloc2_old w _ _)
    · exact cell_of_row _ _ 2 _ _ (0, 0) (heap_alloc2_old w _ _)
    · exact cell_of_row _ _ 0 _ _ (0, 0) (heap_alloc2_new w _ _)
    · exact cell_of_row _ _ 1 _ _ (0, 0) (heap_alloc2_new w _ _)
    · exact cell_of_row _ _ 2 _ _ (0, 0) (heap_alloc2_new w _ _)
  go_region_held3 (fun W => (W.cell? ⟨w.heap.size, 0, none⟩ = some (.int .i64 xd1) ∧ W.cell? ⟨w.heap.size, 1, none⟩ = some (.int .i64 xd2) ∧ W.cell? ⟨w.heap.size, 2, none⟩ = some (.string xn) ∧ W.cell? ⟨w.heap.size + 1, 0, none⟩ = some (.int .i64 yd1) ∧ W.cell? ⟨w.heap.size + 1, 1, none⟩ = some (.int .i64 yd2) ∧ W.cell? ⟨w.heap.size + 1, 2, none⟩ = some (.string yn)) ∧ Grown w W) (first | assumption | exact cells6_alloc _ (by assumption) | (refine ⟨⟨?_, ?_, ?_, ?_, ?_, ?_⟩, ?_⟩ <;> assumption))
    (first
      | (go_at_call 51; (with_reducible refine (HC.out _).mono ?_); rintro e w' ⟨rfl, hg⟩; have hS := cells6_later hg ‹(_ ∧ _ ∧ _ ∧ _ ∧ _ ∧ _) ∧ Grown w _›)
      | (go_at_call 135; (with_reducible refine (HK.out _).mono ?_); rintro e w' ⟨rfl, rfl⟩; have hS := ‹(_ ∧ _ ∧ _ ∧ _ ∧ _ ∧ _) ∧ Grown w _›)
      | (go_at_call 91; refine (or_any _ c k _ ?_ ?_).mono ?_; exact (cell_two _ _ _ _).1; exact (cell_two _ _ _ _).2; rintro e w' ⟨rfl, rfl⟩; have hS := ‹(_ ∧ _ ∧ _ ∧ _ ∧ _ ∧ _) ∧ Grown w _›))
  have hB := (show Grown w _ from And.right ‹(_ ∧ _ ∧ _ ∧ _ ∧ _ ∧ _) ∧ Grown w _›)
  clear hS0
  go_wp2_with fail
  go_ret
  exact ⟨by rw [← HV.out]; rfl, hB⟩


set_option maxRecDepth 100000 in
theorem auIno_code (x y : Ino) (w : World) :
    Calls Tryz.prog 137 #[.agg (inoA x), .agg (inoA y)] w fun e w' => e = .returned (.int .i64 (inoI x y)) ∧ Below w.heap.size w w' := by
  obtain ⟨⟨xd1, xd2⟩, xk, xl, xm, xd⟩ := x
  obtain ⟨⟨yd1, yd2⟩, yk, yl, ym, yd⟩ := y
  unfold inoA inoI
  obtain ⟨c, hc⟩ : ∃ c, c = cmp xd1 xd2 yd1 yd2 := ⟨_, rfl⟩
  simp only [← hc]
  have HC : Hid (∀ W : World, Calls Tryz.prog 51 #[.agg #[.int .i64 xd1, .int .i64 xd2], .agg #[.int .i64 yd1, .int .i64 yd2]] W fun e w' => e = .returned (.int .i64 c) ∧ Grown W w') := fun W => by rw [hc]; exact compare_grown _ _ _ _ W
  clear hc
  go_enter Tryz.func137, Tryz.ntmps137
  go_wp2_with fail
  refine (HC.out _).mono ?_
  rintro e w1 ⟨rfl, hg1⟩
  go_wp2_with fail
  go_ret
  exact ⟨rfl, ((((Grown.refl _).alloc _).alloc _).trans hg1).1⟩

theorem auAhead_code (x y : Ent) (w : World) :
    Calls Tryz.prog 139 #[.agg (entA x), .agg (entA y)] w fun e w' => e = .returned (.int .i64 (aheadI x y)) ∧ Below w.heap.size w w' := (auAhead_grown x y w).mono fun _ _ h => ⟨h.1, h.2.1⟩

theorem pair_of_next {α : Type} {r : α → α → Prop} (tr : ∀ a b c, r a b → r b c → r a c) {l : List α} (h : ∀ i (hi : i + 1 < l.length), r l[i] l[i + 1]) : l.Pairwise r := by
  rw [List.pairwise_iff_getElem]
  intro i j hi hj hij
  obtain ⟨d, rfl⟩ : ∃ d, j = i + 1 + d := ⟨j - (i + 1), by omega⟩
  induction d with
  | zero => exact h i hj
  | succ d ih => exact tr _ _ _ (ih (by omega) (by omega)) (h (i + 1 + d) hj)

theorem next_of_pair {α : Type} {r : α → α → Prop} {l : List α} (h : l.Pairwise r) {i : Nat} (hi : i + 1 < l.length) : r l[i] l[i + 1] := List.pairwise_iff_getElem.1 h i (i + 1) (by omega) hi (by omega)

set_option maxRecDepth 100000 in
set_option maxHeartbeats 1600000 in
theorem risesI_code (A : Option Addr) (n c : Nat) (N : List Ino) (hn : n ≤ 1000) (w : World) (h : InosIn w w.heap.size A n N) :
    Calls Tryz.prog 136 #[.slice A n c, .func (.func 137) #[] #[]] w fun e w' => e = .returned (.bool (decide (N.Pairwise fun a b => lessS a.id b.id = true))) ∧ Below w.heap.size w w' := by
  obtain ⟨B, hBd⟩ : ∃ B, B = decide (N.Pairwise fun a b => lessS a.id b.id = true) := ⟨_, rfl⟩
  rw [← hBd]
  have HBd := Lib.hid hBd
  clear hBd
  have hl := h.len
  have HI := Lib.hid h
  clear h
  have HT : Hid (∀ a b c : Ino, lessS a.id b.id = true → lessS b.id c.id = true → lessS a.id c.id = true) := fun a b c => lessS_trans
  go_enter Tryz.func136, Tryz.ntmps136
  go_wp2_with fail
  go_loopg [5] (n + 2) (fun gk i wr => ∃ k : Nat, i = .int .i64 (k : Int) ∧ gk + k = n + 3 ∧ 0 < k ∧ k ≤ n + 1 ∧ Hid (∀ j (hj : j + 1 < N.length), j + 1 < k → ltOf inoI N[j] N[j + 1] = true) ∧ Hid (Below w.heap.size w wr))
  case atStart => exact ⟨1, rfl, by omega, by omega, by omega, (fun j hj q => by omega), Below.refl _ _⟩
  case round =>
    obtain ⟨k, rfl, hgk, hk0, hk, hno, hB⟩ := hrel
    by_cases hlt : k < n
    · obtain ⟨g, o, rfl, hg, hrow⟩ := HI.out.row (by omega)
      have hlow := hB.out.size
      obtain ⟨e0, e1, e2, e3, e4, e5⟩ := (hrow (k - 1) (by omega)).below hB.out hg
      obtain ⟨f0, f1, f2, f3, f4, f5⟩ := (hrow k (by omega)).below hB.out hg
      clear hrow
      have hk1 : k - 1 < N.length := by omega
      have hk2 : k < N.length := by omega
      have hs : ∀ j (hj : j + 1 < N.length), ltOf inoI (N[k - 1]'hk1) (N[k]'hk2) = true → j + 1 < k + 1 → ltOf inoI N[j] N[j + 1] = true := fun j hj q1 q2 => by
        by_cases q : j + 1 < k
        · exact hno.out j hj q
        · obtain rfl : k = j + 1 := by omega
          exact q1
      have hf : ¬ ltOf inoI (N[k - 1]'hk1) (N[k]'hk2) = true → ¬ N.Pairwise fun a b => lessS a.id b.id = true := fun q hp => q (by
        obtain ⟨j, rfl⟩ : ∃ j, k = j + 1 := ⟨k - 1, by omega⟩
        rw [inoI_lt]
        exact next_of_pair hp (i := j) (by omega))
      obtain ⟨x, hx⟩ : ∃ x, x = N[k - 1]'hk1 := ⟨_, rfl⟩
      obtain ⟨y, hy⟩ : ∃ y, y = N[k]'hk2 := ⟨_, rfl⟩
      rw [← hx] at e0 e1 e2 e3 e4 e5 hs hf
      rw [← hy] at f0 f1 f2 f3 f4 f5 hs hf
      clear hx hy
      obtain ⟨v, hv⟩ : ∃ v, v = inoI x y := ⟨_, rfl⟩
      unfold ltOf at hs hf
      rw [← hv] at hf
      simp only [← hv] at hs
      have HS := Lib.hid hs
      have HF := Lib.hid hf
      have HC : Hid (∀ W : World, Calls Tryz.prog 137 #[.agg (inoA x), .agg (inoA y)] W fun e w' => e = .returned (.int .i64 v) ∧ Below W.heap.size W w') := fun W => by rw [hv]; exact auIno_code x y W
      clear hs hf hv
      unfold inoA at HC
      have le0 := later_cell e0
      have le1 := later_cell e1
      have le2 := later_cell e2
      have le3 := later_cell e3
      have le4 := later_cell e4
      have le5 := later_cell e5
      have lf0 := later_cell f0
      have lf1 := later_cell f1
      have lf2 := later_cell f2
      have lf3 := later_cell f3
      have lf4 := later_cell f4
      have lf5 := later_cell f5
      have HCl := Lib.hid fun (y : World) => later_call (HC.out (later wr y))
      clear e0 e1 e2 e3 e4 e5 f0 f1 f2 f3 f4 f5 HC
      go_upto_region 4 with fail
      refine wp_region_later (by kernel_rfl) (by kernel_rfl) ?_
      repeat (go_big_quiet_step (first | (with_reducible exact HCl.out _)))
      refine wpQuiet_nil ?_
      intro _ hw'
      obtain ⟨z, rfl⟩ := hw'
      clear le0 le1 le2 le3 le4 le5 lf0 lf1 lf2 lf3 lf4 lf5
      have hB2 := Lib.hid (below_step hB.out (later_below wr z))
      generalize later wr z = w2 at hB2 ⊢
      by_cases hv0 : v < 0
      · have hd : decide (v ≥ 0) = false := decide_eq_false (by omega)
        go_wp2_with fail
        go_roundg (gk - 1)
        case measure => omega
        case rel => exact ⟨k + 1, by go_num, by omega, by omega, by omega, (fun j hj q => HS.out j hj (decide_eq_true hv0) q), hB2⟩
      · have hd : v ≥ 0 := by omega
        go_wp2_with fail
        go_ret
        exact ⟨by rw [HBd.out, decide_eq_false (HF.out (by rw [decide_eq_false (show ¬ v < 0 by omega)]; decide))]; rfl, hB2.out⟩
    · go_wp2_with fail
      go_ret
      have hp : N.Pairwise fun a b => lessS a.id b.id = true := pair_of_next (r := fun (a b : Ino) => lessS a.id b.id = true) HT.out fun j hj => by
        rw [← inoI_lt]
        exact hno.out j hj (by omega)
      exact ⟨by rw [HBd.out, decide_eq_true hp]; rfl, hB.out⟩

set_option maxRecDepth 100000 in
set_option maxHeartbeats 1600000 in
theorem risesE_code (A : Option Addr) (n c : Nat) (N : List Ent) (hn : n ≤ 1000) (w : World) (h : EntsIn w w.heap.size A n N) :
    Calls Tryz.prog 138 #[.slice A n c, .func (.func 139) #[] #[]] w fun e w' => e = .returned (.bool (decide (N.Pairwise fun a b => aheadE a b = true))) ∧ Below w.heap.size w w' := by
  obtain ⟨B, hBd⟩ : ∃ B, B = decide (N.Pairwise fun a b => aheadE a b = true) := ⟨_, rfl⟩
  rw [← hBd]
  have HBd := Lib.hid hBd
  clear hBd
  have hl := h.len
  have HI := Lib.hid h
  clear h
  have HT : Hid (∀ a b c : Ent, aheadE a b = true → aheadE b c = true → aheadE a c = true) := fun a b c => aheadE_trans
  go_enter Tryz.func138, Tryz.ntmps138
  go_wp2_with fail
  go_loopg [5] (n + 2) (fun gk i wr => ∃ k : Nat, i = .int .i64 (k : Int) ∧ gk + k = n + 3 ∧ 0 < k ∧ k ≤ n + 1 ∧ Hid (∀ j (hj : j + 1 < N.length), j + 1 < k → ltOf aheadI N[j] N[j + 1] = true) ∧ Hid (Below w.heap.size w wr))
  case atStart => exact ⟨1, rfl, by omega, by omega, by omega, (fun j hj q => by omega), Below.refl _ _⟩
  case round =>
    obtain ⟨k, rfl, hgk, hk0, hk, hno, hB⟩ := hrel
    by_cases hlt : k < n
    · obtain ⟨g, o, rfl, hg, hrow⟩ := HI.out.row (by omega)
      have hlow := hB.out.size
      obtain ⟨e0, e1, e2, e3, e4⟩ := (hrow (k - 1) (by omega)).below hB.out hg
      obtain ⟨f0, f1, f2, f3, f4⟩ := (hrow k (by omega)).below hB.out hg
      clear hrow
      have hk1 : k - 1 < N.length := by omega
      have hk2 : k < N.length := by omega
      have hs : ∀ j (hj : j + 1 < N.length), ltOf aheadI (N[k - 1]'hk1) (N[k]'hk2) = true → j + 1 < k + 1 → ltOf aheadI N[j] N[j + 1] = true := fun j hj q1 q2 => by
        by_cases q : j + 1 < k
        · exact hno.out j hj q
        · obtain rfl : k = j + 1 := by omega
          exact q1
      have hf : ¬ ltOf aheadI (N[k - 1]'hk1) (N[k]'hk2) = true → ¬ N.Pairwise fun a b => aheadE a b = true := fun q hp => q (by
        obtain ⟨j, rfl⟩ : ∃ j, k = j + 1 := ⟨k - 1, by omega⟩
        rw [aheadI_lt]
        exact next_of_pair hp (i := j) (by omega))
      obtain ⟨x, hx⟩ : ∃ x, x = N[k - 1]'hk1 := ⟨_, rfl⟩
      obtain ⟨y, hy⟩ : ∃ y, y = N[k]'hk2 := ⟨_, rfl⟩
      rw [← hx] at e0 e1 e2 e3 e4 hs hf
      rw [← hy] at f0 f1 f2 f3 f4 hs hf
      clear hx hy
      obtain ⟨v, hv⟩ : ∃ v, v = aheadI x y := ⟨_, rfl⟩
      unfold ltOf at hs hf
      rw [← hv] at hf
      simp only [← hv] at hs
      have HS := Lib.hid hs
      have HF := Lib.hid hf
      have HC : Hid (∀ W : World, Calls Tryz.prog 139 #[.agg (entA x), .agg (entA y)] W fun e w' => e = .returned (.int .i64 v) ∧ Below W.heap.size W w') := fun W => by rw [hv]; exact auAhead_code x y W
      clear hs hf hv
      unfold entA at HC
      have le0 := later_cell e0
      have le1 := later_cell e1
      have le2 := later_cell e2
      have le3 := later_cell e3
      have le4 := later_cell e4
      have lf0 := later_cell f0
      have lf1 := later_cell f1
      have lf2 := later_cell f2
      have lf3 := later_cell f3
      have lf4 := later_cell f4
      have HCl := Lib.hid fun (y : World) => later_call (HC.out (later wr y))
      clear e0 e1 e2 e3 e4 f0 f1 f2 f3 f4 HC
      go_upto_region 4 with fail
      refine wp_region_later (by kernel_rfl) (by kernel_rfl) ?_
      repeat (go_big_quiet_step (first | (with_reducible exact HCl.out _)))
      refine wpQuiet_nil ?_
      intro _ hw'
      obtain ⟨z, rfl⟩ := hw'
      clear le0 le1 le2 le3 le4 lf0 lf1 lf2 lf3 lf4
      have hB2 := Lib.hid (below_step hB.out (later_below wr z))
      generalize later wr z = w2 at hB2 ⊢
      by_cases hv0 : v < 0
      · have hd : decide (v ≥ 0) = false := decide_eq_false (by omega)
        go_wp2_with fail
        go_roundg (gk - 1)
        case measure => omega
        case rel => exact ⟨k + 1, by go_num, by omega, by omega, by omega, (fun j hj q => HS.out j hj (decide_eq_true hv0) q), hB2⟩
      · have hd : v ≥ 0 := by omega
        go_wp2_with fail
        go_ret
        exact ⟨by rw [HBd.out, decide_eq_false (HF.out (by rw [decide_eq_false (show ¬ v < 0 by omega)]; decide))]; rfl, hB2.out⟩
    · go_wp2_with fail
      go_ret
      have hp : N.Pairwise fun a b => aheadE a b = true := pair_of_next (r := fun (a b : Ent) => aheadE a b = true) HT.out fun j hj => by
        rw [← aheadI_lt]
        exact hno.out j hj (by omega)
      exact ⟨by rw [HBd.out, decide_eq_true hp]; rfl, hB.out⟩

end Go.Proofs.YtlhdbccemgofjaaGreatDoor
