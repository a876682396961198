/-
  Whatever operations are done, one behind the other, each answer, and the graph, are the document's: for all lists of operations (100 at most).
-/
import Derived.Test.YtlhdbccemgofjaaGreatDoorZ01
import Derived.Test.YtlhdbccemgofjaaGreatDoorZ01
import Derived.Test.YtlhdbccemgofjaaGreatDoorApplyRefDoZ
import Derived.Test.YtlhdbccemgofjaaGreatDoorZ01
import Derived.Test.YtlhdbccemgofjaaGreatDoorGraphPlayZ
import Derived.Test.YtlhdbccemgofjaaGreatDoorGraphRefInodesZ
import Derived.Test.YtlhdbccemgofjaaGreatDoorGraphRefNewZ
import Derived.Test.YtlhdbccemgofjaaGreatDoorGraphRefSameZ
import Derived.Deep.LoopGhost
import Derived.Deep.RegionHeld3
import Derived.Deep.RegionWith
import Derived.OpenShut
import Derived.Deep.Cut
import Derived.Deep.DeepCutAuto
namespace Go.Proofs.YtlhdbccemgofjaaGreatDoor.lawApplyTells
open Go.RowKit StampMath GraphMath OpMath PackMath

theorem kept_of {C : Prop} {V W : World} (h : C ∧ KeptFrom V W) : Below V.heap.size V W := h.2

theorem done_err (g : Gr) (o : Opn) : (doA g o).2 = whyA g o := by
  unfold doA
  split
  · rename_i h; exact h.symm
  · rfl

theorem play_step {H : GraphHave} {w W W' : World} {a : Addr} {bx : Nat} {γ : Gr} {X : Option Addr} {n1 c1 : Nat} {Y : Option Addr} {m1 d1 : Nat} {N : Nat → Prop} (h : Play H w W a bx γ X n1 c1 Y m1 d1 N) (hb : Below W.heap.size W W') : Play H w W' a bx γ X n1 c1 Y m1 d1 N :=
  ⟨h.gr.step hb, h.x.step (N' := fun i => N i ∧ i ≠ bx) hb, h.here, h.ge, (hb.block _ (heap_lt h.box)).trans h.box⟩

set_option maxRecDepth 100000 in
set_option maxHeartbeats 3200000 in
theorem core {H : GraphHave} (P : ApplyHave H) (A : Option Addr) (n c : Nat) (l : List Opn) (hfit : ∀ x ∈ l, OpFit x) (w : World) (T : Tab w) (h : OpsIn w w.heap.size A n l) :
    Calls Tryz.prog 3 #[.slice A n c] w fun e w' => e = .returned (.bool true) ∧ Below w.heap.size w w' := by
  have hl := h.len
  have HX := Lib.hid h
  have HL := Lib.hid hl
  have HF := Lib.hid hfit
  clear h hfit hl
  go_enter Tryz.func3, Tryz.ntmps3
  go_wp2_with fail
  refine (P.shown _ T).mono ?_
  rintro e w1 ⟨rfl, hb1⟩
  go_wp2_with fail
  refine (few_any A n c _).mono ?_
  rintro e w2 ⟨rfl, hb2⟩
  have H2 := Lib.hid (below_step hb1 hb2)
  clear hb1 hb2
  by_cases hn : n ≤ 100
  · have hd : decide (n ≤ 100) = true := decide_eq_true hn
    go_wp2_with fail
    refine (GX.new (H := H) H2.out (fun _ => False) (fun _ h => h.elim)).mono ?_
    rintro e w3 ⟨a, rfl, g3, _⟩
    have G2 := Lib.hid g3
    clear g3 hd
    go_wp2_with fail
    refine (refGraphNew _).mono ?_
    rintro e w4 ⟨v, rfl, x3, hb3⟩
    obtain ⟨X, n1, c1, Y, m1, d1, rfl⟩ := x3.form
    have q3 := Lib.hid (And.intro x3 hb3)
    clear x3 hb3
    go_wp2_with fail
    have P0 : Hid (∃ N, Play H w (w4.alloc (.cells #[.slice X n1 c1, .slice Y m1 d1] 30)) a w4.heap.size newG X n1 c1 Y m1 d1 N) := by
      obtain ⟨x3, hb3⟩ := q3.out
      have hA := (Below.refl w4.heap.size w4).alloc (Nat.le_refl _) (.cells #[.slice X n1 c1, .slice Y m1 d1] 30)
      have h1 := below_step hb3 hA
      have g1 := G2.out.grow h1
      have hs := hb3.size
      have hs2 := G2.out.below.size
      refine ⟨_, g1, (x3.live.step hA fun i hi => ?_), .inr ⟨hs, by simp⟩, by omega, heap_alloc_new w4 _⟩
      exact ⟨.inr ⟨hi.1, by simp; omega⟩, by omega⟩
    clear q3 G2
    change Code.wp _ _ _ _ (w4.alloc (.cells #[.slice X n1 c1, .slice Y m1 d1] 30))
    obtain ⟨bx, hbx⟩ : ∃ b, b = w4.heap.size := ⟨_, rfl⟩
    rw [← hbx] at P0 ⊢
    generalize w4.alloc (.cells #[.slice X n1 c1, .slice Y m1 d1] 30) = wz at P0 ⊢
    clear hbx
    go_loopg [6] 101 (fun gk i wr => ∃ (k : Nat) (γ : Gr) (X : Option Addr) (n1 c1 : Nat) (Y : Option Addr) (m1 d1 : Nat), i = .int .i64 (k : Int) ∧ gk + k = 101 ∧ k ≤ n ∧ Hid (∃ N, Play H w wr a bx γ X n1 c1 Y m1 d1 N) ∧ Hid γ.fine)
    case atStart => exact ⟨0, newG, X, n1, c1, Y, m1, d1, rfl, by omega, by omega, P0, new_fine⟩
    case round =>
      clear P0
      obtain ⟨k, γ, Xa, na, ca, Ya, ma, da, rfl, hgk, hk, hP, hFi⟩ := hrel
      have HG := Lib.hid hgk
      clear hgk
      by_cases hlt : k < n
      · obtain ⟨gi, o, rfl, hg, hcell⟩ := HX.out.row (by omega)
        have lk : k < l.length := by have := HL.out; omega
        have hnm := HF.out _ (List.getElem_mem lk)
        have hca := hcell k lk
        obtain ⟨d, hd⟩ : ∃ d, l[k] = d := ⟨_, rfl⟩
        rw [hd] at hca hnm
        have HD : Hid (∀ W, Below w.heap.size w W → OpAt W gi (o + k * 13) d) := fun W hW => hca.below hW hg
        have HNM := Lib.hid hnm
        have hi0 : (0 : Int) ≤ (k : Int) := by omega
        have hi1 : (k : Int) < (n : Int) := by omega
        clear hcell hca hd hnm lk hg
        obtain ⟨N, hP⟩ := hP.out
        have PP := Lib.hid hP
        have HWy := Lib.hid (FX.why P ⟨hP.gr, hFi.out⟩ T d HNM.out)
        obtain ⟨z0, z1, z2, z3, z4, z5, z6, z7, z8, z9, z10, z11, z12⟩ := HD.out _ hP.gr.below
        unfold opA at HWy
        clear hP hlt
        go_wp2_with fail
        refine HWy.out.mono ?_
        rintro e w5 ⟨rfl, f5, hb5⟩
        have PC := Lib.hid (play_step PP.out hb5)
        have F5 := Lib.hid f5
        have HDo := Lib.hid (FX.does P f5 T d HNM.out)
        unfold opA at HDo
        rw [done_err] at HDo
        clear z0 z1 z2 z3 z4 z5 z6 z7 z8 z9 z10 z11 z12 HWy PP hb5
        obtain ⟨z0, z1, z2, z3, z4, z5, z6, z7, z8, z9, z10, z11, z12⟩ := HD.out _ f5.below
        clear f5
        go_wp2_with fail
        refine HDo.out.mono ?_
        rintro e w6 ⟨rfl, f6, s6⟩
        have hF6 := Lib.hid f6.fine
        have P6 : Hid (GX H w w6 (fun i => N i ∨ False) a (doA γ d).1 ∧ GrAt (fun i => N i ∧ i ≠ bx) w6 (.agg #[.slice Xa na ca, .slice Ya ma da]) γ ∧ (N bx ∧ w.heap.size ≤ bx) ∧ w6.heap[bx]? = some (.cells #[.slice Xa na ca, .slice Ya ma da] 30 (0, 0))) :=
          ⟨f6.gx.less fun i hi => hi.elim id False.elim, PC.out.x.keep (fun i hi => s6.2 i hi.1) s6.1, ⟨PC.out.here, PC.out.ge⟩, (s6.2 _ PC.out.here).trans PC.out.box⟩
        clear f6 s6 HDo PC F5 z0 z1 z2 z3 z4 z5 z6 z7 z8 z9 z10 z11 z12
        obtain ⟨z0, z1, z2, z3, z4, z5, z6, z7, z8, z9, z10, z11, z12⟩ := HD.out _ P6.out.1.below
        obtain ⟨x0, x1⟩ := two_cells P6.out.2.2.2
        have R : Hid (∀ W, Below w6.heap.size w6 W → Calls Tryz.prog 17 #[.agg #[.slice Xa na ca, .slice Ya ma da], .agg #[.int .i64 d.st, .int .i64 d.sr, .int .i64 d.k, .int .i64 d.pt, .int .i64 d.pr, .int .i64 d.it, .int .i64 d.ir, .int .i64 d.tt, .int .i64 d.tr, .string d.name, .string d.new, .int .i64 d.off, .string d.data]] W fun e w' =>
            ∃ (X : Option Addr) (n1 c1 : Nat) (Y : Option Addr) (m1 d1 : Nat), e = .returned (.tuple #[.agg #[.slice X n1 c1, .slice Y m1 d1], .int .i64 (whyA γ d)]) ∧ GrAt (MoreN (fun i => N i ∧ i ≠ bx) W) w' (.agg #[.slice X n1 c1, .slice Y m1 d1]) (doA γ d).1 ∧ Below W.heap.size W w') := fun W hW => by
          have h1 := HNM.out.name
          have h2 := HNM.out.new
          have h3 := HNM.out.data
          unfold maxLen at h1 h2 h3
          refine (refDo (fun i => N i ∧ i ≠ bx) _ γ d hFi.out (by omega) (by omega) (by omega) HNM.out.ok W (P6.out.2.1.step hW)).mono ?_
          rintro e w' ⟨v, rfl, q1, q2⟩
          obtain ⟨X, n1, c1, Y, m1, d1, rfl⟩ := q1.form
          exact ⟨X, n1, c1, Y, m1, d1, by rw [done_err], q1, q2⟩
        generalize (doA γ d).1 = φ at R P6 hF6
        generalize whyA γ d = er at R ⊢
        have hNl : Hid (∀ i, (fun i => N i ∧ i ≠ bx) i → i < w6.heap.size) := fun i hi => P6.out.1.lt i (.inl hi.1)
        go_upto_region 11 with fail
        go_cut [9, 10] from 36 to 44 (fun v1 v2 wx => Told (fun i => N i ∧ i ≠ bx) w6 φ er v1 v2 wx)
        case first =>
          have zb := heap_lt P6.out.2.2.2
          have zg : gi < w6.heap.size := World.block_lt_of_cell? _ _ z0
          go_region_with (first
            | (go_at_call 17; (with_reducible refine (R.out ((w6.alloc (.cells #[.slice none 0 0, .slice none 0 0] 30)).drew) (by repeat (first | exact Below.refl _ _ | assumption | apply Below.drew | exact (Below.refl _ _).alloc (Nat.le_refl _) _))).mono ?_); rintro e w8 ⟨X8, n8, c8, Y8, m8, d8, rfl, q8, hb8⟩; have hx8 := box_behind hb8; obtain ⟨y0, y1⟩ := two_cells hx8; obtain ⟨y2, y3⟩ := two_free hx8)
            | (go_at_call 17; (with_reducible refine (R.out _ (by repeat (first | exact Below.refl _ _ | assumption | apply Below.drew | exact (Below.refl _ _).alloc (Nat.le_refl _) _))).mono ?_); rintro e w8 ⟨X8, n8, c8, Y8, m8, d8, rfl, q8, hb8⟩))
          all_goals
            go_wp2_with fail
            go_meet
          all_goals (case rel => first | exact told_after (by repeat (first | exact Below.refl _ _ | assumption | apply Below.drew)) q8 hb8 | exact told_before hNl.out hx8 q8 hb8)
        case rest =>
          obtain ⟨bn, X8, n8, c8, Y8, m8, d8, rfl, rfl, hB8, hge8, hbox8, q8⟩ := hcut
          generalize wc = w9 at hB8 hbox8 q8 ⊢
          have hx9 := (hB8.block _ (heap_lt P6.out.2.2.2)).trans P6.out.2.2.2
          have HE : Hid (∃ N', Play H w ((w9.setCell ⟨bx, 0, none⟩ (.slice X8 n8 c8)).setCell ⟨bx, 1, none⟩ (.slice Y8 m8 d8)) a bx φ X8 n8 c8 Y8 m8 d8 N') :=
            play_end P6.out.1 P6.out.2.2.1.1 P6.out.2.2.1.2 P6.out.2.2.2 hB8 q8 (Below.refl _ _)
          clear x0 x1 z0 z1 z2 z3 z4 z5 z6 z7 z8 z9 z10 z11 z12 q8
          obtain ⟨x0, x1⟩ := two_cells hx9
          obtain ⟨y0, y1⟩ := two_cells hbox8
          obtain ⟨f0, f1⟩ := two_free hx9
          clear hx9 hB8 hge8 hbox8 P6 R hNl HD
          go_upto_region 13 with fail
          change Code.wp _ _ _ _ ((w9.setCell ⟨bx, 0, none⟩ (.slice X8 n8 c8)).setCell ⟨bx, 1, none⟩ (.slice Y8 m8 d8))
          generalize (w9.setCell ⟨bx, 0, none⟩ (.slice X8 n8 c8)).setCell ⟨bx, 1, none⟩ (.slice Y8 m8 d8) = V at HE ⊢
          clear x0 x1 y0 y1 f0 f1
          obtain ⟨N2, hE⟩ := HE.out
          have hn1 : φ.I.length ≤ 1000 := hF6.out.ok.lenI
          have hm1 : φ.E.length ≤ 1000 := hF6.out.ok.lenE
          obtain ⟨S, r4, _⟩ := hE.gr.at'
          have C6 : Hid (∀ W, Below V.heap.size V W → Calls Tryz.prog 19 #[.pointer (some a)] W (InosPost (inodesG φ) W)) := fun W hW => told_inos H r4 hF6.out.ok hW
          have C12 : Hid (∀ W, Below V.heap.size V W → Calls Tryz.prog 22 #[.pointer (some a)] W (EntsPost φ.E W)) := fun W hW => told_ents H r4 hF6.out.ok hW
          have hin : (inodesG φ).length = φ.I.length := by unfold inodesG; rw [List.length_map]
          have hxx := hE.x
          have C8 : Hid (∀ W, Below V.heap.size V W → Calls Tryz.prog 20 #[.agg #[.slice X8 n8 c8, .slice Y8 m8 d8]] W (InosPost (inodesG φ) W)) := fun W hW => by
            obtain ⟨A1, n1, c1, A2, m2, d2, e, hI, _, hEE, _⟩ := hxx
            simp only [Value.agg.injEq, Array.mk.injEq, List.cons.injEq, Value.slice.injEq, and_true] at e
            obtain ⟨⟨rfl, rfl, rfl⟩, rfl, rfl, rfl⟩ := e
            have l1 := hI.len
            have l2 := hEE.len
            exact refInodes X8 Y8 n8 c8 m8 d8 φ (by omega) (by omega) W ((hI.below hW).more hW.size) ((hEE.below hW).more hW.size)
          have C9 : Hid (∀ (B B' : Option Addr) (k k' : Nat) (W : World), InosIn W W.heap.size B (inodesG φ).length (inodesG φ) → InosIn W W.heap.size B' (inodesG φ).length (inodesG φ) → Calls Tryz.prog 18 #[.slice B (inodesG φ).length k, .slice B' (inodesG φ).length k'] W fun e w' => e = .returned (.bool true) ∧ Below W.heap.size W w') := fun B B' k k' W h1 h2 => by
            have := refNodes B B' _ k _ k' _ _ (by omega) (by omega) W h1 h2
            simpa using this
          have C15 : Hid (∀ (B : Option Addr) (k : Nat) (W : World), Below V.heap.size V W → EntsIn W W.heap.size B φ.E.length φ.E → Calls Tryz.prog 21 #[.slice B φ.E.length k, .slice Y8 m8 d8] W fun e w' => e = .returned (.bool true) ∧ Below W.heap.size W w') := fun B k W hW h1 => by
            obtain ⟨A1, n1, c1, A2, m2, d2, e, hI, _, hEE, _⟩ := hxx
            simp only [Value.agg.injEq, Array.mk.injEq, List.cons.injEq, Value.slice.injEq, and_true] at e
            obtain ⟨⟨rfl, rfl, rfl⟩, rfl, rfl, rfl⟩ := e
            have hl := hEE.len
            have := refEnts B Y8 _ k m8 d8 _ _ (by omega) (by omega) W h1 ((hEE.below hW).more hW.size)
            simpa using this
          obtain ⟨x0, x1⟩ := two_cells hE.box
          have HP := Lib.hid hE
          have HS : Hid (∀ W, Below V.heap.size V W → (W.cell? ⟨bx, 0, none⟩ = some (.slice X8 n8 c8) ∧ W.cell? ⟨bx, 1, none⟩ = some (.slice Y8 m8 d8)) ∧ KeptFrom V W) := fun W hW => ⟨⟨cell_later hW x0, cell_later hW x1⟩, hW⟩
          have hS0 := HS.out _ (Below.refl _ _)
          have hSd := HS.out _ (Below.refl _ _).drew
          generalize inodesG φ = IX at C6 C8 C9
          obtain ⟨EX, hEX⟩ : ∃ E, E = φ.E := ⟨_, rfl⟩
          rw [← hEX] at C12 C15
          clear x0 x1 hE hxx r4 hin hn1 hm1 hEX HE
          go_region_held3 (fun W => (W.cell? ⟨bx, 0, none⟩ = some (.slice X8 n8 c8) ∧ W.cell? ⟨bx, 1, none⟩ = some (.slice Y8 m8 d8)) ∧ KeptFrom V W)
            (first | (with_reducible assumption))
            (first
              | (go_at_call 19; (with_reducible refine (C6.out _ (kept_of (by assumption))).mono ?_); rintro z w11 ⟨B1, k1, rfl, q1, _, _, _, hb⟩; have hS := HS.out _ (below_step (kept_of (by assumption)) hb))
              | (go_at_call 20; (with_reducible refine (C8.out _ (kept_of (by assumption))).mono ?_); rintro z w12 ⟨B1, k1, rfl, q1, _, _, _, hb⟩; have hS := HS.out _ (below_step (kept_of (by assumption)) hb))
              | (go_at_call 18; (with_reducible refine (C9.out _ _ _ _ _ (inos_later (by assumption) (by repeat (first | exact Below.refl _ _ | assumption | apply Below.drew | refine below_step ?_ (by assumption)))) (inos_later (by assumption) (by repeat (first | exact Below.refl _ _ | assumption | apply Below.drew | refine below_step ?_ (by assumption))))).mono ?_); rintro z w13 ⟨rfl, hb⟩; have hS := HS.out _ (below_step (kept_of (by assumption)) hb))
              | (go_at_call 22; (with_reducible refine (C12.out _ (kept_of (by assumption))).mono ?_); rintro z w14 ⟨B1, k1, rfl, q1, _, _, _, hb⟩; have hS := HS.out _ (below_step (kept_of (by assumption)) hb))
              | (go_at_call 21; (with_reducible refine (C15.out _ _ _ (kept_of (by assumption)) (ents_later (by assumption) (by repeat (first | exact Below.refl _ _ | assumption | apply Below.drew | refine below_step ?_ (by assumption))))).mono ?_); rintro z w15 ⟨rfl, hb⟩; have hS := HS.out _ (below_step (kept_of (by assumption)) hb)))
          all_goals
            go_wp2_with fail
            go_roundg (gk - 1)
          case measure => have := HG.out; omega
          case rel => exact ⟨k + 1, φ, X8, n8, c8, Y8, m8, d8, by go_num, by have := HG.out; omega, by omega, ⟨N2, play_step HP.out (kept_of hS)⟩, hF6⟩
      · have hc : ¬ (k : Int) < (n : Int) := by omega
        have hB : Hid (Below w.heap.size w wr) := by obtain ⟨N, h⟩ := hP.out; exact h.gr.below
        clear hlt hP
        go_wp2_with fail
        go_ret
        exact ⟨rfl, hB.out⟩
  · have hd : decide (n ≤ 100) = false := decide_eq_false hn
    go_wp2_with fail
    go_ret
    exact ⟨rfl, H2.out⟩

theorem walk0 {H : GraphHave} (P : ApplyHave H) (a0A : Option Addr) (a0n : Nat) (a0c : Nat) (a0x : List Opn) (w : World) [T : Tab w] (_ : a0n ≤ a0c) (_ : a0c ≤ maxLen) (w0x : ∀ x ∈ a0x, OpFit x) (w0d : OpsIn w w.heap.size a0A a0n a0x) :
    Calls Tryz.prog 3 #[.slice a0A a0n a0c] w fun e w' => e = .returned (.bool true) ∧ Below w.heap.size w w' :=
  core P a0A a0n a0c a0x w0x w T w0d

end Go.Proofs.YtlhdbccemgofjaaGreatDoor.lawApplyTells
