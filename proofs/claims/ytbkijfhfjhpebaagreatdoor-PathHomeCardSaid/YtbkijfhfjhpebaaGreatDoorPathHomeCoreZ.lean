/-
  A directory is found by its home, if that isn't too long, from anywhere; and its home is told of nothing else: for all lists of operations (60 at most) and inodes.
-/
import Derived.Test.YtbkijfhfjhpebaaGreatDoorZ01
import Derived.Test.YtbkijfhfjhpebaaGreatDoorZ02
import Derived.Test.YtbkijfhfjhpebaaGreatDoorApplyToldZ
import Derived.OpenShut
import Derived.Deep.LoopGhost
import Derived.Deep.QuietTactic
import Derived.BigQuiet
namespace Go.Proofs.YtbkijfhfjhpebaaGreatDoor.lawPathHome
open Go.RowKit StampMath GraphMath OpMath PackMath

/-- What is told of an inode. -/
theorem told_kind {γ : Gr} (h : γ.fine) {k : Nat} (hk : k < (inodesG γ).length) : (homeG γ (inodesG γ)[k].id).isSome = decide ((inodesG γ)[k].kind = 1) ∧ kindG γ (inodesG γ)[k].id = (inodesG γ)[k].kind := by
  have hl : k < γ.I.length := by unfold inodesG at hk; rwa [List.length_map] at hk
  have e : (inodesG γ)[k] = (getG γ γ.I[k].id).getD noIno := by simp only [inodesG, List.getElem_map]
  have hg := h.ok.get (List.getElem_mem hl)
  have e1 : kindG γ γ.I[k].id = (inodesG γ)[k].kind := by rw [e]; rfl
  have e2 : (inodesG γ)[k].id = γ.I[k].id := by rw [e, hg]; rfl
  rw [e2]
  refine ⟨?_, e1⟩
  unfold homeG
  rw [e1]
  by_cases q : (inodesG γ)[k].kind = 1
  · rw [if_pos q, decide_eq_true q]; rfl
  · rw [if_neg q, decide_eq_false q]; rfl

set_option maxRecDepth 100000 in
set_option maxHeartbeats 3200000 in
theorem core {H : GraphHave} (P : FoldHave H) (Q : PathHave H) (A : Option Addr) (n c : Nat) (l : List Opn) (hl : ∀ x ∈ l, OpFit x) (at_ : St) (w : World) (T : Tab w) (h : OpsIn w w.heap.size A n l) :
    Calls Tryz.prog 3 #[.slice A n c, .agg (stA at_)] w fun e w' => e = .returned (.bool true) ∧ Below w.heap.size w w' := by
  have HX := Lib.hid h
  have HF := Lib.hid hl
  clear h hl
  obtain ⟨u, hu⟩ : ∃ u, u = w.heap.size := ⟨_, rfl⟩
  have hA := heap_alloc_new w (.cells (stA at_) 24)
  have hB0 : Below w.heap.size w (w.alloc (.cells (stA at_) 24)) := (Below.refl _ _).alloc (Nat.le_refl _) _
  rw [← hu] at hA
  go_enter Tryz.func3, Tryz.ntmps3
  go_wp2_with fail
  rw [← hu]
  refine (PathHave.shown P Q _ (tab_below T (Nat.le_refl _) hB0)).mono ?_
  rintro e w1 ⟨rfl, hb1⟩
  have B1 := Lib.hid (below_step hB0 hb1)
  have hlt := heap_lt hA
  have HAT := Lib.hid ((hb1.block u hlt).trans hA)
  clear hb1 hB0 hA hu hlt
  go_wp2_with fail
  refine (fewH_any A n c _).mono ?_
  rintro e w2 ⟨rfl, hb2⟩
  have B2 := Lib.hid (below_step B1.out hb2)
  have HA2 := Lib.hid ((hb2.block u (heap_lt HAT.out)).trans HAT.out)
  clear hb2 B1 HAT
  by_cases hn : n ≤ 60
  case neg =>
    have hd : decide (n ≤ 60) = false := decide_eq_false hn
    go_wp2_with fail
    go_ret
    exact ⟨rfl, B2.out⟩
  have hd : decide (n ≤ 60) = true := decide_eq_true hn
  have T2 := tab_below T (Nat.le_refl _) B2.out
  have D := Lib.hid (FX.of P A n c l w2 T2 (by omega) HF.out ((HX.out.below B2.out).more B2.out.size))
  clear T2
  go_wp2_with fail
  refine D.out.mono ?_
  rintro e w3 ⟨a, rfl, g3, hb3⟩
  have HA3 := Lib.hid ((hb3.block u (heap_lt HA2.out)).trans HA2.out)
  generalize runA (sortO l) = γ at g3
  have hfine := g3.fine
  obtain ⟨S3, r3, _⟩ := g3.gx.at'
  have CI := Lib.hid (told_inos H r3 hfine.ok (Below.refl _ _))
  unfold InosPost at CI
  have G3 := Lib.hid g3
  have HK : Hid (∀ k (hk : k < (inodesG γ).length), (homeG γ (inodesG γ)[k].id).isSome = decide ((inodesG γ)[k].kind = 1) ∧ kindG γ (inodesG γ)[k].id = (inodesG γ)[k].kind) := Lib.hid fun k hk => told_kind hfine hk
  have hI40 : (inodesG γ).length ≤ 40 := by unfold inodesG; rw [List.length_map]; exact hfine.ok.few
  generalize inodesG γ = I at CI HK hI40
  clear g3 hb3 D HA2 r3
  go_wp2_with fail
  refine CI.out.mono ?_
  rintro e w4 ⟨A4, c4, rfl, hin, hc4, hcm4, _, hb4⟩
  have HI4 := Lib.hid hin
  have G4 := Lib.hid (G3.out.step hb4)
  have HA4 := Lib.hid ((hb4.block u (heap_lt HA3.out)).trans HA3.out)
  obtain ⟨x, hx⟩ : ∃ x, x = (getG γ at_).getD noIno := ⟨_, rfl⟩
  obtain ⟨th, hth⟩ : ∃ th, th = (getG γ at_).isSome := ⟨_, rfl⟩
  have GG := G4.out.gx.get at_
  rw [← hx, ← hth] at GG
  unfold stA inoA at GG
  have GG := Lib.hid GG
  have HTH := Lib.hid hth
  obtain ⟨k0, k1⟩ := two_cells HA4.out
  clear hin hb4 CI G3 HA3 hx hth
  go_wp2_with fail
  refine GG.out.mono ?_
  rintro e w5 ⟨rfl, g5, hb5⟩
  have hA5 : Below w5.heap.size w5 (w5.alloc (.cells #[.int .i64 x.id.1, .int .i64 x.id.2, .int .i64 x.kind, .int .i64 x.links, .int .i64 x.mode, .string x.data] 32)) := (Below.refl _ _).alloc (Nat.le_refl _) _
  have G5 := Lib.hid ((⟨g5, hfine⟩ : FX H w2 w5 (fun _ => False) a γ).step hA5)
  have B45 := Lib.hid (below_step hb5 hA5)
  clear g5 hb5 hA5 GG k0 k1 G4
  go_wp2_with fail
  generalize w5.alloc (.cells #[.int .i64 x.id.1, .int .i64 x.id.2, .int .i64 x.kind, .int .i64 x.links, .int .i64 x.mode, .string x.data] 32) = w6 at G5 B45 ⊢
  go_loopg [10] (I.length + 1) (fun gk i wr => ∃ k : Nat, i = .int .i64 (k : Int) ∧ gk + k = I.length + 1 ∧ k ≤ I.length ∧ Hid (FX H w2 wr (fun _ => False) a γ ∧ Below w4.heap.size w4 wr))
  case atStart => exact ⟨0, rfl, by omega, by omega, Lib.hid ⟨G5.out, B45.out⟩⟩
  case round =>
    clear G5 B45
    obtain ⟨k, rfl, hgk, hk, hR⟩ := hrel
    have HG := Lib.hid hgk
    clear hgk
    by_cases hlt : k < I.length
    · obtain ⟨gi, o, rfl, hg, hrow⟩ := HI4.out.row (by omega)
      obtain ⟨hka, hkb⟩ := HK.out k hlt
      have HROW : Hid (∀ W, Below w4.heap.size w4 W → InoAt W gi (o + k * 6) I[k]) := Lib.hid fun W hW => (hrow k hlt).below hW hg
      generalize I[k] = d at hka hkb HROW
      obtain ⟨r0, r1, r2, r3, r4, r5⟩ := HROW.out _ hR.out.2
      have C1 := hR.out.1.home Q d.id
      obtain ⟨X, hX⟩ : ∃ X, X = homeS γ d.id := ⟨_, rfl⟩
      rw [← hX, hka] at C1
      unfold stA at C1
      have C1 := Lib.hid C1
      have hi0 : (0 : Int) ≤ (k : Int) := by omega
      have hi1 : (k : Int) < (I.length : Int) := by omega
      clear hrow
      go_wp2_with fail
      refine C1.out.mono ?_
      rintro e w7 ⟨rfl, g7, hb7⟩
      have R7 : Hid (FX H w2 w7 (fun _ => False) a γ ∧ Below w4.heap.size w4 w7) := Lib.hid ⟨g7, below_step hR.out.2 hb7⟩
      have HA7 := Lib.hid ((R7.out.2.block u (heap_lt HA4.out)).trans HA4.out)
      have HXS := Lib.hid hX
      have HKA := Lib.hid hka
      have HKB := Lib.hid hkb
      obtain ⟨k0, k1⟩ := two_cells HA7.out
      clear g7 hb7 C1 hR r0 r1 r2 r3 r4 r5 hX hka hkb
      obtain ⟨r0, r1, r2, r3, r4, r5⟩ := HROW.out _ R7.out.2
      by_cases hkd : d.kind = 1
      case neg =>
        have e1 : (d.kind == 1) = false := beq_eq_false_iff_ne.2 hkd
        have e2 : decide (d.kind = 1) = false := decide_eq_false hkd
        rw [e2]
        clear e2
        go_wp2_with fail
        go_roundg (gk - 1)
        case measure => have := HG.out; omega
        case rel => exact ⟨k + 1, by go_num, by have := HG.out; omega, by omega, R7⟩
      have e1 : (d.kind == 1) = true := beq_iff_eq.2 hkd
      have e2 : decide (d.kind = 1) = true := decide_eq_true hkd
      rw [e2]
      have HKD := Lib.hid (HKB.out.trans hkd)
      have HSM : Hid ((homeG γ d.id).isSome = true) := Lib.hid (HKA.out.trans e2)
      clear e2 hkd HKA HKB
      by_cases hxl : 128 < (X.size : Int)
      · go_wp2_with fail
        go_roundg (gk - 1)
        case measure => have := HG.out; omega
        case rel => exact ⟨k + 1, by go_num, by have := HG.out; omega, by omega, R7⟩
      cases th with
      | false =>
        go_wp2_with fail
        go_roundg (gk - 1)
        case measure => have := HG.out; omega
        case rel => exact ⟨k + 1, by go_num, by have := HG.out; omega, by omega, R7⟩
      | true =>
        have hka : kindG γ at_ ≠ 0 := fun q => by
          have := HTH.out
          rw [getG_zero hfine.ok q] at this
          cases this
        obtain ⟨hs, hhs⟩ := Option.isSome_iff_exists.1 HSM.out
        have hXl : X.data.toList = hs := by rw [HXS.out]; unfold homeS; rw [hhs]; rfl
        have hXs : X.size = hs.length := by rw [← hXl]; simp
        obtain ⟨f1, f2, f3⟩ := hfine.find_home HKD.out hka true hhs (by omega)
        have F7 := R7.out.1.find Q at_ X true (by omega)
        rw [hXl] at F7
        obtain ⟨s, er, hF⟩ : ∃ s er, findG γ at_ hs true = (s, er) := ⟨_, _, rfl⟩
        rw [hF] at f1 f2 f3 F7
        dsimp only at f1 f2 f3 F7
        subst f1
        unfold sptA stA at F7
        rw [f2, f3] at F7
        have FF := Lib.hid F7
        clear hka hhs hXl hXs f2 f3 F7 hF HSM HXS
        go_wp2_with fail
        refine FF.out.mono ?_
        rintro e w8 ⟨rfl, g8, hb8⟩
        have hA8 : Below w8.heap.size w8 (w8.alloc (.cells #[.int .i64 s.at_.1, .int .i64 s.at_.2, .string s.name, .int .i64 d.id.1, .int .i64 d.id.2, .bool true] 38)) := (Below.refl _ _).alloc (Nat.le_refl _) _
        have R8 : Hid (FX H w2 (w8.alloc (.cells #[.int .i64 s.at_.1, .int .i64 s.at_.2, .string s.name, .int .i64 d.id.1, .int .i64 d.id.2, .bool true] 38)) (fun _ => False) a γ ∧ Below w4.heap.size w4 (w8.alloc (.cells #[.int .i64 s.at_.1, .int .i64 s.at_.2, .string s.name, .int .i64 d.id.1, .int .i64 d.id.2, .bool true] 38))) := Lib.hid ⟨g8.step hA8, below_step R7.out.2 (below_step hb8 hA8)⟩
        obtain ⟨c0, c1, c2, c3, c4, c5⟩ := spt_cells (heap_alloc_new w8 (.cells #[.int .i64 s.at_.1, .int .i64 s.at_.2, .string s.name, .int .i64 d.id.1, .int .i64 d.id.2, .bool true] 38))
        clear r0 r1 r2 r3 r4 r5 k0 k1 g8 hb8 hA8 FF R7 HA7
        obtain ⟨r0, r1, r2, r3, r4, r5⟩ := HROW.out _ R8.out.2
        go_wp2_with fail
        go_quiet (fail)
        go_wp2_with fail
        go_roundg (gk - 1)
        case measure => have := HG.out; omega
        case rel => exact ⟨k + 1, by go_num, by have := HG.out; omega, by omega, Lib.hid ⟨R8.out.1.step (below_drewN' (Below.refl _ _) _), below_drewN' R8.out.2 _⟩⟩
    · have hki : ¬ (k : Int) < (I.length : Int) := by omega
      clear hlt
      have B9 := Lib.hid (below_step B2.out hR.out.1.below)
      obtain ⟨k0, k1⟩ := two_cells ((hR.out.2.block u (heap_lt HA4.out)).trans HA4.out)
      have N9 := Q.nilHome at_ wr
      unfold stA at N9
      have N9 := Lib.hid N9
      clear hR
      go_wp2_with fail
      refine N9.out.mono ?_
      rintro e w9 ⟨rfl, hb9⟩
      have B10 := Lib.hid (below_step B9.out hb9)
      clear hb9 N9 k0 k1
      go_wp2_with fail
      go_ret
      exact ⟨rfl, B10.out⟩

theorem walk0 {H : GraphHave} (P : FoldHave H) (Q : PathHave H) (a0A : Option Addr) (a0n : Nat) (a0c : Nat) (a0x : List Opn) (at_ : St) (w : World) [T : Tab w] (_ : a0n ≤ a0c) (_ : a0c ≤ maxLen) (w0x : ∀ x ∈ a0x, OpFit x) (w0d : OpsIn w w.heap.size a0A a0n a0x) :
    Calls Tryz.prog 3 #[.slice a0A a0n a0c, .agg (stA at_)] w fun e w' => e = .returned (.bool true) ∧ Below w.heap.size w w' :=
  core P Q a0A a0n a0c a0x w0x at_ w T w0d

end Go.Proofs.YtbkijfhfjhpebaaGreatDoor.lawPathHome
