/-
  The invariant: behind whatever operations a graph is fine: for all lists of operations (100 at most).
-/
import Derived.Test.YtlhdbccemgofjaaGreatDoorZ01
import Derived.Test.YtlhdbccemgofjaaGreatDoorZ01
import Derived.OpenShut
namespace Go.Proofs.YtlhdbccemgofjaaGreatDoor.lawApplyFine
open Go.RowKit StampMath GraphMath OpMath PackMath

theorem ino_small {g : Gr} (h : g.fine) : ∀ x ∈ inodesG g, x.data.size ≤ maxLen := by
  intro x hx
  rw [h.ok.inodes] at hx
  obtain ⟨y, hy, rfl⟩ := List.mem_map.1 hx
  have hb := h.bound y hy
  have hk := h.ok.kinds y hy
  unfold boundOk1 at hb
  unfold maxLen
  dsimp only
  have h1 := hb.2.2.1
  have h2 := hb.2.2.2.1
  have h3 := hb.2.2.2.2
  rcases show y.kind = 1 ∨ y.kind = 2 ∨ y.kind = 3 by omega with q | q | q
  · have := h1 q; omega
  · have := h2 q; omega
  · have := h3 q; omega

theorem name_small {g : Gr} (h : g.fine) : ∀ e ∈ g.E, e.name.size ≤ maxLen := by
  intro e he
  have := h.names e he
  unfold nameB at this
  simp only [Bool.and_eq_true, decide_eq_true_iff] at this
  unfold maxLen
  omega

set_option maxRecDepth 100000 in
set_option maxHeartbeats 3200000 in
theorem core {H : GraphHave} (P : ApplyHave H) (A : Option Addr) (n c : Nat) (l : List Opn) (hfit : ∀ x ∈ l, OpFit x) (w : World) (T : Tab w) (h : OpsIn w w.heap.size A n l) :
    Calls Tryz.prog 4 #[.slice A n c] w fun e w' => e = .returned (.bool true) ∧ Below w.heap.size w w' := by
  have hl := h.len
  have HX := Lib.hid h
  have HL := Lib.hid hl
  have HF := Lib.hid hfit
  clear h hfit hl
  go_enter Tryz.func4, Tryz.ntmps4
  go_wp2_with fail
  refine (P.shown _ T).mono ?_
  rintro e w1 ⟨rfl, hb1⟩
  go_wp2_with fail
  refine (few_any A n c _).mono ?_
  rintro e w2 ⟨rfl, hb2⟩
  have H2 := Lib.hid (below_step hb1 hb2)
  clear hb1 hb2
  by_cases hn : n ≤ 100
  · have hd : decide (n ≤ 100) = true := decide_eq_true hn
    go_wp2_with fail
    refine (GX.new (H := H) H2.out (fun _ => False) (fun _ h => h.elim)).mono ?_
    rintro e w3 ⟨a, rfl, g3, _⟩
    have G3 : Hid (FX H w w3 (fun _ => False) a newG) := ⟨g3, new_fine⟩
    clear g3 hd
    go_wp2_with fail
    go_loopg [5] 101 (fun gk i wr => ∃ (k : Nat) (γ : Gr), i = .int .i64 (k : Int) ∧ gk + k = 101 ∧ k ≤ n ∧ Hid (FX H w wr (fun _ => False) a γ))
    case atStart => exact ⟨0, newG, rfl, by omega, by omega, G3⟩
    case round =>
      obtain ⟨k, γ, rfl, hgk, hk, hG⟩ := hrel
      have HG := Lib.hid hgk
      clear hgk G3
      by_cases hlt : k < n
      · obtain ⟨gi, o, rfl, hg, hcell⟩ := HX.out.row (by omega)
        have lk : k < l.length := by have := HL.out; omega
        obtain ⟨d0, d1, d2, d3, d4, d5, d6, d7, d8, d9, d10, d11, d12⟩ := (hcell k lk).below hG.out.below hg
        have hnm := HF.out _ (List.getElem_mem lk)
        obtain ⟨d, hd⟩ : ∃ d, l[k] = d := ⟨_, rfl⟩
        rw [hd] at d0 d1 d2 d3 d4 d5 d6 d7 d8 d9 d10 d11 d12 hnm
        have HD := Lib.hid (hG.out.does P T d hnm)
        unfold opA at HD
        have hi0 : (0 : Int) ≤ (k : Int) := by omega
        have hi1 : (k : Int) < (n : Int) := by omega
        clear hcell hd hnm lk
        go_wp2_with fail
        refine HD.out.mono ?_
        rintro e w4 ⟨rfl, q, _⟩
        have Q := Lib.hid q
        generalize (doA γ d).1 = φ at q Q
        obtain ⟨S, r4, _⟩ := q.gx.at'
        have CI := Lib.hid fun (W : World) (hW : Below w4.heap.size w4 W) => told_inos H r4 q.fine.ok hW
        have CE := Lib.hid fun (W : World) (hW : Below w4.heap.size w4 W) => told_ents H r4 q.fine.ok hW
        have CF : Hid (∀ (A : Option Addr) (c : Nat) (A' : Option Addr) (d : Nat) (W : World), InosIn W W.heap.size A (inodesG φ).length (inodesG φ) → EntsIn W W.heap.size A' φ.E.length φ.E → Calls Tryz.prog 23 #[.slice A (inodesG φ).length c, .slice A' φ.E.length d] W fun e w' => e = .returned (.bool true) ∧ Below W.heap.size W w') := fun A c A' d W h1 h2 => by
          refine (P.fine A (inodesG φ).length c (inodesG φ) A' φ.E.length d φ.E W ⟨h1, h2, by unfold inodesG; rw [List.length_map]; exact Nat.le_trans q.fine.ok.few (by decide), Nat.le_trans q.fine.ok.entsFew (by decide), ino_small q.fine, name_small q.fine⟩).mono ?_
          rintro e w' ⟨b, rfl, hb, hB⟩
          obtain rfl : b = true := hb.2 q.fine.audit
          exact ⟨rfl, hB⟩
        clear q r4 d0 d1 d2 d3 d4 d5 d6 d7 d8 d9 d10 d11 d12 HD
        generalize inodesG φ = X at CI CF
        go_wp2_with fail
        refine (CI.out _ (Below.refl _ _)).mono ?_
        rintro e w5 ⟨B, k1, rfl, q1, _, _, _, hb5⟩
        go_wp2_with fail
        refine (CE.out _ hb5).mono ?_
        rintro e w6 ⟨B2, k2, rfl, q2, _, _, _, hb6⟩
        go_wp2_with fail
        refine (CF.out _ _ _ _ _ (inos_later q1 hb6) q2).mono ?_
        rintro e w7 ⟨rfl, hb7⟩
        have Q7 := Lib.hid (Q.out.step (below_step (below_step hb5 hb6) hb7))
        clear CI CE CF Q q1 q2 hb5 hb6 hb7
        go_wp2_with fail
        go_roundg (gk - 1)
        case measure => have := HG.out; omega
        case rel => exact ⟨k + 1, φ, by go_num, by have := HG.out; omega, by omega, Q7⟩
      · have hc : ¬ (k : Int) < (n : Int) := by omega
        clear hlt
        go_wp2_with fail
        go_ret
        exact ⟨rfl, hG.out.below⟩
  · have hd : decide (n ≤ 100) = false := decide_eq_false hn
    go_wp2_with fail
    go_ret
    exact ⟨rfl, H2.out⟩

theorem walk0 {H : GraphHave} (P : ApplyHave H) (a0A : Option Addr) (a0n : Nat) (a0c : Nat) (a0x : List Opn) (w : World) [T : Tab w] (_ : a0n ≤ a0c) (_ : a0c ≤ maxLen) (w0x : ∀ x ∈ a0x, OpFit x) (w0d : OpsIn w w.heap.size a0A a0n a0x) :
    Calls Tryz.prog 4 #[.slice a0A a0n a0c] w fun e w' => e = .returned (.bool true) ∧ Below w.heap.size w w' :=
  core P a0A a0n a0c a0x w0x w T w0d

end Go.Proofs.YtlhdbccemgofjaaGreatDoor.lawApplyFine
