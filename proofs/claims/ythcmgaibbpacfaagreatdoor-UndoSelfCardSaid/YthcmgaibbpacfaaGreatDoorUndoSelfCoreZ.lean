/-
  A graph and itself have no unlike things; what one lost the other one got: for all lists of operations (60 at most).
-/
import Derived.Test.YthcmgaibbpacfaaGreatDoorZ01
import Derived.Test.YthcmgaibbpacfaaGreatDoorZ01
import Derived.Test.YthcmgaibbpacfaaGreatDoorGraphRefSameZ
import Derived.Test.YthcmgaibbpacfaaGreatDoorZ01
import Derived.OpenShut
namespace Go.Proofs.YthcmgaibbpacfaaGreatDoor.lawUndoSelf
open Go.RowKit StampMath GraphMath OpMath PackMath

/-- A record's value. -/
def recV (A1 : Option Addr) (n1 c1 : Nat) (A2 : Option Addr) (n2 c2 : Nat) (A3 : Option Addr) (n3 c3 : Nat) (A4 : Option Addr) (n4 c4 : Nat) (e : Int) : Array Value := #[.slice A1 n1 c1, .slice A2 n2 c2, .slice A3 n3 c3, .slice A4 n4 c4, .int .i64 e]

set_option maxRecDepth 100000 in
set_option maxHeartbeats 3200000 in
theorem core {H : GraphHave} (P : UndoHave H) (Q : ApplyHave H) (A : Option Addr) (n c : Nat) (l : List Opn) (A' : Option Addr) (m d : Nat) (k : List Opn) (hl : ∀ x ∈ l, OpFit x) (hk : ∀ x ∈ k, OpFit x) (w : World) (T : Tab w) (h : OpsIn w w.heap.size A n l) (h' : OpsIn w w.heap.size A' m k) :
    Calls Tryz.prog 6 #[.slice A n c, .slice A' m d] w fun e w' => e = .returned (.bool true) ∧ Below w.heap.size w w' := by
  have HX := Lib.hid h
  have HY := Lib.hid h'
  have HF := Lib.hid hl
  have HG := Lib.hid hk
  clear h h' hl hk
  go_enter Tryz.func6, Tryz.ntmps6
  go_wp2_with fail
  refine (P.shown _ T).mono ?_
  rintro e w1 ⟨rfl, hb1⟩
  have B1 := Lib.hid hb1
  clear hb1
  go_wp2_with fail
  refine (fewU_any A n c _).mono ?_
  rintro e w2 ⟨rfl, hb2⟩
  have B2 := Lib.hid (below_step B1.out hb2)
  clear hb2 B1
  by_cases hn : n ≤ 60
  case neg =>
    have hd : decide (n ≤ 60) = false := decide_eq_false hn
    go_wp2_with fail
    go_ret
    exact ⟨rfl, B2.out⟩
  have hd : decide (n ≤ 60) = true := decide_eq_true hn
  go_wp2_with fail
  refine (fewU_any A' m d _).mono ?_
  rintro e w3 ⟨rfl, hb3⟩
  have B3 := Lib.hid (below_step B2.out hb3)
  clear hb3 B2 hd
  by_cases hm : m ≤ 60
  case neg =>
    have hd : decide (m ≤ 60) = false := decide_eq_false hm
    go_wp2_with fail
    go_ret
    exact ⟨rfl, B3.out⟩
  have hd : decide (m ≤ 60) = true := decide_eq_true hm
  have HNM := Lib.hid (And.intro hn hm)
  clear hn hm
  go_wp2_with fail
  refine (madeU_any Q A n c l HNM.out.1 HF.out _ (tab_below T (Nat.le_refl _) B3.out) ((HX.out.below B3.out).more B3.out.size)).mono ?_
  rintro e w4 ⟨a, rfl, x4⟩
  have X4 := Lib.hid x4
  have B4 := Lib.hid (below_step B3.out x4.below)
  clear x4 hd
  go_wp2_with fail
  refine (madeU_any Q A' m d k HNM.out.2 HG.out _ (tab_below T (Nat.le_refl _) B4.out) ((HY.out.below B4.out).more B4.out.size)).mono ?_
  rintro e w5 ⟨b, rfl, y5⟩
  have Y5 := Lib.hid y5
  have X5 := Lib.hid (X4.out.step y5.below)
  have B5 := Lib.hid (below_step B4.out y5.below)
  obtain ⟨ga, hga⟩ : ∃ g, g = runA l := ⟨_, rfl⟩
  obtain ⟨gb, hgb⟩ : ∃ g, g = runA k := ⟨_, rfl⟩
  rw [← hga] at X5
  rw [← hgb] at Y5
  clear y5 X4 B4 hga hgb
  have C5 := Lib.hid (GX.copy X5.out.gx)
  go_wp2_with fail
  refine C5.out.mono ?_
  rintro e w6 ⟨a2, S, U, rfl, _, z6, hb6⟩
  have Z6 : Hid (FX H w3 w6 (fun i => False ∨ S i) a2 ga) := Lib.hid ⟨z6.1, X5.out.fine⟩
  have X6 := Lib.hid (X5.out.step hb6)
  have Y6 := Lib.hid (Y5.out.step hb6)
  have B6 := Lib.hid (below_step B5.out hb6)
  clear z6 hb6 X5 Y5 B5 C5
  go_wp2_with fail
  refine (FX.diff P X6.out Z6.out).mono ?_
  rintro e w7 ⟨v, rfl, r7, hb7⟩
  rw [diff_self X6.out.fine.ok] at r7
  obtain ⟨A1, c1, A2, c2, A3, c3, A4, c4, e, _⟩ := r7.read
  subst e
  simp only [List.length_nil] at r7 ⊢
  have X7 := Lib.hid (X6.out.step hb7)
  have Y7 := Lib.hid (Y6.out.step hb7)
  have B7 := Lib.hid (below_step B6.out hb7)
  clear r7 hb7 X6 Y6 Z6 B6
  go_upto_region 7 with fail
  obtain ⟨u1, hu1⟩ : ∃ u, u = w7.heap.size := ⟨_, rfl⟩
  have H8 := Lib.hid ((Held.refl w7).alloc (.cells (recV A1 0 c1 A2 0 c2 A3 0 c3 A4 0 c4 0) 36) hu1.symm)
  change Code.wp _ _ _ _ (w7.alloc (.cells (recV A1 0 c1 A2 0 c2 A3 0 c3 A4 0 c4 0) 36))
  rw [← hu1]
  generalize w7.alloc (.cells (recV A1 0 c1 A2 0 c2 A3 0 c3 A4 0 c4 0) 36) = w8 at H8 ⊢
  have X8 := Lib.hid (X7.out.step H8.out.below)
  have Y8 := Lib.hid (Y7.out.step H8.out.below)
  clear X7 Y7 hu1
  go_wp2_with fail
  refine (FX.diff P X8.out Y8.out).mono ?_
  rintro e w9 ⟨v, rfl, r9, hb9⟩
  obtain ⟨D1, p1, D2, p2, D3, p3, D4, p4, e, q1, q2, q3, q4⟩ := r9.read
  subst e
  have L9 := Lib.hid (And.intro q1 q2)
  have H9 := Lib.hid (H8.out.step hb9)
  have X9 := Lib.hid (X8.out.step hb9)
  have Y9 := Lib.hid (Y8.out.step hb9)
  clear r9 q1 q2 q3 q4 hb9 X8 Y8 H8
  go_upto_region 8 with fail
  obtain ⟨u2, hu2⟩ : ∃ u, u = w9.heap.size := ⟨_, rfl⟩
  have hlt2 : u1 < u2 := by rw [hu2]; exact heap_lt (H9.out.at 0 rfl)
  have H10 := Lib.hid (H9.out.alloc (.cells (recV D1 (diffG ga gb 0).lost.length p1 D2 (diffG ga gb 0).made.length p2 D3 (diffG ga gb 0).was.length p3 D4 (diffG ga gb 0).new.length p4 (diffG ga gb 0).err) 36) hu2.symm)
  have hbA : Below w9.heap.size w9 (w9.alloc (.cells (recV D1 (diffG ga gb 0).lost.length p1 D2 (diffG ga gb 0).made.length p2 D3 (diffG ga gb 0).was.length p3 D4 (diffG ga gb 0).new.length p4 (diffG ga gb 0).err) 36)) := (Below.refl _ _).alloc (Nat.le_refl _) _
  change Code.wp _ _ _ _ (w9.alloc (.cells (recV D1 (diffG ga gb 0).lost.length p1 D2 (diffG ga gb 0).made.length p2 D3 (diffG ga gb 0).was.length p3 D4 (diffG ga gb 0).new.length p4 (diffG ga gb 0).err) 36))
  rw [← hu2]
  generalize w9.alloc (.cells (recV D1 (diffG ga gb 0).lost.length p1 D2 (diffG ga gb 0).made.length p2 D3 (diffG ga gb 0).was.length p3 D4 (diffG ga gb 0).new.length p4 (diffG ga gb 0).err) 36) = w10 at H10 hbA ⊢
  have X10 := Lib.hid (X9.out.step hbA)
  have Y10 := Lib.hid (Y9.out.step hbA)
  have L10 := Lib.hid (And.intro ((L9.out.1.below hbA).more hbA.size) ((L9.out.2.below hbA).more hbA.size))
  clear X9 Y9 H9 L9 hbA hu2
  go_wp2_with fail
  refine (FX.diff P Y10.out X10.out).mono ?_
  rintro e w11 ⟨v, rfl, r11, hb11⟩
  obtain ⟨E1, r1, E2, r2, E3, r3, E4, r4, e, q1, q2, q3, q4⟩ := r11.read
  subst e
  have M11 := Lib.hid (And.intro q1 q2)
  have H11 := Lib.hid (H10.out.step hb11)
  have L11 := Lib.hid (And.intro ((L10.out.1.below hb11).more hb11.size) ((L10.out.2.below hb11).more hb11.size))
  have OK := Lib.hid (And.intro X10.out.fine.ok Y10.out.fine.ok)
  clear r11 q1 q2 q3 q4 hb11 X10 Y10 H10 L10
  go_upto_region 9 with fail
  obtain ⟨u3, hu3⟩ : ∃ u, u = w11.heap.size := ⟨_, rfl⟩
  have hlt3 : u2 < u3 := by rw [hu3]; exact heap_lt (H11.out.at 0 rfl)
  have H12 := Lib.hid (H11.out.alloc (.cells (recV E1 (diffG gb ga 0).lost.length r1 E2 (diffG gb ga 0).made.length r2 E3 (diffG gb ga 0).was.length r3 E4 (diffG gb ga 0).new.length r4 (diffG gb ga 0).err) 36) hu3.symm)
  have hbA : Below w11.heap.size w11 (w11.alloc (.cells (recV E1 (diffG gb ga 0).lost.length r1 E2 (diffG gb ga 0).made.length r2 E3 (diffG gb ga 0).was.length r3 E4 (diffG gb ga 0).new.length r4 (diffG gb ga 0).err) 36)) := (Below.refl _ _).alloc (Nat.le_refl _) _
  change Code.wp _ _ _ _ (w11.alloc (.cells (recV E1 (diffG gb ga 0).lost.length r1 E2 (diffG gb ga 0).made.length r2 E3 (diffG gb ga 0).was.length r3 E4 (diffG gb ga 0).new.length r4 (diffG gb ga 0).err) 36))
  rw [← hu3]
  generalize w11.alloc (.cells (recV E1 (diffG gb ga 0).lost.length r1 E2 (diffG gb ga 0).made.length r2 E3 (diffG gb ga 0).was.length r3 E4 (diffG gb ga 0).new.length r4 (diffG gb ga 0).err) 36) = w12 at H12 hbA ⊢
  have L12 := Lib.hid (And.intro ((L11.out.1.below hbA).more hbA.size) ((L11.out.2.below hbA).more hbA.size))
  have M12 := Lib.hid (And.intro ((M11.out.1.below hbA).more hbA.size) ((M11.out.2.below hbA).more hbA.size))
  have BF := Lib.hid (fun W (hW : Below w12.heap.size w12 W) => below_step (below_step B7.out H12.out.below) hW)
  -- the three records
  have lenA : (lostG ga gb).length ≤ 1000 := Nat.le_trans (List.length_filter_le _ _) (Nat.le_trans OK.out.1.entsFew (by decide))
  have lenB : (lostG gb ga).length ≤ 1000 := Nat.le_trans (List.length_filter_le _ _) (Nat.le_trans OK.out.2.entsFew (by decide))
  have R1 : Hid (∀ W : World, Below w12.heap.size w12 W → Calls Tryz.prog 16 #[.slice D1 (diffG ga gb 0).lost.length p1, .slice E2 (diffG gb ga 0).made.length r2] W fun e w' => e = .returned (.bool true) ∧ Below W.heap.size W w') := Lib.hid fun W hW => by
    have := refEnts D1 E2 _ p1 _ r2 _ _ lenA lenA W ((L12.out.1.below hW).more hW.size) ((M12.out.2.below hW).more hW.size)
    rwa [show decide ((diffG ga gb 0).lost = (diffG gb ga 0).made) = true from decide_eq_true rfl] at this
  have R2 : Hid (∀ W : World, Below w12.heap.size w12 W → Calls Tryz.prog 16 #[.slice D2 (diffG ga gb 0).made.length p2, .slice E1 (diffG gb ga 0).lost.length r1] W fun e w' => e = .returned (.bool true) ∧ Below W.heap.size W w') := Lib.hid fun W hW => by
    have := refEnts D2 E1 _ p2 _ r1 _ _ lenB lenB W ((L12.out.2.below hW).more hW.size) ((M12.out.1.below hW).more hW.size)
    rwa [show decide ((diffG ga gb 0).made = (diffG gb ga 0).lost) = true from decide_eq_true rfl] at this
  have n1 : ((diffG ga gb 0).new.length : Int) ≤ ((diffG gb ga 0).was.length : Int) := Int.ofNat_le.2 (new_le OK.out.2)
  have n2 : ((diffG gb ga 0).new.length : Int) ≤ ((diffG ga gb 0).was.length : Int) := Int.ofNat_le.2 (new_le OK.out.1)
  have HB12 := H12.out
  clear L12 M12 L11 M11 H11 H12 hbA hu3 lenA lenB OK
  have K1 := fun W (hW : Below w12.heap.size w12 W) => rec_cells (g := u1) ((HB12.step hW).at 2 rfl)
  have K2 := fun W (hW : Below w12.heap.size w12 W) => rec_cells (g := u2) ((HB12.step hW).at 1 rfl)
  have K3 := fun W (hW : Below w12.heap.size w12 W) => rec_cells (g := u3) ((HB12.step hW).at 0 rfl)
  have K := Lib.hid (And.intro K1 (And.intro K2 K3))
  clear K1 K2 K3 HB12 B7 B3
  generalize (diffG ga gb 0).lost.length = f1 at R1 K ⊢
  generalize (diffG ga gb 0).made.length = f2 at R2 K ⊢
  generalize (diffG ga gb 0).was.length = f3 at n2 K ⊢
  generalize (diffG ga gb 0).new.length = f4 at n1 K ⊢
  generalize (diffG gb ga 0).lost.length = g1 at R2 K ⊢
  generalize (diffG gb ga 0).made.length = g2 at R1 K ⊢
  generalize (diffG gb ga 0).was.length = g3 at n1 K ⊢
  generalize (diffG gb ga 0).new.length = g4 at n2 K ⊢
  have N1 := Lib.hid n1
  have N2 := Lib.hid n2
  have m1 : decide (f4 ≤ g3) = true := decide_eq_true (by omega)
  have m2 : decide (g4 ≤ f3) = true := decide_eq_true (by omega)
  have M2 := Lib.hid m2
  clear n1 n2
  obtain ⟨⟨x0, x1, x2, x3, x4⟩, ⟨y0, y1, y2, y3, y4⟩, ⟨z0, z1, z2, z3, z4⟩⟩ := And.intro (K.out.1 w12 (Below.refl _ _)) (And.intro (K.out.2.1 w12 (Below.refl _ _)) (K.out.2.2 w12 (Below.refl _ _)))
  go_wp2_with fail
  refine (R1.out _ (Below.refl _ _)).mono ?_
  rintro e w13 ⟨rfl, hb13⟩
  clear x0 x1 x2 x3 x4 y0 y1 y2 y3 y4 z0 z1 z2 z3 z4
  obtain ⟨⟨y0, y1, y2, y3, y4⟩, ⟨z0, z1, z2, z3, z4⟩⟩ := And.intro (K.out.2.1 w13 hb13) (K.out.2.2 w13 hb13)
  have HB13 := Lib.hid hb13
  clear hb13
  go_wp2_with fail
  refine (R2.out _ HB13.out).mono ?_
  rintro e w14 ⟨rfl, hb14⟩
  have HB14 := Lib.hid (below_step HB13.out hb14)
  clear y0 y1 y2 y3 y4 z0 z1 z2 z3 z4 HB13 hb14
  obtain ⟨⟨y0, y1, y2, y3, y4⟩, ⟨z0, z1, z2, z3, z4⟩⟩ := And.intro (K.out.2.1 w14 HB14.out) (K.out.2.2 w14 HB14.out)
  go_wp2_with fail
  go_ret
  exact ⟨by first | rfl | (rw [show (Ending.returned (.bool true)) = Ending.returned (.bool (decide (g4 ≤ f3))) by rw [M2.out]]; rfl), BF.out _ HB14.out⟩

theorem walk0 {H : GraphHave} (P : UndoHave H) (Q : ApplyHave H) (a0A : Option Addr) (a0n : Nat) (a0c : Nat) (a0x : List Opn) (a1A : Option Addr) (a1n : Nat) (a1c : Nat) (a1x : List Opn) (w : World) [T : Tab w] (_ : a0n ≤ a0c) (_ : a0c ≤ maxLen) (w0x : ∀ x ∈ a0x, OpFit x) (w0d : OpsIn w w.heap.size a0A a0n a0x) (_ : a1n ≤ a1c) (_ : a1c ≤ maxLen) (w1x : ∀ x ∈ a1x, OpFit x) (w1d : OpsIn w w.heap.size a1A a1n a1x) :
    Calls Tryz.prog 6 #[.slice a0A a0n a0c, .slice a1A a1n a1c] w fun e w' => e = .returned (.bool true) ∧ Below w.heap.size w w' :=
  core P Q a0A a0n a0c a0x a1A a1n a1c a1x w0x w1x w T w0d w1d

end Go.Proofs.YthcmgaibbpacfaaGreatDoor.lawUndoSelf
