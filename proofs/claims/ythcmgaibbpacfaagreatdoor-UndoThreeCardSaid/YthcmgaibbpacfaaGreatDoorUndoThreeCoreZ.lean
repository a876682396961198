/-
  What changed from one graph to a third one is what changed to the second one, or from that: for all lists of operations (60 at most).
-/
import Derived.Test.YthcmgaibbpacfaaGreatDoorZ01
import Derived.Test.YthcmgaibbpacfaaGreatDoorZ01
import Derived.Test.YthcmgaibbpacfaaGreatDoorUndoWithinZ
import Derived.Test.YthcmgaibbpacfaaGreatDoorZ01
import Derived.OpenShut
namespace Go.Proofs.YthcmgaibbpacfaaGreatDoor.lawUndoThree
open Go.RowKit StampMath GraphMath OpMath PackMath

/-- A record's value. -/
def recV (A1 : Option Addr) (n1 c1 : Nat) (A2 : Option Addr) (n2 c2 : Nat) (A3 : Option Addr) (n3 c3 : Nat) (A4 : Option Addr) (n4 c4 : Nat) (e : Int) : Array Value := #[.slice A1 n1 c1, .slice A2 n2 c2, .slice A3 n3 c3, .slice A4 n4 c4, .int .i64 e]

theorem ops_take {W : World} {B : Nat} {A : Option Addr} {n : Nat} {l : List Opn} (h : OpsIn W B A n l) {m : Nat} (hm : m ≤ n) : OpsIn W B A m (l.take m) := by
  have := TabIn.take h hm
  unfold OpsIn
  rwa [List.map_take]

theorem lost_three (a b c : Gr) : ∀ e ∈ lostG a c, e ∈ lostG a b ∨ e ∈ lostG b c := fun e he => by
  obtain ⟨h1, h2⟩ := mem_lost.1 he
  by_cases q : e ∈ b.E
  · exact Or.inr (mem_lost.2 ⟨q, h2⟩)
  · exact Or.inl (mem_lost.2 ⟨h1, q⟩)

set_option maxRecDepth 100000 in
set_option maxHeartbeats 6400000 in
theorem core {H : GraphHave} (P : UndoHave H) (Q : ApplyHave H) (A : Option Addr) (n c : Nat) (l : List Opn) (j k : Nat) (hj : j ≤ 255) (hk : k ≤ 255) (hnc : n ≤ c) (_hc : c ≤ maxLen) (hl : ∀ x ∈ l, OpFit x) (w : World) (T : Tab w) (h : OpsIn w w.heap.size A n l) :
    Calls Tryz.prog 7 #[.slice A n c, .int .u8 (j : Int), .int .u8 (k : Int)] w fun e w' => e = .returned (.bool true) ∧ Below w.heap.size w w' := by
  have hmj := Nat.mod_lt j (show 0 < n + 1 by omega)
  have hmk := Nat.mod_lt k (show 0 < n + 1 by omega)
  obtain ⟨p, hp⟩ : ∃ p, p = j % (n + 1) := ⟨_, rfl⟩
  obtain ⟨q, hq⟩ : ∃ q, q = k % (n + 1) := ⟨_, rfl⟩
  have hp2 : (j : Int) % ((n : Int) + 1) = (p : Int) := by rw [hp, Int.natCast_emod, Int.natCast_add]; rfl
  have hq2 : (k : Int) % ((n : Int) + 1) = (q : Int) := by rw [hq, Int.natCast_emod, Int.natCast_add]; rfl
  have hpn : p ≤ n := by omega
  have hqn : q ≤ n := by omega
  have HX := Lib.hid h
  have HF := Lib.hid hl
  clear h hl hmj hmk hp hq

  go_enter Tryz.func7, Tryz.ntmps7
  go_wp2_with fail
  refine (P.shown _ T).mono ?_
  rintro e w1 ⟨rfl, hb1⟩
  have B1 := Lib.hid hb1
  clear hb1
  go_wp2_with fail
  refine (fewU_any A n c _).mono ?_
  rintro e w2 ⟨rfl, hb2⟩
  have B2 := Lib.hid (below_step B1.out hb2)
  clear hb2 B1
  by_cases hn : n ≤ 60
  case neg =>
    have hd : decide (n ≤ 60) = false := decide_eq_false hn
    go_wp2_with fail
    go_ret
    exact ⟨rfl, B2.out⟩
  have hd : decide (n ≤ 60) = true := decide_eq_true hn
  go_wp2_with fail
  refine (madeU_any Q A p c (l.take p) (by omega) (fun x hx => HF.out x (List.mem_of_mem_take hx)) _ (tab_below T (Nat.le_refl _) B2.out) (ops_take ((HX.out.below B2.out).more B2.out.size) hpn)).mono ?_
  rintro e w4 ⟨a, rfl, x4⟩
  have X4 := Lib.hid x4
  have B4 := Lib.hid (below_step B2.out x4.below)
  clear x4 hd B2
  go_wp2_with fail
  refine (madeU_any Q A q c (l.take q) (by omega) (fun x hx => HF.out x (List.mem_of_mem_take hx)) _ (tab_below T (Nat.le_refl _) B4.out) (ops_take ((HX.out.below B4.out).more B4.out.size) hqn)).mono ?_
  rintro e w5 ⟨b, rfl, y5⟩
  have Y5 := Lib.hid y5
  have X5 := Lib.hid (X4.out.step y5.below)
  have B5 := Lib.hid (below_step B4.out y5.below)
  clear y5 X4 B4
  go_wp2_with fail
  refine (madeU_any Q A n c l hn HF.out _ (tab_below T (Nat.le_refl _) B5.out) ((HX.out.below B5.out).more B5.out.size)).mono ?_
  rintro e w7 ⟨d, rfl, z7⟩
  have Z7 := Lib.hid z7
  have X7 := Lib.hid (X5.out.step z7.below)
  have Y7 := Lib.hid (Y5.out.step z7.below)
  have B7 := Lib.hid (below_step B5.out z7.below)
  obtain ⟨ga, hga⟩ : ∃ g, g = runA (l.take p) := ⟨_, rfl⟩
  obtain ⟨gb, hgb⟩ : ∃ g, g = runA (l.take q) := ⟨_, rfl⟩
  obtain ⟨gc, hgc⟩ : ∃ g, g = runA l := ⟨_, rfl⟩
  rw [← hga] at X7
  rw [← hgb] at Y7
  rw [← hgc] at Z7
  clear z7 X5 Y5 B5 hga hgb hgc hn HF HX hp2 hq2 hpn hqn hnc _hc hj hk
  go_wp2_with fail
  refine (FX.diff P X7.out Z7.out).mono ?_
  rintro e w8 ⟨v, rfl, r8, hb8⟩
  obtain ⟨D1, p1, D2, p2, D3, p3, D4, p4, e, q1, q2, q3, q4, cc⟩ := r8.read
  subst e
  have LD := Lib.hid (And.intro q1 (And.intro q2 cc))
  have X8 := Lib.hid (X7.out.step hb8)
  have Y8 := Lib.hid (Y7.out.step hb8)
  have Z8 := Lib.hid (Z7.out.step hb8)
  have B8 := Lib.hid (below_step B7.out hb8)
  clear r8 q1 q2 q3 q4 cc hb8 X7 Y7 Z7 B7
  go_upto_region 8 with fail
  obtain ⟨u1, hu1⟩ : ∃ u, u = w8.heap.size := ⟨_, rfl⟩
  have hbA : Below w8.heap.size w8 (w8.alloc (.cells (recV D1 (diffG ga gc 0).lost.length p1 D2 (diffG ga gc 0).made.length p2 D3 (diffG ga gc 0).was.length p3 D4 (diffG ga gc 0).new.length p4 (diffG ga gc 0).err) 36)) := (Below.refl _ _).alloc (Nat.le_refl _) _
  have K9 := Lib.hid ((Held.refl w8).alloc (.cells (recV D1 (diffG ga gc 0).lost.length p1 D2 (diffG ga gc 0).made.length p2 D3 (diffG ga gc 0).was.length p3 D4 (diffG ga gc 0).new.length p4 (diffG ga gc 0).err) 36) hu1.symm)
  change Code.wp _ _ _ _ (w8.alloc (.cells (recV D1 (diffG ga gc 0).lost.length p1 D2 (diffG ga gc 0).made.length p2 D3 (diffG ga gc 0).was.length p3 D4 (diffG ga gc 0).new.length p4 (diffG ga gc 0).err) 36))
  rw [← hu1]
  generalize w8.alloc (.cells (recV D1 (diffG ga gc 0).lost.length p1 D2 (diffG ga gc 0).made.length p2 D3 (diffG ga gc 0).was.length p3 D4 (diffG ga gc 0).new.length p4 (diffG ga gc 0).err) 36) = w9 at hbA K9 ⊢
  have X9 := Lib.hid (X8.out.step hbA)
  have Y9 := Lib.hid (Y8.out.step hbA)
  have Z9 := Lib.hid (Z8.out.step hbA)
  have B9 := Lib.hid (below_step B8.out hbA)
  have LD := Lib.hid (And.intro ((LD.out.1.below hbA).more hbA.size) (And.intro ((LD.out.2.1.below hbA).more hbA.size) LD.out.2.2))
  clear hbA hu1 X8 Y8 Z8 B8
  go_wp2_with fail
  refine (FX.diff P X9.out Y9.out).mono ?_
  rintro e w10 ⟨v, rfl, r10, hb10⟩
  obtain ⟨E1, r1, E2, r2, E3, r3, E4, r4, e, q1, q2, q3, q4, cc⟩ := r10.read
  subst e
  have LE := Lib.hid (And.intro q1 (And.intro q2 cc))
  have X10 := Lib.hid (X9.out.step hb10)
  have Y10 := Lib.hid (Y9.out.step hb10)
  have Z10 := Lib.hid (Z9.out.step hb10)
  have B10 := Lib.hid (below_step B9.out hb10)
  have K10 := Lib.hid (K9.out.step hb10)
  have LD := Lib.hid (And.intro ((LD.out.1.below hb10).more hb10.size) (And.intro ((LD.out.2.1.below hb10).more hb10.size) LD.out.2.2))
  clear r10 q1 q2 q3 q4 cc hb10 X9 Y9 Z9 B9 K9
  go_upto_region 9 with fail
  obtain ⟨u2, hu2⟩ : ∃ u, u = w10.heap.size := ⟨_, rfl⟩
  have hlu2 : u1 < u2 := by rw [hu2]; exact heap_lt (K10.out.at 0 rfl)
  have hbA : Below w10.heap.size w10 (w10.alloc (.cells (recV E1 (diffG ga gb 0).lost.length r1 E2 (diffG ga gb 0).made.length r2 E3 (diffG ga gb 0).was.length r3 E4 (diffG ga gb 0).new.length r4 (diffG ga gb 0).err) 36)) := (Below.refl _ _).alloc (Nat.le_refl _) _
  have K11 := Lib.hid (K10.out.alloc (.cells (recV E1 (diffG ga gb 0).lost.length r1 E2 (diffG ga gb 0).made.length r2 E3 (diffG ga gb 0).was.length r3 E4 (diffG ga gb 0).new.length r4 (diffG ga gb 0).err) 36) hu2.symm)
  change Code.wp _ _ _ _ (w10.alloc (.cells (recV E1 (diffG ga gb 0).lost.length r1 E2 (diffG ga gb 0).made.length r2 E3 (diffG ga gb 0).was.length r3 E4 (diffG ga gb 0).new.length r4 (diffG ga gb 0).err) 36))
  rw [← hu2]
  generalize w10.alloc (.cells (recV E1 (diffG ga gb 0).lost.length r1 E2 (diffG ga gb 0).made.length r2 E3 (diffG ga gb 0).was.length r3 E4 (diffG ga gb 0).new.length r4 (diffG ga gb 0).err) 36) = w11 at hbA K11 ⊢
  have X11 := Lib.hid (X10.out.step hbA)
  have Y11 := Lib.hid (Y10.out.step hbA)
  have Z11 := Lib.hid (Z10.out.step hbA)
  have B11 := Lib.hid (below_step B10.out hbA)
  have LD := Lib.hid (And.intro ((LD.out.1.below hbA).more hbA.size) (And.intro ((LD.out.2.1.below hbA).more hbA.size) LD.out.2.2))
  have LE := Lib.hid (And.intro ((LE.out.1.below hbA).more hbA.size) (And.intro ((LE.out.2.1.below hbA).more hbA.size) LE.out.2.2))
  clear hbA hu2 X10 Y10 Z10 B10 K10
  go_wp2_with fail
  refine (FX.diff P Y11.out Z11.out).mono ?_
  rintro e w12 ⟨v, rfl, r12, hb12⟩
  obtain ⟨F1, s1, F2, s2, F3, s3, F4, s4, e, q1, q2, q3, q4, cc⟩ := r12.read
  subst e
  have LF := Lib.hid (And.intro q1 (And.intro q2 cc))
  have X12 := Lib.hid (X11.out.step hb12)
  have Y12 := Lib.hid (Y11.out.step hb12)
  have Z12 := Lib.hid (Z11.out.step hb12)
  have B12 := Lib.hid (below_step B11.out hb12)
  have K12 := Lib.hid (K11.out.step hb12)
  have LD := Lib.hid (And.intro ((LD.out.1.below hb12).more hb12.size) (And.intro ((LD.out.2.1.below hb12).more hb12.size) LD.out.2.2))
  have LE := Lib.hid (And.intro ((LE.out.1.below hb12).more hb12.size) (And.intro ((LE.out.2.1.below hb12).more hb12.size) LE.out.2.2))
  clear r12 q1 q2 q3 q4 cc hb12 X11 Y11 Z11 B11 K11
  go_upto_region 10 with fail
  obtain ⟨u3, hu3⟩ : ∃ u, u = w12.heap.size := ⟨_, rfl⟩
  have hlu3 : u2 < u3 := by rw [hu3]; exact heap_lt (K12.out.at 0 rfl)
  have hbA : Below w12.heap.size w12 (w12.alloc (.cells (recV F1 (diffG gb gc 0).lost.length s1 F2 (diffG gb gc 0).made.length s2 F3 (diffG gb gc 0).was.length s3 F4 (diffG gb gc 0).new.length s4 (diffG gb gc 0).err) 36)) := (Below.refl _ _).alloc (Nat.le_refl _) _
  have K13 := Lib.hid (K12.out.alloc (.cells (recV F1 (diffG gb gc 0).lost.length s1 F2 (diffG gb gc 0).made.length s2 F3 (diffG gb gc 0).was.length s3 F4 (diffG gb gc 0).new.length s4 (diffG gb gc 0).err) 36) hu3.symm)
  change Code.wp _ _ _ _ (w12.alloc (.cells (recV F1 (diffG gb gc 0).lost.length s1 F2 (diffG gb gc 0).made.length s2 F3 (diffG gb gc 0).was.length s3 F4 (diffG gb gc 0).new.length s4 (diffG gb gc 0).err) 36))
  rw [← hu3]
  generalize w12.alloc (.cells (recV F1 (diffG gb gc 0).lost.length s1 F2 (diffG gb gc 0).made.length s2 F3 (diffG gb gc 0).was.length s3 F4 (diffG gb gc 0).new.length s4 (diffG gb gc 0).err) 36) = w13 at hbA K13 ⊢
  have X13 := Lib.hid (X12.out.step hbA)
  have Y13 := Lib.hid (Y12.out.step hbA)
  have Z13 := Lib.hid (Z12.out.step hbA)
  have B13 := Lib.hid (below_step B12.out hbA)
  have LD := Lib.hid (And.intro ((LD.out.1.below hbA).more hbA.size) (And.intro ((LD.out.2.1.below hbA).more hbA.size) LD.out.2.2))
  have LE := Lib.hid (And.intro ((LE.out.1.below hbA).more hbA.size) (And.intro ((LE.out.2.1.below hbA).more hbA.size) LE.out.2.2))
  have LF := Lib.hid (And.intro ((LF.out.1.below hbA).more hbA.size) (And.intro ((LF.out.2.1.below hbA).more hbA.size) LF.out.2.2))
  clear hbA hu3 X12 Y12 Z12 B12 K12
  have ok := And.intro X13.out.fine.ok (And.intro Y13.out.fine.ok Z13.out.fine.ok)
  have len : ∀ (x y : Gr), x.ok → (lostG x y).length ≤ 1000 := fun x y hx => Nat.le_trans (List.length_filter_le _ _) (Nat.le_trans hx.entsFew (by decide))
  have R1 : Hid (∀ W : World, Below w13.heap.size w13 W → Calls Tryz.prog 24 #[.slice D1 (diffG ga gc 0).lost.length p1, .slice E1 (diffG ga gb 0).lost.length r1, .slice F1 (diffG gb gc 0).lost.length s1] W fun e w' => e = .returned (.bool true) ∧ Below W.heap.size W w') := Lib.hid fun W hW =>
    within_any D1 E1 F1 _ p1 _ r1 _ s1 _ _ _ (len _ _ ok.1) (len _ _ ok.1) (len _ _ ok.2.1) LE.out.2.2.1 LF.out.2.2.1 (lost_three ga gb gc) W ((LD.out.1.below hW).more hW.size) ((LE.out.1.below hW).more hW.size) ((LF.out.1.below hW).more hW.size)
  have R2 : Hid (∀ W : World, Below w13.heap.size w13 W → Calls Tryz.prog 24 #[.slice D2 (diffG ga gc 0).made.length p2, .slice E2 (diffG ga gb 0).made.length r2, .slice F2 (diffG gb gc 0).made.length s2] W fun e w' => e = .returned (.bool true) ∧ Below W.heap.size W w') := Lib.hid fun W hW =>
    within_any D2 E2 F2 _ p2 _ r2 _ s2 _ _ _ (len _ _ ok.2.2) (len _ _ ok.2.1) (len _ _ ok.2.2) LE.out.2.2.2 LF.out.2.2.2 (fun e he => (lost_three gc gb ga e he).symm) W ((LD.out.2.1.below hW).more hW.size) ((LE.out.2.1.below hW).more hW.size) ((LF.out.2.1.below hW).more hW.size)
  have BF := B13
  have KH := K13
  clear LD LE LF ok len X13 Y13 Z13 B13 K13
  obtain ⟨x0, x1, x2, x3, x4⟩ := rec_cells (g := u1) (KH.out.at 2 rfl)
  obtain ⟨y0, y1, y2, y3, y4⟩ := rec_cells (g := u2) (KH.out.at 1 rfl)
  obtain ⟨z0, z1, z2, z3, z4⟩ := rec_cells (g := u3) (KH.out.at 0 rfl)
  go_wp2_with fail
  refine (R1.out _ (Below.refl _ _)).mono ?_
  rintro e wy ⟨rfl, hb⟩
  have KY := Lib.hid (KH.out.step hb)
  have HBY := Lib.hid hb
  clear x0 x1 x2 x3 x4 y0 y1 y2 y3 y4 z0 z1 z2 z3 z4 KH hb
  obtain ⟨x0, x1, x2, x3, x4⟩ := rec_cells (g := u1) (KY.out.at 2 rfl)
  obtain ⟨y0, y1, y2, y3, y4⟩ := rec_cells (g := u2) (KY.out.at 1 rfl)
  obtain ⟨z0, z1, z2, z3, z4⟩ := rec_cells (g := u3) (KY.out.at 0 rfl)
  go_wp2_with fail
  refine (R2.out _ HBY.out).mono ?_
  rintro e wz ⟨rfl, hb⟩
  go_wp2_with fail
  go_ret
  exact ⟨rfl, below_step (below_step BF.out HBY.out) hb⟩

theorem walk0 {H : GraphHave} (P : UndoHave H) (Q : ApplyHave H) (a0A : Option Addr) (a0n : Nat) (a0c : Nat) (a0x : List Opn) (a1 : Int) (a2 : Int) (w : World) [T : Tab w] (w0a : a0n ≤ a0c) (w0b : a0c ≤ maxLen) (w0x : ∀ x ∈ a0x, OpFit x) (w0d : OpsIn w w.heap.size a0A a0n a0x) (w1 : (Lit.int .u8 a1).wf = true) (w2 : (Lit.int .u8 a2).wf = true) :
    Calls Tryz.prog 7 #[.slice a0A a0n a0c, .int .u8 a1, .int .u8 a2] w fun e w' => e = .returned (.bool true) ∧ Below w.heap.size w w' := by
  obtain ⟨j, rfl, hj⟩ := nat_of_int (bounds_u8 w1)
  obtain ⟨k, rfl, hk⟩ := nat_of_int (bounds_u8 w2)
  exact core P Q a0A a0n a0c a0x j k (by omega) (by omega) w0a w0b w0x w T w0d

end Go.Proofs.YthcmgaibbpacfaaGreatDoor.lawUndoThree
