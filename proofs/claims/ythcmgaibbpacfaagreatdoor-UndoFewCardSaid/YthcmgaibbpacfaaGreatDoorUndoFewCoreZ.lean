/-
  With an error a record has nothing; what makes has one new inode and one entry made; what is only data has just one that was otherwise, at most: for all lists of operations (60 at most).
-/
import Derived.Test.YthcmgaibbpacfaaGreatDoorZ01
import Derived.Test.YthcmgaibbpacfaaGreatDoorZ01
import Derived.Test.YthcmgaibbpacfaaGreatDoorZ01
import Derived.Deep.QuietTactic
import Derived.BigQuiet
import Derived.OpenShut
namespace Go.Proofs.YthcmgaibbpacfaaGreatDoor.lawUndoFew
open Go.RowKit StampMath GraphMath OpMath PackMath

/-- A record's value. -/
def recV (A1 : Option Addr) (n1 c1 : Nat) (A2 : Option Addr) (n2 c2 : Nat) (A3 : Option Addr) (n3 c3 : Nat) (A4 : Option Addr) (n4 c4 : Nat) (e : Int) : Array Value := #[.slice A1 n1 c1, .slice A2 n2 c2, .slice A3 n3 c3, .slice A4 n4 c4, .int .i64 e]

/-- What an operation's record may be. -/
theorem few_cases {g : Gr} (h : g.fine) (o : Opn) : ((doR g o).err ≠ 0 ∧ (doR g o).lost = [] ∧ (doR g o).made = [] ∧ (doR g o).was = [] ∧ (doR g o).new = []) ∨
    ((doR g o).err = 0 ∧ 1 ≤ o.k ∧ o.k ≤ 3 ∧ (doR g o).lost = [] ∧ (doR g o).made.length = 1 ∧ (doR g o).was = [] ∧ (doR g o).new = [oSt o]) ∨
    ((doR g o).err = 0 ∧ 4 ≤ o.k ∧ o.k < 8 ∧ (doR g o).lost.length ≤ 2 ∧ (doR g o).made.length ≤ 1 ∧ (doR g o).was.length ≤ 1 ∧ (doR g o).new.length ≤ 1) ∨
    ((doR g o).err = 0 ∧ 8 ≤ o.k ∧ (doR g o).lost = [] ∧ (doR g o).made = [] ∧ (doR g o).was.length ≤ 1 ∧ (doR g o).new = []) := by
  by_cases hw : whyA g o = 0
  · have hd : doR g o = diffG g (madeA g o) 0 := by unfold doR doA; rw [if_pos hw]
    have F := few_made h hw
    obtain ⟨p1, _⟩ := mayO_parts (whyA_may hw)
    rw [hd]
    by_cases k3 : o.k ≤ 3
    · obtain ⟨f1, f2, f3, f4⟩ := F.makes k3
      exact Or.inr (Or.inl ⟨rfl, p1, k3, f3, f2, f4, f1⟩)
    · by_cases k8 : o.k < 8
      · exact Or.inr (Or.inr (Or.inl ⟨rfl, by omega, k8, F.lost, F.made, F.was, F.new⟩))
      · obtain ⟨f1, f2, f3⟩ := F.data (by omega)
        exact Or.inr (Or.inr (Or.inr ⟨rfl, by omega, f1, f2, F.was, f3⟩))
  · rw [few_error h.ok hw]
    exact Or.inl ⟨hw, rfl, rfl, rfl, rfl⟩

set_option maxRecDepth 100000 in
set_option maxHeartbeats 12800000 in
theorem core {H : GraphHave} (P : UndoHave H) (Q : ApplyHave H) (A : Option Addr) (n c : Nat) (l : List Opn) (o : Opn) (hl : ∀ x ∈ l, OpFit x) (ho : OpFit o) (w : World) (T : Tab w) (h : OpsIn w w.heap.size A n l) :
    Calls Tryz.prog 5 #[.slice A n c, .agg (opA o)] w fun e w' => e = .returned (.bool true) ∧ Below w.heap.size w w' := by
  have hH0 : Held w [(w.heap.size, .cells (opA o) 26)] (w.alloc (.cells (opA o) 26)) := (Held.refl w).alloc (.cells (opA o) 26) rfl
  have HX := Lib.hid h
  have HF := Lib.hid hl
  have HO := Lib.hid ho
  have H0 := Lib.hid hH0
  clear h hl ho hH0
  unfold opA at H0 ⊢
  go_enter Tryz.func5, Tryz.ntmps5
  go_wp2_with fail
  refine (P.shown _ (tab_held H0.out)).mono ?_
  rintro e w1 ⟨rfl, hb1⟩
  have H1 := Lib.hid (H0.out.step hb1)
  clear hb1 H0
  go_wp2_with fail
  refine (fewU_any A n c _).mono ?_
  rintro e w2 ⟨rfl, hb2⟩
  have H2 := Lib.hid (H1.out.step hb2)
  clear hb2 H1
  by_cases hn : n ≤ 60
  case neg =>
    have hd : decide (n ≤ 60) = false := decide_eq_false hn
    go_wp2_with fail
    go_ret
    exact ⟨rfl, H2.out.below⟩
  have hd : decide (n ≤ 60) = true := decide_eq_true hn
  have HNM := Lib.hid hn
  clear hn
  go_wp2_with fail
  refine (madeU_any Q A n c l HNM.out HF.out _ (tab_below T (Nat.le_refl _) H2.out.below) ((HX.out.below H2.out.below).more H2.out.below.size)).mono ?_
  rintro e w3 ⟨a, rfl, x3⟩
  have X3 := Lib.hid x3
  have H3 := Lib.hid (H2.out.step x3.below)
  have T2 : Tab w2 := tab_below T (Nat.le_refl _) H2.out.below
  have FC := Lib.hid (few_cases x3.fine o)
  have D3 := Lib.hid (FX.undoes P x3 T2 o HO.out)
  unfold opA at D3
  generalize (doA (runA l) o).1 = g2 at D3
  generalize doR (runA l) o = r at FC D3
  clear x3 hd HNM
  obtain ⟨e0, e1, e2, e3, e4, e5, e6, e7, e8, e9, e10, e11, e12⟩ := op_cells (o := o) (g := w.heap.size) (H3.out.at 0 rfl)
  go_wp2_with fail
  refine D3.out.mono ?_
  rintro e w4 ⟨B, v, rfl, x4, r4, _, _⟩
  have H4 : Hid (Held w [(w.heap.size, .cells (opA o) 26)] w4) := Lib.hid (H2.out.step x4.below)
  obtain ⟨A1, c1, A2, c2, A3, c3, A4, c4, e, _, _, _, q4, _⟩ := r4.read
  subst e
  have S4 := Lib.hid q4
  clear D3 X3 H3 x4 r4 q4 e0 e1 e2 e3 e4 e5 e6 e7 e8 e9 e10 e11 e12
  go_upto_region 6 with fail
  obtain ⟨u, hu⟩ : ∃ u, u = w4.heap.size := ⟨_, rfl⟩
  have hlu : w.heap.size < u := by rw [hu]; exact heap_lt (H4.out.at 0 rfl)
  have H5 := Lib.hid (H4.out.alloc (.cells (recV A1 r.lost.length c1 A2 r.made.length c2 A3 r.was.length c3 A4 r.new.length c4 r.err) 36) hu.symm)
  have hbA : Below w4.heap.size w4 (w4.alloc (.cells (recV A1 r.lost.length c1 A2 r.made.length c2 A3 r.was.length c3 A4 r.new.length c4 r.err) 36)) := (Below.refl _ _).alloc (Nat.le_refl _) _
  have S5 := Lib.hid ((S4.out.below hbA).more hbA.size)
  change Code.wp _ _ _ _ (w4.alloc (.cells (recV A1 r.lost.length c1 A2 r.made.length c2 A3 r.was.length c3 A4 r.new.length c4 r.err) 36))
  rw [← hu]
  generalize w4.alloc (.cells (recV A1 r.lost.length c1 A2 r.made.length c2 A3 r.was.length c3 A4 r.new.length c4 r.err) 36) = w5 at H5 S5 ⊢
  have T5 : Tab w5 := tab_held H5.out
  have MK := Q.makes o w5 HO.out
  unfold opA at MK
  obtain ⟨x0, x1, x2, x3, x4⟩ := rec_cells (g := u) (H5.out.at 0 rfl)
  obtain ⟨e0, e1, e2, e3, e4, e5, e6, e7, e8, e9, e10, e11, e12⟩ := op_cells (o := o) (g := w.heap.size) (H5.out.at 1 rfl)
  obtain ⟨n1, hn1⟩ : ∃ k, k = r.lost.length := ⟨_, rfl⟩
  obtain ⟨n2, hn2⟩ : ∃ k, k = r.made.length := ⟨_, rfl⟩
  obtain ⟨n3, hn3⟩ : ∃ k, k = r.was.length := ⟨_, rfl⟩
  obtain ⟨n4, hn4⟩ : ∃ k, k = r.new.length := ⟨_, rfl⟩
  obtain ⟨er, her⟩ : ∃ k, k = r.err := ⟨_, rfl⟩
  rw [← hn1, ← hn2, ← hn3, ← hn4, ← her] at H5
  rw [← hn1] at x0
  rw [← hn2] at x1
  rw [← hn3] at x2
  rw [← hn4] at x3
  rw [← her] at x4
  have LE := Lib.hid (And.intro hn1 (And.intro hn2 (And.intro hn3 (And.intro hn4 her))))
  clear hbA hu H4 S4 hn1 hn2 hn3 hn4 her
  rcases FC.out with ⟨f0, f1, f2, f3, f4⟩ | ⟨f0, k1, k3, f1, f2, f3, f4⟩ | ⟨f0, k4, k8, f1, f2, f3, f4⟩ | ⟨f0, k8, f1, f2, f3, f4⟩
  · -- an error
    obtain ⟨hn1, hn2, hn3, hn4, her⟩ := LE.out
    obtain rfl : n1 = 0 := by rw [hn1, f1]; rfl
    obtain rfl : n2 = 0 := by rw [hn2, f2]; rfl
    obtain rfl : n3 = 0 := by rw [hn3, f3]; rfl
    obtain rfl : n4 = 0 := by rw [hn4, f4]; rfl
    have hz : (er == 0) = false := beq_eq_false_iff_ne.2 (by rw [her]; exact f0)
    clear f0 f1 f2 f3 f4 FC S5 hn1 hn2 hn3 hn4 her LE MK
    go_wp2_with fail
    go_ret
    exact ⟨rfl, H5.out.below⟩
  · -- it makes
    obtain ⟨hn1, hn2, hn3, hn4, her⟩ := LE.out
    obtain rfl : n1 = 0 := by rw [hn1, f1]; rfl
    obtain rfl : n2 = 1 := by rw [hn2, f2]
    obtain rfl : n3 = 0 := by rw [hn3, f3]; rfl
    obtain rfl : n4 = 1 := by rw [hn4, f4]; rfl
    obtain rfl : er = 0 := by rw [her, f0]
    rw [show makesO o = o.k from if_pos ⟨k1, k3⟩] at MK
    have hk0 : (o.k != 0) = true := bne_iff_ne.2 (by omega)
    have hk8 : decide (8 ≤ o.k) = false := decide_eq_false (by omega)
    obtain ⟨gi, oo, e, hg, hrow⟩ := (show StsIn w5 w5.heap.size A4 r.new.length r.new from S5.out).row (by rw [f4]; exact Nat.zero_lt_one)
    have hrow0 := hrow 0 (by rw [f4]; exact Nat.zero_lt_one)
    have hnew : r.new[0]'(by rw [f4]; exact Nat.zero_lt_one) = oSt o := by simp [f4]
    rw [hnew] at hrow0
    subst e
    clear hn1 hn2 hn3 hn4 her LE
    have HR0 := Lib.hid hrow0
    have MM := Lib.hid MK
    have HGI := Lib.hid hg
    clear f0 f1 f2 f3 f4 FC S5 hrow hrow0 hnew k1 k3 MK hg
    go_wp2_with fail
    refine MM.out.mono ?_
    rintro e w6 ⟨rfl, hb6⟩
    have H6 := Lib.hid (H5.out.step hb6)
    have r0 := HR0.out.below hb6 HGI.out
    obtain ⟨r1, r2⟩ := r0
    clear hb6 MM HR0 HGI H5 x0 x1 x2 x3 x4 e0 e1 e2 e3 e4 e5 e6 e7 e8 e9 e10 e11 e12
    obtain ⟨x0, x1, x2, x3, x4⟩ := rec_cells (g := u) (H6.out.at 0 rfl)
    obtain ⟨e0, e1, e2, e3, e4, e5, e6, e7, e8, e9, e10, e11, e12⟩ := op_cells (o := o) (g := w.heap.size) (H6.out.at 1 rfl)
    have r1' : w6.cell? ⟨gi, oo, none⟩ = some (.int .i64 o.st) := by simpa [oSt] using r1
    have r2' : w6.cell? ⟨gi, oo + 1, none⟩ = some (.int .i64 o.sr) := by simpa [oSt] using r2
    have hv := eqSt_yes (a := (o.st, o.sr)) (c := (o.st, o.sr)) rfl
    dsimp only at hv
    have HB := Lib.hid H6.out.below
    clear r1 r2 H6
    go_wp2_with fail
    go_quiet (fail)
    go_wp2_with fail
    go_ret
    exact ⟨rfl, below_drewN' HB.out _⟩
  · -- names
    obtain ⟨hn1, hn2, hn3, hn4, her⟩ := LE.out
    obtain rfl : er = 0 := by rw [her, f0]
    rw [show makesO o = 0 from if_neg (by omega)] at MK
    have hk8 : decide (8 ≤ o.k) = false := decide_eq_false (by omega)
    have m1 : decide (n1 ≤ 2) = true := decide_eq_true (by omega)
    have m2 : decide (n2 ≤ 1) = true := decide_eq_true (by omega)
    have m3 : decide (n3 ≤ 1) = true := decide_eq_true (by omega)
    have m4 : decide (n4 ≤ 1) = true := decide_eq_true (by omega)
    have i1 : decide ((n1 : Int) ≤ 2) = true := decide_eq_true (by omega)
    have i2 : decide ((n2 : Int) ≤ 1) = true := decide_eq_true (by omega)
    have i3 : decide ((n3 : Int) ≤ 1) = true := decide_eq_true (by omega)
    have i4 : decide ((n4 : Int) ≤ 1) = true := decide_eq_true (by omega)
    have MM := Lib.hid MK
    have hz : ((n1 : Int) == 0) = false ∨ (((n1 : Int) == 0) = true ∧ ((n2 : Int) == 0) = false) ∨ (((n1 : Int) == 0) = true ∧ ((n2 : Int) == 0) = true ∧ ((n3 : Int) == 0) = false) ∨ (((n1 : Int) == 0) = true ∧ ((n2 : Int) == 0) = true ∧ ((n3 : Int) == 0) = true) := by
      simp only [beq_eq_false_iff_ne, beq_iff_eq]
      omega
    obtain ⟨b8, hb8⟩ : ∃ b8, ((n4 : Int) == 0) = b8 := ⟨_, rfl⟩
    clear f0 f1 f2 f3 f4 FC S5 k4 k8 MK hn1 hn2 hn3 hn4 her LE
    rcases hz with z1 | ⟨z1, z2⟩ | ⟨z1, z2, z3⟩ | ⟨z1, z2, z3⟩
    all_goals
      go_wp2_with fail
      refine MM.out.mono ?_
      rintro e w6 ⟨rfl, hb6⟩
      have H6 := Lib.hid (H5.out.step hb6)
      clear hb6 MM H5 x0 x1 x2 x3 x4 e0 e1 e2 e3 e4 e5 e6 e7 e8 e9 e10 e11 e12
      obtain ⟨x0, x1, x2, x3, x4⟩ := rec_cells (g := u) (H6.out.at 0 rfl)
      obtain ⟨e0, e1, e2, e3, e4, e5, e6, e7, e8, e9, e10, e11, e12⟩ := op_cells (o := o) (g := w.heap.size) (H6.out.at 1 rfl)
      have HB := Lib.hid H6.out.below
      clear H6
      go_wp2_with fail
      go_quiet (fail)
      go_wp2_with fail
      go_ret
      exact ⟨rfl, below_drewN' HB.out _⟩
  · -- data
    obtain ⟨hn1, hn2, hn3, hn4, her⟩ := LE.out
    obtain rfl : n1 = 0 := by rw [hn1, f1]; rfl
    obtain rfl : n2 = 0 := by rw [hn2, f2]; rfl
    obtain rfl : n4 = 0 := by rw [hn4, f4]; rfl
    obtain rfl : er = 0 := by rw [her, f0]
    rw [show makesO o = 0 from if_neg (by omega)] at MK
    have hk8 : decide (8 ≤ o.k) = true := decide_eq_true k8
    have MM := Lib.hid MK
    have hz : n3 = 0 ∨ n3 = 1 := by omega
    clear f0 f1 f2 f3 f4 FC S5 k8 MK hn1 hn2 hn3 hn4 her LE
    rcases hz with rfl | rfl
    all_goals
      go_wp2_with fail
      refine MM.out.mono ?_
      rintro e w6 ⟨rfl, hb6⟩
      have H6 := Lib.hid (H5.out.step hb6)
      clear hb6 MM H5 x0 x1 x2 x3 x4 e0 e1 e2 e3 e4 e5 e6 e7 e8 e9 e10 e11 e12
      obtain ⟨x0, x1, x2, x3, x4⟩ := rec_cells (g := u) (H6.out.at 0 rfl)
      obtain ⟨e0, e1, e2, e3, e4, e5, e6, e7, e8, e9, e10, e11, e12⟩ := op_cells (o := o) (g := w.heap.size) (H6.out.at 1 rfl)
      have HB := Lib.hid H6.out.below
      clear H6
      go_wp2_with fail
      go_quiet (fail)
      go_wp2_with fail
      go_ret
      exact ⟨rfl, below_drewN' HB.out _⟩

theorem walk0 {H : GraphHave} (P : UndoHave H) (Q : ApplyHave H) (a0A : Option Addr) (a0n : Nat) (a0c : Nat) (a0x : List Opn) (a1 : Opn) (w : World) [T : Tab w] (_ : a0n ≤ a0c) (_ : a0c ≤ maxLen) (w0x : ∀ x ∈ a0x, OpFit x) (w0d : OpsIn w w.heap.size a0A a0n a0x) (w1 : Ok64 a1) (w1a : a1.name.size ≤ maxLen) (w1b : a1.new.size ≤ maxLen) (w1c : a1.data.size ≤ maxLen) :
    Calls Tryz.prog 5 #[.slice a0A a0n a0c, .agg (opA a1)] w fun e w' => e = .returned (.bool true) ∧ Below w.heap.size w w' :=
  core P Q a0A a0n a0c a0x a1 w0x ⟨w1, w1a, w1b, w1c⟩ w T w0d

end Go.Proofs.YthcmgaibbpacfaaGreatDoor.lawUndoFew
