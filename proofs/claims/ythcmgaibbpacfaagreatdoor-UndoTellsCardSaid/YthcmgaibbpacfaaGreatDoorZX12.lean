/-
  The walk of the document's own Why: why an operation can't be done.
-/
import Derived.Test.YthcmgaibbpacfaaGreatDoorZX09
import Derived.Test.YthcmgaibbpacfaaGreatDoorZX11
import Derived.Test.YthcmgaibbpacfaaGreatDoorZ01
import Derived.Test.YthcmgaibbpacfaaGreatDoorZ09
import Derived.Test.YthcmgaibbpacfaaGreatDoorZ00
import Derived.Deep.DeepCutAuto
import Derived.Test.YthcmgaibbpacfaaGreatDoorZX08
import Derived.Test.YthcmgaibbpacfaaGreatDoorZX05
import Derived.Test.YthcmgaibbpacfaaGreatDoorZ02
namespace Go.Proofs.YthcmgaibbpacfaaGreatDoor
open Go.RowKit StampMath GraphMath OpMath

/-- Why can't an operation be done: of what was looked up. -/
def wB (may : Bool) (k mk rn : Int) (hs : Bool) (ki ln : Int) : Int :=
  if may = false then 1 else if k ≤ 4 then mk else if k = 7 then rn else if (k ≤ 6 ∧ hs = false) ∨ ki = 0 then 3 else if (k = 5 ∨ k = 8 ∨ k = 9) ∧ ki = 1 then 5 else if k = 6 ∧ ki ≠ 1 then 6 else if k = 6 ∧ 0 < ln then 7 else if (k = 8 ∨ k = 9) ∧ ki = 3 then 8 else 0

theorem whyA_eq (g : Gr) (o : Opn) : whyA g o = wB (mayO o) o.k (makesW g o) (renamesW g o) (decide (lookE g.E (oAt o) o.name = some (oIno o))) (kindG g (oIno o)) ((listE g.E (oIno o)).length : Int) := by
  unfold whyA wB
  have e0 : ∀ n : Nat, (0 < n) = ((0 : Int) < (n : Int)) := fun n => propext (by omega)
  simp only [e0, ne_eq, decide_eq_false_iff_not]

set_option maxRecDepth 100000 in
set_option maxHeartbeats 3200000 in
theorem GrV.why {w : World} {A : Option Addr} {n c : Nat} {A' : Option Addr} {m d : Nat} {g : Gr} (h : GrV w A n c A' m d g) (o : Opn) (z1 : o.name.size ≤ 9223372036854775807) (z2 : o.new.size ≤ 9223372036854775807) (z3 : o.data.size ≤ 9223372036854775807) :
    Calls Tryz.prog 39 #[.agg #[.slice A n c, .slice A' m d], .agg (opA o)] w fun e w' => e = .returned (.int .i64 (whyA g o)) ∧ Below w.heap.size w w' := by
  have hM := whyA_eq g o
  have MY : Hid (∀ W : World, Calls Tryz.prog 66 #[.agg (opA o)] W fun e w' => e = .returned (.bool (mayO o)) ∧ Below W.heap.size W w') := fun W => refOpMay o z1 z2 z3 W
  have KI : Hid (∀ W : World, Below w.heap.size w W → Calls Tryz.prog 67 #[.agg #[.slice A n c, .slice A' m d], .agg #[.int .i64 o.it, .int .i64 o.ir]] W fun e w' => e = .returned (.int .i64 (kindG g (oIno o))) ∧ Below W.heap.size W w') := fun W hW => (h.step hW).kind (oIno o)
  have MK : Hid (∀ W : World, Below w.heap.size w W → Calls Tryz.prog 68 #[.agg #[.slice A n c, .slice A' m d], .agg (opA o)] W fun e w' => e = .returned (.int .i64 (makesW g o)) ∧ Below W.heap.size W w') := fun W hW => (h.step hW).makes o
  have RN : Hid (∀ W : World, Below w.heap.size w W → Calls Tryz.prog 69 #[.agg #[.slice A n c, .slice A' m d], .agg (opA o)] W fun e w' => e = .returned (.int .i64 (renamesW g o)) ∧ Below W.heap.size W w') := fun W hW => (h.step hW).renames o
  have HS : Hid (∀ W : World, Below w.heap.size w W → Calls Tryz.prog 70 #[.agg #[.slice A n c, .slice A' m d], .agg #[.int .i64 o.pt, .int .i64 o.pr], .string o.name, .agg #[.int .i64 o.it, .int .i64 o.ir]] W fun e w' => e = .returned (.bool (decide (lookE g.E (oAt o) o.name = some (oIno o)))) ∧ Below W.heap.size W w') := fun W hW => (h.step hW).has (oAt o) o.name (oIno o)
  have LI : Hid (∀ W : World, Below w.heap.size w W → Calls Tryz.prog 71 #[.agg #[.slice A n c, .slice A' m d], .agg #[.int .i64 o.it, .int .i64 o.ir]] W fun e w' => ∃ B k, e = .returned (.slice B (listE g.E (oIno o)).length k) ∧ Below W.heap.size W w') := fun W hW => ((h.step hW).list (oIno o)).mono fun _ _ ⟨B, k, he, _, _, _, _, hb⟩ => ⟨B, k, he, hb⟩
  generalize decide (lookE g.E (oAt o) o.name = some (oIno o)) = hs at HS hM
  generalize kindG g (oIno o) = ki at KI hM
  generalize (listE g.E (oIno o)).length = ln at LI hM
  generalize makesW g o = mk at MK hM
  generalize renamesW g o = rn at RN hM
  generalize mayO o = may at MY hM
  generalize whyA g o = r at hM ⊢
  have HM := Lib.hid hM
  have hb0 : Held w [(w.heap.size + 1, .cells (opA o) 26), (w.heap.size, .cells #[.slice A n c, .slice A' m d] 39)]
    ((w.alloc (.cells #[.slice A n c, .slice A' m d] 39)).alloc (.cells (opA o) 26)) :=
    ((Held.refl w).alloc (.cells #[.slice A n c, .slice A' m d] 39) rfl).alloc (.cells (opA o) 26) (by simp)
  clear h hM z1 z2 z3
  unfold opA at MY MK RN ⊢
  go_enter Tryz.func39, Tryz.ntmps39
  go_upto_region 1 with fail
  change Code.wp _ _ _ _ ((w.alloc (.cells #[.slice A n c, .slice A' m d] 39)).alloc (.cells (opA o) 26))
  generalize (w.alloc (.cells #[.slice A n c, .slice A' m d] 39)).alloc (.cells (opA o) 26) = w2 at hb0 ⊢
  have d1 := fun y => later_cell (two_cells (g := w.heap.size) (hb0.at 1 rfl)).1 y
  have d2 := fun y => later_cell (two_cells (g := w.heap.size) (hb0.at 1 rfl)).2 y
  have O := Lib.hid (op_later (hb0.at 0 rfl))
  have f0 := fun y => (O.out y).1
  have f1 := fun y => (O.out y).2.1
  have f2 := fun y => (O.out y).2.2.1
  have f3 := fun y => (O.out y).2.2.2.1
  have f4 := fun y => (O.out y).2.2.2.2.1
  have f5 := fun y => (O.out y).2.2.2.2.2.1
  have f6 := fun y => (O.out y).2.2.2.2.2.2.1
  have f7 := fun y => (O.out y).2.2.2.2.2.2.2.1
  have f8 := fun y => (O.out y).2.2.2.2.2.2.2.2.1
  have f9 := fun y => (O.out y).2.2.2.2.2.2.2.2.2.1
  have f10 := fun y => (O.out y).2.2.2.2.2.2.2.2.2.2.1
  have f11 := fun y => (O.out y).2.2.2.2.2.2.2.2.2.2.2.1
  have f12 := fun y => (O.out y).2.2.2.2.2.2.2.2.2.2.2.2
  have HB := Lib.hid hb0.below
  have MY' : Hid (∀ y, Calls Tryz.prog 66 #[.agg #[.int .i64 o.st, .int .i64 o.sr, .int .i64 o.k, .int .i64 o.pt, .int .i64 o.pr, .int .i64 o.it, .int .i64 o.ir, .int .i64 o.tt, .int .i64 o.tr, .string o.name, .string o.new, .int .i64 o.off, .string o.data]] (later w2 y) fun e w'' => e = .returned (.bool may) ∧ ∃ z, w'' = later w2 z) := fun y => later_call (MY.out _)
  have KI' : Hid (∀ y, Calls Tryz.prog 67 #[.agg #[.slice A n c, .slice A' m d], .agg #[.int .i64 o.it, .int .i64 o.ir]] (later w2 y) fun e w'' => e = .returned (.int .i64 ki) ∧ ∃ z, w'' = later w2 z) := fun y => later_call (KI.out _ (below_step HB.out (later_below w2 y)))
  have MK' : Hid (∀ y, Calls Tryz.prog 68 #[.agg #[.slice A n c, .slice A' m d], .agg #[.int .i64 o.st, .int .i64 o.sr, .int .i64 o.k, .int .i64 o.pt, .int .i64 o.pr, .int .i64 o.it, .int .i64 o.ir, .int .i64 o.tt, .int .i64 o.tr, .string o.name, .string o.new, .int .i64 o.off, .string o.data]] (later w2 y) fun e w'' => e = .returned (.int .i64 mk) ∧ ∃ z, w'' = later w2 z) := fun y => later_call (MK.out _ (below_step HB.out (later_below w2 y)))
  have RN' : Hid (∀ y, Calls Tryz.prog 69 #[.agg #[.slice A n c, .slice A' m d], .agg #[.int .i64 o.st, .int .i64 o.sr, .int .i64 o.k, .int .i64 o.pt, .int .i64 o.pr, .int .i64 o.it, .int .i64 o.ir, .int .i64 o.tt, .int .i64 o.tr, .string o.name, .string o.new, .int .i64 o.off, .string o.data]] (later w2 y) fun e w'' => e = .returned (.int .i64 rn) ∧ ∃ z, w'' = later w2 z) := fun y => later_call (RN.out _ (below_step HB.out (later_below w2 y)))
  have HS' : Hid (∀ y, Calls Tryz.prog 70 #[.agg #[.slice A n c, .slice A' m d], .agg #[.int .i64 o.pt, .int .i64 o.pr], .string o.name, .agg #[.int .i64 o.it, .int .i64 o.ir]] (later w2 y) fun e w'' => e = .returned (.bool hs) ∧ ∃ z, w'' = later w2 z) := fun y => later_call (HS.out _ (below_step HB.out (later_below w2 y)))
  have LI' : Hid (∀ y, Calls Tryz.prog 71 #[.agg #[.slice A n c, .slice A' m d], .agg #[.int .i64 o.it, .int .i64 o.ir]] (later w2 y) fun e w'' => ∃ B k, e = .returned (.slice B ln k) ∧ ∃ z, w'' = later w2 z) := fun y => (LI.out _ (below_step HB.out (later_below w2 y))).mono fun _ w' ⟨B, k, he, hb⟩ => ⟨B, k, he, w', (later_of (below_step (later_below w2 y) hb)).symm⟩
  rw [show w2 = later w2 w2 from (later_of (Below.refl _ _)).symm]
  clear hb0 MY KI MK RN HS LI O
  go_wp2_with fail
  iterate 8
    all_goals first
      | ((fail_if_success (go_at_call 66)); (fail_if_success (go_at_call 67)); (fail_if_success (go_at_call 68)); (fail_if_success (go_at_call 69)); (fail_if_success (go_at_call 70)); (fail_if_success (go_at_call 71)); go_ret; exact ⟨by rw [HM.out]; clear d1 d2 f0 f1 f2 f3 f4 f5 f6 f7 f8 f9 f10 f11 f12 MY' KI' MK' RN' HS' LI' HM HB; first | (simp_all [wB]; done) | (simp_all [wB]; omega) | (unfold wB; split <;> simp_all <;> omega), below_step HB.out (later_below w2 _)⟩)
      | (go_at_call 66; (with_reducible refine (MY'.out _).mono ?_); rintro z w5 ⟨rfl, y5, rfl⟩; go_wp2_with fail)
      | (go_at_call 67; (with_reducible refine (KI'.out _).mono ?_); rintro z w5 ⟨rfl, y5, rfl⟩; go_wp2_with fail)
      | (go_at_call 68; (with_reducible refine (MK'.out _).mono ?_); rintro z w5 ⟨rfl, y5, rfl⟩; go_wp2_with fail)
      | (go_at_call 69; (with_reducible refine (RN'.out _).mono ?_); rintro z w5 ⟨rfl, y5, rfl⟩; go_wp2_with fail)
      | (go_at_call 70; (with_reducible refine (HS'.out _).mono ?_); rintro z w5 ⟨rfl, y5, rfl⟩; go_wp2_with fail)
      | (go_at_call 71; (with_reducible refine (LI'.out _).mono ?_); rintro z w5 ⟨B, k, rfl, y5, rfl⟩; go_wp2_with fail)

end Go.Proofs.YthcmgaibbpacfaaGreatDoor

/-
  The walks of the document's own Write and Trunc (extents).
-/
namespace Go.Proofs.YthcmgaibbpacfaaGreatDoor
open Go.RowKit ExtentMath PackMath

/-- So far k bytes are built. -/
def Built (w : World) (T : TypeId) (f : Nat → UInt8) (k : Nat) (v : Value) (wr : World) : Prop :=
  wr.ownsRow w.heap.size T 1 v k ((bld f k).map bcell) ∧ Below w.heap.size w wr ∧ (k = 0 → v = .slice none 0 0)

theorem built_step {w w1 : World} {T : TypeId} {f : Nat → UInt8} {k : Nat} {v : Value} (h : w1.ownsRow w.heap.size T 1 v (k + 1) ((bld f k).map bcell ++ [.int .u8 ((f k).toNat : Int)])) (hb : Below w.heap.size w w1) : Built w T f (k + 1) v w1 := by
  refine ⟨?_, hb, fun h => by omega⟩
  rw [bld_succ, List.map_append]
  exact h

theorem conv_none (W : World) : (convert 131 9 (.slice none 0 0)).run Tryz.prog W = .ok (.string ⟨#[]⟩) W := by
  kernel_rfl

theorem at_any (d : ByteArray) (i : Nat) (_hd : d.size ≤ 2000) (_hi : i ≤ 4000) (w : World) :
    Calls Tryz.prog 77 #[.string d, .int .i64 (i : Int)] w fun e w' => e = .returned (.int .u8 ((bAt d.data.toList i).toNat : Int)) ∧ w = w' := by
  by_cases h : i < d.size
  · have e : bAt d.data.toList i = d[i] := by rw [bAt_lt (by simpa using h)]; exact data_get h
    have E := Lib.hid e
    clear e
    go_enter Tryz.func77, Tryz.ntmps77
    go_wp2_with fail
    go_ret
    exact ⟨by rw [E.out]; rfl, rfl⟩
  · have e : bAt d.data.toList i = 0 := bAt_ge (by simpa using h)
    have E := Lib.hid e
    have f1 : decide (i < d.size) = false := by simpa using h
    clear e h
    go_enter Tryz.func77, Tryz.ntmps77
    go_wp2_with fail
    go_ret
    exact ⟨by rw [E.out]; rfl, rfl⟩

set_option maxRecDepth 100000 in
set_option maxHeartbeats 800000 in
theorem refTrunc (d : ByteArray) (n : Int) (hd : d.size ≤ 2000) (w : World) :
    Calls Tryz.prog 47 #[.string d, .int .i64 n] w fun e w' => e = .returned (.tuple #[.string (tR d n).1, .int .i64 (tR d n).2]) ∧ Below w.heap.size w w' := by
  by_cases h0 : n < 0
  · rw [show tR d n = (d, 1) by unfold tR; rw [if_pos h0]]
    go_enter Tryz.func47, Tryz.ntmps47
    go_wp2_with fail
    go_ret2
    exact ⟨rfl, Below.refl _ _⟩
  by_cases h1 : 64 < n
  · rw [show tR d n = (d, 11) by unfold tR; rw [if_neg h0, if_pos (Or.inl h1)]]
    go_enter Tryz.func47, Tryz.ntmps47
    go_wp2_with fail
    go_ret2
    exact ⟨rfl, Below.refl _ _⟩
  by_cases h2 : 64 < d.size
  · rw [show tR d n = (d, 11) by unfold tR; rw [if_neg h0, if_pos (Or.inr h2)]]
    go_enter Tryz.func47, Tryz.ntmps47
    go_wp2_with fail
    go_ret2
    exact ⟨rfl, Below.refl _ _⟩
  obtain ⟨m, rfl⟩ : ∃ m : Nat, n = (m : Int) := ⟨n.toNat, by omega⟩
  have hm64 : m ≤ 64 := by omega
  rw [show tR d (m : Int) = (⟨(bld (bAt d.data.toList) m).toArray⟩, 0) by unfold tR; rw [if_neg h0, if_neg (by omega)]; rfl]
  clear h0 h1
  obtain ⟨i0, hi0, hz0, hz1, hz2⟩ := info_parts u8_info
  have CA : Hid (∀ (k : Nat) (W : World), k ≤ 4000 → Calls Tryz.prog 77 #[.string d, .int .i64 (k : Int)] W fun e w' => e = .returned (.int .u8 ((bAt d.data.toList k).toNat : Int)) ∧ W = w') := fun k W hk => at_any d k hd hk W
  obtain ⟨f, hf⟩ : ∃ f, f = bAt d.data.toList := ⟨_, rfl⟩
  rw [← hf] at CA ⊢
  clear hf
  go_enter Tryz.func47, Tryz.ntmps47
  go_wp2_with fail
  go_loopw [6, 7] (fun b i wr => ∃ k : Nat, i = .int .i64 (k : Int) ∧ k ≤ m ∧ Hid (Built w 5 f k b wr)) (fun _ i _ => m - (intOf i).toNat)
  case atStart => exact ⟨0, rfl, by omega, ⟨World.ownsRow_nil _ _ _ _, Below.refl _ _, fun _ => rfl⟩⟩
  case round =>
    obtain ⟨k, rfl, hk, hB⟩ := hrel
    by_cases hlt : k < m
    · have hb := hB.out.2.1
      have hm : k + 1 ≤ maxLen := by unfold maxLen; omega
      go_wp2_with fail
      refine (CA.out k _ (by omega)).mono ?_
      rintro e w' ⟨rfl, rfl⟩
      go_wp2_with (at_builtin; refine wpList_append_own _ rfl (.tmp 24) (.tmp 28) 131 rfl w.heap.size 5 i0 _ 1 1 Tryz.underlying131 hi0 hz0 hz1 hz2 rfl (by decide) _ _ _ rfl (hB.out.1.alloc _) ⟨wr.heap.size, 0, none⟩ 1 1 [.int .u8 ((f k).toNat : Int)] rfl rfl (cell_one_new _ _ _) (one_cell _ _) hm (by omega) (by simp; exact Nat.le_succ_of_le hb.size) ?_; intro v1 w1 hown1 hg1 _)
      go_roundw
      case rel => exact ⟨k + 1, by go_num, by omega, built_step hown1 ((hb.alloc hb.size _).grown hg1 (by simp; exact Nat.le_succ_of_le hb.size) (fun q hq => (hB.out.1.lt q hq).1))⟩
      case measure => simp [intOf]; omega
    · obtain rfl : k = m := by omega
      have hb := hB.out.2.1
      by_cases h0 : k = 0
      · have hv := hB.out.2.2 h0
        subst h0
        subst hv
        have hcv := conv_none wr
        go_wp2_with fail
        go_ret2
        exact ⟨rfl, hb⟩
      · have hcv := conv_own hB.out.1 (by omega)
        go_wp2_with fail
        go_ret2
        exact ⟨rfl, hb⟩

set_option maxRecDepth 100000 in
set_option maxHeartbeats 1600000 in
theorem refWrite (d : ByteArray) (off : Int) (s : ByteArray) (hd : d.size ≤ 2000) (hs : s.size ≤ 2000) (ho : IsI64 off) (w : World) :
    Calls Tryz.prog 46 #[.string d, .int .i64 off, .string s] w fun e w' => e = .returned (.tuple #[.string (wR d off s).1, .int .i64 (wR d off s).2]) ∧ Below w.heap.size w w' := by
  have hes : (s.toList == []) = decide (s.size = 0) := by
    rw [ByteArray.toList_eq]
    have e2 : s.data.toList.length = s.size := by simp
    cases hl : s.data.toList with
    | nil => rw [hl] at e2; rw [decide_eq_true (by simpa using e2.symm)]; rfl
    | cons a l => rw [hl, List.length_cons] at e2; rw [decide_eq_false (by omega)]; rfl
  by_cases h0 : off < 0
  · rw [show wR d off s = (d, 1) by unfold wR; rw [if_pos (Or.inl h0)]]
    go_enter Tryz.func46, Tryz.ntmps46
    go_wp2_with fail
    go_ret2
    exact ⟨rfl, Below.refl _ _⟩
  by_cases hs0 : s.size = 0
  · rw [show wR d off s = (d, 1) by unfold wR; rw [if_pos (Or.inr hs0)]]
    rw [decide_eq_true hs0] at hes
    go_enter Tryz.func46, Tryz.ntmps46
    go_wp2_with fail
    go_ret2
    exact ⟨rfl, Below.refl _ _⟩
  rw [decide_eq_false hs0] at hes
  by_cases h1 : 64 < off
  · rw [show wR d off s = (d, 11) by unfold wR; rw [if_neg (by omega), if_pos (Or.inl h1)]]
    go_enter Tryz.func46, Tryz.ntmps46
    go_wp2_with fail
    go_ret2
    exact ⟨rfl, Below.refl _ _⟩
  by_cases h2 : 64 < s.size
  · rw [show wR d off s = (d, 11) by unfold wR; rw [if_neg (by omega), if_pos (Or.inr (Or.inl h2))]]
    go_enter Tryz.func46, Tryz.ntmps46
    go_wp2_with fail
    go_ret2
    exact ⟨rfl, Below.refl _ _⟩
  by_cases h3 : 64 < d.size
  · rw [show wR d off s = (d, 11) by unfold wR; rw [if_neg (by omega), if_pos (Or.inr (Or.inr (Or.inl h3)))]]
    go_enter Tryz.func46, Tryz.ntmps46
    go_wp2_with fail
    go_ret2
    exact ⟨rfl, Below.refl _ _⟩
  obtain ⟨o, rfl⟩ : ∃ o : Nat, off = (o : Int) := ⟨off.toNat, by omega⟩
  by_cases h4 : 64 < o + s.size
  · rw [show wR d (o : Int) s = (d, 11) by unfold wR; rw [if_neg (by omega), if_pos (Or.inr (Or.inr (Or.inr (by omega))))]]
    have h4' : (64 : Int) < (o : Int) + (s.size : Int) := by omega
    go_enter Tryz.func46, Tryz.ntmps46
    go_wp2_with fail
    go_ret2
    exact ⟨rfl, Below.refl _ _⟩
  obtain ⟨n, hn⟩ : ∃ n, n = max d.size (o + s.size) := ⟨_, rfl⟩
  have hR : wR d (o : Int) s = (⟨(bld (wF d.data.toList s.data.toList o) n).toArray⟩, 0) := by
    unfold wR
    rw [if_neg (by omega), if_neg (by omega), hn]
    unfold wL
    simp
  rw [hR]
  have h4' : ¬ (64 : Int) < (o : Int) + (s.size : Int) := by omega
  clear h0 hR ho h1
  obtain ⟨i0, hi0, hz0, hz1, hz2⟩ := info_parts u8_info
  have CA : Hid (∀ (k : Nat) (W : World), k ≤ 4000 → Calls Tryz.prog 77 #[.string d, .int .i64 (k : Int)] W fun e w' => e = .returned (.int .u8 ((bAt d.data.toList k).toNat : Int)) ∧ W = w') := fun k W hk => at_any d k hd hk W
  obtain ⟨f, hf⟩ : ∃ f, f = wF d.data.toList s.data.toList o := ⟨_, rfl⟩
  have hF1 : Hid (∀ k (h : k - o < s.size), o ≤ k → f k = s[k - o]) := fun k h hk => by
    rw [hf]
    unfold wF
    have e : s.data.toList.length = s.size := by simp
    rw [if_pos (by omega), bAt_lt (by omega)]
    exact data_get h
  have hF2 : Hid (∀ k, ¬ (o ≤ k ∧ k < o + s.size) → f k = bAt d.data.toList k) := fun k h => by
    rw [hf]
    unfold wF
    have e : s.data.toList.length = s.size := by simp
    rw [if_neg (by omega)]
  rw [← hf]
  have HN := Lib.hid hn
  clear hf hn
  go_enter Tryz.func46, Tryz.ntmps46
  go_wp2_with fail
  go_loopw [8, 9] (fun b i wr => ∃ k : Nat, i = .int .i64 (k : Int) ∧ k ≤ n ∧ Hid (Built w 5 f k b wr)) (fun _ i _ => n - (intOf i).toNat)
  case atStart => exact ⟨0, rfl, by omega, ⟨World.ownsRow_nil _ _ _ _, Below.refl _ _, fun _ => rfl⟩⟩
  case round =>
    obtain ⟨k, rfl, hk, hB⟩ := hrel
    have hb := hB.out.2.1
    have hm : k + 1 ≤ maxLen := by have := HN.out; unfold maxLen; omega
    have hcase : (k < d.size ∧ o ≤ k ∧ k < o + s.size) ∨ (¬ k < d.size ∧ o ≤ k ∧ k < o + s.size) ∨ (k < d.size ∧ ¬ o ≤ k) ∨ (k < d.size ∧ o ≤ k ∧ ¬ k < o + s.size) ∨ (¬ k < d.size ∧ k < o + s.size ∧ ¬ o ≤ k) ∨ (¬ k < d.size ∧ ¬ k < o + s.size) := by omega
    rcases hcase with ⟨c0, c1, c2⟩ | ⟨c0, c1, c2⟩ | ⟨c0, c1⟩ | ⟨c0, c1, c2⟩ | ⟨c0, c2, c1⟩ | ⟨c0, c2⟩
    · have c2' : (k : Int) < (o : Int) + (s.size : Int) := by omega
      have hq : k - o < s.size := by omega
      have e : f k = s[k - o] := hF1.out k hq c1
      have E := Lib.hid e
      have hsub : (k : Int) - (o : Int) = ((k - o : Nat) : Int) := by omega
      clear e
      go_wp2_with (at_builtin; refine wpList_append_own _ rfl (.tmp 62) (.tmp 68) 131 rfl w.heap.size 5 i0 _ 1 1 Tryz.underlying131 hi0 hz0 hz1 hz2 rfl (by decide) _ _ _ rfl (hB.out.1.alloc _) ⟨wr.heap.size, 0, none⟩ 1 1 [.int .u8 (s[k - o].toNat : Int)] rfl rfl (cell_one_new _ _ _) (one_cell _ _) hm (by omega) (by simp; exact Nat.le_succ_of_le hb.size) ?_; intro v1 w1 hown1 hg1 _)
      go_roundw
      case rel => exact ⟨k + 1, by go_num, by have := HN.out; omega, built_step (by rw [E.out]; exact hown1) ((hb.alloc hb.size _).grown hg1 (by simp; exact Nat.le_succ_of_le hb.size) (fun q hq => (hB.out.1.lt q hq).1))⟩
      case measure => have := HN.out; simp [intOf]; omega
    · have c2' : (k : Int) < (o : Int) + (s.size : Int) := by omega
      have hq : k - o < s.size := by omega
      have e : f k = s[k - o] := hF1.out k hq c1
      have E := Lib.hid e
      have hsub : (k : Int) - (o : Int) = ((k - o : Nat) : Int) := by omega
      clear e
      go_wp2_with (at_builtin; refine wpList_append_own _ rfl (.tmp 62) (.tmp 68) 131 rfl w.heap.size 5 i0 _ 1 1 Tryz.underlying131 hi0 hz0 hz1 hz2 rfl (by decide) _ _ _ rfl (hB.out.1.alloc _) ⟨wr.heap.size, 0, none⟩ 1 1 [.int .u8 (s[k - o].toNat : Int)] rfl rfl (cell_one_new _ _ _) (one_cell _ _) hm (by omega) (by simp; exact Nat.le_succ_of_le hb.size) ?_; intro v1 w1 hown1 hg1 _)
      go_roundw
      case rel => exact ⟨k + 1, by go_num, by have := HN.out; omega, built_step (by rw [E.out]; exact hown1) ((hb.alloc hb.size _).grown hg1 (by simp; exact Nat.le_succ_of_le hb.size) (fun q hq => (hB.out.1.lt q hq).1))⟩
      case measure => have := HN.out; simp [intOf]; omega
    · have c1' : decide (o ≤ k) = false := by simpa using c1
      have E := Lib.hid (hF2.out k (by omega))
      go_wp2_with fail
      refine (CA.out k _ (by have := HN.out; omega)).mono ?_
      rintro e w' ⟨rfl, rfl⟩
      go_wp2_with (at_builtin; refine wpList_append_own _ rfl (.tmp 70) (.tmp 74) 131 rfl w.heap.size 5 i0 _ 1 1 Tryz.underlying131 hi0 hz0 hz1 hz2 rfl (by decide) _ _ _ rfl (hB.out.1.alloc _) ⟨wr.heap.size, 0, none⟩ 1 1 [.int .u8 ((bAt d.data.toList k).toNat : Int)] rfl rfl (cell_one_new _ _ _) (one_cell _ _) hm (by omega) (by simp; exact Nat.le_succ_of_le hb.size) ?_; intro v1 w1 hown1 hg1 _)
      go_roundw
      case rel => exact ⟨k + 1, by go_num, by have := HN.out; omega, built_step (by rw [E.out]; exact hown1) ((hb.alloc hb.size _).grown hg1 (by simp; exact Nat.le_succ_of_le hb.size) (fun q hq => (hB.out.1.lt q hq).1))⟩
      case measure => have := HN.out; simp [intOf]; omega
    · have c2' : ¬ (k : Int) < (o : Int) + (s.size : Int) := by omega
      have E := Lib.hid (hF2.out k (by omega))
      go_wp2_with fail
      refine (CA.out k _ (by have := HN.out; omega)).mono ?_
      rintro e w' ⟨rfl, rfl⟩
      go_wp2_with (at_builtin; refine wpList_append_own _ rfl (.tmp 70) (.tmp 74) 131 rfl w.heap.size 5 i0 _ 1 1 Tryz.underlying131 hi0 hz0 hz1 hz2 rfl (by decide) _ _ _ rfl (hB.out.1.alloc _) ⟨wr.heap.size, 0, none⟩ 1 1 [.int .u8 ((bAt d.data.toList k).toNat : Int)] rfl rfl (cell_one_new _ _ _) (one_cell _ _) hm (by omega) (by simp; exact Nat.le_succ_of_le hb.size) ?_; intro v1 w1 hown1 hg1 _)
      go_roundw
      case rel => exact ⟨k + 1, by go_num, by have := HN.out; omega, built_step (by rw [E.out]; exact hown1) ((hb.alloc hb.size _).grown hg1 (by simp; exact Nat.le_succ_of_le hb.size) (fun q hq => (hB.out.1.lt q hq).1))⟩
      case measure => have := HN.out; simp [intOf]; omega
    · have c2' : (k : Int) < (o : Int) + (s.size : Int) := by omega
      have c1' : decide (o ≤ k) = false := by simpa using c1
      have E := Lib.hid (hF2.out k (by omega))
      go_wp2_with fail
      refine (CA.out k _ (by have := HN.out; omega)).mono ?_
      rintro e w' ⟨rfl, rfl⟩
      go_wp2_with (at_builtin; refine wpList_append_own _ rfl (.tmp 70) (.tmp 74) 131 rfl w.heap.size 5 i0 _ 1 1 Tryz.underlying131 hi0 hz0 hz1 hz2 rfl (by decide) _ _ _ rfl (hB.out.1.alloc _) ⟨wr.heap.size, 0, none⟩ 1 1 [.int .u8 ((bAt d.data.toList k).toNat : Int)] rfl rfl (cell_one_new _ _ _) (one_cell _ _) hm (by omega) (by simp; exact Nat.le_succ_of_le hb.size) ?_; intro v1 w1 hown1 hg1 _)
      go_roundw
      case rel => exact ⟨k + 1, by go_num, by have := HN.out; omega, built_step (by rw [E.out]; exact hown1) ((hb.alloc hb.size _).grown hg1 (by simp; exact Nat.le_succ_of_le hb.size) (fun q hq => (hB.out.1.lt q hq).1))⟩
      case measure => have := HN.out; simp [intOf]; omega
    · have c2' : ¬ (k : Int) < (o : Int) + (s.size : Int) := by omega
      obtain rfl : k = n := by have := HN.out; omega
      have hcv := conv_own hB.out.1 (by have := HN.out; omega)
      go_wp2_with fail
      go_ret2
      exact ⟨rfl, hb⟩

end Go.Proofs.YthcmgaibbpacfaaGreatDoor

/-
  The walk of the document's own Do: an operation is done to a graph, if it can be.
-/
namespace Go.Proofs.YthcmgaibbpacfaaGreatDoor
open Go.RowKit StampMath GraphMath OpMath PackMath ExtentMath

/-- A graph's own blocks, and what is made from block b on. -/
def Clear (N : Nat → Prop) (w : World) (b : Nat) : Nat → Prop := fun i => (N i ∧ i < w.heap.size) ∨ b ≤ i

theorem GrAt.clear {N : Nat → Prop} {w W w' : World} {b : Nat} {v : Value} {g : Gr} (hb : b ≤ W.heap.size) (h : GrAt (MoreN (Clear N w b) W) w' v g) : GrAt (Clear N w b) w' v g :=
  h.keep (fun _ _ => rfl) (Nat.le_refl _) fun _ hi => hi.elim id fun q => .inr (Nat.le_trans hb q)

theorem GrAt.clear_step {N : Nat → Prop} {w W w' : World} {b : Nat} {v : Value} {g : Gr} (h : GrAt (Clear N w b) W v g) (hb : Below W.heap.size W w') : GrAt (Clear N w b) w' v g := h.step hb

/-- The answer is laid into its box. -/
theorem clear_end {N : Nat → Prop} {w W : World} {b res : Nat} {v : Value} {g : Gr} (h : GrAt (Clear N w b) W v g) (hB : Below w.heap.size w W) (h1 : w.heap.size ≤ res) (h2 : res < b) (x y : Value) :
    GrAt (MoreN N w) ((W.setCell ⟨res, 0, none⟩ x).setCell ⟨res, 1, none⟩ y) v g ∧ Below w.heap.size w ((W.setCell ⟨res, 0, none⟩ x).setCell ⟨res, 1, none⟩ y) := by
  refine ⟨h.keep (fun i hi => ?_) (by simp) (fun i hi => ?_), (hB.setCell (p := ⟨res, 0, none⟩) h1 _).setCell (p := ⟨res, 1, none⟩) h1 _⟩
  · have hne : i ≠ res := by
      rcases hi with hi | hi
      · have := hi.2; omega
      · omega
    rw [heap_setCell_other _ _ _ _ hne, heap_setCell_other _ _ _ _ hne]
  · rcases hi with hi | hi
    · exact .inl hi.1
    · exact .inr (by omega)

set_option maxRecDepth 100000 in
set_option maxHeartbeats 1600000 in
theorem refDoBad (N : Nat → Prop) (v : Value) (g : Gr) (o : Opn) (hg : g.ok) (hw : whyA g o ≠ 0) (z1 : o.name.size ≤ 9223372036854775807) (z2 : o.new.size ≤ 9223372036854775807) (z3 : o.data.size ≤ 9223372036854775807) (w : World) (hv : GrAt N w v g) :
    Calls Tryz.prog 15 #[v, .agg (opA o)] w (GrPost N (doA g o) w) := by
  have hdo : doA g o = (g, whyA g o) := by unfold doA; rw [if_neg hw]
  rw [hdo]
  obtain ⟨A, n, c, A', m, d, rfl, hV⟩ := hv.few hg.lenI hg.lenE
  have hH0 : Held w [(w.heap.size + 1 + 1, .cells #[.slice none 0 0, .slice none 0 0] 39), (w.heap.size + 1, .cells (opA o) 26), (w.heap.size, .cells #[.slice A n c, .slice A' m d] 39)]
    (((w.alloc (.cells #[.slice A n c, .slice A' m d] 39)).alloc (.cells (opA o) 26)).alloc (.cells #[.slice none 0 0, .slice none 0 0] 39)) :=
    (((Held.refl w).alloc (.cells #[.slice A n c, .slice A' m d] 39) rfl).alloc (.cells (opA o) 26) (by simp)).alloc (.cells #[.slice none 0 0, .slice none 0 0] 39) (by simp)
  have hv0 := hv.live.step (N' := Clear N w (w.heap.size + 1 + 1 + 1)) hH0.below fun i hi => .inl hi
  have HW : Hid (∀ W : World, Below w.heap.size w W → Calls Tryz.prog 39 #[.agg #[.slice A n c, .slice A' m d], .agg (opA o)] W fun e w' => e = .returned (.int .i64 (whyA g o)) ∧ Below W.heap.size W w') := fun W hW => (hV.step hW).why o z1 z2 z3
  have hz : (whyA g o == 0) = false := beq_eq_false_iff_ne.2 hw
  generalize whyA g o = bad at HW hz hw ⊢
  have H0 := Lib.hid hH0
  have V0 := Lib.hid hv0
  clear hH0 hv0 hv hw hdo hV
  unfold opA at HW H0 V0 ⊢
  unfold GrPost
  go_enter Tryz.func15, Tryz.ntmps15
  go_wp2_with fail
  refine (HW.out _ H0.out.below).mono ?_
  rintro e w1 ⟨rfl, hb1⟩
  have hH1 := H0.out.step hb1
  have hv1 := V0.out.clear_step hb1
  have q2 := clear_end hv1 hH1.below (res := w.heap.size + 1 + 1) (by omega) (by omega) (.slice A n c) (.slice A' m d)
  obtain ⟨r0, r1⟩ := two_cells (g := w.heap.size + 1 + 1) (hH1.at 0 rfl)
  obtain ⟨s0, s1⟩ := two_free (g := w.heap.size + 1 + 1) (hH1.at 0 rfl)
  obtain ⟨g0, g1⟩ := two_cells (g := w.heap.size) (hH1.at 2 rfl)
  have Q2 := Lib.hid q2
  clear hH1 hv1 hb1 H0 V0 HW q2
  go_wp2_with fail
  exact bodyPost_ret (v := .tuple #[.agg #[.slice A n c, .slice A' m d], .int .i64 bad]) (by simp [results, Tryz.results15, go_sem, r0, r1]) rfl ⟨_, rfl, Q2.out⟩

end Go.Proofs.YthcmgaibbpacfaaGreatDoor
