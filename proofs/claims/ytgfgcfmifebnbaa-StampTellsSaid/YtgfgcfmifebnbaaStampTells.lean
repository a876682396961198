/-
  Whether any stamp may be, which of two is first, its bytes, what any string begins with, the next one of any time, and the greater one of two, are the document's: for all stamps, times and replicas, and all strings of 2000 bytes at most; longer ones are let go.
-/
import Derived.Test.YtgfgcfmifebnbaaStampCode2
import Derived.Test.YtgfgcfmifebnbaaStampCodeMax
import Derived.Test.YtgfgcfmifebnbaaStampRefTake
import Derived.Test.YtgfgcfmifebnbaaStampRefMax
import Derived.ProofKit
import Derived.OpenShut
import Derived.Lib.SmallJoins
import Derived.Deep.RegionHeld3
namespace Go.Proofs.Ytgfgcfmifebnbaa.lawStampTells
open Go.RowKit StampMath PackMath

theorem cell_alloc {W : World} {o : Obj} {a : Addr} {v : Value} (h : W.cell? a = some v) : (W.alloc o).cell? a = some v :=
  (World.cell?_alloc_lt W o a (World.block_lt_of_cell? _ _ h)).trans h

theorem kept_call12 {w W W' : World} {a0 a1 a2 a3 a4 a5 a6 a7 a8 a9 a10 a11 : Addr} {v0 v1 v2 v3 v4 v5 v6 v7 v8 v9 v10 v11 : Value} (hb : Below W.heap.size W W') (h : (W.cell? a0 = some v0 ∧ W.cell? a1 = some v1 ∧ W.cell? a2 = some v2 ∧ W.cell? a3 = some v3 ∧ W.cell? a4 = some v4 ∧ W.cell? a5 = some v5 ∧ W.cell? a6 = some v6 ∧ W.cell? a7 = some v7 ∧ W.cell? a8 = some v8 ∧ W.cell? a9 = some v9 ∧ W.cell? a10 = some v10 ∧ W.cell? a11 = some v11) ∧ KeptFrom w W) : (W'.cell? a0 = some v0 ∧ W'.cell? a1 = some v1 ∧ W'.cell? a2 = some v2 ∧ W'.cell? a3 = some v3 ∧ W'.cell? a4 = some v4 ∧ W'.cell? a5 = some v5 ∧ W'.cell? a6 = some v6 ∧ W'.cell? a7 = some v7 ∧ W'.cell? a8 = some v8 ∧ W'.cell? a9 = some v9 ∧ W'.cell? a10 = some v10 ∧ W'.cell? a11 = some v11) ∧ KeptFrom w W' :=
  ⟨⟨cell_later hb h.1.1, cell_later hb h.1.2.1, cell_later hb h.1.2.2.1, cell_later hb h.1.2.2.2.1, cell_later hb h.1.2.2.2.2.1, cell_later hb h.1.2.2.2.2.2.1, cell_later hb h.1.2.2.2.2.2.2.1, cell_later hb h.1.2.2.2.2.2.2.2.1, cell_later hb h.1.2.2.2.2.2.2.2.2.1, cell_later hb h.1.2.2.2.2.2.2.2.2.2.1, cell_later hb h.1.2.2.2.2.2.2.2.2.2.2.1, cell_later hb h.1.2.2.2.2.2.2.2.2.2.2.2⟩, below_step h.2 hb⟩

theorem kept_alloc12 {w W : World} {a0 a1 a2 a3 a4 a5 a6 a7 a8 a9 a10 a11 : Addr} {v0 v1 v2 v3 v4 v5 v6 v7 v8 v9 v10 v11 : Value} (o : Obj) (h : (W.cell? a0 = some v0 ∧ W.cell? a1 = some v1 ∧ W.cell? a2 = some v2 ∧ W.cell? a3 = some v3 ∧ W.cell? a4 = some v4 ∧ W.cell? a5 = some v5 ∧ W.cell? a6 = some v6 ∧ W.cell? a7 = some v7 ∧ W.cell? a8 = some v8 ∧ W.cell? a9 = some v9 ∧ W.cell? a10 = some v10 ∧ W.cell? a11 = some v11) ∧ KeptFrom w W) : ((W.alloc o).cell? a0 = some v0 ∧ (W.alloc o).cell? a1 = some v1 ∧ (W.alloc o).cell? a2 = some v2 ∧ (W.alloc o).cell? a3 = some v3 ∧ (W.alloc o).cell? a4 = some v4 ∧ (W.alloc o).cell? a5 = some v5 ∧ (W.alloc o).cell? a6 = some v6 ∧ (W.alloc o).cell? a7 = some v7 ∧ (W.alloc o).cell? a8 = some v8 ∧ (W.alloc o).cell? a9 = some v9 ∧ (W.alloc o).cell? a10 = some v10 ∧ (W.alloc o).cell? a11 = some v11) ∧ KeptFrom w (W.alloc o) :=
  ⟨⟨cell_alloc h.1.1, cell_alloc h.1.2.1, cell_alloc h.1.2.2.1, cell_alloc h.1.2.2.2.1, cell_alloc h.1.2.2.2.2.1, cell_alloc h.1.2.2.2.2.2.1, cell_alloc h.1.2.2.2.2.2.2.1, cell_alloc h.1.2.2.2.2.2.2.2.1, cell_alloc h.1.2.2.2.2.2.2.2.2.1, cell_alloc h.1.2.2.2.2.2.2.2.2.2.1, cell_alloc h.1.2.2.2.2.2.2.2.2.2.2.1, cell_alloc h.1.2.2.2.2.2.2.2.2.2.2.2⟩, (kept_below h.2).alloc (kept_below h.2).size o⟩
theorem kept_end {w W : World} {a0 a1 a2 a3 a4 a5 a6 a7 a8 a9 a10 a11 : Addr} {v0 v1 v2 v3 v4 v5 v6 v7 v8 v9 v10 v11 : Value} (h : (W.cell? a0 = some v0 ∧ W.cell? a1 = some v1 ∧ W.cell? a2 = some v2 ∧ W.cell? a3 = some v3 ∧ W.cell? a4 = some v4 ∧ W.cell? a5 = some v5 ∧ W.cell? a6 = some v6 ∧ W.cell? a7 = some v7 ∧ W.cell? a8 = some v8 ∧ W.cell? a9 = some v9 ∧ W.cell? a10 = some v10 ∧ W.cell? a11 = some v11) ∧ KeptFrom w W) : Below w.heap.size w W := h.2

theorem kept_drew {w W : World} (h : KeptFrom w W) : KeptFrom w W.drew := (kept_below h).drew

/-- The slice of both stamps lies in block g. -/
def SliceAt (t r t' r' : Int) (W : World) (g : Nat) : Prop := g < W.heap.size ∧ W.cell? ⟨g, 0, none⟩ = some (.int .i64 t) ∧ W.cell? ⟨g, 1, none⟩ = some (.int .i64 r) ∧ W.cell? ⟨g, 2, none⟩ = some (.int .i64 t') ∧ W.cell? ⟨g, 3, none⟩ = some (.int .i64 r')

theorem sa_new {t r t' r' : Int} {T : TypeId} (w : World) : SliceAt t r t' r' (w.alloc (.cells #[.int .i64 t, .int .i64 r, .int .i64 t', .int .i64 r'] T)) w.heap.size :=
  ⟨heap_lt (heap_alloc_new w _), cell_of_row _ _ 0 _ _ (0, 0) (heap_alloc_new w _), cell_of_row _ _ 1 _ _ (0, 0) (heap_alloc_new w _), cell_of_row _ _ 2 _ _ (0, 0) (heap_alloc_new w _), cell_of_row _ _ 3 _ _ (0, 0) (heap_alloc_new w _)⟩

theorem sa_new2 {t r t' r' : Int} {T : TypeId} (w : World) (o : Obj) : SliceAt t r t' r' ((w.alloc o).alloc (.cells #[.int .i64 t, .int .i64 r, .int .i64 t', .int .i64 r'] T)) (w.heap.size + 1) := by
  have h := sa_new (t := t) (r := r) (t' := t') (r' := r') (T := T) (w.alloc o)
  have e : (w.alloc o).heap.size = w.heap.size + 1 := by simp
  rwa [e] at h

theorem sa_drew {t r t' r' : Int} {W : World} {g : Nat} (h : SliceAt t r t' r' W g) : SliceAt t r t' r' W.drew g := h

theorem sa_alloc {t r t' r' : Int} {W : World} {g : Nat} (o : Obj) (h : SliceAt t r t' r' W g) : SliceAt t r t' r' (W.alloc o) g :=
  ⟨by have := h.1; simp; omega, cell_alloc h.2.1, cell_alloc h.2.2.1, cell_alloc h.2.2.2.1, cell_alloc h.2.2.2.2⟩

theorem sa_later {t r t' r' : Int} {W W' : World} {g : Nat} (hb : Below W.heap.size W W') (h : SliceAt t r t' r' W g) : SliceAt t r t' r' W' g :=
  ⟨Nat.lt_of_lt_of_le h.1 hb.size, cell_later hb h.2.1, cell_later hb h.2.2.1, cell_later hb h.2.2.2.1, cell_later hb h.2.2.2.2⟩

/-- Two functions that answer the same. -/
def Both (f g : Nat) (args : Array Value) (v : Value) : Prop :=
  (∀ W : World, Calls Try.prog f args W fun e w' => e = .returned v ∧ Below W.heap.size W w') ∧ (∀ W : World, Calls Try.prog g args W fun e w' => e = .returned v ∧ Below W.heap.size W w')

set_option maxRecDepth 100000 in
set_option maxHeartbeats 3200000 in
theorem core (H : StampHave) (t r t' r' : Int) (s : ByteArray) (time rep : Int) (hs : s.size ≤ 2000) (w : World)
    (x0 x1 : Int) (rest : ByteArray) (e1 : Int) (he1 : 0 ≤ e1 ∧ e1 ≤ 2) (n0 n1 e2 : Int) (he2 : 0 ≤ e2 ∧ e2 ≤ 14) (m : Bool) (c : Int) (P : ByteArray) (g0 g1 : Int)
    (HT : Both 10 11 #[.string s] (.tuple #[.agg #[.int .i64 x0, .int .i64 x1], .string rest, .int .i64 e1]))
    (HN : Both 12 13 #[.int .i64 time, .int .i64 rep] (.tuple #[.agg #[.int .i64 n0, .int .i64 n1], .int .i64 e2]))
    (HM : Both 14 15 #[.agg #[.int .i64 t, .int .i64 r]] (.bool m))
    (HC : Both 16 17 #[.agg #[.int .i64 t, .int .i64 r], .agg #[.int .i64 t', .int .i64 r']] (.int .i64 c))
    (HP : Both 18 19 #[.agg #[.int .i64 t, .int .i64 r]] (.string P))
    (HX : ∀ (W : World) (g : Nat), SliceAt t r t' r' W g →
      (Calls Try.prog 20 #[.slice (some ⟨g, 0, none⟩) 2 2] W fun e w' => e = .returned (.agg #[.int .i64 g0, .int .i64 g1]) ∧ Below W.heap.size W w') ∧ (Calls Try.prog 21 #[.slice (some ⟨g, 0, none⟩) 2 2] W fun e w' => e = .returned (.agg #[.int .i64 g0, .int .i64 g1]) ∧ Below W.heap.size W w')) :
    Calls Try.prog 3 #[.agg #[.int .i64 t, .int .i64 r], .agg #[.int .i64 t', .int .i64 r'], .string s, .int .i64 time, .int .i64 rep] w fun e w' => e = .returned (.bool true) ∧ Below w.heap.size w w' := by
  obtain ⟨he10, he11⟩ := he1
  obtain ⟨he20, he21⟩ := he2
  have HXX := Lib.hid HX
  clear HX
  have HM1 := Lib.hid HM.1
  have HM2 := Lib.hid HM.2
  have HC1 := Lib.hid HC.1
  have HC2 := Lib.hid HC.2
  have HP1 := Lib.hid HP.1
  have HP2 := Lib.hid HP.2
  go_enter Try.func3, Try.ntmps3
  go_wp2_with fail
  refine (H.shown _).mono ?_
  rintro e w1 ⟨rfl, hb1⟩
  go_wp2_with fail
  refine (HT.1 _).mono ?_
  rintro e w2 ⟨rfl, hb2⟩
  go_wp2_with fail
  refine (HT.2 _).mono ?_
  rintro e w3 ⟨rfl, hb3⟩
  go_wp2_with fail
  refine (HN.1 _).mono ?_
  rintro e w4 ⟨rfl, hb4⟩
  go_wp2_with fail
  refine (HN.2 _).mono ?_
  rintro e w5 ⟨rfl, hb5⟩
  go_wp2_with fail
  have hS0 : ((w5.alloc (.cells #[.int .i64 n0, .int .i64 n1] 23)).drew.cell? ⟨w.heap.size, 0, none⟩ = some (.int .i64 t) ∧ (w5.alloc (.cells #[.int .i64 n0, .int .i64 n1] 23)).drew.cell? ⟨w.heap.size, 1, none⟩ = some (.int .i64 r) ∧ (w5.alloc (.cells #[.int .i64 n0, .int .i64 n1] 23)).drew.cell? ⟨w.heap.size + 1, 0, none⟩ = some (.int .i64 t') ∧ (w5.alloc (.cells #[.int .i64 n0, .int .i64 n1] 23)).drew.cell? ⟨w.heap.size + 1, 1, none⟩ = some (.int .i64 r') ∧ (w5.alloc (.cells #[.int .i64 n0, .int .i64 n1] 23)).drew.cell? ⟨w2.heap.size, 0, none⟩ = some (.int .i64 x0) ∧ (w5.alloc (.cells #[.int .i64 n0, .int .i64 n1] 23)).drew.cell? ⟨w2.heap.size, 1, none⟩ = some (.int .i64 x1) ∧ (w5.alloc (.cells #[.int .i64 n0, .int .i64 n1] 23)).drew.cell? ⟨w3.heap.size, 0, none⟩ = some (.int .i64 x0) ∧ (w5.alloc (.cells #[.int .i64 n0, .int .i64 n1] 23)).drew.cell? ⟨w3.heap.size, 1, none⟩ = some (.int .i64 x1) ∧ (w5.alloc (.cells #[.int .i64 n0, .int .i64 n1] 23)).drew.cell? ⟨w4.heap.size, 0, none⟩ = some (.int .i64 n0) ∧ (w5.alloc (.cells #[.int .i64 n0, .int .i64 n1] 23)).drew.cell? ⟨w4.heap.size, 1, none⟩ = some (.int .i64 n1) ∧ (w5.alloc (.cells #[.int .i64 n0, .int .i64 n1] 23)).drew.cell? ⟨w5.heap.size, 0, none⟩ = some (.int .i64 n0) ∧ (w5.alloc (.cells #[.int .i64 n0, .int .i64 n1] 23)).drew.cell? ⟨w5.heap.size, 1, none⟩ = some (.int .i64 n1)) ∧ KeptFrom w (w5.alloc (.cells #[.int .i64 n0, .int .i64 n1] 23)).drew := by
    have A1 : Below w.heap.size w w1 := below_step (((Below.refl _ _).alloc (Nat.le_refl _) _).alloc (by simp) _) hb1
    have A2 := below_step A1 hb2
    have A3 := below_step (A2.alloc A2.size _) hb3
    have A4 := below_step (A3.alloc A3.size _) hb4
    have A5 := below_step (A4.alloc A4.size _) hb5
    exact ⟨⟨cell_alloc (cell_later hb5 (cell_alloc (cell_later hb4 (cell_alloc (cell_later hb3 (cell_alloc (cell_later hb2 (cell_later hb1 (cell_alloc (cell_of_row _ _ 0 _ _ (0, 0) (heap_alloc_new w _))))))))))), cell_alloc (cell_later hb5 (cell_alloc (cell_later hb4 (cell_alloc (cell_later hb3 (cell_alloc (cell_later hb2 (cell_later hb1 (cell_alloc (cell_of_row _ _ 1 _ _ (0, 0) (heap_alloc_new w _))))))))))), cell_alloc (cell_later hb5 (cell_alloc (cell_later hb4 (cell_alloc (cell_later hb3 (cell_alloc (cell_later hb2 (cell_later hb1 (cell_of_row _ _ 0 _ _ (0, 0) (heap_alloc2_new w _ _)))))))))), cell_alloc (cell_later hb5 (cell_alloc (cell_later hb4 (cell_alloc (cell_later hb3 (cell_alloc (cell_later hb2 (cell_later hb1 (cell_of_row _ _ 1 _ _ (0, 0) (heap_alloc2_new w _ _)))))))))), cell_alloc (cell_later hb5 (cell_alloc (cell_later hb4 (cell_alloc (cell_later hb3 (cell_of_row _ _ 0 _ _ (0, 0) (heap_alloc_new w2 _))))))), cell_alloc (cell_later hb5 (cell_alloc (cell_later hb4 (cell_alloc (cell_later hb3 (cell_of_row _ _ 1 _ _ (0, 0) (heap_alloc_new w2 _))))))), cell_alloc (cell_later hb5 (cell_alloc (cell_later hb4 (cell_of_row _ _ 0 _ _ (0, 0) (heap_alloc_new w3 _))))), cell_alloc (cell_later hb5 (cell_alloc (cell_later hb4 (cell_of_row _ _ 1 _ _ (0, 0) (heap_alloc_new w3 _))))), cell_alloc (cell_later hb5 (cell_of_row _ _ 0 _ _ (0, 0) (heap_alloc_new w4 _))), cell_alloc (cell_later hb5 (cell_of_row _ _ 1 _ _ (0, 0) (heap_alloc_new w4 _))), cell_of_row _ _ 0 _ _ (0, 0) (heap_alloc_new w5 _), cell_of_row _ _ 1 _ _ (0, 0) (heap_alloc_new w5 _)⟩, (A5.alloc A5.size _).drew⟩
  clear hb1 hb2 hb3 hb4 hb5
  go_region_held3 (fun W => (W.cell? ⟨w.heap.size, 0, none⟩ = some (.int .i64 t) ∧ W.cell? ⟨w.heap.size, 1, none⟩ = some (.int .i64 r) ∧ W.cell? ⟨w.heap.size + 1, 0, none⟩ = some (.int .i64 t') ∧ W.cell? ⟨w.heap.size + 1, 1, none⟩ = some (.int .i64 r') ∧ W.cell? ⟨w2.heap.size, 0, none⟩ = some (.int .i64 x0) ∧ W.cell? ⟨w2.heap.size, 1, none⟩ = some (.int .i64 x1) ∧ W.cell? ⟨w3.heap.size, 0, none⟩ = some (.int .i64 x0) ∧ W.cell? ⟨w3.heap.size, 1, none⟩ = some (.int .i64 x1) ∧ W.cell? ⟨w4.heap.size, 0, none⟩ = some (.int .i64 n0) ∧ W.cell? ⟨w4.heap.size, 1, none⟩ = some (.int .i64 n1) ∧ W.cell? ⟨w5.heap.size, 0, none⟩ = some (.int .i64 n0) ∧ W.cell? ⟨w5.heap.size, 1, none⟩ = some (.int .i64 n1)) ∧ KeptFrom w W) (first | assumption | (refine ⟨⟨?_, ?_, ?_, ?_, ?_, ?_, ?_, ?_, ?_, ?_, ?_, ?_⟩, ?_⟩ <;> assumption))
    (first
      | (go_at_call 14; (with_reducible refine (HM1.out _).mono ?_); rintro e w' ⟨rfl, hb⟩; have hS := kept_call12 hb (by assumption))
      | (go_at_call 15; (with_reducible refine (HM2.out _).mono ?_); rintro e w' ⟨rfl, hb⟩; have hS := kept_call12 hb (by assumption))
      | (go_at_call 16; (with_reducible refine (HC1.out _).mono ?_); rintro e w' ⟨rfl, hb⟩; have hS := kept_call12 hb (by assumption))
      | (go_at_call 17; (with_reducible refine (HC2.out _).mono ?_); rintro e w' ⟨rfl, hb⟩; have hS := kept_call12 hb (by assumption))
      | (go_at_call 18; (with_reducible refine (HP1.out _).mono ?_); rintro e w' ⟨rfl, hb⟩; have hS := kept_call12 hb (by assumption))
      | (go_at_call 19; (with_reducible refine (HP2.out _).mono ?_); rintro e w' ⟨rfl, hb⟩; have hS := kept_call12 hb (by assumption)))
  go_wp2_with fail
  have hS2 : (_ ∧ _ ∧ _ ∧ _ ∧ _ ∧ _ ∧ _ ∧ _ ∧ _ ∧ _ ∧ _ ∧ _) ∧ KeptFrom w _ := ‹(_ ∧ _ ∧ _ ∧ _ ∧ _ ∧ _ ∧ _ ∧ _ ∧ _ ∧ _ ∧ _ ∧ _) ∧ KeptFrom w _›
  obtain ⟨⟨l0, l1, l2, l3, l4, l5, l6, l7, l8, l9, l10, l11⟩, hK2⟩ := hS2
  go_region_held3? (fun W => (W.cell? ⟨w.heap.size, 0, none⟩ = some (.int .i64 t) ∧ W.cell? ⟨w.heap.size, 1, none⟩ = some (.int .i64 r) ∧ W.cell? ⟨w.heap.size + 1, 0, none⟩ = some (.int .i64 t') ∧ W.cell? ⟨w.heap.size + 1, 1, none⟩ = some (.int .i64 r') ∧ W.cell? ⟨w2.heap.size, 0, none⟩ = some (.int .i64 x0) ∧ W.cell? ⟨w2.heap.size, 1, none⟩ = some (.int .i64 x1) ∧ W.cell? ⟨w3.heap.size, 0, none⟩ = some (.int .i64 x0) ∧ W.cell? ⟨w3.heap.size, 1, none⟩ = some (.int .i64 x1) ∧ W.cell? ⟨w4.heap.size, 0, none⟩ = some (.int .i64 n0) ∧ W.cell? ⟨w4.heap.size, 1, none⟩ = some (.int .i64 n1) ∧ W.cell? ⟨w5.heap.size, 0, none⟩ = some (.int .i64 n0) ∧ W.cell? ⟨w5.heap.size, 1, none⟩ = some (.int .i64 n1)) ∧ KeptFrom w W) (first | assumption | exact kept_alloc12 _ (by assumption) | (refine ⟨⟨?_, ?_, ?_, ?_, ?_, ?_, ?_, ?_, ?_, ?_, ?_, ?_⟩, ?_⟩ <;> first | assumption | exact kept_drew (by assumption)))
    (first
      | (go_at_call 20; refine (HXX.out _ _ ?_).1.mono ?_; (first | exact sa_new _ | exact sa_new2 _ _ | (refine sa_drew ?_; first | exact sa_new _ | exact sa_new2 _ _ | (refine sa_drew ?_; first | exact sa_new _ | exact sa_new2 _ _ | (refine sa_drew ?_; first | exact sa_new _ | exact sa_new2 _ _ | (refine sa_drew ?_; first | exact sa_new _ | exact sa_new2 _ _) | (refine sa_alloc _ ?_; first | exact sa_new _ | exact sa_new2 _ _) | (refine sa_later (by assumption) ?_; first | exact sa_new _ | exact sa_new2 _ _)) | (refine sa_alloc _ ?_; first | exact sa_new _ | exact sa_new2 _ _ | (refine sa_drew ?_; first | exact sa_new _ | exact sa_new2 _ _) | (refine sa_alloc _ ?_; first | exact sa_new _ | exact sa_new2 _ _) | (refine sa_later (by assumption) ?_; first | exact sa_new _ | exact sa_new2 _ _)) | (refine sa_later (by assumption) ?_; first | exact sa_new _ | exact sa_new2 _ _ | (refine sa_drew ?_; first | exact sa_new _ | exact sa_new2 _ _) | (refine sa_alloc _ ?_; first | exact sa_new _ | exact sa_new2 _ _) | (refine sa_later (by assumption) ?_; first | exact sa_new _ | exact sa_new2 _ _))) | (refine sa_alloc _ ?_; first | exact sa_new _ | exact sa_new2 _ _ | (refine sa_drew ?_; first | exact sa_new _ | exact sa_new2 _ _ | (refine sa_drew ?_; first | exact sa_new _ | exact sa_new2 _ _) | (refine sa_alloc _ ?_; first | exact sa_new _ | exact sa_new2 _ _) | (refine sa_later (by assumption) ?_; first | exact sa_new _ | exact sa_new2 _ _)) | (refine sa_alloc _ ?_; first | exact sa_new _ | exact sa_new2 _ _ | (refine sa_drew ?_; first | exact sa_new _ | exact sa_new2 _ _) | (refine sa_alloc _ ?_; first | exact sa_new _ | exact sa_new2 _ _) | (refine sa_later (by assumption) ?_; first | exact sa_new _ | exact sa_new2 _ _)) | (refine sa_later (by assumption) ?_; first | exact sa_new _ | exact sa_new2 _ _ | (refine sa_drew ?_; first | exact sa_new _ | exact sa_new2 _ _) | (refine sa_alloc _ ?_; first | exact sa_new _ | exact sa_new2 _ _) | (refine sa_later (by assumption) ?_; first | exact sa_new _ | exact sa_new2 _ _))) | (refine sa_later (by assumption) ?_; first | exact sa_new _ | exact sa_new2 _ _ | (refine sa_drew ?_; first | exact sa_new _ | exact sa_new2 _ _ | (refine sa_drew ?_; first | exact sa_new _ | exact sa_new2 _ _) | (refine sa_alloc _ ?_; first | exact sa_new _ | exact sa_new2 _ _) | (refine sa_later (by assumption) ?_; first | exact sa_new _ | exact sa_new2 _ _)) | (refine sa_alloc _ ?_; first | exact sa_new _ | exact sa_new2 _ _ | (refine sa_drew ?_; first | exact sa_new _ | exact sa_new2 _ _) | (refine sa_alloc _ ?_; first | exact sa_new _ | exact sa_new2 _ _) | (refine sa_later (by assumption) ?_; first | exact sa_new _ | exact sa_new2 _ _)) | (refine sa_later (by assumption) ?_; first | exact sa_new _ | exact sa_new2 _ _ | (refine sa_drew ?_; first | exact sa_new _ | exact sa_new2 _ _) | (refine sa_alloc _ ?_; first | exact sa_new _ | exact sa_new2 _ _) | (refine sa_later (by assumption) ?_; first | exact sa_new _ | exact sa_new2 _ _)))) | (refine sa_alloc _ ?_; first | exact sa_new _ | exact sa_new2 _ _ | (refine sa_drew ?_; first | exact sa_new _ | exact sa_new2 _ _ | (refine sa_drew ?_; first | exact sa_new _ | exact sa_new2 _ _ | (refine sa_drew ?_; first | exact sa_new _ | exact sa_new2 _ _) | (refine sa_alloc _ ?_; first | exact sa_new _ | exact sa_new2 _ _) | (refine sa_later (by assumption) ?_; first | exact sa_new _ | exact sa_new2 _ _)) | (refine sa_alloc _ ?_; first | exact sa_new _ | exact sa_new2 _ _ | (refine sa_drew ?_; first | exact sa_new _ | exact sa_new2 _ _) | (refine sa_alloc _ ?_; first | exact sa_new _ | exact sa_new2 _ _) | (refine sa_later (by assumption) ?_; first | exact sa_new _ | exact sa_new2 _ _)) | (refine sa_later (by assumption) ?_; first | exact sa_new _ | exact sa_new2 _ _ | (refine sa_drew ?_; first | exact sa_new _ | exact sa_new2 _ _) | (refine sa_alloc _ ?_; first | exact sa_new _ | exact sa_new2 _ _) | (refine sa_later (by assumption) ?_; first | exact sa_new _ | exact sa_new2 _ _))) | (refine sa_alloc _ ?_; first | exact sa_new _ | exact sa_new2 _ _ | (refine sa_drew ?_; first | exact sa_new _ | exact sa_new2 _ _ | (refine sa_drew ?_; first | exact sa_new _ | exact sa_new2 _ _) | (refine sa_alloc _ ?_; first | exact sa_new _ | exact sa_new2 _ _) | (refine sa_later (by assumption) ?_; first | exact sa_new _ | exact sa_new2 _ _)) | (refine sa_alloc _ ?_; first | exact sa_new _ | exact sa_new2 _ _ | (refine sa_drew ?_; first | exact sa_new _ | exact sa_new2 _ _) | (refine sa_alloc _ ?_; first | exact sa_new _ | exact sa_new2 _ _) | (refine sa_later (by assumption) ?_; first | exact sa_new _ | exact sa_new2 _ _)) | (refine sa_later (by assumption) ?_; first | exact sa_new _ | exact sa_new2 _ _ | (refine sa_drew ?_; first | exact sa_new _ | exact sa_new2 _ _) | (refine sa_alloc _ ?_; first | exact sa_new _ | exact sa_new2 _ _) | (refine sa_later (by assumption) ?_; first | exact sa_new _ | exact sa_new2 _ _))) | (refine sa_later (by assumption) ?_; first | exact sa_new _ | exact sa_new2 _ _ | (refine sa_drew ?_; first | exact sa_new _ | exact sa_new2 _ _ | (refine sa_drew ?_; first | exact sa_new _ | exact sa_new2 _ _) | (refine sa_alloc _ ?_; first | exact sa_new _ | exact sa_new2 _ _) | (refine sa_later (by assumption) ?_; first | exact sa_new _ | exact sa_new2 _ _)) | (refine sa_alloc _ ?_; first | exact sa_new _ | exact sa_new2 _ _ | (refine sa_drew ?_; first | exact sa_new _ | exact sa_new2 _ _) | (refine sa_alloc _ ?_; first | exact sa_new _ | exact sa_new2 _ _) | (refine sa_later (by assumption) ?_; first | exact sa_new _ | exact sa_new2 _ _)) | (refine sa_later (by assumption) ?_; first | exact sa_new _ | exact sa_new2 _ _ | (refine sa_drew ?_; first | exact sa_new _ | exact sa_new2 _ _) | (refine sa_alloc _ ?_; first | exact sa_new _ | exact sa_new2 _ _) | (refine sa_later (by assumption) ?_; first | exact sa_new _ | exact sa_new2 _ _)))) | (refine sa_later (by assumption) ?_; first | exact sa_new _ | exact sa_new2 _ _ | (refine sa_drew ?_; first | exact sa_new _ | exact sa_new2 _ _ | (refine sa_drew ?_; first | exact sa_new _ | exact sa_new2 _ _ | (refine sa_drew ?_; first | exact sa_new _ | exact sa_new2 _ _) | (refine sa_alloc _ ?_; first | exact sa_new _ | exact sa_new2 _ _) | (refine sa_later (by assumption) ?_; first | exact sa_new _ | exact sa_new2 _ _)) | (refine sa_alloc _ ?_; first | exact sa_new _ | exact sa_new2 _ _ | (refine sa_drew ?_; first | exact sa_new _ | exact sa_new2 _ _) | (refine sa_alloc _ ?_; first | exact sa_new _ | exact sa_new2 _ _) | (refine sa_later (by assumption) ?_; first | exact sa_new _ | exact sa_new2 _ _)) | (refine sa_later (by assumption) ?_; first | exact sa_new _ | exact sa_new2 _ _ | (refine sa_drew ?_; first | exact sa_new _ | exact sa_new2 _ _) | (refine sa_alloc _ ?_; first | exact sa_new _ | exact sa_new2 _ _) | (refine sa_later (by assumption) ?_; first | exact sa_new _ | exact sa_new2 _ _))) | (refine sa_alloc _ ?_; first | exact sa_new _ | exact sa_new2 _ _ | (refine sa_drew ?_; first | exact sa_new _ | exact sa_new2 _ _ | (refine sa_drew ?_; first | exact sa_new _ | exact sa_new2 _ _) | (refine sa_alloc _ ?_; first | exact sa_new _ | exact sa_new2 _ _) | (refine sa_later (by assumption) ?_; first | exact sa_new _ | exact sa_new2 _ _)) | (refine sa_alloc _ ?_; first | exact sa_new _ | exact sa_new2 _ _ | (refine sa_drew ?_; first | exact sa_new _ | exact sa_new2 _ _) | (refine sa_alloc _ ?_; first | exact sa_new _ | exact sa_new2 _ _) | (refine sa_later (by assumption) ?_; first | exact sa_new _ | exact sa_new2 _ _)) | (refine sa_later (by assumption) ?_; first | exact sa_new _ | exact sa_new2 _ _ | (refine sa_drew ?_; first | exact sa_new _ | exact sa_new2 _ _) | (refine sa_alloc _ ?_; first | exact sa_new _ | exact sa_new2 _ _) | (refine sa_later (by assumption) ?_; first | exact sa_new _ | exact sa_new2 _ _))) | (refine sa_later (by assumption) ?_; first | exact sa_new _ | exact sa_new2 _ _ | (refine sa_drew ?_; first | exact sa_new _ | exact sa_new2 _ _ | (refine sa_drew ?_; first | exact sa_new _ | exact sa_new2 _ _) | (refine sa_alloc _ ?_; first | exact sa_new _ | exact sa_new2 _ _) | (refine sa_later (by assumption) ?_; first | exact sa_new _ | exact sa_new2 _ _)) | (refine sa_alloc _ ?_; first | exact sa_new _ | exact sa_new2 _ _ | (refine sa_drew ?_; first | exact sa_new _ | exact sa_new2 _ _) | (refine sa_alloc _ ?_; first | exact sa_new _ | exact sa_new2 _ _) | (refine sa_later (by assumption) ?_; first | exact sa_new _ | exact sa_new2 _ _)) | (refine sa_later (by assumption) ?_; first | exact sa_new _ | exact sa_new2 _ _ | (refine sa_drew ?_; first | exact sa_new _ | exact sa_new2 _ _) | (refine sa_alloc _ ?_; first | exact sa_new _ | exact sa_new2 _ _) | (refine sa_later (by assumption) ?_; first | exact sa_new _ | exact sa_new2 _ _))))); rintro e w' ⟨rfl, hb⟩; have hS := kept_call12 hb (by assumption))
      | (go_at_call 21; refine (HXX.out _ _ ?_).2.mono ?_; (first | exact sa_new _ | exact sa_new2 _ _ | (refine sa_drew ?_; first | exact sa_new _ | exact sa_new2 _ _ | (refine sa_drew ?_; first | exact sa_new _ | exact sa_new2 _ _ | (refine sa_drew ?_; first | exact sa_new _ | exact sa_new2 _ _ | (refine sa_drew ?_; first | exact sa_new _ | exact sa_new2 _ _) | (refine sa_alloc _ ?_; first | exact sa_new _ | exact sa_new2 _ _) | (refine sa_later (by assumption) ?_; first | exact sa_new _ | exact sa_new2 _ _)) | (refine sa_alloc _ ?_; first | exact sa_new _ | exact sa_new2 _ _ | (refine sa_drew ?_; first | exact sa_new _ | exact sa_new2 _ _) | (refine sa_alloc _ ?_; first | exact sa_new _ | exact sa_new2 _ _) | (refine sa_later (by assumption) ?_; first | exact sa_new _ | exact sa_new2 _ _)) | (refine sa_later (by assumption) ?_; first | exact sa_new _ | exact sa_new2 _ _ | (refine sa_drew ?_; first | exact sa_new _ | exact sa_new2 _ _) | (refine sa_alloc _ ?_; first | exact sa_new _ | exact sa_new2 _ _) | (refine sa_later (by assumption) ?_; first | exact sa_new _ | exact sa_new2 _ _))) | (refine sa_alloc _ ?_; first | exact sa_new _ | exact sa_new2 _ _ | (refine sa_drew ?_; first | exact sa_new _ | exact sa_new2 _ _ | (refine sa_drew ?_; first | exact sa_new _ | exact sa_new2 _ _) | (refine sa_alloc _ ?_; first | exact sa_new _ | exact sa_new2 _ _) | (refine sa_later (by assumption) ?_; first | exact sa_new _ | exact sa_new2 _ _)) | (refine sa_alloc _ ?_; first | exact sa_new _ | exact sa_new2 _ _ | (refine sa_drew ?_; first | exact sa_new _ | exact sa_new2 _ _) | (refine sa_alloc _ ?_; first | exact sa_new _ | exact sa_new2 _ _) | (refine sa_later (by assumption) ?_; first | exact sa_new _ | exact sa_new2 _ _)) | (refine sa_later (by assumption) ?_; first | exact sa_new _ | exact sa_new2 _ _ | (refine sa_drew ?_; first | exact sa_new _ | exact sa_new2 _ _) | (refine sa_alloc _ ?_; first | exact sa_new _ | exact sa_new2 _ _) | (refine sa_later (by assumption) ?_; first | exact sa_new _ | exact sa_new2 _ _))) | (refine sa_later (by assumption) ?_; first | exact sa_new _ | exact sa_new2 _ _ | (refine sa_drew ?_; first | exact sa_new _ | exact sa_new2 _ _ | (refine sa_drew ?_; first | exact sa_new _ | exact sa_new2 _ _) | (refine sa_alloc _ ?_; first | exact sa_new _ | exact sa_new2 _ _) | (refine sa_later (by assumption) ?_; first | exact sa_new _ | exact sa_new2 _ _)) | (refine sa_alloc _ ?_; first | exact sa_new _ | exact sa_new2 _ _ | (refine sa_drew ?_; first | exact sa_new _ | exact sa_new2 _ _) | (refine sa_alloc _ ?_; first | exact sa_new _ | exact sa_new2 _ _) | (refine sa_later (by assumption) ?_; first | exact sa_new _ | exact sa_new2 _ _)) | (refine sa_later (by assumption) ?_; first | exact sa_new _ | exact sa_new2 _ _ | (refine sa_drew ?_; first | exact sa_new _ | exact sa_new2 _ _) | (refine sa_alloc _ ?_; first | exact sa_new _ | exact sa_new2 _ _) | (refine sa_later (by assumption) ?_; first | exact sa_new _ | exact sa_new2 _ _)))) | (refine sa_alloc _ ?_; first | exact sa_new _ | exact sa_new2 _ _ | (refine sa_drew ?_; first | exact sa_new _ | exact sa_new2 _ _ | (refine sa_drew ?_; first | exact sa_new _ | exact sa_new2 _ _ | (refine sa_drew ?_; first | exact sa_new _ | exact sa_new2 _ _) | (refine sa_alloc _ ?_; first | exact sa_new _ | exact sa_new2 _ _) | (refine sa_later (by assumption) ?_; first | exact sa_new _ | exact sa_new2 _ _)) | (refine sa_alloc _ ?_; first | exact sa_new _ | exact sa_new2 _ _ | (refine sa_drew ?_; first | exact sa_new _ | exact sa_new2 _ _) | (refine sa_alloc _ ?_; first | exact sa_new _ | exact sa_new2 _ _) | (refine sa_later (by assumption) ?_; first | exact sa_new _ | exact sa_new2 _ _)) | (refine sa_later (by assumption) ?_; first | exact sa_new _ | exact sa_new2 _ _ | (refine sa_drew ?_; first | exact sa_new _ | exact sa_new2 _ _) | (refine sa_alloc _ ?_; first | exact sa_new _ | exact sa_new2 _ _) | (refine sa_later (by assumption) ?_; first | exact sa_new _ | exact sa_new2 _ _))) | (refine sa_alloc _ ?_; first | exact sa_new _ | exact sa_new2 _ _ | (refine sa_drew ?_; first | exact sa_new _ | exact sa_new2 _ _ | (refine sa_drew ?_; first | exact sa_new _ | exact sa_new2 _ _) | (refine sa_alloc _ ?_; first | exact sa_new _ | exact sa_new2 _ _) | (refine sa_later (by assumption) ?_; first | exact sa_new _ | exact sa_new2 _ _)) | (refine sa_alloc _ ?_; first | exact sa_new _ | exact sa_new2 _ _ | (refine sa_drew ?_; first | exact sa_new _ | exact sa_new2 _ _) | (refine sa_alloc _ ?_; first | exact sa_new _ | exact sa_new2 _ _) | (refine sa_later (by assumption) ?_; first | exact sa_new _ | exact sa_new2 _ _)) | (refine sa_later (by assumption) ?_; first | exact sa_new _ | exact sa_new2 _ _ | (refine sa_drew ?_; first | exact sa_new _ | exact sa_new2 _ _) | (refine sa_alloc _ ?_; first | exact sa_new _ | exact sa_new2 _ _) | (refine sa_later (by assumption) ?_; first | exact sa_new _ | exact sa_new2 _ _))) | (refine sa_later (by assumption) ?_; first | exact sa_new _ | exact sa_new2 _ _ | (refine sa_drew ?_; first | exact sa_new _ | exact sa_new2 _ _ | (refine sa_drew ?_; first | exact sa_new _ | exact sa_new2 _ _) | (refine sa_alloc _ ?_; first | exact sa_new _ | exact sa_new2 _ _) | (refine sa_later (by assumption) ?_; first | exact sa_new _ | exact sa_new2 _ _)) | (refine sa_alloc _ ?_; first | exact sa_new _ | exact sa_new2 _ _ | (refine sa_drew ?_; first | exact sa_new _ | exact sa_new2 _ _) | (refine sa_alloc _ ?_; first | exact sa_new _ | exact sa_new2 _ _) | (refine sa_later (by assumption) ?_; first | exact sa_new _ | exact sa_new2 _ _)) | (refine sa_later (by assumption) ?_; first | exact sa_new _ | exact sa_new2 _ _ | (refine sa_drew ?_; first | exact sa_new _ | exact sa_new2 _ _) | (refine sa_alloc _ ?_; first | exact sa_new _ | exact sa_new2 _ _) | (refine sa_later (by assumption) ?_; first | exact sa_new _ | exact sa_new2 _ _)))) | (refine sa_later (by assumption) ?_; first | exact sa_new _ | exact sa_new2 _ _ | (refine sa_drew ?_; first | exact sa_new _ | exact sa_new2 _ _ | (refine sa_drew ?_; first | exact sa_new _ | exact sa_new2 _ _ | (refine sa_drew ?_; first | exact sa_new _ | exact sa_new2 _ _) | (refine sa_alloc _ ?_; first | exact sa_new _ | exact sa_new2 _ _) | (refine sa_later (by assumption) ?_; first | exact sa_new _ | exact sa_new2 _ _)) | (refine sa_alloc _ ?_; first | exact sa_new _ | exact sa_new2 _ _ | (refine sa_drew ?_; first | exact sa_new _ | exact sa_new2 _ _) | (refine sa_alloc _ ?_; first | exact sa_new _ | exact sa_new2 _ _) | (refine sa_later (by assumption) ?_; first | exact sa_new _ | exact sa_new2 _ _)) | (refine sa_later (by assumption) ?_; first | exact sa_new _ | exact sa_new2 _ _ | (refine sa_drew ?_; first | exact sa_new _ | exact sa_new2 _ _) | (refine sa_alloc _ ?_; first | exact sa_new _ | exact sa_new2 _ _) | (refine sa_later (by assumption) ?_; first | exact sa_new _ | exact sa_new2 _ _))) | (refine sa_alloc _ ?_; first | exact sa_new _ | exact sa_new2 _ _ | (refine sa_drew ?_; first | exact sa_new _ | exact sa_new2 _ _ | (refine sa_drew ?_; first | exact sa_new _ | exact sa_new2 _ _) | (refine sa_alloc _ ?_; first | exact sa_new _ | exact sa_new2 _ _) | (refine sa_later (by assumption) ?_; first | exact sa_new _ | exact sa_new2 _ _)) | (refine sa_alloc _ ?_; first | exact sa_new _ | exact sa_new2 _ _ | (refine sa_drew ?_; first | exact sa_new _ | exact sa_new2 _ _) | (refine sa_alloc _ ?_; first | exact sa_new _ | exact sa_new2 _ _) | (refine sa_later (by assumption) ?_; first | exact sa_new _ | exact sa_new2 _ _)) | (refine sa_later (by assumption) ?_; first | exact sa_new _ | exact sa_new2 _ _ | (refine sa_drew ?_; first | exact sa_new _ | exact sa_new2 _ _) | (refine sa_alloc _ ?_; first | exact sa_new _ | exact sa_new2 _ _) | (refine sa_later (by assumption) ?_; first | exact sa_new _ | exact sa_new2 _ _))) | (refine sa_later (by assumption) ?_; first | exact sa_new _ | exact sa_new2 _ _ | (refine sa_drew ?_; first | exact sa_new _ | exact sa_new2 _ _ | (refine sa_drew ?_; first | exact sa_new _ | exact sa_new2 _ _) | (refine sa_alloc _ ?_; first | exact sa_new _ | exact sa_new2 _ _) | (refine sa_later (by assumption) ?_; first | exact sa_new _ | exact sa_new2 _ _)) | (refine sa_alloc _ ?_; first | exact sa_new _ | exact sa_new2 _ _ | (refine sa_drew ?_; first | exact sa_new _ | exact sa_new2 _ _) | (refine sa_alloc _ ?_; first | exact sa_new _ | exact sa_new2 _ _) | (refine sa_later (by assumption) ?_; first | exact sa_new _ | exact sa_new2 _ _)) | (refine sa_later (by assumption) ?_; first | exact sa_new _ | exact sa_new2 _ _ | (refine sa_drew ?_; first | exact sa_new _ | exact sa_new2 _ _) | (refine sa_alloc _ ?_; first | exact sa_new _ | exact sa_new2 _ _) | (refine sa_later (by assumption) ?_; first | exact sa_new _ | exact sa_new2 _ _))))); rintro e w' ⟨rfl, hb⟩; have hS := kept_call12 hb (by assumption)))
  all_goals (go_wp2_with fail; go_ret; exact ⟨rfl, kept_end (by assumption)⟩)

theorem long (H : StampHave) (t r t' r' : Int) (s : ByteArray) (time rep : Int) (h : 2000 < s.size) (hs : s.size ≤ maxLen) (w : World) :
    Calls Try.prog 3 #[.agg #[.int .i64 t, .int .i64 r], .agg #[.int .i64 t', .int .i64 r'], .string s, .int .i64 time, .int .i64 rep] w fun e w' => e = .returned (.bool true) ∧ Below w.heap.size w w' := by
  unfold maxLen at hs
  go_enter Try.func3, Try.ntmps3
  go_wp2_with fail
  refine (H.shown _).mono ?_
  rintro e w1 ⟨rfl, hb1⟩
  go_wp2_with fail
  go_ret
  exact ⟨rfl, below_step (((Below.refl _ _).alloc (Nat.le_refl _) _).alloc (by simp) _) hb1⟩

theorem pairs_of {t r t' r' : Int} {W : World} {g : Nat} (h : SliceAt t r t' r' W g) : PairsIn W W.heap.size (some ⟨g, 0, none⟩) 2 [(t, r), (t', r')] :=
  ⟨rfl, fun _ => ⟨g, 0, rfl, h.1, fun j hj => by
    have hj2 : j = 0 ∨ j = 1 := by simp at hj; omega
    rcases hj2 with rfl | rfl
    · exact ⟨h.2.1, h.2.2.1⟩
    · exact ⟨h.2.2.2.1, h.2.2.2.2⟩⟩⟩

theorem short (t r t' r' : Int) (ht : IsI64 t) (hr : IsI64 r) (s : ByteArray) (time rep : Int) (hs : s.size ≤ 2000) (w : World) :
    Calls Try.prog 3 #[.agg #[.int .i64 t, .int .i64 r], .agg #[.int .i64 t', .int .i64 r'], .string s, .int .i64 time, .int .i64 rep] w fun e w' => e = .returned (.bool true) ∧ Below w.heap.size w w' := by
  obtain ⟨x0, x1, rest, e1, he1, hT⟩ : ∃ (x0 x1 : Int) (rest : ByteArray) (e1 : Int), (0 ≤ e1 ∧ e1 ≤ 2) ∧ stampRes (stampL s.data.toList) = .tuple #[.agg #[.int .i64 x0, .int .i64 x1], .string rest, .int .i64 e1] := by
    cases stampL s.data.toList with
    | none => exact ⟨0, 0, ⟨#[]⟩, 2, by omega, rfl⟩
    | some x => exact ⟨x.1, x.2.1, ⟨x.2.2.toArray⟩, 0, by omega, rfl⟩
  obtain ⟨n0, n1, e2, he2, hN⟩ : ∃ (n0 n1 e2 : Int), (0 ≤ e2 ∧ e2 ≤ 14) ∧ nextV time rep = .tuple #[.agg #[.int .i64 n0, .int .i64 n1], .int .i64 e2] := by
    unfold nextV
    by_cases h1 : rep < 0 ∨ 7 < rep ∨ time < 0
    · rw [if_pos h1]; exact ⟨0, 0, 1, by omega, rfl⟩
    · rw [if_neg h1]
      by_cases h2 : 1073741824 ≤ time
      · rw [if_pos h2]; exact ⟨0, 0, 14, by omega, rfl⟩
      · rw [if_neg h2]; exact ⟨time + 1, rep, 0, by omega, rfl⟩
  refine core stampHave t r t' r' s time rep hs w x0 x1 rest e1 he1 n0 n1 e2 he2 (mayB t r) (cmp t r t' r') ⟨(putL t r).toArray⟩ (maxL [(t, r), (t', r')]).1 (maxL [(t, r), (t', r')]).2 ⟨?_, ?_⟩ ⟨?_, ?_⟩ ⟨?_, ?_⟩ ⟨?_, ?_⟩ ⟨?_, ?_⟩ ?_
  · intro W; rw [← hT]; exact stampHave.take s W (by omega)
  · intro W; rw [← hT]; exact refStampTake s (by omega) W
  · intro W; rw [← hN]; exact stampHave.next time rep W
  · intro W; rw [← hN]; exact refNext time rep W
  · intro W; exact stampHave.may t r W
  · intro W; exact refMay t r W
  · intro W; exact stampHave.compare t r t' r' W
  · intro W; exact refCompare t r t' r' W
  · intro W; exact stampHave.put t r W ht hr
  · intro W; exact refPut t r ht hr W
  · intro W g h
    exact ⟨stampMaxHave.max _ 2 2 _ W (by omega) (by omega) (by decide) (pairs_of h), refMax _ 2 2 _ (by omega) W (pairs_of h)⟩

theorem walk (a0t a0r a1t a1r : Int) (a2 : ByteArray) (a3 a4 : Int) (w0t : (Lit.int .i64 a0t).wf = true) (w0r : (Lit.int .i64 a0r).wf = true) (_w1t : (Lit.int .i64 a1t).wf = true) (_w1r : (Lit.int .i64 a1r).wf = true) (w2 : a2.size ≤ maxLen)
    (_w3 : (Lit.int .i64 a3).wf = true) (_w4 : (Lit.int .i64 a4).wf = true) (w : World) :
    Calls Try.prog 3 #[.agg #[.int .i64 a0t, .int .i64 a0r], .agg #[.int .i64 a1t, .int .i64 a1r], .string a2, .int .i64 a3, .int .i64 a4] w fun e w' => e = .returned (.bool true) ∧ Below w.heap.size w w' :=
  if h : 2000 < a2.size then long stampHave a0t a0r a1t a1r a2 a3 a4 h w2 w else short a0t a0r a1t a1r (bounds_i64 w0t) (bounds_i64 w0r) a2 a3 a4 (by omega) w
end Go.Proofs.Ytgfgcfmifebnbaa.lawStampTells

namespace Go.Proofs.Ytgfgcfmifebnbaa.lawStampTells
open Go.ChangeShapes Go.WideShapes Go.ChangeAt Go.RowKit
open Go.ChangeMaps (open_string shut_string)

theorem own : ownKnob Try.prog.godebug = none := by kernel_rfl
theorem laidOut : laidOutB Try.prog = true := by kernel_rfl

set_option maxRecDepth 100000 in
theorem lifted (os : Os) (started : os.Started) (H : Type) (enc : TypeId × Value → H) :
    ReturnsInHanded {} Try.checked os 3 .any (Rows.stampTellsSpec.pre6 enc Try.prog Try.f3 Rows.stampTellsRow.domain false) (Rows.stampTellsSpec.post enc Try.prog Try.f3 false true false false) := by
  refine returnsInHanded_of_change (C := Try.checked) own started (by kernel_rfl) Try.func3
    (ChangeSpec.witness6 (enc := enc) (C := Try.checked) false ⟨#[], #[.agg #[.int .i64 0, .int .i64 0], .agg #[.int .i64 0, .int .i64 0], .string ByteArray.empty, .int .i64 0, .int .i64 0], []⟩ 8 (by kernel_rfl) (by kernel_rfl) (by kernel_rfl) (by kernel_rfl)) ?_
  intro W base args ds gs before hval0 hW hcnd _
  have hval : ∀ (j : Nat) t v, Try.f3.params[j]? = some t → args[j]? = some v → Value.okWide Try.prog W .any base t v := hval0
  have hW' := hW
  obtain ⟨p, q, hA0, hV, rfl, hfz, hnd⟩ := hW
  have hA : DataW.TrodAll enc Try.prog W 0 (fun _ => true) true Try.f3.params.toList args.toList ds p := hA0
  rw [Try.params3] at hA hval
  obtain ⟨v0, vs0, d0, ds0, p0, q0, hargs, rfl, rfl, h0, r0⟩ := trodAll_cons hA
  obtain ⟨v1, vs1, d1, ds1, p1, q1, rfl, rfl, rfl, h1, r1⟩ := trodAll_cons r0
  obtain ⟨v2, vs2, d2, ds2, p2, q2, rfl, rfl, rfl, h2, r2⟩ := trodAll_cons r1
  obtain ⟨v3, vs3, d3, ds3, p3, q3, rfl, rfl, rfl, h3, r3⟩ := trodAll_cons r2
  obtain ⟨v4, vs4, d4, ds4, p4, q4, rfl, rfl, rfl, h4, r4⟩ := trodAll_cons r3
  obtain ⟨rfl, rfl, rfl⟩ := trodAll_nil r4
  obtain rfl : args = #[v0, v1, v2, v3, v4] := by cases args; simp_all
  obtain ⟨rfl, rfl⟩ := trodVars_none hV
  have k0 := h0
  have lt0 : ∀ x ∈ p0, x.block < W.heap.size := by obtain ⟨m, hm⟩ := k0; exact DataW.trod_lt m _ _ _ hm
  obtain ⟨c0, e0, y0, z0, m0, rfl, hd0, hp0, hy0, hz0⟩ := Joins.open_agg2 Try.underlying23 (by kernel_rfl) (by kernel_rfl) (hval 0 23 v0 rfl rfl) h0
  obtain ⟨a0t, ea0, rfl, w0t⟩ := DataW.trod_int Try.underlying2 hy0
  obtain ⟨a0r, eb0, rfl, w0r⟩ := DataW.trod_int Try.underlying3 hz0
  simp at ea0 eb0
  subst ea0 eb0
  have k1 := h1
  have lt1 : ∀ x ∈ p1, x.block < W.heap.size := by obtain ⟨m, hm⟩ := k1; exact DataW.trod_lt m _ _ _ hm
  obtain ⟨c1, e1, y1, z1, m1, rfl, hd1, hp1, hy1, hz1⟩ := Joins.open_agg2 Try.underlying23 (by kernel_rfl) (by kernel_rfl) (hval 1 23 v1 rfl rfl) h1
  obtain ⟨a1t, ea1, rfl, w1t⟩ := DataW.trod_int Try.underlying2 hy1
  obtain ⟨a1r, eb1, rfl, w1r⟩ := DataW.trod_int Try.underlying3 hz1
  simp at ea1 eb1
  subst ea1 eb1
  obtain ⟨a2, rfl, rfl, rfl, w2⟩ := open_string Try.underlying9 (hval 2 9 v2 rfl rfl) h2
  obtain ⟨a3, rfl, rfl, rfl, w3⟩ := open_int Try.underlying2 (hval 3 2 v3 rfl rfl) h3
  obtain ⟨a4, rfl, rfl, rfl, w4⟩ := open_int Try.underlying3 (hval 4 3 v4 rfl rfl) h4
  clear hA0 hval0
  simp only [List.append_nil] at hW'
  refine (walk a0t a0r a1t a1r a2 a3 a4 w0t w0r w1t w1r w2 w3 w4 W).mono fun e W' ⟨he, hb⟩ => ?_
  subst he
  exact ⟨_, rfl, _, _, _, [], _, [], hW', trodAll_mk1 (shut_bool Try.underlying4 _), (trodAll_cons_mk (Below.trod laidOut (by kernel_rfl) (of_decide_eq_true (by kernel_rfl)) k0 hb lt0) (trodAll_cons_mk (Below.trod laidOut (by kernel_rfl) (of_decide_eq_true (by kernel_rfl)) k1 hb lt1) (trodAll_cons_mk (shut_string Try.underlying9 w2) (trodAll_cons_mk (shut_int Try.underlying2 w3) (trodAll_cons_mk (shut_int Try.underlying3 w4) trodAll_mk0))))), rfl, hb.frame _, fun h => by cases h⟩

theorem proved : Rows.StampTellsSaid :=
  OpenClaim.holds_of_wide 3 Try.f3 rfl rfl rfl rfl rfl rfl rfl ⟨rfl, rfl, rfl, rfl, rfl⟩ rfl rfl rfl rfl rfl (by kernel_rfl) Try.func3 (by kernel_rfl)
    (of_decide_eq_true (by kernel_rfl)) (by unfold Func.isWrapper; first | (rw [if_pos (by decide +kernel)]; kernel_rfl) | (rw [if_neg (by decide +kernel)]; exact ⟨rfl, rfl⟩))
    (fun os started H enc _ => lifted os started H enc)
#print axioms proved
end Go.Proofs.Ytgfgcfmifebnbaa.lawStampTells
