/-
  The walk of vector's own Take; the package's contracts together.
-/
import Derived.Test.YtonpafakhbinmaaVecCode3
import Derived.Test.YtonpafakhbinmaaVecHave
import Derived.Test.YtonpafakhbinmaaPackTakeInt
namespace Go.Proofs.Ytonpafakhbinmaa
open Go.RowKit VecMath PackMath

/-- n numbers more are taken, whatever they are. -/
def takeG : Nat → Nat → (Nat → Int) → List UInt8 → Option ((Nat → Int) × List UInt8)
  | 0, _, f, l => some (f, l)
  | n + 1, k, f, l => match takeL l with
    | none => none
    | some (m, t) => takeG n (k + 1) (put f k (unzig m)) t

theorem takeG_none {n k : Nat} {f : Nat → Int} {l : List UInt8} (h : takeL l = none) : takeG (n + 1) k f l = none := by rw [takeG, h]
theorem takeG_some {n k : Nat} {f : Nat → Int} {l t : List UInt8} {m : Nat} (h : takeL l = some (m, t)) : takeG (n + 1) k f l = takeG n (k + 1) (put f k (unzig m)) t := by rw [takeG, h]

theorem takeG_keep (n : Nat) : ∀ (k : Nat) (f g : Nat → Int) (l u : List UInt8), takeG n k f l = some (g, u) → ∀ i, i < k → g i = f i := by
  induction n with
  | zero => intro k f g l u h i _; rw [takeG, Option.some.injEq, Prod.mk.injEq] at h; rw [h.1]
  | succ n ih =>
    intro k f g l u h i hi
    cases ht : takeL l with
    | none => rw [takeG_none ht] at h; cases h
    | some x =>
      obtain ⟨m, t⟩ := x
      rw [takeG_some ht] at h
      rw [ih _ _ _ _ _ h i (by omega)]
      unfold put
      rw [if_neg (by omega)]

theorem takeF_of (n : Nat) : ∀ (k : Nat) (f : Nat → Int) (l : List UInt8), (takeG n k f l = none → takeF n k f l = none) ∧
    (∀ g u, takeG n k f l = some (g, u) → ((∀ i, k ≤ i → i < k + n → 0 ≤ g i ∧ g i ≤ 1073741824) → takeF n k f l = some (g, u)) ∧ ((∃ i, k ≤ i ∧ i < k + n ∧ ¬ (0 ≤ g i ∧ g i ≤ 1073741824)) → takeF n k f l = none)) := by
  induction n with
  | zero =>
    intro k f l
    refine ⟨fun h => (by rw [takeG] at h; cases h), fun g u h => ⟨fun _ => (by rw [takeG] at h; rw [VecMath.takeF]; exact h), fun ⟨i, h1, h2, _⟩ => by omega⟩⟩
  | succ n ih =>
    intro k f l
    cases ht : takeL l with
    | none => exact ⟨fun _ => takeF_none ht, fun g u h => by rw [takeG_none ht] at h; cases h⟩
    | some x =>
      obtain ⟨m, t⟩ := x
      rw [takeG_some ht]
      obtain ⟨i1, i2⟩ := ih (k + 1) (put f k (unzig m)) t
      refine ⟨fun h => ?_, fun g u h => ?_⟩
      · by_cases hm : 0 ≤ unzig m ∧ unzig m ≤ 1073741824
        · rw [takeF_good ht hm]; exact i1 h
        · exact takeF_bad ht hm
      · have hgk : g k = unzig m := by
          rw [takeG_keep _ _ _ _ _ _ h k (by omega)]
          unfold put
          rw [if_pos rfl]
        obtain ⟨i3, i4⟩ := i2 g u h
        refine ⟨fun hb => ?_, fun ⟨i, h1, h2, h3⟩ => ?_⟩
        · have hm := hb k (by omega) (by omega)
          rw [hgk] at hm
          rw [takeF_good ht hm]
          exact i3 fun i h1 h2 => hb i (by omega) (by omega)
        · by_cases hm : 0 ≤ unzig m ∧ unzig m ≤ 1073741824
          · rw [takeF_good ht hm]
            refine i4 ⟨i, ?_, by omega, h3⟩
            by_cases e : i = k
            · subst e; rw [hgk] at h3; exact absurd hm h3
            · omega
          · exact takeF_bad ht hm

theorem vecL_none {l : List UInt8} (h : takeG 8 0 (fun _ => 0) l = none) : vecL l = none := (takeF_of 8 0 _ l).1 h
theorem vecL_some {l u : List UInt8} {g : Nat → Int} (h : takeG 8 0 (fun _ => 0) l = some (g, u)) (hm : mayV g = true) : vecL l = some (g, u) :=
  ((takeF_of 8 0 _ l).2 g u h).1 fun i _ hi => mayV_iff.1 hm i (by omega)
theorem vecL_bad {l u : List UInt8} {g : Nat → Int} (h : takeG 8 0 (fun _ => 0) l = some (g, u)) (hm : mayV g = false) : vecL l = none := by
  refine ((takeF_of 8 0 _ l).2 g u h).2 ?_
  refine Classical.byContradiction fun hn => ?_
  rw [mayV_yes (v := g) fun i hi => Classical.byContradiction fun hb => hn ⟨i, by omega, by omega, hb⟩] at hm
  cases hm

set_option maxRecDepth 100000 in
set_option maxHeartbeats 1600000 in
theorem vecTake_any (s : ByteArray) (w : World) (hs : s.size ≤ 4000) :
    Calls Try.prog 11 #[.string s] w fun e w' => e = .returned (vecRes (vecL s.data.toList)) ∧ Below w.heap.size w w' := by
  have hsz : (Try.prog.info? 24).map (·.size) = some 8 := vv_info
  have HI := Lib.hid hsz
  clear hsz
  go_enter Try.func11, Try.ntmps11
  go_wp2_with fail
  go_loopg [0, 10] 9 (fun gk b i wr => ∃ (k : Nat) (f : Nat → Int) (l : List UInt8), i = .int .i64 (k : Int) ∧ gk + k = 9 ∧ k ≤ 8 ∧ b = .string ⟨l.toArray⟩ ∧ l.length ≤ 4000 ∧ Hid (takeG (8 - k) k f l = takeG 8 0 (fun _ => 0) s.data.toList) ∧
    wr.heap[w.heap.size]? = some (.cells (arr fun _ => 0) 24 (0, 0)) ∧ wr.heap[w.heap.size + 1]? = some (.cells (arr f) 24 (0, 0)) ∧ Below w.heap.size w wr)
  case atStart =>
    refine ⟨0, fun _ => 0, s.data.toList, rfl, by omega, by omega, by rw [Lib.mk_data s], by simpa using hs, rfl, ?_, ?_, ((Below.refl _ _).alloc (Nat.le_refl _) _).alloc (by simp) _⟩
    · exact heap_alloc2_old w _ _
    · exact heap_alloc2_new w _ _
  case round =>
    obtain ⟨k, f, l, rfl, hgk, hk, rfl, hl, hrest, h1, h2, hB⟩ := hrel
    have HG := Lib.hid hgk
    clear hgk
    by_cases hlt : k < 8
    · have hlt2 := heap_lt h2
      cases ht : takeL l with
      | none =>
        have hN : vecL s.data.toList = none := vecL_none (by rw [← hrest.out, show 8 - k = (7 - k) + 1 by omega, takeG_none ht])
        have HN := Lib.hid hN
        have H := Lib.hid ht
        clear ht hN
        go_wp2_with fail
        refine (takeInt_none ⟨l.toArray⟩ (by show l.length ≤ 5000; omega) H.out _).mono ?_
        rintro e w1 ⟨rfl, hb1⟩
        have q1 := (hb1.block w.heap.size (by omega)).trans h1
        have qB := below_step hB hb1
        have cz0 := cell_arr q1 (show 0 < 8 by omega)
        have fz0 : w1.frozen? ⟨w.heap.size, 0, none⟩ = false := frozen_of_row _ _ 0 _ _ q1
        have cz1 := cell_arr q1 (show 1 < 8 by omega)
        have fz1 : w1.frozen? ⟨w.heap.size, 1, none⟩ = false := frozen_of_row _ _ 1 _ _ q1
        have cz2 := cell_arr q1 (show 2 < 8 by omega)
        have fz2 : w1.frozen? ⟨w.heap.size, 2, none⟩ = false := frozen_of_row _ _ 2 _ _ q1
        have cz3 := cell_arr q1 (show 3 < 8 by omega)
        have fz3 : w1.frozen? ⟨w.heap.size, 3, none⟩ = false := frozen_of_row _ _ 3 _ _ q1
        have cz4 := cell_arr q1 (show 4 < 8 by omega)
        have fz4 : w1.frozen? ⟨w.heap.size, 4, none⟩ = false := frozen_of_row _ _ 4 _ _ q1
        have cz5 := cell_arr q1 (show 5 < 8 by omega)
        have fz5 : w1.frozen? ⟨w.heap.size, 5, none⟩ = false := frozen_of_row _ _ 5 _ _ q1
        have cz6 := cell_arr q1 (show 6 < 8 by omega)
        have fz6 : w1.frozen? ⟨w.heap.size, 6, none⟩ = false := frozen_of_row _ _ 6 _ _ q1
        have cz7 := cell_arr q1 (show 7 < 8 by omega)
        have fz7 : w1.frozen? ⟨w.heap.size, 7, none⟩ = false := frozen_of_row _ _ 7 _ _ q1
        clear h1 h2 hB hb1
        go_wp2_with fail
        have hld := run_loadVar_row (P := Try.prog) _ w.heap.size 24 24 (arr fun _ => 0) (0, 0) _ (heap_zero8 q1) Try.underlying24 rfl HI.out
        refine bodyPost_ret (v := vecRes none) ?_ rfl ⟨by rw [HN.out], below_zero8 qB (Nat.le_refl _)⟩
        simp [results, Try.results11, hld, vecRes, asAddr]
      | some x =>
        obtain ⟨m, t⟩ := x
        have htl := takeL_len ht
        have hN : takeG (8 - (k + 1)) (k + 1) (put f k (unzig m)) t = takeG 8 0 (fun _ => 0) s.data.toList := by
          rw [← hrest.out, show 8 - k = (8 - (k + 1)) + 1 by omega, takeG_some ht]
        have H : Hid (∀ W : World, Calls Try.prog 25 #[.string ⟨l.toArray⟩] W fun e w' => e = .returned (.tuple #[.int .i64 (unzig m), .string ⟨t.toArray⟩, .int .i64 0]) ∧ Below W.heap.size W w') :=
          fun W => takeInt_some ⟨l.toArray⟩ (by show l.length ≤ 5000; omega) m t ht W
        obtain ⟨n, hn⟩ : ∃ n, n = unzig m := ⟨_, rfl⟩
        rw [← hn] at hN H
        clear ht hn hrest
        have HN := Lib.hid hN
        clear hN
        go_wp2_with fail
        refine (H.out _).mono ?_
        rintro e w1 ⟨rfl, hb1⟩
        have q1 := (hb1.block w.heap.size (by omega)).trans h1
        have q2 := (hb1.block (w.heap.size + 1) hlt2).trans h2
        have qB := below_step hB hb1
        have c2 := cell_arr q2 hlt
        have f2 : w1.frozen? ⟨w.heap.size + 1, k, none⟩ = false := frozen_of_row _ _ k _ _ q2
        clear h1 h2 hB hb1
        go_wp2_with fail
        go_roundg (gk - 1)
        case measure => have := HG.out; omega
        case rel => exact ⟨k + 1, put f k n, t, by go_num, by have := HG.out; omega, by omega, rfl, by omega, HN, (heap_setCell_other _ _ _ _ (by dsimp only; omega)).trans q1, heap_put q2 hlt n, qB.setCell (by simp) _⟩
    · have hk8 : k = 8 := by omega
      subst hk8
      have hN : takeG 8 0 (fun _ => 0) s.data.toList = some (f, l) := hrest.out.symm
      clear hrest
      have hlt2 := heap_lt h2
      have H2 := Lib.hid h2
      cases hm : mayV f
      · have HN : Hid (vecL s.data.toList = none) := vecL_bad hN hm
        have HM : Hid (∀ W : World, Calls Try.prog 13 #[.agg (arr f)] W fun e w' => e = .returned (.bool false) ∧ Below W.heap.size W w') := fun W => by rw [← hm]; exact vecMay_any f W
        clear hN hm
        go_wp2_with (refine wpList_load_row rfl 24 _ rfl (w.heap.size + 1) rfl 24 (arr f) (0, 0) _ h2 Try.underlying24 rfl HI.out ?_)
        refine (HM.out _).mono ?_
        rintro e w1 ⟨rfl, hb1⟩
        have q1 := (hb1.block w.heap.size (by omega)).trans h1
        have qB := below_step hB hb1
        have cz0 := cell_arr q1 (show 0 < 8 by omega)
        have fz0 : w1.frozen? ⟨w.heap.size, 0, none⟩ = false := frozen_of_row _ _ 0 _ _ q1
        have cz1 := cell_arr q1 (show 1 < 8 by omega)
        have fz1 : w1.frozen? ⟨w.heap.size, 1, none⟩ = false := frozen_of_row _ _ 1 _ _ q1
        have cz2 := cell_arr q1 (show 2 < 8 by omega)
        have fz2 : w1.frozen? ⟨w.heap.size, 2, none⟩ = false := frozen_of_row _ _ 2 _ _ q1
        have cz3 := cell_arr q1 (show 3 < 8 by omega)
        have fz3 : w1.frozen? ⟨w.heap.size, 3, none⟩ = false := frozen_of_row _ _ 3 _ _ q1
        have cz4 := cell_arr q1 (show 4 < 8 by omega)
        have fz4 : w1.frozen? ⟨w.heap.size, 4, none⟩ = false := frozen_of_row _ _ 4 _ _ q1
        have cz5 := cell_arr q1 (show 5 < 8 by omega)
        have fz5 : w1.frozen? ⟨w.heap.size, 5, none⟩ = false := frozen_of_row _ _ 5 _ _ q1
        have cz6 := cell_arr q1 (show 6 < 8 by omega)
        have fz6 : w1.frozen? ⟨w.heap.size, 6, none⟩ = false := frozen_of_row _ _ 6 _ _ q1
        have cz7 := cell_arr q1 (show 7 < 8 by omega)
        have fz7 : w1.frozen? ⟨w.heap.size, 7, none⟩ = false := frozen_of_row _ _ 7 _ _ q1
        clear h1 h2 hB hb1
        go_wp2_with fail
        have hld := run_loadVar_row (P := Try.prog) _ w.heap.size 24 24 (arr fun _ => 0) (0, 0) _ (heap_zero8 q1) Try.underlying24 rfl HI.out
        refine bodyPost_ret (v := vecRes none) ?_ rfl ⟨by rw [HN.out], below_zero8 qB (Nat.le_refl _)⟩
        simp [results, Try.results11, hld, vecRes, asAddr]
      · have HN : Hid (vecL s.data.toList = some (f, l)) := vecL_some hN hm
        have HM : Hid (∀ W : World, Calls Try.prog 13 #[.agg (arr f)] W fun e w' => e = .returned (.bool true) ∧ Below W.heap.size W w') := fun W => by rw [← hm]; exact vecMay_any f W
        clear hN hm
        go_wp2_with (refine wpList_load_row rfl 24 _ rfl (w.heap.size + 1) rfl 24 (arr f) (0, 0) _ h2 Try.underlying24 rfl HI.out ?_)
        refine (HM.out _).mono ?_
        rintro e w1 ⟨rfl, hb1⟩
        have q1 := (hb1.block w.heap.size (by omega)).trans h1
        have q2 := (hb1.block (w.heap.size + 1) hlt2).trans H2.out
        have qB := below_step hB hb1
        clear h1 h2 hB hb1
        have hst : (storeCells ⟨w.heap.size, 0, none⟩ (arr f).toList 0).run Try.prog w1 = .ok () (w1.setRow w.heap.size (arr f)) := by
          have h := run_storeCells_from (P := Try.prog) w.heap.size 24 (arr f).toList 0 (arr fun _ => 0) w1 q1 (by simp [arr_size]) (fun v hv => (Array.all_eq_true_iff_forall_mem.1 (arr_one f)) v (by simpa using hv))
          rw [h]
          congr 2
        go_wp2_with (refine wpList_load_row rfl 24 _ rfl (w.heap.size + 1) rfl 24 (arr f) (0, 0) _ q2 Try.underlying24 rfl HI.out ?_)
        have q3 := setRow_heap w1 w.heap.size (arr fun _ => 0) (arr f) _ _ q1
        have hld := run_loadVar_row (P := Try.prog) (w1.setRow w.heap.size (arr f)) w.heap.size 24 24 (arr f) (0, 0) _ q3 Try.underlying24 rfl HI.out
        refine bodyPost_ret (v := vecRes (some (f, l))) ?_ rfl ⟨by rw [HN.out], below_setRow qB (Nat.le_refl _) _⟩
        simp [results, Try.results11, hld, vecRes, asAddr]

theorem vecHave : VecHave where
  may := vecMay_any
  covers := covers_any
  join := joinV_any
  meet := meetV_any
  tickOut := vecTick_out
  tickIn := vecTick_in
  ready := vecReady_any
  put := vecPut_any
  take := vecTake_any

end Go.Proofs.Ytonpafakhbinmaa
