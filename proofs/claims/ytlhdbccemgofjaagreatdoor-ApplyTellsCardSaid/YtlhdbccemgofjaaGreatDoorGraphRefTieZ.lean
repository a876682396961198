/-
  The walks of the document's own Ahead and Tie (graphs).
-/
import Derived.Test.YtlhdbccemgofjaaGreatDoorGraphRefWhyZ
import Derived.Test.YtlhdbccemgofjaaGreatDoorZ00
import Derived.Test.YtlhdbccemgofjaaGreatDoorStampRefLessZ
import Derived.Test.YtlhdbccemgofjaaGreatDoorZ01
namespace Go.Proofs.YtlhdbccemgofjaaGreatDoor
open Go.RowKit StampMath GraphMath OpMath

theorem bytes_less : ∀ (x y : List UInt8), Op.bytesLess x y = decide (x < y)
  | [], [] => by simp [Op.bytesLess]
  | _ :: _, [] => by simp [Op.bytesLess]
  | [], _ :: _ => by simp [Op.bytesLess]
  | a :: x, b :: y => by
    rw [Op.bytesLess, bytes_less x y]
    simp only [List.cons_lt_cons_iff]
    by_cases h1 : a < b <;> by_cases h2 : a = b <;> by_cases h3 : x < y <;> simp [h1, h2, h3]

theorem names_less (a b : ByteArray) : Op.bytesLess a.toList b.toList = decide (a.data.toList < b.data.toList) := by
  rw [bytes_less, ByteArray.toList_eq, ByteArray.toList_eq]

set_option maxRecDepth 100000 in
set_option maxHeartbeats 800000 in
theorem refAhead (a b : Ent) (w : World) :
    Calls Tryz.prog 128 #[.agg (entA a), .agg (entA b)] w fun x w' => x = .returned (.bool (aheadE a b)) ∧ Below w.heap.size w w' := by
  have hb0 : Held w [(w.heap.size + 1, .cells (entA b) 93), (w.heap.size, .cells (entA a) 93)] ((w.alloc (.cells (entA a) 93)).alloc (.cells (entA b) 93)) :=
    ((Held.refl w).alloc (.cells (entA a) 93) rfl).alloc (.cells (entA b) 93) (by simp)
  have hA : aheadE a b = (lessS a.dir b.dir || (decide (a.dir = b.dir) && decide (a.name.data.toList < b.name.data.toList))) := rfl
  have hs := names_less a.name b.name
  obtain ⟨nl, hnl⟩ : ∃ nl, nl = decide (a.name.data.toList < b.name.data.toList) := ⟨_, rfl⟩
  obtain ⟨sl, hsl⟩ : ∃ sl, sl = lessS a.dir b.dir := ⟨_, rfl⟩
  have HL : Hid (∀ W : World, Calls Tryz.prog 83 #[.agg #[.int .i64 a.dir.1, .int .i64 a.dir.2], .agg #[.int .i64 b.dir.1, .int .i64 b.dir.2]] W fun e w' => e = .returned (.bool sl) ∧ Below W.heap.size W w') := fun W => by
    rw [hsl]; exact refLess a.dir.1 a.dir.2 b.dir.1 b.dir.2 W
  rw [← hnl] at hs hA
  rw [← hsl] at hA
  have HA := Lib.hid hA
  clear hA hnl hsl
  unfold entA
  go_enter Tryz.func128, Tryz.ntmps128
  go_upto_region 1 with fail
  change Code.wp _ _ _ _ ((w.alloc (.cells (entA a) 93)).alloc (.cells (entA b) 93))
  generalize (w.alloc (.cells (entA a) 93)).alloc (.cells (entA b) 93) = w0 at hb0 ⊢
  obtain ⟨c0, c1, c2, c3, c4⟩ := ent_cells (g := w.heap.size) (hb0.at 1 rfl)
  obtain ⟨e0, e1, e2, e3, e4⟩ := ent_cells (g := w.heap.size + 1) (hb0.at 0 rfl)
  go_wp2_with fail
  refine (HL.out _).mono ?_
  rintro z w1 ⟨rfl, hb1⟩
  have hH1 := hb0.step hb1
  clear hb0 hb1 c0 c1 c2 c3 c4 e0 e1 e2 e3 e4
  obtain ⟨c0, c1, c2, c3, c4⟩ := ent_cells (g := w.heap.size) (hH1.at 1 rfl)
  obtain ⟨e0, e1, e2, e3, e4⟩ := ent_cells (g := w.heap.size + 1) (hH1.at 0 rfl)
  cases sl
  · by_cases hq : a.dir = b.dir
    · have hv := eqSt_yes hq
      have HQ := Lib.hid hq
      clear hq
      go_wp2_with fail
      go_ret
      exact ⟨by rw [HA.out]; simp [HQ.out], hH1.below⟩
    · have hv := eqSt_no hq
      have HQ := Lib.hid hq
      clear hq
      go_wp2_with fail
      go_ret
      exact ⟨by rw [HA.out]; simp [HQ.out], hH1.below⟩
  · go_wp2_with fail
    go_ret
    exact ⟨by rw [HA.out]; simp, hH1.below⟩

end Go.Proofs.YtlhdbccemgofjaaGreatDoor
