/-
  What the statements of layer 6 need of the landed frame: the walk of All, and all of it together.
-/
import Derived.Test.YtckobhfomphcpaaFrameCodeAll
import Derived.Test.YtckobhfomphcpaaFrameHave
namespace Go.Proofs.Ytckobhfomphcpaa
open Go.RowKit FrameMath PackMath CrcMath

attribute [local go_sem] Oper.semAt_some

theorem ownsRow_less {W : World} {base base' : Nat} {e : TypeId} {v : Value} {k : Nat} {xs : List Value} (h : W.ownsRow base e 1 v k xs) (hb : base' ≤ base) : W.ownsRow base' e 1 v k xs :=
  ⟨h.1, h.2.imp id fun ⟨g, cap, cur, h1, h2, h3⟩ => ⟨g, cap, cur, h1, Nat.le_trans hb h2, h3⟩⟩

/-- A box below the row's base is as it was behind an append. -/
theorem box_append {W w1 : World} {base B : Nat} {t e : TypeId} {u v : Value} {k : Nat} {xs : List Value} {tmp : Obj} (hb : Boxed W B t u) (hlt : B < base) (hrow : W.ownsRow base e 1 v k xs) (hgrow : (W.alloc tmp).grownBy w1 v.ownBlock) : Boxed w1 B t u :=
  (hb.alloc tmp).kept hgrow fun q => by have := (hrow.lt B q.symm).1; omega

set_option maxRecDepth 100000 in
set_option maxHeartbeats 2000000 in
theorem frameAll_code (s : ByteArray) (hs : s.size ≤ 30000) (w : World) :
    Calls Try.prog 13 #[.string s] w (AllPost (allR s.data.toList).1 ((s.size : Int) - ((allR s.data.toList).2.length : Int)) w) := by
  obtain ⟨i0, hi0, hz0, hz1, hz2⟩ := info_parts str_infos
  have hz : s.data.toList.length = s.size := by simp
  refine (callsIn_wide (n := 5)).1 ?_
  refine callsIn_of_wp_marks Try.func13 rfl trivial ?_ rfl
  simp only [Try.ntmps13, List.size_toArray, List.length_cons, List.length_nil, Nat.reduceAdd, Nat.reduceSub, Array.replicate_succ, Array.replicate_zero, List.push_toArray, List.append_toArray, List.nil_append, List.cons_append]
  gi_wp2_with fail
  refine ⟨trivial, (callsIn_wide.2 (records_code s _)).mono ?_⟩
  rintro e w' ⟨rfl, rfl⟩
  gi_wp2_with fail
  have b1 := ((Boxed.new w 32 (.slice none 0 0)).alloc (.cells #[.int .i64 0] 3)).alloc (.cells #[.string s] 9)
  have b2 := (Boxed.new (w.alloc (.cells #[.slice none 0 0] 32)) 3 (.int .i64 0)).alloc (.cells #[.string s] 9)
  have b3 := Boxed.new ((w.alloc (.cells #[.slice none 0 0] 32)).alloc (.cells #[.int .i64 0] 3)) 9 (.string s)
  have hB0 := (((Below.refl w.heap.size w).alloc (Nat.le_refl _) (.cells #[.slice none 0 0] 32)).alloc (by simp) (.cells #[.int .i64 0] 3)).alloc (by simp; omega) (.cells #[.string s] 9)
  rw [World.size_alloc] at b2
  rw [World.size_alloc, World.size_alloc] at b3
  obtain ⟨W0, hW0⟩ : ∃ W0, ((w.alloc (.cells #[.slice none 0 0] 32)).alloc (.cells #[.int .i64 0] 3)).alloc (.cells #[.string s] 9) = W0 := ⟨_, rfl⟩
  have hsz : W0.heap.size = w.heap.size + 3 := by rw [← hW0]; simp
  rw [hW0] at b1 b2 b3 hB0 ⊢
  clear hW0
  refine wpIn_rangeFunc_ownG rfl (by decide) (gf := 33) (lb := #[.pointer (some ⟨w.heap.size + 1 + 1, 0, none⟩)]) rfl trivial (enters_of Try.func33 (by kernel_rfl) rfl)
    (records_stops (5 - 1) (by decide) (w.heap.size + 1 + 1) s hs W0 b3) (fun h k => Eq.trans k h) (fun W l o o' hl _ _ _ => World.putObj_heap_other (by omega)) (Below.refl _ _) (fun _ => rfl)
    (fun (pre : List (List UInt8 × Int)) W => (∃ v, Boxed W w.heap.size 32 v ∧ W.ownsRow (w.heap.size + 3) 9 1 v pre.length (strV (pre.map (·.1))) ∧ True) ∧ Boxed W (w.heap.size + 1) 3 (.int .i64 (endOf pre)) ∧ Boxed W (w.heap.size + 1 + 1) 9 (.string s) ∧ Below w.heap.size w W)
    (fun _ _ _ => False)
    (OwnFrom.and (Own.from (holdsRow_own (w.heap.size + 3) w.heap.size 32 9 1 (fun pre : List (List UInt8 × Int) => pre.length) (fun pre => strV (pre.map (·.1))) (fun _ _ => True)) _)
      (OwnFrom.and (Own.from (boxed_own _ _ (fun pre => .int .i64 (endOf pre))) _) (OwnFrom.and (Own.from (boxed_own _ _ (fun _ => .string s)) _) (ownFrom_below (Nat.le_refl _) (by omega)))))
    (fun _ _ _ _ _ hs _ _ => hs)
    ⟨⟨_, b1, World.ownsRow_nil _ _ _ _, trivial⟩, b2, b3, hB0⟩
    (fun x => { tmps := #[.string s, undef, .slice none 0 0, .int .i64 0, .pointer (some ⟨w.heap.size, 0, none⟩), .pointer (some ⟨w.heap.size + 1, 0, none⟩), .string ⟨x.1.toArray⟩, .int .i64 x.2, .string s, .func (.func 33) #[] #[.pointer (some ⟨w.heap.size + 1 + 1, 0, none⟩)], .string ⟨x.1.toArray⟩, .int .i64 x.2, undef, undef, undef, undef, undef, undef, undef], defers := [] }) ?assign ?body ?done ?stop
  case assign =>
    intro l x W K hK
    gi_wp2
    exact hK
  case body =>
    rintro l pre x W ⟨⟨v, hv, hrow, _⟩, hn, hsx, hB⟩ hlt
    have hc := hv.cell
    have hsz2 := hB.size
    have hm : pre.length + 1 ≤ maxLen := by unfold maxLen; omega
    have hlow := hsx.lt
    gi_wp2_with (gi_at_builtin; refine wpListIn_append_own _ rfl _ _ 32 rfl (w.heap.size + 3) 9 i0 _ 1 16 Try.underlying32 hi0 hz0 hz1 hz2 rfl (by decide) _ _ _ rfl (hrow.alloc _) ⟨W.heap.size, 0, none⟩ 1 1 (strV [x.1]) rfl rfl (str_there W _ _) (str_one _) hm (by omega) (by simp; omega) ?_; intro v' w1 hown' hgrow _; obtain ⟨g', cap', rfl⟩ := ownsRow_succ hown'; have hv1 := box_append hv (by omega) hrow hgrow; have hc1 := hv1.cell; have hf1 := hv1.frozen; have hn1 := (box_append hn (by omega) hrow hgrow).other (B' := w.heap.size) (by omega) (.slice (some ⟨g', 0, none⟩) (pre.length + 1) cap'); have hcn := hn1.cell; have hfn := hn1.frozen)
    have hg : (W.alloc (.cells #[.string ⟨x.1.toArray⟩] 9)).grownBy w1 v.ownBlock := hgrow
    have hs1 := box_append hsx (by omega) hrow hg
    obtain ⟨_, a2, _, a4, a5⟩ := hv.appended (n₀ := w.heap.size) (by decide) (ownsRow_less hrow (by omega)) hsz2 (Nat.le_refl _) (ownsRow_less hown' (by omega)) hg
    have hs2 := (hs1.other (B' := w.heap.size) (by omega) (.slice (some ⟨g', 0, none⟩) (pre.length + 1) cap')).other (B' := w.heap.size + 1) (by omega) (.int .i64 x.2)
    have hr2 := hown'.kept (grownBy_setCell' w1 w.heap.size (.slice (some ⟨g', 0, none⟩) (pre.length + 1) cap')) (.inr (hv1.not_row (by decide) hown').symm)
    have hr3 := hr2.kept (grownBy_setCell' _ (w.heap.size + 1) (.int .i64 x.2)) (.inr (hn1.not_row (by decide) hr2).symm)
    have e1 : (pre ++ [x]).length = pre.length + 1 := by simp
    have e2 : strV ((pre ++ [x]).map (·.1)) = strV (pre.map (·.1)) ++ strV [x.1] := by simp [strV]
    exact ⟨(a4.trans (KeepsOthers.setCell _ _ _)).from _, Eq.trans hs2 hsx.symm, ⟨_, a2.other (by omega) _, by rw [e1, e2]; exact hr3, trivial⟩, by rw [endOf_snoc]; exact hn1.set _, hs2, (hB.trans a5).setCell (by dsimp only; omega) _⟩
  case done =>
    rintro D ys W hD hS ⟨⟨v, hv, hrow, _⟩, hn, _, hB⟩ hK
    have hc := hv.cell
    have hcn := hn.cell
    gi_wp2_with fail
    gi_quiet (fail)
    gi_wp2_with fail
    refine ⟨by simp, .inl ⟨_, _, rfl, run_takeDeferred hK, ?_⟩⟩
    have hK2 : (W.drewN nq).heap[D]? = some (.deferred (some [])) := hK
    have hrow2 := ownsRow_putObj (show (W.drewN nq).ownsRow (w.heap.size + 3) 9 1 v ys.length (strV (ys.map (·.1))) from hrow) (.deferred none) hK2 rfl
    have hB2 := (below_drewN' hB nq).trans (belowK_b (n₀ := w.heap.size) (w := w) (Nat.le_refl _) (W.drewN nq) D _ (.deferred none) (by omega) hK2 rfl rfl)
    obtain ⟨A, c, rfl, q1, q2, q3⟩ := strs_own hrow2
    have hlen : ys.length = (allR s.data.toList).1.length := by rw [← hS.1, List.length_map]
    rw [hS.1] at q1
    rw [hlen] at q1 q2
    exact ⟨_, results_tmp2 rfl _ _ _, A, c, by rw [← hlen, ← hz, ← hS.2]; rfl, q1, q2, q3, hB2⟩
  case stop =>
    rintro D c pre W _ _ h _
    exact h.elim

theorem frameHave : FrameHave where
  put := fun b w h => framePut_code b (by omega) w
  take := fun s w h => frameTake_code s (by omega) w
  all := fun s w h => frameAll_code s (by omega) w

end Go.Proofs.Ytckobhfomphcpaa
