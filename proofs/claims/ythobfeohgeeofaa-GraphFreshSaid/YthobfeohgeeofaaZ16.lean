/-
  A map of any shape gone through inside a fence (by an iterator's own body).
-/
import Derived.Test.YthobfeohgeeofaaZ13
import Derived.Sort.MapsRangeIn
import Derived.RangeFuncSeq
import Derived.Test.YthobfeohgeeofaaZ15
import Derived.RangeFuncNested
import Derived.RangeFuncBound
import Derived.RangeFuncBox
import Derived.RangeFuncLeaves
import Derived.Shelf.Abstract
import Derived.WalkKit
import Derived.OwnWalkIn
import Derived.TacticsInMore
import Derived.LoopNIn
import Derived.LoopIn
import Derived.Sort.LoopGhostIn
import Derived.Sort.QuietIn
import Derived.Test.YthobfeohgeeofaaZ02
import Derived.Test.YthobfeohgeeofaaZ00
import Derived.Test.YthobfeohgeeofaaRows
import Derived.Test.YthobfeohgeeofaaZ03
import Derived.Maps.Own
import Derived.Maps.OwnOps
import Derived.Deep.Cut
namespace Go.Proofs.Ythobfeohgeeofaa
open Go.RowKit

section
variable {K V : Type} {ek : K → Value} {ev : V → Value} {P : Program} {k e : TypeId}

theorem KRange.walks {w w' : World} {b r : Nat} {L todo : List (K × V)} (h : KRange ek ev w b r L todo) (hk : KeepsWalks w w') : KRange ek ev w' b r L todo := by
  obtain ⟨es, clock, since, seen, c0, M, T, h1, h2, h3, h4, h5, rest⟩ := h
  exact ⟨es, clock, since, seen, c0, M, T, hk.same b _ h1 rfl, h2, h3, h4, hk.same r _ h5 rfl, rest⟩

theorem KRange.iter_walk {w : World} {b r : Nat} {L todo : List (K × V)} (h : KRange ek ev w b r L todo) : ∃ o : Obj, w.heap[r]? = some o ∧ o.isWalk = true := by
  obtain ⟨es, clock, since, seen, c0, M, T, h1, h2, h3, h4, h5, rest⟩ := h
  exact ⟨_, h5, rfl⟩

/-- 'range m'. -/
theorem wpListIn_k_range {F : Fence} {n : Nat} {w : World} {ops : Array Oper} {rest : List Oper} {o : Oper} {a : Act} {Q : Exit → Act → World → Prop} (hg : o.guard = none) (m : Operand) (t : TypeId)
    (hop : o.op = Op.range t m) (ht : P.underlying t = some (.map k e)) (b : Nat) (L : List (K × V)) (hm : a.eval m = .map (some b)) (h : KMap ek ev w b L)
    (hK : ∀ w', Hid (KRange ek ev w' b w.heap.size L L) → Hid (Below w.heap.size w w') → Hid (w'.heap.size = w.heap.size + 1) → wpListIn F n P ops Q rest (a.put o.dst (.pointer (some ⟨w.heap.size, 0, none⟩))) w') : wpListIn F n P ops Q (o :: rest) a w := by
  refine wpListIn_plain hg fun K' hK' => ?_
  obtain ⟨w', hrun, r1, r2, r3⟩ := h.range (P := P) ht
  unfold Oper.wpIn
  refine ⟨by simp [Oper.about, hop], ?_⟩
  rw [Oper.semAt_plain F _ _ (by rw [hop]; intro c hc'; cases hc')]
  simp [execOp, hop, hm, hrun, Result.andThen]
  exact hK' _ _ (hK w' r1 r2 r3)

/-- The step. -/
theorem wpListIn_k_next {F : Fence} {n : Nat} {w : World} {ops : Array Oper} {rest : List Oper} {o : Oper} {a : Act} {Q : Exit → Act → World → Prop} (hg : o.guard = none) (it : Operand) (hop : o.op = Op.next it false)
    (b r : Nat) (L todo : List (K × V)) (hit : a.eval it = .pointer (some ⟨r, 0, none⟩)) (h : KRange ek ev w b r L todo)
    (hDone : todo = [] → wpListIn F n P ops Q rest (a.put o.dst (.tuple #[.bool false])) w)
    (hMore : ∀ (p : K × V) (todo' : List (K × V)) (w' : World), Hid (todo.Perm (p :: todo')) → Hid (KRange ek ev w' b r L todo') → Hid (But (fun i => i = r) w w') → Hid (w'.heap.size = w.heap.size) →
      (Instr.entry (.pointer (some ⟨r, 0, none⟩))).run P w' = .ok (.tuple #[ek p.1, ev p.2]) w' → wpListIn F n P ops Q rest (a.put o.dst (.tuple #[.bool true, ek p.1, ev p.2])) w') :
    wpListIn F n P ops Q (o :: rest) a w := by
  refine wpListIn_plain hg fun K' hK' => ?_
  unfold Oper.wpIn
  refine ⟨by simp [Oper.about, hop], ?_⟩
  rw [Oper.semAt_plain F _ _ (by rw [hop]; intro c hc'; cases hc')]
  rcases h.next (P := P) o.type with ⟨h0, hrun⟩ | ⟨p, todo', w', hp, hrun, hr, hb, hs, hen⟩
  · simp [execOp, hop, hit, hrun, Result.andThen]
    exact hK' _ _ (hDone h0)
  · simp [execOp, hop, hit, hrun, Result.andThen]
    exact hK' _ _ (hMore p todo' w' hp hr hb hs hen)

end
end Go.Proofs.Ythobfeohgeeofaa

/-
  The library's maps.Values and slices.AppendSeq, Collect and SortedFunc as the landed graph calls them: at a map of inodes.
-/
namespace Go.Proofs.Ythobfeohgeeofaa
open Go.RowKit StampMath GraphMath

attribute [local go_sem] Oper.semAt_some

/-- What a round hands on: an inode. -/
abbrev handed (x : Ino) : Array Value := #[.agg (inoA x)]

set_option maxHeartbeats 1000000 in
theorem values_code (b : Nat) (w : World) :
    Calls Try.prog 44 #[.map (some b)] w fun e w' => e = .returned (.func (.func 60) #[] #[.pointer (some ⟨w.heap.size, 0, none⟩)]) ∧ w' = w.alloc (.cells #[.map (some b)] 70) := by
  go_enter Try.func44, Try.ntmps44
  go_wp2_with fail
  go_ret
  exact ⟨rfl, rfl⟩

set_option maxRecDepth 100000 in
set_option maxHeartbeats 2000000 in
theorem values_in (n : Nat) (hn : 1 ≤ n) (l Bm b : Nat) (L : List (St × Ino)) (J Jx : List Ino → World → Prop) (W0 : World) (hJ : AbidesFrom W0.heap.size J)
    (hY : ∀ pre x W, J pre W → pre.length < 1001 → YieldAt Fence.wide (n - 1) Try.prog l (handed x) W fun e W' =>
      (e = .returned (.bool true) ∧ J (pre ++ [x]) W' ∧ KeepsWalks W W') ∨ (e = .returned (.bool false) ∧ Jx (pre ++ [x]) W'))
    (hm : W0.cell? ⟨Bm, 0, none⟩ = some (.map (some b))) (hown : KMap stV inoV W0 b L) (hL : L.length ≤ 1000) (h0 : J [] W0) :
    CallsIn Fence.wide n Try.prog 60 #[.func (.yield l) #[] #[], .pointer (some ⟨Bm, 0, none⟩)] W0 fun e W' => (∃ v, e = .returned v) ∧
      ((∃ ys : List Ino, ys.Perm (L.map Prod.snd) ∧ J ys W') ∨ (∃ pre, True ∧ Jx pre W')) := by
  have HO := Lib.hid hown
  have HJ := Lib.hid hJ
  have HLn := Lib.hid hL
  clear hown hJ hL
  refine callsIn_of_wp Try.func60 rfl trivial ?_ rfl
  simp only [Try.ntmps60, List.size_toArray, List.length_cons, List.length_nil, Nat.reduceAdd, Nat.reduceSub, Array.replicate_succ, Array.replicate_zero, List.push_toArray, List.append_toArray, List.nil_append, List.cons_append]
  gi_wp2_with (gi_at_range; refine wpListIn_k_range (by rfl) _ _ (by rfl) Try.underlying70 b _ (by rfl) HO.out ?_; intro w1 HR1 HB1 HS1)
  go_frame
  gi_loopg [] (L.length + 1) (fun gk wr => ∃ (done todo : List (St × Ino)), gk = todo.length + 1 ∧ Hid (KRange stV inoV wr b W0.heap.size L todo) ∧ Hid ((done ++ todo).Perm L) ∧ Hid (J (done.map Prod.snd) wr))
  case atStart =>
    exact ⟨[], L, rfl, HR1, List.Perm.refl _, HJ.out [] W0 w1 none h0 ⟨HB1.out.os, HB1.out.tape, HB1.out.output, HB1.out.size, fun q hq _ => HB1.out.block q hq⟩ (fun r e => by cases e)⟩
  case round =>
    obtain ⟨done, todo, rfl, hR, hP, hJs⟩ := hrel
    clear HR1 HB1 HS1
    gi_wp2_with (gi_at_next; refine wpListIn_k_next (by rfl) _ (by rfl) b W0.heap.size _ _ (by rfl) hR.out ?_ ?_)
    · intro ht
      gi_wp2_with fail
      go_end0
      refine ⟨⟨_, rfl⟩, .inl ⟨done.map Prod.snd, ?_, hJs.out⟩⟩
      have h5 := hP.out
      rw [ht, List.append_nil] at h5
      exact h5.map _
    · intro t r x todo' w2 hp hR2 hB2 hs2 hen
      have hlen2 := hp.out.length_eq
      simp only [List.length_cons] at hlen2
      have hlen3 : done.length + todo.length = L.length := by have := hP.out.length_eq; rwa [List.length_append] at this
      have hJ2 : J (done.map Prod.snd) w2 := HJ.out _ wr w2 (some W0.heap.size) hJs.out ⟨hB2.out.os, hB2.out.tape, hB2.out.output, hB2.out.size, fun i hi hne => hB2.out.block i hi fun q => hne (by rw [q])⟩ (fun r e => by cases e; exact ⟨Nat.le_refl _, hR.out.iter_walk⟩)
      have hJ3 : J (done.map Prod.snd) (w2.alloc (.cells (inoA x) 42)) := HJ.out _ w2 _ none hJ2 (World.grownBy_alloc w2 _ none) (fun r e => by cases e)
      have hR3 : KRange stV inoV (w2.alloc (.cells (inoA x) 42)) b W0.heap.size L todo' := hR2.out.walks (KeepsWalks.alloc _ _)
      have HP2 : Hid ((done ++ [((t, r), x)] ++ todo').Perm L) := by
        have e1 : (done ++ todo).Perm (done ++ (((t, r), x) :: todo')) := hp.out.append_left _
        show (done ++ [((t, r), x)] ++ todo').Perm _
        rw [List.append_assoc]
        exact e1.symm.trans hP.out
      have HJm : Hid (∀ W, J (done.map Prod.snd ++ [x]) W → J ((done ++ [((t, r), x)]).map Prod.snd) W) := fun W h => by rw [List.map_append]; exact h
      have hy0 := hY (done.map Prod.snd) x (w2.alloc (.cells (inoA x) 42)) hJ3 (by rw [List.length_map]; have := HLn.out; omega)
      have HR3 := Lib.hid hR3
      have hJ3' := Lib.hid hJ3
      obtain ⟨⟨i1, i2⟩, xk, xl, xm, xd⟩ := x
      obtain ⟨fn, tmps, assign, body, hy, hRd⟩ := hy0
      simp only [stV, stA, inoV, inoA, handed] at hen hy ⊢
      have HRd := Lib.hid hRd
      clear hJ2 hJ3 hR3 hRd hR hP hB2 hs2 hR2 hp hJs
      gi_wp2_with fail
      refine HRd.out.mono ?_
      rintro e W3 (⟨rfl, hJ4, hk3⟩ | ⟨rfl, hJx3⟩)
      · have hR4 := HR3.out.walks hk3
        clear hy
        gi_wp2_with fail
        gi_roundg (todo'.length + 1)
        case measure => omega
        case rel => exact ⟨done ++ [((t, r), Ino.mk (i1, i2) xk xl xm xd)], todo', rfl, hR4, HP2.out, HJm.out _ hJ4⟩
      · clear hy
        gi_wp2_with fail
        refine bodyPost_ret (results_none rfl _ _ _) rfl ?_
        exact ⟨⟨_, rfl⟩, .inr ⟨_, trivial, hJx3⟩⟩

theorem values_stops (n : Nat) (hn : 1 ≤ n) (Bm b : Nat) (L : List (St × Ino)) (hL : L.length ≤ 1000) (w : World) (hm : w.heap[Bm]? = some (.cells #[.map (some b)] 70 (0, 0))) (hown : KMap stV inoV w b L) :
    SeqStopsK Fence.wide n Try.prog 60 #[.pointer (some ⟨Bm, 0, none⟩)] handed KeepsWalks (fun ys => ys.Perm (L.map Prod.snd)) (fun _ => True) 1001 w := fun l J Jx W hW hJ _ hY h0 =>
  values_in n hn l Bm b L J Jx W hJ hY (cell_of_row _ _ 0 _ _ (0, 0) ((hW.block Bm (heap_lt hm)).trans hm)) (hown.kept (hW.block b hown.lt)) hL h0

end Go.Proofs.Ythobfeohgeeofaa

/-
  The landed graph's Inodes: slices.SortedFunc over maps.Values.
-/
namespace Go.Proofs.Ythobfeohgeeofaa
open Go.RowKit StampMath GraphMath

set_option maxRecDepth 100000 in
theorem inoClosure_grown (x y : Ino) (w : World) :
    Calls Try.prog 45 #[.agg (inoA x), .agg (inoA y)] w fun e w' => e = .returned (.int .i64 (inoI x y)) ∧ Grown w w' := by
  obtain ⟨⟨xd1, xd2⟩, xk, xl, xm, xd⟩ := x
  obtain ⟨⟨yd1, yd2⟩, yk, yl, ym, yd⟩ := y
  unfold inoA inoI
  obtain ⟨c, hc⟩ : ∃ c, c = cmp xd1 xd2 yd1 yd2 := ⟨_, rfl⟩
  simp only [← hc]
  have HC : Hid (∀ W : World, Calls Try.prog 46 #[.agg #[.int .i64 xd1, .int .i64 xd2], .agg #[.int .i64 yd1, .int .i64 yd2]] W fun e w' => e = .returned (.int .i64 c) ∧ Grown W w') := fun W => by rw [hc]; exact compare_grown _ _ _ _ W
  clear hc
  go_enter Try.func45, Try.ntmps45
  go_wp2_with fail
  refine (HC.out _).mono ?_
  rintro e w1 ⟨rfl, hg1⟩
  go_wp2_with fail
  go_ret
  exact ⟨rfl, (((Grown.refl _).alloc _).alloc _).trans hg1⟩

section
attribute [local go_sem] Oper.semAt_some

/-- A box below the row's base is as it was behind an append. -/
theorem box_appended {W w1 : World} {base B k n : Nat} {t e : TypeId} {u v : Value} {xs : List Value} {tmp : Obj} (hb : Boxed W B t u) (hlt : B < base) (hrow : W.ownsRow base e k v n xs) (hgrow : (W.alloc tmp).grownBy w1 v.ownBlock) : Boxed w1 B t u :=
  (hb.alloc tmp).kept hgrow fun q => by have := (hrow.lt B q.symm).1; omega

/-- What a round of AppendSeq's loop holds: its own inode in a box. -/
def RoundAt (sv : Value) (B : Nat) (x : Ino) (a : Act) (W : World) : Prop :=
  ∃ q, a = { tmps := #[.slice none 0 0, sv, .pointer (some ⟨B, 0, none⟩), undef, .slice none 0 0, .pointer (some ⟨q, 0, none⟩), sv, .agg (inoA x), undef, undef, undef, undef, undef], defers := [] } ∧ W.heap[q]? = some (.cells (inoA x) 42 (0, 0))

theorem round_own (sv : Value) (B B0 : Nat) (x : Ino) (a : Act) : OwnFrom B0 (fun (_ : Unit) W => RoundAt sv B x a W) := by
  rintro _ W W' row ⟨q, ha, hq⟩ hg hr
  refine ⟨q, ha, (hg.block q (heap_lt hq) fun e => ?_).trans hq⟩
  obtain ⟨_, o, ho, hc⟩ := hr q e.symm
  rw [hq] at ho
  cases ho
  cases hc

set_option maxRecDepth 100000 in
set_option maxHeartbeats 2000000 in
theorem appendSeq_code (bm b : Nat) (L : List (St × Ino)) (hL : L.length ≤ 1000) (w : World) (hbm : w.heap[bm]? = some (.cells #[.map (some b)] 70 (0, 0))) (hown : KMap stV inoV w b L) :
    Calls Try.prog 72 #[.slice none 0 0, .func (.func 60) #[] #[.pointer (some ⟨bm, 0, none⟩)]] w fun e w' =>
      ∃ (v : Value) (ys : List Ino), e = .returned v ∧ ys.Perm (L.map Prod.snd) ∧ w'.ownsRow w.heap.size 42 6 v ys.length (flat (ys.map inoA)) ∧ Below w.heap.size w w' := by
  obtain ⟨i0, hi0, hz0, hz1, hz2⟩ := info_parts ino_infos
  refine (callsIn_wide (n := 5)).1 ?_
  refine callsIn_of_wp_marks Try.func72 rfl trivial ?_ rfl
  simp only [Try.ntmps72, List.size_toArray, List.length_cons, List.length_nil, Nat.reduceAdd, Nat.reduceSub, Array.replicate_succ, Array.replicate_zero, List.push_toArray, List.append_toArray, List.nil_append, List.cons_append]
  gi_wp2_with fail
  have b1 := Boxed.new w 30 (.slice none 0 0)
  have hB0 := (Below.refl w.heap.size w).alloc (Nat.le_refl _) (.cells #[.slice none 0 0] 30)
  obtain ⟨W0, hW0⟩ : ∃ W0, w.alloc (.cells #[.slice none 0 0] 30) = W0 := ⟨_, rfl⟩
  have hsz : W0.heap.size = w.heap.size + 1 := by rw [← hW0]; simp
  rw [hW0] at b1 hB0 ⊢
  clear hW0
  refine wpIn_rangeFunc_ownH rfl (by decide) (gf := 60) (lb := #[.pointer (some ⟨bm, 0, none⟩)]) rfl trivial (enters_of Try.func60 (by kernel_rfl) rfl)
    (values_stops (5 - 1) (by decide) bm b L hL W0 ((hB0.block bm (heap_lt hbm)).trans hbm) (hown.kept (hB0.block b hown.lt))) (fun h k => KeepsWalks.trans h k) (fun W l o o' _ hl _ ho => KeepsWalks.putObj o' hl ho) (Below.refl _ _) (fun _ => rfl)
    (fun (pre : List Ino) W => (∃ v, Boxed W w.heap.size 30 v ∧ W.ownsRow (w.heap.size + 1) 42 6 v pre.length (flat (pre.map inoA)) ∧ True) ∧ Below w.heap.size w W)
    (fun _ _ _ => False)
    (OwnFrom.and (Own.from (holdsRow_own (w.heap.size + 1) w.heap.size 30 42 6 (fun pre : List Ino => pre.length) (fun pre => flat (pre.map inoA)) (fun _ _ => True)) _) (ownFrom_below (Nat.le_refl _) (by omega)))
    (fun _ _ _ _ _ hs _ _ => hs)
    ⟨⟨_, b1, World.ownsRow_nil _ _ _ _, trivial⟩, hB0⟩
    (fun x a' W => RoundAt (.func (.func 60) #[] #[.pointer (some ⟨bm, 0, none⟩)]) w.heap.size x a' W) (fun x a' => round_own _ _ _ x a') ?assign ?body ?done ?stop
  case assign =>
    rintro l pre x W K ⟨⟨v, hv, hrow, _⟩, hB⟩ hK
    have hK' := hK { tmps := #[.slice none 0 0, .func (.func 60) #[] #[.pointer (some ⟨bm, 0, none⟩)], .pointer (some ⟨w.heap.size, 0, none⟩), undef, .slice none 0 0, .pointer (some ⟨W.heap.size, 0, none⟩), .func (.func 60) #[] #[.pointer (some ⟨bm, 0, none⟩)], .agg (inoA x), undef, undef, undef, undef, undef], defers := [] } (W.alloc (.cells (inoA x) 42))
      ((KeepsOthers.alloc _ _).from _) (KeepsWalks.alloc _ _) ⟨⟨v, hv.alloc _, hrow.alloc _, trivial⟩, hB.alloc hB.size _⟩ ⟨W.heap.size, rfl, heap_alloc_new _ _⟩
    have HK := Lib.hid hK'
    clear hK hK'
    obtain ⟨⟨i1, i2⟩, xk, xl, xm, xd⟩ := x
    simp only [handed, inoA] at HK ⊢
    gi_wp2_with fail
    exact HK.out
  case body =>
    rintro l pre x a' W hl _ ⟨⟨v, hv, hrow, _⟩, hB⟩ ⟨q, rfl, hq⟩ hlt
    have hc := hv.cell
    have hsz2 := hB.size
    have hm : pre.length + 1 ≤ maxLen := by unfold maxLen; omega
    have hlow := heap_lt hq
    have hlow2 := hv.lt
    have HW := Lib.hid (row_there W 42 (inoA x))
    have HO := Lib.hid (ino_one x)
    obtain ⟨x0, x1, x2, x3, x4, x5⟩ := ino_cells hq
    have HF := Lib.hid (flat_ino pre x)
    obtain ⟨⟨i1, i2⟩, xk, xl, xm, xd⟩ := x
    unfold inoA at HW HO ⊢
    gi_wp2_with (gi_at_builtin; refine wpListIn_append_own _ rfl _ _ 30 rfl (w.heap.size + 1) 42 i0 _ 6 56 Try.underlying30 hi0 hz0 hz1 hz2 rfl (by decide) _ _ _ rfl (hrow.alloc _) ⟨W.heap.size, 0, none⟩ 1 1 (inoA ⟨(i1, i2), xk, xl, xm, xd⟩).toList rfl rfl HW.out HO.out hm (by omega) (by simp; omega) ?_; intro v' w1 hown' hgrow _; obtain ⟨g', cap', rfl⟩ := ownsRow_succ hown'; have hv1 := box_appended hv (by omega) hrow hgrow; have hc1 := hv1.cell; have hf1 := hv1.frozen)
    have hg : (W.alloc (.cells (inoA ⟨(i1, i2), xk, xl, xm, xd⟩) 42)).grownBy w1 v.ownBlock := hgrow
    obtain ⟨_, a2, a3, a4, a5⟩ := hv.appended (n₀ := w.heap.size) (by decide) (own_lower hrow (Nat.le_succ _)) hsz2 (Nat.le_refl _) (own_lower hown' (Nat.le_succ _)) hg
    have hr2 := hown'.kept (grownBy_setCell' w1 w.heap.size (.slice (some ⟨g', 0, none⟩) (pre.length + 1) cap')) (.inr (hv1.not_row (by decide) hown').symm)
    have hr3 : (w1.setCell ⟨w.heap.size, 0, none⟩ (.slice (some ⟨g', 0, none⟩) (pre.length + 1) cap')).ownsRow (w.heap.size + 1) 42 6 (.slice (some ⟨g', 0, none⟩) (pre.length + 1) cap') (pre ++ [Ino.mk (i1, i2) xk xl xm xd]).length (flat ((pre ++ [Ino.mk (i1, i2) xk xl xm xd]).map inoA)) := by
      rw [List.length_append, ← HF.out]
      exact hr2
    exact ⟨a4.from _, a4.walks, ⟨_, a2, hr3⟩, hB.trans a5⟩
  case done =>
    rintro D ys W hD hS ⟨⟨v, hv, hrow, _⟩, hB⟩ hK
    have hc := hv.cell
    gi_wp2_with fail
    refine ⟨by simp, .inl ⟨_, _, rfl, run_takeDeferred hK, ?_⟩⟩
    have hrow2 := ownsRow_putObj hrow (.deferred none) hK rfl
    have hB2 := hB.trans (belowK_b (n₀ := w.heap.size) (w := w) (Nat.le_refl _) W D _ (.deferred none) (by omega) hK rfl rfl)
    exact ⟨_, results_tmp rfl _ _ _, v, ys, rfl, hS, own_lower hrow2 (Nat.le_succ _), hB2⟩
  case stop =>
    rintro D c pre W _ _ h _
    exact h.elim
end

set_option maxRecDepth 100000 in
theorem collect_code (bm b : Nat) (L : List (St × Ino)) (hL : L.length ≤ 1000) (w : World) (hbm : w.heap[bm]? = some (.cells #[.map (some b)] 70 (0, 0))) (hown : KMap stV inoV w b L) :
    Calls Try.prog 58 #[.func (.func 60) #[] #[.pointer (some ⟨bm, 0, none⟩)]] w fun e w' =>
      ∃ (v : Value) (ys : List Ino), e = .returned v ∧ ys.Perm (L.map Prod.snd) ∧ w'.ownsRow w.heap.size 42 6 v ys.length (flat (ys.map inoA)) ∧ Below w.heap.size w w' := by
  have HA := Lib.hid (appendSeq_code bm b L hL w hbm hown)
  clear hown hbm
  go_enter Try.func58, Try.ntmps58
  go_wp2_with fail
  refine HA.out.mono ?_
  rintro e w' ⟨v, ys, rfl, h1, h2, h3⟩
  go_wp2_with fail
  go_ret
  exact ⟨v, ys, rfl, h1, h2, h3⟩

set_option maxRecDepth 100000 in
theorem sortedFunc_code (bm b : Nat) (L : List (St × Ino)) (hL : L.length ≤ 1000) (I : List Ino) (hI : I.Pairwise fun a b => lessS a.id b.id = true) (hp : (L.map Prod.snd).Perm I) (w : World) (hbm : w.heap[bm]? = some (.cells #[.map (some b)] 70 (0, 0))) (hown : KMap stV inoV w b L) :
    Calls Try.prog 43 #[.func (.func 60) #[] #[.pointer (some ⟨bm, 0, none⟩)], .func (.func 45) #[] #[]] w (InosNew I w) := by
  have HA := Lib.hid (collect_code bm b L hL w hbm hown)
  have HI := Lib.hid hI
  have HP := Lib.hid hp
  clear hown hbm hI hp
  go_enter Try.func43, Try.ntmps43
  go_wp2_with fail
  refine HA.out.mono ?_
  rintro e wr ⟨v, ys, rfl, hy, hown, hB⟩
  have h1000 : ys.length < 4611686018427387904 := by
    have := hy.length_eq
    rw [List.length_map] at this
    omega
  have HY := Lib.hid hy
  clear hy
  have hs := sort_own (w := wr) Try.sortIno 6 Try.isAgg42 Try.sizeOf42 inoA (fun _ => rfl) ino_one inoI swo_inos 45 #[] (enters_of Try.func45 (by kernel_rfl) rfl)
    (fun W x y => (inoClosure_grown x y W).mono fun _ _ h => ⟨h.1, h.2.grow⟩) (rfl : ys.length = ys.length) hown h1000
  change Calls Try.prog 59 _ _ _ at hs
  have hrow := hown.lt
  clear hown
  have HS := Lib.hid hs
  clear hs
  go_wp2_with fail
  refine (HS.out).mono ?_
  rintro e w2 ⟨rfl, zs, hz, hsd, hown2, hbut⟩
  have hzs : zs = I := sorted_inos HI.out (hz.trans (HY.out.trans HP.out)) hsd
  have hl : ys.length = I.length := (HY.out.trans HP.out).length_eq
  rw [hzs, hl] at hown2
  clear hz hsd hzs
  go_wp2_with fail
  go_ret
  exact ⟨_, rfl, hown2, hB.trans (hbut.below (fun i hi => (hrow i hi).1) hB.size)⟩

set_option maxRecDepth 100000 in
theorem inodes_code (a : Addr) (S : Nat → Prop) (g : Gr) (w : World) (h : GIn w S a g) (hg : g.ok) :
    Calls Try.prog 25 #[.pointer (some a)] w (InosNew (inodesG g) w) := by
  obtain ⟨b, bi, be, rfl, h1, h2, h3, hb, hi, he, hS⟩ := h
  obtain ⟨c0, c1⟩ := two_cells hb
  have hlt := heap_lt hb
  have hlen : (pairsI g).length ≤ 1000 := by
    unfold pairsI
    rw [List.length_map, hg.inodes, List.length_map]
    exact Nat.le_trans hg.few (by decide)
  have hgE : (inodesG g).Pairwise fun a b => lessS a.id b.id = true := by
    rw [hg.inodes]
    exact List.pairwise_map.2 hg.sortI
  have hp : ((pairsI g).map Prod.snd).Perm (inodesG g) := by
    unfold pairsI
    rw [List.map_map, show Prod.snd ∘ (fun x : Ino => (x.id, x)) = id from rfl, List.map_id]
  have HQ : Hid (∀ W, Below w.heap.size w W → ∀ B, W.heap[B]? = some (.cells #[.map (some bi)] 70 (0, 0)) → Calls Try.prog 43 #[.func (.func 60) #[] #[.pointer (some ⟨B, 0, none⟩)], .func (.func 45) #[] #[]] W (InosNew (inodesG g) W)) :=
    fun W hW B hB => sortedFunc_code B bi (pairsI g) hlen (inodesG g) hgE hp W hB (hi.kept (hW.block bi hi.lt))
  clear hi he hb hS hlen hgE hp hg
  go_enter Try.func25, Try.ntmps25
  go_wp2_with fail
  refine (values_code bi w).mono ?_
  rintro e w' ⟨rfl, rfl⟩
  have hb1 := (Below.refl w.heap.size w).alloc (Nat.le_refl _) (.cells #[.map (some bi)] 70)
  go_wp2_with fail
  refine (HQ.out _ hb1 _ (heap_alloc_new _ _)).mono ?_
  rintro e w2 ⟨v, rfl, hown, hb⟩
  go_wp2_with fail
  go_ret
  exact ⟨v, rfl, own_lower hown hb1.size, below_step hb1 hb⟩

end Go.Proofs.Ythobfeohgeeofaa

/-
  The walks of stamp's isRep and May.
-/
namespace Go.Proofs.Ythobfeohgeeofaa
open Go.RowKit StampMath PackMath

theorem isRep_any (r : Int) (w : World) :
    Calls Try.prog 67 #[.int .i64 r] w fun e w' => e = .returned (.bool (decide (0 ≤ r) && decide (r < 8))) ∧ w = w' := by
  have hcase : (decide (0 ≤ r) = false) ∨ 0 ≤ r := by
    by_cases h : 0 ≤ r
    · exact Or.inr h
    · exact Or.inl (by simp; omega)
  rcases hcase with h | h
  all_goals
    go_enter Try.func67, Try.ntmps67
    go_wp2_with fail
    go_ret
    exact ⟨by simp [h], rfl⟩

set_option maxHeartbeats 400000 in
theorem may_any (t r : Int) (w : World) :
    Calls Try.prog 51 #[.agg #[.int .i64 t, .int .i64 r]] w fun e w' => e = .returned (.bool (mayB t r)) ∧ Below w.heap.size w w' := by
  have hcase : ((t == 0) = true ∧ mayB t r = (r == 0)) ∨ ((t == 0) = false ∧ decide (0 < t) = false ∧ mayB t r = false) ∨ ((t == 0) = false ∧ 0 < t ∧ decide (t ≤ 1073741824) = false ∧ mayB t r = false) ∨
      ((t == 0) = false ∧ 0 < t ∧ t ≤ 1073741824 ∧ mayB t r = (decide (0 ≤ r) && decide (r < 8))) := by
    unfold mayB
    by_cases h0 : t = 0
    · exact Or.inl ⟨by simp [h0], by rw [if_pos h0]⟩
    · rw [if_neg h0]
      by_cases h1 : 0 < t
      · by_cases h2 : t ≤ 1073741824
        · refine Or.inr (Or.inr (Or.inr ⟨by simp [h0], h1, h2, ?_⟩))
          have e1 : decide (1 ≤ t) = true := by simp; omega
          have e2 : decide (r ≤ 7) = decide (r < 8) := by rw [decide_eq_decide]; omega
          rw [e1, e2]
          simp [h2]
        · exact Or.inr (Or.inr (Or.inl ⟨by simp [h0], h1, by simp; omega, by simp [h2]⟩))
      · exact Or.inr (Or.inl ⟨by simp [h0], by simp; omega, by simp; omega⟩)
  rcases hcase with ⟨h0, h⟩ | ⟨h0, h1, h⟩ | ⟨h0, h1, h2, h⟩ | ⟨h0, h1, h2, h⟩
  · have H := Lib.hid h
    clear h
    go_enter Try.func51, Try.ntmps51
    go_wp2_with fail
    go_ret
    exact ⟨by rw [H.out]; rfl, (Below.refl _ _).alloc (Nat.le_refl _) _⟩
  · have H := Lib.hid h
    clear h
    go_enter Try.func51, Try.ntmps51
    go_wp2_with fail
    go_ret
    exact ⟨by rw [H.out]; rfl, (Below.refl _ _).alloc (Nat.le_refl _) _⟩
  · have H := Lib.hid h
    clear h
    go_enter Try.func51, Try.ntmps51
    go_wp2_with fail
    go_ret
    exact ⟨by rw [H.out]; rfl, (Below.refl _ _).alloc (Nat.le_refl _) _⟩
  · have H := Lib.hid h
    clear h
    go_enter Try.func51, Try.ntmps51
    go_wp2_with fail
    refine (isRep_any _ _).mono ?_
    rintro e w' ⟨rfl, rfl⟩
    go_wp2_with fail
    go_ret
    exact ⟨by rw [H.out]; rfl, (Below.refl _ _).alloc (Nat.le_refl _) _⟩

end Go.Proofs.Ythobfeohgeeofaa

/-
  The landed graph's Make.
-/
namespace Go.Proofs.Ythobfeohgeeofaa
open Go.RowKit StampMath GraphMath

set_option maxRecDepth 100000 in
set_option maxHeartbeats 1600000 in
theorem make_code (a : Addr) (S : Nat → Prop) (g : Gr) (id : St) (kind : Int) (w : World) (h : GIn w S a g) (hg : g.ok) :
    Calls Try.prog 32 #[.pointer (some a), .agg (stA id), .int .i64 kind] w fun e w' => e = .returned (.int .i64 (makeG g id kind).2) ∧ GIn w' S a (makeG g id kind).1 ∧ But S w w' := by
  have HM : Hid (∀ W : World, Calls Try.prog 51 #[.agg #[.int .i64 id.1, .int .i64 id.2]] W fun e w' => e = .returned (.bool (mayB id.1 id.2)) ∧ Below W.heap.size W w') := fun W => may_any _ _ W
  have HRt : Hid (∀ W : World, Calls Try.prog 33 #[] W fun e w' => e = .returned (.agg #[.int .i64 0, .int .i64 0]) ∧ Below W.heap.size W w') := root_any
  have hGet : ∀ (x : St) (W : World), Below w.heap.size w W → Calls Try.prog 13 #[.pointer (some a), .agg #[.int .i64 x.1, .int .i64 x.2]] W fun e w' => e = .returned (.tuple #[.agg (inoA ((getG g x).getD noIno)), .bool (getG g x).isSome]) ∧ Below W.heap.size W w' := fun x W hW => get_code a S g x W (h.keep fun i hi => hW.block i (h.lt i hi)) hg
  obtain ⟨R, hR⟩ : ∃ R, getG g (0, 0) = some R := by
    obtain ⟨y, hy, hyi, _⟩ := hg.root
    exact ⟨_, by rw [← hyi]; exact hg.get hy⟩
  have HGR : Hid (∀ W : World, Below w.heap.size w W → Calls Try.prog 13 #[.pointer (some a), .agg #[.int .i64 0, .int .i64 0]] W fun e w' => e = .returned (.tuple #[.agg #[.int .i64 R.id.1, .int .i64 R.id.2, .int .i64 R.kind, .int .i64 R.links, .int .i64 R.mode, .string R.data], .bool true]) ∧ Below W.heap.size W w') := fun W hW => by
    have := hGet (0, 0) W hW
    rw [hR] at this
    exact this
  clear hR
  obtain ⟨m, hm⟩ : ∃ m, m = mayB id.1 id.2 := ⟨_, rfl⟩
  by_cases c1 : mayB id.1 id.2 = false ∨ kind < 1 ∨ 3 < kind
  · have e1 : makeG g id kind = (g, 1) := by unfold makeG; rw [if_pos c1]
    rw [e1]
    have hG := Lib.hid h
    have hltS := Lib.hid h.lt
    clear h hGet HGR
    rw [← hm] at c1 HM
    clear hm e1
    have c1' : (m = false) ∨ (m = true ∧ kind < 1) ∨ (m = true ∧ ¬ kind < 1 ∧ 3 < kind) := by
      cases m
      · exact Or.inl rfl
      · by_cases q : kind < 1
        · exact Or.inr (Or.inl ⟨rfl, q⟩)
        · refine Or.inr (Or.inr ⟨rfl, q, ?_⟩)
          rcases c1 with h | h | h
          · cases h
          · exact absurd h q
          · exact h
    clear c1
    unfold stA
    rcases c1' with rfl | ⟨rfl, k1⟩ | ⟨rfl, k1, k3⟩
    all_goals
      go_enter Try.func32, Try.ntmps32
      go_wp2_with fail
      refine (HM.out _).mono ?_
      rintro e w1 ⟨rfl, hb1⟩
      go_wp2_with fail
      go_ret
      have hb : Below w.heap.size w w1 := below_step ((Below.refl _ _).alloc (Nat.le_refl _) _) hb1
      exact ⟨rfl, hG.out.keep fun i hi => hb.block i (hltS.out i hi), But.of_below hb⟩
  · have c1' : m = true ∧ ¬ kind < 1 ∧ ¬ 3 < kind := by
      rw [← hm] at c1
      refine ⟨?_, fun q => c1 (Or.inr (Or.inl q)), fun q => c1 (Or.inr (Or.inr q))⟩
      cases m
      · exact absurd (Or.inl rfl) c1
      · rfl
    rw [← hm] at HM
    obtain ⟨rfl, k1, k3⟩ := c1'
    have hmk : makeG g id kind = if (getG g id).isSome then (g, 4) else if 40 ≤ g.I.length then (g, 13) else (⟨putIn (fun x => lessS x.id id) g.I ⟨id, kind, 0, 0, ⟨#[]⟩⟩, g.E⟩, 0) := by
      unfold makeG
      rw [if_neg c1]
    clear hm
    obtain ⟨ok, hok⟩ : ∃ ok, ok = (getG g id).isSome := ⟨_, rfl⟩
    obtain ⟨X, hX⟩ : ∃ X, X = (getG g id).getD noIno := ⟨_, rfl⟩
    have HGI : Hid (∀ W : World, Below w.heap.size w W → Calls Try.prog 13 #[.pointer (some a), .agg #[.int .i64 id.1, .int .i64 id.2]] W fun e w' => e = .returned (.tuple #[.agg #[.int .i64 X.id.1, .int .i64 X.id.2, .int .i64 X.kind, .int .i64 X.links, .int .i64 X.mode, .string X.data], .bool ok]) ∧ Below W.heap.size W w') := fun W hW => by
      rw [hX, hok]
      exact hGet id W hW
    have hG := Lib.hid h
    obtain ⟨b, bi, be, rfl, h1, h2, h3, hb, hi, he, hS⟩ := h
    obtain ⟨d0, d1⟩ := two_cells hb
    have hlt := heap_lt hb
    have HBlk := Lib.hid hb
    have HI := Lib.hid hi
    have HE := Lib.hid he
    have HS := Lib.hid hS
    have HK := Lib.hid hmk
    have HO : Hid (ok = (getG g id).isSome) := hok
    have hb0 : Below w.heap.size w (w.alloc (.cells #[.int .i64 id.1, .int .i64 id.2] 24)) := (Below.refl _ _).alloc (Nat.le_refl _) _
    clear hi he hb hS c1 hmk hok hX hGet d1
    unfold stA
    go_enter Try.func32, Try.ntmps32
    go_wp2_with fail
    refine (HM.out _).mono ?_
    rintro e w1 ⟨rfl, hb1⟩
    have q0 : w1.heap[w.heap.size]? = some (.cells #[.int .i64 id.1, .int .i64 id.2] 24 (0, 0)) := (hb1.block _ (by simp)).trans (heap_alloc_new w _)
    have hb2 := below_step hb0 hb1
    clear hb0 hb1 HM
    go_wp2_with fail
    refine (HRt.out _).mono ?_
    rintro e w2 ⟨rfl, hb3⟩
    have q1 := (hb3.block _ (heap_lt q0)).trans q0
    have hb4 := below_step hb2 hb3
    clear q0 hb2 hb3 HRt
    go_wp2_with fail
    refine (HGR.out _ hb4).mono ?_
    rintro e w3 ⟨rfl, hb5⟩
    have q2 := (hb5.block _ (heap_lt q1)).trans q1
    have hb6 := below_step hb4 hb5
    clear q1 hb4 hb5 HGR
    go_upto_region 4 with fail
    change Code.wp _ _ _ _ (w3.alloc (.cells (inoA R) 42))
    have q3 := (heap_alloc_old w3 (.cells (inoA R) 42) (heap_lt q2)).trans q2
    have hb7 := hb6.alloc hb6.size (.cells (inoA R) 42)
    generalize w3.alloc (.cells (inoA R) 42) = w4 at q3 hb7 ⊢
    clear q2 hb6
    obtain ⟨x0, x1⟩ := two_cells q3
    go_wp2_with fail
    refine (HGI.out _ hb7).mono ?_
    rintro e w5 ⟨rfl, hb8⟩
    have q4 := (hb8.block _ (heap_lt q3)).trans q3
    have hb9 := below_step hb7 hb8
    clear q3 hb7 hb8 HGI x0 x1
    go_upto_region 7 with fail
    change Code.wp _ _ _ _ (w5.alloc (.cells (inoA X) 42))
    have q5 := (heap_alloc_old w5 (.cells (inoA X) 42) (heap_lt q4)).trans q4
    have hb10 := hb9.alloc hb9.size (.cells (inoA X) 42)
    generalize w5.alloc (.cells (inoA X) 42) = w6 at q5 hb10 ⊢
    clear q4 hb9
    obtain ⟨x0, x1⟩ := two_cells q5
    have d0w := (hb10.cell (p := ⟨b, 0, none⟩) hlt).trans d0
    cases ok with
    | true =>
      go_wp2_with fail
      go_ret
      rw [HK.out, if_pos HO.out.symm]
      exact ⟨rfl, hG.out.keep fun i hi => hb10.block i (hG.out.lt i hi), But.of_below hb10⟩
    | false =>
      have hln := (HI.out.kept (hb10.block bi HI.out.lt)).len (P := Try.prog) Try.underlying70 3
      by_cases c3 : 40 ≤ g.I.length
      · have hlen : (40 : Int) ≤ ((pairsI g).length : Int) := by unfold pairsI; rw [List.length_map, hg.inodes, List.length_map]; omega
        generalize ((pairsI g).length : Int) = ln at hln hlen
        go_wp2_with fail
        go_ret
        rw [HK.out, if_neg (by rw [← HO.out]; simp), if_pos c3]
        exact ⟨rfl, hG.out.keep fun i hi => hb10.block i (hG.out.lt i hi), But.of_below hb10⟩
      · have hlen : ¬ (40 : Int) ≤ ((pairsI g).length : Int) := by unfold pairsI; rw [List.length_map, hg.inodes, List.length_map]; omega
        generalize ((pairsI g).length : Int) = ln at hln hlen
        obtain ⟨w7, hrun, hm7, hbut7, hsz7⟩ := (HI.out.kept (hb10.drew.block bi HI.out.lt)).store stShape Try.underlying70 id ⟨id, kind, 0, 0, ⟨#[]⟩⟩
        simp only [stV, stA, inoV, inoA] at hrun
        have HM7 := Lib.hid hm7
        have HB7 := Lib.hid hbut7
        have HB10 := Lib.hid hb10
        clear hm7 hbut7 hb10 q5 hsz7
        go_wp2_with fail
        go_region
        go_wp2_with fail
        go_ret
        have hb8 : But (fun i => i = bi) w w7 := (But.of_below HB10.out.drew).trans HB7.out fun i hi _ => hi
        have he : makeG g id kind = (⟨putIn (fun x => lessS x.id id) g.I ⟨id, kind, 0, 0, ⟨#[]⟩⟩, g.E⟩, 0) := by rw [HK.out, if_neg (by rw [← HO.out]; simp), if_neg c3]
        have h0 : (makeG g id kind).2 = 0 := by rw [he]
        have hok := hg.make id kind
        refine ⟨by rw [h0]; rfl, ⟨b, bi, be, rfl, h1, h2, h3, ?_, ?_, ?_, HS.out⟩, hb8.mono fun i hi => (HS.out i).2 (Or.inr (Or.inl hi))⟩
        · exact hb8.heap HBlk.out (fun q => h1 q)
        · refine HM7.out.perm (put_perm (keys_pairsI hg) (keys_pairsI hok) fun k => ?_)
          rw [look_pairsI hok, look_pairsI hg, make_get hg h0]
        · have e1 : pairsE (makeG g id kind).1 = pairsE g := by unfold pairsE; rw [make_ents]
          rw [e1]
          exact HE.out.kept (hb8.block be HE.out.lt fun q => h3 q.symm)

end Go.Proofs.Ythobfeohgeeofaa
