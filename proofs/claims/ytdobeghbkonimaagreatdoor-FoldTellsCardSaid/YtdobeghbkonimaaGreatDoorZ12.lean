/-
 The code of package fold: Put (made by gen_foldput13.py).
-/
import Derived.Test.YtdobeghbkonimaaGreatDoorZ11
import Derived.Deep.RegionHeld3
import Derived.Test.YtdobeghbkonimaaGreatDoorZ08
import Derived.Test.YtdobeghbkonimaaGreatDoorZ01
import Derived.Maps.AppendAt
import Derived.Test.YtdobeghbkonimaaGreatDoorZ09
import Derived.Test.YtdobeghbkonimaaGreatDoorZ00
import Derived.Test.YtdobeghbkonimaaGreatDoorRows
import Derived.ProofKit
import Derived.OpenShut
import Derived.Deep.Slices
import Derived.Deep.Strs
import Derived.ChangeSame
import Derived.Lib.SmallJoins
import Derived.SevenTiedAt
import Derived.LaidMore
import Derived.Stop.Joined
namespace Go.Proofs.YtdobeghbkonimaaGreatDoor
open Go.RowKit StampMath GraphMath OpMath PackMath

theorem place_below {x : List Opn} (h : Rises x) (s : St) : belowO x s = if hasO x s = true then placeO x s + 1 else placeO x s:=by
 by_cases q : hasO x s = true
 ·rw [if_pos q]
  obtain ⟨hp,e⟩:=(place_has h).1 q
  have:=below_own h hp
  rw [e] at this
  exact this
 ·rw [if_neg q]
  obtain ⟨w1,w2⟩:=while_at (beforeO s) x
  refine while_is (place_le x s) (fun j hj hji=>?_) fun hj=>?_
  ·rw [Bool.not_eq_true']
   exact lessS_le (w1 j hj hji)
  ·rw [Bool.not_eq_false']
   exact lessS_total (w2 hj) fun e=>q (hasO_iff.2 ⟨_,List.getElem_mem hj,e⟩)

theorem held_put {w W : World} {o : Opn} (h : Held w [(w.heap.size,.cells (opA o) 26)] W) : Held w [(w.heap.size,.cells (opA o) 26)] W∧W.cell? ⟨w.heap.size,0,none⟩ = some (.int .i64 o.st)∧W.cell? ⟨w.heap.size,1,none⟩ = some (.int .i64 o.sr)∧W.cell? ⟨w.heap.size,2,none⟩ = some (.int .i64 o.k)∧W.cell? ⟨w.heap.size,3,none⟩ = some (.int .i64 o.pt)∧W.cell? ⟨w.heap.size,4,none⟩ = some (.int .i64 o.pr)∧W.cell? ⟨w.heap.size,5,none⟩ = some (.int .i64 o.it)∧W.cell? ⟨w.heap.size,6,none⟩ = some (.int .i64 o.ir)∧W.cell? ⟨w.heap.size,7,none⟩ = some (.int .i64 o.tt)∧W.cell? ⟨w.heap.size,8,none⟩ = some (.int .i64 o.tr)∧W.cell? ⟨w.heap.size,9,none⟩ = some (.string o.name)∧W.cell? ⟨w.heap.size,10,none⟩ = some (.string o.new)∧W.cell? ⟨w.heap.size,11,none⟩ = some (.int .i64 o.off)∧W.cell? ⟨w.heap.size,12,none⟩ = some (.string o.data):=⟨h,op_cells (h.at 0 rfl)⟩

theorem put_alloc {w W : World} {o : Opn} (ob : Obj) (h : Held w [(w.heap.size,.cells (opA o) 26)] W∧W.cell? ⟨w.heap.size,0,none⟩ = some (.int .i64 o.st)∧W.cell? ⟨w.heap.size,1,none⟩ = some (.int .i64 o.sr)∧W.cell? ⟨w.heap.size,2,none⟩ = some (.int .i64 o.k)∧W.cell? ⟨w.heap.size,3,none⟩ = some (.int .i64 o.pt)∧W.cell? ⟨w.heap.size,4,none⟩ = some (.int .i64 o.pr)∧W.cell? ⟨w.heap.size,5,none⟩ = some (.int .i64 o.it)∧W.cell? ⟨w.heap.size,6,none⟩ = some (.int .i64 o.ir)∧W.cell? ⟨w.heap.size,7,none⟩ = some (.int .i64 o.tt)∧W.cell? ⟨w.heap.size,8,none⟩ = some (.int .i64 o.tr)∧W.cell? ⟨w.heap.size,9,none⟩ = some (.string o.name)∧W.cell? ⟨w.heap.size,10,none⟩ = some (.string o.new)∧W.cell? ⟨w.heap.size,11,none⟩ = some (.int .i64 o.off)∧W.cell? ⟨w.heap.size,12,none⟩ = some (.string o.data)) : Held w [(w.heap.size,.cells (opA o) 26)] (W.alloc ob)∧(W.alloc ob).cell? ⟨w.heap.size,0,none⟩ = some (.int .i64 o.st)∧(W.alloc ob).cell? ⟨w.heap.size,1,none⟩ = some (.int .i64 o.sr)∧(W.alloc ob).cell? ⟨w.heap.size,2,none⟩ = some (.int .i64 o.k)∧(W.alloc ob).cell? ⟨w.heap.size,3,none⟩ = some (.int .i64 o.pt)∧(W.alloc ob).cell? ⟨w.heap.size,4,none⟩ = some (.int .i64 o.pr)∧(W.alloc ob).cell? ⟨w.heap.size,5,none⟩ = some (.int .i64 o.it)∧(W.alloc ob).cell? ⟨w.heap.size,6,none⟩ = some (.int .i64 o.ir)∧(W.alloc ob).cell? ⟨w.heap.size,7,none⟩ = some (.int .i64 o.tt)∧(W.alloc ob).cell? ⟨w.heap.size,8,none⟩ = some (.int .i64 o.tr)∧(W.alloc ob).cell? ⟨w.heap.size,9,none⟩ = some (.string o.name)∧(W.alloc ob).cell? ⟨w.heap.size,10,none⟩ = some (.string o.new)∧(W.alloc ob).cell? ⟨w.heap.size,11,none⟩ = some (.int .i64 o.off)∧(W.alloc ob).cell? ⟨w.heap.size,12,none⟩ = some (.string o.data) :=
 held_put (h.1.step ((Below.refl W.heap.size W).alloc (Nat.le_refl _) ob))

theorem put_one {w W : World} {o : Opn} (ob : Obj) (h : Held w [(w.heap.size,.cells (opA o) 26)] W∧W.cell? ⟨w.heap.size,0,none⟩ = some (.int .i64 o.st)∧W.cell? ⟨w.heap.size,1,none⟩ = some (.int .i64 o.sr)∧W.cell? ⟨w.heap.size,2,none⟩ = some (.int .i64 o.k)∧W.cell? ⟨w.heap.size,3,none⟩ = some (.int .i64 o.pt)∧W.cell? ⟨w.heap.size,4,none⟩ = some (.int .i64 o.pr)∧W.cell? ⟨w.heap.size,5,none⟩ = some (.int .i64 o.it)∧W.cell? ⟨w.heap.size,6,none⟩ = some (.int .i64 o.ir)∧W.cell? ⟨w.heap.size,7,none⟩ = some (.int .i64 o.tt)∧W.cell? ⟨w.heap.size,8,none⟩ = some (.int .i64 o.tr)∧W.cell? ⟨w.heap.size,9,none⟩ = some (.string o.name)∧W.cell? ⟨w.heap.size,10,none⟩ = some (.string o.new)∧W.cell? ⟨w.heap.size,11,none⟩ = some (.int .i64 o.off)∧W.cell? ⟨w.heap.size,12,none⟩ = some (.string o.data)) : Held w [(w.heap.size,.cells (opA o) 26)] (W.alloc ob).drew∧(W.alloc ob).drew.cell? ⟨w.heap.size,0,none⟩ = some (.int .i64 o.st)∧(W.alloc ob).drew.cell? ⟨w.heap.size,1,none⟩ = some (.int .i64 o.sr)∧(W.alloc ob).drew.cell? ⟨w.heap.size,2,none⟩ = some (.int .i64 o.k)∧(W.alloc ob).drew.cell? ⟨w.heap.size,3,none⟩ = some (.int .i64 o.pt)∧(W.alloc ob).drew.cell? ⟨w.heap.size,4,none⟩ = some (.int .i64 o.pr)∧(W.alloc ob).drew.cell? ⟨w.heap.size,5,none⟩ = some (.int .i64 o.it)∧(W.alloc ob).drew.cell? ⟨w.heap.size,6,none⟩ = some (.int .i64 o.ir)∧(W.alloc ob).drew.cell? ⟨w.heap.size,7,none⟩ = some (.int .i64 o.tt)∧(W.alloc ob).drew.cell? ⟨w.heap.size,8,none⟩ = some (.int .i64 o.tr)∧(W.alloc ob).drew.cell? ⟨w.heap.size,9,none⟩ = some (.string o.name)∧(W.alloc ob).drew.cell? ⟨w.heap.size,10,none⟩ = some (.string o.new)∧(W.alloc ob).drew.cell? ⟨w.heap.size,11,none⟩ = some (.int .i64 o.off)∧(W.alloc ob).drew.cell? ⟨w.heap.size,12,none⟩ = some (.string o.data):=held_put (put_alloc ob h).1.drew

theorem put_two {w W : World} {o : Opn} (ob oc : Obj) (h : Held w [(w.heap.size,.cells (opA o) 26)] W∧W.cell? ⟨w.heap.size,0,none⟩ = some (.int .i64 o.st)∧W.cell? ⟨w.heap.size,1,none⟩ = some (.int .i64 o.sr)∧W.cell? ⟨w.heap.size,2,none⟩ = some (.int .i64 o.k)∧W.cell? ⟨w.heap.size,3,none⟩ = some (.int .i64 o.pt)∧W.cell? ⟨w.heap.size,4,none⟩ = some (.int .i64 o.pr)∧W.cell? ⟨w.heap.size,5,none⟩ = some (.int .i64 o.it)∧W.cell? ⟨w.heap.size,6,none⟩ = some (.int .i64 o.ir)∧W.cell? ⟨w.heap.size,7,none⟩ = some (.int .i64 o.tt)∧W.cell? ⟨w.heap.size,8,none⟩ = some (.int .i64 o.tr)∧W.cell? ⟨w.heap.size,9,none⟩ = some (.string o.name)∧W.cell? ⟨w.heap.size,10,none⟩ = some (.string o.new)∧W.cell? ⟨w.heap.size,11,none⟩ = some (.int .i64 o.off)∧W.cell? ⟨w.heap.size,12,none⟩ = some (.string o.data)) : Held w [(w.heap.size,.cells (opA o) 26)] ((W.alloc ob).alloc oc).drew∧((W.alloc ob).alloc oc).drew.cell? ⟨w.heap.size,0,none⟩ = some (.int .i64 o.st)∧((W.alloc ob).alloc oc).drew.cell? ⟨w.heap.size,1,none⟩ = some (.int .i64 o.sr)∧((W.alloc ob).alloc oc).drew.cell? ⟨w.heap.size,2,none⟩ = some (.int .i64 o.k)∧((W.alloc ob).alloc oc).drew.cell? ⟨w.heap.size,3,none⟩ = some (.int .i64 o.pt)∧((W.alloc ob).alloc oc).drew.cell? ⟨w.heap.size,4,none⟩ = some (.int .i64 o.pr)∧((W.alloc ob).alloc oc).drew.cell? ⟨w.heap.size,5,none⟩ = some (.int .i64 o.it)∧((W.alloc ob).alloc oc).drew.cell? ⟨w.heap.size,6,none⟩ = some (.int .i64 o.ir)∧((W.alloc ob).alloc oc).drew.cell? ⟨w.heap.size,7,none⟩ = some (.int .i64 o.tt)∧((W.alloc ob).alloc oc).drew.cell? ⟨w.heap.size,8,none⟩ = some (.int .i64 o.tr)∧((W.alloc ob).alloc oc).drew.cell? ⟨w.heap.size,9,none⟩ = some (.string o.name)∧((W.alloc ob).alloc oc).drew.cell? ⟨w.heap.size,10,none⟩ = some (.string o.new)∧((W.alloc ob).alloc oc).drew.cell? ⟨w.heap.size,11,none⟩ = some (.int .i64 o.off)∧((W.alloc ob).alloc oc).drew.cell? ⟨w.heap.size,12,none⟩ = some (.string o.data):=held_put (put_alloc oc (put_alloc ob h)).1.drew

theorem put_new (w : World) (X : Obj) (a b c : Value) (T : TypeId) :
  ((w.alloc X).alloc (.cells #[a,b,c] T)).drew.cell? ⟨w.heap.size + 1,0,none⟩ = some a∧((w.alloc X).alloc (.cells #[a,b,c] T)).drew.cell? ⟨w.heap.size + 1,1,none⟩ = some b∧((w.alloc X).alloc (.cells #[a,b,c] T)).drew.cell? ⟨w.heap.size + 1,2,none⟩ = some c∧((w.alloc X).alloc (.cells #[a,b,c] T)).drew.heap[w.heap.size]? = some X:=by
 have h:=heap_alloc_new (w.alloc X) (.cells #[a,b,c] T)
 have e : (w.alloc X).heap.size = w.heap.size + 1:=by simp
 rw [e] at h
 exact ⟨cell_of_row _ _ 0 _ _ (0,0) h,cell_of_row _ _ 1 _ _ (0,0) h,cell_of_row _ _ 2 _ _ (0,0) h,heap_alloc2_old w X _⟩

set_option maxRecDepth 100000 in
set_option maxHeartbeats 6400000 in
theorem put_code (A : Option Addr) (n c : Nat) (x : List Opn) (o : Opn) (w : World) (T : Tab w) (hn : n ≤ 1000) (hnc : n ≤ c) (hcm : c ≤ maxLen) (hd : A = none → c = 0) (ho : OpFit o) (hx : Rises x) (h : OpsIn w w.heap.size A n x) :
    Calls Tryz.prog 13 #[.slice A n c, .agg (opA o)] w fun e w' => ∃ (B : Option Addr) (k : Nat), e = .returned (.tuple #[.slice B (putO x o).1.length k, .int .i64 ((putO x o).2.1 : Int), .bool (putO x o).2.2]) ∧ OpsIn w' w'.heap.size B (putO x o).1.length (putO x o).1 ∧ (putO x o).1.length ≤ k ∧ k ≤ maxLen ∧ (B = none → k = 0) ∧ Below w.heap.size w w' := by
  have hl := h.len
  have HR : Hid (putO x o = if mayO o = false then (x, 0, false) else if hasO x (oSt o) = true then (x, placeO x (oSt o), false) else (x.take (placeO x (oSt o)) ++ o :: x.drop (placeO x (oSt o)), placeO x (oSt o), true)) := by
    show _ = _
    unfold GraphMath.putO
    rw [putIn_place]
  have HPB : Hid (belowO x (oSt o) = if hasO x (oSt o) = true then placeO x (oSt o) + 1 else placeO x (oSt o)) := place_below hx (oSt o)
  have HP : Hid (hasO x (oSt o) = true ↔ ∃ hp : placeO x (oSt o) < x.length, oSt (x[placeO x (oSt o)]) = oSt o) := place_has hx
  have hbl := below_le x (oSt o)
  generalize putO x o = R at HR ⊢
  have HX := Lib.hid h
  have HL : Hid (x.length = n) := hl
  have hH0 : Held w [(w.heap.size, .cells (opA o) 26)] (w.alloc (.cells (opA o) 26)) := (Held.refl w).alloc _ rfl
  have HCL : Hid (∀ W, Below w.heap.size w W → Calls Tryz.prog 43 #[.slice A n c] W (OpsPost x W)) := Lib.hid fun W hW => clone_code A n c x W hn hd ((HX.out.below hW).more hW.size)
  have HBE : Hid (∀ W, Below w.heap.size w W → Calls Tryz.prog 21 #[.slice A n c, .agg #[.int .i64 o.st, .int .i64 o.sr]] W fun e w' => e = .returned (.int .i64 (belowO x (oSt o) : Int)) ∧ Below W.heap.size W w') := Lib.hid fun W hW => below_code A n c x (oSt o) W hn hx ((HX.out.below hW).more hW.size)
  unfold OpsPost at HCL
  have hbl' : belowO x (oSt o) ≤ n := by omega
  clear h hx hl hbl
  go_enter Tryz.func13, Tryz.ntmps13
  go_upto_region 1 with fail
  generalize w.alloc (.cells (opA o) 26) = w1 at hH0 ⊢
  have T1 := tab_below T (Nat.le_refl _) hH0.below
  obtain ⟨c0, c1, c2, c3, c4, c5, c6, c7, c8, c9, c10, c11, c12⟩ := op_cells (o := o) (g := w.heap.size) (hH0.at 0 rfl)
  have HM := Lib.hid (applyHave.may o w1 ho)
  unfold opA at HM
  clear T1
  go_wp2_with fail
  refine HM.out.mono ?_
  rintro e w2 ⟨rfl, hb2⟩
  have hH2 := Lib.hid (hH0.step hb2)
  clear c0 c1 c2 c3 c4 c5 c6 c7 c8 c9 c10 c11 c12 hH0 hb2 HM
  cases hm : mayO o with
  | false =>
    have HR1 : Hid (R = (x, 0, false)) := HR.out.trans (if_pos hm)
    have D := Lib.hid (HCL.out _ hH2.out.below)
    clear hm HR HCL HBE HPB HP
    go_wp2_with fail
    refine D.out.mono ?_
    rintro e w3 ⟨B, k, rfl, q1, q2, q3, q4, hb3⟩
    have HB := Lib.hid (below_step hH2.out.below hb3)
    have HQ := Lib.hid (And.intro q1 (And.intro q2 (And.intro q3 q4)))
    clear q1 q2 q3 q4 hb3 D
    go_wp2_with fail
    refine bodyPost_ret (v := .tuple #[.slice B x.length k, .int .i64 0, .bool false]) (by simp [results, Tryz.results13, go_sem]) rfl ?_
    rw [HR1.out]
    exact ⟨B, k, rfl, HQ.out.1, HQ.out.2.1, HQ.out.2.2.1, HQ.out.2.2.2, HB.out⟩
  | true =>
    have HR1 : Hid (R = if hasO x (oSt o) = true then (x, placeO x (oSt o), false) else (x.take (placeO x (oSt o)) ++ o :: x.drop (placeO x (oSt o)), placeO x (oSt o), true)) := HR.out.trans (if_neg (by rw [hm]; simp))
    have D := Lib.hid (HBE.out _ hH2.out.below)
    obtain ⟨c0, c1, _⟩ := op_cells (o := o) (g := w.heap.size) (hH2.out.at 0 rfl)
    obtain ⟨b, hb⟩ : ∃ b, b = belowO x (oSt o) := ⟨_, rfl⟩
    rw [← hb] at D HPB hbl'
    clear hm HR HBE hb
    go_wp2_with fail
    refine D.out.mono ?_
    rintro e w3 ⟨rfl, hb3⟩
    have hH3 := Lib.hid (hH2.out.step hb3)
    clear c0 c1 hb3 hH2 D
    -- what stands ahead of the place
    have HD : Hid ((1 ≤ b ∧ (∃ q : b - 1 < x.length, oSt x[b - 1] = oSt o) ∧ R = (x, b - 1, false)) ∨ ((1 ≤ b → ∃ q : b - 1 < x.length, oSt x[b - 1] ≠ oSt o) ∧ R = (x.take b ++ o :: x.drop b, b, true))) := by
      have hl := HL.out
      by_cases q : hasO x (oSt o) = true
      · obtain ⟨hp, e⟩ := HP.out.1 q
        have hpb := HPB.out
        rw [if_pos q] at hpb
        have hr := HR1.out
        rw [if_pos q] at hr
        refine Or.inl ⟨by omega, ⟨by omega, ?_⟩, ?_⟩
        · rw [← e]; congr 2; omega
        · rw [hr]; congr 2; omega
      · have hpb := HPB.out
        rw [if_neg q] at hpb
        have hr := HR1.out
        rw [if_neg q, ← hpb] at hr
        exact Or.inr ⟨fun h1 => ⟨by omega, fun e => q (hasO_iff.2 ⟨_, List.getElem_mem _, e⟩)⟩, hr⟩
    clear HR1 HPB HP
    have hbn : b ≤ n := hbl'
    obtain ⟨c0, c1, -⟩ := op_cells (o := o) (g := w.heap.size) (hH3.out.at 0 rfl)
    have m0 := later_cell c0
    have m1 := later_cell c1
    clear c0 c1
    rcases HD.out with ⟨hb1, hq, hr⟩ | ⟨hq, hr⟩
    · -- it is there
      have HR2 := Lib.hid hr
      obtain ⟨f, hf⟩ : ∃ f, f = b - 1 := ⟨_, rfl⟩
      have hbz : (b : Int) - 1 = (f : Int) := by omega
      have hl := HL.out
      obtain ⟨q, e⟩ := hq
      have hfn : f < n := by omega
      obtain ⟨gi, of, rfl, hg, hrow⟩ := HX.out.row (by omega)
      obtain ⟨e0, e1, -⟩ := (hrow (b - 1) q).below hH3.out.below hg
      generalize x[b - 1]'q = a at e0 e1 e
      rw [← hf] at e0 e1 HR2
      have k0 := later_cell e0
      have k1 := later_cell e1
      have hv : ∀ W : World, (Op.equalIn 10000 24 (.agg #[.int .i64 a.st, .int .i64 a.sr]) (.agg #[.int .i64 o.st, .int .i64 o.sr])).run Tryz.prog W = .ok true W := fun W => by rw [run_eqSt]; exact congrArg (fun t => Result.ok t W) (decide_eq_true e)
      have D := Lib.hid (fun y => HCL.out _ (below_step hH3.out.below (later_below w3 y)))
      have g1 : decide (0 < b) = true := decide_eq_true (by omega)
      have g2 : (0 : Int) < (b : Int) := by omega
      have g3 : (0 : Int) ≤ (f : Int) := by omega
      have g4 : (f : Int) < (n : Int) := by omega
      clear hrow e0 e1 hg e hr HD hb1 HCL q hf hl hbl'
      go_upto_region 4 with fail
      refine wp_region_later (by kernel_rfl) (by kernel_rfl) ?_
      repeat (go_big_quiet_step (fail))
      refine wpQuiet_nil ?_
      intro _ hw'
      obtain ⟨y, rfl⟩ := hw'
      have HB4 := Lib.hid (below_step hH3.out.below (later_below w3 y))
      have D4 := Lib.hid (D.out y)
      clear m0 m1 k0 k1 hv g1 g2 D hH3
      go_wp2_with fail
      refine D4.out.mono ?_
      rintro e w5 ⟨B, k, rfl, q1, q2, q3, q4, hb5⟩
      have HB := Lib.hid (below_step HB4.out hb5)
      have HQ := Lib.hid (And.intro q1 (And.intro q2 (And.intro q3 q4)))
      clear q1 q2 q3 q4 hb5 D4 HB4
      go_wp2_with fail
      refine bodyPost_ret (v := .tuple #[.slice B x.length k, .int .i64 (f : Int), .bool false]) (by simp [results, Tryz.results13, go_sem]) rfl ?_
      rw [HR2.out]
      exact ⟨B, k, rfl, HQ.out.1, HQ.out.2.1, HQ.out.2.2.1, HQ.out.2.2.2, HB.out⟩
    · -- it isn't
      obtain ⟨L, hLe⟩ : ∃ L, L = x.take b ++ o :: x.drop b := ⟨_, rfl⟩
      rw [← hLe] at hr
      have HR2 := Lib.hid hr
      have HQ := Lib.hid hq
      have HXD : Hid (∀ (W : World), Below w.heap.size w W → OpsIn W W.heap.size A n x) := Lib.hid fun W hW => (HX.out.below hW).more hW.size
      have HK : Hid (∀ (W : World) (g g1 : Nat) (A3 : Option Addr) (m c3 : Nat), m = n - b → (Held w [(w.heap.size, .cells (opA o) 26)] W ∧ W.cell? ⟨w.heap.size, 0, none⟩ = some (.int .i64 o.st) ∧ W.cell? ⟨w.heap.size, 1, none⟩ = some (.int .i64 o.sr) ∧ W.cell? ⟨w.heap.size, 2, none⟩ = some (.int .i64 o.k) ∧ W.cell? ⟨w.heap.size, 3, none⟩ = some (.int .i64 o.pt) ∧ W.cell? ⟨w.heap.size, 4, none⟩ = some (.int .i64 o.pr) ∧ W.cell? ⟨w.heap.size, 5, none⟩ = some (.int .i64 o.it) ∧ W.cell? ⟨w.heap.size, 6, none⟩ = some (.int .i64 o.ir) ∧ W.cell? ⟨w.heap.size, 7, none⟩ = some (.int .i64 o.tt) ∧ W.cell? ⟨w.heap.size, 8, none⟩ = some (.int .i64 o.tr) ∧ W.cell? ⟨w.heap.size, 9, none⟩ = some (.string o.name) ∧ W.cell? ⟨w.heap.size, 10, none⟩ = some (.string o.new) ∧ W.cell? ⟨w.heap.size, 11, none⟩ = some (.int .i64 o.off) ∧ W.cell? ⟨w.heap.size, 12, none⟩ = some (.string o.data)) → W.cell? ⟨g, 0, none⟩ = some (.slice A b c) → W.cell? ⟨g, 1, none⟩ = some (.slice (some ⟨g1, 0, none⟩) 1 1) → W.cell? ⟨g, 2, none⟩ = some (.slice A3 m c3) → W.heap[g1]? = some (.cells (opA o) 26 (0, 0)) → OpsIn W W.heap.size A3 m (x.drop b) → (A3 = none → c3 = 0) →
          Calls Tryz.prog 44 #[.slice (some ⟨g, 0, none⟩) 3 3] W (OpsPost L W)) := Lib.hid fun W g g1 A3 m c3 hm hS z0 z1 z2 hg1 hA3 hd3 => by
        have hO := ops_take (HXD.out W hS.1.below) hbn
        have h1 := ops_of_cells (l := [o]) hg1 (by simp [flat])
        have := concat_code W g A b c (x.take b) (some ⟨g1, 0, none⟩) 1 1 [o] A3 m c3 (x.drop b) z0 z1 z2 hO h1 hA3 hd (fun h => by cases h) hd3 (by omega) (by omega)
        rwa [List.append_assoc, List.singleton_append, ← hLe] at this
      unfold OpsPost at HK
      clear hLe
      clear hr hq HD HCL hbl'
      by_cases hb0 : b = 0
      · -- the place is the first one
        have g1 : decide (0 < b) = false := decide_eq_false (by omega)
        clear hb0
        go_upto_region 4 with fail
        refine wp_region_later (by kernel_rfl) (by kernel_rfl) ?_
        repeat (go_big_quiet_step (fail))
        refine wpQuiet_nil ?_
        intro _ hw'
        obtain ⟨y, rfl⟩ := hw'
        clear g1
        have hH4 := hH3.out.step (later_below w3 y)
        clear m0 m1 hH3
        generalize later w3 y = w4 at hH4 ⊢
        have hS0 := held_put hH4
        have hS1 := held_put hH4.drew
        have HH4 := Lib.hid hH4
        clear hH4
        by_cases hbl : b < n
        · have hbc : b < c := by omega
          have hcb : ¬ c = b := by omega
          obtain ⟨gi, of, rfl, -⟩ := HX.out.row (by omega)
          have i1 : (0 : Int) ≤ ((b : Nat) : Int) := by omega
          have i2 : ((b : Nat) : Int) ≤ ((n : Nat) : Int) := by omega
          have i3 : ((b : Nat) : Int) ≤ ((c : Nat) : Int) := by omega
          go_upto_region 6 with fail
          go_region_held3 (fun W => Held w [(w.heap.size, .cells (opA o) 26)] W ∧ W.cell? ⟨w.heap.size, 0, none⟩ = some (.int .i64 o.st) ∧ W.cell? ⟨w.heap.size, 1, none⟩ = some (.int .i64 o.sr) ∧ W.cell? ⟨w.heap.size, 2, none⟩ = some (.int .i64 o.k) ∧ W.cell? ⟨w.heap.size, 3, none⟩ = some (.int .i64 o.pt) ∧ W.cell? ⟨w.heap.size, 4, none⟩ = some (.int .i64 o.pr) ∧ W.cell? ⟨w.heap.size, 5, none⟩ = some (.int .i64 o.it) ∧ W.cell? ⟨w.heap.size, 6, none⟩ = some (.int .i64 o.ir) ∧ W.cell? ⟨w.heap.size, 7, none⟩ = some (.int .i64 o.tt) ∧ W.cell? ⟨w.heap.size, 8, none⟩ = some (.int .i64 o.tr) ∧ W.cell? ⟨w.heap.size, 9, none⟩ = some (.string o.name) ∧ W.cell? ⟨w.heap.size, 10, none⟩ = some (.string o.new) ∧ W.cell? ⟨w.heap.size, 11, none⟩ = some (.int .i64 o.off) ∧ W.cell? ⟨w.heap.size, 12, none⟩ = some (.string o.data)) (first | (with_reducible assumption) | (with_reducible exact put_one _ hS0) | (with_reducible exact put_two _ _ hS0))
            (first
              | (go_at_call 44; refine Calls.mono (HK.out _ _ _ _ _ _ (by omega) (held_put ((HH4.out.step (((Below.refl w4.heap.size w4).alloc (Nat.le_refl _) _).alloc (by simp) _)).drew)) (put_new w4 _ _ _ _ _).1 (put_new w4 _ _ _ _ _).2.1 (put_new w4 _ _ _ _ _).2.2.1 (put_new w4 _ _ _ _ _).2.2.2 (ops_drop (HXD.out _ ((HH4.out.step (((Below.refl w4.heap.size w4).alloc (Nat.le_refl _) _).alloc (by simp) _)).drew).below) hbn) (fun h => by cases h)) ?_; rintro e w7 ⟨B7, k7, rfl, q1, q2, q3, q4, hb7⟩; have hS7 := held_put (((HH4.out.step (((Below.refl w4.heap.size w4).alloc (Nat.le_refl _) _).alloc (by simp) _)).drew).step hb7)))
          all_goals
            have HF := Lib.hid (And.intro q1 (And.intro q2 (And.intro q3 (And.intro q4 hS7.1.below))))
            clear hS0 hS1 hS7 q1 q2 q3 q4 hb7 HK HH4
            go_wp2_with fail
            refine bodyPost_ret (v := .tuple #[.slice B7 L.length k7, .int .i64 (b : Int), .bool true]) (by simp [results, Tryz.results13, go_sem]) rfl ?_
            rw [HR2.out]
            exact ⟨B7, k7, rfl, HF.out⟩
        · have hbe : n = b := by omega
          cases A with
          | none =>
            obtain rfl : c = 0 := hd rfl
            obtain rfl : b = 0 := by omega
            obtain rfl : n = 0 := by omega
            have i1 : (0 : Int) ≤ ((0 : Nat) : Int) := by omega
            have i2 : ((0 : Nat) : Int) ≤ ((0 : Nat) : Int) := by omega
            have i3 : ((0 : Nat) : Int) ≤ ((0 : Nat) : Int) := by omega
            go_upto_region 6 with fail
            go_region_held3 (fun W => Held w [(w.heap.size, .cells (opA o) 26)] W ∧ W.cell? ⟨w.heap.size, 0, none⟩ = some (.int .i64 o.st) ∧ W.cell? ⟨w.heap.size, 1, none⟩ = some (.int .i64 o.sr) ∧ W.cell? ⟨w.heap.size, 2, none⟩ = some (.int .i64 o.k) ∧ W.cell? ⟨w.heap.size, 3, none⟩ = some (.int .i64 o.pt) ∧ W.cell? ⟨w.heap.size, 4, none⟩ = some (.int .i64 o.pr) ∧ W.cell? ⟨w.heap.size, 5, none⟩ = some (.int .i64 o.it) ∧ W.cell? ⟨w.heap.size, 6, none⟩ = some (.int .i64 o.ir) ∧ W.cell? ⟨w.heap.size, 7, none⟩ = some (.int .i64 o.tt) ∧ W.cell? ⟨w.heap.size, 8, none⟩ = some (.int .i64 o.tr) ∧ W.cell? ⟨w.heap.size, 9, none⟩ = some (.string o.name) ∧ W.cell? ⟨w.heap.size, 10, none⟩ = some (.string o.new) ∧ W.cell? ⟨w.heap.size, 11, none⟩ = some (.int .i64 o.off) ∧ W.cell? ⟨w.heap.size, 12, none⟩ = some (.string o.data)) (first | (with_reducible assumption) | (with_reducible exact put_one _ hS0) | (with_reducible exact put_two _ _ hS0))
              (first
                | (go_at_call 44; refine Calls.mono (HK.out _ _ _ _ _ _ (by omega) (held_put ((HH4.out.step (((Below.refl w4.heap.size w4).alloc (Nat.le_refl _) _).alloc (by simp) _)).drew)) (put_new w4 _ _ _ _ _).1 (put_new w4 _ _ _ _ _).2.1 (put_new w4 _ _ _ _ _).2.2.1 (put_new w4 _ _ _ _ _).2.2.2 (by rw [List.drop_of_length_le (by have := HL.out; omega)]; exact ops_none _) (fun _ => rfl)) ?_; rintro e w7 ⟨B7, k7, rfl, q1, q2, q3, q4, hb7⟩; have hS7 := held_put (((HH4.out.step (((Below.refl w4.heap.size w4).alloc (Nat.le_refl _) _).alloc (by simp) _)).drew).step hb7)))
            all_goals
              have HF := Lib.hid (And.intro q1 (And.intro q2 (And.intro q3 (And.intro q4 hS7.1.below))))
              clear hS0 hS1 hS7 q1 q2 q3 q4 hb7 HK HH4
              go_wp2_with fail
              refine bodyPost_ret (v := .tuple #[.slice B7 L.length k7, .int .i64 0, .bool true]) (by simp [results, Tryz.results13, go_sem]) rfl ?_
              rw [HR2.out]
              exact ⟨B7, k7, rfl, HF.out⟩
          | some ad =>
            obtain ⟨gi, of, sb⟩ := ad
            by_cases hdk : c = b
            · subst hdk
              subst hbe
              have i1 : (0 : Int) ≤ ((n : Nat) : Int) := by omega
              have i2 : ((n : Nat) : Int) ≤ ((n : Nat) : Int) := by omega
              have i3 : ((n : Nat) : Int) ≤ ((n : Nat) : Int) := by omega
              go_upto_region 6 with fail
              go_region_held3 (fun W => Held w [(w.heap.size, .cells (opA o) 26)] W ∧ W.cell? ⟨w.heap.size, 0, none⟩ = some (.int .i64 o.st) ∧ W.cell? ⟨w.heap.size, 1, none⟩ = some (.int .i64 o.sr) ∧ W.cell? ⟨w.heap.size, 2, none⟩ = some (.int .i64 o.k) ∧ W.cell? ⟨w.heap.size, 3, none⟩ = some (.int .i64 o.pt) ∧ W.cell? ⟨w.heap.size, 4, none⟩ = some (.int .i64 o.pr) ∧ W.cell? ⟨w.heap.size, 5, none⟩ = some (.int .i64 o.it) ∧ W.cell? ⟨w.heap.size, 6, none⟩ = some (.int .i64 o.ir) ∧ W.cell? ⟨w.heap.size, 7, none⟩ = some (.int .i64 o.tt) ∧ W.cell? ⟨w.heap.size, 8, none⟩ = some (.int .i64 o.tr) ∧ W.cell? ⟨w.heap.size, 9, none⟩ = some (.string o.name) ∧ W.cell? ⟨w.heap.size, 10, none⟩ = some (.string o.new) ∧ W.cell? ⟨w.heap.size, 11, none⟩ = some (.int .i64 o.off) ∧ W.cell? ⟨w.heap.size, 12, none⟩ = some (.string o.data)) (first | (with_reducible assumption) | (with_reducible exact put_one _ hS0) | (with_reducible exact put_two _ _ hS0))
                (first
                  | (go_at_call 44; refine Calls.mono (HK.out _ _ _ _ _ _ (by omega) (held_put ((HH4.out.step (((Below.refl w4.heap.size w4).alloc (Nat.le_refl _) _).alloc (by simp) _)).drew)) (put_new w4 _ _ _ _ _).1 (put_new w4 _ _ _ _ _).2.1 (put_new w4 _ _ _ _ _).2.2.1 (put_new w4 _ _ _ _ _).2.2.2 (by rw [List.drop_of_length_le (by have := HL.out; omega)]; exact ops_none _) (fun h => by cases h)) ?_; rintro e w7 ⟨B7, k7, rfl, q1, q2, q3, q4, hb7⟩; have hS7 := held_put (((HH4.out.step (((Below.refl w4.heap.size w4).alloc (Nat.le_refl _) _).alloc (by simp) _)).drew).step hb7)))
              all_goals
                have HF := Lib.hid (And.intro q1 (And.intro q2 (And.intro q3 (And.intro q4 hS7.1.below))))
                clear hS0 hS1 hS7 q1 q2 q3 q4 hb7 HK HH4
                go_wp2_with fail
                refine bodyPost_ret (v := .tuple #[.slice B7 L.length k7, .int .i64 (n : Int), .bool true]) (by simp [results, Tryz.results13, go_sem]) rfl ?_
                rw [HR2.out]
                exact ⟨B7, k7, rfl, HF.out⟩
            · have hbc : b < c := by omega
              have hcb : ¬ c = b := by omega
              subst hbe
              have i1 : (0 : Int) ≤ ((n : Nat) : Int) := by omega
              have i2 : ((n : Nat) : Int) ≤ ((n : Nat) : Int) := by omega
              have i3 : ((n : Nat) : Int) ≤ ((c : Nat) : Int) := by omega
              go_upto_region 6 with fail
              go_region_held3 (fun W => Held w [(w.heap.size, .cells (opA o) 26)] W ∧ W.cell? ⟨w.heap.size, 0, none⟩ = some (.int .i64 o.st) ∧ W.cell? ⟨w.heap.size, 1, none⟩ = some (.int .i64 o.sr) ∧ W.cell? ⟨w.heap.size, 2, none⟩ = some (.int .i64 o.k) ∧ W.cell? ⟨w.heap.size, 3, none⟩ = some (.int .i64 o.pt) ∧ W.cell? ⟨w.heap.size, 4, none⟩ = some (.int .i64 o.pr) ∧ W.cell? ⟨w.heap.size, 5, none⟩ = some (.int .i64 o.it) ∧ W.cell? ⟨w.heap.size, 6, none⟩ = some (.int .i64 o.ir) ∧ W.cell? ⟨w.heap.size, 7, none⟩ = some (.int .i64 o.tt) ∧ W.cell? ⟨w.heap.size, 8, none⟩ = some (.int .i64 o.tr) ∧ W.cell? ⟨w.heap.size, 9, none⟩ = some (.string o.name) ∧ W.cell? ⟨w.heap.size, 10, none⟩ = some (.string o.new) ∧ W.cell? ⟨w.heap.size, 11, none⟩ = some (.int .i64 o.off) ∧ W.cell? ⟨w.heap.size, 12, none⟩ = some (.string o.data)) (first | (with_reducible assumption) | (with_reducible exact put_one _ hS0) | (with_reducible exact put_two _ _ hS0))
                (first
                  | (go_at_call 44; refine Calls.mono (HK.out _ _ _ _ _ _ (by omega) (held_put ((HH4.out.step (((Below.refl w4.heap.size w4).alloc (Nat.le_refl _) _).alloc (by simp) _)).drew)) (put_new w4 _ _ _ _ _).1 (put_new w4 _ _ _ _ _).2.1 (put_new w4 _ _ _ _ _).2.2.1 (put_new w4 _ _ _ _ _).2.2.2 (by rw [List.drop_of_length_le (by have := HL.out; omega)]; exact ops_none _) (fun h => by cases h)) ?_; rintro e w7 ⟨B7, k7, rfl, q1, q2, q3, q4, hb7⟩; have hS7 := held_put (((HH4.out.step (((Below.refl w4.heap.size w4).alloc (Nat.le_refl _) _).alloc (by simp) _)).drew).step hb7)))
              all_goals
                have HF := Lib.hid (And.intro q1 (And.intro q2 (And.intro q3 (And.intro q4 hS7.1.below))))
                clear hS0 hS1 hS7 q1 q2 q3 q4 hb7 HK HH4
                go_wp2_with fail
                refine bodyPost_ret (v := .tuple #[.slice B7 L.length k7, .int .i64 (n : Int), .bool true]) (by simp [results, Tryz.results13, go_sem]) rfl ?_
                rw [HR2.out]
                exact ⟨B7, k7, rfl, HF.out⟩
      · -- the place is behind another one
        obtain ⟨f, hf⟩ : ∃ f, f = b - 1 := ⟨_, rfl⟩
        have hbz : (b : Int) - 1 = (f : Int) := by omega
        obtain ⟨q, e⟩ := HQ.out (by omega)
        have hlx := HL.out
        obtain ⟨gi, of, hAe, hg, hrow⟩ := HX.out.row (by omega)
        obtain ⟨e0, e1, -⟩ := (hrow (b - 1) q).below hH3.out.below hg
        generalize x[b - 1]'q = a at e0 e1 e
        rw [← hf] at e0 e1
        have k0 := later_cell e0
        have k1 := later_cell e1
        have hv : ∀ W : World, (Op.equalIn 10000 24 (.agg #[.int .i64 a.st, .int .i64 a.sr]) (.agg #[.int .i64 o.st, .int .i64 o.sr])).run Tryz.prog W = .ok false W := fun W => by rw [run_eqSt]; exact congrArg (fun t => Result.ok t W) (decide_eq_false e)
        have g1 : decide (0 < b) = true := decide_eq_true (by omega)
        have g2 : (0 : Int) < (b : Int) := by omega
        have g3 : (0 : Int) ≤ (f : Int) := by omega
        have g4 : (f : Int) < (n : Int) := by omega
        subst hAe
        clear hrow e0 e1 hg e q hf hlx hb0
        go_upto_region 4 with fail
        refine wp_region_later (by kernel_rfl) (by kernel_rfl) ?_
        repeat (go_big_quiet_step (fail))
        refine wpQuiet_nil ?_
        intro _ hw'
        obtain ⟨y, rfl⟩ := hw'
        clear k0 k1 hv g1 g2 g3 g4 hbz
        have hH4 := hH3.out.step (later_below w3 y)
        clear m0 m1 hH3
        generalize later w3 y = w4 at hH4 ⊢
        have hS0 := held_put hH4
        have hS1 := held_put hH4.drew
        have HH4 := Lib.hid hH4
        clear hH4
        by_cases hbl : b < n
        · have hbc : b < c := by omega
          have hcb : ¬ c = b := by omega
          have i1 : (0 : Int) ≤ ((b : Nat) : Int) := by omega
          have i2 : ((b : Nat) : Int) ≤ ((n : Nat) : Int) := by omega
          have i3 : ((b : Nat) : Int) ≤ ((c : Nat) : Int) := by omega
          go_upto_region 6 with fail
          go_region_held3 (fun W => Held w [(w.heap.size, .cells (opA o) 26)] W ∧ W.cell? ⟨w.heap.size, 0, none⟩ = some (.int .i64 o.st) ∧ W.cell? ⟨w.heap.size, 1, none⟩ = some (.int .i64 o.sr) ∧ W.cell? ⟨w.heap.size, 2, none⟩ = some (.int .i64 o.k) ∧ W.cell? ⟨w.heap.size, 3, none⟩ = some (.int .i64 o.pt) ∧ W.cell? ⟨w.heap.size, 4, none⟩ = some (.int .i64 o.pr) ∧ W.cell? ⟨w.heap.size, 5, none⟩ = some (.int .i64 o.it) ∧ W.cell? ⟨w.heap.size, 6, none⟩ = some (.int .i64 o.ir) ∧ W.cell? ⟨w.heap.size, 7, none⟩ = some (.int .i64 o.tt) ∧ W.cell? ⟨w.heap.size, 8, none⟩ = some (.int .i64 o.tr) ∧ W.cell? ⟨w.heap.size, 9, none⟩ = some (.string o.name) ∧ W.cell? ⟨w.heap.size, 10, none⟩ = some (.string o.new) ∧ W.cell? ⟨w.heap.size, 11, none⟩ = some (.int .i64 o.off) ∧ W.cell? ⟨w.heap.size, 12, none⟩ = some (.string o.data)) (first | (with_reducible assumption) | (with_reducible exact put_one _ hS0) | (with_reducible exact put_two _ _ hS0))
            (first
              | (go_at_call 44; refine Calls.mono (HK.out _ _ _ _ _ _ (by omega) (held_put ((HH4.out.step (((Below.refl w4.heap.size w4).alloc (Nat.le_refl _) _).alloc (by simp) _)).drew)) (put_new w4 _ _ _ _ _).1 (put_new w4 _ _ _ _ _).2.1 (put_new w4 _ _ _ _ _).2.2.1 (put_new w4 _ _ _ _ _).2.2.2 (ops_drop (HXD.out _ ((HH4.out.step (((Below.refl w4.heap.size w4).alloc (Nat.le_refl _) _).alloc (by simp) _)).drew).below) hbn) (fun h => by cases h)) ?_; rintro e w7 ⟨B7, k7, rfl, q1, q2, q3, q4, hb7⟩; have hS7 := held_put (((HH4.out.step (((Below.refl w4.heap.size w4).alloc (Nat.le_refl _) _).alloc (by simp) _)).drew).step hb7)))
          all_goals
            have HF := Lib.hid (And.intro q1 (And.intro q2 (And.intro q3 (And.intro q4 hS7.1.below))))
            clear hS0 hS1 hS7 q1 q2 q3 q4 hb7 HK HH4
            go_wp2_with fail
            refine bodyPost_ret (v := .tuple #[.slice B7 L.length k7, .int .i64 (b : Int), .bool true]) (by simp [results, Tryz.results13, go_sem]) rfl ?_
            rw [HR2.out]
            exact ⟨B7, k7, rfl, HF.out⟩
        · have hbe : n = b := by omega
          by_cases hdk : c = b
          · subst hdk
            subst hbe
            have i1 : (0 : Int) ≤ ((n : Nat) : Int) := by omega
            have i2 : ((n : Nat) : Int) ≤ ((n : Nat) : Int) := by omega
            have i3 : ((n : Nat) : Int) ≤ ((n : Nat) : Int) := by omega
            go_upto_region 6 with fail
            go_region_held3 (fun W => Held w [(w.heap.size, .cells (opA o) 26)] W ∧ W.cell? ⟨w.heap.size, 0, none⟩ = some (.int .i64 o.st) ∧ W.cell? ⟨w.heap.size, 1, none⟩ = some (.int .i64 o.sr) ∧ W.cell? ⟨w.heap.size, 2, none⟩ = some (.int .i64 o.k) ∧ W.cell? ⟨w.heap.size, 3, none⟩ = some (.int .i64 o.pt) ∧ W.cell? ⟨w.heap.size, 4, none⟩ = some (.int .i64 o.pr) ∧ W.cell? ⟨w.heap.size, 5, none⟩ = some (.int .i64 o.it) ∧ W.cell? ⟨w.heap.size, 6, none⟩ = some (.int .i64 o.ir) ∧ W.cell? ⟨w.heap.size, 7, none⟩ = some (.int .i64 o.tt) ∧ W.cell? ⟨w.heap.size, 8, none⟩ = some (.int .i64 o.tr) ∧ W.cell? ⟨w.heap.size, 9, none⟩ = some (.string o.name) ∧ W.cell? ⟨w.heap.size, 10, none⟩ = some (.string o.new) ∧ W.cell? ⟨w.heap.size, 11, none⟩ = some (.int .i64 o.off) ∧ W.cell? ⟨w.heap.size, 12, none⟩ = some (.string o.data)) (first | (with_reducible assumption) | (with_reducible exact put_one _ hS0) | (with_reducible exact put_two _ _ hS0))
              (first
                | (go_at_call 44; refine Calls.mono (HK.out _ _ _ _ _ _ (by omega) (held_put ((HH4.out.step (((Below.refl w4.heap.size w4).alloc (Nat.le_refl _) _).alloc (by simp) _)).drew)) (put_new w4 _ _ _ _ _).1 (put_new w4 _ _ _ _ _).2.1 (put_new w4 _ _ _ _ _).2.2.1 (put_new w4 _ _ _ _ _).2.2.2 (by rw [List.drop_of_length_le (by have := HL.out; omega)]; exact ops_none _) (fun h => by cases h)) ?_; rintro e w7 ⟨B7, k7, rfl, q1, q2, q3, q4, hb7⟩; have hS7 := held_put (((HH4.out.step (((Below.refl w4.heap.size w4).alloc (Nat.le_refl _) _).alloc (by simp) _)).drew).step hb7)))
            all_goals
              have HF := Lib.hid (And.intro q1 (And.intro q2 (And.intro q3 (And.intro q4 hS7.1.below))))
              clear hS0 hS1 hS7 q1 q2 q3 q4 hb7 HK HH4
              go_wp2_with fail
              refine bodyPost_ret (v := .tuple #[.slice B7 L.length k7, .int .i64 (n : Int), .bool true]) (by simp [results, Tryz.results13, go_sem]) rfl ?_
              rw [HR2.out]
              exact ⟨B7, k7, rfl, HF.out⟩
          · have hbc : b < c := by omega
            have hcb : ¬ c = b := by omega
            subst hbe
            have i1 : (0 : Int) ≤ ((n : Nat) : Int) := by omega
            have i2 : ((n : Nat) : Int) ≤ ((n : Nat) : Int) := by omega
            have i3 : ((n : Nat) : Int) ≤ ((c : Nat) : Int) := by omega
            go_upto_region 6 with fail
            go_region_held3 (fun W => Held w [(w.heap.size, .cells (opA o) 26)] W ∧ W.cell? ⟨w.heap.size, 0, none⟩ = some (.int .i64 o.st) ∧ W.cell? ⟨w.heap.size, 1, none⟩ = some (.int .i64 o.sr) ∧ W.cell? ⟨w.heap.size, 2, none⟩ = some (.int .i64 o.k) ∧ W.cell? ⟨w.heap.size, 3, none⟩ = some (.int .i64 o.pt) ∧ W.cell? ⟨w.heap.size, 4, none⟩ = some (.int .i64 o.pr) ∧ W.cell? ⟨w.heap.size, 5, none⟩ = some (.int .i64 o.it) ∧ W.cell? ⟨w.heap.size, 6, none⟩ = some (.int .i64 o.ir) ∧ W.cell? ⟨w.heap.size, 7, none⟩ = some (.int .i64 o.tt) ∧ W.cell? ⟨w.heap.size, 8, none⟩ = some (.int .i64 o.tr) ∧ W.cell? ⟨w.heap.size, 9, none⟩ = some (.string o.name) ∧ W.cell? ⟨w.heap.size, 10, none⟩ = some (.string o.new) ∧ W.cell? ⟨w.heap.size, 11, none⟩ = some (.int .i64 o.off) ∧ W.cell? ⟨w.heap.size, 12, none⟩ = some (.string o.data)) (first | (with_reducible assumption) | (with_reducible exact put_one _ hS0) | (with_reducible exact put_two _ _ hS0))
              (first
                | (go_at_call 44; refine Calls.mono (HK.out _ _ _ _ _ _ (by omega) (held_put ((HH4.out.step (((Below.refl w4.heap.size w4).alloc (Nat.le_refl _) _).alloc (by simp) _)).drew)) (put_new w4 _ _ _ _ _).1 (put_new w4 _ _ _ _ _).2.1 (put_new w4 _ _ _ _ _).2.2.1 (put_new w4 _ _ _ _ _).2.2.2 (by rw [List.drop_of_length_le (by have := HL.out; omega)]; exact ops_none _) (fun h => by cases h)) ?_; rintro e w7 ⟨B7, k7, rfl, q1, q2, q3, q4, hb7⟩; have hS7 := held_put (((HH4.out.step (((Below.refl w4.heap.size w4).alloc (Nat.le_refl _) _).alloc (by simp) _)).drew).step hb7)))
            all_goals
              have HF := Lib.hid (And.intro q1 (And.intro q2 (And.intro q3 (And.intro q4 hS7.1.below))))
              clear hS0 hS1 hS7 q1 q2 q3 q4 hb7 HK HH4
              go_wp2_with fail
              refine bodyPost_ret (v := .tuple #[.slice B7 L.length k7, .int .i64 (n : Int), .bool true]) (by simp [results, Tryz.results13, go_sem]) rfl ?_
              rw [HR2.out]
              exact ⟨B7, k7, rfl, HF.out⟩

end Go.Proofs.YtdobeghbkonimaaGreatDoor

namespace Go.Proofs.YtdobeghbkonimaaGreatDoor
open Go.RowKit

theorem own_same {w w' : World} {base : Nat} {e : TypeId} {k : Nat} {v : Value} {n : Nat} {xs : List Value} (h : w.ownsRow base e k v n xs) (hb : ∀ g,v.ownBlock = some g→w'.heap[g]? = w.heap[g]?) : w'.ownsRow base e k v n xs:=by
 obtain ⟨h0,h1 | ⟨g,cap,cur,h1,h2,h3,h4⟩⟩:=h
 ·exact ⟨h0,Or.inl h1⟩
 ·exact ⟨h0,Or.inr ⟨g,cap,cur,h1,h2,(hb g (by rw [h1]; rfl)).trans h3,h4⟩⟩

end Go.Proofs.YtdobeghbkonimaaGreatDoor

namespace Go.Proofs.YtdobeghbkonimaaGreatDoor
open Go.RowKit StampMath GraphMath OpMath PackMath

structure StackO (H : GraphHave) (w W : World) (N : Nat→Prop) (a : Addr) (g : Gr) (rv : Value) (l : List Opn) : Prop where
 fx : FX H w W N a g
 own : W.ownsRow w.heap.size 26 13 rv l.length (flat (l.map opA))
 row : ∀ b,rv.ownBlock = some b→N b

section
variable {H : GraphHave} {w W W' : World} {N : Nat→Prop} {a : Addr} {g g' : Gr} {rv : Value} {l : List Opn}

theorem StackO.same (h : StackO H w W N a g rv l) (k : FX H w W' N a g') (s : Same N W W') : StackO H w W' N a g' rv l :=
 ⟨k,own_same h.own fun b hb=>s.2 b (h.row b hb),h.row⟩

theorem StackO.step (h : StackO H w W N a g rv l) (hb : Below W.heap.size W W') : StackO H w W' N a g rv l :=
 h.same (h.fx.step hb) ⟨hb.size,fun i hi=>hb.block i (h.fx.gx.lt i hi)⟩

end

end Go.Proofs.YtdobeghbkonimaaGreatDoor

namespace Go.Proofs.YtdobeghbkonimaaGreatDoor
open Go.RowKit StampMath GraphMath OpMath PackMath

set_option maxRecDepth 100000 in
set_option maxHeartbeats 3200000 in
theorem on_code (a : Addr) (S : Nat→Prop) (g : Gr) (A : Option Addr) (n c : Nat) (l : List Opn) (w : World) (T : Tab w) (hr : graphHave.rep w S a g) (hf : g.fine) (hn : n≤1000) (hl : ∀ o∈l,OpFit o) (h : OpsIn w w.heap.size A n l) :
  Calls Tryz.prog 18 #[.pointer (some a),.slice A n c] w fun e w'=>∃ b U,e = .returned (.pointer (some b))∧graphHave.rep w' U b (runG g (sortO l))∧(∀ i,U i→w.heap.size≤i)∧Below w.heap.size w w':=by
 have HCP:=Lib.hid (graphHave.copy a S g w hr hf.ok)
 have HX:=Lib.hid h
 have HF:=Lib.hid hl
 have HT:=Lib.hid T
 have hfs:=sort_sub (l:=l)
 have HFS : Hid (∀ o∈sortO l,OpFit o):=Lib.hid fun o ho=>hl o (hfs o ho)
 have hsl:=sort_len l
 have hll:=h.len
 have HS : Hid (∀ W,Below w.heap.size w W→Calls Tryz.prog 12 #[.slice A n c] W fun e w'=>∃ v,e = .returned v∧w'.ownsRow W.heap.size 26 13 v (sortO l).length (flat ((sortO l).map opA))∧Below W.heap.size W w'):=Lib.hid fun W hW=>sort_new A n c l W (tab_below T (Nat.le_refl _) hW) hn hl ((h.below hW).more hW.size)
 have hsn : (sortO l).length≤1000:=by omega
 generalize sortO l = s at HFS HS hsn ⊢
 clear hr h hl T hfs hsl hll
 go_enter Tryz.func18,Tryz.ntmps18
 go_wp2_with fail
 refine HCP.out.mono ?_
 rintro e w1 ⟨b,T1,rfl,r1,hT1,hb1⟩
 have F1 : Hid (FX graphHave w w1 (fun _=>False) b g):=Lib.hid ⟨⟨⟨T1,r1,hT1,fun _ h=>h.elim⟩,hf.ok,fun _ h=>h.elim,hb1⟩,hf⟩
 have D:=Lib.hid (HS.out w1 hb1)
 clear r1 hT1 hb1 HCP
 go_wp2_with fail
 refine D.out.mono ?_
 rintro e w2 ⟨v,rfl,hown,hb2⟩
 obtain ⟨B,cB,rfl,_⟩:=ops_own rfl hown
 have K : Hid (StackO graphHave w w2 (fun i=>False∨(w1.heap.size≤i∧i < w2.heap.size)) b g (.slice B s.length cB) s):=Lib.hid ⟨⟨F1.out.gx.grow hb2,hf⟩,own_lower hown F1.out.below.size,fun q hq=>Or.inr (hown.lt q hq)⟩
 obtain ⟨N,hN⟩ : ∃ N : Nat→Prop,N = fun i=>False∨(w1.heap.size≤i∧i < w2.heap.size):=⟨_,rfl⟩
 rw [← hN] at K
 clear hN hown hb2 D F1 HS
 go_wp2_with fail
 go_loopg [13] (s.length + 1) (fun gk i wr=>∃ k : Nat,i = .int .i64 (k : Int)∧gk + k = s.length + 1∧k≤s.length∧Hid (StackO graphHave w wr N b (runG g (s.take k)) (.slice B s.length cB) s))
 case atStart=>exact ⟨0,by go_num,by omega,by omega,K⟩
 case round =>
  clear K
  obtain ⟨k,rfl,hgk,hk,hS⟩:=hrel
  by_cases hlt : k < s.length
  ·obtain ⟨B',cB',e1,ht,_⟩:=ops_own rfl hS.out.own
   injection e1 with e1 _ e2
   subst e1 e2
   obtain ⟨gi,o,rfl,hg,hrow⟩:=ht.row (by omega)
   have hca:=hrow k hlt
   have hnx:=runG_next g (l:=s) (k:=k) hlt
   have hfit:=HFS.out _ (List.getElem_mem hlt)
   obtain ⟨d,hd⟩ : ∃ d,s[k] = d:=⟨_,rfl⟩
   rw [hd] at hca hfit hnx
   have HNX:=Lib.hid hnx
   have S1:=Lib.hid (hS.out.step ((Below.refl wr.heap.size wr).alloc (Nat.le_refl _) (.cells (opA d) 26)))
   have DD:=Lib.hid (FX.does applyHave S1.out.fx HT.out d hfit)
   have hi1 : (k : Int) < (s.length : Int):=by omega
   have hi0 : (0 : Int)≤(k : Int):=by omega
   obtain ⟨c0,c1,c2,c3,c4,c5,c6,c7,c8,c9,c10,c11,c12⟩:=hca
   clear hrow hd hnx hfit ht hg
   unfold opA at DD
   go_wp2_with fail
   refine DD.out.mono ?_
   rintro e w5 ⟨rfl,h5,hs5⟩
   have S5:=Lib.hid (S1.out.same h5 hs5)
   rw [← HNX.out] at S5
   clear h5 hs5 DD S1 hS c0 c1 c2 c3 c4 c5 c6 c7 c8 c9 c10 c11 c12
   go_wp2_with fail
   go_roundg (gk - 1)
   case measure=>omega
   case rel=>exact ⟨k + 1,by go_num,by omega,by omega,S5⟩
  ·have hc : ¬ (k : Int) < (s.length : Int):=by omega
   have hS2:=hS.out
   rw [List.take_of_length_le (by omega)] at hS2
   have HF2:=Lib.hid hS2
   clear hS2 hS
   go_wp2_with fail
   go_ret
   obtain ⟨U,u1,u2,_⟩:=HF2.out.fx.gx.at'
   exact ⟨b,rfl,U,u1,u2,HF2.out.fx.below⟩

set_option maxRecDepth 100000 in
set_option maxHeartbeats 3200000 in
theorem on_nil (A : Option Addr) (n c : Nat) (l : List Opn) (w : World) (T : Tab w) (hn : n≤1000) (hl : ∀ o∈l,OpFit o) (h : OpsIn w w.heap.size A n l) :
  Calls Tryz.prog 18 #[.pointer none,.slice A n c] w fun e w'=>e = .returned (.pointer none)∧Below w.heap.size w w':=by
 have HT:=Lib.hid T
 have hfs:=sort_sub (l:=l)
 have HFS : Hid (∀ o∈sortO l,OpFit o):=Lib.hid fun o ho=>hl o (hfs o ho)
 have HS : Hid (∀ W,Below w.heap.size w W→Calls Tryz.prog 12 #[.slice A n c] W (OpsPost (sortO l) W)):=Lib.hid fun W hW=>sort_code A n c l W (tab_below T (Nat.le_refl _) hW) hn hl ((h.below hW).more hW.size)
 unfold OpsPost at HS
 have hsl:=sort_len l
 have hll:=h.len
 have hsn : (sortO l).length≤1000:=by omega
 generalize sortO l = s at HFS HS hsn
 clear h hl T hfs hsl hll
 go_enter Tryz.func18,Tryz.ntmps18
 go_wp2_with fail
 refine (graphHave.nilCopy _).mono ?_
 rintro e w1 ⟨rfl,hb1⟩
 have D:=Lib.hid (HS.out w1 hb1)
 have B1:=Lib.hid hb1
 clear hb1 HS
 go_wp2_with fail
 refine D.out.mono ?_
 rintro e w2 ⟨B,cB,rfl,hx,_,_,_,hb2⟩
 have HX:=Lib.hid hx
 have B2:=Lib.hid (below_step B1.out hb2)
 clear hx hb2 D B1
 go_wp2_with fail
 go_loopg [13] (s.length + 1) (fun gk i wr=>∃ k : Nat,i = .int .i64 (k : Int)∧gk + k = s.length + 1∧k≤s.length∧Hid (Below w2.heap.size w2 wr))
 case atStart=>exact ⟨0,by go_num,by omega,by omega,Below.refl _ _⟩
 case round =>
  obtain ⟨k,rfl,hgk,hk,hB⟩:=hrel
  by_cases hlt : k < s.length
  ·obtain ⟨gi,o,rfl,hg,hrow⟩:=HX.out.row (by omega)
   have hca:=(hrow k hlt).below hB.out hg
   have hfit:=HFS.out _ (List.getElem_mem hlt)
   generalize s[k] = d at hca hfit
   have hBA : Below w2.heap.size w2 (wr.alloc (.cells (opA d) 26)):=hB.out.alloc hB.out.size _
   have TA : Tab (wr.alloc (.cells (opA d) 26)):=tab_below HT.out (Nat.le_refl _) (below_step B2.out hBA)
   have HBA:=Lib.hid hBA
   have DD:=Lib.hid (applyHave.nilDo d (wr.alloc (.cells (opA d) 26)) hfit)
   have hi1 : (k : Int) < (s.length : Int):=by omega
   have hi0 : (0 : Int)≤(k : Int):=by omega
   obtain ⟨c0,c1,c2,c3,c4,c5,c6,c7,c8,c9,c10,c11,c12⟩:=hca
   clear hrow hfit hg TA hBA
   unfold opA at DD
   go_wp2_with fail
   refine DD.out.mono ?_
   rintro e w5 ⟨rfl,hb5⟩
   have B5:=Lib.hid (below_step HBA.out hb5)
   clear hb5 DD c0 c1 c2 c3 c4 c5 c6 c7 c8 c9 c10 c11 c12
   go_wp2_with fail
   go_roundg (gk - 1)
   case measure=>omega
   case rel=>exact ⟨k + 1,by go_num,by omega,by omega,B5⟩
  ·have hc : ¬ (k : Int) < (s.length : Int):=by omega
   go_wp2_with fail
   go_ret
   exact ⟨rfl,below_step B2.out hB.out⟩

set_option maxRecDepth 100000 in
theorem of_code (A : Option Addr) (n c : Nat) (l : List Opn) (w : World) (T : Tab w) (hn : n≤1000) (hl : ∀ o∈l,OpFit o) (h : OpsIn w w.heap.size A n l) :
  Calls Tryz.prog 16 #[.slice A n c] w fun e w'=>∃ b U,e = .returned (.pointer (some b))∧graphHave.rep w' U b (runA (sortO l))∧(∀ i,U i→w.heap.size≤i)∧Below w.heap.size w w':=by
 have HO : Hid (∀ (a : Addr) (S : Nat→Prop) (W : World),Below w.heap.size w W→graphHave.rep W S a newG→Calls Tryz.prog 18 #[.pointer (some a),.slice A n c] W fun e w'=>∃ b U,e = .returned (.pointer (some b))∧graphHave.rep w' U b (runA (sortO l))∧(∀ i,U i→W.heap.size≤i)∧Below W.heap.size W w'):=Lib.hid fun a S W hW hr =>
  on_code a S newG A n c l W (tab_below T (Nat.le_refl _) hW) hr new_fine hn hl ((h.below hW).more hW.size)
 generalize runA (sortO l) = φ at HO ⊢
 clear h hl
 go_enter Tryz.func16,Tryz.ntmps16
 go_wp2_with fail
 refine (graphHave.new _).mono ?_
 rintro e w1 ⟨a,S,rfl,r1,_,hb1⟩
 have D:=Lib.hid (HO.out a S w1 hb1 r1)
 have B1:=Lib.hid hb1
 clear r1 hb1 HO
 go_wp2_with fail
 refine D.out.mono ?_
 rintro e w2 ⟨b,U,rfl,u1,u2,hb2⟩
 have HU:=Lib.hid (And.intro u1 (And.intro (fun i hi=>Nat.le_trans B1.out.size (u2 i hi)) (below_step B1.out hb2)))
 clear u1 u2 hb2 D
 go_wp2_with fail
 go_ret
 exact ⟨b,U,rfl,HU.out.1,HU.out.2.1,HU.out.2.2⟩

end Go.Proofs.YtdobeghbkonimaaGreatDoor

namespace Go.Proofs.YtdobeghbkonimaaGreatDoor
open Go.RowKit StampMath GraphMath OpMath PackMath

theorem foldHave : FoldHave graphHave where
 sort:=fun A n c l w _ hn hl h=>sort_code A n c l w inferInstance hn hl h
 put:=fun A n c x o w _ hn hnc hcm hd _ ho hx h=>put_code A n c x o w inferInstance hn hnc hcm hd ho hx h
 below:=fun A n c x s w hn hx h=>below_code A n c x s w hn hx h
 of:=fun A n c l w _ hn hl h=>of_code A n c l w inferInstance hn hl h
 on:=fun a S g A n c l w _ hr _ hf hn hl h=>on_code a S g A n c l w inferInstance hr hf hn hl h
 nilOn:=fun A n c l w _ hn hl h=>on_nil A n c l w inferInstance hn hl h

end Go.Proofs.YtdobeghbkonimaaGreatDoor

namespace Go.Proofs.YtdobeghbkonimaaGreatDoor
open Go.ChangeShapes Go.WideShapes Go.RowKit StampMath GraphMath

variable {H : Type} {enc : TypeId × Value→H}

theorem st_trod {w : World} {n : Nat} {a b : Value} {y : DataW H × List MemPlace} (h : DataW.trod enc Tryz.prog w 0 (fun _=>true) true n 24 [a,b] = some y) : ∃ s : St,a = .int .i64 s.1∧b = .int .i64 s.2:=by
 have h1 : Tryz.prog.cellsOf 3 = 1:=by kernel_rfl
 have h2 : Tryz.prog.cellsOf 2 = 1:=by kernel_rfl
 obtain ⟨xs,m,_,_,_,hlen,hg⟩:=DataW.trod_struct Tryz.underlying24 h
 match xs,hlen with
 | [y0,y1],_ =>
  have g0 : DataW.trod enc Tryz.prog w 0 (fun _=>true) true m 2 (([a,b].drop 0).take (Tryz.prog.cellsOf 2)) = some y0:=hg 0 _ rfl
  have g1 : DataW.trod enc Tryz.prog w 0 (fun _=>true) true m 3 (([a,b].drop 1).take (Tryz.prog.cellsOf 3)) = some y1:=hg 1 _ rfl
  rw [h2] at g0
  rw [h1] at g1
  obtain ⟨t,e0,_,_⟩:=DataW.trod_int Tryz.underlying2 g0
  obtain ⟨r,e1,_,_⟩:=DataW.trod_int Tryz.underlying3 g1
  simp at e0 e1
  exact ⟨(t,r),e0,e1⟩

set_option maxRecDepth 100000 in
theorem open_st {w : World} {v : Value} {d : DataW H} {p : List MemPlace} {r : Reach} {b0 : Nat} (hv : Value.okWide Tryz.prog w r b0 24 v) (h : DataW.Trod enc Tryz.prog w 0 (fun _=>true) true 24 v d p) :
  ∃ s : St,v = .agg (stA s):=by
 have hC : Tryz.prog.cellsOf 24 = 2:=by kernel_rfl
 obtain ⟨cs,rfl,hsz⟩:=okWide_struct Tryz.underlying24 hv
 obtain ⟨l⟩:=cs
 match l,hsz.trans hC with
 | [c0,c1],_ =>
  obtain ⟨fuel,hf⟩:=h
  obtain ⟨s,rfl,rfl⟩:=st_trod (a:=c0) (b:=c1) hf
  exact ⟨s,rfl⟩

theorem cell_spot {w : World} {g o : Nat} {s : Option Nat} {v : Value} (h : w.cell? ⟨g,o,s⟩ = some v) : s = none:=by
 unfold World.cell? at h
 cases hb : w.heap[g]? with
 | none=>simp [hb] at h
 | some x =>
  cases x <;> simp [hb] at h
  exact h.1

end Go.Proofs.YtdobeghbkonimaaGreatDoor

namespace Go.Proofs.YtdobeghbkonimaaGreatDoor
open Go.ChangeShapes Go.WideShapes Go.RowKit StampMath GraphMath

variable {H : Type} {enc : TypeId × Value→H}

set_option maxRecDepth 100000 in
theorem open_tab {α : Type} (encA : α→Array Value) (Good : α→Prop) (dflt : α) {k : Nat} (hk : 0 < k) (hsz : ∀ x,(encA x).size = k) {T E : TypeId} (hT : Tryz.prog.underlying T = some (.slice E)) (hC : Tryz.prog.cellsOf E = k) {w : World}
  (one : ∀ {n : Nat} {cs : List Value} {y : DataW H × List MemPlace},cs.length = k→DataW.trod enc Tryz.prog w 0 (fun _=>true) true n E cs = some y→∃ x,cs = (encA x).toList∧Good x)
  {v : Value} {d : DataW H} {p : List MemPlace} {r : Reach} {b0 : Nat} (hv : Value.okWide Tryz.prog w r b0 T v) (h : DataW.Trod enc Tryz.prog w 0 (fun _=>true) true T v d p) :
  ∃ (A : Option Addr) (n c : Nat) (xs : List α),v = .slice A n c∧n≤c∧c≤maxLen∧(∀ x∈xs,Good x)∧TabIn k w w.heap.size A n (xs.map encA)∧(A = Option.none→c = 0):=by
 obtain ⟨A,n,c,rfl⟩:=okWide_slice hT hv
 obtain ⟨fuel,hf⟩:=h
 rcases Deep.open_slice hT hf with ⟨hcs,_⟩ | ⟨a,len,cap,m,kk,D,Pl,hcs,_,hlc,hcm,hm,hx,hi⟩
 ·simp only [Value.cells,List.cons.injEq,and_true,Value.slice.injEq] at hcs
  obtain ⟨rfl,rfl,rfl⟩:=hcs
  exact ⟨Option.none,0,0,[],rfl,by omega,by decide,(fun x hx=>by cases hx),TabIn.nil k w _ _,fun _=>rfl⟩
 ·simp only [Value.cells,List.cons.injEq,and_true,Value.slice.injEq] at hcs
  obtain ⟨rfl,rfl,rfl⟩:=hcs
  have hmc : m = c:=by rw [hm]; rfl
  subst hmc
  rw [hC] at hi
  have each : ∀ i,i < n→∃ x : α,(∀ j v,(encA x)[j]? = some v→w.cell? ((a.add (i * k)).add j) = some v)∧Good x:=by
   intro i hin
   obtain ⟨cs,hc,ht⟩:=hi i (by omega)
   obtain ⟨_,hl,hat⟩:=World.cells?_some hc
   obtain ⟨x,he,hs⟩:=one hl ht
   refine ⟨x,fun j v hj=>?_,hs⟩
   have hjk : j < k:=by rw [← hsz x]; exact (Array.getElem?_eq_some_iff.1 hj).1
   rw [hat j hjk,he]
   simpa using hj
  obtain ⟨g,o,sp⟩:=a
  have hsp : 0 < n→sp = Option.none:=fun hn=>by
   obtain ⟨x,hc,_⟩:=each 0 hn
   have h0 : 0 < (encA x).size:=by rw [hsz]; exact hk
   exact cell_spot (by simpa [Addr.add] using hc 0 _ (Array.getElem?_eq_getElem h0))
  refine ⟨some ⟨g,o,sp⟩,n,m,(List.range n).map (fun i=>if h : i < n then Classical.choose (each i h) else dflt),rfl,hlc,hcm,fun x hx=>?_,⟨by simp,fun hn=>?_⟩,fun h=>by cases h⟩
  ·obtain ⟨i,hi1,rfl⟩:=List.mem_map.1 hx
   have hin:=List.mem_range.1 hi1
   rw [dif_pos hin]
   exact (Classical.choose_spec (each i hin)).2
  ·have hs:=hsp hn
   subst hs
   obtain ⟨x0,c0,_⟩:=each 0 hn
   have h0 : 0 < (encA x0).size:=by rw [hsz]; exact hk
   refine ⟨g,o,rfl,by have:=World.block_lt_of_cell? _ _ (c0 0 _ (Array.getElem?_eq_getElem h0)); simpa [Addr.add] using this,fun j hj i v hv=>?_⟩
   have hjn : j < n:=by simpa using hj
   have he : (((List.range n).map (fun i=>if h : i < n then Classical.choose (each i h) else dflt)).map encA)[j]'hj = encA (Classical.choose (each j hjn)):=by
    rw [List.getElem_map,List.getElem_map,List.getElem_range,dif_pos hjn]
   rw [he] at hv
   have q:=(Classical.choose_spec (each j hjn)).1 i v hv
   rw [tab_add,tab_add] at q
   exact q

end Go.Proofs.YtdobeghbkonimaaGreatDoor

namespace Go.Proofs.YtdobeghbkonimaaGreatDoor
open Go.ChangeShapes Go.WideShapes Go.RowKit OpMath PackMath

variable {H : Type} {enc : TypeId × Value→H}

theorem stamp_trod {w : World} {n : Nat} {a b : Value} {y : DataW H × List MemPlace} (h : DataW.trod enc Tryz.prog w 0 (fun _=>true) true n 24 [a,b] = some y) :
  ∃ t r : Int,a = .int .i64 t∧b = .int .i64 r∧IsI64 t∧IsI64 r:=by
 have h1 : Tryz.prog.cellsOf 3 = 1:=by kernel_rfl
 have h2 : Tryz.prog.cellsOf 2 = 1:=by kernel_rfl
 obtain ⟨xs,m,_,_,_,hlen,hg⟩:=DataW.trod_struct Tryz.underlying24 h
 match xs,hlen with
 | [y0,y1],_ =>
  have g0 : DataW.trod enc Tryz.prog w 0 (fun _=>true) true m 2 (([a,b].drop 0).take (Tryz.prog.cellsOf 2)) = some y0:=hg 0 _ rfl
  have g1 : DataW.trod enc Tryz.prog w 0 (fun _=>true) true m 3 (([a,b].drop 1).take (Tryz.prog.cellsOf 3)) = some y1:=hg 1 _ rfl
  rw [h2] at g0
  rw [h1] at g1
  obtain ⟨t,e0,_,w0⟩:=DataW.trod_int Tryz.underlying2 g0
  obtain ⟨r,e1,_,w1⟩:=DataW.trod_int Tryz.underlying3 g1
  simp at e0 e1
  exact ⟨t,r,e0,e1,bounds_i64 w0,bounds_i64 w1⟩

set_option maxRecDepth 100000 in
theorem op_trod {w : World} {n : Nat} {c0 c1 c2 c3 c4 c5 c6 c7 c8 c9 c10 c11 c12 : Value} {y : DataW H × List MemPlace} (h : DataW.trod enc Tryz.prog w 0 (fun _=>true) true n 26 [c0,c1,c2,c3,c4,c5,c6,c7,c8,c9,c10,c11,c12] = some y) :
  ∃ o : Opn,Value.agg #[c0,c1,c2,c3,c4,c5,c6,c7,c8,c9,c10,c11,c12] = .agg (opA o)∧Ok64 o∧o.name.size≤maxLen∧o.new.size≤maxLen∧o.data.size≤maxLen:=by
 have hC1 : Tryz.prog.cellsOf 3 = 1:=by kernel_rfl
 have hC2 : Tryz.prog.cellsOf 24 = 2:=by kernel_rfl
 have hC3 : Tryz.prog.cellsOf 9 = 1:=by kernel_rfl
 obtain ⟨xs,n,_,_,_,hlen,hg⟩:=DataW.trod_struct Tryz.underlying26 h
 match xs,hlen with
 | [y0,y1,y2,y3,y4,y5,y6,y7,y8],_ =>
  have g0 : DataW.trod enc Tryz.prog w 0 (fun _=>true) true n 24 (([c0,c1,c2,c3,c4,c5,c6,c7,c8,c9,c10,c11,c12].drop 0).take (Tryz.prog.cellsOf 24)) = some y0:=hg 0 _ rfl
  have g1 : DataW.trod enc Tryz.prog w 0 (fun _=>true) true n 3 (([c0,c1,c2,c3,c4,c5,c6,c7,c8,c9,c10,c11,c12].drop 2).take (Tryz.prog.cellsOf 3)) = some y1:=hg 1 _ rfl
  have g2 : DataW.trod enc Tryz.prog w 0 (fun _=>true) true n 24 (([c0,c1,c2,c3,c4,c5,c6,c7,c8,c9,c10,c11,c12].drop 3).take (Tryz.prog.cellsOf 24)) = some y2:=hg 2 _ rfl
  have g3 : DataW.trod enc Tryz.prog w 0 (fun _=>true) true n 24 (([c0,c1,c2,c3,c4,c5,c6,c7,c8,c9,c10,c11,c12].drop 5).take (Tryz.prog.cellsOf 24)) = some y3:=hg 3 _ rfl
  have g4 : DataW.trod enc Tryz.prog w 0 (fun _=>true) true n 24 (([c0,c1,c2,c3,c4,c5,c6,c7,c8,c9,c10,c11,c12].drop 7).take (Tryz.prog.cellsOf 24)) = some y4:=hg 4 _ rfl
  have g5 : DataW.trod enc Tryz.prog w 0 (fun _=>true) true n 9 (([c0,c1,c2,c3,c4,c5,c6,c7,c8,c9,c10,c11,c12].drop 9).take (Tryz.prog.cellsOf 9)) = some y5:=hg 5 _ rfl
  have g6 : DataW.trod enc Tryz.prog w 0 (fun _=>true) true n 9 (([c0,c1,c2,c3,c4,c5,c6,c7,c8,c9,c10,c11,c12].drop 10).take (Tryz.prog.cellsOf 9)) = some y6:=hg 6 _ rfl
  have g7 : DataW.trod enc Tryz.prog w 0 (fun _=>true) true n 3 (([c0,c1,c2,c3,c4,c5,c6,c7,c8,c9,c10,c11,c12].drop 11).take (Tryz.prog.cellsOf 3)) = some y7:=hg 7 _ rfl
  have g8 : DataW.trod enc Tryz.prog w 0 (fun _=>true) true n 9 (([c0,c1,c2,c3,c4,c5,c6,c7,c8,c9,c10,c11,c12].drop 12).take (Tryz.prog.cellsOf 9)) = some y8:=hg 8 _ rfl
  rw [hC2] at g0 g2 g3 g4
  rw [hC1] at g1 g7
  rw [hC3] at g5 g6 g8
  obtain ⟨st,sr,rfl,rfl,i0,i1⟩:=stamp_trod (a:=c0) (b:=c1) g0
  obtain ⟨k,e2,_,w2⟩:=DataW.trod_int Tryz.underlying3 g1
  obtain ⟨pt,pr,rfl,rfl,i3,i4⟩:=stamp_trod (a:=c3) (b:=c4) g2
  obtain ⟨it,ir,rfl,rfl,i5,i6⟩:=stamp_trod (a:=c5) (b:=c6) g3
  obtain ⟨tt,tr,rfl,rfl,i7,i8⟩:=stamp_trod (a:=c7) (b:=c8) g4
  obtain ⟨a,e9,_,w9⟩:=DataW.trod_string Tryz.underlying9 g5
  obtain ⟨b,e10,_,w10⟩:=DataW.trod_string Tryz.underlying9 g6
  obtain ⟨f,e11,_,w11⟩:=DataW.trod_int Tryz.underlying3 g7
  obtain ⟨c,e12,_,w12⟩:=DataW.trod_string Tryz.underlying9 g8
  simp at e2 e9 e10 e11 e12
  subst e2 e9 e10 e11 e12
  exact ⟨⟨st,sr,k,pt,pr,it,ir,tt,tr,a,b,f,c⟩,rfl,⟨i0,i1,bounds_i64 w2,i3,i4,i5,i6,i7,i8,bounds_i64 w11⟩,w9,w10,w12⟩

set_option maxRecDepth 100000 in
theorem open_op {w : World} {v : Value} {d : DataW H} {p : List MemPlace} {r : Reach} {b0 : Nat} (hv : Value.okWide Tryz.prog w r b0 26 v) (h : DataW.Trod enc Tryz.prog w 0 (fun _=>true) true 26 v d p) :
  ∃ o : Opn,v = .agg (opA o)∧Ok64 o∧o.name.size≤maxLen∧o.new.size≤maxLen∧o.data.size≤maxLen:=by
 have hC : Tryz.prog.cellsOf 26 = 13:=by kernel_rfl
 obtain ⟨cs,rfl,hsz⟩:=okWide_struct Tryz.underlying26 hv
 obtain ⟨l⟩:=cs
 match l,hsz.trans hC with
 | [c0,c1,c2,c3,c4,c5,c6,c7,c8,c9,c10,c11,c12],_ =>
  obtain ⟨fuel,hf⟩:=h
  exact op_trod (c0:=c0) (c1:=c1) (c2:=c2) (c3:=c3) (c4:=c4) (c5:=c5) (c6:=c6) (c7:=c7) (c8:=c8) (c9:=c9) (c10:=c10) (c11:=c11) (c12:=c12) hf

end Go.Proofs.YtdobeghbkonimaaGreatDoor

namespace Go.Proofs.YtdobeghbkonimaaGreatDoor
open Go.ChangeShapes Go.WideShapes Go.RowKit StampMath GraphMath OpMath PackMath

variable {H : Type} {enc : TypeId × Value→H}

set_option maxRecDepth 100000 in
theorem open_ops {w : World} {v : Value} {d : DataW H} {p : List MemPlace} {r : Reach} {b0 : Nat} (hv : Value.okWide Tryz.prog w r b0 22 v) (h : DataW.Trod enc Tryz.prog w 0 (fun _=>true) true 22 v d p) :
  ∃ (A : Option Addr) (n c : Nat) (l : List Opn),v = .slice A n c∧n≤c∧c≤maxLen∧(∀ x∈l,OpFit x)∧OpsIn w w.heap.size A n l:=by
 obtain ⟨A,n,c,l,h1,h2,h3,h4,h5,_⟩:=open_tab opA OpFit ⟨0,0,0,0,0,0,0,0,0,⟨#[]⟩,⟨#[]⟩,0,⟨#[]⟩⟩ (k:=13) (by omega) (fun _=>rfl) Tryz.underlying22 (by kernel_rfl) (fun {n cs y} hl ht=>by
  match cs,hl with
  | [c0,c1,c2,c3,c4,c5,c6,c7,c8,c9,c10,c11,c12],_ =>
   obtain ⟨o,he,q1,q2,q3,q4⟩:=op_trod (c0:=c0) (c1:=c1) (c2:=c2) (c3:=c3) (c4:=c4) (c5:=c5) (c6:=c6) (c7:=c7) (c8:=c8) (c9:=c9) (c10:=c10) (c11:=c11) (c12:=c12) ht
   simp only [Value.agg.injEq] at he
   exact ⟨o,by rw [← he],⟨q1,q2,q3,q4⟩⟩) hv h
 exact ⟨A,n,c,l,h1,h2,h3,h4,h5⟩

end Go.Proofs.YtdobeghbkonimaaGreatDoor

namespace Go.Proofs.YtdobeghbkonimaaGreatDoor
open Go.ChangeShapes Go.WideShapes Go.ChangeAt Go.RowKit

theorem tab_global : Tryz.prog.globalNamed "thimble/op.fields" = some 0:=by kernel_rfl
theorem tab_type : (Tryz.prog.globals[0]?).map (·.type) = some 182:=by kernel_rfl

theorem tab_met (os : Os) (args : Array Value) : laidMetH Tryz.prog [("thimble/op.fields",Rows.laid_thimble_op_fields)] ((World.doorLaid Tryz.prog 400 os).forCall (fun _ _=>0) ⟨#[],args,[]⟩).memory :=
 laidMetH_of_parts3 (fuel:=8) (laidMet_of_run' 8 (by kernel_rfl) (by kernel_rfl)) (by kernel_rfl) (by kernel_rfl)

theorem tab_of_laid {W : World} (h : laidMetH Tryz.prog [("thimble/op.fields",Rows.laid_thimble_op_fields)] W) : Tab W:=by
 rw [MakeChecks.laidMetH_plain _ _ _ (by kernel_rfl)] at h
 obtain ⟨ps,⟨g0,t0,cs0,f0,p0,q0,hg0,ht0,hv0,hd0,_⟩,_,_⟩:=h
 obtain rfl:=Option.some.inj (tab_global.symm.trans hg0)
 obtain rfl:=Option.some.inj (tab_type.symm.trans ht0)
 obtain ⟨xs,m,rfl,hx,hlen,hn,hel⟩:=DataW.trod_array Tryz.underlying182 hd0
 have c1 : Tryz.prog.cellsOf 3 = 1:=by kernel_rfl
 have hm : xs.map (·.1) = tabL.map fun n=>DataW.lit (.int .i64 n):=by
  have h2:=(Prod.mk.inj hx).1
  exact (DataW.agg.inj h2).symm
 refine ⟨Lib.hid fun i x hi=>?_⟩
 have hl : i < 11:=(List.getElem?_eq_some_iff.1 hi).1
 have hE:=hel i hl
 rw [c1,Nat.mul_one] at hE
 have hy : (xs.map (·.1))[i]? = some (DataW.lit (.int .i64 x)):=by rw [hm,List.getElem?_map,hi]; rfl
 rw [List.getElem?_map] at hy
 cases hxi : xs[i]? with
 | none=>rw [hxi] at hy; cases hy
 | some y =>
  rw [hxi] at hE hy
  simp only [Option.map_some,Option.some.injEq] at hy
  obtain ⟨k,e1,e2,_⟩:=DataW.trod_int Tryz.underlying3 hE
  rw [e2] at hy
  simp only [DataW.lit.injEq,Lit.int.injEq,true_and] at hy
  subst hy
  have hc:=World.var?_cell hg0 hv0 i
  rw [hc,← Array.getElem?_toList]
  have h3 : (cs0.toList.drop i).head? = some (.int .i64 k):=by
   cases hdr : cs0.toList.drop i with
   | nil=>rw [hdr] at e1; simp at e1
   | cons a r=>rw [hdr] at e1; simp at e1; rw [e1]; rfl
  rw [List.head?_drop] at h3
  exact h3

end Go.Proofs.YtdobeghbkonimaaGreatDoor
