/-
 What is folded is what the document folds: the order, the putting, how many lie below, and the graphs: for all lists of operations (60 at most), all operations and all stamps (made by gen_foldtells.py).
-/
import Derived.Test.YtdobeghbkonimaaGreatDoorZ01
import Derived.Test.YtdobeghbkonimaaGreatDoorZ01
import Derived.Test.YtdobeghbkonimaaGreatDoorZX00
import Derived.Test.YtdobeghbkonimaaGreatDoorZX01
import Derived.Test.YtdobeghbkonimaaGreatDoorZX07
import Derived.Test.YtdobeghbkonimaaGreatDoorZ01
import Derived.Test.YtdobeghbkonimaaGreatDoorZX02
import Derived.Test.YtdobeghbkonimaaGreatDoorZX08
import Derived.Test.YtdobeghbkonimaaGreatDoorZ01
import Derived.Test.YtdobeghbkonimaaGreatDoorZ01
import Derived.Test.YtdobeghbkonimaaGreatDoorZ01
import Derived.Deep.RegionHeld3
import Derived.Deep.CutBlock
import Derived.Deep.CutRange
import Derived.OpenShut
namespace Go.Proofs.YtdobeghbkonimaaGreatDoor.lawFoldTells
open Go.RowKit StampMath GraphMath OpMath PackMath

theorem kept_of {C : Prop} {V W : World} (h : C∧KeptFrom V W) : Below V.heap.size V W:=h.2

theorem c8 {N : Nat→Prop} {V : World} {X8 : Option Addr} {n8 c8 : Nat} {Y8 : Option Addr} {m8 d8 : Nat} {φ : Gr} (hok : φ.ok) (hxx : GrAt N V (.agg #[.slice X8 n8 c8,.slice Y8 m8 d8]) φ) (W : World) (hW : Below V.heap.size V W) : Calls Tryz.prog 25 #[.agg #[.slice X8 n8 c8,.slice Y8 m8 d8]] W (InosPost (inodesG φ) W):=by
 have hn1 : φ.I.length≤1000:=hok.lenI
 have hm1 : φ.E.length≤1000:=hok.lenE
 obtain ⟨A1,n1,c1,A2,m2,d2,e,hI,_,hEE,_⟩:=hxx
 simp only [Value.agg.injEq,Array.mk.injEq,List.cons.injEq,Value.slice.injEq,and_true] at e
 obtain ⟨⟨rfl,rfl,rfl⟩,rfl,rfl,rfl⟩:=e
 have l1:=hI.len
 have l2:=hEE.len
 exact refInodes X8 Y8 n8 c8 m8 d8 φ (by omega) (by omega) W ((hI.below hW).more hW.size) ((hEE.below hW).more hW.size)

theorem c9 {φ : Gr} (hok : φ.ok) (B B' : Option Addr) (k k' : Nat) (W : World) (h1 : InosIn W W.heap.size B (inodesG φ).length (inodesG φ)) (h2 : InosIn W W.heap.size B' (inodesG φ).length (inodesG φ)) : Calls Tryz.prog 23 #[.slice B (inodesG φ).length k,.slice B' (inodesG φ).length k'] W fun e w'=>e = .returned (.bool true)∧Below W.heap.size W w':=by
 have hn1 : φ.I.length≤1000:=hok.lenI
 have hin : (inodesG φ).length = φ.I.length:=by unfold inodesG; rw [List.length_map]
 have:=refNodes B B' _ k _ k' _ _ (by omega) (by omega) W h1 h2
 simpa using this

theorem c15 {N : Nat→Prop} {V : World} {X8 : Option Addr} {n8 c8 : Nat} {Y8 : Option Addr} {m8 d8 : Nat} {φ : Gr} (hok : φ.ok) (hxx : GrAt N V (.agg #[.slice X8 n8 c8,.slice Y8 m8 d8]) φ) (B : Option Addr) (k : Nat) (W : World) (hW : Below V.heap.size V W) (h1 : EntsIn W W.heap.size B φ.E.length φ.E) : Calls Tryz.prog 26 #[.slice B φ.E.length k,.slice Y8 m8 d8] W fun e w'=>e = .returned (.bool true)∧Below W.heap.size W w':=by
 have hm1 : φ.E.length≤1000:=hok.lenE
 obtain ⟨A1,n1,c1,A2,m2,d2,e,hI,_,hEE,_⟩:=hxx
 simp only [Value.agg.injEq,Array.mk.injEq,List.cons.injEq,Value.slice.injEq,and_true] at e
 obtain ⟨⟨rfl,rfl,rfl⟩,rfl,rfl,rfl⟩:=e
 have hl:=hEE.len
 have:=refEnts B Y8 _ k m8 d8 _ _ (by omega) (by omega) W h1 ((hEE.below hW).more hW.size)
 simpa using this

set_option maxRecDepth 100000 in
set_option maxHeartbeats 6400000 in
theorem core {H : GraphHave} (P : FoldHave H) (A : Option Addr) (n c : Nat) (l : List Opn) (o : Opn) (s : St) (Am : Option Addr) (nm cm : Nat) (lm : List Opn) (hl : ∀ a ∈ l, OpFit a) (ho : OpFit o) (hml : ∀ a ∈ lm, OpFit a) (w : World) (T : Tab w) (h : OpsIn w w.heap.size A n l) (h' : OpsIn w w.heap.size Am nm lm) :
    Calls Tryz.prog 3 #[.slice A n c, .agg (opA o), .agg (stA s), .slice Am nm cm] w fun e w' => e = .returned (.bool true) ∧ Below w.heap.size w w' := by
  have HX := Lib.hid h
  have HXM := Lib.hid h'
  have HF := Lib.hid hl
  have HO := Lib.hid ho
  have HMF := Lib.hid hml
  have hH0 : Held w [(w.heap.size + 1, .cells (stA s) 24), (w.heap.size, .cells (opA o) 26)] ((w.alloc (.cells (opA o) 26)).alloc (.cells (stA s) 24)) :=
    ((Held.refl w).alloc (.cells (opA o) 26) rfl).alloc (.cells (stA s) 24) (by simp)
  clear h h' hl ho hml
  go_enter Tryz.func3, Tryz.ntmps3
  go_upto_region 1 with fail
  change Code.wp _ _ _ _ ((w.alloc (.cells (opA o) 26)).alloc (.cells (stA s) 24))
  generalize (w.alloc (.cells (opA o) 26)).alloc (.cells (stA s) 24) = w0 at hH0 ⊢
  have T0 := Lib.hid (tab_below T (Nat.le_refl _) hH0.below)
  have H0 := Lib.hid hH0
  obtain ⟨u, hu⟩ : ∃ u, u = w.heap.size := ⟨_, rfl⟩
  rw [← hu] at H0
  clear hH0
  go_wp2_with fail
  refine (FoldHave.shown P _ T0.out).mono ?_
  rintro e w1 ⟨rfl, hb1⟩
  have H1 := Lib.hid (H0.out.step hb1)
  clear hb1 H0 T0
  rw [← hu]
  clear hu
  go_wp2_with fail
  refine (fewF_any A n c _).mono ?_
  rintro e w2 ⟨rfl, hb2⟩
  have H2 := Lib.hid (H1.out.step hb2)
  clear hb2 H1
  by_cases hn : n ≤ 60
  case neg =>
    have hd : decide (n ≤ 60) = false := decide_eq_false hn
    go_wp2_with fail
    go_ret
    exact ⟨rfl, H2.out.below⟩
  have hd : decide (n ≤ 60) = true := decide_eq_true hn
  go_wp2_with fail
  refine (fewF_any Am nm cm _).mono ?_
  rintro e w3 ⟨rfl, hb3⟩
  have H3 := Lib.hid (H2.out.step hb3)
  clear hb3 H2
  by_cases hnm : nm ≤ 60
  case neg =>
    have hd : decide (nm ≤ 60) = false := decide_eq_false hnm
    go_wp2_with fail
    go_ret
    exact ⟨rfl, H3.out.below⟩
  have hd2 : decide (nm ≤ 60) = true := decide_eq_true hnm
  have hll : l.length = n := HX.out.len
  have T3 := Lib.hid (tab_below T (Nat.le_refl _) H3.out.below)
  have hsl := sort_len l
  obtain ⟨t, ht⟩ : ∃ t, t = sortO l := ⟨_, rfl⟩
  have HS1 := Lib.hid (sort_rises l)
  have HS3 : Hid (∀ a ∈ sortO l, OpFit a) := Lib.hid fun a ha => HF.out a (sort_sub a ha)
  have D := Lib.hid (have := T3.out; P.sort A n c l w3 (by omega) HF.out ((HX.out.below H3.out.below).more H3.out.below.size))
  have CS : Hid (∀ W, Below w3.heap.size w3 W → Calls Tryz.prog 15 #[.slice A n c] W (OpsPost (sortO l) W)) := Lib.hid fun W hW =>
    refSort A n c l hn HF.out W ((HX.out.below (below_step H3.out.below hW)).more (below_step H3.out.below hW).size)
  have CF : Hid (∀ W, Below w3.heap.size w3 W → Calls Tryz.prog 16 #[.slice A n c] W fun e w' => ∃ a, e = .returned (.pointer (some a)) ∧ FX H W w' (fun _ => False) a (runA (sortO l)) ∧ Below W.heap.size W w') := Lib.hid fun W hW =>
    FX.of P A n c l W (tab_below T3.out (Nat.le_refl _) hW) (by omega) HF.out ((HX.out.below (below_step H3.out.below hW)).more (below_step H3.out.below hW).size)
  have CR : Hid (∀ W, Below w3.heap.size w3 W → Calls Tryz.prog 17 #[.slice A n c] W fun e w' => ∃ v, e = .returned v ∧ GrAt (fun i => W.heap.size ≤ i) w' v (runA (sortO l)) ∧ Below W.heap.size W w') := Lib.hid fun W hW =>
    refOf A n c l hn HF.out W ((HX.out.below (below_step H3.out.below hW)).more (below_step H3.out.below hW).size)
  have CN : Hid (∀ W, Below w3.heap.size w3 W → Calls Tryz.prog 18 #[.pointer none, .slice A n c] W fun e w' => e = .returned (.pointer none) ∧ Below W.heap.size W w') := Lib.hid fun W hW =>
    have := tab_below T3.out (Nat.le_refl _) hW
    P.nilOn A n c l W (by omega) HF.out ((HX.out.below (below_step H3.out.below hW)).more (below_step H3.out.below hW).size)
  unfold OpsPost at D CS
  rw [← ht] at D CS CF CR HS1 HS3 hsl
  clear ht
  have htl : t.length ≤ 60 := by omega
  go_wp2_with fail
  refine D.out.mono ?_
  rintro e w4 ⟨X, cx, rfl, hx, hxc, hcm, hx0, hb4⟩
  have H4 := Lib.hid (H3.out.step hb4)
  have B4 := Lib.hid hb4
  have HX4 := Lib.hid hx
  obtain ⟨y, p, q, hp⟩ : ∃ y p q, GraphMath.putO t o = (y, p, q) := ⟨_, _, _, rfl⟩
  have hyl : y.length ≤ 61 := by
    have : y.length ≤ t.length + 1 := by
      have := put_len t o
      rw [hp] at this
      exact this
    omega
  have DP : Hid (Calls Tryz.prog 13 #[.slice X t.length cx, .agg (opA o)] w4 fun e w' => ∃ (B : Option Addr) (k : Nat), e = .returned (.tuple #[.slice B y.length k, .int .i64 (p : Int), .bool q]) ∧ OpsIn w' w'.heap.size B y.length y ∧ y.length ≤ k ∧ k ≤ maxLen ∧ (B = none → k = 0) ∧ Below w4.heap.size w4 w') := by
    have := tab_below T3.out (Nat.le_refl _) hb4
    have := P.put X t.length cx t o w4 (by omega) hxc hcm hx0 HS3.out HO.out HS1.out hx
    rw [hp] at this
    exact this
  have CP : Hid (∀ (W : World) (B : Option Addr) (k : Nat), OpsIn W W.heap.size B t.length t → t.length ≤ k → k ≤ maxLen → (B = none → k = 0) → Calls Tryz.prog 14 #[.slice B t.length k, .agg (opA o)] W fun e w' => ∃ (B : Option Addr) (k : Nat), e = .returned (.tuple #[.slice B y.length k, .int .i64 (p : Int), .bool q]) ∧ OpsIn w' w'.heap.size B y.length y ∧ Below W.heap.size W w') := Lib.hid fun W B k h1 h2 h3 h4 => by
    have := refPut B t.length k t o (by omega) h2 h3 h4 HO.out HS1.out W h1
    rw [hp] at this
    exact this
  unfold opA at DP CP
  clear hp hx hxc hcm hx0 hb4 D hd hd2
  obtain ⟨c0, c1, c2, c3, c4, c5, c6, c7, c8, c9, c10, c11, c12⟩ := op_cells (o := o) (g := u) (H4.out.at 1 rfl)
  go_wp2_with fail
  refine DP.out.mono ?_
  rintro e w5 ⟨Y, cy, rfl, hy, _, _, _, hb5⟩
  have H5 := Lib.hid (H4.out.step hb5)
  have B5 := Lib.hid (below_step B4.out hb5)
  have HX5 := Lib.hid ((HX4.out.below hb5).more hb5.size)
  have HY5 := Lib.hid hy
  clear c0 c1 c2 c3 c4 c5 c6 c7 c8 c9 c10 c11 c12 hy hb5 DP HX4 B4 H4
  obtain ⟨c0, c1, c2, c3, c4, c5, c6, c7, c8, c9, c10, c11, c12⟩ := op_cells (o := o) (g := u) (H5.out.at 1 rfl)
  have HS : Hid (∀ W, Below w5.heap.size w5 W → (W.cell? ⟨u, 0, none⟩ = some (.int .i64 o.st) ∧ W.cell? ⟨u, 1, none⟩ = some (.int .i64 o.sr) ∧ W.cell? ⟨u, 2, none⟩ = some (.int .i64 o.k) ∧ W.cell? ⟨u, 3, none⟩ = some (.int .i64 o.pt) ∧ W.cell? ⟨u, 4, none⟩ = some (.int .i64 o.pr) ∧ W.cell? ⟨u, 5, none⟩ = some (.int .i64 o.it) ∧ W.cell? ⟨u, 6, none⟩ = some (.int .i64 o.ir) ∧ W.cell? ⟨u, 7, none⟩ = some (.int .i64 o.tt) ∧ W.cell? ⟨u, 8, none⟩ = some (.int .i64 o.tr) ∧ W.cell? ⟨u, 9, none⟩ = some (.string o.name) ∧ W.cell? ⟨u, 10, none⟩ = some (.string o.new) ∧ W.cell? ⟨u, 11, none⟩ = some (.int .i64 o.off) ∧ W.cell? ⟨u, 12, none⟩ = some (.string o.data)) ∧ KeptFrom w5 W) := Lib.hid fun W hW => ⟨⟨cell_later hW c0, cell_later hW c1, cell_later hW c2, cell_later hW c3, cell_later hW c4, cell_later hW c5, cell_later hW c6, cell_later hW c7, cell_later hW c8, cell_later hW c9, cell_later hW c10, cell_later hW c11, cell_later hW c12⟩, hW⟩
  have hS0 := HS.out _ (Below.refl _ _)
  have hS1 := HS.out _ (Below.refl _ _).drew
  clear c0 c1 c2 c3 c4 c5 c6 c7 c8 c9 c10 c11 c12
  go_upto_region 6 with fail
  go_cut [14, 15, 16] from 42 to 49 (fun v1 v2 v3 wx => ∃ (B : Option Addr) (k : Nat), v1 = .slice B y.length k ∧ v2 = .int .i64 (p : Int) ∧ v3 = .bool q ∧ Hid (OpsIn wx wx.heap.size B y.length y) ∧ Hid (Below w5.heap.size w5 wx))
  case first =>
    go_region_held3 (fun W => (W.cell? ⟨u, 0, none⟩ = some (.int .i64 o.st) ∧ W.cell? ⟨u, 1, none⟩ = some (.int .i64 o.sr) ∧ W.cell? ⟨u, 2, none⟩ = some (.int .i64 o.k) ∧ W.cell? ⟨u, 3, none⟩ = some (.int .i64 o.pt) ∧ W.cell? ⟨u, 4, none⟩ = some (.int .i64 o.pr) ∧ W.cell? ⟨u, 5, none⟩ = some (.int .i64 o.it) ∧ W.cell? ⟨u, 6, none⟩ = some (.int .i64 o.ir) ∧ W.cell? ⟨u, 7, none⟩ = some (.int .i64 o.tt) ∧ W.cell? ⟨u, 8, none⟩ = some (.int .i64 o.tr) ∧ W.cell? ⟨u, 9, none⟩ = some (.string o.name) ∧ W.cell? ⟨u, 10, none⟩ = some (.string o.new) ∧ W.cell? ⟨u, 11, none⟩ = some (.int .i64 o.off) ∧ W.cell? ⟨u, 12, none⟩ = some (.string o.data)) ∧ KeptFrom w5 W) (first | (with_reducible assumption))
      (first
        | (go_at_call 15; (with_reducible refine (CS.out _ (below_step B5.out (kept_of (by assumption)))).mono ?_); rintro e w6 ⟨Z, cz, rfl, qx, qc, qm, q0, hb6⟩; have hS3 := HS.out _ (below_step (kept_of (by assumption)) hb6))
        | (go_at_call 14; (with_reducible refine (CP.out _ _ _ (by assumption) (by assumption) (by assumption) (by assumption)).mono ?_); rintro e w7 ⟨Y2, cy2, rfl, py, hb7⟩; have hS4 := HS.out _ (below_step (kept_of (by assumption)) hb7)))
    all_goals
      go_wp2_with fail
      go_meet
    all_goals (case rel => exact ⟨_, _, rfl, rfl, rfl, py, kept_of hS4⟩)
  case rest =>
    obtain ⟨Y2, cy2, rfl, rfl, rfl, HY2, HB6⟩ := hcut
    generalize wc = w6 at HY2 HB6 ⊢
    clear hS0 hS1 HS CP
    have B6 := Lib.hid (below_step B5.out HB6.out)
    have T6 := Lib.hid (tab_below T3.out (Nat.le_refl _) B6.out)
    have H6 := Lib.hid (H5.out.step HB6.out)
    have HX6 := Lib.hid ((HX5.out.below HB6.out).more HB6.out.size)
    have HY6 := Lib.hid ((HY5.out.below HB6.out).more HB6.out.size)
    obtain ⟨γ, hγ⟩ : ∃ γ, γ = runA t := ⟨_, rfl⟩
    rw [← hγ] at CF CR
    have D7 := Lib.hid (CF.out _ B6.out)
    clear H5 HX5 HY5 HB6 B5 CF hγ
    go_wp2_with fail
    refine D7.out.mono ?_
    rintro e w7 ⟨a1, rfl, x7, hb7⟩
    have X7 := Lib.hid x7
    have B7 := Lib.hid hb7
    have D8 := Lib.hid (CR.out _ (below_step B6.out hb7))
    clear x7 hb7 D7 CR
    go_wp2_with fail
    refine D8.out.mono ?_
    rintro e w8 ⟨v, rfl, g8, hb8⟩
    obtain ⟨X1, n1, c1, Y1, m1, d1, rfl⟩ := g8.form
    have hA := (Below.refl w8.heap.size w8).alloc (Nat.le_refl _) (.cells #[.slice X1 n1 c1, .slice Y1 m1 d1] 37)
    have hN := heap_alloc_new w8 (.cells #[.slice X1 n1 c1, .slice Y1 m1 d1] 37)
    have G9 := Lib.hid (g8.step (N' := fun i => w7.heap.size ≤ i) hA)
    have X9 := Lib.hid (X7.out.step (below_step hb8 hA))
    have B9 := Lib.hid (below_step B7.out (below_step hb8 hA))
    obtain ⟨b1, hb1⟩ : ∃ b, b = w8.heap.size := ⟨_, rfl⟩
    rw [← hb1] at hN
    have HN9 := Lib.hid hN
    clear g8 hb8 D8 X7 hA hN B7
    go_upto_region 9 with fail
    rw [← hb1]
    change Code.wp _ _ _ _ (w8.alloc (.cells #[.slice X1 n1 c1, .slice Y1 m1 d1] 37))
    clear hb1
    generalize w8.alloc (.cells #[.slice X1 n1 c1, .slice Y1 m1 d1] 37) = w9 at G9 X9 B9 HN9 ⊢
    have hM9 := (HXM.out.below (below_step H6.out.below B9.out)).more (below_step H6.out.below B9.out).size
    have D9 := Lib.hid (FX.on P X9.out T6.out Am nm cm lm (by omega) HMF.out hM9)
    have CM := Lib.hid fun (W : World) (hW : Below w9.heap.size w9 W) => refOn (fun i => w7.heap.size ≤ i) _ γ X9.out.fine Am nm cm lm hnm HMF.out W (G9.out.step hW) ((hM9.below hW).more hW.size)
    obtain ⟨δ, hδ⟩ : ∃ δ, δ = runG γ (sortO lm) := ⟨_, rfl⟩
    rw [← hδ] at D9
    simp only [← hδ] at CM
    clear hM9 hδ
    go_wp2_with fail
    refine D9.out.mono ?_
    rintro e w10 ⟨a2, rfl, x10, hb10⟩
    have X10 := Lib.hid x10
    have B10 := Lib.hid hb10
    have HN10 := Lib.hid ((hb10.block _ (heap_lt HN9.out)).trans HN9.out)
    have D10 := Lib.hid (CM.out _ hb10)
    clear x10 hb10 D9 CM
    obtain ⟨x0, x1⟩ := two_cells HN10.out
    go_wp2_with fail
    refine D10.out.mono ?_
    rintro e w11 ⟨v, rfl, g11, hb11⟩
    obtain ⟨X3, n3, c3, Y3, m3, d3, rfl⟩ := g11.form
    clear x0 x1
    have hA := (Below.refl w11.heap.size w11).alloc (Nat.le_refl _) (.cells #[.slice X3 n3 c3, .slice Y3 m3 d3] 37)
    have hN := heap_alloc_new w11 (.cells #[.slice X3 n3 c3, .slice Y3 m3 d3] 37)
    have G12 := Lib.hid (g11.step (N' := MoreN (fun i => w7.heap.size ≤ i) w10) hA)
    have X12 := Lib.hid (X10.out.step (below_step hb11 hA))
    have B12 := Lib.hid (below_step B10.out (below_step hb11 hA))
    have Y12 := Lib.hid (X9.out.step B12.out)
    have F12 := Lib.hid (G9.out.step (N' := fun i => w7.heap.size ≤ i) B12.out)
    have HM12 := Lib.hid ((B12.out.block _ (heap_lt HN9.out)).trans HN9.out)
    have BV := Lib.hid (below_step B9.out B12.out)
    obtain ⟨b2, hb2⟩ : ∃ b, b = w11.heap.size := ⟨_, rfl⟩
    rw [← hb2] at hN
    have HN12 := Lib.hid hN
    clear g11 hb11 D10 X10 hA hN B10 HN9 HN10 G9 X9 B9
    go_upto_region 11 with fail
    rw [← hb2]
    change Code.wp _ _ _ _ (w11.alloc (.cells #[.slice X3 n3 c3, .slice Y3 m3 d3] 37))
    clear hb2
    generalize w11.alloc (.cells #[.slice X3 n3 c3, .slice Y3 m3 d3] 37) = V at G12 X12 B12 Y12 F12 HM12 BV HN12 ⊢
    clear B12
    have BW := Lib.hid (below_step B6.out BV.out)
    have HXV := Lib.hid ((HX6.out.below BV.out).more BV.out.size)
    have HYV := Lib.hid ((HY6.out.below BV.out).more BV.out.size)
    have HZV := Lib.hid ((HY2.out.below BV.out).more BV.out.size)
    have HV := Lib.hid (H6.out.step BV.out)
    obtain ⟨e0, e1⟩ := two_cells (HV.out.at 0 rfl)
    obtain ⟨k, hk⟩ : ∃ k, k = belowO t s := ⟨_, rfl⟩
    have CO1 : Hid (∀ (Z : Option Addr) (cz : Nat) (W : World), Below V.heap.size V W → OpsIn W W.heap.size Z t.length t → Calls Tryz.prog 20 #[.slice X t.length cx, .slice Z t.length cz] W fun e w' => e = .returned (.bool true) ∧ Below W.heap.size W w') := Lib.hid fun Z cz W hW hZ => by
      have := refOps X Z t.length cx t.length cz t t (by omega) (by omega) W ((HXV.out.below hW).more hW.size) hZ
      rw [decide_eq_true rfl] at this
      exact this
    have CO2 : Hid (∀ (W : World), Below V.heap.size V W → Calls Tryz.prog 20 #[.slice Y y.length cy, .slice Y2 y.length cy2] W fun e w' => e = .returned (.bool true) ∧ Below W.heap.size W w') := Lib.hid fun W hW => by
      have := refOps Y Y2 y.length cy y.length cy2 y y (by omega) (by omega) W ((HYV.out.below hW).more hW.size) ((HZV.out.below hW).more hW.size)
      rw [decide_eq_true rfl] at this
      exact this
    have CB1 : Hid (∀ (W : World), Below V.heap.size V W → Calls Tryz.prog 21 #[.slice X t.length cx, .agg #[.int .i64 s.1, .int .i64 s.2]] W fun e w' => e = .returned (.int .i64 (k : Int)) ∧ Below W.heap.size W w') := Lib.hid fun W hW => by
      rw [hk]
      exact P.below X t.length cx t s W (by omega) HS1.out ((HXV.out.below hW).more hW.size)
    have CB2 : Hid (∀ (W : World), Below V.heap.size V W → Calls Tryz.prog 22 #[.slice X t.length cx, .agg #[.int .i64 s.1, .int .i64 s.2]] W fun e w' => e = .returned (.int .i64 (k : Int)) ∧ Below W.heap.size W w') := Lib.hid fun W hW => by
      rw [hk]
      exact refBelow X t.length cx t s (by omega) W ((HXV.out.below hW).more hW.size)
    have HS : Hid (∀ W, Below V.heap.size V W → (W.cell? ⟨u + 1, 0, none⟩ = some (.int .i64 s.1) ∧ W.cell? ⟨u + 1, 1, none⟩ = some (.int .i64 s.2)) ∧ KeptFrom V W) := Lib.hid fun W hW => ⟨⟨cell_later hW e0, cell_later hW e1⟩, hW⟩
    have hS0 := HS.out _ (Below.refl _ _)
    have hSd := HS.out _ (Below.refl _ _).drew
    have hpp : ((p : Int) == (p : Int)) = true := by simp
    have hkk : ((k : Int) == (k : Int)) = true := by simp
    have hqq : (q == q) = true := by simp
    clear hk e0 e1
    go_cut [21] from 60 to 87 (fun v1 wx => v1 = .bool true ∧ Hid (Below V.heap.size V wx))
    case first =>
      go_region_held3 (fun W => (W.cell? ⟨u + 1, 0, none⟩ = some (.int .i64 s.1) ∧ W.cell? ⟨u + 1, 1, none⟩ = some (.int .i64 s.2)) ∧ KeptFrom V W)
        (first | (with_reducible assumption))
        (first
          | (go_at_call 15; (with_reducible refine (CS.out _ (below_step BW.out (kept_of (by assumption)))).mono ?_); rintro z w21 ⟨Z, cz, rfl, qx, _, _, _, hb⟩; have hS := HS.out _ (below_step (kept_of (by assumption)) hb))
          | (go_at_call 20; (with_reducible refine (CO1.out _ _ _ (kept_of (by assumption)) (by assumption)).mono ?_); rintro z w22 ⟨rfl, hb⟩; have hS := HS.out _ (below_step (kept_of (by assumption)) hb))
          | (go_at_call 20; (with_reducible refine (CO2.out _ (kept_of (by assumption))).mono ?_); rintro z w23 ⟨rfl, hb⟩; have hS := HS.out _ (below_step (kept_of (by assumption)) hb))
          | (go_at_call 21; (with_reducible refine (CB1.out _ (kept_of (by assumption))).mono ?_); rintro z w24 ⟨rfl, hb⟩; have hS := HS.out _ (below_step (kept_of (by assumption)) hb))
          | (go_at_call 22; (with_reducible refine (CB2.out _ (kept_of (by assumption))).mono ?_); rintro z w25 ⟨rfl, hb⟩; have hS := HS.out _ (below_step (kept_of (by assumption)) hb)))
      all_goals
        go_wp2_with fail
        go_meet
      all_goals (case rel => exact ⟨rfl, kept_of hS⟩)
    case rest =>
    obtain ⟨rfl, HB⟩ := hcut
    have F12 := Lib.hid (F12.out.step (N' := fun i => w7.heap.size ≤ i) HB.out)
    have G12 := Lib.hid (G12.out.step (N' := MoreN (fun i => w7.heap.size ≤ i) w10) HB.out)
    have Y12 := Lib.hid (Y12.out.step HB.out)
    have X12 := Lib.hid (X12.out.step HB.out)
    have HM12 := Lib.hid ((HB.out.block _ (heap_lt HM12.out)).trans HM12.out)
    have HN12 := Lib.hid ((HB.out.block _ (heap_lt HN12.out)).trans HN12.out)
    have BW := Lib.hid (below_step BW.out HB.out)
    clear HS hS0 hSd CO1 CO2 CB1 CB2 HXV HYV HZV HV HX6 HY6 HY2 H6 BV HB CS
    generalize wc = V at *
    obtain ⟨S, r4, _⟩ := Y12.out.gx.at'
    have C6 : Hid (∀ W, Below V.heap.size V W → Calls Tryz.prog 24 #[.pointer (some a1)] W (InosPost (inodesG γ) W)) := Lib.hid fun W hW => told_inos H r4 Y12.out.fine.ok hW
    have C12 : Hid (∀ W, Below V.heap.size V W → Calls Tryz.prog 27 #[.pointer (some a1)] W (EntsPost γ.E W)) := Lib.hid fun W hW => told_ents H r4 Y12.out.fine.ok hW
    have C8 := Lib.hid (c8 Y12.out.fine.ok F12.out)
    have C9 := Lib.hid (c9 Y12.out.fine.ok)
    have C15 := Lib.hid (c15 Y12.out.fine.ok F12.out)
    obtain ⟨x0, x1⟩ := two_cells HM12.out
    have HS : Hid (∀ W, Below V.heap.size V W → (W.cell? ⟨b1, 0, none⟩ = some (.slice X1 n1 c1) ∧ W.cell? ⟨b1, 1, none⟩ = some (.slice Y1 m1 d1)) ∧ KeptFrom V W) := Lib.hid fun W hW => ⟨⟨cell_later hW x0, cell_later hW x1⟩, hW⟩
    have hS0 := HS.out _ (Below.refl _ _)
    have hSd := HS.out _ (Below.refl _ _).drew
    unfold InosPost at C6 C8
    unfold EntsPost at C12
    clear x0 x1 r4
    go_upto_region 12 with fail
    go_cut [22] from 88 to 99 (fun v1 wx => v1 = .bool true ∧ Hid (Below V.heap.size V wx))
    case first =>
      go_region_held3 (fun W => (W.cell? ⟨b1, 0, none⟩ = some (.slice X1 n1 c1) ∧ W.cell? ⟨b1, 1, none⟩ = some (.slice Y1 m1 d1)) ∧ KeptFrom V W)
        (first | (with_reducible assumption))
        (first
          | (go_at_call 24; (with_reducible refine (C6.out _ (kept_of (by assumption))).mono ?_); rintro z w21 ⟨B1, k1, rfl, q1, _, _, _, hb⟩; have hS := HS.out _ (below_step (kept_of (by assumption)) hb))
          | (go_at_call 25; (with_reducible refine (C8.out _ (kept_of (by assumption))).mono ?_); rintro z w22 ⟨B1, k1, rfl, q1, _, _, _, hb⟩; have hS := HS.out _ (below_step (kept_of (by assumption)) hb))
          | (go_at_call 23; (with_reducible refine (C9.out _ _ _ _ _ (inos_later (by assumption) (by repeat (first | exact Below.refl _ _ | assumption | apply Below.drew | refine below_step ?_ (by assumption)))) (inos_later (by assumption) (by repeat (first | exact Below.refl _ _ | assumption | apply Below.drew | refine below_step ?_ (by assumption))))).mono ?_); rintro z w23 ⟨rfl, hb⟩; have hS := HS.out _ (below_step (kept_of (by assumption)) hb))
          | (go_at_call 27; (with_reducible refine (C12.out _ (kept_of (by assumption))).mono ?_); rintro z w24 ⟨B1, k1, rfl, q1, _, _, _, hb⟩; have hS := HS.out _ (below_step (kept_of (by assumption)) hb))
          | (go_at_call 26; (with_reducible refine (C15.out _ _ _ (kept_of (by assumption)) (ents_later (by assumption) (by repeat (first | exact Below.refl _ _ | assumption | apply Below.drew | refine below_step ?_ (by assumption))))).mono ?_); rintro z w25 ⟨rfl, hb⟩; have hS := HS.out _ (below_step (kept_of (by assumption)) hb)))
      all_goals
        go_wp2_with fail
        go_meet
      all_goals (case rel => exact ⟨rfl, kept_of hS⟩)
    case rest =>
    obtain ⟨rfl, HB⟩ := hcut
    have G12 := Lib.hid (G12.out.step (N' := MoreN (fun i => w7.heap.size ≤ i) w10) HB.out)
    have X12 := Lib.hid (X12.out.step HB.out)
    have HN12 := Lib.hid ((HB.out.block _ (heap_lt HN12.out)).trans HN12.out)
    have BW := Lib.hid (below_step BW.out HB.out)
    clear HS hS0 hSd C6 C8 C9 C12 C15 F12 Y12 HM12 HB
    generalize wc = V at *
    obtain ⟨S, r4, _⟩ := X12.out.gx.at'
    have C6 : Hid (∀ W, Below V.heap.size V W → Calls Tryz.prog 24 #[.pointer (some a2)] W (InosPost (inodesG δ) W)) := Lib.hid fun W hW => told_inos H r4 X12.out.fine.ok hW
    have C12 : Hid (∀ W, Below V.heap.size V W → Calls Tryz.prog 27 #[.pointer (some a2)] W (EntsPost δ.E W)) := Lib.hid fun W hW => told_ents H r4 X12.out.fine.ok hW
    have C8 := Lib.hid (c8 X12.out.fine.ok G12.out)
    have C9 := Lib.hid (c9 X12.out.fine.ok)
    have C15 := Lib.hid (c15 X12.out.fine.ok G12.out)
    obtain ⟨x0, x1⟩ := two_cells HN12.out
    have HS : Hid (∀ W, Below V.heap.size V W → (W.cell? ⟨b2, 0, none⟩ = some (.slice X3 n3 c3) ∧ W.cell? ⟨b2, 1, none⟩ = some (.slice Y3 m3 d3)) ∧ KeptFrom V W) := Lib.hid fun W hW => ⟨⟨cell_later hW x0, cell_later hW x1⟩, hW⟩
    have hS0 := HS.out _ (Below.refl _ _)
    have hSd := HS.out _ (Below.refl _ _).drew
    unfold InosPost at C6 C8
    unfold EntsPost at C12
    have CN2 : Hid (∀ (W : World), Below V.heap.size V W → Calls Tryz.prog 18 #[.pointer none, .slice A n c] W fun e w' => e = .returned (.pointer none) ∧ Below W.heap.size W w') := Lib.hid fun W hW => CN.out W (below_step BW.out hW)
    have BX := Lib.hid (below_step H3.out.below BW.out)
    clear x0 x1 r4 CN
    go_upto_region 13 with fail
    go_region_held3 (fun W => (W.cell? ⟨b2, 0, none⟩ = some (.slice X3 n3 c3) ∧ W.cell? ⟨b2, 1, none⟩ = some (.slice Y3 m3 d3)) ∧ KeptFrom V W)
        (first | (with_reducible assumption))
        (first
          | (go_at_call 24; (with_reducible refine (C6.out _ (kept_of (by assumption))).mono ?_); rintro z w21 ⟨B1, k1, rfl, q1, _, _, _, hb⟩; have hS := HS.out _ (below_step (kept_of (by assumption)) hb))
          | (go_at_call 25; (with_reducible refine (C8.out _ (kept_of (by assumption))).mono ?_); rintro z w22 ⟨B1, k1, rfl, q1, _, _, _, hb⟩; have hS := HS.out _ (below_step (kept_of (by assumption)) hb))
          | (go_at_call 23; (with_reducible refine (C9.out _ _ _ _ _ (inos_later (by assumption) (by repeat (first | exact Below.refl _ _ | assumption | apply Below.drew | refine below_step ?_ (by assumption)))) (inos_later (by assumption) (by repeat (first | exact Below.refl _ _ | assumption | apply Below.drew | refine below_step ?_ (by assumption))))).mono ?_); rintro z w23 ⟨rfl, hb⟩; have hS := HS.out _ (below_step (kept_of (by assumption)) hb))
          | (go_at_call 27; (with_reducible refine (C12.out _ (kept_of (by assumption))).mono ?_); rintro z w24 ⟨B1, k1, rfl, q1, _, _, _, hb⟩; have hS := HS.out _ (below_step (kept_of (by assumption)) hb))
          | (go_at_call 26; (with_reducible refine (C15.out _ _ _ (kept_of (by assumption)) (ents_later (by assumption) (by repeat (first | exact Below.refl _ _ | assumption | apply Below.drew | refine below_step ?_ (by assumption))))).mono ?_); rintro z w25 ⟨rfl, hb⟩; have hS := HS.out _ (below_step (kept_of (by assumption)) hb))
          | (go_at_call 18; (with_reducible refine (CN2.out _ (kept_of (by assumption))).mono ?_); rintro z w26 ⟨rfl, hb⟩; have hS := HS.out _ (below_step (kept_of (by assumption)) hb)))
    all_goals
      go_wp2_with fail
      go_ret
      exact ⟨rfl, below_step BX.out (kept_of hS)⟩

theorem walk0 {H : GraphHave} (P : FoldHave H) (_ : ApplyHave H) (a0A : Option Addr) (a0n : Nat) (a0c : Nat) (a0x : List Opn) (a1 : Opn) (a2 : St) (a3A : Option Addr) (a3n : Nat) (a3c : Nat) (a3x : List Opn) (w : World) [T : Tab w] (_ : a0n≤a0c) (_ : a0c≤maxLen) (w0x : ∀ x∈a0x,OpFit x) (w0d : OpsIn w w.heap.size a0A a0n a0x) (w1 : Ok64 a1) (w1a : a1.name.size≤maxLen) (w1b : a1.new.size≤maxLen) (w1c : a1.data.size≤maxLen) (_ : a3n≤a3c) (_ : a3c≤maxLen) (w3x : ∀ x∈a3x,OpFit x) (w3d : OpsIn w w.heap.size a3A a3n a3x) :
  Calls Tryz.prog 3 #[.slice a0A a0n a0c,.agg (opA a1),.agg (stA a2),.slice a3A a3n a3c] w fun e w'=>e = .returned (.bool true)∧Below w.heap.size w w' :=
 core P a0A a0n a0c a0x a1 a2 a3A a3n a3c a3x w0x ⟨w1,w1a,w1b,w1c⟩ w3x w T w0d w3d

end Go.Proofs.YtdobeghbkonimaaGreatDoor.lawFoldTells
