/-
  A graph tells lists of its own: what is done to them, and to a copy, turns nothing: for all lists of deeds (the first 150 are done), and all deeds.
-/
import Derived.Test.YthobfeohgeeofaaZ12
import Derived.Test.YthobfeohgeeofaaZ12
import Derived.Test.YthobfeohgeeofaaGraphLaterZ
import Derived.Deep.LoopGhost
import Derived.OpenShut
namespace Go.Proofs.Ythobfeohgeeofaa.lawGraphFresh
open Go.RowKit StampMath GraphMath OpMath

theorem own_spot {W : World} {base : Nat} {e : TypeId} {k : Nat} {v : Value} {n : Nat} {xs : List Value} (h : W.ownsRow base e k v n xs) :
    ∃ (A : Option Addr) (c : Nat), v = .slice A n c ∧ (0 < n → ∃ g cur, A = some ⟨g, 0, none⟩ ∧ base ≤ g ∧ W.heap[g]? = some (.cells cur e (0, 0)) ∧ cur.toList.take (n * k) = xs) := by
  rcases h.2 with ⟨rfl, h0⟩ | ⟨g, cap, cur, rfl, hb, hg, h1, h2, h3, h4⟩
  · exact ⟨none, 0, by rw [h0], fun hn => by omega⟩
  · exact ⟨_, cap, rfl, fun _ => ⟨g, cur, rfl, hb, hg, h4⟩⟩

/-- The inodes that may be written, each with a mode. -/
def Mo (w6 w7 : World) (A : Option Addr) (n : Nat) (W : World) : Prop := 0 < n → ∃ g cur, A = some ⟨g, 0, none⟩ ∧ w6.heap.size ≤ g ∧ g < w7.heap.size ∧ W.heap[g]? = some (.cells cur 42 (0, 0)) ∧ ∀ j, j < n → ∃ v : Int, cur[j * 6 + 4]? = some (.int .i64 v)

/-- The entries that may be written, each with a name. -/
def Fo (w7 : World) (A : Option Addr) (n : Nat) (W : World) : Prop := 0 < n → ∃ g cur, A = some ⟨g, 0, none⟩ ∧ w7.heap.size ≤ g ∧ W.heap[g]? = some (.cells cur 26 (0, 0)) ∧ ∀ j, j < n → ∃ v : Value, cur[j * 5 + 2]? = some v

/-- Both, and all that was there ahead of them. -/
def Rows6 (w6 w7 : World) (A7 : Option Addr) (n : Nat) (A8 : Option Addr) (m : Nat) (W : World) : Prop := Below w6.heap.size w6 W ∧ Mo w6 w7 A7 n W ∧ Fo w7 A8 m W

theorem take_at {cur : Array Value} {xs : List Value} {m i : Nat} {v : Value} (h : cur.toList.take m = xs) (hv : xs[i]? = some v) : cur[i]? = some v := by
  rw [← h, List.getElem?_take] at hv
  split at hv
  · rw [← Array.getElem?_toList]; exact hv
  · cases hv

theorem mo_of {w6 w7 : World} {A : Option Addr} {I : List Ino} {k : Nat} (h : w7.ownsRow w6.heap.size 42 6 (.slice A I.length k) I.length (flat (I.map inoA))) : Mo w6 w7 A I.length w7 := fun hn => by
  obtain ⟨A', c, e, hs⟩ := own_spot h
  obtain ⟨g, cur, rfl, hb, hg, ht⟩ := hs hn
  injection e with e _ _
  subst e
  refine ⟨g, cur, rfl, hb, heap_lt hg, hg, fun j hj => ⟨I[j].mode, take_at ht ?_⟩⟩
  rw [flat_at ino_sizes j (by simpa using hj) 4 (by omega)]
  simp [inoA]

theorem fo_of {w7 w8 : World} {A : Option Addr} {E : List Ent} {k : Nat} (h : w8.ownsRow w7.heap.size 26 5 (.slice A E.length k) E.length (flat (E.map entA))) : Fo w7 A E.length w8 := fun hn => by
  obtain ⟨A', c, e, hs⟩ := own_spot h
  obtain ⟨g, cur, rfl, hb, hg, ht⟩ := hs hn
  injection e with e _ _
  subst e
  refine ⟨g, cur, rfl, hb, hg, fun j hj => ⟨.string E[j].name, take_at ht ?_⟩⟩
  rw [flat_at ent_sizes j (by simpa using hj) 2 (by omega)]
  simp [entA]

theorem Mo.below {w6 w7 W W' : World} {A : Option Addr} {n : Nat} (h : Mo w6 w7 A n W) (hb : Below W.heap.size W W') : Mo w6 w7 A n W' := fun hn => by
  obtain ⟨g, cur, e, h1, h2, h3, h4⟩ := h hn
  exact ⟨g, cur, e, h1, h2, (hb.block g (heap_lt h3)).trans h3, h4⟩

theorem set_spot {cur : Array Value} {i j : Nat} {v u : Value} (h : cur[i]? = some u) : ∃ x, (cur.setIfInBounds j v)[i]? = some x ∧ (x = v ∨ x = u) := by
  rw [Array.getElem?_setIfInBounds]
  split
  · have hl := (Array.getElem?_eq_some_iff.1 h).1
    subst_vars
    exact ⟨v, by simp [hl], .inl rfl⟩
  · exact ⟨u, h, .inr rfl⟩

/-- A mode is written. -/
theorem Rows6.mode {w6 w7 W : World} {g : Nat} {n : Nat} {A8 : Option Addr} {m j : Nat} (h : Rows6 w6 w7 (some ⟨g, 0, none⟩) n A8 m W) (x : Int) (hn : 0 < n) : Rows6 w6 w7 (some ⟨g, 0, none⟩) n A8 m (W.setCell ⟨g, j * 6 + 4, none⟩ (.int .i64 x)) := by
  obtain ⟨h1, h2, h3⟩ := h
  obtain ⟨g', cur, e, q1, q2, q3, q4⟩ := h2 hn
  injection e with e
  injection e with e
  subst e
  refine ⟨h1.setCell (p := ⟨g, j * 6 + 4, none⟩) q1 _, fun _ => ⟨g, _, rfl, q1, q2, heap_setCell_same _ _ _ _ _ _ q3, fun k hk => ?_⟩, fun hm => ?_⟩
  · obtain ⟨v, hv⟩ := q4 k hk
    obtain ⟨x', e1, e2⟩ := set_spot (j := j * 6 + 4) (v := .int .i64 x) hv
    rcases e2 with e2 | e2
    · exact ⟨x, by rw [e1, e2]⟩
    · exact ⟨v, by rw [e1, e2]⟩
  · obtain ⟨g2, cur2, e2, p1, p2, p3⟩ := h3 hm
    exact ⟨g2, cur2, e2, p1, (heap_setCell_other _ _ _ _ (show g2 ≠ g by omega)).trans p2, p3⟩

/-- A name is written. -/
theorem Rows6.name {w6 w7 W : World} {g : Nat} {n : Nat} {A7 : Option Addr} {m j : Nat} (h : Rows6 w6 w7 A7 n (some ⟨g, 0, none⟩) m W) (hw : w6.heap.size ≤ w7.heap.size) (s : Value) (hm : 0 < m) : Rows6 w6 w7 A7 n (some ⟨g, 0, none⟩) m (W.setCell ⟨g, j * 5 + 2, none⟩ s) := by
  obtain ⟨h1, h2, h3⟩ := h
  obtain ⟨g', cur, e, q1, q2, q3⟩ := h3 hm
  injection e with e
  injection e with e
  subst e
  refine ⟨h1.setCell (p := ⟨g, j * 5 + 2, none⟩) (Nat.le_trans hw q1) _, fun hn => ?_, fun _ => ⟨g, _, rfl, q1, heap_setCell_same _ _ _ _ _ _ q2, fun k hk => ?_⟩⟩
  · obtain ⟨g2, cur2, e2, p1, p2, p3, p4⟩ := h2 hn
    exact ⟨g2, cur2, e2, p1, p2, (heap_setCell_other _ _ _ _ (show g2 ≠ g by omega)).trans p3, p4⟩
  · obtain ⟨v, hv⟩ := q3 k hk
    obtain ⟨x', e1, _⟩ := set_spot (j := j * 5 + 2) (v := s) hv
    exact ⟨x', e1⟩

set_option maxRecDepth 100000 in
set_option maxHeartbeats 6400000 in
theorem core (H : GraphHave) (A : Option Addr) (n c : Nat) (ds : List Dd) (dd : Dd) (hn : n ≤ maxLen) (hname : ∀ d ∈ ds, d.e.name.size ≤ maxLen) (hdd : dd.e.name.size ≤ maxLen) (w : World) (h : DdsIn w w.heap.size A n ds) :
    Calls Try.prog 7 #[.slice A n c, .agg (ddA dd)] w fun e w' => e = .returned (.bool true) ∧ Below w.heap.size w w' := by
  have hl := h.len
  have hb0 : Below w.heap.size w (w.alloc (.cells (ddA dd) 38)) := (Below.refl w.heap.size w).alloc (Nat.le_refl _) _
  have hx0 := heap_alloc_new w (.cells (ddA dd) 38)
  have h0 : DdsIn _ _ A n ds := TabIn.more (TabIn.below h hb0) hb0.size
  have HL := Lib.hid hl
  have HN := Lib.hid hname
  have HDD := Lib.hid hdd
  unfold maxLen at hn
  clear h hl hname hdd
  go_enter Try.func7, Try.ntmps7
  go_upto_region 1 with (fail)
  change Code.wp _ _ _ _ (w.alloc (.cells (ddA dd) 38))
  generalize w.alloc (.cells (ddA dd) 38) = W0 at hb0 hx0 h0 ⊢
  have HX := Lib.hid h0
  have HB0 := Lib.hid hb0
  have HX0 := Lib.hid hx0
  clear h0 hb0 hx0
  go_wp2_with fail
  refine (H.shown _).mono ?_
  rintro e w1 ⟨rfl, hb1⟩
  go_wp2_with fail
  refine (GX.new (H := H) hb1 (fun _ => False) (fun _ h => h.elim)).mono ?_
  rintro e w2 ⟨a, rfl, g2, hb2⟩
  have G2 := Lib.hid g2
  clear g2 hb2 hb1
  go_wp2_with fail
  go_loopg [7] 151 (fun gk i wr => ∃ (k : Nat) (γ : Gr), i = .int .i64 (k : Int) ∧ gk + k = 151 ∧ k ≤ n ∧ k ≤ 150 ∧ Hid (GX H W0 wr (fun _ => False) a γ))
  case atStart => exact ⟨0, newG, rfl, by omega, by omega, by omega, G2.out⟩
  case round =>
    obtain ⟨k, γ, rfl, hgk, hk, hk2, hG⟩ := hrel
    have HG := Lib.hid hgk
    clear hgk G2
    by_cases hlt : k < n ∧ k < 150
    · obtain ⟨l1, l2⟩ := hlt
      obtain ⟨gi, o, rfl, hg, hcell⟩ := HX.out.row (by omega)
      have lk : k < ds.length := by have := HL.out; omega
      obtain ⟨d0, d1, d2, d3, d4, d5, d6, d7, d8⟩ := (hcell k lk).below hG.out.below hg
      have hnm := HN.out _ (List.getElem_mem lk)
      obtain ⟨d, hd⟩ : ∃ d, ds[k] = d := ⟨_, rfl⟩
      rw [hd] at d0 d1 d2 d3 d4 d5 d6 d7 d8 hnm
      have HD := Lib.hid (hG.out.deed d hnm)
      unfold ddA at HD
      have hi0 : (0 : Int) ≤ (k : Int) := by omega
      have hi1 : (k : Int) < (n : Int) := by omega
      clear hcell hd hnm lk
      go_wp2_with fail
      refine HD.out.mono ?_
      rintro e w3 ⟨rfl, q, _⟩
      have Q := Lib.hid q
      clear q d0 d1 d2 d3 d4 d5 d6 d7 d8 HD
      go_wp2_with fail
      go_roundg (gk - 1)
      case measure => have := HG.out; omega
      case rel => exact ⟨k + 1, (doG γ d).1, by go_num, by have := HG.out; omega, by omega, by omega, Q.out⟩
    · have hcase : ¬ (k : Int) < (n : Int) ∨ ((k : Int) < (n : Int) ∧ ¬ (k : Int) < 150) := by omega
      clear hlt HX HN HL
      rcases hcase with c0 | ⟨c0, c1⟩
      all_goals
        go_wp2_with fail
        refine hG.out.inodes.mono ?_
        rintro e w5 ⟨⟨v5, rfl, own5, hb5⟩, g5⟩
        obtain ⟨A5, k5, rfl, i5, -⟩ := inos_own rfl own5
        have P5 := Lib.hid (And.intro i5 g5)
        clear own5 hb5 i5 g5
        go_wp2_with fail
        refine P5.out.2.entries.mono ?_
        rintro e w6 ⟨⟨v6, rfl, own6, hb6⟩, g6⟩
        obtain ⟨A6, k6, rfl, i6, -⟩ := ents_own rfl own6
        have P6 := Lib.hid (And.intro (P5.out.1.later hb6) (And.intro i6 g6))
        clear own6 hb6 i6 g6 P5
        go_wp2_with fail
        refine P6.out.2.2.inodes.mono ?_
        rintro e w7 ⟨⟨v7, rfl, own7, hb7⟩, g7⟩
        obtain ⟨A7, k7, rfl, -⟩ := own_spot own7
        have m7 := mo_of own7
        have G7 := Lib.hid g7
        clear own7 g7
        go_wp2_with fail
        refine G7.out.entries.mono ?_
        rintro e w8 ⟨⟨v8, rfl, own8, hb8⟩, -⟩
        obtain ⟨A8, k8, rfl, -⟩ := own_spot own8
        have R8 : Hid (Rows6 w6 w7 A7 (inodesG γ).length A8 γ.E.length w8) := ⟨below_step hb7 hb8, m7.below hb8, fo_of own8⟩
        have hL1 : (inodesG γ).length ≤ 40 := by unfold inodesG; rw [List.length_map]; exact hG.out.ok.few
        have hL2 : γ.E.length ≤ 240 := hG.out.ok.entsFew
        have HOK := Lib.hid hG.out.ok
        have HW67 : Hid (w6.heap.size ≤ w7.heap.size) := hb7.size
        clear own8 hb8 hb7 m7 G7
        obtain ⟨X, hX⟩ : ∃ X, X = inodesG γ := ⟨_, rfl⟩
        obtain ⟨E, hE⟩ : ∃ E, E = γ.E := ⟨_, rfl⟩
        rw [← hX] at hL1
        rw [← hE] at hL2
        rw [← hX, ← hE] at P6 R8 ⊢
        have HXE := Lib.hid (And.intro hX hE)
        clear hX hE
        go_wp2_with fail
        go_loopg [12] 41 (fun gk i wz => ∃ (j : Nat), i = .int .i64 (j : Int) ∧ gk + j = 41 ∧ j ≤ X.length ∧ Hid (Rows6 w6 w7 A7 X.length A8 E.length wz))
        case atStart => exact ⟨0, rfl, by omega, by omega, R8⟩
        case round =>
          clear R8
          obtain ⟨j, rfl, hgj, hj, hR⟩ := hrel
          have HJ := Lib.hid hgj
          clear hgj
          by_cases hlj : j < X.length
          · obtain ⟨gm, cur, rfl, z1, z2, hcur, hz⟩ := hR.out.2.1 (by omega)
            obtain ⟨v, hv⟩ := hz j hlj
            have y0 : wr.cell? ⟨gm, j * 6 + 4, none⟩ = some (.int .i64 v) := cell_of_row _ _ _ _ _ (0, 0) hcur |>.trans hv
            have y1 : wr.frozen? ⟨gm, j * 6 + 4, none⟩ = false := frozen_of_row _ _ _ _ _ hcur
            have hX0 : 0 < X.length := by omega
            have Q := Lib.hid (fun x : Int => hR.out.mode (j := j) x hX0)
            clear hX0
            have hj0 : (0 : Int) ≤ (j : Int) := by omega
            have hj1 : (j : Int) < (X.length : Int) := by omega
            clear hcur hz z1 z2
            go_wp2_with fail
            go_roundg (gk - 1)
            case measure => have := HJ.out; omega
            case rel => exact ⟨j + 1, by go_num, by have := HJ.out; omega, by omega, Q.out _⟩
          · have hlj' : ¬ (j : Int) < (X.length : Int) := by omega
            clear hlj
            go_wp2_with fail
            go_loopg [13] 241 (fun gk i wz => ∃ (j : Nat), i = .int .i64 (j : Int) ∧ gk + j = 241 ∧ j ≤ E.length ∧ Hid (Rows6 w6 w7 A7 X.length A8 E.length wz))
            case atStart => exact ⟨0, rfl, by omega, by omega, hR⟩
            case round =>
              clear hR
              obtain ⟨j, rfl, hgj, hj, hR⟩ := hrel
              have HJ := Lib.hid hgj
              clear hgj
              by_cases hlj : j < E.length
              · obtain ⟨gf, cur, rfl, z1, hcur, hz⟩ := hR.out.2.2 (by omega)
                obtain ⟨v, hv⟩ := hz j hlj
                have y0 : wr.cell? ⟨gf, j * 5 + 2, none⟩ = some v := cell_of_row _ _ _ _ _ (0, 0) hcur |>.trans hv
                have y1 : wr.frozen? ⟨gf, j * 5 + 2, none⟩ = false := frozen_of_row _ _ _ _ _ hcur
                have Q := Lib.hid (hR.out.name (j := j) HW67.out (.string ⟨#[122, 122]⟩) (by omega))
                have hj0 : (0 : Int) ≤ (j : Int) := by omega
                have hj1 : (j : Int) < (E.length : Int) := by omega
                clear hcur hz z1
                go_wp2_with fail
                go_roundg (gk - 1)
                case measure => have := HJ.out; omega
                case rel => exact ⟨j + 1, by go_num, by have := HJ.out; omega, by omega, Q.out⟩
              · have hlj' : ¬ (j : Int) < (E.length : Int) := by omega
                clear hlj
                have hB := hR.out.1
                obtain ⟨i5, i6, g6⟩ := P6.out
                have g9 : GX H W0 wr (fun _ => False) a γ := g6.step hB
                obtain ⟨⟨S, r9, hS, _⟩, _, _, hBW⟩ := g9
                have z1 : wr.heap[w.heap.size]? = some (.cells (ddA dd) 38 (0, 0)) := (hBW.block _ (heap_lt HX0.out)).trans HX0.out
                have HCP := Lib.hid (H.copy a S γ wr r9 HOK.out)
                have H9 := Lib.hid (And.intro (And.intro i5 (And.intro i6 (H.lt r9))) (And.intro r9 (And.intro hB (And.intro hBW z1))))
                clear i5 i6 g6 r9 hS hB hBW z1 hR P6
                go_wp2_with fail
                refine HCP.out.mono ?_
                rintro e w9 ⟨b, U, rfl, rb, hU, hb9⟩
                have hx9 := (hb9.block _ (heap_lt H9.out.2.2.2.2)).trans H9.out.2.2.2.2
                have d0 : w9.cell? ⟨w.heap.size, 0, none⟩ = some (.int .i64 dd.kind) := cell_of_row _ _ 0 _ _ (0, 0) hx9
                have d1 : w9.cell? ⟨w.heap.size, 1, none⟩ = some (.int .i64 dd.kof) := cell_of_row _ _ 1 _ _ (0, 0) hx9
                have d2 : w9.cell? ⟨w.heap.size, 2, none⟩ = some (.int .i64 dd.mode) := cell_of_row _ _ 2 _ _ (0, 0) hx9
                have d3 : w9.cell? ⟨w.heap.size, 3, none⟩ = some (.int .i64 dd.e.dir.1) := cell_of_row _ _ 3 _ _ (0, 0) hx9
                have d4 : w9.cell? ⟨w.heap.size, 4, none⟩ = some (.int .i64 dd.e.dir.2) := cell_of_row _ _ 4 _ _ (0, 0) hx9
                have d5 : w9.cell? ⟨w.heap.size, 5, none⟩ = some (.string dd.e.name) := cell_of_row _ _ 5 _ _ (0, 0) hx9
                have d6 : w9.cell? ⟨w.heap.size, 6, none⟩ = some (.int .i64 dd.e.ino.1) := cell_of_row _ _ 6 _ _ (0, 0) hx9
                have d7 : w9.cell? ⟨w.heap.size, 7, none⟩ = some (.int .i64 dd.e.ino.2) := cell_of_row _ _ 7 _ _ (0, 0) hx9
                have d8 : w9.cell? ⟨w.heap.size, 8, none⟩ = some (.string dd.data) := cell_of_row _ _ 8 _ _ (0, 0) hx9
                have HD := Lib.hid (do_any H b U γ dd w9 rb HOK.out HDD.out)
                unfold ddA at HD
                have HU := Lib.hid (And.intro hU hb9)
                clear rb hU hb9 hx9
                go_wp2_with fail
                refine HD.out.mono ?_
                rintro e w10 ⟨U', rfl, _, _, hbut⟩
                have hb10 : Below wr.heap.size wr w10 := HU.out.2.trans (hbut.below HU.out.1 HU.out.2.size)
                have hBW := below_step H9.out.2.2.2.1 hb10
                have hB0' := below_step HB0.out hBW
                have hB6 := H9.out.2.2.1.trans (hb10.mono H9.out.2.2.1.size)
                have hI : InosIn w10 w10.heap.size A5 X.length X := H9.out.1.1.later hB6
                have hEn : EntsIn w10 w10.heap.size A6 E.length E := H9.out.1.2.1.later hB6
                have r10 := H.keep H9.out.2.1 fun i hi => hb10.block i (H9.out.1.2.2 i hi)
                have C1 : Hid (∀ W, Below w10.heap.size w10 W → Calls Try.prog 25 #[.pointer (some a)] W (InosPost X W)) := fun W hW => by
                  refine (H.inodes a S γ W (H.keep r10 fun i hi => hW.block i (H.lt r10 i hi)) HOK.out).mono ?_
                  rintro e w' ⟨v, rfl, hown, hb⟩
                  rw [← HXE.out.1] at hown
                  obtain ⟨B, c, rfl, q1, q2, q3⟩ := inos_own rfl hown
                  exact ⟨B, c, rfl, q1, q2, q3.1, q3.2, hb⟩
                have C2 : Hid (∀ W, Below w10.heap.size w10 W → Calls Try.prog 24 #[.pointer (some a)] W (EntsPost E W)) := fun W hW => by
                  refine (H.entries a S γ W (H.keep r10 fun i hi => hW.block i (H.lt r10 i hi)) HOK.out).mono ?_
                  rintro e w' ⟨v, rfl, hown, hb⟩
                  rw [← HXE.out.2] at hown
                  obtain ⟨B, c, rfl, q1, q2, q3⟩ := ents_own rfl hown
                  exact ⟨B, c, rfl, q1, q2, q3.1, q3.2, hb⟩
                have C3 : Hid (∀ (B : Option Addr) (k : Nat) (W : World), Below w10.heap.size w10 W → InosIn W W.heap.size B X.length X → Calls Try.prog 27 #[.slice B X.length k, .slice A5 X.length k5] W fun e w' => e = .returned (.bool true) ∧ Below W.heap.size W w') := fun B k W hW h1 => by
                  have := refNodes B A5 _ k _ k5 _ _ (by omega) (by omega) W h1 (hI.later hW)
                  simpa using this
                have C4 : Hid (∀ (B : Option Addr) (k : Nat) (W : World), Below w10.heap.size w10 W → EntsIn W W.heap.size B E.length E → Calls Try.prog 19 #[.slice B E.length k, .slice A6 E.length k6] W fun e w' => e = .returned (.bool true) ∧ Below W.heap.size W w') := fun B k W hW h1 => by
                  have := refEnts B A6 _ k _ k6 _ _ (by omega) (by omega) W h1 (hEn.later hW)
                  simpa using this
                have HBW := Lib.hid hB0'
                clear HD HU hbut hb10 hBW hB6 hI hEn r10 H9 HCP d0 d1 d2 d3 d4 d5 d6 d7 d8 hB0'
                go_wp2_with fail
                refine (C1.out _ (Below.refl _ _)).mono ?_
                rintro e w11 ⟨B1, k1, rfl, q1, _, _, _, hb11⟩
                go_wp2_with fail
                refine (C3.out B1 k1 _ hb11 q1).mono ?_
                rintro e w12 ⟨rfl, hb12⟩
                have hb12' := below_step hb11 hb12
                clear q1 hb11 hb12
                go_wp2_with fail
                refine (C2.out _ hb12').mono ?_
                rintro e w13 ⟨B2, k2, rfl, q2, _, _, _, hb13⟩
                have hb13' := below_step hb12' hb13
                clear hb12' hb13
                go_wp2_with fail
                refine (C4.out B2 k2 _ hb13' q2).mono ?_
                rintro e w14 ⟨rfl, hb14⟩
                have hb14' := below_step HBW.out (below_step hb13' hb14)
                clear hb13' hb14 q2
                go_wp2_with fail
                go_ret
                exact ⟨rfl, hb14'⟩

theorem walk0 (H : GraphHave) (A : Option Addr) (n c : Nat) (ds : List Dd) (dd : Dd) (w : World) (hnc : n ≤ c) (hc : c ≤ maxLen) (hds : ∀ x ∈ ds, x.e.name.size ≤ maxLen) (h : DdsIn w w.heap.size A n ds) (hdd : dd.e.name.size ≤ maxLen) :
    Calls Try.prog 7 #[.slice A n c, .agg (ddA dd)] w fun e w' => e = .returned (.bool true) ∧ Below w.heap.size w w' :=
  core H A n c ds dd (Nat.le_trans hnc hc) hds hdd w h

end Go.Proofs.Ythobfeohgeeofaa.lawGraphFresh
