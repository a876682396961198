/-
  Behind whatever was done any inode, any entry, any directory's entries, its parent, and whether anything is under anything, are the document's: for all lists of deeds (the first 150 are done), and all entries.
-/
import Derived.Test.YthobfeohgeeofaaZ12
import Derived.Test.YthobfeohgeeofaaZ12
import Derived.Test.YthobfeohgeeofaaGraphPlayZ
import Derived.Test.YthobfeohgeeofaaGraphLaterZ
import Derived.Test.YthobfeohgeeofaaGraphEqZ
import Derived.Deep.LoopGhost
import Derived.OpenShut
import Derived.Deep.RegionHeld3
namespace Go.Proofs.Ythobfeohgeeofaa.lawGraphTells
open Go.RowKit StampMath GraphMath OpMath

theorem kept_of {C : Prop} {V W : World} (h : C ∧ KeptFrom V W) : Below V.heap.size V W := h.2

theorem heap_kept {W : World} {b : Nat} {o : Obj} (h : W.heap[b]? = some o) (o' : Obj) : (W.alloc o').heap[b]? = some o := (heap_alloc_old W o' (heap_lt h)).trans h

set_option maxRecDepth 100000 in
set_option maxHeartbeats 12800000 in
theorem core (H : GraphHave) (A : Option Addr) (n c : Nat) (ds : List Dd) (e0 : Ent) (hn : n ≤ maxLen) (hname : ∀ d ∈ ds, d.e.name.size ≤ maxLen) (he : e0.name.size ≤ maxLen) (w : World) (h : DdsIn w w.heap.size A n ds) :
    Calls Try.prog 3 #[.slice A n c, .agg (entA e0)] w fun e w' => e = .returned (.bool true) ∧ Below w.heap.size w w' := by
  have hl := h.len
  have hb0 : Below w.heap.size w (w.alloc (.cells (entA e0) 26)) := (Below.refl w.heap.size w).alloc (Nat.le_refl _) _
  have hx0 := heap_alloc_new w (.cells (entA e0) 26)
  have h0 : DdsIn _ _ A n ds := TabIn.more (TabIn.below h hb0) hb0.size
  have HL := Lib.hid hl
  have HN := Lib.hid hname
  have HE := Lib.hid he
  unfold maxLen at hn
  clear h hl hname he
  go_enter Try.func3, Try.ntmps3
  go_upto_region 1 with (fail)
  change Code.wp _ _ _ _ (w.alloc (.cells (entA e0) 26))
  generalize w.alloc (.cells (entA e0) 26) = W0 at hb0 hx0 h0 ⊢
  have HX := Lib.hid h0
  have HB0 := Lib.hid hb0
  have HX0 := Lib.hid hx0
  clear h0 hb0 hx0
  go_wp2_with fail
  refine (H.shown _).mono ?_
  rintro e w1 ⟨rfl, hb1⟩
  go_wp2_with fail
  refine (GX.new (H := H) hb1 (fun _ => False) (fun _ h => h.elim)).mono ?_
  rintro e w2 ⟨a, rfl, g2, hb2⟩
  have G2 := Lib.hid g2
  clear g2 hb2 hb1
  go_wp2_with fail
  refine (refGraphNew _).mono ?_
  rintro e w3 ⟨v, rfl, x3, hb3⟩
  obtain ⟨X, n1, c1, Y, m1, d1, rfl⟩ := x3.form
  have q3 := Lib.hid (And.intro x3 hb3)
  clear x3 hb3
  go_wp2_with fail
  have P0 : Hid (∃ N, Play H W0 (w3.alloc (.cells #[.slice X n1 c1, .slice Y m1 d1] 33)) a w3.heap.size newG X n1 c1 Y m1 d1 N) := by
    obtain ⟨x3, hb3⟩ := q3.out
    have hA := (Below.refl w3.heap.size w3).alloc (Nat.le_refl _) (.cells #[.slice X n1 c1, .slice Y m1 d1] 33)
    have h1 := below_step hb3 hA
    have g1 := G2.out.grow h1
    have hs := hb3.size
    have hs2 := G2.out.below.size
    refine ⟨_, g1, (x3.live.step hA fun i hi => ?_), .inr ⟨hs, by simp⟩, by omega, heap_alloc_new w3 _⟩
    exact ⟨.inr ⟨hi.1, by simp; omega⟩, by omega⟩
  clear q3 G2
  change Code.wp _ _ _ _ (w3.alloc (.cells #[.slice X n1 c1, .slice Y m1 d1] 33))
  obtain ⟨bx, hbx⟩ : ∃ b, b = w3.heap.size := ⟨_, rfl⟩
  rw [← hbx] at P0 ⊢
  generalize w3.alloc (.cells #[.slice X n1 c1, .slice Y m1 d1] 33) = w4 at P0 ⊢
  clear hbx
  go_loopg [8] 151 (fun gk i wr => ∃ (k : Nat) (γ : Gr) (X : Option Addr) (n1 c1 : Nat) (Y : Option Addr) (m1 d1 : Nat), i = .int .i64 (k : Int) ∧ gk + k = 151 ∧ k ≤ n ∧ k ≤ 150 ∧ Hid (∃ N, Play H W0 wr a bx γ X n1 c1 Y m1 d1 N))
  case atStart => exact ⟨0, newG, X, n1, c1, Y, m1, d1, rfl, by omega, by omega, by omega, P0⟩
  case round =>
    clear P0
    obtain ⟨k, γ, Xa, na, ca, Ya, ma, da, rfl, hgk, hk, hk2, hP⟩ := hrel
    have HG := Lib.hid hgk
    clear hgk
    by_cases hlt : k < n ∧ k < 150
    · obtain ⟨l1, l2⟩ := hlt
      obtain ⟨gi, o, rfl, hg, hcell⟩ := HX.out.row (by omega)
      have lk : k < ds.length := by have := HL.out; omega
      have hnm := HN.out _ (List.getElem_mem lk)
      have hca := hcell k lk
      obtain ⟨d, hd⟩ : ∃ d, ds[k] = d := ⟨_, rfl⟩
      rw [hd] at hca hnm
      have HD : Hid (∀ W, Below W0.heap.size W0 W → DdAt W gi (o + k * 9) d) := fun W hW => hca.below hW hg
      have HNM := Lib.hid hnm
      have hi0 : (0 : Int) ≤ (k : Int) := by omega
      have hi1 : (k : Int) < (n : Int) := by omega
      clear hcell hca hd hnm lk hg
      obtain ⟨N, hP⟩ := hP.out
      have HOK := Lib.hid hP.gr.ok
      have PC := Lib.hid hP
      obtain ⟨z0, z1, z2, z3, z4, z5, z6, z7, z8⟩ := HD.out _ hP.gr.below
      clear hP
      have HDO := Lib.hid (PC.out.gr.deed d HNM.out)
      unfold ddA at HDO
      go_wp2_with fail
      refine HDO.out.mono ?_
      rintro e w6 ⟨rfl, g6, s6⟩
      have P6 : Hid (GX H W0 w6 (fun i => N i ∨ False) a (doG γ d).1 ∧ GrAt (fun i => N i ∧ i ≠ bx) w6 (.agg #[.slice Xa na ca, .slice Ya ma da]) γ ∧ (N bx ∧ W0.heap.size ≤ bx) ∧ w6.heap[bx]? = some (.cells #[.slice Xa na ca, .slice Ya ma da] 33 (0, 0))) :=
        ⟨g6.less fun i hi => hi.elim id False.elim, PC.out.x.keep (fun i hi => s6.2 i hi.1) s6.1, ⟨PC.out.here, PC.out.ge⟩, (s6.2 _ PC.out.here).trans PC.out.box⟩
      clear g6 s6 HDO PC z0 z1 z2 z3 z4 z5 z6 z7 z8
      obtain ⟨z0, z1, z2, z3, z4, z5, z6, z7, z8⟩ := HD.out _ P6.out.1.below
      obtain ⟨x0, x1⟩ := two_cells P6.out.2.2.2
      have hok := HOK.out
      have R : Hid (∀ W, Below w6.heap.size w6 W → Calls Try.prog 12 #[.agg #[.slice Xa na ca, .slice Ya ma da], .agg #[.int .i64 d.kind, .int .i64 d.kof, .int .i64 d.mode, .int .i64 d.e.dir.1, .int .i64 d.e.dir.2, .string d.e.name, .int .i64 d.e.ino.1, .int .i64 d.e.ino.2, .string d.data]] W fun e w' =>
          ∃ (X : Option Addr) (n1 c1 : Nat) (Y : Option Addr) (m1 d1 : Nat), e = .returned (.tuple #[.agg #[.slice X n1 c1, .slice Y m1 d1], .int .i64 (doG γ d).2]) ∧ GrAt (MoreN (fun i => N i ∧ i ≠ bx) W) w' (.agg #[.slice X n1 c1, .slice Y m1 d1]) (doG γ d).1 ∧ Below W.heap.size W w') := fun W hW => by
        refine (want_any (fun i => N i ∧ i ≠ bx) _ γ d hok (by have := HNM.out; unfold maxLen at this; omega) W (P6.out.2.1.step hW)).mono ?_
        rintro e w' ⟨v, rfl, q1, q2⟩
        obtain ⟨X, n1, c1, Y, m1, d1, rfl⟩ := q1.form
        exact ⟨X, n1, c1, Y, m1, d1, rfl, q1, q2⟩
      go_upto_region 8 with fail
      go_cut [9, 10] from 42 to 50 (fun v1 v2 wx => Told (fun i => N i ∧ i ≠ bx) w6 (doG γ d).1 (doG γ d).2 v1 v2 wx)
      case first =>
        have zb := heap_lt P6.out.2.2.2
        have zg : gi < w6.heap.size := World.block_lt_of_cell? _ _ z0
        go_region_with (first
          | (go_at_call 12; (with_reducible refine (R.out ((w6.alloc (.cells #[.slice none 0 0, .slice none 0 0] 33)).drew) (by repeat (first | exact Below.refl _ _ | assumption | apply Below.drew | exact (Below.refl _ _).alloc (Nat.le_refl _) _))).mono ?_); rintro e w8 ⟨X8, n8, c8, Y8, m8, d8, rfl, q8, hb8⟩; have hx8 := box_behind hb8; obtain ⟨y0, y1⟩ := two_cells hx8; obtain ⟨y2, y3⟩ := two_free hx8)
          | (go_at_call 12; (with_reducible refine (R.out _ (by repeat (first | exact Below.refl _ _ | assumption | apply Below.drew | exact (Below.refl _ _).alloc (Nat.le_refl _) _))).mono ?_); rintro e w8 ⟨X8, n8, c8, Y8, m8, d8, rfl, q8, hb8⟩))
        all_goals
          go_wp2_with fail
          go_meet
        all_goals (case rel => first | exact told_after (by repeat (first | exact Below.refl _ _ | assumption | apply Below.drew)) q8 hb8 | exact told_before (fun i hi => P6.out.1.lt i (.inl hi.1)) hx8 q8 hb8)
      case rest =>
        obtain ⟨bn, X8, n8, c8, Y8, m8, d8, rfl, rfl, hB8, hge8, hbox8, q8⟩ := hcut
        generalize wc = w9 at hB8 hbox8 q8 ⊢
        have hx9 := (hB8.block _ (heap_lt P6.out.2.2.2)).trans P6.out.2.2.2
        have Q := Lib.hid (play_end P6.out.1 P6.out.2.2.1.1 P6.out.2.2.1.2 P6.out.2.2.2 hB8 q8 (Below.refl _ _))
        clear x0 x1 z0 z1 z2 z3 z4 z5 z6 z7 z8 q8
        obtain ⟨x0, x1⟩ := two_cells hx9
        obtain ⟨y0, y1⟩ := two_cells hbox8
        obtain ⟨f0, f1⟩ := two_free hx9
        clear hx9 hbox8 hB8 hge8 P6 HD R hok HOK
        go_wp2_with fail
        go_roundg (gk - 1)
        case measure => have := HG.out; omega
        case rel => exact ⟨k + 1, (doG γ d).1, X8, n8, c8, Y8, m8, d8, by go_num, by have := HG.out; omega, by omega, by omega, Q.out⟩
    · have hcase : ¬ (k : Int) < (n : Int) ∨ ((k : Int) < (n : Int) ∧ ¬ (k : Int) < 150) := by omega
      clear hlt
      obtain ⟨N, hp⟩ := hP.out
      obtain ⟨x0, x1⟩ := two_cells hp.box
      have hE0 := (hp.gr.below.block _ (heap_lt HX0.out)).trans HX0.out
      have hz : w.heap.size < wr.heap.size := heap_lt hE0
      have q0 : wr.cell? ⟨w.heap.size, 0, none⟩ = some (.int .i64 e0.dir.1) := cell_of_row _ _ 0 _ _ (0, 0) hE0
      have q1 : wr.cell? ⟨w.heap.size, 1, none⟩ = some (.int .i64 e0.dir.2) := cell_of_row _ _ 1 _ _ (0, 0) hE0
      have q2 : wr.cell? ⟨w.heap.size, 2, none⟩ = some (.string e0.name) := cell_of_row _ _ 2 _ _ (0, 0) hE0
      have q3 : wr.cell? ⟨w.heap.size, 3, none⟩ = some (.int .i64 e0.ino.1) := cell_of_row _ _ 3 _ _ (0, 0) hE0
      have q4 : wr.cell? ⟨w.heap.size, 4, none⟩ = some (.int .i64 e0.ino.2) := cell_of_row _ _ 4 _ _ (0, 0) hE0
      have HP := Lib.hid hp
      have HF : Hid (∀ W, Below wr.heap.size wr W → (W.cell? ⟨w.heap.size, 0, none⟩ = some (.int .i64 e0.dir.1) ∧ W.cell? ⟨w.heap.size, 1, none⟩ = some (.int .i64 e0.dir.2) ∧ W.cell? ⟨w.heap.size, 2, none⟩ = some (.string e0.name) ∧ W.cell? ⟨w.heap.size, 3, none⟩ = some (.int .i64 e0.ino.1) ∧ W.cell? ⟨w.heap.size, 4, none⟩ = some (.int .i64 e0.ino.2)) ∧
          (W.cell? ⟨bx, 0, none⟩ = some (.slice Xa na ca) ∧ W.cell? ⟨bx, 1, none⟩ = some (.slice Ya ma da)) ∧ w.heap.size < W.heap.size ∧ bx < W.heap.size) := fun W hW =>
        ⟨⟨cell_later hW q0, cell_later hW q1, cell_later hW q2, cell_later hW q3, cell_later hW q4⟩, ⟨cell_later hW x0, cell_later hW x1⟩, Nat.lt_of_lt_of_le hz hW.size, Nat.lt_of_lt_of_le (heap_lt hp.box) hW.size⟩
      have hok := hp.gr.ok
      have hI1 : γ.I.length ≤ 1000 := Nat.le_trans hok.few (by decide)
      have hE1 : γ.E.length ≤ 1000 := Nat.le_trans hok.entsFew (by decide)
      obtain ⟨A0, k0, c0', A1, k1, c1', hv, hI, _, hE, _⟩ := hp.x
      simp only [Value.agg.injEq, Array.mk.injEq, List.cons.injEq, Value.slice.injEq, and_true] at hv
      obtain ⟨⟨rfl, rfl, rfl⟩, rfl, rfl, rfl⟩ := hv
      have hIn := hI.len
      have hEn := hE.len
      have LI : ∀ W, Below wr.heap.size wr W → InosIn W W.heap.size Xa na γ.I := fun W hW => (hI.below hW).more hW.size
      have LE : ∀ W, Below wr.heap.size wr W → EntsIn W W.heap.size Ya ma γ.E := fun W hW => (hE.below hW).more hW.size
      obtain ⟨vI, hvI⟩ : ∃ v, v = (getG γ e0.ino).getD noIno := ⟨_, rfl⟩
      obtain ⟨bI, hbI⟩ : ∃ v, v = (getG γ e0.ino).isSome := ⟨_, rfl⟩
      obtain ⟨vL, hvL⟩ : ∃ v, v = (lookE γ.E e0.dir e0.name).getD (0, 0) := ⟨_, rfl⟩
      obtain ⟨bL, hbL⟩ : ∃ v, v = (lookE γ.E e0.dir e0.name).isSome := ⟨_, rfl⟩
      obtain ⟨vP, hvP⟩ : ∃ v, v = (parentG γ e0.dir).getD (0, 0) := ⟨_, rfl⟩
      obtain ⟨bP, hbP⟩ : ∃ v, v = (parentG γ e0.dir).isSome := ⟨_, rfl⟩
      obtain ⟨bU, hbU⟩ : ∃ v, v = underG γ e0.dir e0.ino := ⟨_, rfl⟩
      obtain ⟨LL, hLL⟩ : ∃ v, v = listE γ.E e0.dir := ⟨_, rfl⟩
      have hLn : LL.length ≤ 1000 := by rw [hLL]; exact Nat.le_trans (listE_le _ _) hE1
      have K1 : Hid (∀ W, Below wr.heap.size wr W → Calls Try.prog 13 #[.pointer (some a), .agg #[.int .i64 e0.ino.1, .int .i64 e0.ino.2]] W fun e w' => e = .returned (.tuple #[.agg (inoA vI), .bool bI]) ∧ Below W.heap.size W w') := fun W hW => by
        rw [hvI, hbI]; exact ((hp.gr.step hW).get e0.ino).mono fun e w' h => ⟨h.1, h.2.2⟩
      have K2 : Hid (∀ W, Below wr.heap.size wr W → Calls Try.prog 14 #[.agg #[.slice Xa na ca, .slice Ya ma da], .agg #[.int .i64 e0.ino.1, .int .i64 e0.ino.2]] W fun e w' => e = .returned (.tuple #[.agg (inoA vI), .bool bI]) ∧ Below W.heap.size W w') := fun W hW => by
        rw [hvI, hbI]; exact refGet Xa Ya na ca ma da γ e0.ino (by omega) (by omega) W (LI W hW) (LE W hW)
      have K3 : Hid (∀ W, Below wr.heap.size wr W → Calls Try.prog 15 #[.pointer (some a), .agg #[.int .i64 e0.dir.1, .int .i64 e0.dir.2], .string e0.name] W fun e w' => e = .returned (.tuple #[.agg #[.int .i64 vL.1, .int .i64 vL.2], .bool bL]) ∧ Below W.heap.size W w') := fun W hW => by
        rw [hvL, hbL]; exact ((hp.gr.step hW).look e0.dir e0.name HE.out).mono fun e w' h => ⟨h.1, h.2.2⟩
      have K4 : Hid (∀ W, Below wr.heap.size wr W → Calls Try.prog 16 #[.agg #[.slice Xa na ca, .slice Ya ma da], .agg #[.int .i64 e0.dir.1, .int .i64 e0.dir.2], .string e0.name] W fun e w' => e = .returned (.tuple #[.agg #[.int .i64 vL.1, .int .i64 vL.2], .bool bL]) ∧ Below W.heap.size W w') := fun W hW => by
        rw [hvL, hbL]; exact refLook (.slice Xa na ca) Ya ma da γ.E e0.dir e0.name (by omega) W (LE W hW)
      have K5 : Hid (∀ W, Below wr.heap.size wr W → Calls Try.prog 17 #[.pointer (some a), .agg #[.int .i64 e0.dir.1, .int .i64 e0.dir.2]] W fun e w' => e = .returned (.tuple #[.agg #[.int .i64 vP.1, .int .i64 vP.2], .bool bP]) ∧ Below W.heap.size W w') := fun W hW => by
        rw [hvP, hbP]; exact ((hp.gr.step hW).parent e0.dir).mono fun e w' h => ⟨h.1, h.2.2⟩
      have K6 : Hid (∀ W, Below wr.heap.size wr W → Calls Try.prog 18 #[.agg #[.slice Xa na ca, .slice Ya ma da], .agg #[.int .i64 e0.dir.1, .int .i64 e0.dir.2]] W fun e w' => e = .returned (.tuple #[.agg #[.int .i64 vP.1, .int .i64 vP.2], .bool bP]) ∧ Below W.heap.size W w') := fun W hW => by
        rw [hvP, hbP]; exact refParent Xa Ya na ca ma da γ e0.dir (by omega) (by omega) W (LI W hW) (LE W hW)
      have K7 : Hid (∀ W, Below wr.heap.size wr W → Calls Try.prog 20 #[.pointer (some a), .agg #[.int .i64 e0.dir.1, .int .i64 e0.dir.2]] W (EntsPost LL W)) := fun W hW => by
        refine ((hp.gr.step hW).list e0.dir).mono ?_
        rintro e w' ⟨⟨v, rfl, hown, hb⟩, _⟩
        rw [← hLL] at hown
        obtain ⟨B, c, rfl, q1, q2, q3⟩ := ents_own rfl hown
        exact ⟨B, c, rfl, q1, q2, q3.1, q3.2, hb⟩
      have K8 : Hid (∀ W, Below wr.heap.size wr W → Calls Try.prog 21 #[.agg #[.slice Xa na ca, .slice Ya ma da], .agg #[.int .i64 e0.dir.1, .int .i64 e0.dir.2]] W (EntsPost LL W)) := fun W hW => by
        rw [hLL]; exact refList (.slice Xa na ca) Ya ma da γ.E e0.dir (by omega) W (LE W hW)
      have K9 : Hid (∀ (B B' : Option Addr) (k k' : Nat) (W : World), EntsIn W W.heap.size B LL.length LL → EntsIn W W.heap.size B' LL.length LL → Calls Try.prog 19 #[.slice B LL.length k, .slice B' LL.length k'] W fun e w' => e = .returned (.bool true) ∧ Below W.heap.size W w') := fun B B' k k' W h1 h2 => by
        have := refEnts B B' _ k _ k' _ _ hLn hLn W h1 h2
        simpa using this
      have K10 : Hid (∀ W, Below wr.heap.size wr W → Calls Try.prog 22 #[.pointer (some a), .agg #[.int .i64 e0.dir.1, .int .i64 e0.dir.2], .agg #[.int .i64 e0.ino.1, .int .i64 e0.ino.2]] W fun e w' => e = .returned (.bool bU) ∧ Below W.heap.size W w') := fun W hW => by
        rw [hbU]; exact ((hp.gr.step hW).under e0.dir e0.ino).mono fun e w' h => ⟨h.1, h.2.2⟩
      have K11 : Hid (∀ W, Below wr.heap.size wr W → Calls Try.prog 23 #[.agg #[.slice Xa na ca, .slice Ya ma da], .agg #[.int .i64 e0.dir.1, .int .i64 e0.dir.2], .agg #[.int .i64 e0.ino.1, .int .i64 e0.ino.2]] W fun e w' => e = .returned (.bool bU) ∧ Below W.heap.size W w') := fun W hW => by
        rw [hbU]; exact refUnder Xa Ya na ca ma da γ e0.dir e0.ino (by omega) (by omega) W (LI W hW) (LE W hW)
      have HWR := Lib.hid (below_step HB0.out hp.gr.below)
      clear hp hP hE0 hok hI1 hE1 hI hE LI LE hvI hbI hvL hbL hvP hbP hbU hLL hLn hIn hEn HP q0 q1 q2 q3 q4 x0 x1 hz HX HL HN HE
      unfold inoA at K1 K2
      obtain ⟨⟨q0, q1, q2, q3, q4⟩, ⟨x0, x1⟩, z0, z1⟩ := HF.out _ (Below.refl wr.heap.size wr)
      rcases hcase with c0 | ⟨c0, c1⟩
      all_goals
        go_wp2_with fail
        refine (K1.out _ (Below.refl _ _)).mono ?_
        rintro e w5 ⟨rfl, B5⟩
        clear q0 q1 q2 q3 q4 x0 x1 z0 z1
        obtain ⟨⟨q0, q1, q2, q3, q4⟩, ⟨x0, x1⟩, z0, z1⟩ := HF.out _ B5
        go_wp2_with fail
        have C5 := below_step B5 ((Below.refl w5.heap.size w5).alloc (Nat.le_refl _) (.cells #[.int .i64 vI.id.1, .int .i64 vI.id.2, .int .i64 vI.kind, .int .i64 vI.links, .int .i64 vI.mode, .string vI.data] 42))
        have h5 := heap_alloc_new w5 (.cells #[.int .i64 vI.id.1, .int .i64 vI.id.2, .int .i64 vI.kind, .int .i64 vI.links, .int .i64 vI.mode, .string vI.data] 42)
        refine (K2.out _ C5).mono ?_
        rintro e w6 ⟨rfl, hb⟩
        have B6 := below_step C5 hb
        have h5 := (hb.block _ (heap_lt h5)).trans h5
        clear hb C5 q0 q1 q2 q3 q4 x0 x1 z0 z1
        obtain ⟨⟨q0, q1, q2, q3, q4⟩, ⟨x0, x1⟩, z0, z1⟩ := HF.out _ B6
        go_wp2_with fail
        have C6 := below_step B6 ((Below.refl w6.heap.size w6).alloc (Nat.le_refl _) (.cells #[.int .i64 vI.id.1, .int .i64 vI.id.2, .int .i64 vI.kind, .int .i64 vI.links, .int .i64 vI.mode, .string vI.data] 42))
        have h6 := heap_alloc_new w6 (.cells #[.int .i64 vI.id.1, .int .i64 vI.id.2, .int .i64 vI.kind, .int .i64 vI.links, .int .i64 vI.mode, .string vI.data] 42)
        refine (K3.out _ C6).mono ?_
        rintro e w7 ⟨rfl, hb⟩
        have B7 := below_step C6 hb
        have h5 := (hb.block _ (heap_lt (heap_kept h5 _))).trans (heap_kept h5 _)
        have h6 := (hb.block _ (heap_lt h6)).trans h6
        clear hb C6 q0 q1 q2 q3 q4 x0 x1 z0 z1
        obtain ⟨⟨q0, q1, q2, q3, q4⟩, ⟨x0, x1⟩, z0, z1⟩ := HF.out _ B7
        go_wp2_with fail
        have C7 := below_step B7 ((Below.refl w7.heap.size w7).alloc (Nat.le_refl _) (.cells #[.int .i64 vL.1, .int .i64 vL.2] 24))
        have h7 := heap_alloc_new w7 (.cells #[.int .i64 vL.1, .int .i64 vL.2] 24)
        refine (K4.out _ C7).mono ?_
        rintro e w8 ⟨rfl, hb⟩
        have B8 := below_step C7 hb
        have h5 := (hb.block _ (heap_lt (heap_kept h5 _))).trans (heap_kept h5 _)
        have h6 := (hb.block _ (heap_lt (heap_kept h6 _))).trans (heap_kept h6 _)
        have h7 := (hb.block _ (heap_lt h7)).trans h7
        clear hb C7 q0 q1 q2 q3 q4 x0 x1 z0 z1
        obtain ⟨⟨q0, q1, q2, q3, q4⟩, ⟨x0, x1⟩, z0, z1⟩ := HF.out _ B8
        go_wp2_with fail
        have C8 := below_step B8 ((Below.refl w8.heap.size w8).alloc (Nat.le_refl _) (.cells #[.int .i64 vL.1, .int .i64 vL.2] 24))
        have h8 := heap_alloc_new w8 (.cells #[.int .i64 vL.1, .int .i64 vL.2] 24)
        refine (K5.out _ C8).mono ?_
        rintro e w9 ⟨rfl, hb⟩
        have B9 := below_step C8 hb
        have h5 := (hb.block _ (heap_lt (heap_kept h5 _))).trans (heap_kept h5 _)
        have h6 := (hb.block _ (heap_lt (heap_kept h6 _))).trans (heap_kept h6 _)
        have h7 := (hb.block _ (heap_lt (heap_kept h7 _))).trans (heap_kept h7 _)
        have h8 := (hb.block _ (heap_lt h8)).trans h8
        clear hb C8 q0 q1 q2 q3 q4 x0 x1 z0 z1
        obtain ⟨⟨q0, q1, q2, q3, q4⟩, ⟨x0, x1⟩, z0, z1⟩ := HF.out _ B9
        go_wp2_with fail
        have C9 := below_step B9 ((Below.refl w9.heap.size w9).alloc (Nat.le_refl _) (.cells #[.int .i64 vP.1, .int .i64 vP.2] 24))
        have h9 := heap_alloc_new w9 (.cells #[.int .i64 vP.1, .int .i64 vP.2] 24)
        refine (K6.out _ C9).mono ?_
        rintro e w10 ⟨rfl, hb⟩
        have B10 := below_step C9 hb
        have h5 := (hb.block _ (heap_lt (heap_kept h5 _))).trans (heap_kept h5 _)
        have h6 := (hb.block _ (heap_lt (heap_kept h6 _))).trans (heap_kept h6 _)
        have h7 := (hb.block _ (heap_lt (heap_kept h7 _))).trans (heap_kept h7 _)
        have h8 := (hb.block _ (heap_lt (heap_kept h8 _))).trans (heap_kept h8 _)
        have h9 := (hb.block _ (heap_lt h9)).trans h9
        clear hb C9 q0 q1 q2 q3 q4 x0 x1 z0 z1
        obtain ⟨⟨q0, q1, q2, q3, q4⟩, ⟨x0, x1⟩, z0, z1⟩ := HF.out _ B10
        go_wp2_with fail
        have C10 := below_step B10 ((Below.refl w10.heap.size w10).alloc (Nat.le_refl _) (.cells #[.int .i64 vP.1, .int .i64 vP.2] 24))
        have h10 := heap_alloc_new w10 (.cells #[.int .i64 vP.1, .int .i64 vP.2] 24)
        have h5 := heap_kept h5 (.cells #[.int .i64 vP.1, .int .i64 vP.2] 24)
        have h6 := heap_kept h6 (.cells #[.int .i64 vP.1, .int .i64 vP.2] 24)
        have h7 := heap_kept h7 (.cells #[.int .i64 vP.1, .int .i64 vP.2] 24)
        have h8 := heap_kept h8 (.cells #[.int .i64 vP.1, .int .i64 vP.2] 24)
        have h9 := heap_kept h9 (.cells #[.int .i64 vP.1, .int .i64 vP.2] 24)
        clear q0 q1 q2 q3 q4 x0 x1 z0 z1
        obtain ⟨⟨q0, q1, q2, q3, q4⟩, ⟨x0, x1⟩, z0, z1⟩ := HF.out _ C10
        have hB0 := HWR.out
        change Code.wp _ _ _ _ (w10.alloc (.cells #[.int .i64 vP.1, .int .i64 vP.2] 24))
        generalize (w10.alloc (.cells #[.int .i64 vP.1, .int .i64 vP.2] 24)) = VV at C10 h5 h6 h7 h8 h9 h10 q0 q1 q2 q3 q4 x0 x1 z0 z1 ⊢
        have HS : Hid (∀ W, Below VV.heap.size VV W → (W.cell? ⟨w.heap.size, 0, none⟩ = some (.int .i64 e0.dir.1) ∧ W.cell? ⟨w.heap.size, 1, none⟩ = some (.int .i64 e0.dir.2) ∧ W.cell? ⟨w.heap.size, 2, none⟩ = some (.string e0.name) ∧ W.cell? ⟨w.heap.size, 3, none⟩ = some (.int .i64 e0.ino.1) ∧ W.cell? ⟨w.heap.size, 4, none⟩ = some (.int .i64 e0.ino.2) ∧ W.cell? ⟨bx, 0, none⟩ = some (.slice Xa na ca) ∧ W.cell? ⟨bx, 1, none⟩ = some (.slice Ya ma da) ∧ W.cell? ⟨w5.heap.size, 0, none⟩ = some (.int .i64 vI.id.1) ∧ W.cell? ⟨w5.heap.size, 1, none⟩ = some (.int .i64 vI.id.2) ∧ W.cell? ⟨w5.heap.size, 2, none⟩ = some (.int .i64 vI.kind) ∧ W.cell? ⟨w5.heap.size, 3, none⟩ = some (.int .i64 vI.links) ∧ W.cell? ⟨w5.heap.size, 4, none⟩ = some (.int .i64 vI.mode) ∧ W.cell? ⟨w5.heap.size, 5, none⟩ = some (.string vI.data) ∧ W.cell? ⟨w6.heap.size, 0, none⟩ = some (.int .i64 vI.id.1) ∧ W.cell? ⟨w6.heap.size, 1, none⟩ = some (.int .i64 vI.id.2) ∧ W.cell? ⟨w6.heap.size, 2, none⟩ = some (.int .i64 vI.kind) ∧ W.cell? ⟨w6.heap.size, 3, none⟩ = some (.int .i64 vI.links) ∧ W.cell? ⟨w6.heap.size, 4, none⟩ = some (.int .i64 vI.mode) ∧ W.cell? ⟨w6.heap.size, 5, none⟩ = some (.string vI.data) ∧ W.cell? ⟨w7.heap.size, 0, none⟩ = some (.int .i64 vL.1) ∧ W.cell? ⟨w7.heap.size, 1, none⟩ = some (.int .i64 vL.2) ∧ W.cell? ⟨w8.heap.size, 0, none⟩ = some (.int .i64 vL.1) ∧ W.cell? ⟨w8.heap.size, 1, none⟩ = some (.int .i64 vL.2) ∧ W.cell? ⟨w9.heap.size, 0, none⟩ = some (.int .i64 vP.1) ∧ W.cell? ⟨w9.heap.size, 1, none⟩ = some (.int .i64 vP.2) ∧ W.cell? ⟨w10.heap.size, 0, none⟩ = some (.int .i64 vP.1) ∧ W.cell? ⟨w10.heap.size, 1, none⟩ = some (.int .i64 vP.2)) ∧ KeptFrom VV W) := fun W hW => ⟨⟨cell_later hW q0, cell_later hW q1, cell_later hW q2, cell_later hW q3, cell_later hW q4, cell_later hW x0, cell_later hW x1, cell_later hW (cell_of_row _ _ 0 _ _ (0, 0) h5), cell_later hW (cell_of_row _ _ 1 _ _ (0, 0) h5), cell_later hW (cell_of_row _ _ 2 _ _ (0, 0) h5), cell_later hW (cell_of_row _ _ 3 _ _ (0, 0) h5), cell_later hW (cell_of_row _ _ 4 _ _ (0, 0) h5), cell_later hW (cell_of_row _ _ 5 _ _ (0, 0) h5), cell_later hW (cell_of_row _ _ 0 _ _ (0, 0) h6), cell_later hW (cell_of_row _ _ 1 _ _ (0, 0) h6), cell_later hW (cell_of_row _ _ 2 _ _ (0, 0) h6), cell_later hW (cell_of_row _ _ 3 _ _ (0, 0) h6), cell_later hW (cell_of_row _ _ 4 _ _ (0, 0) h6), cell_later hW (cell_of_row _ _ 5 _ _ (0, 0) h6), cell_later hW (cell_of_row _ _ 0 _ _ (0, 0) h7), cell_later hW (cell_of_row _ _ 1 _ _ (0, 0) h7), cell_later hW (cell_of_row _ _ 0 _ _ (0, 0) h8), cell_later hW (cell_of_row _ _ 1 _ _ (0, 0) h8), cell_later hW (cell_of_row _ _ 0 _ _ (0, 0) h9), cell_later hW (cell_of_row _ _ 1 _ _ (0, 0) h9), cell_later hW (cell_of_row _ _ 0 _ _ (0, 0) h10), cell_later hW (cell_of_row _ _ 1 _ _ (0, 0) h10)⟩, hW⟩
        have CV := Lib.hid C10
        have hIq : ∀ W, (Op.equalIn 10000 42 (.agg #[.int .i64 vI.id.1, .int .i64 vI.id.2, .int .i64 vI.kind, .int .i64 vI.links, .int .i64 vI.mode, .string vI.data]) (.agg #[.int .i64 vI.id.1, .int .i64 vI.id.2, .int .i64 vI.kind, .int .i64 vI.links, .int .i64 vI.mode, .string vI.data])).run Try.prog W = .ok true W := fun W => by
          have := run_eqIno vI vI W; simpa using this
        have hLq := eqSt_yes (rfl : vL = vL)
        have hPq := eqSt_yes (rfl : vP = vP)
        clear q0 q1 q2 q3 q4 x0 x1 z0 z1 h5 h6 h7 h8 h9 h10 C10 B5 B6 B7 B8 B9 B10 hB0
        go_region_held3 (fun W => (W.cell? ⟨w.heap.size, 0, none⟩ = some (.int .i64 e0.dir.1) ∧ W.cell? ⟨w.heap.size, 1, none⟩ = some (.int .i64 e0.dir.2) ∧ W.cell? ⟨w.heap.size, 2, none⟩ = some (.string e0.name) ∧ W.cell? ⟨w.heap.size, 3, none⟩ = some (.int .i64 e0.ino.1) ∧ W.cell? ⟨w.heap.size, 4, none⟩ = some (.int .i64 e0.ino.2) ∧ W.cell? ⟨bx, 0, none⟩ = some (.slice Xa na ca) ∧ W.cell? ⟨bx, 1, none⟩ = some (.slice Ya ma da) ∧ W.cell? ⟨w5.heap.size, 0, none⟩ = some (.int .i64 vI.id.1) ∧ W.cell? ⟨w5.heap.size, 1, none⟩ = some (.int .i64 vI.id.2) ∧ W.cell? ⟨w5.heap.size, 2, none⟩ = some (.int .i64 vI.kind) ∧ W.cell? ⟨w5.heap.size, 3, none⟩ = some (.int .i64 vI.links) ∧ W.cell? ⟨w5.heap.size, 4, none⟩ = some (.int .i64 vI.mode) ∧ W.cell? ⟨w5.heap.size, 5, none⟩ = some (.string vI.data) ∧ W.cell? ⟨w6.heap.size, 0, none⟩ = some (.int .i64 vI.id.1) ∧ W.cell? ⟨w6.heap.size, 1, none⟩ = some (.int .i64 vI.id.2) ∧ W.cell? ⟨w6.heap.size, 2, none⟩ = some (.int .i64 vI.kind) ∧ W.cell? ⟨w6.heap.size, 3, none⟩ = some (.int .i64 vI.links) ∧ W.cell? ⟨w6.heap.size, 4, none⟩ = some (.int .i64 vI.mode) ∧ W.cell? ⟨w6.heap.size, 5, none⟩ = some (.string vI.data) ∧ W.cell? ⟨w7.heap.size, 0, none⟩ = some (.int .i64 vL.1) ∧ W.cell? ⟨w7.heap.size, 1, none⟩ = some (.int .i64 vL.2) ∧ W.cell? ⟨w8.heap.size, 0, none⟩ = some (.int .i64 vL.1) ∧ W.cell? ⟨w8.heap.size, 1, none⟩ = some (.int .i64 vL.2) ∧ W.cell? ⟨w9.heap.size, 0, none⟩ = some (.int .i64 vP.1) ∧ W.cell? ⟨w9.heap.size, 1, none⟩ = some (.int .i64 vP.2) ∧ W.cell? ⟨w10.heap.size, 0, none⟩ = some (.int .i64 vP.1) ∧ W.cell? ⟨w10.heap.size, 1, none⟩ = some (.int .i64 vP.2)) ∧ KeptFrom VV W)
          (first | (with_reducible assumption) | exact HS.out _ (Below.refl _ _).drew)
          (first
            | (go_at_call 20; (with_reducible refine (K7.out _ (below_step CV.out (kept_of (by assumption)))).mono ?_); rintro e w12 ⟨B1, k1, rfl, g1, _, _, _, hb⟩; have hS := HS.out _ (below_step (kept_of (by assumption)) hb))
            | (go_at_call 21; (with_reducible refine (K8.out _ (below_step CV.out (kept_of (by assumption)))).mono ?_); rintro e w12 ⟨B1, k1, rfl, g1, _, _, _, hb⟩; have hS := HS.out _ (below_step (kept_of (by assumption)) hb))
            | (go_at_call 19; (with_reducible refine (K9.out _ _ _ _ _ (EntsIn.later (by assumption) (by repeat (first | exact Below.refl _ _ | assumption | apply Below.drew | refine below_step ?_ (by assumption)))) (EntsIn.later (by assumption) (by repeat (first | exact Below.refl _ _ | assumption | apply Below.drew | refine below_step ?_ (by assumption))))).mono ?_); rintro e w12 ⟨rfl, hb⟩; have hS := HS.out _ (below_step (kept_of (by assumption)) hb))
            | (go_at_call 22; (with_reducible refine (K10.out _ (below_step CV.out (kept_of (by assumption)))).mono ?_); rintro e w12 ⟨rfl, hb⟩; have hS := HS.out _ (below_step (kept_of (by assumption)) hb))
            | (go_at_call 23; (with_reducible refine (K11.out _ (below_step CV.out (kept_of (by assumption)))).mono ?_); rintro e w12 ⟨rfl, hb⟩; have hS := HS.out _ (below_step (kept_of (by assumption)) hb)))
        all_goals
          go_wp2_with fail
          go_ret
          first
            | exact ⟨rfl, below_step HWR.out (below_step CV.out (kept_of (by assumption)))⟩
            | exact ⟨rfl, below_step HWR.out (below_step CV.out (kept_of (by assumption)).drew)⟩

theorem walk0 (H : GraphHave) (A : Option Addr) (n c : Nat) (ds : List Dd) (e0 : Ent) (w : World) (hnc : n ≤ c) (hc : c ≤ maxLen) (hds : ∀ x ∈ ds, x.e.name.size ≤ maxLen) (h : DdsIn w w.heap.size A n ds) (he : e0.name.size ≤ maxLen) :
    Calls Try.prog 3 #[.slice A n c, .agg (entA e0)] w fun e w' => e = .returned (.bool true) ∧ Below w.heap.size w w' :=
  core H A n c ds e0 (Nat.le_trans hnc hc) hds he w h

end Go.Proofs.Ythobfeohgeeofaa.lawGraphTells
