/-
  Two points behind a directory's path lead to its parent; behind a file's they tell that it is none; the parent's home is the begin of its own: for all lists of operations (60 at most) and paths (100 bytes at most).
-/
import Derived.Test.YtbkijfhfjhpebaaGreatDoorZ01
import Derived.Test.YtbkijfhfjhpebaaGreatDoorZ02
import Derived.OpenShut
namespace Go.Proofs.YtbkijfhfjhpebaaGreatDoor.lawPathUp
open Go.RowKit StampMath GraphMath OpMath PackMath

set_option maxRecDepth 100000 in
set_option maxHeartbeats 3200000 in
theorem core {H : GraphHave} (P : FoldHave H) (Q : PathHave H) (A : Option Addr) (n c : Nat) (l : List Opn) (hl : ∀ x ∈ l, OpFit x) (p : ByteArray) (w : World) (T : Tab w) (h : OpsIn w w.heap.size A n l) :
    Calls Tryz.prog 7 #[.slice A n c, .string p] w fun e w' => e = .returned (.bool true) ∧ Below w.heap.size w w' := by
  have HX := Lib.hid h
  have HF := Lib.hid hl
  clear h hl
  go_enter Tryz.func7, Tryz.ntmps7
  go_wp2_with fail
  refine (PathHave.shown P Q _ T).mono ?_
  rintro e w1 ⟨rfl, hb1⟩
  have B1 := Lib.hid hb1
  clear hb1
  go_wp2_with fail
  refine (fewH_any A n c _).mono ?_
  rintro e w2 ⟨rfl, hb2⟩
  have B2 := Lib.hid (below_step B1.out hb2)
  clear hb2 B1
  by_cases hn : n ≤ 60
  case neg =>
    have hd : decide (n ≤ 60) = false := decide_eq_false hn
    go_wp2_with fail
    go_ret
    exact ⟨rfl, B2.out⟩
  have hd : decide (n ≤ 60) = true := decide_eq_true hn
  by_cases hp : 100 < (p.size : Int)
  case pos =>
    go_wp2_with fail
    go_ret
    exact ⟨rfl, B2.out⟩
  by_cases hp0 : p.toList = []
  case pos =>
    have he : (p.toList == []) = true := beq_iff_eq.2 hp0
    go_wp2_with fail
    go_ret
    exact ⟨rfl, B2.out⟩
  have he : (p.toList == []) = false := beq_eq_false_iff_ne.2 hp0
  have T2 := tab_below T (Nat.le_refl _) B2.out
  have D := Lib.hid (FX.of P A n c l w2 T2 (by omega) HF.out ((HX.out.below B2.out).more B2.out.size))
  have HP0 := Lib.hid hp0
  clear hp0 T2
  go_wp2_with fail
  refine D.out.mono ?_
  rintro e w3 ⟨a, rfl, g3, hb3⟩
  have G3 := Lib.hid g3
  have B3 := Lib.hid (below_step B2.out hb3)
  have hfine := g3.fine
  generalize runA (sortO l) = γ at g3 G3 hfine
  obtain ⟨b, hb⟩ : ∃ b : Bs, b = p.data.toList := ⟨_, rfl⟩
  have hb0 : b ≠ [] := by rw [hb, ← ByteArray.toList_eq]; exact HP0.out
  have hbl : b.length = p.size := by rw [hb]; simp
  have HU := Lib.hid (hfine.find_up hb0 (by omega))
  have F3 := g3.find Q (0, 0) p true (by omega)
  rw [← hb] at F3
  have hadd : ∀ W : World, (Op.stringOp .add p ⟨#[47, 46, 46]⟩).run Tryz.prog W = .ok (.string ⟨(b ++ [47, 46, 46]).toArray⟩) W := fun W => by
    have e1 : p = ⟨b.toArray⟩ := by rw [hb]
    rw [e1, show (⟨#[47, 46, 46]⟩ : ByteArray) = ⟨([47, 46, 46] : List UInt8).toArray⟩ from rfl, run_string_add_sum W _ _ (by show b.length + 3 ≤ _; omega), mk_append_data]
  obtain ⟨s, er, hF⟩ : ∃ s er, findG γ (0, 0) b true = (s, er) := ⟨_, _, rfl⟩
  rw [hF] at HU F3
  dsimp only at HU F3
  unfold sptA at F3
  have FF := Lib.hid F3
  obtain ⟨p2, hp2⟩ : ∃ p2 : ByteArray, p2 = ⟨(b ++ [47, 46, 46]).toArray⟩ := ⟨_, rfl⟩
  have hp2l : p2.data.toList = b ++ [47, 46, 46] := by rw [hp2]
  have hp2s : p2.size ≤ 2000 := by rw [hp2]; show (b ++ [47, 46, 46]).length ≤ 2000; rw [List.length_append]; simp; omega
  have F4 : Hid (∀ W, FX H w2 W (fun _ => False) a γ → Calls Tryz.prog 14 #[.pointer (some a), .agg (stA (0, 0)), .string p2, .bool true] W fun e w' => e = .returned (.tuple #[.agg (sptA (findG γ (0, 0) (b ++ [47, 46, 46]) true).1), .int .i64 (findG γ (0, 0) (b ++ [47, 46, 46]) true).2]) ∧ FX H w2 w' (fun _ => False) a γ ∧ Below W.heap.size W w') := Lib.hid fun W g => by
    have := g.find Q (0, 0) p2 true hp2s
    rw [hp2l] at this
    exact this
  obtain ⟨s2, er2, hF2⟩ : ∃ s er, findG γ (0, 0) (b ++ [47, 46, 46]) true = (s, er) := ⟨_, _, rfl⟩
  rw [hF2] at HU F4
  dsimp only at HU F4
  unfold sptA at F4
  simp only [← hp2] at hadd
  clear g3 hb3 D F3 hb hb0 hbl hF hF2 hp2 hp2l hp2s
  go_wp2_with fail
  refine FF.out.mono ?_
  rintro e w4 ⟨rfl, g4, hb4⟩
  obtain ⟨u4, hu4⟩ : ∃ u4, u4 = w4.heap.size := ⟨_, rfl⟩
  have H5 := Lib.hid ((Held.refl w4).alloc (.cells #[.int .i64 s.at_.1, .int .i64 s.at_.2, .string s.name, .int .i64 s.ino.1, .int .i64 s.ino.2, .bool s.there] 38) hu4.symm)
  have G5 := Lib.hid (g4.step ((Below.refl w4.heap.size w4).alloc (Nat.le_refl _) (.cells #[.int .i64 s.at_.1, .int .i64 s.at_.2, .string s.name, .int .i64 s.ino.1, .int .i64 s.ino.2, .bool s.there] 38)))
  clear g4 hb4 FF G3
  go_wp2_with fail
  rw [← hu4]
  clear hu4
  generalize w4.alloc (.cells #[.int .i64 s.at_.1, .int .i64 s.at_.2, .string s.name, .int .i64 s.ino.1, .int .i64 s.ino.2, .bool s.there] 38) = w5 at H5 G5 ⊢
  refine (F4.out _ G5.out).mono ?_
  rintro e w6 ⟨rfl, g6, hb6⟩
  have H7 := Lib.hid ((H5.out.step hb6).alloc (.cells #[.int .i64 s2.at_.1, .int .i64 s2.at_.2, .string s2.name, .int .i64 s2.ino.1, .int .i64 s2.ino.2, .bool s2.there] 38) rfl)
  have G7 := Lib.hid (g6.step ((Below.refl w6.heap.size w6).alloc (Nat.le_refl _) (.cells #[.int .i64 s2.at_.1, .int .i64 s2.at_.2, .string s2.name, .int .i64 s2.ino.1, .int .i64 s2.ino.2, .bool s2.there] 38)))
  obtain ⟨c0, c1, c2, c3, c4, c5⟩ := spt_cells (H7.out.at 1 rfl)
  have B7 := Lib.hid (below_step B2.out G7.out.below)
  clear g6 hb6 F4 G5 H5 hadd B3
  obtain ⟨U1, U2, U3, U4⟩ := HU.out
  clear HU
  by_cases her : er ≠ 0
  case pos =>
    have e1 : (er == 0) = false := beq_eq_false_iff_ne.2 her
    have e2 : (er != 0) = true := bne_iff_ne.2 her
    have e3 : (er2 != 0) = true := bne_iff_ne.2 (U1 her)
    clear U1 U2 U3 U4
    go_wp2_with fail
    go_ret
    exact ⟨rfl, B7.out⟩
  obtain rfl : er = 0 := Classical.byContradiction her
  have e1 : ((0 : Int) == 0) = true := rfl
  by_cases hth : s.there = false
  case pos =>
    have e2 := U2 rfl hth
    rw [hth] at c5
    clear U1 U2 U3 U4
    subst e2
    go_wp2_with fail
    go_ret
    exact ⟨rfl, B7.out⟩
  have hth : s.there = true := by simpa using hth
  rw [hth] at c5
  have U3 := U3 rfl hth
  have U4 := U4 rfl hth
  clear U1 U2 her
  have GG := Lib.hid (G7.out.gx.get s.ino)
  have hk : kindG γ s.ino = ((getG γ s.ino).getD noIno).kind := rfl
  obtain ⟨x, hx⟩ : ∃ x, x = (getG γ s.ino).getD noIno := ⟨_, rfl⟩
  rw [← hx] at GG hk
  obtain ⟨bi, hbi⟩ : ∃ bi, bi = (getG γ s.ino).isSome := ⟨_, rfl⟩
  rw [← hbi] at GG
  rw [hk] at U3 U4
  have HK := Lib.hid hk
  unfold inoA at GG
  have HU3 := Lib.hid U3
  have HU4 := Lib.hid U4
  clear hx hbi hk U3 U4
  go_wp2_with fail
  generalize w6.alloc (.cells #[.int .i64 s2.at_.1, .int .i64 s2.at_.2, .string s2.name, .int .i64 s2.ino.1, .int .i64 s2.ino.2, .bool s2.there] 38) = w7 at H7 G7 B7 GG c0 c1 c2 c3 c4 c5 ⊢
  obtain ⟨u6, hu6⟩ : ∃ u6, u6 = w6.heap.size := ⟨_, rfl⟩
  rw [← hu6] at H7 ⊢
  refine GG.out.mono ?_
  rintro e w8 ⟨rfl, g8, hb8⟩
  have H8 := Lib.hid ((H7.out.step hb8).alloc (.cells #[.int .i64 x.id.1, .int .i64 x.id.2, .int .i64 x.kind, .int .i64 x.links, .int .i64 x.mode, .string x.data] 32) rfl)
  have hA8 : Below w8.heap.size w8 (w8.alloc (.cells #[.int .i64 x.id.1, .int .i64 x.id.2, .int .i64 x.kind, .int .i64 x.links, .int .i64 x.mode, .string x.data] 32)) := (Below.refl _ _).alloc (Nat.le_refl _) _
  have G8 := Lib.hid ((⟨g8, G7.out.fine⟩ : FX H w2 w8 (fun _ => False) a γ).step hA8)
  have B8 := Lib.hid (below_step B2.out G8.out.below)
  clear g8 hb8 hA8 GG c0 c1 c2 c3 c4 c5 H7 G7 B7 hu6
  obtain ⟨c0, c1, c2, c3, c4, c5⟩ := spt_cells (H8.out.at 2 rfl)
  obtain ⟨i0, i1, i2, i3, i4, i5⟩ := spt_cells (H8.out.at 0 rfl)
  by_cases hkd : x.kind ≠ 1
  case pos =>
    have e2 := HU3.out hkd
    have e3 : (x.kind != 1) = true := bne_iff_ne.2 hkd
    subst e2
    go_wp2_with fail
    go_ret
    exact ⟨rfl, B8.out⟩
  have hkd : x.kind = 1 := Classical.byContradiction hkd
  have e3 : (x.kind != 1) = false := by rw [hkd]; rfl
  have hq := HU4.out hkd
  have HKD := Lib.hid (HK.out.trans hkd)
  clear HU3 HU4 HK hkd
  obtain ⟨up, hup⟩ : ∃ up, up = (parentG γ s.ino).getD (0, 0) := ⟨_, rfl⟩
  have HS : Hid (s2 = ⟨(0, 0), ⟨#[]⟩, up, true⟩) := Lib.hid (by have := congrArg Prod.fst hq; rw [hup]; exact this)
  have he2 : er2 = 0 := congrArg Prod.snd hq
  obtain ⟨hs, ks, hh1, hh2, hh3, hh4, hh5, hh6, hh7⟩ := G8.out.fine.home_up HKD.out
  have GP := Lib.hid (G8.out.gx.parent s.ino)
  rw [← hup] at GP hh2 hh7
  obtain ⟨bp, hbp⟩ : ∃ bp, bp = (parentG γ s.ino).isSome := ⟨_, rfl⟩
  rw [← hbp] at GP hh5
  unfold stA at GP
  subst he2
  obtain rfl := HS.out
  dsimp only at H8
  obtain ⟨X, hX⟩ : ∃ X, X = homeS γ s.ino := ⟨_, rfl⟩
  obtain ⟨Y, hY⟩ : ∃ Y, Y = homeS γ up := ⟨_, rfl⟩
  have hXl : X.data.toList = hs := by rw [hX]; unfold homeS; rw [hh1]; rfl
  have hYl : Y.data.toList = ks := by rw [hY]; unfold homeS; rw [hh2]; rfl
  have hXs : X.size = hs.length := by rw [← hXl]; simp
  have hYs : Y.size = ks.length := by rw [← hYl]; simp
  have hle : (Y.size : Int) ≤ (X.size : Int) := by omega
  have hext : ((X.extract 0 Y.size).toList == Y.toList) = true := by
    rw [ByteArray.toList_eq, ByteArray.toList_eq, beq_iff_eq, hYl, ByteArray.data_extract, Array.toList_extract, List.extract_eq_take_drop, hXl, List.drop_zero, Nat.sub_zero, hYs, hh4]
  have C1 : Hid (∀ W, FX H w2 W (fun _ => False) a γ → Calls Tryz.prog 13 #[.pointer (some a), .agg (stA s.ino)] W fun e w' => e = .returned (.tuple #[.string X, .bool true]) ∧ FX H w2 w' (fun _ => False) a γ ∧ Below W.heap.size W w') := Lib.hid fun W g => by
    have := g.home Q s.ino
    rw [← hX, hh1] at this
    exact this
  have C2 : Hid (∀ W, FX H w2 W (fun _ => False) a γ → Calls Tryz.prog 13 #[.pointer (some a), .agg (stA up)] W fun e w' => e = .returned (.tuple #[.string Y, .bool true]) ∧ FX H w2 w' (fun _ => False) a γ ∧ Below W.heap.size W w') := Lib.hid fun W g => by
    have := g.home Q up
    rw [← hY, hh2] at this
    exact this
  have HZ : Hid (bp = true ∨ bp = false ∧ s.ino = (0, 0) ∧ up = (0, 0)) := Lib.hid (by
    rcases hh5 with q | q
    · refine .inr ⟨by rw [hbp, hh6 q]; rfl, q, by rw [hup, hh6 q]; rfl⟩
    · exact .inl q)
  have HLE := Lib.hid hle
  have HEXT := Lib.hid hext
  have HFN := G8.out.fine
  clear hq hX hY hXl hYl hXs hYs hh1 hh2 hh3 hh4 hh5 hh6 hh7 hup hbp hle hext HKD
  go_wp2_with fail
  refine GP.out.mono ?_
  rintro e w9 ⟨rfl, g9, hb9⟩
  have hA9 : Below w9.heap.size w9 (w9.alloc (.cells #[.int .i64 up.1, .int .i64 up.2] 24)) := (Below.refl _ _).alloc (Nat.le_refl _) _
  have H9 := Lib.hid ((H8.out.step hb9).alloc (.cells #[.int .i64 up.1, .int .i64 up.2] 24) rfl)
  have G9 := Lib.hid ((⟨g9, HFN⟩ : FX H w2 w9 (fun _ => False) a γ).step hA9)
  clear g9 hb9 hA9 GP c0 c1 c2 c3 c4 c5 i0 i1 i2 i3 i4 i5 e3
  obtain ⟨c0, c1, c2, c3, c4, c5⟩ := spt_cells (H9.out.at 3 rfl)
  go_wp2_with fail
  generalize w9.alloc (.cells #[.int .i64 up.1, .int .i64 up.2] 24) = wA at H9 G9 c0 c1 c2 c3 c4 c5 ⊢
  obtain ⟨u9, hu9⟩ : ∃ u9, u9 = w9.heap.size := ⟨_, rfl⟩
  rw [← hu9] at H9 ⊢
  refine (C1.out _ G9.out).mono ?_
  rintro e wB ⟨rfl, gB, hbB⟩
  have HB := Lib.hid (H9.out.step hbB)
  obtain ⟨p0, p1⟩ := two_cells (HB.out.at 0 rfl)
  clear hbB C1 H9 G9 c0 c1 c2 c3 c4 c5 hu9
  go_wp2_with fail
  refine (C2.out _ gB).mono ?_
  rintro e wC ⟨rfl, gC, hbC⟩
  have HC := Lib.hid (HB.out.step hbC)
  clear p0 p1 C2 hbC gB
  obtain ⟨p0, p1⟩ := two_cells (HC.out.at 0 rfl)
  obtain ⟨c0, c1, c2, c3, c4, c5⟩ := spt_cells (HC.out.at 3 rfl)
  obtain ⟨d0, d1, d2, d3, d4, d5⟩ := spt_cells (HC.out.at 2 rfl)
  have BC := Lib.hid (below_step B2.out gC.below)
  clear gC HC HB
  have hle := HLE.out
  have hext := HEXT.out
  rcases HZ.out with q | ⟨q, q1, q2⟩
  · subst q
    go_wp2_with fail
    go_ret
    exact ⟨rfl, BC.out⟩
  · subst q q2
    rw [q1] at c3 c4
    go_wp2_with fail
    go_ret
    exact ⟨rfl, BC.out⟩

theorem walk0 {H : GraphHave} (P : FoldHave H) (Q : PathHave H) (a0A : Option Addr) (a0n : Nat) (a0c : Nat) (a0x : List Opn) (p : ByteArray) (w : World) [T : Tab w] (_ : a0n ≤ a0c) (_ : a0c ≤ maxLen) (w0x : ∀ x ∈ a0x, OpFit x) (w0d : OpsIn w w.heap.size a0A a0n a0x) (_ : p.size ≤ maxLen) :
    Calls Tryz.prog 7 #[.slice a0A a0n a0c, .string p] w fun e w' => e = .returned (.bool true) ∧ Below w.heap.size w w' :=
  core P Q a0A a0n a0c a0x w0x p w T w0d

end Go.Proofs.YtbkijfhfjhpebaaGreatDoor.lawPathUp
