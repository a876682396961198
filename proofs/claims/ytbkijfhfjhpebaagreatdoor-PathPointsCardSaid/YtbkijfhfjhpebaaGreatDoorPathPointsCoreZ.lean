/-
  Slashes and single points more change nothing, as long as the path isn't too long; what is found is in the graph: for all lists of operations (60 at most), inodes and paths (60 bytes at most).
-/
import Derived.Test.YtbkijfhfjhpebaaGreatDoorZ01
import Derived.Test.YtbkijfhfjhpebaaGreatDoorZ02
import Derived.OpenShut
import Derived.Deep.LoopGhost
namespace Go.Proofs.YtbkijfhfjhpebaaGreatDoor.lawPathPoints
open Go.RowKit StampMath GraphMath OpMath PackMath

theorem extract_one (p : ByteArray) (k : Nat) (h : k < p.size) : p.extract k (k + 1) = ⟨([p[k]] : List UInt8).toArray⟩ := by
  apply ByteArray.ext
  rw [ByteArray.data_extract]
  apply Array.ext'
  rw [Array.toList_extract, List.extract_eq_take_drop, Nat.add_sub_cancel_left, List.drop_eq_getElem_cons (by simpa using h)]
  rfl

set_option maxRecDepth 100000 in
set_option maxHeartbeats 3200000 in
theorem core {H : GraphHave} (P : FoldHave H) (Q : PathHave H) (A : Option Addr) (n c : Nat) (l : List Opn) (hl : ∀ x ∈ l, OpFit x) (at_ : St) (p : ByteArray) (f : Bool) (w : World) (T : Tab w) (h : OpsIn w w.heap.size A n l) :
    Calls Tryz.prog 4 #[.slice A n c, .agg (stA at_), .string p, .bool f] w fun e w' => e = .returned (.bool true) ∧ Below w.heap.size w w' := by
  have HX := Lib.hid h
  have HF := Lib.hid hl
  clear h hl
  obtain ⟨u, hu⟩ : ∃ u, u = w.heap.size := ⟨_, rfl⟩
  have hA := heap_alloc_new w (.cells (stA at_) 24)
  have hB0 : Below w.heap.size w (w.alloc (.cells (stA at_) 24)) := (Below.refl _ _).alloc (Nat.le_refl _) _
  rw [← hu] at hA
  go_enter Tryz.func4, Tryz.ntmps4
  go_wp2_with fail
  rw [← hu]
  refine (PathHave.shown P Q _ (tab_below T (Nat.le_refl _) hB0)).mono ?_
  rintro e w1 ⟨rfl, hb1⟩
  have B1 := Lib.hid (below_step hB0 hb1)
  have hlt := heap_lt hA
  have HAT := Lib.hid ((hb1.block u hlt).trans hA)
  clear hb1 hB0 hA hu hlt
  go_wp2_with fail
  refine (fewH_any A n c _).mono ?_
  rintro e w2 ⟨rfl, hb2⟩
  have B2 := Lib.hid (below_step B1.out hb2)
  have HA2 := Lib.hid ((hb2.block u (heap_lt HAT.out)).trans HAT.out)
  clear hb2 B1 HAT
  by_cases hn : n ≤ 60
  case neg =>
    have hd : decide (n ≤ 60) = false := decide_eq_false hn
    go_wp2_with fail
    go_ret
    exact ⟨rfl, B2.out⟩
  have hd : decide (n ≤ 60) = true := decide_eq_true hn
  by_cases hp : 60 < (p.size : Int)
  case pos =>
    go_wp2_with fail
    go_ret
    exact ⟨rfl, B2.out⟩
  by_cases hp0 : p.toList = []
  case pos =>
    have he : (p.toList == []) = true := beq_iff_eq.2 hp0
    go_wp2_with fail
    go_ret
    exact ⟨rfl, B2.out⟩
  have he : (p.toList == []) = false := beq_eq_false_iff_ne.2 hp0
  have T2 := tab_below T (Nat.le_refl _) B2.out
  have D := Lib.hid (FX.of P A n c l w2 T2 (by omega) HF.out ((HX.out.below B2.out).more B2.out.size))
  have HP0 := Lib.hid hp0
  clear hp0 T2
  go_wp2_with fail
  refine D.out.mono ?_
  rintro e w3 ⟨a, rfl, g3, hb3⟩
  have G3 := Lib.hid g3
  have HA3 := Lib.hid ((hb3.block u (heap_lt HA2.out)).trans HA2.out)
  have B3 := Lib.hid (below_step B2.out hb3)
  clear g3 hb3 D HA2
  generalize runA (sortO l) = γ at G3
  obtain ⟨b, hb⟩ : ∃ b : Bs, b = p.data.toList := ⟨_, rfl⟩
  have hbl : b.length = p.size := by rw [hb]; simp
  have HB := Lib.hid hb
  clear hb
  go_wp2_with fail
  go_loopg [11, 12] (p.size + 1) (fun gk m i wr => ∃ k : Nat, m = .string ⟨(moreP (b.take k)).toArray⟩ ∧ i = .int .i64 (k : Int) ∧ gk + k = p.size + 1 ∧ k ≤ p.size ∧ wr = w3)
  case atStart => exact ⟨0, rfl, rfl, by omega, by omega, rfl⟩
  case round =>
    obtain ⟨k, rfl, rfl, hgk, hk, rfl⟩ := hrel
    have HG := Lib.hid hgk
    clear hgk
    by_cases hlt : k < p.size
    · have hkb : k < b.length := by omega
      have hpk : p[k] = b[k] := by
        have e := HB.out
        subst e
        rfl
      have hnext := more_snoc b k hkb
      have hml : (moreP (b.take k)).length ≤ 3 * k := by
        have := more_len (b.take k)
        rw [List.length_take] at this
        omega
      generalize moreP (b.take k) = m at hnext hml ⊢
      have hi0 : (0 : Int) ≤ (k : Int) := by omega
      have hi1 : (k : Int) < (p.size : Int) := by omega
      by_cases h47 : b[k] = 47
      · have hd1 : ((p[k].toNat : Int) == 47) = true := by rw [hpk, h47]; rfl
        rw [if_pos h47] at hnext
        have hadd : (Op.stringOp .add ⟨m.toArray⟩ ⟨#[47, 46, 47]⟩).run Tryz.prog wr = .ok (.string ⟨(m ++ [47, 46, 47]).toArray⟩) wr := by
          rw [show (⟨#[47, 46, 47]⟩ : ByteArray) = ⟨([47, 46, 47] : List UInt8).toArray⟩ from rfl, run_string_add_sum wr _ _ (by show m.length + 3 ≤ _; omega), mk_append_data]
        have HN := Lib.hid hnext
        clear hnext h47 hpk
        go_wp2_with fail
        go_roundg (gk - 1)
        case measure => have := HG.out; omega
        case rel => exact ⟨k + 1, by rw [HN.out], by go_num, by have := HG.out; omega, by omega, rfl⟩
      · have hd1 : ((p[k].toNat : Int) == 47) = false := by
          rw [hpk, beq_eq_false_iff_ne]
          intro e
          exact h47 (UInt8.toNat_inj.1 (by show b[k].toNat = 47; omega))
        rw [if_neg h47] at hnext
        have HN := Lib.hid hnext
        have hi2 : (k : Int) + 1 ≤ (p.size : Int) := by omega
        have hi3 : (k : Int) ≤ (k : Int) + 1 := by omega
        have HE : Hid (p.extract k (k + 1) = ⟨([b[k]] : List UInt8).toArray⟩) := Lib.hid (by rw [extract_one p k hlt, hpk])
        have hadd : (Op.stringOp .add ⟨m.toArray⟩ (p.extract k (k + 1))).run Tryz.prog wr = .ok (.string ⟨(m ++ [b[k]]).toArray⟩) wr := by
          rw [HE.out, run_string_add_sum wr _ _ (by show m.length + 1 ≤ _; omega), mk_append_data]
        clear hnext h47 hpk
        generalize b[k] = y at hadd HN HE
        go_wp2_with fail
        go_roundg (gk - 1)
        case measure => have := HG.out; omega
        case rel => exact ⟨k + 1, by rw [HN.out], by go_num, by have := HG.out; omega, by omega, rfl⟩
    · have hkn : k = p.size := by omega
      have hki : ¬ (k : Int) < (p.size : Int) := by omega
      clear hlt
      have hMl : (moreP b).length ≤ 3 * 60 := by have := more_len b; omega
      have hM : moreP (b.take k) = moreP b := by rw [List.take_of_length_le (by omega)]
      rw [hM]
      have HFP : Hid ((moreP b ++ [47, 46]).length ≤ 128 → findG γ at_ (moreP b ++ [47, 46]) f = findG γ at_ b f) := Lib.hid fun hq => find_points γ at_ (by rw [HB.out, ← ByteArray.toList_eq]; exact HP0.out) (by omega) hq f
      have hfine := G3.out.fine
      have HFIT := Lib.hid (hfine.ok.find_fit at_ b f)
      generalize moreP b = m at hMl HFP ⊢
      obtain ⟨M, hM2⟩ : ∃ M : ByteArray, M = ⟨m.toArray⟩ := ⟨_, rfl⟩
      obtain ⟨M2, hM3⟩ : ∃ M2 : ByteArray, M2 = ⟨(m ++ [47, 46]).toArray⟩ := ⟨_, rfl⟩
      have hM2l : M2.data.toList = m ++ [47, 46] := by rw [hM3]
      have hM2s : M2.size ≤ 2000 := by rw [hM3]; show (m ++ [47, 46]).length ≤ 2000; rw [List.length_append]; simp; omega
      have hMs : M.size = m.length := by rw [hM2]; rfl
      have hMb : (M.size : Int) ≤ 180 := by omega
      have hadd : ∀ W : World, (Op.stringOp .add M ⟨#[47, 46]⟩).run Tryz.prog W = .ok (.string M2) W := fun W => by
        rw [hM2, hM3, show (⟨#[47, 46]⟩ : ByteArray) = ⟨([47, 46] : List UInt8).toArray⟩ from rfl, run_string_add_sum W _ _ (by show m.length + 2 ≤ _; omega), mk_append_data]
      have F3 := G3.out.find Q at_ p f (by omega)
      rw [← HB.out] at F3
      have F4 : Hid (∀ W, FX H w2 W (fun _ => False) a γ → Calls Tryz.prog 14 #[.pointer (some a), .agg (stA at_), .string M2, .bool f] W fun e w' => e = .returned (.tuple #[.agg (sptA (findG γ at_ (m ++ [47, 46]) f).1), .int .i64 (findG γ at_ (m ++ [47, 46]) f).2]) ∧ FX H w2 w' (fun _ => False) a γ ∧ Below W.heap.size W w') := Lib.hid fun W g => by
        have := g.find Q at_ M2 f hM2s
        rw [hM2l] at this
        exact this
      obtain ⟨s, er, hF⟩ : ∃ s er, findG γ at_ b f = (s, er) := ⟨_, _, rfl⟩
      obtain ⟨s2, er2, hF2⟩ : ∃ s er, findG γ at_ (m ++ [47, 46]) f = (s, er) := ⟨_, _, rfl⟩
      rw [hF] at HFP HFIT F3
      rw [hF2] at HFP F4
      dsimp only at HFIT F3 F4
      unfold sptA stA at F3 F4
      have FF := Lib.hid F3
      have HMS := Lib.hid hMs
      rw [← hM2]
      obtain ⟨c0, c1⟩ := two_cells HA3.out
      clear F3 hF hF2 hM hM2 hM3 hM2l hM2s hMl hMs HG hk hkn HB HP0 hbl
      go_wp2_with fail
      refine FF.out.mono ?_
      rintro e w4 ⟨rfl, g4, hb4⟩
      have hA4 : Below w4.heap.size w4 (w4.alloc (.cells #[.int .i64 s.at_.1, .int .i64 s.at_.2, .string s.name, .int .i64 s.ino.1, .int .i64 s.ino.2, .bool s.there] 38)) := (Below.refl _ _).alloc (Nat.le_refl _) _
      have H5 := Lib.hid ((Held.refl w4).alloc (.cells #[.int .i64 s.at_.1, .int .i64 s.at_.2, .string s.name, .int .i64 s.ino.1, .int .i64 s.ino.2, .bool s.there] 38) rfl)
      have G5 := Lib.hid (g4.step hA4)
      have HA5 := Lib.hid (((below_step hb4 hA4).block u (heap_lt HA3.out)).trans HA3.out)
      clear g4 hb4 hA4 FF G3 HA3 c0 c1
      obtain ⟨c0, c1⟩ := two_cells HA5.out
      go_wp2_with fail
      generalize w4.alloc (.cells #[.int .i64 s.at_.1, .int .i64 s.at_.2, .string s.name, .int .i64 s.ino.1, .int .i64 s.ino.2, .bool s.there] 38) = w5 at H5 G5 HA5 c0 c1 ⊢
      obtain ⟨u4, hu4⟩ : ∃ u4, u4 = w4.heap.size := ⟨_, rfl⟩
      rw [← hu4] at H5 ⊢
      clear hu4
      refine (F4.out _ G5.out).mono ?_
      rintro e w6 ⟨rfl, g6, hb6⟩
      have hA6 : Below w6.heap.size w6 (w6.alloc (.cells #[.int .i64 s2.at_.1, .int .i64 s2.at_.2, .string s2.name, .int .i64 s2.ino.1, .int .i64 s2.ino.2, .bool s2.there] 38)) := (Below.refl _ _).alloc (Nat.le_refl _) _
      have H7 := Lib.hid ((H5.out.step hb6).alloc (.cells #[.int .i64 s2.at_.1, .int .i64 s2.at_.2, .string s2.name, .int .i64 s2.ino.1, .int .i64 s2.ino.2, .bool s2.there] 38) rfl)
      have G7 := Lib.hid (g6.step hA6)
      have B7 := Lib.hid (below_step B2.out G7.out.below)
      clear g6 hb6 hA6 F4 G5 H5 HA5 c0 c1 hadd
      obtain ⟨c0, c1, c2, c3, c4, c5⟩ := spt_cells (H7.out.at 1 rfl)
      obtain ⟨d0, d1, d2, d3, d4, d5⟩ := spt_cells (H7.out.at 0 rfl)
      have HGUARD : Hid ((M.size : Int) + 2 ≤ 128 → s2 = s ∧ er2 = er) := Lib.hid fun hm => by
        have hq := HFP.out (by rw [List.length_append]; have := HMS.out; simp; omega)
        exact ⟨congrArg Prod.fst hq, congrArg Prod.snd hq⟩
      clear HFP HMS
      by_cases her : er ≠ 0
      case pos =>
        have hs : s = ⟨(0, 0), ⟨#[]⟩, (0, 0), false⟩ := HFIT.out.1 her
        have e1 : (er != 0) = true := bne_iff_ne.2 her
        clear HFIT
        subst hs
        dsimp only at c0 c1 c2 c3 c4 c5
        by_cases hm : (M.size : Int) + 2 ≤ 128
        · obtain ⟨rfl, rfl⟩ := HGUARD.out hm
          dsimp only at d0 d1 d2 d3 d4 d5
          clear HGUARD
          go_wp2_with fail
          go_ret
          exact ⟨rfl, B7.out⟩
        · clear HGUARD
          go_wp2_with fail
          go_ret
          exact ⟨rfl, B7.out⟩
      obtain rfl : er = 0 := Classical.byContradiction her
      obtain ⟨fit, hsym⟩ := HFIT.out.2 rfl
      obtain ⟨id, hid⟩ : ∃ id, id = (lookE γ.E s.at_ s.name).getD (0, 0) := ⟨_, rfl⟩
      obtain ⟨bl, hbl2⟩ : ∃ bl, bl = (lookE γ.E s.at_ s.name).isSome := ⟨_, rfl⟩
      obtain ⟨x, hx⟩ : ∃ x, x = (getG γ s.ino).getD noIno := ⟨_, rfl⟩
      obtain ⟨bx, hbx⟩ : ∃ bx, bx = (getG γ s.ino).isSome := ⟨_, rfl⟩
      have GL : Hid (∀ W, FX H w2 W (fun _ => False) a γ → Calls Tryz.prog 15 #[.pointer (some a), .agg #[.int .i64 s.at_.1, .int .i64 s.at_.2], .string s.name] W fun e w' => e = .returned (.tuple #[.agg #[.int .i64 id.1, .int .i64 id.2], .bool bl]) ∧ GX H w2 w' (fun _ => False) a γ ∧ Below W.heap.size W w') := Lib.hid fun W g => by
        have := g.gx.look s.at_ s.name (Nat.le_trans fit.size (by decide))
        rw [← hid, ← hbl2] at this
        exact this
      have GG : Hid (∀ W, FX H w2 W (fun _ => False) a γ → Calls Tryz.prog 12 #[.pointer (some a), .agg #[.int .i64 s.ino.1, .int .i64 s.ino.2]] W fun e w' => e = .returned (.tuple #[.agg #[.int .i64 x.id.1, .int .i64 x.id.2, .int .i64 x.kind, .int .i64 x.links, .int .i64 x.mode, .string x.data], .bool bx]) ∧ GX H w2 w' (fun _ => False) a γ ∧ Below W.heap.size W w') := Lib.hid fun W g => by
        have := g.gx.get s.ino
        rw [← hx, ← hbx] at this
        exact this
      have HNM : Hid (s.name.toList = [] ∨ bl = s.there ∧ id = s.ino) := Lib.hid (by
        rcases fit.by_ with ⟨q, _⟩ | q
        · left; rw [q, ByteArray.toList_eq]
        · right
          rw [hid, hbl2, q]
          by_cases ht : s.there = true
          · rw [if_pos ht, ht]; exact ⟨rfl, rfl⟩
          · rw [if_neg ht, fit.zero (by simpa using ht)]; exact ⟨by simpa using ht, rfl⟩)
      have HTH : Hid (s.there = true → bx = true) := Lib.hid fun ht => by
        have := fit.is ht
        rw [hbx]
        unfold kindG at this
        cases hg : getG γ s.ino with
        | none => rw [hg] at this; exact absurd rfl this
        | some _ => rfl
      have HSY : Hid (f = true → s.there = true → (x.kind != 3) = true) := Lib.hid fun hf ht => by
        have q := hsym hf
        unfold symS at q
        rw [ht, Bool.true_and] at q
        rw [bne_iff_ne, hx]
        exact of_decide_eq_false q
      clear fit hsym HFIT her hid hbl2 hx hbx
      have HD : ((M.size : Int) + 2 ≤ 128 ∧ s = s2 ∧ (0 : Int) = er2) ∨ ¬ (M.size : Int) + 2 ≤ 128 := by
        by_cases hm : (M.size : Int) + 2 ≤ 128
        · exact .inl ⟨hm, (HGUARD.out hm).1.symm, (HGUARD.out hm).2.symm⟩
        · exact .inr hm
      clear HGUARD
      rcases HD with ⟨hm, q1, q2⟩ | hm
      case' inl =>
        subst q1
        subst q2
        have HCS := Lib.hid (H7.out.at 1 rfl)
        clear H7
        go_wp2_with fail
        generalize w6.alloc (.cells #[.int .i64 s.at_.1, .int .i64 s.at_.2, .string s.name, .int .i64 s.ino.1, .int .i64 s.ino.2, .bool s.there] 38) = w7 at G7 B7 HCS c0 c1 c2 c3 c4 c5 d0 d1 d2 d3 d4 d5 ⊢
      case' inr =>
        have HCS := Lib.hid (H7.out.at 1 rfl)
        clear H7
        go_wp2_with fail
        generalize w6.alloc (.cells #[.int .i64 s2.at_.1, .int .i64 s2.at_.2, .string s2.name, .int .i64 s2.ino.1, .int .i64 s2.ino.2, .bool s2.there] 38) = w7 at G7 B7 HCS c0 c1 c2 c3 c4 c5 d0 d1 d2 d3 d4 d5 ⊢
      all_goals
        clear d0 d1 d2 d3 d4 d5
        refine (GL.out _ G7.out).mono ?_
        rintro e w8 ⟨rfl, g8, hb8⟩
        have hA8 : Below w8.heap.size w8 (w8.alloc (.cells #[.int .i64 id.1, .int .i64 id.2] 24)) := (Below.refl _ _).alloc (Nat.le_refl _) _
        have H9 := Lib.hid ((Held.refl w8).alloc (.cells #[.int .i64 id.1, .int .i64 id.2] 24) rfl)
        have G9 := Lib.hid ((⟨g8, hfine⟩ : FX H w2 w8 (fun _ => False) a γ).step hA8)
        have HC9 := Lib.hid (((below_step hb8 hA8).block u4 (heap_lt HCS.out)).trans HCS.out)
        clear g8 hb8 hA8 GL G7 HCS c0 c1 c2 c3 c4 c5
        obtain ⟨c0, c1, c2, c3, c4, c5⟩ := spt_cells HC9.out
        go_wp2_with fail
        generalize w8.alloc (.cells #[.int .i64 id.1, .int .i64 id.2] 24) = w9 at H9 G9 HC9 c0 c1 c2 c3 c4 c5 ⊢
        obtain ⟨u8, hu8⟩ : ∃ u8, u8 = w8.heap.size := ⟨_, rfl⟩
        rw [← hu8] at H9 ⊢
        clear hu8
        refine (GG.out _ G9.out).mono ?_
        rintro e wA ⟨rfl, gA, hbA⟩
        have hAA : Below wA.heap.size wA (wA.alloc (.cells #[.int .i64 x.id.1, .int .i64 x.id.2, .int .i64 x.kind, .int .i64 x.links, .int .i64 x.mode, .string x.data] 32)) := (Below.refl _ _).alloc (Nat.le_refl _) _
        have HB := Lib.hid ((H9.out.step hbA).alloc (.cells #[.int .i64 x.id.1, .int .i64 x.id.2, .int .i64 x.kind, .int .i64 x.links, .int .i64 x.mode, .string x.data] 32) rfl)
        have BB := Lib.hid (below_step B2.out ((⟨gA, hfine⟩ : FX H w2 wA (fun _ => False) a γ).step hAA).below)
        have HCB := Lib.hid (((below_step hbA hAA).block u4 (heap_lt HC9.out)).trans HC9.out)
        clear gA hbA hAA GG G9 HC9 H9 c0 c1 c2 c3 c4 c5
        obtain ⟨c0, c1, c2, c3, c4, c5⟩ := spt_cells HCB.out
        obtain ⟨i0, i1⟩ := two_cells (HB.out.at 1 rfl)
        obtain ⟨x0, x1, x2, x3, x4, x5⟩ := spt_cells (HB.out.at 0 rfl)
        clear HCB HB
        have HN2 : (s.name.toList == []) = true ∨ (s.name.toList == []) = false ∧ bl = s.there ∧ id = s.ino := by
          by_cases q : s.name.toList = []
          · exact .inl (beq_iff_eq.2 q)
          · exact .inr ⟨beq_eq_false_iff_ne.2 q, HNM.out.resolve_left q⟩
        have HT : (s.there = true ∧ bx = true) ∨ s.there = false := by
          cases ht : s.there with
          | false => exact .inr rfl
          | true => exact .inl ⟨rfl, HTH.out ht⟩
        clear HNM HTH
        rcases HN2 with en | ⟨en, q1, q2⟩
        case' inr =>
          subst q1
          subst q2
        all_goals
          rcases HT with ⟨ht, hbt⟩ | ht
          · subst hbt
            have e3 := HSY.out
            clear HSY
            cases f with
            | false =>
              clear e3
              go_wp2_with fail
              go_ret
              exact ⟨rfl, BB.out⟩
            | true =>
              have e3 := e3 rfl ht
              go_wp2_with fail
              go_ret
              exact ⟨rfl, BB.out⟩
          · clear HSY
            cases f with
            | false =>
              go_wp2_with fail
              go_ret
              exact ⟨rfl, BB.out⟩
            | true =>
              go_wp2_with fail
              go_ret
              exact ⟨rfl, BB.out⟩

theorem walk0 {H : GraphHave} (P : FoldHave H) (Q : PathHave H) (a0A : Option Addr) (a0n : Nat) (a0c : Nat) (a0x : List Opn) (at_ : St) (p : ByteArray) (f : Bool) (w : World) [T : Tab w] (_ : a0n ≤ a0c) (_ : a0c ≤ maxLen) (w0x : ∀ x ∈ a0x, OpFit x) (w0d : OpsIn w w.heap.size a0A a0n a0x) (_ : p.size ≤ maxLen) :
    Calls Tryz.prog 4 #[.slice a0A a0n a0c, .agg (stA at_), .string p, .bool f] w fun e w' => e = .returned (.bool true) ∧ Below w.heap.size w w' :=
  core P Q a0A a0n a0c a0x w0x at_ p f w T w0d

end Go.Proofs.YtbkijfhfjhpebaaGreatDoor.lawPathPoints
