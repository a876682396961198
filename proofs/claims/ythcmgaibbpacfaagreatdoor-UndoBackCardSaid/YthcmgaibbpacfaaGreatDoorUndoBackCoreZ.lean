/-
  Operations that are taken back, the last one first, leave what was ahead of them; done again they make what they made: for all lists of operations (60 at most).
-/
import Derived.Test.YthcmgaibbpacfaaGreatDoorZ01
import Derived.Test.YthcmgaibbpacfaaGreatDoorZ01
import Derived.Test.YthcmgaibbpacfaaGreatDoorUndoSameZ
import Derived.Test.YthcmgaibbpacfaaGreatDoorUndoStackZ
import Derived.Deep.LoopGhost
import Derived.OpenShut
namespace Go.Proofs.YthcmgaibbpacfaaGreatDoor.lawUndoBack
open Go.RowKit StampMath GraphMath OpMath PackMath

/-- The records of operations, one behind the other. -/
def recsL (l : List Opn) (k : Nat) : List Rec := (List.range k).map fun j => doR (runA (l.take j)) (l[j]?.getD uhO)

theorem recsL_succ {l : List Opn} {k : Nat} (h : k < l.length) : recsL l (k + 1) = recsL l k ++ [doR (runA (l.take k)) l[k]] := by
  unfold recsL
  rw [List.range_succ, List.map_append, List.map_singleton, List.getElem?_eq_getElem h]
  rfl

theorem recsL_len (l : List Opn) (k : Nat) : (recsL l k).length = k := by simp [recsL]

theorem recsL_get {l : List Opn} {k j : Nat} (hj : j < k) (h : j < l.length) : (recsL l k)[j]? = some (doR (runA (l.take j)) l[j]) := by
  unfold recsL
  rw [List.getElem?_map, List.getElem?_range hj]
  simp [h]

theorem rec_infos : (Tryz.prog.info? 36).map (fun i => (i.zero, i.size, i.bytes)) = some (some (.agg #[.slice none 0 0, .slice none 0 0, .slice none 0 0, .slice none 0 0, .int .i64 0]), 5, 104) := by kernel_rfl

theorem rec_one (a b c d : Value) (e : Int) (ha : a.oneCell' = true) (hb : b.oneCell' = true) (hc : c.oneCell' = true) (hd : d.oneCell' = true) : ∀ u ∈ (#[a, b, c, d, .int .i64 e] : Array Value).toList, u.oneCell' = true := by
  intro u hu
  simp at hu
  rcases hu with rfl | rfl | rfl | rfl | rfl
  · exact ha
  · exact hb
  · exact hc
  · exact hd
  · rfl

theorem ops_take {W : World} {B : Nat} {A : Option Addr} {n : Nat} {l : List Opn} (h : OpsIn W B A n l) {m : Nat} (hm : m ≤ n) : OpsIn W B A m (l.take m) := by
  have := TabIn.take h hm
  unfold OpsIn
  rwa [List.map_take]

set_option maxRecDepth 100000 in
set_option maxHeartbeats 6400000 in
theorem core {H : GraphHave} (P : UndoHave H) (Q : ApplyHave H) (A : Option Addr) (n c : Nat) (l : List Opn) (j : Nat) (hj : j ≤ 255) (hnc : n ≤ c) (hl : ∀ x ∈ l, OpFit x) (w : World) (T : Tab w) (h : OpsIn w w.heap.size A n l) :
    Calls Tryz.prog 4 #[.slice A n c, .int .u8 (j : Int)] w fun e w' => e = .returned (.bool true) ∧ Below w.heap.size w w' := by
  obtain ⟨i0, hi0, hz0, hz1, hz2⟩ := info_parts rec_infos
  have hmj := Nat.mod_lt j (show 0 < n + 1 by omega)
  obtain ⟨p, hp⟩ : ∃ p, p = j % (n + 1) := ⟨_, rfl⟩
  have hp2 : (j : Int) % ((n : Int) + 1) = (p : Int) := by rw [hp, Int.natCast_emod, Int.natCast_add]; rfl
  have hpn : p ≤ n := by omega
  have hln := h.len
  have HX := Lib.hid h
  have HF := Lib.hid hl
  have HL := Lib.hid hln
  clear h hl hmj hp hln
  go_enter Tryz.func4, Tryz.ntmps4
  go_wp2_with fail
  refine (P.shown _ T).mono ?_
  rintro e w1 ⟨rfl, hb1⟩
  have B1 := Lib.hid hb1
  clear hb1
  go_wp2_with fail
  refine (fewU_any A n c _).mono ?_
  rintro e w2 ⟨rfl, hb2⟩
  have B2 := Lib.hid (below_step B1.out hb2)
  clear hb2 B1
  by_cases hn : n ≤ 60
  case neg =>
    have hd : decide (n ≤ 60) = false := decide_eq_false hn
    go_wp2_with fail
    go_ret
    exact ⟨rfl, B2.out⟩
  have hd : decide (n ≤ 60) = true := decide_eq_true hn
  go_wp2_with fail
  refine (GX.new (H := H) B2.out (fun _ => False) (fun _ h => h.elim)).mono ?_
  rintro e w3 ⟨a, rfl, g3, _⟩
  have S3 : Hid (Stack H w w3 (fun _ => False) (fun _ => False) a newG (.slice none 0 0) []) := Lib.hid (Stack.start ⟨g3, new_fine⟩)
  clear g3 hd B2
  go_wp2_with fail
  go_loopg [7, 8] (n + 1) (fun gk rv i wr => ∃ (k : Nat) (N M : Nat → Prop), i = .int .i64 (k : Int) ∧ gk + k = n + 1 ∧ k ≤ n ∧ Hid (Stack H w wr N M a (runA (l.take k)) rv (recsL l k)))
  case atStart => exact ⟨0, _, _, rfl, by omega, by omega, S3⟩
  case round =>
    obtain ⟨k, N, M, rfl, hgk, hk, hS⟩ := hrel
    clear S3
    by_cases hlt : k < n
    · obtain ⟨gi, o, rfl, hg, hcell⟩ := HX.out.row (by omega)
      have lk : k < l.length := by have := HL.out; omega
      obtain ⟨z0, z1, z2, z3, z4, z5, z6, z7, z8, z9, z10, z11, z12⟩ := (hcell k lk).below hS.out.fx.below hg
      have hnm := HF.out _ (List.getElem_mem lk)
      have hnx := runA_next (l := l) (k := k) lk
      have hrc := recsL_succ (l := l) (k := k) lk
      obtain ⟨d, hd⟩ : ∃ d, l[k] = d := ⟨_, rfl⟩
      rw [hd] at z0 z1 z2 z3 z4 z5 z6 z7 z8 z9 z10 z11 z12 hnm hnx hrc
      have HNX := Lib.hid (And.intro hnx hrc)
      have HD := Lib.hid (FX.undoes P hS.out.fx T d hnm)
      unfold opA at HD
      have hk0 : (0 : Int) ≤ (k : Int) := by omega
      have hk1 : (k : Int) < (n : Int) := by omega
      clear hcell hd hnm hnx hrc lk hg
      go_wp2_with fail
      refine HD.out.mono ?_
      rintro e w5 ⟨B, v, rfl, x5, r5, s5, hB⟩
      obtain ⟨A1, c1, A2, c2, A3, c3, A4, c4, e, _⟩ := r5.read
      obtain ⟨r, hr⟩ : ∃ r, r = doR (runA (l.take k)) d := ⟨_, rfl⟩
      rw [← hr] at r5 HNX e
      subst e
      have S5 := Lib.hid ((hS.out.same (fun _ hi => Or.inl hi) x5 s5).more (B := fun i => B i ∧ i < w5.heap.size) (fun _ hi => Or.inr hi) fun b hb q => by have h1 := hS.out.fx.gx.lt b (hS.out.row b hb).1; have h2 := hB b q.1; omega)
      have R5 : Hid (RecAt (fun i => M i ∨ (B i ∧ i < w5.heap.size)) w5 (.agg #[.slice A1 r.lost.length c1, .slice A2 r.made.length c2, .slice A3 r.was.length c3, .slice A4 r.new.length c4, .int .i64 r.err]) r) := Lib.hid (r5.mono fun _ hi _ => Or.inr hi)
      clear HD hS x5 r5 s5 hB hr z0 z1 z2 z3 z4 z5 z6 z7 z8 z9 z10 z11 z12
      have hbA : Below w5.heap.size w5 (w5.alloc (.cells #[.slice A1 r.lost.length c1, .slice A2 r.made.length c2, .slice A3 r.was.length c3, .slice A4 r.new.length c4, .int .i64 r.err] 36)) := (Below.refl _ _).alloc (Nat.le_refl _) _
      have S6 := Lib.hid (S5.out.step hbA)
      have R6 := Lib.hid (R5.out.step hbA)
      obtain ⟨vs, v1, v2, v3, v4⟩ := S6.out.own
      have V := Lib.hid (And.intro v1 (And.intro v3 v4))
      have hrl := recsL_len l k
      have hm1 : (recsL l k).length + 1 ≤ maxLen := by unfold maxLen; omega
      have hm2 : ((recsL l k).length + 1) * 104 ≤ 140737488355328 := by omega
      have hm3 : w.heap.size ≤ (w5.alloc (.cells #[.slice A1 r.lost.length c1, .slice A2 r.made.length c2, .slice A3 r.was.length c3, .slice A4 r.new.length c4, .int .i64 r.err] 36)).heap.size := S6.out.fx.below.size
      have OW := Lib.hid v2
      clear v1 v2 v3 v4 hbA S5 R5 hrl
      go_wp2_with (at_builtin; refine wpList_append_own_at _ (by rfl) (.tmp 25) (.tmp 32) 52 (by rfl) w.heap.size 36 i0 _ 5 104 Tryz.underlying52 hi0 hz0 hz1 hz2 (by rfl) (by decide) u7 _ _ (by rfl) OW.out ⟨w5.heap.size, 0, none⟩ 1 1 [.slice A1 r.lost.length c1, .slice A2 r.made.length c2, .slice A3 r.was.length c3, .slice A4 r.new.length c4, .int .i64 r.err] (by rfl) (by rfl) (World.news_of_block (cs := #[.slice A1 r.lost.length c1, .slice A2 r.made.length c2, .slice A3 r.was.length c3, .slice A4 r.new.length c4, .int .i64 r.err]) (t := 36) (fr := (0, 0)) (heap_alloc_new w5 _)) (rec_one _ _ _ _ _ rfl rfl rfl rfl) hm1 hm2 hm3 ?_; intro rv7 w7 hown7 hg7 _ hat7)
      have S7 := Lib.hid (S6.out.push V.out.1 V.out.2.1 V.out.2.2 (by rfl) R6.out hown7 hg7 hat7 fun b hb => (OW.out.lt b hb).1)
      clear hown7 hg7 hat7 OW V S6 R6
      rw [← HNX.out.1, ← HNX.out.2] at S7
      go_roundg (gk - 1)
      case measure => omega
      case rel => exact ⟨k + 1, _, _, by go_num, by omega, by omega, S7⟩
    · obtain rfl : n = k := by omega
      have hall : l.take n = l := List.take_of_length_le (by have := HL.out; omega)
      have HA := Lib.hid hall
      have CP := Lib.hid (GX.copy hS.out.fx.gx)
      clear hall hlt hgk hk hi0 hz0 hz1 hz2
      go_wp2_with fail
      refine CP.out.mono ?_
      rintro e w8 ⟨b, _, U, rfl, ⟨g1, rb, _⟩, _, hb⟩
      have S8 := Lib.hid (hS.out.same (fun _ hi => Or.inl hi) (⟨g1, hS.out.fx.fine⟩ : FX H w w8 (fun i => N i ∨ U i) a (runA (l.take n))) ⟨hb.size, fun i hi => hb.block i (hS.out.fx.gx.lt i hi)⟩)
      have RB := Lib.hid rb
      obtain ⟨vs0, t1, t2, t3, _⟩ := S8.out.own
      obtain ⟨G, cg, e0, _⟩ := tab_own (k := 5) t3 t1 t2
      rw [recsL_len] at e0
      subst e0
      clear g1 rb hb t1 t2 t3 CP hS
      obtain ⟨N', hN'⟩ : ∃ N' : Nat → Prop, N' = fun i => N i ∨ U i := ⟨_, rfl⟩
      rw [← hN'] at S8
      have HU : Hid (∀ i, U i → N' i) := Lib.hid (by rw [hN']; exact fun _ hi => Or.inr hi)
      clear hN'
      go_wp2_with fail
      rw [hp2]
      clear hp2
      go_loopg [11] (n + 1) (fun gk i wr => ∃ k : Nat, i = .int .i64 ((k : Int) - 1) ∧ gk = k + 1 ∧ p ≤ k ∧ k ≤ n ∧ Hid (Stack H w wr N' M a (runA (l.take k)) (.slice G n cg) (recsL l n)) ∧ Hid (H.rep wr U b (runA (l.take n))))
      case atStart => exact ⟨n, rfl, rfl, hpn, Nat.le_refl _, S8, RB⟩
      case round =>
        obtain ⟨k, rfl, rfl, hpk, hk, hS, hR⟩ := hrel
        clear S8 RB
        by_cases hlt : p < k
        · obtain ⟨q, rfl⟩ : ∃ q, k = q + 1 := ⟨k - 1, by omega⟩
          rw [show ((q + 1 : Nat) : Int) - 1 = (q : Int) by omega]
          have lq : q < l.length := by have := HL.out; omega
          have hnx := runA_next (l := l) (k := q) lq
          have hfit := HF.out _ (List.getElem_mem lq)
          obtain ⟨vs, t1, t2, t3, t4⟩ := hS.out.own
          obtain ⟨G', cg', e1, ht, _⟩ := tab_own (k := 5) t3 t1 t2
          rw [recsL_len] at e1 ht t1
          injection e1 with e1 _ e2
          subst e1 e2
          obtain ⟨gr, oo, rfl, hgr, hc⟩ := ht.2 (by omega)
          have lv : q < vs.length := by omega
          have hrq := t4 q _ _ (recsL_get (l := l) (k := n) (by omega) lq) (List.getElem?_eq_getElem lv)
          obtain ⟨A1, c1, A2, c2, A3, c3, A4, c4, e, _⟩ := hrq.read
          have e' : vs[q] = #[.slice A1 (doR (runA (l.take q)) l[q]).lost.length c1, .slice A2 (doR (runA (l.take q)) l[q]).made.length c2, .slice A3 (doR (runA (l.take q)) l[q]).was.length c3, .slice A4 (doR (runA (l.take q)) l[q]).new.length c4, .int .i64 (doR (runA (l.take q)) l[q]).err] := by injection e
          have y0 : wr.cell? ⟨gr, oo + q * 5, none⟩ = some (.slice A1 (doR (runA (l.take q)) l[q]).lost.length c1) := hc q lv 0 _ (by rw [e']; rfl)
          have y1 : wr.cell? ⟨gr, oo + q * 5 + 1, none⟩ = some (.slice A2 (doR (runA (l.take q)) l[q]).made.length c2) := hc q lv 1 _ (by rw [e']; rfl)
          have y2 : wr.cell? ⟨gr, oo + q * 5 + 2, none⟩ = some (.slice A3 (doR (runA (l.take q)) l[q]).was.length c3) := hc q lv 2 _ (by rw [e']; rfl)
          have y3 : wr.cell? ⟨gr, oo + q * 5 + 3, none⟩ = some (.slice A4 (doR (runA (l.take q)) l[q]).new.length c4) := hc q lv 3 _ (by rw [e']; rfl)
          have y4 : wr.cell? ⟨gr, oo + q * 5 + 4, none⟩ = some (.int .i64 (doR (runA (l.take q)) l[q]).err) := hc q lv 4 _ (by rw [e']; rfl)
          have hx := hS.out.fx
          rw [hnx] at hx
          have HD := Lib.hid (FX.back P (T := M) hx (runA_fine _) hfit hrq hS.out.sub)
          rw [e'] at HD
          have hq0 : (0 : Int) ≤ (q : Int) := by omega
          have hq1 : (q : Int) < (n : Int) := by omega
          have hpq : p ≤ q := by omega
          have hpq' : (p : Int) ≤ (q : Int) := by omega
          clear hc hrq e e' hx hnx hfit t1 t2 t3 t4 ht lv hgr
          go_wp2_with fail
          refine HD.out.mono ?_
          rintro e w9 ⟨rfl, x9, s9⟩
          have S9 := Lib.hid (hS.out.same (fun _ hi => hi) x9 s9)
          have R9 := Lib.hid (H.keep hR.out fun i hi => s9.2 i (HU.out i hi))
          clear x9 s9 HD hS hR y0 y1 y2 y3 y4
          go_wp2_with fail
          go_roundg (q + 1)
          case measure => omega
          case rel => exact ⟨q, rfl, rfl, hpq, by omega, S9, R9⟩
        · obtain rfl : p = k := by omega
          have hcn : ¬ (p : Int) ≤ (p : Int) - 1 := by omega
          have T9 : Tab wr := hS.out.fx.gx.tab T
          have MD := Lib.hid (fun (W : World) (hW : Below wr.heap.size wr W) => madeU_any Q A p c (l.take p) (by omega) (fun x hx => HF.out x (List.mem_of_mem_take hx)) W (tab_below T9 (Nat.le_refl _) hW) (ops_take ((HX.out.below (below_step hS.out.fx.below hW)).more (below_step hS.out.fx.below hW).size) hk))
          have hpn2 : (p : Int) ≤ (n : Int) := by omega
          have HS := Lib.hid hS.out.fx
          have HR := Lib.hid hR.out
          clear hS hR hpk hlt
          go_wp2_with fail
          refine (MD.out _ (Below.refl _ _)).mono ?_
          rintro e w10 ⟨a2, rfl, x10⟩
          have F10 := Lib.hid (HS.out.step x10.below)
          have R10 := Lib.hid (H.keep HR.out fun i hi => x10.below.block i (H.lt HR.out i hi))
          have SM : Hid (Calls Tryz.prog 22 #[.pointer (some a), .pointer (some a2)] w10 fun e w' => e = .returned (.bool true) ∧ Below w10.heap.size w10 w') := Lib.hid (by
            obtain ⟨S1, r1, _⟩ := F10.out.gx.at'
            obtain ⟨S2, r2, _⟩ := x10.gx.at'
            exact sameU_two H a a2 S1 S2 _ w10 r1 r2 F10.out.fine.ok)
          clear x10 MD T9 HS HR
          go_wp2_with fail
          refine SM.out.mono ?_
          rintro e w11 ⟨rfl, hb11⟩
          have F11 := Lib.hid (F10.out.step hb11)
          have R11 := Lib.hid (H.keep R10.out fun i hi => hb11.block i (H.lt R10.out i hi))
          clear hb11 SM F10 R10
          go_wp2_with fail
          go_loopg [12] (n + 1 - p) (fun gk i wr => ∃ k : Nat, i = .int .i64 (k : Int) ∧ gk + k = n + 1 ∧ p ≤ k ∧ k ≤ n ∧ Hid (FX H w wr N' a (runA (l.take k))) ∧ Hid (H.rep wr U b (runA (l.take n))))
          case atStart => exact ⟨p, rfl, by omega, Nat.le_refl _, hk, F11, R11⟩
          case round =>
            obtain ⟨k, rfl, hgk, hpk, hk2, hFx, hR⟩ := hrel
            clear F11 R11
            by_cases hlt : k < n
            · obtain ⟨gi, o, rfl, hg, hcell⟩ := HX.out.row (by omega)
              have lk : k < l.length := by have := HL.out; omega
              obtain ⟨z0, z1, z2, z3, z4, z5, z6, z7, z8, z9, z10, z11, z12⟩ := (hcell k lk).below hFx.out.below hg
              have hnm := HF.out _ (List.getElem_mem lk)
              have hnx := runA_next (l := l) (k := k) lk
              obtain ⟨d, hd⟩ : ∃ d, l[k] = d := ⟨_, rfl⟩
              rw [hd] at z0 z1 z2 z3 z4 z5 z6 z7 z8 z9 z10 z11 z12 hnm hnx
              have HNX := Lib.hid hnx
              have HD := Lib.hid (FX.undoes P hFx.out T d hnm)
              unfold opA at HD
              have hk0 : (0 : Int) ≤ (k : Int) := by omega
              have hk1 : (k : Int) < (n : Int) := by omega
              clear hcell hd hnm hnx lk hg
              go_wp2_with fail
              refine HD.out.mono ?_
              rintro e w12 ⟨B, v, rfl, x12, _, s12, _⟩
              have F12 : Hid (FX H w w12 N' a (doA (runA (l.take k)) d).1) := Lib.hid ⟨x12.gx.less fun _ hi => Or.inl hi, x12.fine⟩
              have R12 := Lib.hid (H.keep hR.out fun i hi => s12.2 i (HU.out i hi))
              rw [← HNX.out] at F12
              clear x12 s12 HD hFx hR z0 z1 z2 z3 z4 z5 z6 z7 z8 z9 z10 z11 z12
              go_wp2_with fail
              go_roundg (gk - 1)
              case measure => omega
              case rel => exact ⟨k + 1, by go_num, by omega, by omega, by omega, F12, R12⟩
            · obtain rfl : n = k := by omega
              have hcf : ¬ (n : Int) < (n : Int) := by omega
              have SM : Hid (Calls Tryz.prog 22 #[.pointer (some a), .pointer (some b)] wr fun e w' => e = .returned (.bool true) ∧ Below wr.heap.size wr w') := Lib.hid (by
                obtain ⟨S1, r1, _⟩ := hFx.out.gx.at'
                exact sameU_two H a b S1 U _ wr r1 hR.out hFx.out.fine.ok)
              have BB := Lib.hid hFx.out.below
              clear hFx hR
              go_wp2_with fail
              refine SM.out.mono ?_
              rintro e w13 ⟨rfl, hb13⟩
              go_wp2_with fail
              go_ret
              exact ⟨rfl, below_step BB.out hb13⟩

theorem walk0 {H : GraphHave} (P : UndoHave H) (Q : ApplyHave H) (a0A : Option Addr) (a0n : Nat) (a0c : Nat) (a0x : List Opn) (a1 : Int) (w : World) [T : Tab w] (w0a : a0n ≤ a0c) (_ : a0c ≤ maxLen) (w0x : ∀ x ∈ a0x, OpFit x) (w0d : OpsIn w w.heap.size a0A a0n a0x) (w1 : (Lit.int .u8 a1).wf = true) :
    Calls Tryz.prog 4 #[.slice a0A a0n a0c, .int .u8 a1] w fun e w' => e = .returned (.bool true) ∧ Below w.heap.size w w' := by
  obtain ⟨j, rfl, hj⟩ := nat_of_int (bounds_u8 w1)
  exact core P Q a0A a0n a0c a0x j (by omega) w0a w0x w T w0d

end Go.Proofs.YthcmgaibbpacfaaGreatDoor.lawUndoBack
