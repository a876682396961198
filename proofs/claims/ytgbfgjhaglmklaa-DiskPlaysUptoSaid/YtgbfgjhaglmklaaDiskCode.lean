/-
  The walks of the landed disk's Append, Crash, Copy; all of its contracts.
-/
import Derived.Test.YtgbfgjhaglmklaaDiskCodeB
import Derived.StillTailTactics
import Derived.IntWalk
import Derived.Lib.LazyBuf
namespace Go.Proofs.Ytgbfgjhaglmklaa
open Go.RowKit DiskMath PackMath

theorem wpList_append_log {w : World} {ops : Array Oper} {rest : List Oper} {o : Oper} {a : Act} {Q : Exit → Act → World → Prop} (hgd : o.guard = none) (sl x : Operand)
    (ho : o.op = .call { callee := .builtin .append, args := #[sl, x], argTypes := #[48, 9] }) (S : Nat → Prop) (v : Value) (bs : List UInt8) (hs : a.eval sl = v) (hL : LogAt w S v bs) (s : ByteArray)
    (hx : a.eval x = .string s) (hm : bs.length + s.size ≤ 140737488355328)
    (h : ∀ v' w', LogAt w' (fun i => S i ∨ i = w.heap.size) v' (bs ++ s.data.toList) → But S w w' → wpList Try.prog ops Q rest (a.put o.dst v') w') : wpList Try.prog ops Q (o :: rest) a w := by
  refine wpList_plain hgd fun K hK => ?_
  obtain ⟨v', w', hr, h2, h3⟩ := log_more hL s hm o.type
  unfold Oper.wp execOp
  simp only [ho, resolve, invoke, builtin, Sem.run_bind, Sem.run_pure, Result.andThen_ok, List.map_toArray, List.map_cons, List.map_nil, hs, hx, hr]
  exact hK _ _ (h v' w' h2 h3)

set_option maxRecDepth 100000 in
theorem append_code (a : Addr) (S : Nat → Prop) (x : Dsk) (s : ByteArray) (w : World) (h : DiskIn w S a x) (hx : x.ok) (hm : x.safe.size + x.rest.size + s.size ≤ 140737488355328) :
    Calls Try.prog 12 #[.pointer (some a), .string s] w fun e w' => ∃ S', e = .returned (.int .i64 (appE x s)) ∧ DiskIn w' S' a (appD x s) ∧ (∀ i, S' i → S i ∨ w.heap.size ≤ i) ∧ But S w w' := by
  have hF := Lib.hid (free_code a S x w h hx)
  by_cases hd : x.free < (s.size : Int)
  · rw [show appD x s = x from if_pos hd, show appE x s = 13 from if_pos hd]
    have K := Lib.hid h
    obtain ⟨b, A, cap, rfl, hS, hb, hr, hL, _, _, c0, c1, c2, c3, ⟨f0, f1, f2, f3⟩, hlt⟩ := h.read
    have hlt := Lib.hid hlt
    clear h hr hL
    go_enter Try.func12, Try.ntmps12
    go_wp2_with fail
    refine hF.out.mono ?_
    rintro e w1 ⟨rfl, hb1⟩
    go_wp2_with fail
    go_ret
    have q1 := K.out.keep fun i hi => hb1.block i (hlt.out i hi)
    first | exact ⟨S, rfl, q1, fun i hi => .inl hi, .of_below hb1⟩ | exact ⟨rfl, S, q1, fun i hi => .inl hi, .of_below hb1⟩
  · rw [show appD x s = ⟨x.room, x.snap, x.safe, x.rest ++ s⟩ from if_neg hd, show appE x s = 0 from if_neg hd]
    have K := Lib.hid h
    obtain ⟨b, A, cap, rfl, hS, hb, hr, hL, _, _, c0, c1, c2, c3, ⟨f0, f1, f2, f3⟩, hlt⟩ := h.read
    have hl := bytes_len x
    have hm' : x.bytes.length + s.size ≤ 140737488355328 := by omega
    have HR := Lib.hid hr
    have HL := Lib.hid hL
    have HM := Lib.hid hm'
    have HT := Lib.hid hlt
    clear h hr hL hlt hm hm' hl hx
    go_enter Try.func12, Try.ntmps12
    go_wp2_with fail
    refine hF.out.mono ?_
    rintro e w1 ⟨rfl, hb1⟩
    obtain ⟨hc1, hf1⟩ := bcell_below hb1
    have d2 := (hc1 b 2 hb).trans c2
    clear hc1 hf1
    go_wp2_with (refine wpList_append_log (by rfl) (.tmp 18) (.tmp 19) (by rfl) (fun i => S i ∧ i ≠ b) _ x.bytes (by rfl) (HL.out.mono fun i hi => ⟨hi, hb1.block i (HT.out i hi.1)⟩) s (by rfl) HM.out ?_
                 intro v' w2 hL2 hB2
                 obtain ⟨A2, cap2, rfl, _, _⟩ := hL2.form
                 have hr1 : w2.heap[b]? = _ := (hB2.heap ((hb1.block b hb).trans HR.out) (fun q => q.2 rfl))
                 have e2 : w2.cell? ⟨b, 2, none⟩ = some (.slice A x.bytes.length cap) := cell_of_row _ _ 2 _ _ (0, 0) hr1
                 have g2 : w2.frozen? ⟨b, 2, none⟩ = false := frozen_of_row _ _ 2 _ _ hr1
                 have HQ := Lib.hid (And.intro hL2 (And.intro hB2 hr1))
                 clear hL2 hB2 hr1)
    go_ret
    obtain ⟨hL2, hB2, hr2⟩ := HQ.out
    have hb2 : b < w2.heap.size := Nat.lt_of_lt_of_le hb (Nat.le_trans hb1.size hB2.size)
    have hs1 := hb1.size
    have hs2 := hB2.size
    have eb : (⟨x.room, x.snap, x.safe, x.rest ++ s⟩ : Dsk).bytes = x.bytes ++ s.data.toList := by
      unfold Dsk.bytes
      simp [ByteArray.data_append]
    have hB3 : But S w w2 := (But.of_below hb1).trans hB2 fun i hi _ => hi.1
    have hB4 := hB3.setCell (p := ⟨b, 2, none⟩) (.inl hS) (.slice A2 (x.bytes ++ s.data.toList).length cap2)
    have key : DiskIn (w2.setCell ⟨b, 2, none⟩ (.slice A2 (x.bytes ++ s.data.toList).length cap2)) (fun i => i < w2.heap.size ∧ (S i ∨ w.heap.size ≤ i)) ⟨b, 0, none⟩ ⟨x.room, x.snap, x.safe, x.rest ++ s⟩ := by
      refine ⟨b, .slice A2 (x.bytes ++ s.data.toList).length cap2, rfl, ⟨hb2, .inl hS⟩, ?_, ?_, fun i hi => by rw [World.size_setCell]; exact hi.1⟩
      · rw [heap_setCell_same _ _ _ _ _ _ hr2]
        rfl
      · rw [eb]
        exact hL2.live.mono fun i hi => ⟨⟨⟨hi.2, hi.1.elim (fun q => .inl q.1) (fun q => .inr (by omega))⟩, hi.1.elim (fun q => q.2) (fun q => by omega)⟩, heap_setCell_other _ _ _ _ (hi.1.elim (fun q => q.2) (fun q => by show i ≠ b; omega))⟩
    rw [show (x.bytes ++ s.data.toList).length = x.bytes.length + s.size by simp] at key hB4
    first | exact ⟨_, rfl, key, fun i hi => hi.2, hB4⟩ | exact ⟨rfl, _, key, fun i hi => hi.2, hB4⟩

/-- What Crash makes of the log, at the number n of the bytes that stay. -/
theorem crash_key {a : Addr} {S : Nat → Prop} {x : Dsk} {keep : Int} {w : World} {b cap n : Nat} {A : Option Addr} (ha : a = ⟨b, 0, none⟩) (hS : S b) (hr : w.heap[b]? = some (.cells (dcells x (.slice A x.bytes.length cap)) 50 (0, 0)))
    (hL : LogAt w (fun i => S i ∧ i ≠ b) (.slice A x.bytes.length cap) x.bytes) (hlt : ∀ i, S i → i < w.heap.size) (hn : n = x.safe.size + min keep.toNat x.rest.size) :
    DiskIn ((w.setCell ⟨b, 3, none⟩ (.int .i64 (n : Int))).setCell ⟨b, 2, none⟩ (.slice A n n)) S a (crashD x keep) ∧ But S w ((w.setCell ⟨b, 3, none⟩ (.int .i64 (n : Int))).setCell ⟨b, 2, none⟩ (.slice A n n)) := by
  subst ha
  have hl := bytes_len x
  have eb : (crashD x keep).bytes = x.bytes.take n := by
    unfold Dsk.bytes crashD
    rw [extract_take]
    have h1 : x.safe.data.toList.length = x.safe.size := by simp
    have h2 : x.rest.data.toList.length = x.rest.size := by simp
    have h3 : x.rest.data.toList.take keep.toNat = x.rest.data.toList.take (n - x.safe.size) := by
      rcases Nat.le_total keep.toNat x.rest.size with q | q
      · rw [show n - x.safe.size = keep.toNat by omega]
      · rw [List.take_of_length_le (by omega), List.take_of_length_le (by omega)]
    rw [h3]
    simp only [ByteArray.data_append, Array.toList_append]
    rw [List.take_append, h1, List.take_of_length_le (l := x.safe.data.toList) (by omega)]
    simp
  have es : (crashD x keep).safe.size = n := by
    unfold crashD
    simp only [ByteArray.size_append, ByteArray.size_extract]
    omega
  have eln : (crashD x keep).bytes.length = n := by rw [eb, List.length_take]; omega
  refine ⟨⟨b, .slice A n n, rfl, hS, ?_, ?_, fun i hi => by simpa using hlt i hi⟩, (But.set hS _).setCell (.inl hS) _⟩
  · rw [heap_setCell_same _ _ _ _ _ _ (heap_setCell_same _ _ _ _ _ _ hr)]
    rw [← es]
    rfl
  · have hk : ∀ i, (S i ∧ i ≠ b) → (S i ∧ i ≠ b) ∧ ((w.setCell ⟨b, 3, none⟩ (.int .i64 (n : Int))).setCell ⟨b, 2, none⟩ (.slice A n n)).heap[i]? = w.heap[i]? := fun i hi => ⟨hi, by
      rw [heap_setCell_other _ _ _ _ (show i ≠ b from hi.2), heap_setCell_other _ _ _ _ (show i ≠ b from hi.2)]⟩
    refine LogAt.mono ?_ hk
    rcases hL with ⟨A', h1, h2⟩ | ⟨g, cap', cur, h1, h2, h3, h4, h5, h6, h7⟩
    · have h0 : n = 0 := by rw [h2] at hl; simp at hl; omega
      subst h0
      exact .inl ⟨A, rfl, List.eq_nil_of_length_eq_zero eln⟩
    · injection h1 with e1 e2 e3
      subst e1 e3
      by_cases h0 : n = 0
      · subst h0
        exact .inl ⟨_, rfl, List.eq_nil_of_length_eq_zero eln⟩
      · refine .inr ⟨g, n, cur, ?_, h2, h3, by omega, by omega, by omega, ?_⟩
        · rw [eln]
        · rw [eln, eb, List.map_take, ← h7, List.take_take, Nat.min_eq_left (by omega)]

set_option maxRecDepth 100000 in
theorem crash_code (a : Addr) (S : Nat → Prop) (x : Dsk) (keep : Int) (w : World) (h : DiskIn w S a x) (hx : x.ok) (hk : IsI64 keep) :
    Calls Try.prog 18 #[.pointer (some a), .int .i64 keep] w fun e w' => ∃ S', e = .returned (.tuple #[]) ∧ DiskIn w' S' a (crashD x keep) ∧ (∀ i, S' i → S i ∨ w.heap.size ≤ i) ∧ But S w w' := by
  obtain ⟨b, A, cap, rfl, hS, hb, hr, hL, hl1, hl2, c0, c1, c2, c3, ⟨f0, f1, f2, f3⟩, hlt⟩ := h.read
  have hl := bytes_len x
  have hx2 := hx.2.1
  have hx3 := hx.2.2
  unfold Dsk.free at hx3
  have hW : ∀ m : Int, 0 ≤ m → m ≤ 9223372036854775807 → keep.toNat = m.toNat → ∃ n : Nat, IntKind.i64.wrap ((x.safe.size : Int) + if IntKind.i64.wrap (((x.bytes.length : Nat) : Int) - (x.safe.size : Int)) < m then IntKind.i64.wrap (((x.bytes.length : Nat) : Int) - (x.safe.size : Int)) else m) = (n : Int) ∧ n = x.safe.size + min keep.toNat x.rest.size ∧ n ≤ cap := by
    intro m h0 h1 h2
    rw [show IntKind.i64.wrap (((x.bytes.length : Nat) : Int) - (x.safe.size : Int)) = (x.rest.size : Int) by rw [IntWalk.i64_in _ (by omega)]; omega]
    refine ⟨x.safe.size + min keep.toNat x.rest.size, ?_, rfl, by omega⟩
    split
    · rw [IntWalk.i64_in _ (by omega)]; omega
    · rw [IntWalk.i64_in _ (by omega)]; omega
  have key := fun (n : Nat) (hn : n = x.safe.size + min keep.toNat x.rest.size) => crash_key (a := ⟨b, 0, none⟩) (keep := keep) rfl hS hr hL hlt hn
  have HK := Lib.hid key
  have HR := Lib.hid hr
  obtain ⟨n, hn1, hn2, hn3⟩ := hW (if keep < 0 then 0 else keep) (by split <;> omega) (by have := hk.2; split <;> omega) (by split <;> omega)
  have HW := Lib.hid hn1
  have HN := Lib.hid hn2
  have hn4 : (n : Int) ≤ (cap : Int) := by omega
  clear hx2 hx3 hx hl h hr hL hW key hn1 hn2 hn3 hk
  go_enter Try.func18, Try.ntmps18
  go_wp2_with fail
  go_still_tail 20, (by kernel_rfl)
  rw [HW.out]
  generalize (if IntKind.i64.wrap (((x.bytes.length : Nat) : Int) - (x.safe.size : Int)) < (if keep < 0 then 0 else keep) then IntKind.i64.wrap (((x.bytes.length : Nat) : Int) - (x.safe.size : Int)) else (if keep < 0 then 0 else keep)) = q
  generalize (if keep < 0 then 0 else keep) = m
  generalize IntKind.i64.wrap (((x.bytes.length : Nat) : Int) - (x.safe.size : Int)) = r
  clear HW
  change wpList _ _ _ _ _ w.drew
  go_wp2_with fail
  have hr2 : (w.setCell ⟨b, 3, none⟩ (.int .i64 (n : Int))).drew.heap[b]? = _ := heap_setCell_same _ _ _ _ _ (.int .i64 (n : Int)) HR.out
  have e2 : (w.setCell ⟨b, 3, none⟩ (.int .i64 (n : Int))).drew.cell? ⟨b, 2, none⟩ = some (.slice A x.bytes.length cap) := cell_of_row _ _ 2 _ _ (0, 0) hr2
  have e3 : (w.setCell ⟨b, 3, none⟩ (.int .i64 (n : Int))).drew.cell? ⟨b, 3, none⟩ = some (.int .i64 (n : Int)) := cell_of_row _ _ 3 _ _ (0, 0) hr2
  have g2 : (w.setCell ⟨b, 3, none⟩ (.int .i64 (n : Int))).drew.frozen? ⟨b, 2, none⟩ = false := frozen_of_row _ _ 2 _ _ hr2
  clear hr2
  generalize hW2 : (w.setCell ⟨b, 3, none⟩ (.int .i64 (n : Int))).drew = W2 at e2 e3 g2
  have HW2 := Lib.hid hW2
  clear hW2 c0 c1 c2 c3 f0 f1 f2 f3
  go_still_tail 16, (by kernel_rfl)
  change wpList _ _ _ _ _ W2.drew
  go_wp2_with fail
  obtain ⟨k1, k2⟩ := HK.out n HN.out
  have hW3 := HW2.out
  subst hW3
  have k3 : DiskIn ((w.setCell ⟨b, 3, none⟩ (.int .i64 (n : Int))).drew.setCell ⟨b, 2, none⟩ (.slice A n n)).drew S ⟨b, 0, none⟩ (crashD x keep) := k1.keep fun i _ => rfl
  have k4 : But S w ((w.setCell ⟨b, 3, none⟩ (.int .i64 (n : Int))).drew.setCell ⟨b, 2, none⟩ (.slice A n n)).drew := ⟨k2.os, k2.tape, k2.output, k2.size, k2.block⟩
  exact bodyPost_end (results_none rfl _ _ _) rfl ⟨S, rfl, k3, fun i hi => .inl hi, k4⟩

/-- A row of one's own is a log. -/
theorem log_of_own {w : World} {base : Nat} {v : Value} {bs : List UInt8} (h : w.ownsRow base 5 1 v bs.length (bs.map bcell)) : LogAt w (fun i => base ≤ i) v bs := by
  rcases h.2 with ⟨rfl, h0⟩ | ⟨g, cap, cur, rfl, hb, hg, h1, h2, h3, h4⟩
  · exact .inl ⟨none, rfl, List.eq_nil_of_length_eq_zero h0⟩
  · exact .inr ⟨g, cap, cur, rfl, hb, hg, h1, h2, by omega, by simpa using h4⟩

set_option maxRecDepth 100000 in
theorem clone_code (A : Option Addr) (cap : Nat) (S : Nat → Prop) (bs : List UInt8) (w : World) (h : LogAt w S (.slice A bs.length cap) bs) (hs : bs.length ≤ 140737488355328) :
    Calls Try.prog 26 #[.slice A bs.length cap] w fun e w' => ∃ A' cap', e = .returned (.slice A' bs.length cap') ∧ LogAt w' (fun i => w.heap.size ≤ i) (.slice A' bs.length cap') bs ∧ Below w.heap.size w w' := by
  cases A with
  | none =>
    have hb : bs = [] := by
      rcases h with ⟨A', h1, h2⟩ | ⟨g, cap', cur, h1, _⟩
      · exact h2
      · simp at h1
    subst hb
    clear h hs
    have hq : ∀ W : World, (binOp .eql 48 (.slice none 0 cap) (.slice none 0 0)).run Try.prog W = .ok (.bool true) W := fun W => Go.run_eql_slice_nil W 48 5 none 0 cap Try.underlying48
    go_enter Try.func26, Try.ntmps26
    go_wp2_with fail
    go_ret
    first | exact ⟨none, 0, rfl, .inl ⟨none, rfl, rfl⟩, Below.refl _ _⟩ | exact ⟨_, rfl, .inl ⟨none, rfl, rfl⟩, Below.refl _ _⟩
  | some ad =>
    obtain ⟨i, hi, hz, hs1, hb1⟩ : ∃ i, Try.prog.info? 5 = some i ∧ i.zero = some (.int .u8 0) ∧ i.size = 1 ∧ i.bytes = 1 := ⟨_, rfl, rfl, rfl, rfl⟩
    have hcells : ∀ W : World, Below w.heap.size w W → ∀ j u, (bs.map bcell)[j]? = some u → W.cell? (ad.add j) = some u := by
      intro W hB j u hu
      rcases h with ⟨A', h1, h2⟩ | ⟨g, cap', cur, h1, h2, h3, h4, h5, h6, h7⟩
      · subst h2; simp at hu
      · injection h1 with e1 e2 e3
        injection e1 with e1
        subst e1
        exact Lib.cells_of_row ((hB.block g (heap_lt h3)).trans h3) bs.length j u (by rw [h7]; exact hu)
    have hown : (w.alloc (.cells #[] 5)).ownsRow w.heap.size 5 1 (.slice (some ⟨w.heap.size, 0, none⟩) 0 0) 0 [] := ⟨rfl, .inr ⟨w.heap.size, 0, #[], rfl, Nat.le_refl _, heap_alloc_new w _, Nat.le_refl _, by decide, rfl, rfl⟩⟩
    have HO := Lib.hid hown
    have HC := Lib.hid hcells
    have HS := Lib.hid hs
    clear hown hcells h hs
    have hq : ∀ W : World, (binOp .eql 48 (.slice (some ad) bs.length cap) (.slice none 0 0)).run Try.prog W = .ok (.bool false) W := fun W => Go.run_eql_slice_nil W 48 5 (some ad) _ cap Try.underlying48
    go_enter Try.func26, Try.ntmps26
    go_wp2_with (refine wpList_append_own _ (by rfl) (.tmp 5) (.tmp 6) _ (by rfl) w.heap.size 5 i (.int .u8 0) 1 1 Try.underlying48 hi hz hs1 hb1 rfl (by decide) _ 0 [] (by rfl) HO.out ad bs.length cap (bs.map bcell) (by rfl) (by simp) (HC.out _ ((Below.refl _ _).alloc (Nat.le_refl _) _)) ?_ ?_ ?_ (by simp) ?_
                 · intro u hu
                   obtain ⟨b, _, rfl⟩ := List.mem_map.1 hu
                   rfl
                 · have := HS.out
                   simp only [maxLen]
                   omega
                 · have := HS.out
                   omega
                 intro v' w' h2 h3 _
                 rw [Nat.zero_add, List.nil_append] at h2
                 have hL2 := log_of_own h2
                 obtain ⟨A2, cap2, rfl, _, _⟩ := hL2.form
                 have hB2 : Below w.heap.size w w' := ⟨h3.os, h3.tape, h3.output, by have := h3.size; simp at this; omega, fun k hk => (h3.block k (by simp; omega) (by simp [Value.ownBlock]; omega)).trans (heap_alloc_old w _ hk)⟩
                 have H2 := Lib.hid (And.intro hL2 hB2)
                 clear hL2 hB2 h2 h3)
    go_ret
    first | exact ⟨_, _, rfl, H2.out.1, H2.out.2⟩ | exact ⟨_, rfl, H2.out.1, H2.out.2⟩

set_option maxRecDepth 100000 in
theorem copy_code (a : Addr) (S : Nat → Prop) (x : Dsk) (w : World) (h : DiskIn w S a x) (hs : x.safe.size + x.rest.size ≤ 140737488355328) :
    Calls Try.prog 11 #[.pointer (some a)] w fun e w' => ∃ b T, e = .returned (.pointer (some b)) ∧ DiskIn w' T b x ∧ (∀ i, T i → w.heap.size ≤ i) ∧ Below w.heap.size w w' := by
  obtain ⟨b, A, cap, rfl, hS, hb, hr, hL, hl1, hl2, c0, c1, c2, c3, ⟨f0, f1, f2, f3⟩, hlt⟩ := h.read
  have hbl := bytes_len x
  have hA := (Below.refl w.heap.size w).alloc (Nat.le_refl _) (.cells (dcells x (.slice A x.bytes.length cap)) 50)
  have hC := clone_code A cap (fun i => S i ∧ i ≠ b) x.bytes _ (hL.mono fun i hi => ⟨hi, hA.block i (hlt i hi.1)⟩) (by omega)
  have HC := Lib.hid hC
  have HA := Lib.hid hA
  clear hC hA hbl h hr hL hl1 hl2 hs
  go_enter Try.func11, Try.ntmps11
  go_wp2_with fail
  refine HC.out.mono ?_
  rintro e w1 ⟨A', cap', rfl, hL1, hB1⟩
  have hr1 : w1.heap[w.heap.size]? = some (.cells (dcells x (.slice A x.bytes.length cap)) 50 (0, 0)) := (hB1.block _ (by simp)).trans (heap_alloc_new w _)
  have e2 : w1.cell? ⟨w.heap.size, 2, none⟩ = some (.slice A x.bytes.length cap) := cell_of_row _ _ 2 _ _ (0, 0) hr1
  have g2 : w1.frozen? ⟨w.heap.size, 2, none⟩ = false := frozen_of_row _ _ 2 _ _ hr1
  have hz1 : w.heap.size < w1.heap.size := by have := hB1.size; simp at this; omega
  have H1 := Lib.hid (And.intro hL1 (And.intro hB1 hr1))
  clear hL1 hB1 hr1
  go_wp2_with fail
  go_ret
  obtain ⟨hL1, hB1, hr1⟩ := H1.out
  have hBel : Below w.heap.size w w1 := HA.out.trans (hB1.mono (by simp))
  have key : DiskIn (w1.setCell ⟨w.heap.size, 2, none⟩ (.slice A' x.bytes.length cap')) (fun i => w.heap.size ≤ i ∧ i < w1.heap.size) ⟨w.heap.size, 0, none⟩ x := by
    refine ⟨w.heap.size, .slice A' x.bytes.length cap', rfl, ⟨Nat.le_refl _, hz1⟩, ?_, ?_, fun i hi => by rw [World.size_setCell]; exact hi.2⟩
    · rw [heap_setCell_same _ _ _ _ _ _ hr1]
      rfl
    · refine hL1.live.mono fun i hi => ?_
      have h0 : w.heap.size + 1 ≤ i := by simpa using hi.1
      exact ⟨⟨⟨by omega, hi.2⟩, by omega⟩, heap_setCell_other _ _ _ _ (show i ≠ w.heap.size by omega)⟩
  have hBe2 := hBel.setCell (p := ⟨w.heap.size, 2, none⟩) (Nat.le_refl _) (.slice A' x.bytes.length cap')
  first | exact ⟨_, _, rfl, key, fun i hi => hi.1, hBe2⟩ | exact ⟨_, rfl, _, key, fun i hi => hi.1, hBe2⟩

/-- All of the landed disk's contracts. -/
noncomputable def diskHave : DiskHave where
  most := 140737488355328
  most_ge := by decide
  most_le := by decide
  rep := DiskIn
  lt := fun h i hi => by obtain ⟨_, _, _, _, _, _, h5⟩ := h; exact h5 i hi
  keep := fun h hk => h.keep hk
  new := fun room w _ => new_code room w
  append := fun a S x s w h hx hs => append_code a S x s w h hx hs
  sync := fun a S x w h _ => sync_code a S x w h
  switch := fun a S x s w h _ _ => switch_code a S x s w h
  crash := fun a S x keep w h hx hk _ => crash_code a S x keep w h hx hk
  snap := fun a S x w h _ _ => snap_code a S x w h
  log := fun a S x w h _ _ => log_code a S x w h
  synced := fun a S x w h _ _ => synced_code a S x w h
  free := fun a S x w h hx _ => free_code a S x w h hx
  copy := fun a S x w h _ hs => copy_code a S x w h hs
  nilAppend := fun s w => (nil_code w).1 s
  nilSync := fun w => (nil_code w).2.1
  nilSwitch := fun s w => (nil_code w).2.2.1 s
  nilCrash := fun keep w => (nil_code w).2.2.2.1 keep
  nilSnap := fun w => (nil_code w).2.2.2.2.1
  nilLog := fun w => (nil_code w).2.2.2.2.2.1
  nilSynced := fun w => (nil_code w).2.2.2.2.2.2.1
  nilFree := fun w => (nil_code w).2.2.2.2.2.2.2.1
  nilCopy := fun w => (nil_code w).2.2.2.2.2.2.2.2

end Go.Proofs.Ytgbfgjhaglmklaa
