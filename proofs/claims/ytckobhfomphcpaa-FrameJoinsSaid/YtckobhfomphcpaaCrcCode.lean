/-
  The walks of crc's own functions.
-/
import Derived.Test.YtckobhfomphcpaaCrcHave
import Derived.Deep.LoopGhost
import Derived.Laws.CopyOwn
import Derived.Deep.QuietTactic
import Derived.BigQuiet
namespace Go.Proofs.Ytckobhfomphcpaa
open Go.RowKit CrcMath

set_option maxHeartbeats 400000 in
theorem step_any (c : Nat) (hc : c < 4294967296) (w : World) :
    Calls Try.prog 40 #[.int .u32 c] w fun e w' => e = .returned (.int .u32 (cstep c : Nat)) ∧ w = w' := by
  have hc' : (c : Int) ≤ 4294967295 := by omega
  by_cases h2 : c % 2 = 1
  · have h2' : ((c : Int) % 2 == 1) = true := by rw [beq_iff_eq]; omega
    have H2 := Lib.hid h2
    clear h2
    go_enter Try.func40, Try.ntmps40
    go_wp2_with fail
    go_ret
    have hx := u32_xor_nat (c / 2) 3988292384 (by omega) (by omega)
    exact ⟨by rw [step_odd H2.out, ← hx]; rfl, rfl⟩
  · have h2' : ((c : Int) % 2 == 1) = false := by rw [beq_eq_false_iff_ne]; omega
    have H2 := Lib.hid h2
    clear h2
    go_enter Try.func40, Try.ntmps40
    go_wp2_with fail
    go_ret
    exact ⟨by rw [step_even H2.out]; rfl, rfl⟩

set_option maxHeartbeats 400000 in
theorem eight_any (c : Nat) (hc : c < 4294967296) (w : World) :
    Calls Try.prog 39 #[.int .u32 c] w fun e w' => e = .returned (.int .u32 (cstep8 c : Nat)) ∧ w = w' := by
  go_enter Try.func39, Try.ntmps39
  go_wp2_with fail
  go_loop [0, 3] (fun a i => ∃ j d : Nat, i = .int .i64 (j : Int) ∧ a = .int .u32 (d : Int) ∧ j ≤ 8 ∧ d < 4294967296 ∧ csteps (8 - j) d = csteps 8 c) (fun _ i => 8 - (intOf i).toNat)
  case atStart => exact ⟨0, c, rfl, rfl, by omega, hc, rfl⟩
  case round =>
    obtain ⟨j, d, rfl, rfl, hj, hd, hs⟩ := hrel
    have HS := Lib.hid hs
    have HD := Lib.hid hd
    clear hs hd
    by_cases hlt : j < 8
    · go_wp2_with fail
      refine (step_any d HD.out _).mono ?_
      rintro e w' ⟨rfl, rfl⟩
      go_wp2_with fail
      exact ⟨⟨j + 1, cstep d, by go_num, rfl, by omega, step_lt HD.out, steps_next HS.out hlt⟩, by simp [intOf]; omega⟩
    · go_wp2_with fail
      go_ret
      have h := HS.out
      rw [show 8 - j = 0 by omega] at h
      exact ⟨by rw [show d = cstep8 c from h]; rfl, rfl⟩

/-- The table, as far as it is filled. -/
def part (k : Nat) : Array Value := Array.ofFn (n := 256) fun i => .int .u32 ((if i.val < k then cstep8 i.val else 0 : Nat) : Int)

theorem part_all : part 256 = tab := by
  unfold part tab
  congr 1
  funext i
  rw [if_pos i.isLt]

theorem part_size (k : Nat) : (part k).size = 256 := by simp [part]

theorem part_at (k i : Nat) : (part k)[i]? = if i < 256 then some (.int .u32 ((if i < k then cstep8 i else 0 : Nat) : Int)) else none := by
  unfold part
  rw [Array.getElem?_ofFn]
  split <;> simp_all

theorem part_set {k : Nat} (h : k < 256) : (part k).setIfInBounds k (.int .u32 ((cstep8 k : Nat) : Int)) = part (k + 1) := by
  apply Array.ext_getElem?
  intro i
  rw [Array.getElem?_setIfInBounds, part_at, part_at, part_size]
  by_cases e : k = i
  · subst e
    simp [h]
  · rw [if_neg e]
    by_cases hi : i < k
    · rw [if_pos hi, if_pos (show i < k + 1 by omega)]
    · rw [if_neg hi, if_neg (show ¬ i < k + 1 by omega)]

theorem part_zero : part 0 = Array.replicate 256 (.int .u32 0) := by
  apply Array.ext
  · simp [part]
  · intro i h1 h2
    simp [part]

set_option maxRecDepth 100000 in
set_option maxHeartbeats 400000 in
theorem table_any (w : World) : Calls Try.prog 38 #[] w fun e w' => e = .returned (.agg tab) ∧ Below w.heap.size w w' := by
  have hz : ∀ w, (zeroValue 67).run Try.prog w = .ok (.agg (part 0)) w := by rw [part_zero]; exact (zero_of_info tab_info).1
  go_enter Try.func38, Try.ntmps38
  go_wp2_with fail
  go_loopw [3] (fun c wr => ∃ k : Nat, c = .int .i64 (k : Int) ∧ k ≤ 256 ∧ wr.heap[w.heap.size]? = some (.cells (part 0) 67 (0, 0)) ∧ wr.heap[w.heap.size + 1]? = some (.cells (part k) 67 (0, 0)) ∧ Below w.heap.size w wr) (fun c _ => 256 - (intOf c).toNat)
  case atStart => exact ⟨0, rfl, by omega, heap_alloc2_old w _ _, heap_alloc2_new w _ _, ((Below.refl _ _).alloc (Nat.le_refl _) _).alloc (by simp) _⟩
  case round =>
    obtain ⟨k, rfl, hk, h1, h2, hB⟩ := hrel
    by_cases hlt : k < 256
    · have hlt5 : decide ((k : Int) < 256) = true := by simp; omega
      have hkk : IntKind.u32.wrap (k : Int) = (k : Int) := IntWalk.u32_in _ (by omega)
      have hc : wr.cell? ⟨w.heap.size + 1, k, none⟩ = some (.int .u32 0) := by
        rw [cell_of_row _ _ k _ _ (0, 0) h2, part_at, if_pos hlt, if_neg (by omega)]; rfl
      have hf : wr.frozen? ⟨w.heap.size + 1, k, none⟩ = false := frozen_of_row _ _ k _ _ h2
      go_wp2_with fail
      refine (eight_any k (by omega) _).mono ?_
      rintro e w' ⟨rfl, rfl⟩
      go_wp2_with fail
      refine ⟨⟨k + 1, by go_num, by omega, ?_, ?_, ?_⟩, by simp [intOf]; omega⟩
      · rw [heap_setCell_other _ _ _ _ (by simp)]; exact h1
      · rw [heap_setCell_same _ _ _ _ _ _ h2, part_set hlt]
      · exact hB.setCell (by simp) _
    · have hk2 : k = 256 := by omega
      subst hk2
      rw [part_all] at h2
      have hsz : (Try.prog.info? 67).map (·.size) = some tab.size := by rw [tab_size]; exact (zero_of_info tab_info).2
      have hst : (storeCells ⟨w.heap.size, 0, none⟩ tab.toList 0).run Try.prog wr = .ok () (wr.setRow w.heap.size tab) := by
        have h := run_storeCells_from (P := Try.prog) w.heap.size 67 tab.toList 0 (part 0) wr h1 (by simp [part_size, tab_size]) (fun v hv => (Array.all_eq_true_iff_forall_mem.1 tab_one) v (by simpa using hv))
        rw [h]
        congr 2
      have HI := Lib.hid hsz
      have hts := tab_size
      clear hsz
      go_wp2_with (refine wpList_load_row rfl 67 _ rfl (w.heap.size + 1) rfl 67 tab (0, 0) _ h2 Try.underlying67 rfl HI.out ?_)
      exact bodyPost_ret (v := .agg tab) (results_cell_row rfl _ _ w.heap.size 67 tab (0, 0) _ rfl (setRow_heap wr _ _ _ _ _ h1) Try.underlying67 rfl HI.out) rfl ⟨rfl, below_setRow hB (Nat.le_refl _) _⟩

/-- What a byte of a text is held against the sum's lowest one. -/
theorem low_xor (d : Nat) (b : UInt8) (x y : Int) (hx : x = (d : Int) % 256) (hy : y = (b.toNat : Int)) : bits .xor .u8 x y = (((d % 256) ^^^ b.toNat : Nat) : Int) := by
  subst hx hy
  exact u8_xor_nat (d % 256) b.toNat (by omega) (UInt8.toNat_lt b)

theorem low_lt (d : Nat) (b : UInt8) : (d % 256) ^^^ b.toNat < 256 := Nat.xor_lt_two_pow (n := 8) (by omega) (UInt8.toNat_lt b)

set_option maxRecDepth 100000 in
set_option maxHeartbeats 800000 in
theorem more_any (c : Nat) (s : ByteArray) (w : World) (hc : c < 4294967296) (_hs : s.size ≤ 70000) :
    Calls Try.prog 34 #[.int .u32 c, .string s] w fun e w' => e = .returned (.int .u32 ((cmore c s.data.toList : Nat) : Int)) ∧ Below w.heap.size w w' := by
  obtain ⟨Z, hz, hst⟩ := tab_zero
  have hts := tab_size
  have hsg : IntKind.u32.signed = false := rfl
  have HC := Lib.hid hc
  have f1 : ∀ x : Int, x = (c : Int) → bits .xor .u32 IntKind.u32.max x = ((4294967295 - c : Nat) : Int) := fun x h => by rw [h]; exact not_u32 hc
  clear hc
  go_enter Try.func34, Try.ntmps34
  go_wp2_with fail
  refine (table_any _).mono ?_
  rintro e w1 ⟨rfl, hb1⟩
  go_wp2_with fail
  clear hz hst hts f1
  go_loopw [0, 12] (fun a i W => ∃ k : Nat, i = .int .i64 (k : Int) ∧ k ≤ s.size ∧ a = .int .u32 (cfeed (4294967295 - c) (s.data.toList.take k) : Nat) ∧ W.heap[w1.heap.size]? = some (.cells tab 67 (0, 0)) ∧ Below w.heap.size w W) (fun _ i _ => s.size - (intOf i).toNat)
  case atStart => exact ⟨0, rfl, by omega, rfl, heap_alloc_last w1 _, hb1.alloc hb1.size _⟩
  case round =>
    obtain ⟨k, rfl, hk, rfl, h1, hB⟩ := hrel
    have hl := feed_lt (s.data.toList.take k) (neg_lt c)
    obtain ⟨d, hd⟩ : ∃ d, d = cfeed (4294967295 - c) (s.data.toList.take k) := ⟨_, rfl⟩
    rw [← hd] at hl ⊢
    have HD := Lib.hid hd
    clear hd
    have HL := Lib.hid hl
    clear hl
    have hl : (d : Int) ≤ 4294967295 := by have := HL.out; omega
    by_cases hlt : k < s.size
    · have f2 : ∀ x y : Int, x = (d : Int) % 256 → y = (s[k].toNat : Int) → bits .xor .u8 x y = (((d % 256) ^^^ s[k].toNat : Nat) : Int) := fun x y hx hy => low_xor d s[k] x y hx hy
      have hj := low_lt d s[k]
      have hx := u32_xor_nat (d / 256) (cstep8 ((d % 256) ^^^ s[k].toNat)) (by omega) (step8_lt (by omega))
      have hn := step8_byte d s[k].toNat (UInt8.toNat_lt _)
      obtain ⟨j, ej⟩ : ∃ j, j = (d % 256) ^^^ s[k].toNat := ⟨_, rfl⟩
      rw [← ej] at f2 hj hx hn
      obtain ⟨W', hW⟩ : ∃ V, V = cstep8 j := ⟨_, rfl⟩
      have hc : wr.cell? ⟨w1.heap.size, j, none⟩ = some (.int .u32 ((W' : Nat) : Int)) := by
        rw [cell_of_row _ _ j _ _ (0, 0) h1, tab_at hj, hW]
      rw [← hW] at hx hn
      have f3 : ∀ x y : Int, x = (d : Int) / 256 → y = (W' : Int) → bits .xor .u32 x y = ((d / 256 ^^^ W' : Nat) : Int) := fun x y h h' => by rw [h, h', ← hx]; rfl
      have HN := Lib.hid hn
      have HJ := Lib.hid ej
      have HW := Lib.hid hW
      clear hx hn ej hW
      go_wp2_with fail
      refine ⟨⟨k + 1, by go_num, by omega, ?_, h1, hB⟩, by simp [intOf]; omega⟩
      rw [feed_next _ _ _ hlt, ← HD.out, HN.out, Nat.xor_comm]
    · have f4 : ∀ x : Int, x = (d : Int) → bits .xor .u32 IntKind.u32.max x = ((4294967295 - d : Nat) : Int) := fun x h => by rw [h]; exact not_u32 HL.out
      go_wp2_with fail
      go_ret
      have hk2 : k = s.size := by omega
      have h := HD.out
      rw [hk2, List.take_of_length_le (by simp)] at h
      exact ⟨by rw [h]; rfl, hB⟩

theorem of_any (s : ByteArray) (w : World) (hs : s.size ≤ 70000) :
    Calls Try.prog 27 #[.string s] w fun e w' => e = .returned (.int .u32 ((cmore 0 s.data.toList : Nat) : Int)) ∧ Below w.heap.size w w' := by
  go_enter Try.func27, Try.ntmps27
  go_wp2_with fail
  refine (more_any 0 s _ (by omega) hs).mono ?_
  rintro e w1 ⟨rfl, hb⟩
  go_wp2_with fail
  go_ret
  exact ⟨rfl, hb⟩

theorem crcHave : CrcHave := ⟨table_any, more_any, of_any⟩

end Go.Proofs.Ytckobhfomphcpaa
