/-
  Cut off, and grown again, what was cut off is gone; twice the same size is as once; written twice at one place the second one is there: for all strings of 64 bytes at most, the second one not empty (others are let go), and bytes.
-/
import Derived.Test.YtppcogkgipedpaaExtentHave
import Derived.OpenShut
namespace Go.Proofs.Ytppcogkgipedpaa.lawExtentCuts
open Go.RowKit ExtentMath PackMath

set_option maxRecDepth 100000 in
set_option maxHeartbeats 3200000 in
theorem core (d s x y p r : ByteArray) (a b m n L : Nat) (z0 : d.size ≤ 64) (z1 : s.size ≤ 64) (z2 : ((s.size : Int) == 0) = false) (a1 : a ≤ 255) (b1 : b ≤ 255) (m1 : m ≤ 64) (n1 : n ≤ 64) (eM : (a : Int) % 65 = (m : Int)) (eN : (b : Int) % 65 = (n : Int))
    (hx : x.size = m) (hy : y.size = n) (hLn : L ≤ n) (hL : (n < m ∧ d.size < n ∧ L = d.size) ∨ (n < m ∧ ¬ d.size < n ∧ L = n) ∨ (¬ n < m ∧ d.size < m ∧ L = d.size) ∨ (¬ n < m ∧ ¬ d.size < m ∧ L = m))
    (HZ : Hid (∀ (i : Nat) (h : i < y.size), L ≤ i → y[i] = 0))
    (S : Hid (∀ W : World, Calls Try.prog 7 #[] W fun e w' => e = .returned (.bool true) ∧ Below W.heap.size W w'))
    (A1 : Hid (∀ W : World, Calls Try.prog 10 #[.string d, .int .i64 (m : Int)] W fun e' w' => e' = .returned (.tuple #[.string x, .int .i64 0]) ∧ Below W.heap.size W w'))
    (A2 : Hid (∀ W : World, Calls Try.prog 10 #[.string x, .int .i64 (n : Int)] W fun e' w' => e' = .returned (.tuple #[.string y, .int .i64 0]) ∧ Below W.heap.size W w'))
    (A3 : Hid (∀ W : World, Calls Try.prog 10 #[.string y, .int .i64 (n : Int)] W fun e' w' => e' = .returned (.tuple #[.string y, .int .i64 0]) ∧ Below W.heap.size W w'))
    (W1 : Hid (∀ W : World, Calls Try.prog 8 #[.string d, .int .i64 0, .string s] W fun e' w' => e' = .returned (.tuple #[.string p, .int .i64 0]) ∧ Below W.heap.size W w'))
    (W2 : Hid (∀ W : World, Calls Try.prog 8 #[.string p, .int .i64 0, .string s] W fun e' w' => e' = .returned (.tuple #[.string p, .int .i64 0]) ∧ Below W.heap.size W w'))
    (R1 : Hid (∀ W : World, Calls Try.prog 12 #[.string y, .int .i64 0, .int .i64 (L : Int)] W fun e' w' => e' = .returned (.string r) ∧ Below W.heap.size W w'))
    (R2 : Hid (∀ W : World, Calls Try.prog 12 #[.string d, .int .i64 0, .int .i64 (L : Int)] W fun e' w' => e' = .returned (.string r) ∧ Below W.heap.size W w')) (w : World) :
    Calls Try.prog 5 #[.string d, .int .u8 (a : Int), .int .u8 (b : Int), .string s] w fun e w' => e = .returned (.bool true) ∧ Below w.heap.size w w' := by
  rcases hL with ⟨c0, c1, rfl⟩ | ⟨c0, c1, rfl⟩ | ⟨c0, c1, rfl⟩ | ⟨c0, c1, rfl⟩
  · go_enter Try.func5, Try.ntmps5
    go_wp2_with fail
    refine (S.out _).mono ?_
    rintro e w1 ⟨rfl, hb1⟩
    go_wp2_with fail
    refine (A1.out _).mono ?_
    rintro e w2 ⟨rfl, hb⟩
    have b2 := below_step hb1 hb
    clear hb1 hb
    go_wp2_with fail
    refine (A2.out _).mono ?_
    rintro e w3 ⟨rfl, hb⟩
    have b3 := below_step b2 hb
    clear b2 hb
    go_wp2_with fail
    refine (A3.out _).mono ?_
    rintro e w4 ⟨rfl, hb⟩
    have b4 := below_step b3 hb
    clear b3 hb
    go_wp2_with fail
    go_loopw [19] (fun i wr => ∃ k : Nat, i = .int .i64 (k : Int) ∧ d.size ≤ k ∧ k ≤ n ∧ Below w.heap.size w wr) (fun i _ => n - (intOf i).toNat)
    case atStart => exact ⟨d.size, rfl, Nat.le_refl _, hLn, b4⟩
    case round =>
      obtain ⟨k, rfl, hk1, hk2, hb⟩ := hrel
      by_cases hlt : k < n
      · have hky : k < y.size := by rw [hy]; exact hlt
        have hz : ((y[k].toNat : Int) == 0) = true := by rw [HZ.out k hky hk1]; rfl
        go_wp2_with fail
        go_roundw
        case rel => exact ⟨k + 1, by go_num, by omega, by omega, hb⟩
        case measure => simp [intOf] <;> omega
      · go_wp2_with fail
        refine (W1.out _).mono ?_
        rintro e w5 ⟨rfl, hb5⟩
        have b5 := below_step hb hb5
        clear hb5
        go_wp2_with fail
        refine (W2.out _).mono ?_
        rintro e w6 ⟨rfl, hb6⟩
        have b6 := below_step b5 hb6
        clear hb6
        go_wp2_with fail
        refine (R1.out _).mono ?_
        rintro e w7 ⟨rfl, hb7⟩
        have b7 := below_step b6 hb7
        clear hb7
        go_wp2_with fail
        refine (R2.out _).mono ?_
        rintro e w8 ⟨rfl, hb8⟩
        have b8 := below_step b7 hb8
        clear hb8
        go_wp2_with fail
        go_ret
        exact ⟨rfl, b8⟩
  · go_enter Try.func5, Try.ntmps5
    go_wp2_with fail
    refine (S.out _).mono ?_
    rintro e w1 ⟨rfl, hb1⟩
    go_wp2_with fail
    refine (A1.out _).mono ?_
    rintro e w2 ⟨rfl, hb⟩
    have b2 := below_step hb1 hb
    clear hb1 hb
    go_wp2_with fail
    refine (A2.out _).mono ?_
    rintro e w3 ⟨rfl, hb⟩
    have b3 := below_step b2 hb
    clear b2 hb
    go_wp2_with fail
    refine (A3.out _).mono ?_
    rintro e w4 ⟨rfl, hb⟩
    have b4 := below_step b3 hb
    clear b3 hb
    go_wp2_with fail
    go_loopw [19] (fun i wr => ∃ k : Nat, i = .int .i64 (k : Int) ∧ L ≤ k ∧ k ≤ L ∧ Below w.heap.size w wr) (fun i _ => L - (intOf i).toNat)
    case atStart => exact ⟨L, rfl, Nat.le_refl _, hLn, b4⟩
    case round =>
      obtain ⟨k, rfl, hk1, hk2, hb⟩ := hrel
      by_cases hlt : k < L
      · exfalso; omega
      · go_wp2_with fail
        refine (W1.out _).mono ?_
        rintro e w5 ⟨rfl, hb5⟩
        have b5 := below_step hb hb5
        clear hb5
        go_wp2_with fail
        refine (W2.out _).mono ?_
        rintro e w6 ⟨rfl, hb6⟩
        have b6 := below_step b5 hb6
        clear hb6
        go_wp2_with fail
        refine (R1.out _).mono ?_
        rintro e w7 ⟨rfl, hb7⟩
        have b7 := below_step b6 hb7
        clear hb7
        go_wp2_with fail
        refine (R2.out _).mono ?_
        rintro e w8 ⟨rfl, hb8⟩
        have b8 := below_step b7 hb8
        clear hb8
        go_wp2_with fail
        go_ret
        exact ⟨rfl, b8⟩
  · go_enter Try.func5, Try.ntmps5
    go_wp2_with fail
    refine (S.out _).mono ?_
    rintro e w1 ⟨rfl, hb1⟩
    go_wp2_with fail
    refine (A1.out _).mono ?_
    rintro e w2 ⟨rfl, hb⟩
    have b2 := below_step hb1 hb
    clear hb1 hb
    go_wp2_with fail
    refine (A2.out _).mono ?_
    rintro e w3 ⟨rfl, hb⟩
    have b3 := below_step b2 hb
    clear b2 hb
    go_wp2_with fail
    refine (A3.out _).mono ?_
    rintro e w4 ⟨rfl, hb⟩
    have b4 := below_step b3 hb
    clear b3 hb
    go_wp2_with fail
    go_loopw [19] (fun i wr => ∃ k : Nat, i = .int .i64 (k : Int) ∧ d.size ≤ k ∧ k ≤ n ∧ Below w.heap.size w wr) (fun i _ => n - (intOf i).toNat)
    case atStart => exact ⟨d.size, rfl, Nat.le_refl _, hLn, b4⟩
    case round =>
      obtain ⟨k, rfl, hk1, hk2, hb⟩ := hrel
      by_cases hlt : k < n
      · have hky : k < y.size := by rw [hy]; exact hlt
        have hz : ((y[k].toNat : Int) == 0) = true := by rw [HZ.out k hky hk1]; rfl
        go_wp2_with fail
        go_roundw
        case rel => exact ⟨k + 1, by go_num, by omega, by omega, hb⟩
        case measure => simp [intOf] <;> omega
      · go_wp2_with fail
        refine (W1.out _).mono ?_
        rintro e w5 ⟨rfl, hb5⟩
        have b5 := below_step hb hb5
        clear hb5
        go_wp2_with fail
        refine (W2.out _).mono ?_
        rintro e w6 ⟨rfl, hb6⟩
        have b6 := below_step b5 hb6
        clear hb6
        go_wp2_with fail
        refine (R1.out _).mono ?_
        rintro e w7 ⟨rfl, hb7⟩
        have b7 := below_step b6 hb7
        clear hb7
        go_wp2_with fail
        refine (R2.out _).mono ?_
        rintro e w8 ⟨rfl, hb8⟩
        have b8 := below_step b7 hb8
        clear hb8
        go_wp2_with fail
        go_ret
        exact ⟨rfl, b8⟩
  · go_enter Try.func5, Try.ntmps5
    go_wp2_with fail
    refine (S.out _).mono ?_
    rintro e w1 ⟨rfl, hb1⟩
    go_wp2_with fail
    refine (A1.out _).mono ?_
    rintro e w2 ⟨rfl, hb⟩
    have b2 := below_step hb1 hb
    clear hb1 hb
    go_wp2_with fail
    refine (A2.out _).mono ?_
    rintro e w3 ⟨rfl, hb⟩
    have b3 := below_step b2 hb
    clear b2 hb
    go_wp2_with fail
    refine (A3.out _).mono ?_
    rintro e w4 ⟨rfl, hb⟩
    have b4 := below_step b3 hb
    clear b3 hb
    go_wp2_with fail
    go_loopw [19] (fun i wr => ∃ k : Nat, i = .int .i64 (k : Int) ∧ L ≤ k ∧ k ≤ n ∧ Below w.heap.size w wr) (fun i _ => n - (intOf i).toNat)
    case atStart => exact ⟨L, rfl, Nat.le_refl _, hLn, b4⟩
    case round =>
      obtain ⟨k, rfl, hk1, hk2, hb⟩ := hrel
      by_cases hlt : k < n
      · have hky : k < y.size := by rw [hy]; exact hlt
        have hz : ((y[k].toNat : Int) == 0) = true := by rw [HZ.out k hky hk1]; rfl
        go_wp2_with fail
        go_roundw
        case rel => exact ⟨k + 1, by go_num, by omega, by omega, hb⟩
        case measure => simp [intOf] <;> omega
      · go_wp2_with fail
        refine (W1.out _).mono ?_
        rintro e w5 ⟨rfl, hb5⟩
        have b5 := below_step hb hb5
        clear hb5
        go_wp2_with fail
        refine (W2.out _).mono ?_
        rintro e w6 ⟨rfl, hb6⟩
        have b6 := below_step b5 hb6
        clear hb6
        go_wp2_with fail
        refine (R1.out _).mono ?_
        rintro e w7 ⟨rfl, hb7⟩
        have b7 := below_step b6 hb7
        clear hb7
        go_wp2_with fail
        refine (R2.out _).mono ?_
        rintro e w8 ⟨rfl, hb8⟩
        have b8 := below_step b7 hb8
        clear hb8
        go_wp2_with fail
        go_ret
        exact ⟨rfl, b8⟩

theorem walk0 (H : ExtentHave) (d : ByteArray) (a b : Int) (s : ByteArray) (w0 : d.size ≤ maxLen) (w1 : (Lit.int .u8 a).wf = true) (w2 : (Lit.int .u8 b).wf = true) (w3 : s.size ≤ maxLen) (w : World) :
    Calls Try.prog 5 #[.string d, .int .u8 a, .int .u8 b, .string s] w fun e w' => e = .returned (.bool true) ∧ Below w.heap.size w w' := by
  unfold maxLen at w0 w3
  have z0 : d.size ≤ 9223372036854775807 := by omega
  have z1 : s.size ≤ 9223372036854775807 := by omega
  obtain ⟨a, rfl, ok⟩ := nat_of_int (n := a) (m := 255) (bounds_u8 w1)
  obtain ⟨b, rfl, ok2⟩ := nat_of_int (n := b) (m := 255) (bounds_u8 w2)
  clear w0 w1 w2 w3
  have S : Hid (∀ W : World, Calls Try.prog 7 #[] W fun e w' => e = .returned (.bool true) ∧ Below W.heap.size W w') := fun W => H.shown W
  by_cases h0 : 64 < d.size
  · clear ok2
    clear ok
    go_enter Try.func5, Try.ntmps5
    go_wp2_with fail
    refine (S.out _).mono ?_
    rintro e w1 ⟨rfl, hb⟩
    go_wp2_with fail
    go_ret
    exact ⟨rfl, hb⟩
  by_cases h1 : 64 < s.size
  · clear ok2
    clear ok
    go_enter Try.func5, Try.ntmps5
    go_wp2_with fail
    refine (S.out _).mono ?_
    rintro e w1 ⟨rfl, hb⟩
    go_wp2_with fail
    go_ret
    exact ⟨rfl, hb⟩
  by_cases h2 : s.size = 0
  · have h2' : ((s.size : Int) == 0) = true := by rw [beq_iff_eq]; omega
    clear ok2 h2
    clear ok
    go_enter Try.func5, Try.ntmps5
    go_wp2_with fail
    refine (S.out _).mono ?_
    rintro e w1 ⟨rfl, hb⟩
    go_wp2_with fail
    go_ret
    exact ⟨rfl, hb⟩
  have em : (a : Int) % 65 = ((a % 65 : Nat) : Int) := by omega
  have en : (b : Int) % 65 = ((b % 65 : Nat) : Int) := by omega
  have m1 : a % 65 ≤ 64 := by omega
  have n1 : b % 65 ≤ 64 := by omega
  generalize a % 65 = m at em m1
  generalize b % 65 = n at en n1
  have I : ∀ k : Nat, k ≤ 64 → IsI64 (k : Int) := fun k hk => by unfold IsI64; omega
  have tr : ∀ (c : ByteArray) (k : Nat), c.size ≤ 64 → k ≤ 64 → tR c (k : Int) = (⟨(tL c.data.toList k).toArray⟩, 0) := fun c k hc hk => by
    unfold tR
    rw [if_neg (by omega), if_neg (by omega)]
    rfl
  have hx : (⟨(tL d.data.toList m).toArray⟩ : ByteArray).size = m := by rw [size_bytes, tL_len]
  have hy : (⟨(tL (tL d.data.toList m) n).toArray⟩ : ByteArray).size = n := by rw [size_bytes, tL_len]
  have A1 := fun W => H.trunc d (m : Int) W (by omega) (I m m1)
  rw [tr d m (by omega) m1] at A1
  have A2 := fun W => H.trunc ⟨(tL d.data.toList m).toArray⟩ (n : Int) W (by omega) (I n n1)
  rw [tr _ n (by omega) n1] at A2
  have A3 := fun W => H.trunc ⟨(tL (tL d.data.toList m) n).toArray⟩ (n : Int) W (by omega) (I n n1)
  rw [tr _ n (by omega) n1, show tL (⟨(tL (tL d.data.toList m) n).toArray⟩ : ByteArray).data.toList n = tL (tL d.data.toList m) n from trunc_twice _ _] at A3
  have wr : ∀ c : ByteArray, c.size ≤ 64 → wR c 0 s = (⟨(wL c.data.toList s.data.toList 0).toArray⟩, 0) := fun c hc => by
    unfold wR
    rw [if_neg (by omega), if_neg (by omega)]
    rfl
  have hp : (⟨(wL d.data.toList s.data.toList 0).toArray⟩ : ByteArray).size ≤ 64 := by rw [size_bytes, wL_len, len_bytes, len_bytes]; omega
  have W1 := fun W => H.write d 0 s W (by omega) (by omega) (by unfold IsI64; omega)
  rw [wr d (by omega)] at W1
  have W2 := fun W => H.write ⟨(wL d.data.toList s.data.toList 0).toArray⟩ 0 s W (by omega) (by omega) (by unfold IsI64; omega)
  rw [wr _ hp, show wL (⟨(wL d.data.toList s.data.toList 0).toArray⟩ : ByteArray).data.toList s.data.toList 0 = wL d.data.toList s.data.toList 0 from write_twice _ _] at W2
  obtain ⟨L, hL⟩ : ∃ L, L = min (min m n) d.size := ⟨_, rfl⟩
  have R1 := fun W => H.read ⟨(tL (tL d.data.toList m) n).toArray⟩ 0 (L : Int) W (by omega) (by unfold IsI64; omega) (I L (by omega))
  have R2 := fun W => H.read d 0 (L : Int) W (by omega) (by unfold IsI64; omega) (I L (by omega))
  have hr : rR ⟨(tL (tL d.data.toList m) n).toArray⟩ 0 (L : Int) = rR d 0 (L : Int) := by
    unfold rR
    rw [if_neg (by omega), if_neg (by omega)]
    show (⟨(rL (tL (tL d.data.toList m) n) 0 L).toArray⟩ : ByteArray) = ⟨(rL d.data.toList 0 L).toArray⟩
    rw [trunc_read _ _ _ _ (by omega) (by omega) (by rw [len_bytes]; omega)]
  rw [hr] at R1
  exact core d s _ _ _ _ a b m n L (by omega) (by omega) (by rw [beq_eq_false_iff_ne]; omega) (by omega) (by omega) m1 n1 em en hx hy (by omega) (by omega)
    (fun i hi hLi => by
      have e := trunc_zero d.data.toList m n i (by rw [hy] at hi; rw [len_bytes]; omega)
      rw [bAt_lt (by rw [tL_len]; rw [hy] at hi; exact hi)] at e
      exact e) S A1 A2 A3 W1 W2 R1 R2 w

end Go.Proofs.Ytppcogkgipedpaa.lawExtentCuts
