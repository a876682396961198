/-
  Two writes that touch no byte of each other make the same in both orders; one that covers another one leaves nothing of it: for all strings of 64 bytes at most (others are let go) and places.
-/
import Derived.Test.YtppcogkgipedpaaExtentHave
import Derived.OpenShut
namespace Go.Proofs.Ytppcogkgipedpaa.lawExtentApart
open Go.RowKit ExtentMath PackMath

set_option maxRecDepth 100000 in
set_option maxHeartbeats 3200000 in
theorem core (d s t x y z v : ByteArray) (a b i k : Nat) (e f g h : Int) (z0 : d.size ≤ 64) (z1 : s.size ≤ 64) (z2 : t.size ≤ 64) (a1 : a ≤ 255) (b1 : b ≤ 255) (i1 : i < 64) (k1 : k < 64) (eI : (a : Int) % 64 = (i : Int)) (eK : (b : Int) % 64 = (k : Int))
    (good : e = 0 → f = 0 → g = 0 → h = 0 → ((i + s.size ≤ k ∨ k + t.size ≤ i) → y = v) ∧ (k ≤ i → i + s.size ≤ k + t.size → y = z))
    (S : Hid (∀ W : World, Calls Try.prog 7 #[] W fun e w' => e = .returned (.bool true) ∧ Below W.heap.size W w'))
    (A1 : Hid (∀ W : World, Calls Try.prog 8 #[.string d, .int .i64 (i : Int), .string s] W fun e' w' => e' = .returned (.tuple #[.string x, .int .i64 e]) ∧ Below W.heap.size W w'))
    (A2 : Hid (∀ W : World, Calls Try.prog 8 #[.string x, .int .i64 (k : Int), .string t] W fun e' w' => e' = .returned (.tuple #[.string y, .int .i64 f]) ∧ Below W.heap.size W w'))
    (A3 : Hid (∀ W : World, Calls Try.prog 8 #[.string d, .int .i64 (k : Int), .string t] W fun e' w' => e' = .returned (.tuple #[.string z, .int .i64 g]) ∧ Below W.heap.size W w'))
    (A4 : Hid (∀ W : World, Calls Try.prog 8 #[.string z, .int .i64 (i : Int), .string s] W fun e' w' => e' = .returned (.tuple #[.string v, .int .i64 h]) ∧ Below W.heap.size W w')) (w : World) :
    Calls Try.prog 6 #[.string d, .int .u8 (a : Int), .string s, .int .u8 (b : Int), .string t] w fun e w' => e = .returned (.bool true) ∧ Below w.heap.size w w' := by
  have hcase : (¬ e = 0) ∨ (e = 0 ∧ ¬ f = 0) ∨ (e = 0 ∧ f = 0 ∧ ¬ g = 0) ∨ (e = 0 ∧ f = 0 ∧ g = 0 ∧ ¬ h = 0) ∨ (e = 0 ∧ f = 0 ∧ g = 0 ∧ h = 0) := by omega
  rcases hcase with q1 | ⟨rfl, q2⟩ | ⟨rfl, rfl, q3⟩ | ⟨rfl, rfl, rfl, q4⟩ | ⟨rfl, rfl, rfl, rfl⟩
  · clear good
    go_enter Try.func6, Try.ntmps6
    go_wp2_with fail
    refine (S.out _).mono ?_
    rintro e w1 ⟨rfl, hb1⟩
    go_wp2_with fail
    refine (A1.out _).mono ?_
    rintro e w2 ⟨rfl, hb⟩
    have b2 := below_step hb1 hb
    clear hb1 hb
    go_wp2_with fail
    refine (A2.out _).mono ?_
    rintro e w3 ⟨rfl, hb⟩
    have b3 := below_step b2 hb
    clear b2 hb
    go_wp2_with fail
    refine (A3.out _).mono ?_
    rintro e w4 ⟨rfl, hb⟩
    have b4 := below_step b3 hb
    clear b3 hb
    go_wp2_with fail
    refine (A4.out _).mono ?_
    rintro e w5 ⟨rfl, hb⟩
    have b5 := below_step b4 hb
    clear b4 hb
    go_wp2_with fail
    go_ret
    exact ⟨rfl, b5⟩
  · clear good
    go_enter Try.func6, Try.ntmps6
    go_wp2_with fail
    refine (S.out _).mono ?_
    rintro e w1 ⟨rfl, hb1⟩
    go_wp2_with fail
    refine (A1.out _).mono ?_
    rintro e w2 ⟨rfl, hb⟩
    have b2 := below_step hb1 hb
    clear hb1 hb
    go_wp2_with fail
    refine (A2.out _).mono ?_
    rintro e w3 ⟨rfl, hb⟩
    have b3 := below_step b2 hb
    clear b2 hb
    go_wp2_with fail
    refine (A3.out _).mono ?_
    rintro e w4 ⟨rfl, hb⟩
    have b4 := below_step b3 hb
    clear b3 hb
    go_wp2_with fail
    refine (A4.out _).mono ?_
    rintro e w5 ⟨rfl, hb⟩
    have b5 := below_step b4 hb
    clear b4 hb
    go_wp2_with fail
    go_ret
    exact ⟨rfl, b5⟩
  · clear good
    go_enter Try.func6, Try.ntmps6
    go_wp2_with fail
    refine (S.out _).mono ?_
    rintro e w1 ⟨rfl, hb1⟩
    go_wp2_with fail
    refine (A1.out _).mono ?_
    rintro e w2 ⟨rfl, hb⟩
    have b2 := below_step hb1 hb
    clear hb1 hb
    go_wp2_with fail
    refine (A2.out _).mono ?_
    rintro e w3 ⟨rfl, hb⟩
    have b3 := below_step b2 hb
    clear b2 hb
    go_wp2_with fail
    refine (A3.out _).mono ?_
    rintro e w4 ⟨rfl, hb⟩
    have b4 := below_step b3 hb
    clear b3 hb
    go_wp2_with fail
    refine (A4.out _).mono ?_
    rintro e w5 ⟨rfl, hb⟩
    have b5 := below_step b4 hb
    clear b4 hb
    go_wp2_with fail
    go_ret
    exact ⟨rfl, b5⟩
  · clear good
    go_enter Try.func6, Try.ntmps6
    go_wp2_with fail
    refine (S.out _).mono ?_
    rintro e w1 ⟨rfl, hb1⟩
    go_wp2_with fail
    refine (A1.out _).mono ?_
    rintro e w2 ⟨rfl, hb⟩
    have b2 := below_step hb1 hb
    clear hb1 hb
    go_wp2_with fail
    refine (A2.out _).mono ?_
    rintro e w3 ⟨rfl, hb⟩
    have b3 := below_step b2 hb
    clear b2 hb
    go_wp2_with fail
    refine (A3.out _).mono ?_
    rintro e w4 ⟨rfl, hb⟩
    have b4 := below_step b3 hb
    clear b3 hb
    go_wp2_with fail
    refine (A4.out _).mono ?_
    rintro e w5 ⟨rfl, hb⟩
    have b5 := below_step b4 hb
    clear b4 hb
    go_wp2_with fail
    go_ret
    exact ⟨rfl, b5⟩
  · obtain ⟨g1, g2⟩ := good rfl rfl rfl rfl
    clear good
    have hc : ((i : Int) + (s.size : Int) ≤ (k : Int)) ∨ (¬ (i : Int) + (s.size : Int) ≤ (k : Int) ∧ (k : Int) + (t.size : Int) ≤ (i : Int)) ∨ (¬ (i : Int) + (s.size : Int) ≤ (k : Int) ∧ ¬ (k : Int) + (t.size : Int) ≤ (i : Int) ∧ i < k) ∨
        (¬ (i : Int) + (s.size : Int) ≤ (k : Int) ∧ ¬ (k : Int) + (t.size : Int) ≤ (i : Int) ∧ decide (i < k) = false ∧ (k : Int) + (t.size : Int) < (i : Int) + (s.size : Int)) ∨
        (¬ (i : Int) + (s.size : Int) ≤ (k : Int) ∧ ¬ (k : Int) + (t.size : Int) ≤ (i : Int) ∧ decide (i < k) = false ∧ ¬ (k : Int) + (t.size : Int) < (i : Int) + (s.size : Int)) := by
      simp only [decide_eq_false_iff_not]
      omega
    rcases hc with c1 | ⟨c1, c2⟩ | ⟨c1, c2, c3⟩ | ⟨c1, c2, c3, c4⟩ | ⟨c1, c2, c3, c4⟩
    · have hy := g1 (by omega)
      subst hy
      clear g1 g2
      go_enter Try.func6, Try.ntmps6
      go_wp2_with fail
      refine (S.out _).mono ?_
      rintro e w1 ⟨rfl, hb1⟩
      go_wp2_with fail
      refine (A1.out _).mono ?_
      rintro e w2 ⟨rfl, hb⟩
      have b2 := below_step hb1 hb
      clear hb1 hb
      go_wp2_with fail
      refine (A2.out _).mono ?_
      rintro e w3 ⟨rfl, hb⟩
      have b3 := below_step b2 hb
      clear b2 hb
      go_wp2_with fail
      refine (A3.out _).mono ?_
      rintro e w4 ⟨rfl, hb⟩
      have b4 := below_step b3 hb
      clear b3 hb
      go_wp2_with fail
      refine (A4.out _).mono ?_
      rintro e w5 ⟨rfl, hb⟩
      have b5 := below_step b4 hb
      clear b4 hb
      go_wp2_with fail
      go_ret
      exact ⟨rfl, b5⟩
    · have hy := g1 (by omega)
      subst hy
      clear g1 g2
      go_enter Try.func6, Try.ntmps6
      go_wp2_with fail
      refine (S.out _).mono ?_
      rintro e w1 ⟨rfl, hb1⟩
      go_wp2_with fail
      refine (A1.out _).mono ?_
      rintro e w2 ⟨rfl, hb⟩
      have b2 := below_step hb1 hb
      clear hb1 hb
      go_wp2_with fail
      refine (A2.out _).mono ?_
      rintro e w3 ⟨rfl, hb⟩
      have b3 := below_step b2 hb
      clear b2 hb
      go_wp2_with fail
      refine (A3.out _).mono ?_
      rintro e w4 ⟨rfl, hb⟩
      have b4 := below_step b3 hb
      clear b3 hb
      go_wp2_with fail
      refine (A4.out _).mono ?_
      rintro e w5 ⟨rfl, hb⟩
      have b5 := below_step b4 hb
      clear b4 hb
      go_wp2_with fail
      go_ret
      exact ⟨rfl, b5⟩
    · clear g1 g2
      go_enter Try.func6, Try.ntmps6
      go_wp2_with fail
      refine (S.out _).mono ?_
      rintro e w1 ⟨rfl, hb1⟩
      go_wp2_with fail
      refine (A1.out _).mono ?_
      rintro e w2 ⟨rfl, hb⟩
      have b2 := below_step hb1 hb
      clear hb1 hb
      go_wp2_with fail
      refine (A2.out _).mono ?_
      rintro e w3 ⟨rfl, hb⟩
      have b3 := below_step b2 hb
      clear b2 hb
      go_wp2_with fail
      refine (A3.out _).mono ?_
      rintro e w4 ⟨rfl, hb⟩
      have b4 := below_step b3 hb
      clear b3 hb
      go_wp2_with fail
      refine (A4.out _).mono ?_
      rintro e w5 ⟨rfl, hb⟩
      have b5 := below_step b4 hb
      clear b4 hb
      go_wp2_with fail
      go_ret
      exact ⟨rfl, b5⟩
    · clear g1 g2
      go_enter Try.func6, Try.ntmps6
      go_wp2_with fail
      refine (S.out _).mono ?_
      rintro e w1 ⟨rfl, hb1⟩
      go_wp2_with fail
      refine (A1.out _).mono ?_
      rintro e w2 ⟨rfl, hb⟩
      have b2 := below_step hb1 hb
      clear hb1 hb
      go_wp2_with fail
      refine (A2.out _).mono ?_
      rintro e w3 ⟨rfl, hb⟩
      have b3 := below_step b2 hb
      clear b2 hb
      go_wp2_with fail
      refine (A3.out _).mono ?_
      rintro e w4 ⟨rfl, hb⟩
      have b4 := below_step b3 hb
      clear b3 hb
      go_wp2_with fail
      refine (A4.out _).mono ?_
      rintro e w5 ⟨rfl, hb⟩
      have b5 := below_step b4 hb
      clear b4 hb
      go_wp2_with fail
      go_ret
      exact ⟨rfl, b5⟩
    · have c5 : ¬ i < k := by simpa using c3
      have hy := g2 (by omega) (by omega)
      subst hy
      clear g1 g2 c5
      go_enter Try.func6, Try.ntmps6
      go_wp2_with fail
      refine (S.out _).mono ?_
      rintro e w1 ⟨rfl, hb1⟩
      go_wp2_with fail
      refine (A1.out _).mono ?_
      rintro e w2 ⟨rfl, hb⟩
      have b2 := below_step hb1 hb
      clear hb1 hb
      go_wp2_with fail
      refine (A2.out _).mono ?_
      rintro e w3 ⟨rfl, hb⟩
      have b3 := below_step b2 hb
      clear b2 hb
      go_wp2_with fail
      refine (A3.out _).mono ?_
      rintro e w4 ⟨rfl, hb⟩
      have b4 := below_step b3 hb
      clear b3 hb
      go_wp2_with fail
      refine (A4.out _).mono ?_
      rintro e w5 ⟨rfl, hb⟩
      have b5 := below_step b4 hb
      clear b4 hb
      go_wp2_with fail
      go_ret
      exact ⟨rfl, b5⟩

theorem walk0 (H : ExtentHave) (d : ByteArray) (a : Int) (s : ByteArray) (b : Int) (t : ByteArray) (w0 : d.size ≤ maxLen) (w1 : (Lit.int .u8 a).wf = true) (w2 : s.size ≤ maxLen) (w3 : (Lit.int .u8 b).wf = true) (w4 : t.size ≤ maxLen) (w : World) :
    Calls Try.prog 6 #[.string d, .int .u8 a, .string s, .int .u8 b, .string t] w fun e w' => e = .returned (.bool true) ∧ Below w.heap.size w w' := by
  unfold maxLen at w0 w2 w4
  have z0 : d.size ≤ 9223372036854775807 := by omega
  have z1 : s.size ≤ 9223372036854775807 := by omega
  have z2 : t.size ≤ 9223372036854775807 := by omega
  obtain ⟨a, rfl, ok⟩ := nat_of_int (n := a) (m := 255) (bounds_u8 w1)
  obtain ⟨b, rfl, ok2⟩ := nat_of_int (n := b) (m := 255) (bounds_u8 w3)
  clear w0 w1 w2 w3 w4
  have S : Hid (∀ W : World, Calls Try.prog 7 #[] W fun e w' => e = .returned (.bool true) ∧ Below W.heap.size W w') := fun W => H.shown W
  by_cases h0 : 64 < d.size
  · clear ok2
    clear ok
    go_enter Try.func6, Try.ntmps6
    go_wp2_with fail
    refine (S.out _).mono ?_
    rintro e w1 ⟨rfl, hb⟩
    go_wp2_with fail
    go_ret
    exact ⟨rfl, hb⟩
  by_cases h1 : 64 < s.size
  · clear ok2
    clear ok
    go_enter Try.func6, Try.ntmps6
    go_wp2_with fail
    refine (S.out _).mono ?_
    rintro e w1 ⟨rfl, hb⟩
    go_wp2_with fail
    go_ret
    exact ⟨rfl, hb⟩
  by_cases h2 : 64 < t.size
  · clear ok2
    clear ok
    go_enter Try.func6, Try.ntmps6
    go_wp2_with fail
    refine (S.out _).mono ?_
    rintro e w1 ⟨rfl, hb⟩
    go_wp2_with fail
    go_ret
    exact ⟨rfl, hb⟩
  have I : ∀ n : Nat, n < 64 → IsI64 (n : Int) := fun n hn => by unfold IsI64; omega
  have A1 := fun W => H.write d ((a % 64 : Nat) : Int) s W (by omega) (by omega) (I _ (by omega))
  have A3 := fun W => H.write d ((b % 64 : Nat) : Int) t W (by omega) (by omega) (I _ (by omega))
  have A2 := fun W => H.write (wR d ((a % 64 : Nat) : Int) s).1 ((b % 64 : Nat) : Int) t W (wR_size _ _ _ (by omega)) (by omega) (I _ (by omega))
  have A4 := fun W => H.write (wR d ((b % 64 : Nat) : Int) t).1 ((a % 64 : Nat) : Int) s W (wR_size _ _ _ (by omega)) (by omega) (I _ (by omega))
  refine core d s t _ _ _ _ a b (a % 64) (b % 64) _ _ _ _ (by omega) (by omega) (by omega) (by omega) (by omega) (by omega) (by omega) (by omega) (by omega) ?_ S A1 A2 A3 A4 w
  generalize a % 64 = i
  generalize b % 64 = k
  clear A1 A2 A3 A4
  intro e1 e2 e3 e4
  obtain ⟨o1, p1, _, _, _, r1⟩ := wR_good e1
  obtain ⟨o3, p3, _, _, _, r3⟩ := wR_good e3
  obtain rfl : i = o1 := by omega
  obtain rfl : k = o3 := by omega
  rw [r1] at e2 ⊢
  rw [r3] at e4 ⊢
  obtain ⟨o2, p2, _, _, _, r2⟩ := wR_good e2
  obtain ⟨o4, p4, _, _, _, r4⟩ := wR_good e4
  obtain rfl : k = o2 := by omega
  obtain rfl : i = o4 := by omega
  rw [r2, r4]
  refine ⟨fun hc => ?_, fun h1 h2 => ?_⟩
  · show (⟨(wL (wL d.data.toList s.data.toList i) t.data.toList k).toArray⟩ : ByteArray) = ⟨(wL (wL d.data.toList t.data.toList k) s.data.toList i).toArray⟩
    rw [write_apart _ _ _ _ _ (by rw [len_bytes, len_bytes]; exact hc)]
  · show (⟨(wL (wL d.data.toList s.data.toList i) t.data.toList k).toArray⟩ : ByteArray) = ⟨(wL d.data.toList t.data.toList k).toArray⟩
    rw [write_over _ _ _ _ _ h1 (by rw [len_bytes, len_bytes]; exact h2)]

end Go.Proofs.Ytppcogkgipedpaa.lawExtentApart
