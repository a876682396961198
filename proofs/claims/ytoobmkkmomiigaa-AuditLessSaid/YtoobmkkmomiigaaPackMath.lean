/-
  Plain mathematics of layer 1: numbers as bytes in sevens of bits. It imports no program.
-/
import Derived.WalkKit
namespace Go.Proofs.Ytoobmkkmomiigaa.PackMath

/-- A number of 64 bits (behind a name: the numeral is long). -/
def IsU64 (n : Nat) : Prop := n < 18446744073709551616

theorem IsU64.of_le {m n : Nat} (h : IsU64 n) (hm : m ≤ n) : IsU64 m := Nat.lt_of_le_of_lt hm h
theorem IsU64.small {n : Nat} (h : n < 9223372036854775808) : IsU64 n := by unfold IsU64; omega
theorem IsU64.wrap {n : Nat} (h : IsU64 n) : IntKind.u64.wrap (n : Int) = n := IntWalk.u64_in _ (by unfold IsU64 at h; omega)
theorem IsU64.quo {n : Nat} (k : Nat) (h : IsU64 n) : IntKind.u64.wrap ((n : Int) / (k : Int)) = ((n / k : Nat) : Int) := by
  rw [← Int.natCast_ediv]
  exact (h.of_le (Nat.div_le_self n k)).wrap

theorem IsU64.half {n : Nat} (h : IsU64 n) : RowKit.wrap64 ((n : Int) / 2) = ((n / 2 : Nat) : Int) := by
  rw [IntWalk.wrap64_in _ (by unfold IsU64 at h; omega)]; omega

/-- A number of 64 bits with a sign. -/
def IsI64 (n : Int) : Prop := -9223372036854775808 ≤ n ∧ n ≤ 9223372036854775807

/-- A number with a sign as one without: those near 0 are short. -/
def zig (n : Int) : Nat := if n < 0 then (-2 * n - 1).toNat else (2 * n).toNat

theorem half_i64 {n : Nat} (h : IsU64 n) : IsI64 ((n / 2 : Nat) : Int) := by unfold IsU64 at h; unfold IsI64; omega
theorem half_i64' {n : Nat} (h : IsU64 n) : IsI64 (-((n / 2 : Nat) : Int) - 1) := by unfold IsU64 at h; unfold IsI64; omega
theorem zig_nat (i : Nat) : zig (i : Int) = 2 * i := by unfold zig; rw [if_neg (by omega)]; omega
theorem zig_opp (i : Nat) : zig (-(i : Int) - 1) = 2 * i + 1 := by unfold zig; rw [if_pos (by omega)]; omega

theorem zig_u64 {n : Int} (h : IsI64 n) : IsU64 (zig n) := by
  unfold IsI64 at h; unfold IsU64 zig; split <;> omega

theorem wrap_u64 (n : Int) : IntKind.u64.wrap n = n % 18446744073709551616 := by
  simp [IntKind.wrap, IntKind.bits, IntKind.signed]

theorem zig_neg {n : Int} (h : IsI64 n) (h0 : n < 0) :
    IntKind.u64.wrap (IntKind.u64.wrap (-IntKind.u64.wrap (2 * IntKind.u64.wrap n)) - 1) = (zig n : Int) := by
  simp only [wrap_u64]
  unfold IsI64 at h
  unfold zig
  rw [if_pos h0]
  omega

theorem zig_pos {n : Int} (h : IsI64 n) (h0 : ¬ n < 0) : IntKind.u64.wrap (2 * IntKind.u64.wrap n) = (zig n : Int) := by
  simp only [wrap_u64]
  unfold IsI64 at h
  unfold zig
  rw [if_neg h0]
  omega

/-- The bytes of n, with at most f bytes ahead of the last one. -/
def numF : Nat → Nat → List UInt8
  | 0, n => [UInt8.ofNat n]
  | f + 1, n => if n < 128 then [UInt8.ofNat n] else UInt8.ofNat (128 + n % 128) :: numF f (n / 128)

/-- The bytes of a number of 64 bits. -/
def numL (n : Nat) : List UInt8 := numF 9 n

theorem numF_small (f n : Nat) (h : n < 128) : numF f n = [UInt8.ofNat n] := by
  cases f with
  | zero => rfl
  | succ f => simp [numF, h]

theorem numF_big (f n : Nat) (h : 128 ≤ n) : numF (f + 1) n = UInt8.ofNat (128 + n % 128) :: numF f (n / 128) := by
  simp [numF, Nat.not_lt.2 h]

theorem numF_length_le (f n : Nat) : 1 ≤ (numF f n).length ∧ (numF f n).length ≤ f + 1 := by
  induction f generalizing n with
  | zero => simp [numF]
  | succ f ih =>
    unfold numF
    split
    · simp
    · have := ih (n / 128)
      simp; omega

theorem numL_length (n : Nat) : 1 ≤ (numL n).length ∧ (numL n).length ≤ 10 := numF_length_le 9 n

/-- What the loop carries: the bytes that are laid, the number that is left, and how many bytes may follow. -/
def NumLeft (n : Nat) (xs : List UInt8) (m f : Nat) : Prop := xs.length + f = 9 ∧ m < 2 * 128 ^ f ∧ xs ++ numF f m = numL n

theorem left_start (n : Nat) (h : IsU64 n) : NumLeft n [] n 9 := ⟨by simp, by unfold IsU64 at h; simpa using h, rfl⟩

theorem left_step (n : Nat) (xs : List UInt8) (m f : Nat) (h : NumLeft n xs m f) (hm : 128 ≤ m) :
    ∃ g, f = g + 1 ∧ NumLeft n (xs ++ [UInt8.ofNat (128 + m % 128)]) (m / 128) g := by
  obtain ⟨h1, h2, h3⟩ := h
  cases f with
  | zero => simp at h2; omega
  | succ g =>
    refine ⟨g, rfl, ?_, ?_, ?_⟩
    · simp; omega
    · rw [Nat.pow_succ] at h2; omega
    · rw [← h3, numF_big g m hm]; simp

theorem left_end (n : Nat) (xs : List UInt8) (m f : Nat) (h : NumLeft n xs m f) (hm : m < 128) : xs ++ [UInt8.ofNat m] = numL n := by
  obtain ⟨h1, h2, h3⟩ := h
  rw [← h3, numF_small f m hm]

theorem left_len (n : Nat) (xs : List UInt8) (m f : Nat) (h : NumLeft n xs m f) : xs.length ≤ 9 := by
  have := h.1; omega

theorem toNat_low (m : Nat) (h : m < 128) : ((UInt8.ofNat m).toNat : Int) = (m : Int) := by
  rw [UInt8.toNat_ofNat']; omega

theorem toNat_high (m : Nat) : ((UInt8.ofNat (128 + m % 128)).toNat : Int) = (m : Int) % 128 + 128 := by
  rw [UInt8.toNat_ofNat']; omega

/-! ### How many bytes -/

theorem numF_length (f n : Nat) : (numF (f + 1) n).length = if n < 128 then 1 else 1 + (numF f (n / 128)).length := by
  by_cases h : n < 128
  · rw [if_pos h, numF_small _ _ h]; rfl
  · rw [if_neg h, numF_big _ _ (by omega), List.length_cons]; omega

/-- The fuel does not matter if it is enough. -/
theorem numF_more (f n : Nat) (h : n < 2 * 128 ^ f) : numF (f + 1) n = numF f n := by
  induction f generalizing n with
  | zero => simp at h; rw [numF_small _ _ (by omega), numF_small _ _ (by omega)]
  | succ f ih =>
    by_cases h1 : n < 128
    · rw [numF_small _ _ h1, numF_small _ _ h1]
    · rw [numF_big (f + 1) n (by omega), numF_big f n (by omega)]
      rw [ih _ (by rw [Nat.pow_succ] at h; omega)]

theorem numL_len_small {n : Nat} (h : n < 128) : (numL n).length = 1 := by rw [numL, numF_small _ _ h]; rfl

theorem numL_len_big {n : Nat} (hn : IsU64 n) (h : 128 ≤ n) : (numL n).length = (numL (n / 128)).length + 1 := by
  unfold IsU64 at hn
  have e : numL (n / 128) = numF 8 (n / 128) := numF_more 8 (n / 128) (by simp; omega)
  rw [e, numL, numF_big 8 n h]
  simp

theorem numL_len_eq_one {n : Nat} (hn : IsU64 n) : (numL n).length = 1 ↔ n < 128 := by
  constructor
  · intro h
    by_cases h1 : n < 128
    · exact h1
    · rw [numL_len_big hn (by omega)] at h
      have := (numL_length (n / 128)).1
      omega
  · exact numL_len_small

theorem numL_len_pair (i : Nat) : (numL (2 * i)).length = (numL (2 * i + 1)).length := by
  show (numF (8 + 1) (2 * i)).length = (numF (8 + 1) (2 * i + 1)).length
  rw [numF_length 8 (2 * i), numF_length 8 (2 * i + 1), show (2 * i + 1) / 128 = 2 * i / 128 by omega]
  by_cases h : 2 * i < 128
  · rw [if_pos h, if_pos (by omega)]
  · rw [if_neg h, if_neg (by omega)]

theorem numL_len_u8 {k : Nat} (h : k < 256) : (numL k).length = 1 + k / 128 := by
  by_cases h1 : k < 128
  · rw [numL_len_small h1]; omega
  · rw [numL_len_big (IsU64.small (by omega)) (by omega), numL_len_small (by omega)]; omega

end Go.Proofs.Ytoobmkkmomiigaa.PackMath
