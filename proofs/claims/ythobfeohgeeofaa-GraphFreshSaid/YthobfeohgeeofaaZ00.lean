/-
  Plain mathematics of layer 1: numbers as bytes in sevens of bits. It imports no program.
-/
import Derived.WalkKit
import Derived.WalkSpells
import Derived.WalkLawsBesides
import Derived.Lib.Hide
import Derived.Lib.Strings
import Derived.Deep.Draws
import Derived.Deep.AppendLies
namespace Go.Proofs.Ythobfeohgeeofaa.PackMath

/-- A number of 64 bits (behind a name: the numeral is long). -/
def IsU64 (n : Nat) : Prop := n < 18446744073709551616

theorem IsU64.of_le {m n : Nat} (h : IsU64 n) (hm : m ≤ n) : IsU64 m := Nat.lt_of_le_of_lt hm h
theorem IsU64.small {n : Nat} (h : n < 9223372036854775808) : IsU64 n := by unfold IsU64; omega
theorem IsU64.wrap {n : Nat} (h : IsU64 n) : IntKind.u64.wrap (n : Int) = n := IntWalk.u64_in _ (by unfold IsU64 at h; omega)
theorem IsU64.quo {n : Nat} (k : Nat) (h : IsU64 n) : IntKind.u64.wrap ((n : Int) / (k : Int)) = ((n / k : Nat) : Int) := by
  rw [← Int.natCast_ediv]
  exact (h.of_le (Nat.div_le_self n k)).wrap

theorem IsU64.half {n : Nat} (h : IsU64 n) : RowKit.wrap64 ((n : Int) / 2) = ((n / 2 : Nat) : Int) := by
  rw [IntWalk.wrap64_in _ (by unfold IsU64 at h; omega)]; omega

/-- A number of 64 bits with a sign. -/
def IsI64 (n : Int) : Prop := -9223372036854775808 ≤ n ∧ n ≤ 9223372036854775807

/-- A number with a sign as one without: those near 0 are short. -/
def zig (n : Int) : Nat := if n < 0 then (-2 * n - 1).toNat else (2 * n).toNat

theorem half_i64 {n : Nat} (h : IsU64 n) : IsI64 ((n / 2 : Nat) : Int) := by unfold IsU64 at h; unfold IsI64; omega
theorem half_i64' {n : Nat} (h : IsU64 n) : IsI64 (-((n / 2 : Nat) : Int) - 1) := by unfold IsU64 at h; unfold IsI64; omega
theorem zig_nat (i : Nat) : zig (i : Int) = 2 * i := by unfold zig; rw [if_neg (by omega)]; omega
theorem zig_opp (i : Nat) : zig (-(i : Int) - 1) = 2 * i + 1 := by unfold zig; rw [if_pos (by omega)]; omega

theorem zig_u64 {n : Int} (h : IsI64 n) : IsU64 (zig n) := by
  unfold IsI64 at h; unfold IsU64 zig; split <;> omega

theorem wrap_u64 (n : Int) : IntKind.u64.wrap n = n % 18446744073709551616 := by
  simp [IntKind.wrap, IntKind.bits, IntKind.signed]

theorem zig_neg {n : Int} (h : IsI64 n) (h0 : n < 0) :
    IntKind.u64.wrap (IntKind.u64.wrap (-IntKind.u64.wrap (2 * IntKind.u64.wrap n)) - 1) = (zig n : Int) := by
  simp only [wrap_u64]
  unfold IsI64 at h
  unfold zig
  rw [if_pos h0]
  omega

theorem zig_pos {n : Int} (h : IsI64 n) (h0 : ¬ n < 0) : IntKind.u64.wrap (2 * IntKind.u64.wrap n) = (zig n : Int) := by
  simp only [wrap_u64]
  unfold IsI64 at h
  unfold zig
  rw [if_neg h0]
  omega

/-- The bytes of n, with at most f bytes ahead of the last one. -/
def numF : Nat → Nat → List UInt8
  | 0, n => [UInt8.ofNat n]
  | f + 1, n => if n < 128 then [UInt8.ofNat n] else UInt8.ofNat (128 + n % 128) :: numF f (n / 128)

/-- The bytes of a number of 64 bits. -/
def numL (n : Nat) : List UInt8 := numF 9 n

theorem numF_small (f n : Nat) (h : n < 128) : numF f n = [UInt8.ofNat n] := by
  cases f with
  | zero => rfl
  | succ f => simp [numF, h]

theorem numF_big (f n : Nat) (h : 128 ≤ n) : numF (f + 1) n = UInt8.ofNat (128 + n % 128) :: numF f (n / 128) := by
  simp [numF, Nat.not_lt.2 h]

theorem numF_length_le (f n : Nat) : 1 ≤ (numF f n).length ∧ (numF f n).length ≤ f + 1 := by
  induction f generalizing n with
  | zero => simp [numF]
  | succ f ih =>
    unfold numF
    split
    · simp
    · have := ih (n / 128)
      simp; omega

theorem numL_length (n : Nat) : 1 ≤ (numL n).length ∧ (numL n).length ≤ 10 := numF_length_le 9 n

/-- What the loop carries: the bytes that are laid, the number that is left, and how many bytes may follow. -/
def NumLeft (n : Nat) (xs : List UInt8) (m f : Nat) : Prop := xs.length + f = 9 ∧ m < 2 * 128 ^ f ∧ xs ++ numF f m = numL n

theorem left_start (n : Nat) (h : IsU64 n) : NumLeft n [] n 9 := ⟨by simp, by unfold IsU64 at h; simpa using h, rfl⟩

theorem left_step (n : Nat) (xs : List UInt8) (m f : Nat) (h : NumLeft n xs m f) (hm : 128 ≤ m) :
    ∃ g, f = g + 1 ∧ NumLeft n (xs ++ [UInt8.ofNat (128 + m % 128)]) (m / 128) g := by
  obtain ⟨h1, h2, h3⟩ := h
  cases f with
  | zero => simp at h2; omega
  | succ g =>
    refine ⟨g, rfl, ?_, ?_, ?_⟩
    · simp; omega
    · rw [Nat.pow_succ] at h2; omega
    · rw [← h3, numF_big g m hm]; simp

theorem left_end (n : Nat) (xs : List UInt8) (m f : Nat) (h : NumLeft n xs m f) (hm : m < 128) : xs ++ [UInt8.ofNat m] = numL n := by
  obtain ⟨h1, h2, h3⟩ := h
  rw [← h3, numF_small f m hm]

theorem left_len (n : Nat) (xs : List UInt8) (m f : Nat) (h : NumLeft n xs m f) : xs.length ≤ 9 := by
  have := h.1; omega

theorem toNat_low (m : Nat) (h : m < 128) : ((UInt8.ofNat m).toNat : Int) = (m : Int) := by
  rw [UInt8.toNat_ofNat']; omega

theorem toNat_high (m : Nat) : ((UInt8.ofNat (128 + m % 128)).toNat : Int) = (m : Int) % 128 + 128 := by
  rw [UInt8.toNat_ofNat']; omega

/-! ### How many bytes -/

theorem numF_length (f n : Nat) : (numF (f + 1) n).length = if n < 128 then 1 else 1 + (numF f (n / 128)).length := by
  by_cases h : n < 128
  · rw [if_pos h, numF_small _ _ h]; rfl
  · rw [if_neg h, numF_big _ _ (by omega), List.length_cons]; omega

/-- The fuel does not matter if it is enough. -/
theorem numF_more (f n : Nat) (h : n < 2 * 128 ^ f) : numF (f + 1) n = numF f n := by
  induction f generalizing n with
  | zero => simp at h; rw [numF_small _ _ (by omega), numF_small _ _ (by omega)]
  | succ f ih =>
    by_cases h1 : n < 128
    · rw [numF_small _ _ h1, numF_small _ _ h1]
    · rw [numF_big (f + 1) n (by omega), numF_big f n (by omega)]
      rw [ih _ (by rw [Nat.pow_succ] at h; omega)]

theorem numL_len_small {n : Nat} (h : n < 128) : (numL n).length = 1 := by rw [numL, numF_small _ _ h]; rfl

theorem numL_len_big {n : Nat} (hn : IsU64 n) (h : 128 ≤ n) : (numL n).length = (numL (n / 128)).length + 1 := by
  unfold IsU64 at hn
  have e : numL (n / 128) = numF 8 (n / 128) := numF_more 8 (n / 128) (by simp; omega)
  rw [e, numL, numF_big 8 n h]
  simp

theorem numL_len_eq_one {n : Nat} (hn : IsU64 n) : (numL n).length = 1 ↔ n < 128 := by
  constructor
  · intro h
    by_cases h1 : n < 128
    · exact h1
    · rw [numL_len_big hn (by omega)] at h
      have := (numL_length (n / 128)).1
      omega
  · exact numL_len_small

theorem numL_len_pair (i : Nat) : (numL (2 * i)).length = (numL (2 * i + 1)).length := by
  show (numF (8 + 1) (2 * i)).length = (numF (8 + 1) (2 * i + 1)).length
  rw [numF_length 8 (2 * i), numF_length 8 (2 * i + 1), show (2 * i + 1) / 128 = 2 * i / 128 by omega]
  by_cases h : 2 * i < 128
  · rw [if_pos h, if_pos (by omega)]
  · rw [if_neg h, if_neg (by omega)]

theorem numL_len_u8 {k : Nat} (h : k < 256) : (numL k).length = 1 + k / 128 := by
  by_cases h1 : k < 128
  · rw [numL_len_small h1]; omega
  · rw [numL_len_big (IsU64.small (by omega)) (by omega), numL_len_small (by omega)]; omega

end Go.Proofs.Ythobfeohgeeofaa.PackMath

/-
  Plain mathematics of layer 1: what a string begins with. It imports no program.
-/
namespace Go.Proofs.Ythobfeohgeeofaa.PackMath

/-- The number with which a list of bytes begins, of which the first byte is the i-th one. -/
def takeF : Nat → List UInt8 → Option (Nat × List UInt8)
  | _, [] => none
  | i, b :: r =>
    if i = 9 ∧ 1 < b.toNat then none
    else if 128 ≤ b.toNat then (takeF (i + 1) r).map fun x => (b.toNat - 128 + 128 * x.1, x.2)
    else if b.toNat = 0 ∧ 0 < i then none else some (b.toNat, r)

def takeL (s : List UInt8) : Option (Nat × List UInt8) := takeF 0 s

/-- The three results. -/
def takeRes : Option (Nat × List UInt8) → Value
  | some (m, t) => .tuple #[.int .u64 (m : Int), .string ⟨t.toArray⟩, .int .i64 0]
  | none => .tuple #[.int .u64 0, .string ⟨#[]⟩, .int .i64 2]

/-- What the loop carries: the bytes that are gone through, and what they make. -/
def TakeInv (s : List UInt8) (k acc : Nat) : Prop :=
  k ≤ 9 ∧ k ≤ s.length ∧ acc < 128 ^ k ∧ takeL s = (takeF k (s.drop k)).map fun x => (acc + x.1 * 128 ^ k, x.2)

theorem takeInv_start (s : List UInt8) : TakeInv s 0 0 := by
  refine ⟨by omega, by omega, by omega, ?_⟩
  simp [takeL]

theorem takeF_step (s : List UInt8) (k : Nat) (h : k < s.length) : takeF k (s.drop k) =
    if k = 9 ∧ 1 < (s[k]).toNat then none
    else if 128 ≤ (s[k]).toNat then (takeF (k + 1) (s.drop (k + 1))).map fun x => ((s[k]).toNat - 128 + 128 * x.1, x.2)
    else if (s[k]).toNat = 0 ∧ 0 < k then none else some ((s[k]).toNat, s.drop (k + 1)) := by
  rw [List.drop_eq_getElem_cons h]
  rfl

theorem takeInv_over {s : List UInt8} {k acc : Nat} (h : TakeInv s k acc) (hk : s.length ≤ k) : takeL s = none := by
  obtain ⟨_, h2, _, h4⟩ := h
  rw [h4, List.drop_eq_nil_of_le hk]
  rfl

theorem takeInv_nine {s : List UInt8} {acc : Nat} (h : TakeInv s 9 acc) (hk : 9 < s.length) (hb : 1 < (s[9]).toNat) : takeL s = none := by
  obtain ⟨_, h2, _, h4⟩ := h
  rw [h4, takeF_step s 9 hk, if_pos ⟨rfl, hb⟩]
  rfl

theorem takeInv_zero {s : List UInt8} {k acc : Nat} (h : TakeInv s k acc) (hk : k < s.length) (h0 : 0 < k) (hb : (s[k]).toNat = 0) : takeL s = none := by
  obtain ⟨_, h2, _, h4⟩ := h
  rw [h4, takeF_step s k hk, if_neg (by omega), if_neg (by omega), if_pos ⟨hb, h0⟩]
  rfl

theorem takeInv_done {s : List UInt8} {k acc : Nat} (h : TakeInv s k acc) (hk : k < s.length) (h9 : ¬ (k = 9 ∧ 1 < (s[k]).toNat)) (hb : (s[k]).toNat < 128) (h0 : ¬ ((s[k]).toNat = 0 ∧ 0 < k)) :
    takeL s = some (acc + (s[k]).toNat * 128 ^ k, s.drop (k + 1)) := by
  obtain ⟨_, h2, _, h4⟩ := h
  rw [h4, takeF_step s k hk, if_neg h9, if_neg (by omega), if_neg h0]
  rfl

theorem takeInv_step {s : List UInt8} {k acc : Nat} (h : TakeInv s k acc) (hk : k < s.length) (h9 : ¬ (k = 9 ∧ 1 < (s[k]).toNat)) (hb : 128 ≤ (s[k]).toNat) :
    TakeInv s (k + 1) (acc + ((s[k]).toNat - 128) * 128 ^ k) := by
  obtain ⟨h1, h2, h3, h4⟩ := h
  have hlt : (s[k]).toNat < 256 := UInt8.toNat_lt _
  have hk9 : k ≠ 9 := fun e => h9 ⟨e, by omega⟩
  have hp : 0 < 128 ^ k := Nat.pow_pos (by omega)
  refine ⟨by omega, by omega, ?_, ?_⟩
  · rw [Nat.pow_succ]
    have : ((s[k]).toNat - 128) * 128 ^ k ≤ 127 * 128 ^ k := Nat.mul_le_mul_right _ (by omega)
    omega
  · rw [h4, takeF_step s k hk, if_neg h9, if_pos hb, Option.map_map]
    congr 1
    funext x
    simp only [Function.comp, Prod.mk.injEq, and_true]
    rw [Nat.add_mul, Nat.pow_succ, Nat.add_assoc]
    congr 2
    rw [Nat.mul_comm 128 x.1, Nat.mul_assoc, Nat.mul_comm 128 (128 ^ k)]

theorem pow7 (k : Nat) : 2 ^ (7 * k) = 128 ^ k := by rw [Nat.pow_mul]

theorem pow7i (k : Nat) : (2 : Int) ^ (7 * k) = ((128 ^ k : Nat) : Int) := by
  rw [← pow7]; norm_cast

theorem sum_step {k acc b : Nat} (hk : k ≤ 8) (ha : acc < 128 ^ k) (h1 : 128 ≤ b) (h2 : b < 256) :
    IntKind.u64.wrap ((acc : Int) + IntKind.u64.wrap (((b : Int) - 128) * 2 ^ (7 * k))) = ((acc + (b - 128) * 128 ^ k : Nat) : Int) := by
  rw [pow7i, show ((b : Int) - 128) = ((b - 128 : Nat) : Int) by omega, ← Int.natCast_mul]
  have hp : 128 ^ k ≤ 128 ^ 8 := Nat.pow_le_pow_right (by omega) hk
  have hq : (b - 128) * 128 ^ k ≤ 127 * 128 ^ 8 := Nat.mul_le_mul (by omega) hp
  have e : (128 : Nat) ^ 8 = 72057594037927936 := by decide
  rw [e] at hp hq
  generalize (b - 128) * 128 ^ k = q at *
  generalize 128 ^ k = p at *
  rw [IsU64.wrap (n := q) (by unfold IsU64; omega), ← Int.natCast_add, IsU64.wrap (by unfold IsU64; omega)]

theorem sum_last {k acc b : Nat} (hk : k ≤ 9) (ha : acc < 128 ^ k) (h9 : ¬ (k = 9 ∧ 1 < b)) (h2 : b < 128) :
    acc + b * 128 ^ k < 18446744073709551616 := by
  by_cases h : k = 9
  · have hb : b * 128 ^ k ≤ 1 * 128 ^ k := Nat.mul_le_mul_right _ (by omega)
    have e : (128 : Nat) ^ 9 = 9223372036854775808 := by decide
    subst h
    rw [e] at ha hb ⊢
    omega
  · have hp : 128 ^ k ≤ 128 ^ 8 := Nat.pow_le_pow_right (by omega) (by omega)
    have hq : b * 128 ^ k ≤ 127 * 128 ^ 8 := Nat.mul_le_mul (by omega) hp
    have e : (128 : Nat) ^ 8 = 72057594037927936 := by decide
    rw [e] at hp hq
    omega

theorem sum_end {k acc b : Nat} (hk : k ≤ 9) (ha : acc < 128 ^ k) (h9 : ¬ (k = 9 ∧ 1 < b)) (h2 : b < 128) :
    IntKind.u64.wrap ((acc : Int) + IntKind.u64.wrap ((b : Int) * 2 ^ (7 * k))) = ((acc + b * 128 ^ k : Nat) : Int) := by
  have h := sum_last hk ha h9 h2
  rw [pow7i, ← Int.natCast_mul, IsU64.wrap (n := b * 128 ^ k) (by unfold IsU64; omega), ← Int.natCast_add, IsU64.wrap (by unfold IsU64; omega)]

/-- What is taken is a number of 64 bits. -/
theorem takeF_bound : ∀ (l : List UInt8) (i m : Nat) (t : List UInt8), i ≤ 9 → takeF i l = some (m, t) → m < 2 * 128 ^ (9 - i)
  | [], _, _, _, _, h => by simp [takeF] at h
  | b :: r, i, m, t, hi, h => by
    unfold takeF at h
    have hb : b.toNat < 256 := UInt8.toNat_lt _
    have hp : 0 < 128 ^ (9 - i) := Nat.pow_pos (by omega)
    split at h
    · cases h
    · rename_i h9
      split at h
      · rename_i h128
        have hi9 : i ≠ 9 := fun e => h9 ⟨e, by omega⟩
        cases hx : takeF (i + 1) r with
        | none => rw [hx] at h; cases h
        | some x =>
          obtain ⟨m', t'⟩ := x
          rw [hx] at h
          simp at h
          obtain ⟨rfl, rfl⟩ := h
          have := takeF_bound r (i + 1) m' t' (by omega) hx
          have e : 128 ^ (9 - i) = 128 * 128 ^ (9 - (i + 1)) := by
            rw [show 9 - i = (9 - (i + 1)) + 1 by omega, Nat.pow_succ, Nat.mul_comm]
          omega
      · split at h
        · cases h
        · simp at h
          obtain ⟨rfl, rfl⟩ := h
          by_cases h9' : i = 9
          · have : ¬ 1 < b.toNat := fun e => h9 ⟨h9', e⟩
            omega
          · have e : 128 ^ (9 - i) = 128 * 128 ^ (9 - (i + 1)) := by
              rw [show 9 - i = (9 - (i + 1)) + 1 by omega, Nat.pow_succ, Nat.mul_comm]
            have hp' : 0 < 128 ^ (9 - (i + 1)) := Nat.pow_pos (by omega)
            omega

theorem takeL_u64 {l : List UInt8} {m : Nat} {t : List UInt8} (h : takeL l = some (m, t)) : IsU64 m := by
  have := takeF_bound l 0 m t (by omega) h
  have e : (128 : Nat) ^ 9 = 9223372036854775808 := by decide
  unfold IsU64
  simp only [Nat.sub_zero, e] at this
  omega

/-- What was packed is taken, whatever stands behind. -/
theorem takeF_numF (s : List UInt8) : ∀ (f n i : Nat), i + f = 9 → n < 2 * 128 ^ f → (0 < i → 0 < n) → takeF i (numF f n ++ s) = some (n, s)
  | 0, n, i, hi, hn, h0 => by
    obtain rfl : i = 9 := by omega
    have hn' : n < 2 := by simpa using hn
    have h0' := h0 (by omega)
    have hb : (UInt8.ofNat n).toNat = n := by rw [UInt8.toNat_ofNat']; omega
    simp only [numF, List.cons_append, List.nil_append, takeF, hb]
    rw [if_neg (by omega), if_neg (by omega), if_neg (by omega)]
  | f + 1, n, i, hi, hn, h0 => by
    by_cases h : n < 128
    · have hb : (UInt8.ofNat n).toNat = n := by rw [UInt8.toNat_ofNat']; omega
      rw [numF_small _ _ h]
      simp only [List.cons_append, List.nil_append, takeF, hb]
      rw [if_neg (by omega), if_neg (by omega), if_neg (by omega)]
    · have hb : (UInt8.ofNat (128 + n % 128)).toNat = 128 + n % 128 := by rw [UInt8.toNat_ofNat']; omega
      rw [numF_big _ _ (by omega)]
      simp only [List.cons_append, takeF, hb]
      rw [if_neg (by omega), if_pos (by omega), takeF_numF s f (n / 128) (i + 1) (by omega) (by rw [Nat.pow_succ] at hn; omega) (by omega)]
      simp only [Option.map_some, Option.some.injEq, Prod.mk.injEq, and_true]
      omega

theorem takeL_numL (n : Nat) (h : IsU64 n) (s : List UInt8) : takeL (numL n ++ s) = some (n, s) := by
  unfold IsU64 at h
  exact takeF_numF s 9 n 0 (by omega) (by simpa using h) (by omega)

/-- What is taken has the very bytes. -/
theorem numF_takeF : ∀ (l : List UInt8) (i m : Nat) (t : List UInt8), i ≤ 9 → takeF i l = some (m, t) → numF (9 - i) m ++ t = l ∧ (0 < i → 0 < m)
  | [], _, _, _, _, h => by simp [takeF] at h
  | b :: r, i, m, t, hi, h => by
    unfold takeF at h
    have hb : b.toNat < 256 := UInt8.toNat_lt _
    have hbb : UInt8.ofNat b.toNat = b := by simp
    split at h
    · cases h
    · rename_i h9
      split at h
      · rename_i h128
        have hi9 : i ≠ 9 := fun e => h9 ⟨e, by omega⟩
        cases hx : takeF (i + 1) r with
        | none => rw [hx] at h; cases h
        | some x =>
          obtain ⟨m', t'⟩ := x
          rw [hx] at h
          simp at h
          obtain ⟨rfl, rfl⟩ := h
          obtain ⟨h1, h2⟩ := numF_takeF r (i + 1) m' t' (by omega) hx
          have h2' := h2 (by omega)
          refine ⟨?_, fun _ => by omega⟩
          rw [show 9 - i = (9 - (i + 1)) + 1 by omega, numF_big _ _ (by omega), show (b.toNat - 128 + 128 * m') / 128 = m' by omega, List.cons_append, h1]
          rw [show 128 + (b.toNat - 128 + 128 * m') % 128 = b.toNat by omega, hbb]
      · split at h
        · cases h
        · rename_i h128 h0
          simp at h
          obtain ⟨rfl, rfl⟩ := h
          exact ⟨by rw [numF_small _ _ (by omega), hbb]; rfl, fun h => by omega⟩

theorem numL_takeL {l : List UInt8} {m : Nat} {t : List UInt8} (h : takeL l = some (m, t)) : numL m ++ t = l := (numF_takeF l 0 m t (by omega) h).1

theorem takeL_len {l : List UInt8} {m : Nat} {t : List UInt8} (h : takeL l = some (m, t)) : t.length ≤ l.length := by
  rw [← numL_takeL h]; simp

/-- Back to a number with a sign. -/
def unzig (m : Nat) : Int := if m % 2 = 1 then -((m / 2 : Nat) : Int) - 1 else ((m / 2 : Nat) : Int)

theorem zig_unzig (m : Nat) : zig (unzig m) = m := by
  unfold unzig zig
  split <;> split <;> omega

theorem unzig_zig (n : Int) : unzig (zig n) = n := by
  unfold unzig zig
  split <;> split <;> omega

theorem unzig_i64 {m : Nat} (h : IsU64 m) : IsI64 (unzig m) := by
  unfold IsU64 at h; unfold IsI64 unzig; split <;> omega

/-- The text, of so many bytes at most, with which a list begins. -/
def textL (l : List UInt8) (most : Int) : Option (List UInt8 × List UInt8) :=
  match takeL l with
  | none => none
  | some (n, t) => if most < 0 ∨ most < (n : Int) ∨ t.length < n then none else some (t.take n, t.drop n)

theorem textL_text (t s : List UInt8) (h : t.length < 9223372036854775808) : textL (numL t.length ++ t ++ s) t.length = some (t, s) := by
  unfold textL
  rw [List.append_assoc, takeL_numL _ (IsU64.small h)]
  simp

theorem textL_short (t s : List UInt8) (h : t.length < 9223372036854775808) : textL (numL t.length ++ t ++ s) ((t.length : Int) - 1) = none := by
  unfold textL
  rw [List.append_assoc, takeL_numL _ (IsU64.small h)]
  simp only
  rw [if_pos (by omega)]

theorem text_textL {l : List UInt8} {most : Int} {a b : List UInt8} (h : textL l most = some (a, b)) : numL a.length ++ a ++ b = l ∧ (a.length : Int) ≤ most ∧ a.length ≤ l.length := by
  unfold textL at h
  cases hx : takeL l with
  | none => rw [hx] at h; cases h
  | some x =>
    obtain ⟨n, t⟩ := x
    rw [hx] at h
    simp only at h
    split at h
    · cases h
    · rename_i hc
      simp at h
      obtain ⟨rfl, rfl⟩ := h
      have hl := takeL_len hx
      have e : (t.take n).length = n := by simp; omega
      rw [e, List.append_assoc, List.take_append_drop]
      exact ⟨numL_takeL hx, by omega, by omega⟩

end Go.Proofs.Ythobfeohgeeofaa.PackMath

/-
  Small facts that every layer's walks use. No function of the program is named here.
-/
namespace Go.Proofs.Ythobfeohgeeofaa
open Go.RowKit

/-- One call behind another. -/
theorem below_step {a b c : World} (h : Below a.heap.size a b) (k : Below b.heap.size b c) : Below a.heap.size a c := h.trans (k.mono h.size)

theorem below_drewN' {B : Nat} {a w : World} (h : Below B a w) (n : Nat) : Below B a (w.drewN n) := ⟨h.os, h.tape, h.output, h.size, h.block⟩

theorem below_alloc_call {w w1 : World} {o : Obj} (hb : Below ((w.alloc o).drew).heap.size (w.alloc o).drew w1) : Below w.heap.size w w1 :=
  (((Below.refl _ w).alloc (Nat.le_refl _) o).drew).trans (hb.mono (by show w.heap.size ≤ (w.alloc o).heap.size; simp))

theorem below_call_alloc {w w1 : World} (hb : Below w.drew.heap.size w.drew w1) (o : Obj) : Below w.heap.size w (w1.alloc o) :=
  (((Below.refl _ w).drew).trans hb).alloc hb.size o

/-- Nothing below the call's first block has turned (a plain word, which the walk does not open). -/
def KeptFrom (w W : World) : Prop := Below w.heap.size w W

theorem kept_call {w W W' : World} {a : Addr} {v : Value} (hb : Below W.heap.size W W') (h : W.cell? a = some v ∧ KeptFrom w W) : W'.cell? a = some v ∧ KeptFrom w W' :=
  ⟨cell_later hb h.1, below_step h.2 hb⟩

theorem kept_call2 {w W W' : World} {a b : Addr} {u v : Value} (hb : Below W.heap.size W W') (h : (W.cell? a = some u ∧ W.cell? b = some v) ∧ KeptFrom w W) : (W'.cell? a = some u ∧ W'.cell? b = some v) ∧ KeptFrom w W' :=
  ⟨⟨cell_later hb h.1.1, cell_later hb h.1.2⟩, below_step h.2 hb⟩

theorem kept_call4 {w W W' : World} {a b c d : Addr} {u v x y : Value} (hb : Below W.heap.size W W') (h : (W.cell? a = some u ∧ W.cell? b = some v ∧ W.cell? c = some x ∧ W.cell? d = some y) ∧ KeptFrom w W) :
    (W'.cell? a = some u ∧ W'.cell? b = some v ∧ W'.cell? c = some x ∧ W'.cell? d = some y) ∧ KeptFrom w W' :=
  ⟨⟨cell_later hb h.1.1, cell_later hb h.1.2.1, cell_later hb h.1.2.2.1, cell_later hb h.1.2.2.2⟩, below_step h.2 hb⟩

theorem kept_below {w W : World} (h : KeptFrom w W) : Below w.heap.size w W := h

theorem heap_lt {w : World} {g : Nat} {o : Obj} (h : w.heap[g]? = some o) : g < w.heap.size := (Array.getElem?_eq_some_iff.1 h).1

/-- Behind a call all that was there reads as before. -/
theorem bcell_below {W w1 : World} (hb : Below W.heap.size W w1) : (∀ b o, b < W.heap.size → w1.cell? ⟨b, o, none⟩ = W.cell? ⟨b, o, none⟩) ∧ (∀ b o, b < W.heap.size → w1.frozen? ⟨b, o, none⟩ = W.frozen? ⟨b, o, none⟩) :=
  ⟨fun b o h => hb.cell (p := ⟨b, o, none⟩) h, fun b o h => hb.frozen (p := ⟨b, o, none⟩) h⟩

/-- Bytes as cells. -/
def bcell (b : UInt8) : Value := .int .u8 (b.toNat : Int)

theorem one_cell (k : IntKind) (n : Int) : ∀ u ∈ [Value.int k n], u.oneCell' = true := by
  intro u hu
  simp at hu
  subst hu
  rfl

theorem new_cell (w : World) (x : Value) (t : TypeId) : ((w.alloc (.cells #[x] t)).drew).cell? ⟨w.heap.size, 0, none⟩ = some x := cell_one_new w x t 0 x rfl

theorem mk_append_data (l : List UInt8) (s : ByteArray) : (⟨l.toArray⟩ : ByteArray) ++ s = ⟨(l ++ s.data.toList).toArray⟩ := by
  apply ByteArray.ext
  simp [ByteArray.data_append]

theorem extract_rest (s : ByteArray) (k : Nat) : s.extract k s.size = ⟨(s.data.toList.drop k).toArray⟩ := by
  rw [Lib.extract_eq, List.take_of_length_le (by rw [List.length_drop, Lib.size_eq]; exact Nat.le_refl _)]

theorem extract_take (s : ByteArray) (k : Nat) : s.extract 0 k = ⟨(s.data.toList.take k).toArray⟩ := by
  rw [Lib.extract_eq]; simp

theorem data_get {s : ByteArray} {k : Nat} (h : k < s.size) : s.data.toList[k]'(by simpa using h) = s[k] := by simp; rfl

theorem take_next (s : ByteArray) (k : Nat) (h : k < s.size) : s.data.toList.take (k + 1) = s.data.toList.take k ++ [s[k]] := by
  rw [List.take_succ_eq_append_getElem (by simpa using h)]; rfl

theorem byte_of_int {n : Int} (h : 0 ≤ n ∧ n ≤ 255) : ∃ y : UInt8, n = (y.toNat : Int) :=
  ⟨UInt8.ofNat n.toNat, by rw [UInt8.toNat_ofNat_of_lt' (show n.toNat < 256 by omega)]; omega⟩

theorem nat_of_int {n m : Int} (h : 0 ≤ n ∧ n ≤ m) : ∃ k : Nat, n = (k : Int) ∧ (k : Int) ≤ m := ⟨n.toNat, by omega, by omega⟩

end Go.Proofs.Ythobfeohgeeofaa

/-
  Plain mathematics of layer 3: stamps in their order. It needs no program.
-/
namespace Go.Proofs.Ythobfeohgeeofaa.StampMath
open PackMath

/-- A stamp as a value. -/
def sv (t r : Int) : Value := .agg #[.int .i64 t, .int .i64 r]

/-- Is one ahead of another one? -/
def lessB (t r t' r' : Int) : Bool := decide (t < t') || (t == t' && decide (r < r'))

/-- -1, 0, 1. -/
def cmp (t r t' r' : Int) : Int := if lessB t r t' r' then -1 else if lessB t' r' t r then 1 else 0

/-- May it be? -/
def mayB (t r : Int) : Bool := if t = 0 then r == 0 else decide (1 ≤ t) && decide (t ≤ 1073741824) && decide (0 ≤ r) && decide (r ≤ 7)

theorem lessB_iff (t r t' r' : Int) : lessB t r t' r' = true ↔ t < t' ∨ t = t' ∧ r < r' := by
  simp [lessB]

theorem cmp_cases (t r t' r' : Int) : (cmp t r t' r' = -1 ∧ (t < t' ∨ t = t' ∧ r < r')) ∨ (cmp t r t' r' = 1 ∧ (t' < t ∨ t' = t ∧ r' < r)) ∨ (cmp t r t' r' = 0 ∧ t = t' ∧ r = r') := by
  unfold cmp
  have h1 := lessB_iff t r t' r'
  have h2 := lessB_iff t' r' t r
  by_cases a : lessB t r t' r' = true
  · rw [if_pos a]; exact Or.inl ⟨rfl, h1.1 a⟩
  · rw [if_neg a]
    by_cases b : lessB t' r' t r = true
    · rw [if_pos b]; exact Or.inr (Or.inl ⟨rfl, h2.1 b⟩)
    · rw [if_neg b]
      refine Or.inr (Or.inr ⟨rfl, ?_⟩)
      have h1' : ¬ (t < t' ∨ t = t' ∧ r < r') := fun h => a (h1.2 h)
      have h2' : ¬ (t' < t ∨ t' = t ∧ r' < r) := fun h => b (h2.2 h)
      omega

theorem mayB_iff (t r : Int) : mayB t r = true ↔ (t = 0 ∧ r = 0) ∨ (1 ≤ t ∧ t ≤ 1073741824 ∧ 0 ≤ r ∧ r ≤ 7) := by
  unfold mayB
  by_cases h : t = 0
  · rw [if_pos h]; simp; omega
  · rw [if_neg h]; simp; omega

theorem cmp_turn (t r t' r' : Int) : cmp t' r' t r = -cmp t r t' r' := by
  have h1 := cmp_cases t r t' r'
  have h2 := cmp_cases t' r' t r
  omega

theorem cmp_range (t r t' r' : Int) : cmp t r t' r' = -1 ∨ cmp t r t' r' = 0 ∨ cmp t r t' r' = 1 := by
  have h1 := cmp_cases t r t' r'
  omega

theorem cmp_zero (t r t' r' : Int) : (cmp t r t' r' == 0) = (t == t' && r == r') := by
  have h1 := cmp_cases t r t' r'
  rw [Bool.eq_iff_iff, Bool.and_eq_true, beq_iff_eq, beq_iff_eq, beq_iff_eq]
  omega

theorem cmp_trans (t r t' r' t'' r'' : Int) : (cmp t r t' r' ≤ 0 → cmp t' r' t'' r'' ≤ 0 → cmp t r t'' r'' ≤ 0) ∧ (cmp t r t' r' < 0 → cmp t' r' t'' r'' < 0 → cmp t r t'' r'' < 0) := by
  have h1 := cmp_cases t r t' r'
  have h2 := cmp_cases t' r' t'' r''
  have h3 := cmp_cases t r t'' r''
  omega

/-- The greatest of some; of none the zero one. -/
def maxL : List (Int × Int) → Int × Int
  | [] => (0, 0)
  | x :: r => r.foldl (fun m y => if lessB m.1 m.2 y.1 y.2 then y else m) x

theorem maxL_step (xs : List (Int × Int)) (k : Nat) (h : k < xs.length) :
    maxL (xs.take (k + 1)) = if k = 0 then xs[k] else if lessB (maxL (xs.take k)).1 (maxL (xs.take k)).2 xs[k].1 xs[k].2 then xs[k] else maxL (xs.take k) := by
  rw [List.take_succ_eq_append_getElem h]
  by_cases h0 : k = 0
  · subst h0
    rw [if_pos rfl]
    rfl
  · rw [if_neg h0]
    cases hx : xs.take k with
    | nil =>
      exfalso
      have := congrArg List.length hx
      rw [List.length_take, List.length_nil] at this
      omega
    | cons y r =>
      show (r ++ [xs[k]]).foldl _ y = _
      rw [List.foldl_append]
      rfl

end Go.Proofs.Ythobfeohgeeofaa.StampMath

/-
  Plain mathematics of layer 9: graphs as lists of inodes and of entries; what each call makes of one. It needs no program.
-/
namespace Go.Proofs.Ythobfeohgeeofaa.GraphMath
open StampMath

abbrev St := Int × Int

structure Ino where
  id : St
  kind : Int
  links : Int
  mode : Int
  data : ByteArray
deriving DecidableEq

structure Ent where
  dir : St
  name : ByteArray
  ino : St
deriving DecidableEq

structure Gr where
  I : List Ino
  E : List Ent

def stA (s : St) : Array Value := #[.int .i64 s.1, .int .i64 s.2]
def inoA (x : Ino) : Array Value := #[.int .i64 x.id.1, .int .i64 x.id.2, .int .i64 x.kind, .int .i64 x.links, .int .i64 x.mode, .string x.data]
def entA (e : Ent) : Array Value := #[.int .i64 e.dir.1, .int .i64 e.dir.2, .string e.name, .int .i64 e.ino.1, .int .i64 e.ino.2]

/-- No inode. -/
def noIno : Ino := ⟨(0, 0), 0, 0, 0, ⟨#[]⟩⟩

def newG : Gr := ⟨[⟨(0, 0), 1, 0, 0, ⟨#[]⟩⟩], []⟩

/-- How many entries are of an inode. -/
def linksE (E : List Ent) (id : St) : Nat := (E.filter fun e => decide (e.ino = id)).length

def getG (g : Gr) (id : St) : Option Ino := (g.I.find? fun x => decide (x.id = id)).map fun x => { x with links := (linksE g.E id : Int) }

def inodesG (g : Gr) : List Ino := g.I.map fun x => (getG g x.id).getD noIno

def lookE (E : List Ent) (d : St) (nm : ByteArray) : Option St := (E.find? fun e => decide (e.dir = d) && decide (e.name = nm)).map fun e => e.ino

def listE (E : List Ent) (d : St) : List Ent := E.filter fun e => decide (e.dir = d)

def parentG (g : Gr) (d : St) : Option St :=
  match getG g d with
  | none => none
  | some x => if x.kind = 1 then (g.E.find? fun e => decide (e.ino = d)).map fun e => e.dir else none

/-- Is id dir, or below it, by so many steps? -/
def underN (g : Gr) : Nat → St → St → Bool
  | 0, _, _ => false
  | n + 1, id, d => if id = d then true else match parentG g id with
    | none => false
    | some up => underN g n up d

def underG (g : Gr) (id d : St) : Bool := underN g (g.I.length + 1) id d

/-- Is one stamp ahead of another one? -/
def lessS (a b : St) : Bool := lessB a.1 a.2 b.1 b.2

/-- Is one entry ahead of another one? -/
def aheadE (a b : Ent) : Bool := lessS a.dir b.dir || (decide (a.dir = b.dir) && decide (a.name.data.toList < b.name.data.toList))

/-- Something more, behind all that is ahead of it. -/
def putIn {α : Type} (f : α → Bool) (l : List α) (x : α) : List α := l.takeWhile f ++ x :: l.dropWhile f

def makeG (g : Gr) (id : St) (kind : Int) : Gr × Int :=
  if mayB id.1 id.2 = false ∨ kind < 1 ∨ 3 < kind then (g, 1)
  else if (getG g id).isSome then (g, 4)
  else if 40 ≤ g.I.length then (g, 13)
  else (⟨putIn (fun x => lessS x.id id) g.I ⟨id, kind, 0, 0, ⟨#[]⟩⟩, g.E⟩, 0)

/-- Why an entry can't be; 0: it can. (nameOk: is its name one?) -/
def whyG (nameOk : Bool) (g : Gr) (e : Ent) : Int :=
  if nameOk = false then 1
  else match getG g e.dir, getG g e.ino with
    | some a, some x =>
      if a.kind ≠ 1 then 6
      else if (lookE g.E e.dir e.name).isSome then 4
      else if x.kind = 1 ∧ (e.ino = (0, 0) ∨ underG g e.dir e.ino = true) then 8
      else if x.kind = 1 ∧ 0 < x.links ∨ 6 ≤ x.links then 12
      else 0
    | _, _ => 3

def tieG (nameOk : Bool) (g : Gr) (e : Ent) : Gr × Int :=
  if whyG nameOk g e = 0 then (⟨g.I, putIn (fun a => aheadE a e) g.E e⟩, 0) else (g, whyG nameOk g e)

def untieG (g : Gr) (d : St) (nm : ByteArray) : Gr × St × Int :=
  match lookE g.E d nm with
  | none => (g, (0, 0), 3)
  | some id => (⟨g.I, g.E.filter fun e => !(decide (e.dir = d) && decide (e.name = nm))⟩, id, 0)

def dropG (g : Gr) (id : St) : Gr × Int :=
  match getG g id with
  | none => (g, 3)
  | some x => if id = (0, 0) then (g, 8) else if 0 < x.links ∨ 0 < (listE g.E id).length then (g, 7) else (⟨g.I.filter fun x => !decide (x.id = id), g.E⟩, 0)

def setG (g : Gr) (id : St) (mode : Int) (data : ByteArray) : Gr × Int :=
  match getG g id with
  | none => (g, 3)
  | some _ => (⟨g.I.map fun x => if x.id = id then { x with mode := mode, data := data } else x, g.E⟩, 0)

theorem linksE_snoc (E : List Ent) (k : Nat) (h : k < E.length) (id : St) : linksE (E.take (k + 1)) id = if E[k].ino = id then linksE (E.take k) id + 1 else linksE (E.take k) id := by
  unfold linksE
  rw [List.take_succ_eq_append_getElem h, List.filter_append]
  by_cases e : E[k].ino = id
  · rw [if_pos e]; simp [e]
  · rw [if_neg e]; simp [e]

theorem linksE_le (E : List Ent) (id : St) : linksE E id ≤ E.length := List.length_filter_le _ _

theorem find_none_take {α : Type} {p : α → Bool} {l : List α} {k : Nat} (h : k < l.length) (hn : (l.take k).find? p = none) : (l.take (k + 1)).find? p = if p l[k] then some l[k] else none := by
  rw [List.take_succ_eq_append_getElem h, List.find?_append, hn]
  cases hp : p l[k] <;> simp [hp]

theorem find_take {α : Type} {p : α → Bool} {l : List α} {k : Nat} {x : α} (h : (l.take k).find? p = some x) : l.find? p = some x := by
  rw [← List.take_append_drop k l, List.find?_append, h]
  rfl

end Go.Proofs.Ythobfeohgeeofaa.GraphMath
