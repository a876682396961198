/-
  Plain mathematics of layer 1: numbers as bytes in sevens of bits. It imports no program.
-/
import Derived.WalkKit
import Derived.WalkSpells
import Derived.WalkLawsBesides
import Derived.Lib.Hide
import Derived.Lib.Strings
import Derived.Deep.Draws
import Derived.Deep.AppendLies
import Derived.Maps.RangeWalk
import Derived.WideKeyRuns
namespace Go.Proofs.YtbkijfhfjhpebaaGreatDoor.PackMath

/-- A number of 64 bits (behind a name: the numeral is long). -/
def IsU64 (n : Nat) : Prop := n < 18446744073709551616

theorem IsU64.of_le {m n : Nat} (h : IsU64 n) (hm : m ≤ n) : IsU64 m := Nat.lt_of_le_of_lt hm h
theorem IsU64.small {n : Nat} (h : n < 9223372036854775808) : IsU64 n := by unfold IsU64; omega
theorem IsU64.wrap {n : Nat} (h : IsU64 n) : IntKind.u64.wrap (n : Int) = n := IntWalk.u64_in _ (by unfold IsU64 at h; omega)
theorem IsU64.quo {n : Nat} (k : Nat) (h : IsU64 n) : IntKind.u64.wrap ((n : Int) / (k : Int)) = ((n / k : Nat) : Int) := by
  rw [← Int.natCast_ediv]
  exact (h.of_le (Nat.div_le_self n k)).wrap

theorem IsU64.half {n : Nat} (h : IsU64 n) : RowKit.wrap64 ((n : Int) / 2) = ((n / 2 : Nat) : Int) := by
  rw [IntWalk.wrap64_in _ (by unfold IsU64 at h; omega)]; omega

/-- A number of 64 bits with a sign. -/
def IsI64 (n : Int) : Prop := -9223372036854775808 ≤ n ∧ n ≤ 9223372036854775807

/-- A number with a sign as one without: those near 0 are short. -/
def zig (n : Int) : Nat := if n < 0 then (-2 * n - 1).toNat else (2 * n).toNat

theorem half_i64 {n : Nat} (h : IsU64 n) : IsI64 ((n / 2 : Nat) : Int) := by unfold IsU64 at h; unfold IsI64; omega
theorem half_i64' {n : Nat} (h : IsU64 n) : IsI64 (-((n / 2 : Nat) : Int) - 1) := by unfold IsU64 at h; unfold IsI64; omega
theorem zig_nat (i : Nat) : zig (i : Int) = 2 * i := by unfold zig; rw [if_neg (by omega)]; omega
theorem zig_opp (i : Nat) : zig (-(i : Int) - 1) = 2 * i + 1 := by unfold zig; rw [if_pos (by omega)]; omega

theorem zig_u64 {n : Int} (h : IsI64 n) : IsU64 (zig n) := by
  unfold IsI64 at h; unfold IsU64 zig; split <;> omega

theorem wrap_u64 (n : Int) : IntKind.u64.wrap n = n % 18446744073709551616 := by
  simp [IntKind.wrap, IntKind.bits, IntKind.signed]

theorem zig_neg {n : Int} (h : IsI64 n) (h0 : n < 0) :
    IntKind.u64.wrap (IntKind.u64.wrap (-IntKind.u64.wrap (2 * IntKind.u64.wrap n)) - 1) = (zig n : Int) := by
  simp only [wrap_u64]
  unfold IsI64 at h
  unfold zig
  rw [if_pos h0]
  omega

theorem zig_pos {n : Int} (h : IsI64 n) (h0 : ¬ n < 0) : IntKind.u64.wrap (2 * IntKind.u64.wrap n) = (zig n : Int) := by
  simp only [wrap_u64]
  unfold IsI64 at h
  unfold zig
  rw [if_neg h0]
  omega

/-- The bytes of n, with at most f bytes ahead of the last one. -/
def numF : Nat → Nat → List UInt8
  | 0, n => [UInt8.ofNat n]
  | f + 1, n => if n < 128 then [UInt8.ofNat n] else UInt8.ofNat (128 + n % 128) :: numF f (n / 128)

/-- The bytes of a number of 64 bits. -/
def numL (n : Nat) : List UInt8 := numF 9 n

theorem numF_small (f n : Nat) (h : n < 128) : numF f n = [UInt8.ofNat n] := by
  cases f with
  | zero => rfl
  | succ f => simp [numF, h]

theorem numF_big (f n : Nat) (h : 128 ≤ n) : numF (f + 1) n = UInt8.ofNat (128 + n % 128) :: numF f (n / 128) := by
  simp [numF, Nat.not_lt.2 h]

theorem numF_length_le (f n : Nat) : 1 ≤ (numF f n).length ∧ (numF f n).length ≤ f + 1 := by
  induction f generalizing n with
  | zero => simp [numF]
  | succ f ih =>
    unfold numF
    split
    · simp
    · have := ih (n / 128)
      simp; omega

theorem numL_length (n : Nat) : 1 ≤ (numL n).length ∧ (numL n).length ≤ 10 := numF_length_le 9 n

/-- What the loop carries: the bytes that are laid, the number that is left, and how many bytes may follow. -/
def NumLeft (n : Nat) (xs : List UInt8) (m f : Nat) : Prop := xs.length + f = 9 ∧ m < 2 * 128 ^ f ∧ xs ++ numF f m = numL n

theorem left_start (n : Nat) (h : IsU64 n) : NumLeft n [] n 9 := ⟨by simp, by unfold IsU64 at h; simpa using h, rfl⟩

theorem left_step (n : Nat) (xs : List UInt8) (m f : Nat) (h : NumLeft n xs m f) (hm : 128 ≤ m) :
    ∃ g, f = g + 1 ∧ NumLeft n (xs ++ [UInt8.ofNat (128 + m % 128)]) (m / 128) g := by
  obtain ⟨h1, h2, h3⟩ := h
  cases f with
  | zero => simp at h2; omega
  | succ g =>
    refine ⟨g, rfl, ?_, ?_, ?_⟩
    · simp; omega
    · rw [Nat.pow_succ] at h2; omega
    · rw [← h3, numF_big g m hm]; simp

theorem left_end (n : Nat) (xs : List UInt8) (m f : Nat) (h : NumLeft n xs m f) (hm : m < 128) : xs ++ [UInt8.ofNat m] = numL n := by
  obtain ⟨h1, h2, h3⟩ := h
  rw [← h3, numF_small f m hm]

theorem left_len (n : Nat) (xs : List UInt8) (m f : Nat) (h : NumLeft n xs m f) : xs.length ≤ 9 := by
  have := h.1; omega

theorem toNat_low (m : Nat) (h : m < 128) : ((UInt8.ofNat m).toNat : Int) = (m : Int) := by
  rw [UInt8.toNat_ofNat']; omega

theorem toNat_high (m : Nat) : ((UInt8.ofNat (128 + m % 128)).toNat : Int) = (m : Int) % 128 + 128 := by
  rw [UInt8.toNat_ofNat']; omega

/-! ### How many bytes -/

theorem numF_length (f n : Nat) : (numF (f + 1) n).length = if n < 128 then 1 else 1 + (numF f (n / 128)).length := by
  by_cases h : n < 128
  · rw [if_pos h, numF_small _ _ h]; rfl
  · rw [if_neg h, numF_big _ _ (by omega), List.length_cons]; omega

/-- The fuel does not matter if it is enough. -/
theorem numF_more (f n : Nat) (h : n < 2 * 128 ^ f) : numF (f + 1) n = numF f n := by
  induction f generalizing n with
  | zero => simp at h; rw [numF_small _ _ (by omega), numF_small _ _ (by omega)]
  | succ f ih =>
    by_cases h1 : n < 128
    · rw [numF_small _ _ h1, numF_small _ _ h1]
    · rw [numF_big (f + 1) n (by omega), numF_big f n (by omega)]
      rw [ih _ (by rw [Nat.pow_succ] at h; omega)]

theorem numL_len_small {n : Nat} (h : n < 128) : (numL n).length = 1 := by rw [numL, numF_small _ _ h]; rfl

theorem numL_len_big {n : Nat} (hn : IsU64 n) (h : 128 ≤ n) : (numL n).length = (numL (n / 128)).length + 1 := by
  unfold IsU64 at hn
  have e : numL (n / 128) = numF 8 (n / 128) := numF_more 8 (n / 128) (by simp; omega)
  rw [e, numL, numF_big 8 n h]
  simp

theorem numL_len_eq_one {n : Nat} (hn : IsU64 n) : (numL n).length = 1 ↔ n < 128 := by
  constructor
  · intro h
    by_cases h1 : n < 128
    · exact h1
    · rw [numL_len_big hn (by omega)] at h
      have := (numL_length (n / 128)).1
      omega
  · exact numL_len_small

theorem numL_len_pair (i : Nat) : (numL (2 * i)).length = (numL (2 * i + 1)).length := by
  show (numF (8 + 1) (2 * i)).length = (numF (8 + 1) (2 * i + 1)).length
  rw [numF_length 8 (2 * i), numF_length 8 (2 * i + 1), show (2 * i + 1) / 128 = 2 * i / 128 by omega]
  by_cases h : 2 * i < 128
  · rw [if_pos h, if_pos (by omega)]
  · rw [if_neg h, if_neg (by omega)]

theorem numL_len_u8 {k : Nat} (h : k < 256) : (numL k).length = 1 + k / 128 := by
  by_cases h1 : k < 128
  · rw [numL_len_small h1]; omega
  · rw [numL_len_big (IsU64.small (by omega)) (by omega), numL_len_small (by omega)]; omega

end Go.Proofs.YtbkijfhfjhpebaaGreatDoor.PackMath

/-
  Plain mathematics of layer 1: what a string begins with. It imports no program.
-/
namespace Go.Proofs.YtbkijfhfjhpebaaGreatDoor.PackMath

/-- The number with which a list of bytes begins, of which the first byte is the i-th one. -/
def takeF : Nat → List UInt8 → Option (Nat × List UInt8)
  | _, [] => none
  | i, b :: r =>
    if i = 9 ∧ 1 < b.toNat then none
    else if 128 ≤ b.toNat then (takeF (i + 1) r).map fun x => (b.toNat - 128 + 128 * x.1, x.2)
    else if b.toNat = 0 ∧ 0 < i then none else some (b.toNat, r)

def takeL (s : List UInt8) : Option (Nat × List UInt8) := takeF 0 s

/-- The three results. -/
def takeRes : Option (Nat × List UInt8) → Value
  | some (m, t) => .tuple #[.int .u64 (m : Int), .string ⟨t.toArray⟩, .int .i64 0]
  | none => .tuple #[.int .u64 0, .string ⟨#[]⟩, .int .i64 2]

/-- What the loop carries: the bytes that are gone through, and what they make. -/
def TakeInv (s : List UInt8) (k acc : Nat) : Prop :=
  k ≤ 9 ∧ k ≤ s.length ∧ acc < 128 ^ k ∧ takeL s = (takeF k (s.drop k)).map fun x => (acc + x.1 * 128 ^ k, x.2)

theorem takeInv_start (s : List UInt8) : TakeInv s 0 0 := by
  refine ⟨by omega, by omega, by omega, ?_⟩
  simp [takeL]

theorem takeF_step (s : List UInt8) (k : Nat) (h : k < s.length) : takeF k (s.drop k) =
    if k = 9 ∧ 1 < (s[k]).toNat then none
    else if 128 ≤ (s[k]).toNat then (takeF (k + 1) (s.drop (k + 1))).map fun x => ((s[k]).toNat - 128 + 128 * x.1, x.2)
    else if (s[k]).toNat = 0 ∧ 0 < k then none else some ((s[k]).toNat, s.drop (k + 1)) := by
  rw [List.drop_eq_getElem_cons h]
  rfl

theorem takeInv_over {s : List UInt8} {k acc : Nat} (h : TakeInv s k acc) (hk : s.length ≤ k) : takeL s = none := by
  obtain ⟨_, h2, _, h4⟩ := h
  rw [h4, List.drop_eq_nil_of_le hk]
  rfl

theorem takeInv_nine {s : List UInt8} {acc : Nat} (h : TakeInv s 9 acc) (hk : 9 < s.length) (hb : 1 < (s[9]).toNat) : takeL s = none := by
  obtain ⟨_, h2, _, h4⟩ := h
  rw [h4, takeF_step s 9 hk, if_pos ⟨rfl, hb⟩]
  rfl

theorem takeInv_zero {s : List UInt8} {k acc : Nat} (h : TakeInv s k acc) (hk : k < s.length) (h0 : 0 < k) (hb : (s[k]).toNat = 0) : takeL s = none := by
  obtain ⟨_, h2, _, h4⟩ := h
  rw [h4, takeF_step s k hk, if_neg (by omega), if_neg (by omega), if_pos ⟨hb, h0⟩]
  rfl

theorem takeInv_done {s : List UInt8} {k acc : Nat} (h : TakeInv s k acc) (hk : k < s.length) (h9 : ¬ (k = 9 ∧ 1 < (s[k]).toNat)) (hb : (s[k]).toNat < 128) (h0 : ¬ ((s[k]).toNat = 0 ∧ 0 < k)) :
    takeL s = some (acc + (s[k]).toNat * 128 ^ k, s.drop (k + 1)) := by
  obtain ⟨_, h2, _, h4⟩ := h
  rw [h4, takeF_step s k hk, if_neg h9, if_neg (by omega), if_neg h0]
  rfl

theorem takeInv_step {s : List UInt8} {k acc : Nat} (h : TakeInv s k acc) (hk : k < s.length) (h9 : ¬ (k = 9 ∧ 1 < (s[k]).toNat)) (hb : 128 ≤ (s[k]).toNat) :
    TakeInv s (k + 1) (acc + ((s[k]).toNat - 128) * 128 ^ k) := by
  obtain ⟨h1, h2, h3, h4⟩ := h
  have hlt : (s[k]).toNat < 256 := UInt8.toNat_lt _
  have hk9 : k ≠ 9 := fun e => h9 ⟨e, by omega⟩
  have hp : 0 < 128 ^ k := Nat.pow_pos (by omega)
  refine ⟨by omega, by omega, ?_, ?_⟩
  · rw [Nat.pow_succ]
    have : ((s[k]).toNat - 128) * 128 ^ k ≤ 127 * 128 ^ k := Nat.mul_le_mul_right _ (by omega)
    omega
  · rw [h4, takeF_step s k hk, if_neg h9, if_pos hb, Option.map_map]
    congr 1
    funext x
    simp only [Function.comp, Prod.mk.injEq, and_true]
    rw [Nat.add_mul, Nat.pow_succ, Nat.add_assoc]
    congr 2
    rw [Nat.mul_comm 128 x.1, Nat.mul_assoc, Nat.mul_comm 128 (128 ^ k)]

theorem pow7 (k : Nat) : 2 ^ (7 * k) = 128 ^ k := by rw [Nat.pow_mul]

theorem pow7i (k : Nat) : (2 : Int) ^ (7 * k) = ((128 ^ k : Nat) : Int) := by
  rw [← pow7]; norm_cast

theorem sum_step {k acc b : Nat} (hk : k ≤ 8) (ha : acc < 128 ^ k) (h1 : 128 ≤ b) (h2 : b < 256) :
    IntKind.u64.wrap ((acc : Int) + IntKind.u64.wrap (((b : Int) - 128) * 2 ^ (7 * k))) = ((acc + (b - 128) * 128 ^ k : Nat) : Int) := by
  rw [pow7i, show ((b : Int) - 128) = ((b - 128 : Nat) : Int) by omega, ← Int.natCast_mul]
  have hp : 128 ^ k ≤ 128 ^ 8 := Nat.pow_le_pow_right (by omega) hk
  have hq : (b - 128) * 128 ^ k ≤ 127 * 128 ^ 8 := Nat.mul_le_mul (by omega) hp
  have e : (128 : Nat) ^ 8 = 72057594037927936 := by decide
  rw [e] at hp hq
  generalize (b - 128) * 128 ^ k = q at *
  generalize 128 ^ k = p at *
  rw [IsU64.wrap (n := q) (by unfold IsU64; omega), ← Int.natCast_add, IsU64.wrap (by unfold IsU64; omega)]

theorem sum_last {k acc b : Nat} (hk : k ≤ 9) (ha : acc < 128 ^ k) (h9 : ¬ (k = 9 ∧ 1 < b)) (h2 : b < 128) :
    acc + b * 128 ^ k < 18446744073709551616 := by
  by_cases h : k = 9
  · have hb : b * 128 ^ k ≤ 1 * 128 ^ k := Nat.mul_le_mul_right _ (by omega)
    have e : (128 : Nat) ^ 9 = 9223372036854775808 := by decide
    subst h
    rw [e] at ha hb ⊢
    omega
  · have hp : 128 ^ k ≤ 128 ^ 8 := Nat.pow_le_pow_right (by omega) (by omega)
    have hq : b * 128 ^ k ≤ 127 * 128 ^ 8 := Nat.mul_le_mul (by omega) hp
    have e : (128 : Nat) ^ 8 = 72057594037927936 := by decide
    rw [e] at hp hq
    omega

theorem sum_end {k acc b : Nat} (hk : k ≤ 9) (ha : acc < 128 ^ k) (h9 : ¬ (k = 9 ∧ 1 < b)) (h2 : b < 128) :
    IntKind.u64.wrap ((acc : Int) + IntKind.u64.wrap ((b : Int) * 2 ^ (7 * k))) = ((acc + b * 128 ^ k : Nat) : Int) := by
  have h := sum_last hk ha h9 h2
  rw [pow7i, ← Int.natCast_mul, IsU64.wrap (n := b * 128 ^ k) (by unfold IsU64; omega), ← Int.natCast_add, IsU64.wrap (by unfold IsU64; omega)]

/-- What is taken is a number of 64 bits. -/
theorem takeF_bound : ∀ (l : List UInt8) (i m : Nat) (t : List UInt8), i ≤ 9 → takeF i l = some (m, t) → m < 2 * 128 ^ (9 - i)
  | [], _, _, _, _, h => by simp [takeF] at h
  | b :: r, i, m, t, hi, h => by
    unfold takeF at h
    have hb : b.toNat < 256 := UInt8.toNat_lt _
    have hp : 0 < 128 ^ (9 - i) := Nat.pow_pos (by omega)
    split at h
    · cases h
    · rename_i h9
      split at h
      · rename_i h128
        have hi9 : i ≠ 9 := fun e => h9 ⟨e, by omega⟩
        cases hx : takeF (i + 1) r with
        | none => rw [hx] at h; cases h
        | some x =>
          obtain ⟨m', t'⟩ := x
          rw [hx] at h
          simp at h
          obtain ⟨rfl, rfl⟩ := h
          have := takeF_bound r (i + 1) m' t' (by omega) hx
          have e : 128 ^ (9 - i) = 128 * 128 ^ (9 - (i + 1)) := by
            rw [show 9 - i = (9 - (i + 1)) + 1 by omega, Nat.pow_succ, Nat.mul_comm]
          omega
      · split at h
        · cases h
        · simp at h
          obtain ⟨rfl, rfl⟩ := h
          by_cases h9' : i = 9
          · have : ¬ 1 < b.toNat := fun e => h9 ⟨h9', e⟩
            omega
          · have e : 128 ^ (9 - i) = 128 * 128 ^ (9 - (i + 1)) := by
              rw [show 9 - i = (9 - (i + 1)) + 1 by omega, Nat.pow_succ, Nat.mul_comm]
            have hp' : 0 < 128 ^ (9 - (i + 1)) := Nat.pow_pos (by omega)
            omega

theorem takeL_u64 {l : List UInt8} {m : Nat} {t : List UInt8} (h : takeL l = some (m, t)) : IsU64 m := by
  have := takeF_bound l 0 m t (by omega) h
  have e : (128 : Nat) ^ 9 = 9223372036854775808 := by decide
  unfold IsU64
  simp only [Nat.sub_zero, e] at this
  omega

/-- What was packed is taken, whatever stands behind. -/
theorem takeF_numF (s : List UInt8) : ∀ (f n i : Nat), i + f = 9 → n < 2 * 128 ^ f → (0 < i → 0 < n) → takeF i (numF f n ++ s) = some (n, s)
  | 0, n, i, hi, hn, h0 => by
    obtain rfl : i = 9 := by omega
    have hn' : n < 2 := by simpa using hn
    have h0' := h0 (by omega)
    have hb : (UInt8.ofNat n).toNat = n := by rw [UInt8.toNat_ofNat']; omega
    simp only [numF, List.cons_append, List.nil_append, takeF, hb]
    rw [if_neg (by omega), if_neg (by omega), if_neg (by omega)]
  | f + 1, n, i, hi, hn, h0 => by
    by_cases h : n < 128
    · have hb : (UInt8.ofNat n).toNat = n := by rw [UInt8.toNat_ofNat']; omega
      rw [numF_small _ _ h]
      simp only [List.cons_append, List.nil_append, takeF, hb]
      rw [if_neg (by omega), if_neg (by omega), if_neg (by omega)]
    · have hb : (UInt8.ofNat (128 + n % 128)).toNat = 128 + n % 128 := by rw [UInt8.toNat_ofNat']; omega
      rw [numF_big _ _ (by omega)]
      simp only [List.cons_append, takeF, hb]
      rw [if_neg (by omega), if_pos (by omega), takeF_numF s f (n / 128) (i + 1) (by omega) (by rw [Nat.pow_succ] at hn; omega) (by omega)]
      simp only [Option.map_some, Option.some.injEq, Prod.mk.injEq, and_true]
      omega

theorem takeL_numL (n : Nat) (h : IsU64 n) (s : List UInt8) : takeL (numL n ++ s) = some (n, s) := by
  unfold IsU64 at h
  exact takeF_numF s 9 n 0 (by omega) (by simpa using h) (by omega)

/-- What is taken has the very bytes. -/
theorem numF_takeF : ∀ (l : List UInt8) (i m : Nat) (t : List UInt8), i ≤ 9 → takeF i l = some (m, t) → numF (9 - i) m ++ t = l ∧ (0 < i → 0 < m)
  | [], _, _, _, _, h => by simp [takeF] at h
  | b :: r, i, m, t, hi, h => by
    unfold takeF at h
    have hb : b.toNat < 256 := UInt8.toNat_lt _
    have hbb : UInt8.ofNat b.toNat = b := by simp
    split at h
    · cases h
    · rename_i h9
      split at h
      · rename_i h128
        have hi9 : i ≠ 9 := fun e => h9 ⟨e, by omega⟩
        cases hx : takeF (i + 1) r with
        | none => rw [hx] at h; cases h
        | some x =>
          obtain ⟨m', t'⟩ := x
          rw [hx] at h
          simp at h
          obtain ⟨rfl, rfl⟩ := h
          obtain ⟨h1, h2⟩ := numF_takeF r (i + 1) m' t' (by omega) hx
          have h2' := h2 (by omega)
          refine ⟨?_, fun _ => by omega⟩
          rw [show 9 - i = (9 - (i + 1)) + 1 by omega, numF_big _ _ (by omega), show (b.toNat - 128 + 128 * m') / 128 = m' by omega, List.cons_append, h1]
          rw [show 128 + (b.toNat - 128 + 128 * m') % 128 = b.toNat by omega, hbb]
      · split at h
        · cases h
        · rename_i h128 h0
          simp at h
          obtain ⟨rfl, rfl⟩ := h
          exact ⟨by rw [numF_small _ _ (by omega), hbb]; rfl, fun h => by omega⟩

theorem numL_takeL {l : List UInt8} {m : Nat} {t : List UInt8} (h : takeL l = some (m, t)) : numL m ++ t = l := (numF_takeF l 0 m t (by omega) h).1

theorem takeL_len {l : List UInt8} {m : Nat} {t : List UInt8} (h : takeL l = some (m, t)) : t.length ≤ l.length := by
  rw [← numL_takeL h]; simp

/-- Back to a number with a sign. -/
def unzig (m : Nat) : Int := if m % 2 = 1 then -((m / 2 : Nat) : Int) - 1 else ((m / 2 : Nat) : Int)

theorem zig_unzig (m : Nat) : zig (unzig m) = m := by
  unfold unzig zig
  split <;> split <;> omega

theorem unzig_zig (n : Int) : unzig (zig n) = n := by
  unfold unzig zig
  split <;> split <;> omega

theorem unzig_i64 {m : Nat} (h : IsU64 m) : IsI64 (unzig m) := by
  unfold IsU64 at h; unfold IsI64 unzig; split <;> omega

/-- The text, of so many bytes at most, with which a list begins. -/
def textL (l : List UInt8) (most : Int) : Option (List UInt8 × List UInt8) :=
  match takeL l with
  | none => none
  | some (n, t) => if most < 0 ∨ most < (n : Int) ∨ t.length < n then none else some (t.take n, t.drop n)

theorem textL_text (t s : List UInt8) (h : t.length < 9223372036854775808) : textL (numL t.length ++ t ++ s) t.length = some (t, s) := by
  unfold textL
  rw [List.append_assoc, takeL_numL _ (IsU64.small h)]
  simp

theorem textL_short (t s : List UInt8) (h : t.length < 9223372036854775808) : textL (numL t.length ++ t ++ s) ((t.length : Int) - 1) = none := by
  unfold textL
  rw [List.append_assoc, takeL_numL _ (IsU64.small h)]
  simp only
  rw [if_pos (by omega)]

theorem text_textL {l : List UInt8} {most : Int} {a b : List UInt8} (h : textL l most = some (a, b)) : numL a.length ++ a ++ b = l ∧ (a.length : Int) ≤ most ∧ a.length ≤ l.length := by
  unfold textL at h
  cases hx : takeL l with
  | none => rw [hx] at h; cases h
  | some x =>
    obtain ⟨n, t⟩ := x
    rw [hx] at h
    simp only at h
    split at h
    · cases h
    · rename_i hc
      simp at h
      obtain ⟨rfl, rfl⟩ := h
      have hl := takeL_len hx
      have e : (t.take n).length = n := by simp; omega
      rw [e, List.append_assoc, List.take_append_drop]
      exact ⟨numL_takeL hx, by omega, by omega⟩

end Go.Proofs.YtbkijfhfjhpebaaGreatDoor.PackMath

/-
  Small facts that every layer's walks use. No function of the program is named here.
-/
namespace Go.Proofs.YtbkijfhfjhpebaaGreatDoor
open Go.RowKit

/-- One call behind another. -/
theorem below_step {a b c : World} (h : Below a.heap.size a b) (k : Below b.heap.size b c) : Below a.heap.size a c := h.trans (k.mono h.size)

theorem below_drewN' {B : Nat} {a w : World} (h : Below B a w) (n : Nat) : Below B a (w.drewN n) := ⟨h.os, h.tape, h.output, h.size, h.block⟩

theorem below_alloc_call {w w1 : World} {o : Obj} (hb : Below ((w.alloc o).drew).heap.size (w.alloc o).drew w1) : Below w.heap.size w w1 :=
  (((Below.refl _ w).alloc (Nat.le_refl _) o).drew).trans (hb.mono (by show w.heap.size ≤ (w.alloc o).heap.size; simp))

theorem below_call_alloc {w w1 : World} (hb : Below w.drew.heap.size w.drew w1) (o : Obj) : Below w.heap.size w (w1.alloc o) :=
  (((Below.refl _ w).drew).trans hb).alloc hb.size o

/-- Nothing below the call's first block has turned (a plain word, which the walk does not open). -/
def KeptFrom (w W : World) : Prop := Below w.heap.size w W

theorem kept_call {w W W' : World} {a : Addr} {v : Value} (hb : Below W.heap.size W W') (h : W.cell? a = some v ∧ KeptFrom w W) : W'.cell? a = some v ∧ KeptFrom w W' :=
  ⟨cell_later hb h.1, below_step h.2 hb⟩

theorem kept_call2 {w W W' : World} {a b : Addr} {u v : Value} (hb : Below W.heap.size W W') (h : (W.cell? a = some u ∧ W.cell? b = some v) ∧ KeptFrom w W) : (W'.cell? a = some u ∧ W'.cell? b = some v) ∧ KeptFrom w W' :=
  ⟨⟨cell_later hb h.1.1, cell_later hb h.1.2⟩, below_step h.2 hb⟩

theorem kept_call4 {w W W' : World} {a b c d : Addr} {u v x y : Value} (hb : Below W.heap.size W W') (h : (W.cell? a = some u ∧ W.cell? b = some v ∧ W.cell? c = some x ∧ W.cell? d = some y) ∧ KeptFrom w W) :
    (W'.cell? a = some u ∧ W'.cell? b = some v ∧ W'.cell? c = some x ∧ W'.cell? d = some y) ∧ KeptFrom w W' :=
  ⟨⟨cell_later hb h.1.1, cell_later hb h.1.2.1, cell_later hb h.1.2.2.1, cell_later hb h.1.2.2.2⟩, below_step h.2 hb⟩

theorem kept_below {w W : World} (h : KeptFrom w W) : Below w.heap.size w W := h

theorem heap_lt {w : World} {g : Nat} {o : Obj} (h : w.heap[g]? = some o) : g < w.heap.size := (Array.getElem?_eq_some_iff.1 h).1

/-- Behind a call all that was there reads as before. -/
theorem bcell_below {W w1 : World} (hb : Below W.heap.size W w1) : (∀ b o, b < W.heap.size → w1.cell? ⟨b, o, none⟩ = W.cell? ⟨b, o, none⟩) ∧ (∀ b o, b < W.heap.size → w1.frozen? ⟨b, o, none⟩ = W.frozen? ⟨b, o, none⟩) :=
  ⟨fun b o h => hb.cell (p := ⟨b, o, none⟩) h, fun b o h => hb.frozen (p := ⟨b, o, none⟩) h⟩

/-- Bytes as cells. -/
def bcell (b : UInt8) : Value := .int .u8 (b.toNat : Int)

theorem one_cell (k : IntKind) (n : Int) : ∀ u ∈ [Value.int k n], u.oneCell' = true := by
  intro u hu
  simp at hu
  subst hu
  rfl

theorem new_cell (w : World) (x : Value) (t : TypeId) : ((w.alloc (.cells #[x] t)).drew).cell? ⟨w.heap.size, 0, none⟩ = some x := cell_one_new w x t 0 x rfl

theorem mk_append_data (l : List UInt8) (s : ByteArray) : (⟨l.toArray⟩ : ByteArray) ++ s = ⟨(l ++ s.data.toList).toArray⟩ := by
  apply ByteArray.ext
  simp [ByteArray.data_append]

theorem extract_rest (s : ByteArray) (k : Nat) : s.extract k s.size = ⟨(s.data.toList.drop k).toArray⟩ := by
  rw [Lib.extract_eq, List.take_of_length_le (by rw [List.length_drop, Lib.size_eq]; exact Nat.le_refl _)]

theorem extract_take (s : ByteArray) (k : Nat) : s.extract 0 k = ⟨(s.data.toList.take k).toArray⟩ := by
  rw [Lib.extract_eq]; simp

theorem data_get {s : ByteArray} {k : Nat} (h : k < s.size) : s.data.toList[k]'(by simpa using h) = s[k] := by simp; rfl

theorem take_next (s : ByteArray) (k : Nat) (h : k < s.size) : s.data.toList.take (k + 1) = s.data.toList.take k ++ [s[k]] := by
  rw [List.take_succ_eq_append_getElem (by simpa using h)]; rfl

theorem byte_of_int {n : Int} (h : 0 ≤ n ∧ n ≤ 255) : ∃ y : UInt8, n = (y.toNat : Int) :=
  ⟨UInt8.ofNat n.toNat, by rw [UInt8.toNat_ofNat_of_lt' (show n.toNat < 256 by omega)]; omega⟩

theorem nat_of_int {n m : Int} (h : 0 ≤ n ∧ n ≤ m) : ∃ k : Nat, n = (k : Int) ∧ (k : Int) ≤ m := ⟨n.toNat, by omega, by omega⟩

end Go.Proofs.YtbkijfhfjhpebaaGreatDoor

/-
  Plain mathematics of layer 3: stamps in their order. It needs no program.
-/
namespace Go.Proofs.YtbkijfhfjhpebaaGreatDoor.StampMath
open PackMath

/-- A stamp as a value. -/
def sv (t r : Int) : Value := .agg #[.int .i64 t, .int .i64 r]

/-- Is one ahead of another one? -/
def lessB (t r t' r' : Int) : Bool := decide (t < t') || (t == t' && decide (r < r'))

/-- -1, 0, 1. -/
def cmp (t r t' r' : Int) : Int := if lessB t r t' r' then -1 else if lessB t' r' t r then 1 else 0

/-- May it be? -/
def mayB (t r : Int) : Bool := if t = 0 then r == 0 else decide (1 ≤ t) && decide (t ≤ 1073741824) && decide (0 ≤ r) && decide (r ≤ 7)

theorem lessB_iff (t r t' r' : Int) : lessB t r t' r' = true ↔ t < t' ∨ t = t' ∧ r < r' := by
  simp [lessB]

theorem cmp_cases (t r t' r' : Int) : (cmp t r t' r' = -1 ∧ (t < t' ∨ t = t' ∧ r < r')) ∨ (cmp t r t' r' = 1 ∧ (t' < t ∨ t' = t ∧ r' < r)) ∨ (cmp t r t' r' = 0 ∧ t = t' ∧ r = r') := by
  unfold cmp
  have h1 := lessB_iff t r t' r'
  have h2 := lessB_iff t' r' t r
  by_cases a : lessB t r t' r' = true
  · rw [if_pos a]; exact Or.inl ⟨rfl, h1.1 a⟩
  · rw [if_neg a]
    by_cases b : lessB t' r' t r = true
    · rw [if_pos b]; exact Or.inr (Or.inl ⟨rfl, h2.1 b⟩)
    · rw [if_neg b]
      refine Or.inr (Or.inr ⟨rfl, ?_⟩)
      have h1' : ¬ (t < t' ∨ t = t' ∧ r < r') := fun h => a (h1.2 h)
      have h2' : ¬ (t' < t ∨ t' = t ∧ r' < r) := fun h => b (h2.2 h)
      omega

theorem mayB_iff (t r : Int) : mayB t r = true ↔ (t = 0 ∧ r = 0) ∨ (1 ≤ t ∧ t ≤ 1073741824 ∧ 0 ≤ r ∧ r ≤ 7) := by
  unfold mayB
  by_cases h : t = 0
  · rw [if_pos h]; simp; omega
  · rw [if_neg h]; simp; omega

theorem cmp_turn (t r t' r' : Int) : cmp t' r' t r = -cmp t r t' r' := by
  have h1 := cmp_cases t r t' r'
  have h2 := cmp_cases t' r' t r
  omega

theorem cmp_range (t r t' r' : Int) : cmp t r t' r' = -1 ∨ cmp t r t' r' = 0 ∨ cmp t r t' r' = 1 := by
  have h1 := cmp_cases t r t' r'
  omega

theorem cmp_zero (t r t' r' : Int) : (cmp t r t' r' == 0) = (t == t' && r == r') := by
  have h1 := cmp_cases t r t' r'
  rw [Bool.eq_iff_iff, Bool.and_eq_true, beq_iff_eq, beq_iff_eq, beq_iff_eq]
  omega

theorem cmp_trans (t r t' r' t'' r'' : Int) : (cmp t r t' r' ≤ 0 → cmp t' r' t'' r'' ≤ 0 → cmp t r t'' r'' ≤ 0) ∧ (cmp t r t' r' < 0 → cmp t' r' t'' r'' < 0 → cmp t r t'' r'' < 0) := by
  have h1 := cmp_cases t r t' r'
  have h2 := cmp_cases t' r' t'' r''
  have h3 := cmp_cases t r t'' r''
  omega

/-- The greatest of some; of none the zero one. -/
def maxL : List (Int × Int) → Int × Int
  | [] => (0, 0)
  | x :: r => r.foldl (fun m y => if lessB m.1 m.2 y.1 y.2 then y else m) x

theorem maxL_step (xs : List (Int × Int)) (k : Nat) (h : k < xs.length) :
    maxL (xs.take (k + 1)) = if k = 0 then xs[k] else if lessB (maxL (xs.take k)).1 (maxL (xs.take k)).2 xs[k].1 xs[k].2 then xs[k] else maxL (xs.take k) := by
  rw [List.take_succ_eq_append_getElem h]
  by_cases h0 : k = 0
  · subst h0
    rw [if_pos rfl]
    rfl
  · rw [if_neg h0]
    cases hx : xs.take k with
    | nil =>
      exfalso
      have := congrArg List.length hx
      rw [List.length_take, List.length_nil] at this
      omega
    | cons y r =>
      show (r ++ [xs[k]]).foldl _ y = _
      rw [List.foldl_append]
      rfl

end Go.Proofs.YtbkijfhfjhpebaaGreatDoor.StampMath

/-
  Plain mathematics of layer 9: graphs as lists of inodes and of entries; what each call makes of one. It needs no program.
-/
namespace Go.Proofs.YtbkijfhfjhpebaaGreatDoor.GraphMath
open StampMath

abbrev St := Int × Int

structure Ino where
  id : St
  kind : Int
  links : Int
  mode : Int
  data : ByteArray
deriving DecidableEq

structure Ent where
  dir : St
  name : ByteArray
  ino : St
deriving DecidableEq

structure Gr where
  I : List Ino
  E : List Ent

def stA (s : St) : Array Value := #[.int .i64 s.1, .int .i64 s.2]
def inoA (x : Ino) : Array Value := #[.int .i64 x.id.1, .int .i64 x.id.2, .int .i64 x.kind, .int .i64 x.links, .int .i64 x.mode, .string x.data]
def entA (e : Ent) : Array Value := #[.int .i64 e.dir.1, .int .i64 e.dir.2, .string e.name, .int .i64 e.ino.1, .int .i64 e.ino.2]

/-- No inode. -/
def noIno : Ino := ⟨(0, 0), 0, 0, 0, ⟨#[]⟩⟩

def newG : Gr := ⟨[⟨(0, 0), 1, 0, 0, ⟨#[]⟩⟩], []⟩

/-- How many entries are of an inode. -/
def linksE (E : List Ent) (id : St) : Nat := (E.filter fun e => decide (e.ino = id)).length

def getG (g : Gr) (id : St) : Option Ino := (g.I.find? fun x => decide (x.id = id)).map fun x => { x with links := (linksE g.E id : Int) }

def inodesG (g : Gr) : List Ino := g.I.map fun x => (getG g x.id).getD noIno

def lookE (E : List Ent) (d : St) (nm : ByteArray) : Option St := (E.find? fun e => decide (e.dir = d) && decide (e.name = nm)).map fun e => e.ino

def listE (E : List Ent) (d : St) : List Ent := E.filter fun e => decide (e.dir = d)

def parentG (g : Gr) (d : St) : Option St :=
  match getG g d with
  | none => none
  | some x => if x.kind = 1 then (g.E.find? fun e => decide (e.ino = d)).map fun e => e.dir else none

/-- Is id dir, or below it, by so many steps? -/
def underN (g : Gr) : Nat → St → St → Bool
  | 0, _, _ => false
  | n + 1, id, d => if id = d then true else match parentG g id with
    | none => false
    | some up => underN g n up d

def underG (g : Gr) (id d : St) : Bool := underN g (g.I.length + 1) id d

/-- Is one stamp ahead of another one? -/
def lessS (a b : St) : Bool := lessB a.1 a.2 b.1 b.2

/-- Is one entry ahead of another one? -/
def aheadE (a b : Ent) : Bool := lessS a.dir b.dir || (decide (a.dir = b.dir) && decide (a.name.data.toList < b.name.data.toList))

/-- Something more, behind all that is ahead of it. -/
def putIn {α : Type} (f : α → Bool) (l : List α) (x : α) : List α := l.takeWhile f ++ x :: l.dropWhile f

def makeG (g : Gr) (id : St) (kind : Int) : Gr × Int :=
  if mayB id.1 id.2 = false ∨ kind < 1 ∨ 3 < kind then (g, 1)
  else if (getG g id).isSome then (g, 4)
  else if 40 ≤ g.I.length then (g, 13)
  else (⟨putIn (fun x => lessS x.id id) g.I ⟨id, kind, 0, 0, ⟨#[]⟩⟩, g.E⟩, 0)

/-- Why an entry can't be; 0: it can. (nameOk: is its name one?) -/
def whyG (nameOk : Bool) (g : Gr) (e : Ent) : Int :=
  if nameOk = false then 1
  else match getG g e.dir, getG g e.ino with
    | some a, some x =>
      if a.kind ≠ 1 then 6
      else if (lookE g.E e.dir e.name).isSome then 4
      else if x.kind = 1 ∧ (e.ino = (0, 0) ∨ underG g e.dir e.ino = true) then 8
      else if x.kind = 1 ∧ 0 < x.links ∨ 6 ≤ x.links then 12
      else 0
    | _, _ => 3

def tieG (nameOk : Bool) (g : Gr) (e : Ent) : Gr × Int :=
  if whyG nameOk g e = 0 then (⟨g.I, putIn (fun a => aheadE a e) g.E e⟩, 0) else (g, whyG nameOk g e)

def untieG (g : Gr) (d : St) (nm : ByteArray) : Gr × St × Int :=
  match lookE g.E d nm with
  | none => (g, (0, 0), 3)
  | some id => (⟨g.I, g.E.filter fun e => !(decide (e.dir = d) && decide (e.name = nm))⟩, id, 0)

def dropG (g : Gr) (id : St) : Gr × Int :=
  match getG g id with
  | none => (g, 3)
  | some x => if id = (0, 0) then (g, 8) else if 0 < x.links ∨ 0 < (listE g.E id).length then (g, 7) else (⟨g.I.filter fun x => !decide (x.id = id), g.E⟩, 0)

def setG (g : Gr) (id : St) (mode : Int) (data : ByteArray) : Gr × Int :=
  match getG g id with
  | none => (g, 3)
  | some _ => (⟨g.I.map fun x => if x.id = id then { x with mode := mode, data := data } else x, g.E⟩, 0)

theorem linksE_snoc (E : List Ent) (k : Nat) (h : k < E.length) (id : St) : linksE (E.take (k + 1)) id = if E[k].ino = id then linksE (E.take k) id + 1 else linksE (E.take k) id := by
  unfold linksE
  rw [List.take_succ_eq_append_getElem h, List.filter_append]
  by_cases e : E[k].ino = id
  · rw [if_pos e]; simp [e]
  · rw [if_neg e]; simp [e]

theorem linksE_le (E : List Ent) (id : St) : linksE E id ≤ E.length := List.length_filter_le _ _

theorem find_none_take {α : Type} {p : α → Bool} {l : List α} {k : Nat} (h : k < l.length) (hn : (l.take k).find? p = none) : (l.take (k + 1)).find? p = if p l[k] then some l[k] else none := by
  rw [List.take_succ_eq_append_getElem h, List.find?_append, hn]
  cases hp : p l[k] <;> simp [hp]

theorem find_take {α : Type} {p : α → Bool} {l : List α} {k : Nat} {x : α} (h : (l.take k).find? p = some x) : l.find? p = some x := by
  rw [← List.take_append_drop k l, List.find?_append, h]
  rfl

end Go.Proofs.YtbkijfhfjhpebaaGreatDoor.GraphMath

/-
  Plain mathematics of layer 9: what is true of a graph, whatever was done. It needs no program.
-/
namespace Go.Proofs.YtbkijfhfjhpebaaGreatDoor.GraphMath
open StampMath

/-- A directory's entry: of an inode that is one. -/
def Gr.isDir (g : Gr) (id : St) : Prop := ∃ x ∈ g.I, x.id = id ∧ x.kind = 1

/-- What is true of a graph, whatever was done. -/
structure Gr.ok (g : Gr) : Prop where
  sortI : g.I.Pairwise fun a b => lessS a.id b.id = true
  sortE : g.E.Pairwise fun a b => aheadE a b = true
  few : g.I.length ≤ 40
  links0 : ∀ x ∈ g.I, x.links = 0
  kinds : ∀ x ∈ g.I, 1 ≤ x.kind ∧ x.kind ≤ 3
  may : ∀ x ∈ g.I, mayB x.id.1 x.id.2 = true
  root : ∃ x ∈ g.I, x.id = (0, 0) ∧ x.kind = 1
  dirs : ∀ e ∈ g.E, g.isDir e.dir
  inos : ∀ e ∈ g.E, ∃ x ∈ g.I, x.id = e.ino
  noRoot : ∀ e ∈ g.E, e.ino ≠ (0, 0)
  six : ∀ id, linksE g.E id ≤ 6
  one : ∀ id, g.isDir id → linksE g.E id ≤ 1
  rank : ∃ f : St → Nat, ∀ e ∈ g.E, g.isDir e.ino → f e.dir < f e.ino

theorem lessS_irrefl (a : St) : lessS a a = false := by
  rw [Bool.eq_false_iff]
  intro h
  have := (lessB_iff _ _ _ _).1 h
  omega

theorem lessS_trans {a b c : St} (h1 : lessS a b = true) (h2 : lessS b c = true) : lessS a c = true := by
  have h1 := (lessB_iff _ _ _ _).1 h1
  have h2 := (lessB_iff _ _ _ _).1 h2
  exact (lessB_iff _ _ _ _).2 (by omega)

theorem lessS_total {a b : St} (h : lessS a b = false) (hne : a ≠ b) : lessS b a = true := by
  have h1 : ¬ (a.1 < b.1 ∨ a.1 = b.1 ∧ a.2 < b.2) := fun q => by rw [show lessS a b = true from (lessB_iff _ _ _ _).2 q] at h; cases h
  refine (lessB_iff _ _ _ _).2 ?_
  have h2 : ¬ (a.1 = b.1 ∧ a.2 = b.2) := fun q => hne (Prod.ext q.1 q.2)
  omega

/-- No two inodes of one number. -/
theorem Gr.ok.ids {g : Gr} (h : g.ok) {x y : Ino} (hx : x ∈ g.I) (hy : y ∈ g.I) (he : x.id = y.id) : x = y := by
  have hp := h.sortI
  obtain ⟨i, hi, rfl⟩ := List.getElem_of_mem hx
  obtain ⟨j, hj, rfl⟩ := List.getElem_of_mem hy
  rcases Nat.lt_trichotomy i j with h1 | h1 | h1
  · have := List.pairwise_iff_getElem.1 hp i j hi hj h1
    rw [he, lessS_irrefl] at this
    cases this
  · subst h1; rfl
  · have := List.pairwise_iff_getElem.1 hp j i hj hi h1
    rw [he, lessS_irrefl] at this
    cases this

theorem find_id {I : List Ino} (hid : ∀ x ∈ I, ∀ y ∈ I, x.id = y.id → x = y) {x : Ino} (hx : x ∈ I) : I.find? (fun y => decide (y.id = x.id)) = some x := by
  cases h : I.find? (fun y => decide (y.id = x.id)) with
  | none =>
    have := List.find?_eq_none.1 h x hx
    simp at this
  | some y =>
    have h1 := List.find?_some h
    have h2 := List.mem_of_find?_eq_some h
    simp at h1
    exact congrArg some (hid y h2 x hx h1)

theorem Gr.ok.get {g : Gr} (h : g.ok) {x : Ino} (hx : x ∈ g.I) : getG g x.id = some { x with links := (linksE g.E x.id : Int) } := by
  unfold getG
  rw [find_id (fun a ha b hb => h.ids ha hb) hx]
  rfl

theorem get_none {g : Gr} {id : St} (h : getG g id = none) : ∀ x ∈ g.I, x.id ≠ id := by
  intro x hx e
  unfold getG at h
  rw [Option.map_eq_none_iff] at h
  have := List.find?_eq_none.1 h x hx
  simp [e] at this

theorem get_some {g : Gr} {id : St} {y : Ino} (h : getG g id = some y) : ∃ x ∈ g.I, x.id = id ∧ y = { x with links := (linksE g.E id : Int) } := by
  unfold getG at h
  rw [Option.map_eq_some_iff] at h
  obtain ⟨x, hx, rfl⟩ := h
  have h1 := List.find?_some hx
  simp at h1
  exact ⟨x, List.mem_of_find?_eq_some hx, h1, rfl⟩

theorem Gr.ok.inodes {g : Gr} (h : g.ok) : inodesG g = g.I.map fun x => { x with links := (linksE g.E x.id : Int) } := by
  unfold inodesG
  apply List.map_congr_left
  intro x hx
  rw [h.get hx]
  rfl

theorem new_okG : newG.ok where
  sortI := by unfold newG; exact List.pairwise_singleton ..
  sortE := List.Pairwise.nil
  few := by unfold newG; decide
  links0 := by intro x hx; simp [newG] at hx; subst hx; rfl
  kinds := by intro x hx; simp [newG] at hx; subst hx; exact ⟨by decide, by decide⟩
  may := by intro x hx; simp [newG] at hx; subst hx; decide
  root := ⟨⟨(0, 0), 1, 0, 0, ⟨#[]⟩⟩, by simp [newG], rfl, rfl⟩
  dirs := by intro e he; simp [newG] at he
  inos := by intro e he; simp [newG] at he
  noRoot := by intro e he; simp [newG] at he
  six := fun id => by simp [newG, linksE]
  one := fun id _ => by simp [newG, linksE]
  rank := ⟨fun _ => 0, by intro e he; simp [newG] at he⟩

end Go.Proofs.YtbkijfhfjhpebaaGreatDoor.GraphMath

/-
  Plain mathematics of layer 9: Make, Set, Drop and Untie keep what is true of a graph. It needs no program.
-/
namespace Go.Proofs.YtbkijfhfjhpebaaGreatDoor.GraphMath
open StampMath

theorem putIn_mem {α : Type} {f : α → Bool} {l : List α} {x y : α} : y ∈ putIn f l x ↔ y = x ∨ y ∈ l := by
  unfold putIn
  rw [List.mem_append, List.mem_cons]
  constructor
  · rintro (h | h | h)
    · exact Or.inr ((List.takeWhile_prefix f).subset h)
    · exact Or.inl h
    · exact Or.inr ((List.dropWhile_suffix f).subset h)
  · rintro (h | h)
    · exact Or.inr (Or.inl h)
    · rw [← List.takeWhile_append_dropWhile (p := f) (l := l), List.mem_append] at h
      rcases h with h | h
      · exact Or.inl h
      · exact Or.inr (Or.inr h)

theorem putIn_len {α : Type} (f : α → Bool) (l : List α) (x : α) : (putIn f l x).length = l.length + 1 := by
  unfold putIn
  have h := congrArg List.length (List.takeWhile_append_dropWhile (p := f) (l := l))
  rw [List.length_append] at h
  rw [List.length_append, List.length_cons]
  omega

theorem all_take {α : Type} {f : α → Bool} : ∀ {l : List α} {a : α}, a ∈ l.takeWhile f → f a = true
  | b :: l, a, h => by
    rw [List.takeWhile_cons] at h
    by_cases hb : f b = true
    · rw [if_pos hb, List.mem_cons] at h
      rcases h with rfl | h
      · exact hb
      · exact all_take h
    · rw [if_neg hb] at h
      cases h

theorem putIn_sorted {α : Type} {r : α → α → Bool} {l : List α} {x : α} (trans : ∀ {a b c}, r a b = true → r b c = true → r a c = true) (tot : ∀ a ∈ l, r a x = false → r x a = true) (h : l.Pairwise fun a b => r a b = true) :
    (putIn (fun a => r a x) l x).Pairwise fun a b => r a b = true := by
  unfold putIn
  have hs := h
  rw [← List.takeWhile_append_dropWhile (p := fun a => r a x) (l := l), List.pairwise_append] at hs
  obtain ⟨h1, h2, h3⟩ := hs
  have hx : ∀ c ∈ l.dropWhile (fun a => r a x), r x c = true := by
    cases hd : l.dropWhile (fun a => r a x) with
    | nil => intro c hc; cases hc
    | cons b t =>
      have hb : r b x = false := by
        have := List.head?_dropWhile_not (fun a => r a x) l
        rw [hd] at this
        simpa using this
      have hbl : b ∈ l := (List.dropWhile_suffix _).subset (by rw [hd]; exact List.mem_cons_self ..)
      have hxb := tot b hbl hb
      rw [hd, List.pairwise_cons] at h2
      intro c hc
      rcases List.mem_cons.1 hc with rfl | hc
      · exact hxb
      · exact trans hxb (h2.1 c hc)
  rw [List.pairwise_append, List.pairwise_cons]
  refine ⟨h1, ⟨hx, h2⟩, fun a ha b hb => ?_⟩
  have hax : r a x = true := all_take (f := fun a => r a x) ha
  rcases List.mem_cons.1 hb with rfl | hb
  · exact hax
  · exact trans hax (hx b hb)

theorem Gr.ok.make {g : Gr} (h : g.ok) (id : St) (kind : Int) : (makeG g id kind).1.ok := by
  unfold makeG
  by_cases h1 : mayB id.1 id.2 = false ∨ kind < 1 ∨ 3 < kind
  · rw [if_pos h1]; exact h
  rw [if_neg h1]
  by_cases h2 : (getG g id).isSome = true
  · rw [if_pos h2]; exact h
  rw [if_neg h2]
  by_cases h3 : 40 ≤ g.I.length
  · rw [if_pos h3]; exact h
  rw [if_neg h3]
  have hn : getG g id = none := by cases hg : getG g id with
    | none => rfl
    | some y => rw [hg] at h2; exact absurd rfl h2
  have hnew := get_none hn
  have hmy : mayB id.1 id.2 = true := by cases hm : mayB id.1 id.2 with
    | false => exact absurd (Or.inl hm) h1
    | true => rfl
  have hk : 1 ≤ kind ∧ kind ≤ 3 := by omega
  have noE : ∀ e ∈ g.E, e.ino ≠ id ∧ e.dir ≠ id := fun e he => ⟨fun q => by
      obtain ⟨x, hx, hxe⟩ := h.inos e he
      exact hnew x hx (hxe.trans q), fun q => by
      obtain ⟨x, hx, hxe, _⟩ := h.dirs e he
      exact hnew x hx (hxe.trans q)⟩
  have no0 : linksE g.E id = 0 := by
    unfold linksE
    rw [List.length_eq_zero_iff, List.filter_eq_nil_iff]
    intro e he
    simp [(noE e he).1]
  exact {
    sortI := putIn_sorted (r := fun a b : Ino => lessS a.id b.id) (x := ⟨id, kind, 0, 0, ⟨#[]⟩⟩) (fun p q => lessS_trans p q) (fun a ha q => lessS_total q (hnew a ha)) h.sortI
    sortE := h.sortE
    few := by dsimp only; rw [putIn_len]; omega
    links0 := fun x hx => by rcases putIn_mem.1 hx with rfl | hx; rfl; exact h.links0 x hx
    kinds := fun x hx => by rcases putIn_mem.1 hx with rfl | hx; exact hk; exact h.kinds x hx
    may := fun x hx => by rcases putIn_mem.1 hx with rfl | hx; exact hmy; exact h.may x hx
    root := by obtain ⟨x, hx, p, q⟩ := h.root; exact ⟨x, putIn_mem.2 (Or.inr hx), p, q⟩
    dirs := fun e he => by obtain ⟨x, hx, p, q⟩ := h.dirs e he; exact ⟨x, putIn_mem.2 (Or.inr hx), p, q⟩
    inos := fun e he => by obtain ⟨x, hx, p⟩ := h.inos e he; exact ⟨x, putIn_mem.2 (Or.inr hx), p⟩
    noRoot := h.noRoot
    six := h.six
    one := fun i hi => by
      obtain ⟨x, hx, p, q⟩ := hi
      rcases putIn_mem.1 hx with rfl | hx
      · dsimp only at p ⊢; rw [← p, no0]; omega
      · exact h.one i ⟨x, hx, p, q⟩
    rank := by
      obtain ⟨f, hf⟩ := h.rank
      refine ⟨f, fun e he hd => hf e he ?_⟩
      obtain ⟨x, hx, p, q⟩ := hd
      rcases putIn_mem.1 hx with rfl | hx
      · exact absurd p.symm (noE e he).1
      · exact ⟨x, hx, p, q⟩ }

theorem Gr.ok.set {g : Gr} (h : g.ok) (id : St) (mode : Int) (data : ByteArray) : (setG g id mode data).1.ok := by
  unfold setG
  cases hg : getG g id with
  | none => exact h
  | some y =>
    let s : Ino → Ino := fun x => if x.id = id then { x with mode := mode, data := data } else x
    have sid : ∀ x : Ino, (s x).id = x.id := fun x => by show (if x.id = id then _ else x : Ino).id = x.id; split <;> rfl
    have sk : ∀ x : Ino, (s x).kind = x.kind := fun x => by show (if x.id = id then _ else x : Ino).kind = x.kind; split <;> rfl
    have sl : ∀ x : Ino, (s x).links = x.links := fun x => by show (if x.id = id then _ else x : Ino).links = x.links; split <;> rfl
    have hm : ∀ x, x ∈ g.I.map s ↔ ∃ y ∈ g.I, s y = x := fun x => List.mem_map
    have hdir : ∀ i, (⟨g.I.map s, g.E⟩ : Gr).isDir i ↔ g.isDir i := fun i => by
      constructor
      · rintro ⟨x, hx, p, q⟩
        obtain ⟨y, hy, rfl⟩ := (hm x).1 hx
        exact ⟨y, hy, by rw [← sid y]; exact p, by rw [← sk y]; exact q⟩
      · rintro ⟨x, hx, p, q⟩
        exact ⟨s x, (hm _).2 ⟨x, hx, rfl⟩, by rw [sid]; exact p, by rw [sk]; exact q⟩
    show (⟨g.I.map s, g.E⟩ : Gr).ok
    exact {
      sortI := by rw [List.pairwise_map]; exact h.sortI.imp fun q => by rw [sid, sid]; exact q
      sortE := h.sortE
      few := by dsimp only; rw [List.length_map]; exact h.few
      links0 := fun x hx => by obtain ⟨y, hy, rfl⟩ := (hm x).1 hx; rw [sl]; exact h.links0 y hy
      kinds := fun x hx => by obtain ⟨y, hy, rfl⟩ := (hm x).1 hx; rw [sk]; exact h.kinds y hy
      may := fun x hx => by obtain ⟨y, hy, rfl⟩ := (hm x).1 hx; rw [sid]; exact h.may y hy
      root := (hdir (0, 0)).2 h.root
      dirs := fun e he => (hdir _).2 (h.dirs e he)
      inos := fun e he => by obtain ⟨x, hx, p⟩ := h.inos e he; exact ⟨s x, (hm _).2 ⟨x, hx, rfl⟩, by rw [sid]; exact p⟩
      noRoot := h.noRoot
      six := h.six
      one := fun i hi => h.one i ((hdir i).1 hi)
      rank := by obtain ⟨f, hf⟩ := h.rank; exact ⟨f, fun e he hd => hf e he ((hdir _).1 hd)⟩ }

theorem linksE_filter (E : List Ent) (p : Ent → Bool) (id : St) : linksE (E.filter p) id ≤ linksE E id := by
  unfold linksE
  rw [List.filter_filter]
  exact (List.Sublist.length_le (by
    induction E with
    | nil => exact List.Sublist.refl _
    | cons e l ih =>
      rw [List.filter_cons, List.filter_cons]
      by_cases h1 : decide (e.ino = id) = true
      · by_cases h2 : p e = true
        · simp only [h1, h2, Bool.and_self, if_true]; exact ih.cons_cons _
        · simp only [h1, h2, Bool.true_and, if_true]; exact ih.cons _
      · simp only [h1, Bool.false_and]; exact ih))

theorem Gr.ok.untie {g : Gr} (h : g.ok) (d : St) (nm : ByteArray) : (untieG g d nm).1.ok := by
  unfold untieG
  cases hl : lookE g.E d nm with
  | none => exact h
  | some id =>
    exact {
      sortI := h.sortI
      sortE := h.sortE.filter _
      few := h.few
      links0 := h.links0
      kinds := h.kinds
      may := h.may
      root := h.root
      dirs := fun e he => h.dirs e ((List.mem_filter.1 he).1)
      inos := fun e he => h.inos e ((List.mem_filter.1 he).1)
      noRoot := fun e he => h.noRoot e ((List.mem_filter.1 he).1)
      six := fun i => Nat.le_trans (linksE_filter _ _ _) (h.six i)
      one := fun i hi => Nat.le_trans (linksE_filter _ _ _) (h.one i hi)
      rank := by obtain ⟨f, hf⟩ := h.rank; exact ⟨f, fun e he hd => hf e ((List.mem_filter.1 he).1) hd⟩ }

theorem Gr.ok.drop {g : Gr} (h : g.ok) (id : St) : (dropG g id).1.ok := by
  unfold dropG
  cases hg : getG g id with
  | none => exact h
  | some y =>
    dsimp only
    by_cases h1 : id = (0, 0)
    · rw [if_pos h1]; exact h
    rw [if_neg h1]
    by_cases h2 : 0 < y.links ∨ 0 < (listE g.E id).length
    · rw [if_pos h2]; exact h
    rw [if_neg h2]
    obtain ⟨x, hx, hxi, rfl⟩ := get_some hg
    have hno : ∀ e ∈ g.E, e.ino ≠ id ∧ e.dir ≠ id := fun e he => ⟨fun q => h2 (Or.inl (by
        have : 0 < linksE g.E id := List.length_pos_of_mem (a := e) (List.mem_filter.2 ⟨he, by simp [q]⟩)
        dsimp only; omega)), fun q => h2 (Or.inr (List.length_pos_of_mem (a := e) (List.mem_filter.2 ⟨he, by simp [q]⟩)))⟩
    have hm : ∀ z, z ∈ g.I.filter (fun x => !decide (x.id = id)) ↔ z ∈ g.I ∧ z.id ≠ id := fun z => by simp
    have hdir : ∀ i, i ≠ id → ((⟨g.I.filter (fun x => !decide (x.id = id)), g.E⟩ : Gr).isDir i ↔ g.isDir i) := fun i hi => by
      constructor
      · rintro ⟨z, hz, p, q⟩; exact ⟨z, ((hm z).1 hz).1, p, q⟩
      · rintro ⟨z, hz, p, q⟩; exact ⟨z, (hm z).2 ⟨hz, by rw [p]; exact hi⟩, p, q⟩
    exact {
      sortI := h.sortI.filter _
      sortE := h.sortE
      few := Nat.le_trans (List.length_filter_le _ _) h.few
      links0 := fun z hz => h.links0 z ((hm z).1 hz).1
      kinds := fun z hz => h.kinds z ((hm z).1 hz).1
      may := fun z hz => h.may z ((hm z).1 hz).1
      root := (hdir (0, 0) (Ne.symm h1)).2 h.root
      dirs := fun e he => (hdir _ (hno e he).2).2 (h.dirs e he)
      inos := fun e he => by obtain ⟨z, hz, p⟩ := h.inos e he; exact ⟨z, (hm z).2 ⟨hz, by rw [p]; exact (hno e he).1⟩, p⟩
      noRoot := h.noRoot
      six := h.six
      one := fun i hi => by obtain ⟨z, hz, p, q⟩ := hi; exact h.one i ⟨z, ((hm z).1 hz).1, p, q⟩
      rank := by obtain ⟨f, hf⟩ := h.rank; exact ⟨f, fun e he hd => hf e he (by obtain ⟨z, hz, p, q⟩ := hd; exact ⟨z, ((hm z).1 hz).1, p, q⟩)⟩ }

end Go.Proofs.YtbkijfhfjhpebaaGreatDoor.GraphMath

/-
  Plain mathematics of layer 9: entries in their order. It needs no program.
-/
namespace Go.Proofs.YtbkijfhfjhpebaaGreatDoor.GraphMath
open StampMath

theorem bytes_irrefl : ∀ (a : List UInt8), ¬ a < a
  | [] => by simp
  | x :: l => by
    rw [List.cons_lt_cons_iff]
    rintro (h | ⟨_, h⟩)
    · exact absurd h (UInt8.lt_irrefl x)
    · exact bytes_irrefl l h

theorem bytes_trans : ∀ {a b c : List UInt8}, a < b → b < c → a < c
  | _, [], _, h, _ => by simp at h
  | [], _ :: _, [], _, h => by simp at h
  | [], _ :: _, _ :: _, _, _ => by simp
  | _ :: _, _ :: _, [], _, h => by simp at h
  | x :: a, y :: b, z :: c, h1, h2 => by
    rw [List.cons_lt_cons_iff] at h1 h2 ⊢
    rcases h1 with h1 | ⟨rfl, h1⟩
    · rcases h2 with h2 | ⟨rfl, _⟩
      · exact Or.inl (UInt8.lt_trans h1 h2)
      · exact Or.inl h1
    · rcases h2 with h2 | ⟨rfl, h2⟩
      · exact Or.inl h2
      · exact Or.inr ⟨rfl, bytes_trans h1 h2⟩

theorem bytes_total : ∀ {a b : List UInt8}, ¬ a < b → a ≠ b → b < a
  | [], [], _, h => absurd rfl h
  | [], _ :: _, h, _ => absurd (by simp) h
  | _ :: _, [], _, _ => by simp
  | x :: a, y :: b, h, hne => by
    rw [List.cons_lt_cons_iff] at h ⊢
    by_cases hxy : x = y
    · subst hxy
      exact Or.inr ⟨rfl, bytes_total (fun q => h (Or.inr ⟨rfl, q⟩)) (fun q => hne (by rw [q]))⟩
    · refine Or.inl ?_
      have h1 : ¬ x < y := fun q => h (Or.inl q)
      rw [UInt8.lt_iff_toNat_lt] at h1 ⊢
      have h2 : x.toNat ≠ y.toNat := fun q => hxy (UInt8.toNat_inj.1 q)
      omega

theorem aheadE_iff (a b : Ent) : aheadE a b = true ↔ lessS a.dir b.dir = true ∨ (a.dir = b.dir ∧ a.name.data.toList < b.name.data.toList) := by
  unfold aheadE
  rw [Bool.or_eq_true, Bool.and_eq_true, decide_eq_true_iff, decide_eq_true_iff]

theorem aheadE_trans {a b c : Ent} (h1 : aheadE a b = true) (h2 : aheadE b c = true) : aheadE a c = true := by
  rw [aheadE_iff] at h1 h2 ⊢
  rcases h1 with h1 | ⟨e1, h1⟩
  · rcases h2 with h2 | ⟨e2, _⟩
    · exact Or.inl (lessS_trans h1 h2)
    · exact Or.inl (e2 ▸ h1)
  · rcases h2 with h2 | ⟨e2, h2⟩
    · exact Or.inl (e1 ▸ h2)
    · exact Or.inr ⟨e1.trans e2, bytes_trans h1 h2⟩

theorem aheadE_total {a b : Ent} (h : aheadE a b = false) (hne : ¬ (a.dir = b.dir ∧ a.name = b.name)) : aheadE b a = true := by
  have h1 : ¬ (lessS a.dir b.dir = true ∨ (a.dir = b.dir ∧ a.name.data.toList < b.name.data.toList)) := fun q => by
    rw [(aheadE_iff a b).2 q] at h
    cases h
  rw [aheadE_iff]
  by_cases hd : a.dir = b.dir
  · refine Or.inr ⟨hd.symm, bytes_total (fun q => h1 (Or.inr ⟨hd, q⟩)) fun q => hne ⟨hd, ?_⟩⟩
    exact ByteArray.ext (Array.toList_inj.1 q)
  · refine Or.inl (lessS_total ?_ hd)
    cases hl : lessS a.dir b.dir with
    | false => rfl
    | true => exact absurd (Or.inl hl) h1

theorem look_none {E : List Ent} {d : St} {nm : ByteArray} (h : lookE E d nm = none) : ∀ e ∈ E, ¬ (e.dir = d ∧ e.name = nm) := by
  intro e he q
  unfold lookE at h
  rw [Option.map_eq_none_iff] at h
  have := List.find?_eq_none.1 h e he
  simp [q.1, q.2] at this

theorem putIn_perm {α : Type} (f : α → Bool) (l : List α) (x : α) : (putIn f l x).Perm (x :: l) := by
  unfold putIn
  refine List.perm_middle.trans ?_
  rw [List.takeWhile_append_dropWhile]

theorem linksE_put (f : Ent → Bool) (E : List Ent) (e : Ent) (id : St) : linksE (putIn f E e) id = linksE E id + if e.ino = id then 1 else 0 := by
  unfold linksE
  rw [((putIn_perm f E e).filter _).length_eq, List.filter_cons]
  by_cases h : e.ino = id
  · rw [if_pos h]; simp [h]
  · rw [if_neg h]; simp [h]

/-- id leads to d, upwards. -/
inductive Leads (g : Gr) : St → St → Prop
  | here (id : St) : Leads g id id
  | up (e : Ent) (d : St) : e ∈ g.E → g.isDir e.ino → Leads g e.dir d → Leads g e.ino d

/-- All of a kept graph is kept behind a Tie, if what is tied doesn't lead back. -/
theorem Gr.ok.tie_of {g : Gr} (h : g.ok) (e : Ent) (hd : g.isDir e.dir) (hi : ∃ x ∈ g.I, x.id = e.ino) (hr : e.ino ≠ (0, 0)) (hnew : lookE g.E e.dir e.name = none) (h6 : linksE g.E e.ino < 6) (h1 : g.isDir e.ino → linksE g.E e.ino = 0) (hl : g.isDir e.ino → ¬ Leads g e.dir e.ino) :
    (⟨g.I, putIn (fun a => aheadE a e) g.E e⟩ : Gr).ok := by
  have hm : ∀ a, a ∈ putIn (fun a => aheadE a e) g.E e ↔ a = e ∨ a ∈ g.E := fun a => putIn_mem
  exact {
    sortI := h.sortI
    sortE := putIn_sorted (r := aheadE) (fun p q => aheadE_trans p q) (fun a ha q => aheadE_total q (look_none hnew a ha)) h.sortE
    few := h.few
    links0 := h.links0
    kinds := h.kinds
    may := h.may
    root := h.root
    dirs := fun a ha => by rcases (hm a).1 ha with rfl | ha; exact hd; exact h.dirs a ha
    inos := fun a ha => by rcases (hm a).1 ha with rfl | ha; exact hi; exact h.inos a ha
    noRoot := fun a ha => by rcases (hm a).1 ha with rfl | ha; exact hr; exact h.noRoot a ha
    six := fun id => by
      show linksE (putIn (fun a => aheadE a e) g.E e) id ≤ 6
      rw [linksE_put]
      have := h.six id
      by_cases q : e.ino = id
      · rw [if_pos q]; rw [q] at h6; omega
      · rw [if_neg q]; omega
    one := fun id hid => by
      show linksE (putIn (fun a => aheadE a e) g.E e) id ≤ 1
      rw [linksE_put]
      have := h.one id hid
      by_cases q : e.ino = id
      · rw [if_pos q]; subst q; have := h1 hid; omega
      · rw [if_neg q]; omega
    rank := by
      obtain ⟨f, hf⟩ := h.rank
      by_cases hx : g.isDir e.ino
      · classical
        refine ⟨fun y => f y + if Leads g y e.ino then f e.dir + 1 else 0, fun a ha hda => ?_⟩
        dsimp only
        rcases (hm a).1 ha with rfl | ha
        · rw [if_neg (hl hx), if_pos (Leads.here _)]
          omega
        · have q := hf a ha hda
          by_cases hu : Leads g a.dir e.ino
          · rw [if_pos hu, if_pos (Leads.up a _ ha hda hu)]
            omega
          · rw [if_neg hu]
            omega
      · refine ⟨f, fun a ha hda => ?_⟩
        rcases (hm a).1 ha with rfl | ha
        · exact absurd hda hx
        · exact hf a ha hda }

end Go.Proofs.YtbkijfhfjhpebaaGreatDoor.GraphMath

/-
  Plain mathematics of layer 9: what the document's Under finds; Tie keeps what is true of a graph. It needs no program.
-/
namespace Go.Proofs.YtbkijfhfjhpebaaGreatDoor.GraphMath
open StampMath

theorem nodup_le {α : Type} [DecidableEq α] : ∀ {L M : List α}, L.Nodup → (∀ x ∈ L, x ∈ M) → L.length ≤ M.length
  | [], _, _, _ => Nat.zero_le _
  | a :: L, M, hn, hs => by
    rw [List.nodup_cons] at hn
    have ha := hs a (List.mem_cons_self ..)
    have := nodup_le (L := L) (M := M.erase a) hn.2 fun x hx => (List.mem_erase_of_ne (fun e : x = a => hn.1 (by rw [← e]; exact hx))).2 (hs x (List.mem_cons_of_mem _ hx))
    rw [List.length_erase_of_mem ha] at this
    have hp := List.length_pos_of_mem ha
    rw [List.length_cons]
    omega

theorem Gr.ok.getDir {g : Gr} (h : g.ok) {id : St} (hd : g.isDir id) : ∃ x, getG g id = some x ∧ x.kind = 1 := by
  obtain ⟨x, hx, rfl, hk⟩ := hd
  exact ⟨_, h.get hx, hk⟩

theorem getDir_of {g : Gr} {id : St} {x : Ino} (h : getG g id = some x) (hk : x.kind = 1) : g.isDir id := by
  obtain ⟨y, hy, hi, rfl⟩ := get_some h
  exact ⟨y, hy, hi, hk⟩

theorem Gr.ok.parent {g : Gr} (h : g.ok) {e : Ent} (he : e ∈ g.E) (hd : g.isDir e.ino) : parentG g e.ino = some e.dir := by
  obtain ⟨x, hx, hk⟩ := h.getDir hd
  unfold parentG
  rw [hx]
  dsimp only
  rw [if_pos hk]
  have hone := h.one e.ino hd
  unfold linksE at hone
  have hmem : e ∈ g.E.filter fun a => decide (a.ino = e.ino) := List.mem_filter.2 ⟨he, by simp⟩
  cases hf : g.E.find? (fun a => decide (a.ino = e.ino)) with
  | none =>
    have := List.find?_eq_none.1 hf e he
    simp at this
  | some a =>
    have hmem2 : a ∈ g.E.filter fun b => decide (b.ino = e.ino) := List.mem_filter.2 ⟨List.mem_of_find?_eq_some hf, List.find?_some (p := fun b : Ent => decide (b.ino = e.ino)) hf⟩
    cases hl : g.E.filter fun b => decide (b.ino = e.ino) with
    | nil => rw [hl] at hmem; cases hmem
    | cons b t =>
      rw [hl] at hone hmem hmem2
      have ht : t = [] := List.eq_nil_of_length_eq_zero (by rw [List.length_cons] at hone; omega)
      subst ht
      rw [List.mem_singleton] at hmem hmem2
      rw [hmem2, hmem]
      rfl

theorem parent_of {g : Gr} {id up : St} (h : parentG g id = some up) : ∃ e ∈ g.E, e.ino = id ∧ e.dir = up ∧ g.isDir id := by
  unfold parentG at h
  cases hg : getG g id with
  | none => rw [hg] at h; cases h
  | some x =>
    rw [hg] at h
    dsimp only at h
    by_cases hk : x.kind = 1
    · rw [if_pos hk, Option.map_eq_some_iff] at h
      obtain ⟨e, he, rfl⟩ := h
      have h1 := List.find?_some he
      simp at h1
      exact ⟨e, List.mem_of_find?_eq_some he, h1, rfl, getDir_of hg hk⟩
    · rw [if_neg hk] at h
      cases h

theorem underN_step (g : Gr) (n : Nat) (a b : St) : underN g (n + 1) a b = if a = b then true else match parentG g a with
    | none => false
    | some up => underN g n up b := rfl

theorem under_leads (g : Gr) : ∀ (n : Nat) {a b : St}, underN g n a b = true → Leads g a b
  | 0, _, _, h => by cases h
  | n + 1, a, b, h => by
    rw [underN_step] at h
    by_cases hab : a = b
    · subst hab; exact Leads.here _
    · rw [if_neg hab] at h
      cases hp : parentG g a with
      | none => rw [hp] at h; cases h
      | some up =>
        rw [hp] at h
        obtain ⟨e, he, rfl, rfl, hd⟩ := parent_of hp
        exact Leads.up e b he hd (under_leads g n h)

theorem under_more (g : Gr) : ∀ (n : Nat) {a b : St}, underN g n a b = true → underN g (n + 1) a b = true
  | 0, _, _, h => by cases h
  | n + 1, a, b, h => by
    rw [underN_step] at h ⊢
    by_cases hab : a = b
    · rw [if_pos hab]
    · rw [if_neg hab] at h ⊢
      cases hp : parentG g a with
      | none => rw [hp] at h; cases h
      | some up =>
        rw [hp] at h
        exact under_more g n h

theorem under_mono (g : Gr) {n m : Nat} (hnm : n ≤ m) {a b : St} (h : underN g n a b = true) : underN g m a b = true := by
  induction hnm with
  | refl => exact h
  | step _ ih => exact under_more g _ ih

/-- What leads there is found. -/
theorem Gr.ok.leads {g : Gr} (h : g.ok) {a b : St} : underG g a b = true ↔ Leads g a b := by
  constructor
  · exact under_leads g _
  · intro hl
    obtain ⟨f, hf⟩ := h.rank
    have key : ∃ L : List St, L.Nodup ∧ (∀ x ∈ L, g.isDir x ∧ f x ≤ f a) ∧ underN g (L.length + 1) a b = true := by
      induction hl with
      | here id => exact ⟨[], List.nodup_nil, fun x hx => (by cases hx), by rw [underN_step, if_pos rfl]⟩
      | up e d he hd _ ih =>
        obtain ⟨L, h1, h2, h3⟩ := ih
        have hlt := hf e he hd
        refine ⟨e.ino :: L, List.nodup_cons.2 ⟨fun q => by have := (h2 _ q).2; omega, h1⟩, fun x hx => ?_, ?_⟩
        · rcases List.mem_cons.1 hx with rfl | hx
          · exact ⟨hd, Nat.le_refl _⟩
          · exact ⟨(h2 x hx).1, by have := (h2 x hx).2; omega⟩
        · rw [underN_step]
          by_cases hq : e.ino = d
          · rw [if_pos hq]
          · rw [if_neg hq, h.parent he hd]
            exact h3
    obtain ⟨L, h1, h2, h3⟩ := key
    have hlen : L.length ≤ g.I.length := by
      have := nodup_le (L := L) (M := g.I.map fun x => x.id) h1 fun x hx => by
        obtain ⟨y, hy, hi, _⟩ := (h2 x hx).1
        exact List.mem_map.2 ⟨y, hy, hi⟩
      rwa [List.length_map] at this
    exact under_mono g (by omega) h3

theorem Gr.ok.tie {g : Gr} (h : g.ok) (nameOk : Bool) (e : Ent) : (tieG nameOk g e).1.ok := by
  unfold tieG
  by_cases hw : whyG nameOk g e = 0
  · rw [if_pos hw]
    unfold whyG at hw
    by_cases hn : nameOk = false
    · rw [if_pos hn] at hw; cases hw
    rw [if_neg hn] at hw
    cases ha : getG g e.dir with
    | none => rw [ha] at hw; cases hw
    | some a =>
      cases hx : getG g e.ino with
      | none => rw [ha, hx] at hw; cases hw
      | some x =>
        rw [ha, hx] at hw
        dsimp only at hw
        by_cases hk : a.kind ≠ 1
        · rw [if_pos hk] at hw; cases hw
        rw [if_neg hk] at hw
        by_cases hlk : (lookE g.E e.dir e.name).isSome = true
        · rw [if_pos hlk] at hw; cases hw
        rw [if_neg hlk] at hw
        by_cases hu : x.kind = 1 ∧ (e.ino = (0, 0) ∨ underG g e.dir e.ino = true)
        · rw [if_pos hu] at hw; cases hw
        rw [if_neg hu] at hw
        by_cases hls : x.kind = 1 ∧ 0 < x.links ∨ 6 ≤ x.links
        · rw [if_pos hls] at hw; cases hw
        obtain ⟨y, hy, hyi, hxe⟩ := get_some hx
        have hxl : x.links = (linksE g.E e.ino : Int) := by rw [hxe]
        have hkind : g.isDir e.ino → x.kind = 1 := fun hd => by
          obtain ⟨z, hz, hzk⟩ := h.getDir hd
          rw [hx] at hz
          rw [Option.some.inj hz]
          exact hzk
        have hlook : lookE g.E e.dir e.name = none := by
          cases hq : lookE g.E e.dir e.name with
          | none => rfl
          | some z => rw [hq] at hlk; exact absurd rfl hlk
        refine h.tie_of e (getDir_of ha (by omega)) ⟨y, hy, hyi⟩ (fun q => hu ⟨hkind (by rw [q]; exact h.root), Or.inl q⟩) hlook (by omega) (fun hd => by have := hkind hd; omega) fun hd hle => hu ⟨hkind hd, Or.inr (h.leads.2 hle)⟩
  · rw [if_neg hw]
    exact h

end Go.Proofs.YtbkijfhfjhpebaaGreatDoor.GraphMath

/-
  Plain mathematics of layer 15: a path's parts. It needs no program.
-/
namespace Go.Proofs.YtbkijfhfjhpebaaGreatDoor.GraphMath

abbrev Bs := List UInt8

/-- What stands between a text's slashes. -/
def pieces : Bs → List Bs
  | [] => [[]]
  | x :: r => if x = 47 then [] :: pieces r else match pieces r with
    | [] => [[x]]
    | a :: t => (x :: a) :: t

/-- Is it a part: is it neither empty, nor one point? -/
def isPart (a : Bs) : Bool := !(a == []) && !(a == [46])

def partsP (p : Bs) : List Bs := (pieces p).filter isPart

/-- What Split tells of a path: 0, or why it is none. -/
def errP (p : Bs) : Int :=
  if p = [] then 3
  else if 128 < p.length ∨ (partsP p).any (fun a => decide (8 < a.length)) = true then 10
  else if p.any (· == 0) = true then 1
  else 0

theorem pieces_ne (p : Bs) : pieces p ≠ [] := by
  cases p with
  | nil => simp [pieces]
  | cons x r =>
    unfold pieces
    split
    · simp
    · split <;> simp

theorem pieces_cons (x : UInt8) (r : Bs) : pieces (x :: r) = if x = 47 then [] :: pieces r else match pieces r with
    | [] => [[x]]
    | a :: t => (x :: a) :: t := rfl

theorem pieces_slash (a b : Bs) : pieces (a ++ 47 :: b) = pieces a ++ pieces b := by
  induction a with
  | nil => simp [pieces]
  | cons x r ih =>
    rw [List.cons_append, pieces_cons, pieces_cons x r, ih]
    split
    · rfl
    · cases h : pieces r with
      | nil => exact absurd h (pieces_ne r)
      | cons u t => rfl

theorem pieces_one (a : Bs) (h : (47 : UInt8) ∉ a) : pieces a = [a] := by
  induction a with
  | nil => rfl
  | cons x r ih =>
    unfold pieces
    rw [if_neg (fun e => h (by simp [e])), ih (fun e => h (by simp [e]))]

theorem mem_pieces {p a : Bs} (h : a ∈ pieces p) : ∀ c ∈ a, c ≠ 47 ∧ c ∈ p := by
  induction p generalizing a with
  | nil =>
    simp only [pieces, List.mem_singleton] at h
    intro c hc
    rw [h] at hc
    cases hc
  | cons x r ih =>
    unfold pieces at h
    split at h
    · rcases List.mem_cons.1 h with e | e
      · intro c hc
        rw [e] at hc
        cases hc
      · intro c hc
        exact ⟨(ih e c hc).1, List.mem_cons_of_mem _ (ih e c hc).2⟩
    · rename_i hx
      cases hp : pieces r with
      | nil => exact absurd hp (pieces_ne r)
      | cons u t =>
        rw [hp] at h
        rcases List.mem_cons.1 h with e | e
        · intro c hc
          rw [e] at hc
          rcases List.mem_cons.1 hc with f | f
          · exact ⟨by rw [f]; exact hx, by rw [f]; exact List.mem_cons_self⟩
          · have := ih (a := u) (by rw [hp]; exact List.mem_cons_self) c f
            exact ⟨this.1, List.mem_cons_of_mem _ this.2⟩
        · intro c hc
          have := ih (a := a) (by rw [hp]; exact List.mem_cons_of_mem _ e) c hc
          exact ⟨this.1, List.mem_cons_of_mem _ this.2⟩

theorem parts_slash (a b : Bs) : partsP (a ++ 47 :: b) = partsP a ++ partsP b := by
  unfold partsP
  rw [pieces_slash, List.filter_append]

theorem parts_one {a : Bs} (h : (47 : UInt8) ∉ a) (hp : isPart a = true) : partsP a = [a] := by
  unfold partsP
  rw [pieces_one a h]
  simp [hp]

theorem parts_none {a : Bs} (h : (47 : UInt8) ∉ a) (hp : isPart a = false) : partsP a = [] := by
  unfold partsP
  rw [pieces_one a h]
  simp [hp]

theorem mem_parts {p a : Bs} (h : a ∈ partsP p) : isPart a = true ∧ ∀ c ∈ a, c ≠ 47 ∧ c ∈ p :=
  ⟨(List.mem_filter.1 h).2, mem_pieces (List.mem_filter.1 h).1⟩

/-- A text, up to its first slash and behind it. -/
theorem slash_cut (p : Bs) : (47 : UInt8) ∉ p ∨ ∃ a b, p = a ++ 47 :: b ∧ (47 : UInt8) ∉ a ∧ b.length < p.length := by
  induction p with
  | nil => exact .inl (by simp)
  | cons x r ih =>
    by_cases hx : x = 47
    · exact .inr ⟨[], r, by rw [hx]; rfl, by simp, by simp⟩
    · rcases ih with h | ⟨a, b, h1, h2, h3⟩
      · exact .inl (fun e => (List.mem_cons.1 e).elim (fun e => hx e.symm) h)
      · exact .inr ⟨x :: a, b, by rw [h1]; rfl, fun e => (List.mem_cons.1 e).elim (fun e => hx e.symm) h2, by simp; omega⟩

/-! ### slashes and points more -/

def moreP (p : Bs) : Bs := p.flatMap fun x => if x = 47 then [47, 46, 47] else [x]

theorem more_none {a : Bs} (h : (47 : UInt8) ∉ a) : moreP a = a := by
  induction a with
  | nil => rfl
  | cons x r ih =>
    unfold moreP at ih ⊢
    rw [List.flatMap_cons, if_neg (fun e => h (by simp [e])), ih (fun e => h (by simp [e]))]
    rfl

theorem more_slash (a b : Bs) : moreP (a ++ 47 :: b) = moreP a ++ (47 :: 46 :: 47 :: moreP b) := by
  unfold moreP
  rw [List.flatMap_append, List.flatMap_cons, if_pos rfl]
  rfl

theorem parts_more : ∀ (n : Nat) (p : Bs), p.length ≤ n → partsP (moreP p) = partsP p
  | 0, p, h => by
    have : p = [] := List.eq_nil_of_length_eq_zero (by omega)
    rw [this]
    rfl
  | n + 1, p, h => by
    rcases slash_cut p with hp | ⟨a, b, h1, h2, h3⟩
    · rw [more_none hp]
    · rw [h1, more_slash, parts_slash, parts_slash, more_none h2]
      have : partsP (46 :: 47 :: moreP b) = partsP (moreP b) := by
        show partsP ([46] ++ 47 :: moreP b) = _
        rw [parts_slash, parts_none (by decide) (by decide), List.nil_append]
      rw [this, parts_more n b (by omega)]

theorem parts_points (p : Bs) : partsP (moreP p ++ [47, 46]) = partsP p := by
  show partsP (moreP p ++ 47 :: [46]) = _
  rw [parts_slash, parts_more _ p (Nat.le_refl _), parts_none (a := [46]) (by decide) (by decide), List.append_nil]

theorem more_zero (p : Bs) : (moreP p).any (· == 0) = p.any (· == 0) := by
  induction p with
  | nil => rfl
  | cons x r ih =>
    unfold moreP at ih ⊢
    rw [List.flatMap_cons, List.any_append, ih, List.any_cons]
    congr 1
    split
    · rename_i e; rw [e]; decide
    · simp

theorem more_ne {p : Bs} (h : p ≠ []) : moreP p ≠ [] := by
  cases p with
  | nil => exact absurd rfl h
  | cons x r =>
    unfold moreP
    rw [List.flatMap_cons]
    split <;> simp

theorem more_head (p : Bs) : (moreP p).head? = p.head? := by
  cases p with
  | nil => rfl
  | cons x r =>
    unfold moreP
    rw [List.flatMap_cons]
    split
    · rename_i e; rw [e]; rfl
    · rfl

theorem err_points {p : Bs} (h : p ≠ []) (h60 : p.length ≤ 128) (hl : (moreP p ++ [47, 46]).length ≤ 128) : errP (moreP p ++ [47, 46]) = errP p := by
  unfold errP
  rw [if_neg (by simp), if_neg h, parts_points, List.any_append, more_zero]
  have e1 : ([47, 46] : Bs).any (· == 0) = false := by decide
  rw [e1, Bool.or_false]
  congr 1
  exact propext ⟨fun q => q.imp (by omega) id, fun q => q.imp (by omega) id⟩

/-! ### a path of parts -/

def joinP (l : List Bs) : Bs := 47 :: l.flatMap fun a => a ++ [47]

theorem parts_join {l : List Bs} (h : ∀ a ∈ l, isPart a = true ∧ (47 : UInt8) ∉ a) : partsP (joinP l) = l := by
  unfold joinP
  show partsP ([] ++ 47 :: _) = _
  rw [parts_slash, parts_none (by simp) (by decide), List.nil_append]
  induction l with
  | nil => decide
  | cons a t ih =>
    rw [List.flatMap_cons, List.append_assoc]
    show partsP (a ++ 47 :: List.flatMap (fun a => a ++ [47]) t) = _
    rw [parts_slash, parts_one (h a List.mem_cons_self).2 (h a List.mem_cons_self).1, ih (fun b hb => h b (List.mem_cons_of_mem _ hb))]
    rfl

theorem err_zero {p : Bs} (h : errP p = 0) : p ≠ [] ∧ p.length ≤ 128 ∧ (∀ a ∈ partsP p, a.length ≤ 8) ∧ (0 : UInt8) ∉ p := by
  unfold errP at h
  split at h
  · cases h
  rename_i h1
  split at h
  · cases h
  rename_i h2
  split at h
  · cases h
  rename_i h3
  refine ⟨h1, Classical.byContradiction fun q => h2 (.inl (by omega)), fun a ha => Classical.byContradiction fun q => h2 (.inr (List.any_eq_true.2 ⟨a, ha, by simpa using q⟩)), fun q => h3 (List.any_eq_true.2 ⟨0, q, rfl⟩)⟩

theorem err_of {p : Bs} (h1 : p ≠ []) (h2 : p.length ≤ 128) (h3 : ∀ a ∈ partsP p, a.length ≤ 8) (h4 : (0 : UInt8) ∉ p) : errP p = 0 := by
  unfold errP
  rw [if_neg h1, if_neg, if_neg]
  · intro q
    obtain ⟨x, hx, he⟩ := List.any_eq_true.1 q
    exact h4 ((beq_iff_eq.1 he) ▸ hx)
  · rintro (q | q)
    · omega
    · obtain ⟨a, ha, he⟩ := List.any_eq_true.1 q
      have := h3 a ha
      have := of_decide_eq_true he
      omega

theorem pieces_len (p : Bs) : (pieces p).length ≤ p.length + 1 := by
  induction p with
  | nil => decide
  | cons x r ih =>
    rw [pieces_cons]
    split
    · simp; omega
    · cases h : pieces r with
      | nil => simp
      | cons a t => rw [h] at ih; simp at ih ⊢; omega

theorem parts_len (p : Bs) : (partsP p).length ≤ p.length + 1 := Nat.le_trans (List.length_filter_le _ _) (pieces_len p)

theorem join_len (l : List Bs) (h : ∀ a ∈ l, a.length ≤ 8) : (l.flatMap fun a => a ++ [47]).length ≤ 9 * l.length := by
  induction l with
  | nil => decide
  | cons a t ih =>
    rw [List.flatMap_cons, List.length_append, List.length_append, List.length_cons]
    have := h a List.mem_cons_self
    have := ih fun b hb => h b (List.mem_cons_of_mem _ hb)
    simp only [List.length_cons, List.length_nil]
    omega

theorem more_len (p : Bs) : (moreP p).length ≤ 3 * p.length := by
  induction p with
  | nil => decide
  | cons x r ih =>
    unfold moreP at ih ⊢
    rw [List.flatMap_cons, List.length_append, List.length_cons]
    split <;> simp only [List.length_cons, List.length_nil] <;> omega

theorem more_snoc (p : Bs) (k : Nat) (h : k < p.length) : moreP (p.take (k + 1)) = moreP (p.take k) ++ (if p[k] = 47 then [47, 46, 47] else [p[k]]) := by
  unfold moreP
  rw [List.take_succ_eq_append_getElem h, List.flatMap_append]
  simp

theorem err_join {p : Bs} (h : errP p = 0) (hl : (joinP (partsP p)).length ≤ 128) : errP (joinP (partsP p)) = 0 := by
  obtain ⟨h1, h2, h3, h4⟩ := err_zero h
  refine err_of (by simp [joinP]) hl ?_ ?_
  · rw [parts_join fun a ha => ⟨(mem_parts ha).1, fun q => ((mem_parts ha).2 _ q).1 rfl⟩]
    exact h3
  · intro q
    unfold joinP at q
    rcases List.mem_cons.1 q with e | e
    · cases e
    · obtain ⟨a, ha, hx⟩ := List.mem_flatMap.1 e
      rcases List.mem_append.1 hx with f | f
      · exact h4 ((mem_parts ha).2 _ f).2
      · simp at f

/-! ### two points behind a path -/

theorem parts_up (p : Bs) : partsP (p ++ [47, 46, 46]) = partsP p ++ [[46, 46]] := by
  show partsP (p ++ 47 :: [46, 46]) = _
  rw [parts_slash, parts_one (a := [46, 46]) (by decide) (by decide)]

theorem err_up {p : Bs} (h : p ≠ []) (hl : p.length ≤ 100) : errP (p ++ [47, 46, 46]) = errP p := by
  unfold errP
  rw [if_neg (by simp), if_neg h, parts_up, List.any_append, List.any_append]
  have e1 : ([47, 46, 46] : Bs).any (· == 0) = false := by decide
  have e2 : ([[46, 46]] : List Bs).any (fun a => decide (8 < a.length)) = false := by decide
  rw [e1, e2, Bool.or_false, Bool.or_false]
  congr 1
  rw [List.length_append]
  exact propext ⟨fun q => q.imp (by simp; omega) id, fun q => q.imp (by simp; omega) id⟩

end Go.Proofs.YtbkijfhfjhpebaaGreatDoor.GraphMath

/-
  What the calls on stamps answer, as values. It needs no program.
-/
namespace Go.Proofs.YtbkijfhfjhpebaaGreatDoor
open Go.RowKit StampMath PackMath

/-- What the next stamp of a time is. -/
def nextV (t r : Int) : Value :=
  if r < 0 ∨ 7 < r ∨ t < 0 then .tuple #[.agg #[.int .i64 0, .int .i64 0], .int .i64 1]
  else if 1073741824 ≤ t then .tuple #[.agg #[.int .i64 0, .int .i64 0], .int .i64 14]
  else .tuple #[.agg #[.int .i64 (t + 1), .int .i64 r], .int .i64 0]

/-- The bytes of a stamp. -/
def putL (t r : Int) : List UInt8 := numL (zig t) ++ numL (zig r)

theorem putL_str (t r : Int) : (⟨(numL (zig t)).toArray⟩ : ByteArray) ++ ⟨(numL (zig r)).toArray⟩ = ⟨(putL t r).toArray⟩ := by
  rw [mk_append_data]; rfl

/-- The stamp that may be with which a list begins. -/
def stampL (l : List UInt8) : Option (Int × Int × List UInt8) :=
  match takeL l with
  | none => none
  | some (m, t) => match takeL t with
    | none => none
    | some (k, u) => if mayB (unzig m) (unzig k) then some (unzig m, unzig k, u) else none

/-- The three results. -/
def stampRes : Option (Int × Int × List UInt8) → Value
  | some (t, r, u) => .tuple #[.agg #[.int .i64 t, .int .i64 r], .string ⟨u.toArray⟩, .int .i64 0]
  | none => .tuple #[.agg #[.int .i64 0, .int .i64 0], .string ⟨#[]⟩, .int .i64 2]

theorem stampL_none1 {l : List UInt8} (h : takeL l = none) : stampL l = none := by unfold stampL; rw [h]
theorem stampL_none2 {l t : List UInt8} {m : Nat} (h : takeL l = some (m, t)) (h2 : takeL t = none) : stampL l = none := by unfold stampL; rw [h]; simp only; rw [h2]
theorem stampL_may {l t u : List UInt8} {m k : Nat} (h : takeL l = some (m, t)) (h2 : takeL t = some (k, u)) : stampL l = if mayB (unzig m) (unzig k) then some (unzig m, unzig k, u) else none := by unfold stampL; rw [h]; simp only; rw [h2]

theorem putL_len (t r : Int) : (putL t r).length ≤ 20 := by
  have h1 := (numL_length (zig t)).2
  have h2 := (numL_length (zig r)).2
  unfold putL
  rw [List.length_append]
  omega

/-- What was put is taken, if it may be. -/
theorem stampL_putL (t r : Int) (ht : IsI64 t) (hr : IsI64 r) (s : List UInt8) : stampL (putL t r ++ s) = if mayB t r then some (t, r, s) else none := by
  unfold putL
  rw [List.append_assoc, stampL_may (takeL_numL _ (zig_u64 ht) _) (takeL_numL _ (zig_u64 hr) _), unzig_zig, unzig_zig]

/-- What is taken has the very bytes, and may be. -/
theorem stampL_very {l u : List UInt8} {t r : Int} (h : stampL l = some (t, r, u)) : putL t r ++ u = l ∧ mayB t r = true ∧ IsI64 t ∧ IsI64 r ∧ u.length ≤ l.length := by
  cases h1 : takeL l with
  | none => rw [stampL_none1 h1] at h; cases h
  | some x =>
    obtain ⟨m, v⟩ := x
    cases h2 : takeL v with
    | none => rw [stampL_none2 h1 h2] at h; cases h
    | some y =>
      obtain ⟨k, v'⟩ := y
      rw [stampL_may h1 h2] at h
      by_cases hm : mayB (unzig m) (unzig k) = true
      · rw [if_pos hm] at h
        simp only [Option.some.injEq, Prod.mk.injEq] at h
        obtain ⟨rfl, rfl, rfl⟩ := h
        have e : putL (unzig m) (unzig k) ++ v' = l := by
          unfold putL
          rw [zig_unzig, zig_unzig, List.append_assoc, numL_takeL h2, numL_takeL h1]
        exact ⟨e, hm, unzig_i64 (takeL_u64 h1), unzig_i64 (takeL_u64 h2), by rw [← e]; simp⟩
      · rw [if_neg hm] at h; cases h

end Go.Proofs.YtbkijfhfjhpebaaGreatDoor

/-
  Plain mathematics of layer 5: operations, kind by kind. It needs no program.
-/
namespace Go.Proofs.YtbkijfhfjhpebaaGreatDoor.OpMath
open Go.RowKit StampMath PackMath

/-- An operation: its stamp, its kind, three stamps, two names, a number, bytes. -/
structure Opn where
  st : Int
  sr : Int
  k : Int
  pt : Int
  pr : Int
  it : Int
  ir : Int
  tt : Int
  tr : Int
  name : ByteArray
  new : ByteArray
  off : Int
  data : ByteArray
deriving DecidableEq

/-- An operation as cells. -/
def opA (o : Opn) : Array Value := #[.int .i64 o.st, .int .i64 o.sr, .int .i64 o.k, .int .i64 o.pt, .int .i64 o.pr, .int .i64 o.it, .int .i64 o.ir, .int .i64 o.tt, .int .i64 o.tr, .string o.name, .string o.new, .int .i64 o.off, .string o.data]

theorem opA_size (o : Opn) : (opA o).size = 13 := rfl

theorem op_cells {w : World} {g : Nat} {o : Opn} {T : TypeId} (h : w.heap[g]? = some (.cells (opA o) T (0, 0))) :
    w.cell? ⟨g, 0, none⟩ = some (.int .i64 o.st) ∧ w.cell? ⟨g, 1, none⟩ = some (.int .i64 o.sr) ∧ w.cell? ⟨g, 2, none⟩ = some (.int .i64 o.k) ∧ w.cell? ⟨g, 3, none⟩ = some (.int .i64 o.pt) ∧ w.cell? ⟨g, 4, none⟩ = some (.int .i64 o.pr) ∧
    w.cell? ⟨g, 5, none⟩ = some (.int .i64 o.it) ∧ w.cell? ⟨g, 6, none⟩ = some (.int .i64 o.ir) ∧ w.cell? ⟨g, 7, none⟩ = some (.int .i64 o.tt) ∧ w.cell? ⟨g, 8, none⟩ = some (.int .i64 o.tr) ∧
    w.cell? ⟨g, 9, none⟩ = some (.string o.name) ∧ w.cell? ⟨g, 10, none⟩ = some (.string o.new) ∧ w.cell? ⟨g, 11, none⟩ = some (.int .i64 o.off) ∧ w.cell? ⟨g, 12, none⟩ = some (.string o.data) :=
  ⟨cell_of_row _ _ 0 _ _ (0, 0) h, cell_of_row _ _ 1 _ _ (0, 0) h, cell_of_row _ _ 2 _ _ (0, 0) h, cell_of_row _ _ 3 _ _ (0, 0) h, cell_of_row _ _ 4 _ _ (0, 0) h, cell_of_row _ _ 5 _ _ (0, 0) h, cell_of_row _ _ 6 _ _ (0, 0) h,
    cell_of_row _ _ 7 _ _ (0, 0) h, cell_of_row _ _ 8 _ _ (0, 0) h, cell_of_row _ _ 9 _ _ (0, 0) h, cell_of_row _ _ 10 _ _ (0, 0) h, cell_of_row _ _ 11 _ _ (0, 0) h, cell_of_row _ _ 12 _ _ (0, 0) h⟩

/-- An operation with the fields that its kind has, alone. -/
def bareO (o : Opn) : Opn where
  st := o.st
  sr := o.sr
  k := o.k
  pt := if o.k ≤ 7 then o.pt else 0
  pr := if o.k ≤ 7 then o.pr else 0
  it := if 4 ≤ o.k then o.it else 0
  ir := if 4 ≤ o.k then o.ir else 0
  tt := if o.k = 7 then o.tt else 0
  tr := if o.k = 7 then o.tr else 0
  name := if o.k ≤ 7 then o.name else ⟨#[]⟩
  new := if o.k = 7 then o.new else ⟨#[]⟩
  off := if 8 ≤ o.k then o.off else 0
  data := if o.k = 3 ∨ o.k = 8 then o.data else ⟨#[]⟩

/-- The kind of inode that it makes. -/
def makesO (o : Opn) : Int := if 1 ≤ o.k ∧ o.k ≤ 3 then o.k else 0

/-- The inodes that it names. -/
def usesO (o : Opn) : List (Int × Int) := (if 1 ≤ o.k ∧ o.k ≤ 7 then [(o.pt, o.pr)] else []) ++ (if 4 ≤ o.k ∧ o.k ≤ 10 then [(o.it, o.ir)] else []) ++ (if o.k = 7 then [(o.tt, o.tr)] else [])

/-- Has a text a byte? -/
def hasB (s : ByteArray) (c : UInt8) : Bool := s.data.toList.any (· == c)

/-- Is it a name? -/
def nameB (s : ByteArray) : Bool := decide (1 ≤ s.size) && decide (s.size ≤ 8) && !(s.toList == [46]) && !(s.toList == [46, 46]) && !hasB s 47 && !hasB s 0

theorem any_next (s : ByteArray) (c : UInt8) (k : Nat) (h : k < s.size) : (s.data.toList.take (k + 1)).any (· == c) = ((s.data.toList.take k).any (· == c) || s[k] == c) := by
  rw [take_next s k h, List.any_append]
  simp

theorem any_all (s : ByteArray) (c : UInt8) (k : Nat) (h : s.size ≤ k) : (s.data.toList.take k).any (· == c) = hasB s c := by
  rw [List.take_of_length_le (by simpa using h)]; rfl

theorem any_some (s : ByteArray) (c : UInt8) (k : Nat) (h : k < s.size) (hc : s[k] = c) : hasB s c = true := by
  unfold hasB
  rw [List.any_eq_true]
  exact ⟨s[k], by rw [← data_get h]; exact List.getElem_mem _, by rw [hc]; exact beq_self_eq_true c⟩

/-- A text as bytes. -/
def textB (s : ByteArray) : List UInt8 := numL s.size ++ s.data.toList

theorem textB_len (s : ByteArray) : (textB s).length ≤ s.size + 10 := by
  have h := (numL_length s.size).2
  unfold textB
  rw [List.length_append]
  have e : s.data.toList.length = s.size := by simp
  omega

/-- An operation as bytes. -/
def putO (o : Opn) : List UInt8 :=
  numL (zig o.k) ++ putL o.st o.sr ++ putL o.pt o.pr ++ putL o.it o.ir ++ putL o.tt o.tr ++ textB o.name ++ textB o.new ++ numL (zig o.off) ++ textB o.data

/-- All numbers are integers of 64 bits. -/
structure Ok64 (o : Opn) : Prop where
  st : IsI64 o.st
  sr : IsI64 o.sr
  k : IsI64 o.k
  pt : IsI64 o.pt
  pr : IsI64 o.pr
  it : IsI64 o.it
  ir : IsI64 o.ir
  tt : IsI64 o.tt
  tr : IsI64 o.tr
  off : IsI64 o.off

theorem str_add (P : Program) (a b : List UInt8) (h : a.length + b.length ≤ 100000) (W : World) : (Op.stringOp .add ⟨a.toArray⟩ ⟨b.toArray⟩).run P W = .ok (.string ⟨(a ++ b).toArray⟩) W := by
  rw [run_string_add_sum W _ _ (by show a.length + b.length ≤ _; omega), mk_append_data]

/-- What is asked of its bytes and its number, by its kind. -/
def dataB (o : Opn) : Bool :=
  if o.k = 3 then decide (1 ≤ o.data.size) && decide (o.data.size ≤ 32) && !hasB o.data 0
  else if o.k = 8 then decide (0 ≤ o.off) && decide (1 ≤ o.data.size) && decide (o.data.size ≤ 64) && decide (o.off ≤ 64 - (o.data.size : Int))
  else if o.k = 9 then decide (0 ≤ o.off) && decide (o.off ≤ 64)
  else if o.k = 10 then decide (0 ≤ o.off) && decide (o.off ≤ 4095)
  else true

/-- May it be? -/
def mayO (o : Opn) : Bool :=
  decide (1 ≤ o.k) && decide (o.k ≤ 10) && decide (bareO o = o) && !(o.st == 0) && mayB o.st o.sr && (mayB o.pt o.pr && mayB o.it o.ir && mayB o.tt o.tr && (decide (7 < o.k) || nameB o.name) && (!(o.k == 7) || nameB o.new)) && dataB o

end Go.Proofs.YtbkijfhfjhpebaaGreatDoor.OpMath

/-
  Plain mathematics of layer 10: which inodes are reached; faults; what is true of what has none. It needs no program.
-/
namespace Go.Proofs.YtbkijfhfjhpebaaGreatDoor.GraphMath
open StampMath OpMath

/-- An inode's kind, as the first one with its number says. -/
def kindI (N : List Ino) (id : St) : Option Int := (N.find? fun x => decide (x.id = id)).map (·.kind)

theorem kindI_some {N : List Ino} {id : St} (h : (kindI N id).isSome) : ∃ x ∈ N, x.id = id := by
  unfold kindI at h
  cases hq : N.find? (fun x => decide (x.id = id)) with
  | none => rw [hq] at h; cases h
  | some x => exact ⟨x, List.mem_of_find?_eq_some hq, by simpa using List.find?_some hq⟩

theorem kindI_of {N : List Ino} {x : Ino} (h : x ∈ N) : (kindI N x.id).isSome := by
  unfold kindI
  cases hq : N.find? (fun y => decide (y.id = x.id)) with
  | none => have := List.find?_eq_none.1 hq x h; simp at this
  | some y => rfl

theorem kindI_none {N : List Ino} {id : St} (h : ∀ x ∈ N, x.id ≠ id) : kindI N id = none := by
  unfold kindI
  rw [List.find?_eq_none.2 (fun x hx => by simpa using h x hx)]
  rfl

/-- Reached in so many steps. -/
inductive ReachedN (N : List Ino) (E : List Ent) : Nat → St → Prop
  | root : (kindI N (0, 0)).isSome → ReachedN N E 0 (0, 0)
  | step {n : Nat} {e : Ent} : e ∈ E → ReachedN N E n e.dir → kindI N e.dir = some 1 → (kindI N e.ino).isSome → ReachedN N E (n + 1) e.ino

def Reached (N : List Ino) (E : List Ent) (s : St) : Prop := ∃ n, ReachedN N E n s

theorem Reached.ino {N : List Ino} {E : List Ent} {s : St} (h : Reached N E s) : ∃ x ∈ N, x.id = s := by
  obtain ⟨n, h⟩ := h
  cases h with
  | root h => exact kindI_some h
  | step _ _ _ h => exact kindI_some h

theorem Reached.mono {N : List Ino} {E E' : List Ent} (hE : ∀ e ∈ E, e ∈ E') {s : St} (h : Reached N E s) : Reached N E' s := by
  obtain ⟨n, h⟩ := h
  refine ⟨n, ?_⟩
  induction h with
  | root h => exact .root h
  | step h1 _ h3 h4 ih => exact .step (hE _ h1) ih h3 h4

/-- Strictly rising stamps. -/
def Rising (l : List St) : Prop := l.Pairwise fun a b => lessS a b = true

theorem Rising.nodup {l : List St} (h : Rising l) : l.Nodup := h.imp fun hab e => by rw [e, lessS_irrefl] at hab; cases hab

/-- Rising lists of the same stamps are the same. -/
theorem rising_same : ∀ {a b : List St}, Rising a → Rising b → (∀ s, s ∈ a ↔ s ∈ b) → a = b
  | [], [], _, _, _ => rfl
  | [], y :: b, _, _, h => by have := (h y).2 (by simp); cases this
  | x :: a, [], _, _, h => by have := (h x).1 (by simp); cases this
  | x :: a, y :: b, ha, hb, h => by
    obtain ⟨a1, a2⟩ := List.pairwise_cons.1 ha
    obtain ⟨b1, b2⟩ := List.pairwise_cons.1 hb
    have hxy : x = y := by
      rcases List.mem_cons.1 ((h x).1 (by simp)) with e | hx
      · exact e
      · rcases List.mem_cons.1 ((h y).2 (by simp)) with e | hy
        · exact e.symm
        · have := lessS_trans (a1 y hy) (b1 x hx)
          rw [lessS_irrefl] at this
          cases this
    subst hxy
    congr 1
    refine rising_same a2 b2 fun s => ⟨fun hs => ?_, fun hs => ?_⟩
    · rcases List.mem_cons.1 ((h s).1 (by simp [hs])) with e | hq
      · have := a1 s hs
        rw [e, lessS_irrefl] at this
        cases this
      · exact hq
    · rcases List.mem_cons.1 ((h s).2 (by simp [hs])) with e | hq
      · have := b1 s hs
        rw [e, lessS_irrefl] at this
        cases this
      · exact hq

/-- What Reach answers. -/
def IsReach (N : List Ino) (E : List Ent) (l : List St) : Prop := Rising l ∧ ∀ s, s ∈ l ↔ Reached N E s

/-! ### faults: none of each kind -/

def orderOk (N : List Ino) (E : List Ent) : Prop := (N.Pairwise fun a b => lessS a.id b.id = true) ∧ E.Pairwise fun a b => aheadE a b = true
def shapeOk (N : List Ino) (E : List Ent) : Prop := (∀ x ∈ N, mayB x.id.1 x.id.2 = true ∧ 1 ≤ x.kind ∧ x.kind ≤ 3) ∧ (∀ e ∈ E, nameB e.name = true) ∧ kindI N (0, 0) = some 1
def lostOk (N : List Ino) (E : List Ent) : Prop := ∀ e ∈ E, kindI N e.dir = some 1 ∧ (kindI N e.ino).isSome
def countOk (N : List Ino) (E : List Ent) : Prop := ∀ x ∈ N, x.links = (linksE E x.id : Int)
def manyOk1 (E : List Ent) (x : Ino) : Prop := if x.id = (0, 0) then linksE E x.id = 0 else 1 ≤ linksE E x.id ∧ linksE E x.id ≤ (if x.kind = 1 then 1 else 6)
def manyOk (N : List Ino) (E : List Ent) : Prop := ∀ x ∈ N, manyOk1 E x
def apartOk (N : List Ino) (E : List Ent) : Prop := ∀ x ∈ N, Reached N E x.id
def boundOk1 (x : Ino) : Prop := 0 ≤ x.mode ∧ x.mode ≤ 4095 ∧ (x.kind = 1 → x.data.size = 0) ∧ (x.kind = 2 → x.data.size ≤ 64) ∧ (x.kind = 3 → 1 ≤ x.data.size ∧ x.data.size ≤ 32)
def boundsOk (N : List Ino) : Prop := (∀ x ∈ N, boundOk1 x) ∧ N.length ≤ 40

/-- The fault of a number. -/
def faultOf (N : List Ino) (E : List Ent) (k : Int) : Prop :=
  (k = 1 ∧ ¬ orderOk N E) ∨ (k = 2 ∧ ¬ shapeOk N E) ∨ (k = 3 ∧ ¬ lostOk N E) ∨ (k = 4 ∧ ¬ countOk N E) ∨ (k = 5 ∧ ¬ manyOk N E) ∨ (k = 6 ∧ ¬ apartOk N E) ∨ (k = 7 ∧ ¬ boundsOk N)

/-- What Check answers. -/
def IsCheck (N : List Ino) (E : List Ent) (l : List Int) : Prop := (l.Pairwise fun a b => a < b) ∧ ∀ k, k ∈ l ↔ faultOf N E k

structure fineP (N : List Ino) (E : List Ent) : Prop where
  order : orderOk N E
  shape : shapeOk N E
  lost : lostOk N E
  count : countOk N E
  many : manyOk N E
  apart : apartOk N E
  bounds : boundsOk N

theorem fineP_iff {N : List Ino} {E : List Ent} {l : List Int} (h : IsCheck N E l) : l = [] ↔ fineP N E := by
  constructor
  · intro e
    subst e
    have hn : ∀ k, ¬ faultOf N E k := fun k hk => by have := (h.2 k).2 hk; cases this
    refine ⟨?_, ?_, ?_, ?_, ?_, ?_, ?_⟩
    · exact Classical.byContradiction fun q => hn 1 (.inl ⟨rfl, q⟩)
    · exact Classical.byContradiction fun q => hn 2 (.inr (.inl ⟨rfl, q⟩))
    · exact Classical.byContradiction fun q => hn 3 (.inr (.inr (.inl ⟨rfl, q⟩)))
    · exact Classical.byContradiction fun q => hn 4 (.inr (.inr (.inr (.inl ⟨rfl, q⟩))))
    · exact Classical.byContradiction fun q => hn 5 (.inr (.inr (.inr (.inr (.inl ⟨rfl, q⟩)))))
    · exact Classical.byContradiction fun q => hn 6 (.inr (.inr (.inr (.inr (.inr (.inl ⟨rfl, q⟩))))))
    · exact Classical.byContradiction fun q => hn 7 (.inr (.inr (.inr (.inr (.inr (.inr ⟨rfl, q⟩))))))
  · intro hf
    cases l with
    | nil => rfl
    | cons k l =>
      rcases (h.2 k).1 (by simp) with ⟨_, q⟩ | ⟨_, q⟩ | ⟨_, q⟩ | ⟨_, q⟩ | ⟨_, q⟩ | ⟨_, q⟩ | ⟨_, q⟩
      · exact absurd hf.order q
      · exact absurd hf.shape q
      · exact absurd hf.lost q
      · exact absurd hf.count q
      · exact absurd hf.many q
      · exact absurd hf.apart q
      · exact absurd hf.bounds q

/-! ### one less (P10.3) -/

theorem fineP.root {N : List Ino} {E : List Ent} (h : fineP N E) : ∃ x ∈ N, x.id = (0, 0) := kindI_some (by rw [h.shape.2.2]; rfl)

theorem fineP.ids {N : List Ino} {E : List Ent} (h : fineP N E) : Rising (N.map (·.id)) := by
  unfold Rising
  rw [List.pairwise_map]
  exact h.order.1

theorem fineP.nonempty {N : List Ino} {E : List Ent} (h : fineP N E) : 0 < N.length := by
  obtain ⟨x, hx, _⟩ := h.root
  exact List.length_pos_of_mem hx

theorem ids_apart {N : List Ino} (h : Rising (N.map (·.id))) {i : Nat} (hi : i < N.length) : ∀ x ∈ N.take i ++ N.drop (i + 1), x.id ≠ N[i].id := by
  intro x hx e
  have hn := h.nodup
  rw [List.Nodup, List.pairwise_map] at hn
  have hp := List.pairwise_iff_getElem.1 hn
  rcases List.mem_append.1 hx with hx | hx
  · obtain ⟨j, hj, rfl⟩ := List.getElem_of_mem hx
    rw [List.length_take] at hj
    rw [List.getElem_take] at e
    exact hp j i (by omega) hi (by omega) e
  · obtain ⟨j, hj, rfl⟩ := List.getElem_of_mem hx
    rw [List.length_drop] at hj
    rw [List.getElem_drop] at e
    exact hp i (i + 1 + j) hi (by omega) (by omega) e.symm

theorem links_pos {E : List Ent} {id : St} (h : 1 ≤ linksE E id) : ∃ e ∈ E, e.ino = id := by
  unfold linksE at h
  obtain ⟨e, he⟩ := List.exists_mem_of_length_pos (show 0 < (E.filter fun e => decide (e.ino = id)).length by omega)
  obtain ⟨h1, h2⟩ := List.mem_filter.1 he
  exact ⟨e, h1, by simpa using h2⟩

theorem fineP.less_ino {N : List Ino} {E : List Ent} (h : fineP N E) {i : Nat} (hi : i < N.length) : ¬ fineP (N.take i ++ N.drop (i + 1)) E := by
  intro h2
  have ha := ids_apart h.ids hi
  by_cases h0 : N[i].id = (0, 0)
  · obtain ⟨x, hx, e⟩ := h2.root
    exact ha x hx (by rw [e, h0])
  · have hm := h.many N[i] (List.getElem_mem hi)
    unfold manyOk1 at hm
    rw [if_neg h0] at hm
    obtain ⟨e, he, hei⟩ := links_pos hm.1
    have hl := (h2.lost e he).2
    obtain ⟨x, hx, hxe⟩ := kindI_some hl
    exact ha x hx (by rw [hxe, hei])

theorem links_cut (E : List Ent) {k : Nat} (hk : k < E.length) : linksE E E[k].ino = linksE (E.take k ++ E.drop (k + 1)) E[k].ino + 1 := by
  have hs : E = E.take k ++ E[k] :: E.drop (k + 1) := by simp
  obtain ⟨A, hA⟩ : ∃ A, A = E.take k := ⟨_, rfl⟩
  obtain ⟨C, hC⟩ : ∃ C, C = E.drop (k + 1) := ⟨_, rfl⟩
  obtain ⟨x, hx⟩ : ∃ x, x = E[k] := ⟨_, rfl⟩
  rw [← hA, ← hC, ← hx] at hs ⊢
  rw [hs]
  unfold linksE
  rw [List.filter_append, List.filter_append, List.filter_cons]
  simp
  omega

theorem fineP.less_ent {N : List Ino} {E : List Ent} (h : fineP N E) {k : Nat} (hk : k < E.length) : ¬ fineP N (E.take k ++ E.drop (k + 1)) := by
  intro h2
  obtain ⟨x, hx, hxe⟩ := kindI_some (h.lost E[k] (List.getElem_mem hk)).2
  have h3 := h.count x hx
  have h4 := h2.count x hx
  have h5 := links_cut E hk
  rw [hxe] at h3 h4
  omega

theorem fineP.alone {N : List Ino} (h : fineP N []) : N.length = 1 := by
  have h0 : ∀ x ∈ N, x.id = (0, 0) := fun x hx => Classical.byContradiction fun q => by
    have hm := h.many x hx
    unfold manyOk1 at hm
    rw [if_neg q] at hm
    have := hm.1
    simp [linksE] at this
  have hn := h.ids.nodup
  have hp := h.nonempty
  match N, hp with
  | [x], _ => rfl
  | x :: y :: l, _ =>
    simp only [List.map_cons, List.nodup_cons, List.mem_cons] at hn
    exact absurd (Or.inl (by rw [h0 x (by simp), h0 y (by simp)])) hn.1

/-! ### a tree (P10.2) -/

/-- All is reached: what is reached are the inodes. -/
theorem fineP.reach {N : List Ino} {E : List Ent} (h : fineP N E) {l : List St} (hl : IsReach N E l) : l = N.map (·.id) :=
  rising_same hl.1 h.ids fun s => by
    rw [hl.2]
    constructor
    · intro hs
      obtain ⟨x, hx, rfl⟩ := hs.ino
      exact List.mem_map_of_mem hx
    · intro hs
      obtain ⟨x, hx, rfl⟩ := List.mem_map.1 hs
      exact h.apart x hx

theorem sum_links : ∀ {ids : List St} (_ : ids.Nodup) {E : List Ent} (_ : ∀ e ∈ E, e.ino ∈ ids), (ids.map fun id => linksE E id).sum = E.length
  | ids, hn, [], _ => by
    have : ∀ l : List St, (l.map fun id => linksE [] id).sum = 0 := fun l => by
      induction l with
      | nil => rfl
      | cons x l ih => rw [List.map_cons, List.sum_cons, ih]; rfl
    exact this ids
  | ids, hn, e :: E, h => by
    have ih := sum_links hn (E := E) fun x hx => h x (by simp [hx])
    have h1 : ∀ l : List St, l.Nodup → (l.map fun id => linksE (e :: E) id).sum = (l.map fun id => linksE E id).sum + if e.ino ∈ l then 1 else 0 := fun l hl => by
      induction l with
      | nil => rfl
      | cons x l ih =>
        obtain ⟨a1, a2⟩ := List.nodup_cons.1 hl
        have h2 : linksE (e :: E) x = linksE E x + if e.ino = x then 1 else 0 := by
          unfold linksE
          rw [List.filter_cons]
          by_cases q : e.ino = x <;> simp [q]
        rw [List.map_cons, List.sum_cons, List.map_cons, List.sum_cons, ih a2, h2]
        by_cases q : e.ino = x
        · subst q
          simp [a1]
          omega
        · by_cases q2 : e.ino ∈ l
          · simp [q, q2]; omega
          · simp [q, q2]
    rw [h1 ids hn, ih, if_pos (h e (by simp)), List.length_cons]

/-- Links together are as many as entries. -/
theorem fineP.links {N : List Ino} {E : List Ent} (h : fineP N E) : (N.map fun x => x.links).sum = (E.length : Int) := by
  have h1 := sum_links (ids := N.map (·.id)) h.ids.nodup (E := E) fun e he => by
    obtain ⟨x, hx, hxe⟩ := kindI_some (h.lost e he).2
    rw [← hxe]
    exact List.mem_map_of_mem hx
  rw [List.map_map] at h1
  rw [← h1]
  have h2 : ∀ l : List Ino, (∀ x ∈ l, x.links = (linksE E x.id : Int)) → (l.map fun x => x.links).sum = (((l.map ((fun id => linksE E id) ∘ fun x => x.id)).sum : Nat) : Int) := fun l hl => by
    induction l with
    | nil => rfl
    | cons x l ih =>
      rw [List.map_cons, List.sum_cons, List.map_cons, List.sum_cons, ih (fun y hy => hl y (by simp [hy])), hl x (by simp)]
      simp
  exact h2 N h.count

/-- One step upwards, as the law has it: the last entry's directory. -/
def upL (E : List Ent) (id : St) : St := E.foldl (fun s e => if e.ino = id then e.dir else s) id

/-- So many steps upwards, as long as it isn't the root. -/
def climb (E : List Ent) : Nat → St → St
  | 0, s => s
  | n + 1, s => if s = (0, 0) then s else climb E n (upL E s)

theorem upL_one {E : List Ent} {e : Ent} (he : e ∈ E) (h : ∀ f ∈ E, f.ino = e.ino → f.dir = e.dir) : upL E e.ino = e.dir := by
  have h1 : ∀ (l : List Ent) (s : St), (∀ f ∈ l, f.ino = e.ino → f.dir = e.dir) → (s = e.dir ∨ ∃ f ∈ l, f.ino = e.ino) → l.foldl (fun s f => if f.ino = e.ino then f.dir else s) s = e.dir := fun l => by
    induction l with
    | nil =>
      intro s _ h2
      rcases h2 with h2 | ⟨f, hf, _⟩
      · exact h2
      · cases hf
    | cons f l ih =>
      intro s h1 h2
      rw [List.foldl_cons]
      refine ih _ (fun g hg => h1 g (by simp [hg])) ?_
      by_cases q : f.ino = e.ino
      · rw [if_pos q]
        exact Or.inl (h1 f (by simp) q)
      · rw [if_neg q]
        rcases h2 with h2 | ⟨g, hg, hge⟩
        · exact Or.inl h2
        · rcases List.mem_cons.1 hg with e1 | hg
          · subst e1
            exact absurd hge q
          · exact Or.inr ⟨g, hg, hge⟩
  exact h1 E e.ino h (Or.inr ⟨e, he, rfl⟩)

theorem links_two {E : List Ent} {id : St} (h : linksE E id ≤ 1) {e f : Ent} (he : e ∈ E) (hf : f ∈ E) (h1 : e.ino = id) (h2 : f.ino = id) : e = f := by
  unfold linksE at h
  have m1 : e ∈ E.filter fun e => decide (e.ino = id) := List.mem_filter.2 ⟨he, by simpa using h1⟩
  have m2 : f ∈ E.filter fun e => decide (e.ino = id) := List.mem_filter.2 ⟨hf, by simpa using h2⟩
  generalize (E.filter fun e => decide (e.ino = id)) = L at h m1 m2
  match L, h, m1, m2 with
  | [], _, m1, _ => cases m1
  | [x], _, m1, m2 => rw [List.mem_singleton.1 m1, List.mem_singleton.1 m2]
  | _ :: _ :: _, h, _, _ => simp at h

theorem kind_first {N : List Ino} (h : Rising (N.map (·.id))) {x : Ino} (hx : x ∈ N) : kindI N x.id = some x.kind := by
  have hid : ∀ a ∈ N, ∀ b ∈ N, a.id = b.id → a = b := by
    intro a ha b hb e
    have hn := h.nodup
    rw [List.Nodup, List.pairwise_map] at hn
    obtain ⟨i, hi, rfl⟩ := List.getElem_of_mem ha
    obtain ⟨j, hj, rfl⟩ := List.getElem_of_mem hb
    have hp := List.pairwise_iff_getElem.1 hn
    rcases Nat.lt_trichotomy i j with q | q | q
    · exact absurd e (hp i j hi hj q)
    · subst q; rfl
    · exact absurd e.symm (hp j i hj hi q)
  unfold kindI
  rw [find_id hid hx]
  rfl

/-- A path down from the root, by its directories. -/
theorem fineP.path {N : List Ino} {E : List Ent} (h : fineP N E) : ∀ {m : Nat} {s : St}, ReachedN N E m s → kindI N s = some 1 → ∃ p : Nat → St, p 0 = (0, 0) ∧ p m = s ∧ (∀ i, i ≤ m → (kindI N (p i)).isSome) ∧ ∀ i, i < m → p (i + 1) ≠ (0, 0) ∧ upL E (p (i + 1)) = p i
  | 0, s, hr, hk => by
    cases hr with
    | root h0 => exact ⟨fun _ => (0, 0), rfl, rfl, fun i _ => h0, fun i hi => absurd hi (by omega)⟩
  | m + 1, s, hr, hk => by
    cases hr with
    | @step _ e h1 h2 h3 h4 =>
      obtain ⟨p, p1, p2, p3, p4⟩ := h.path h2 h3
      obtain ⟨x, hx, hxe⟩ := kindI_some h4
      have hm := h.many x hx
      have hkx : x.kind = 1 := by
        have := kind_first h.ids hx
        rw [hxe, hk] at this
        exact (Option.some.inj this).symm
      have hpos : 1 ≤ linksE E x.id := by
        unfold linksE
        exact List.length_pos_of_mem (List.mem_filter.2 ⟨h1, by simpa using hxe.symm⟩)
      unfold manyOk1 at hm
      have hne : x.id ≠ (0, 0) := fun q => by rw [if_pos q] at hm; omega
      rw [if_neg hne, if_pos hkx] at hm
      refine ⟨fun i => if i = m + 1 then e.ino else p i, by show (if 0 = m + 1 then e.ino else p 0) = _; rw [if_neg (by omega)]; exact p1, by show (if m + 1 = m + 1 then e.ino else p (m + 1)) = _; rw [if_pos rfl], fun i hi => ?_, fun i hi => ?_⟩
      · by_cases q : i = m + 1
        · simp only [if_pos q]; exact h4
        · simp only [if_neg q]; exact p3 i (by omega)
      · by_cases q : i = m
        · subst q
          simp only [if_true, if_neg (show ¬ i = i + 1 by omega)]
          refine ⟨by rw [← hxe]; exact hne, ?_⟩
          rw [p2]
          exact upL_one h1 fun f hf hfe => by rw [links_two hm.2 hf h1 (hfe.trans hxe.symm) hxe.symm]
        · simp only [if_neg (show ¬ i + 1 = m + 1 by omega), if_neg (show ¬ i = m + 1 by omega)]
          exact p4 i (by omega)

theorem climb_path {E : List Ent} {p : Nat → St} (h0 : p 0 = (0, 0)) : ∀ (m n : Nat), m ≤ n → (∀ i, i < m → p (i + 1) ≠ (0, 0) ∧ upL E (p (i + 1)) = p i) → climb E n (p m) = (0, 0)
  | 0, n, _, _ => by
    cases n with
    | zero => exact h0
    | succ n => unfold climb; rw [if_pos h0]; exact h0
  | m + 1, 0, hmn, _ => absurd hmn (by omega)
  | m + 1, n + 1, hmn, h => by
    obtain ⟨h1, h2⟩ := h m (by omega)
    unfold climb
    rw [if_neg h1, h2]
    exact climb_path h0 m n (by omega) fun i hi => h i (by omega)

/-- Upwards from a directory the root is reached, in fewer steps than there are inodes. -/
theorem fineP.climb {N : List Ino} {E : List Ent} (h : fineP N E) {x : Ino} (hx : x ∈ N) (hk : x.kind = 1) : climb E N.length x.id = (0, 0) := by
  obtain ⟨m, hm⟩ := h.apart x hx
  have hkx : kindI N x.id = some 1 := by rw [kind_first h.ids hx, hk]
  obtain ⟨p, p1, p2, p3, p4⟩ := h.path hm hkx
  -- no two of them are the same
  have inj : ∀ (i j : Nat), i < j → j ≤ m → p i ≠ p j := by
    intro i
    induction i with
    | zero =>
      intro j hij hj e
      obtain ⟨q1, _⟩ := p4 (j - 1) (by omega)
      rw [show j - 1 + 1 = j by omega] at q1
      exact q1 (by rw [← e, p1])
    | succ i ih =>
      intro j hij hj e
      obtain ⟨_, q2⟩ := p4 i (by omega)
      obtain ⟨_, r2⟩ := p4 (j - 1) (by omega)
      rw [show j - 1 + 1 = j by omega] at r2
      exact ih (j - 1) (by omega) (by omega) (by rw [← q2, ← r2, e])
  have hlen : m + 1 ≤ N.length := by
    have hn : ((List.range (m + 1)).map p).Nodup := by
      rw [List.Nodup, List.pairwise_map, List.pairwise_iff_getElem]
      intro i j hi hj hij
      rw [List.length_range] at hi hj
      simp only [List.getElem_range]
      exact inj i j hij (by omega)
    have := nodup_le hn (M := N.map (·.id)) fun s hs => by
      obtain ⟨i, hi, rfl⟩ := List.mem_map.1 hs
      obtain ⟨y, hy, hye⟩ := kindI_some (p3 i (by have := List.mem_range.1 hi; omega))
      rw [← hye]
      exact List.mem_map_of_mem hy
    simpa using this
  rw [← p2]
  exact climb_path p1 m N.length (by omega) p4

/-! ### with an entry more no less is reached (P10.1) -/

theorem IsReach.more {N : List Ino} {E : List Ent} {x : Ent} {a b : List St} (ha : IsReach N E a) (hb : IsReach N (E ++ [x]) b) : (∀ s ∈ a, s ∈ b) ∧ a.length ≤ b.length := by
  have h1 : ∀ s ∈ a, s ∈ b := fun s hs => (hb.2 s).2 (((ha.2 s).1 hs).mono fun e he => by simp [he])
  exact ⟨h1, nodup_le ha.1.nodup h1⟩

/-! ### graphs (P9.5) -/

theorem Gr.ok.kindI {g : Gr} (h : g.ok) {x : Ino} (hx : x ∈ g.I) : GraphMath.kindI (inodesG g) x.id = some x.kind := by
  rw [h.inodes]
  unfold GraphMath.kindI
  rw [List.find?_map]
  rw [show ((fun y : Ino => decide (y.id = x.id)) ∘ fun y : Ino => { y with links := (linksE g.E y.id : Int) }) = fun y : Ino => decide (y.id = x.id) from rfl, find_id (fun a ha b hb e => h.ids ha hb e) hx]
  rfl

/-- A graph whose names may be has none of the first four faults. -/
theorem Gr.ok.audit {g : Gr} (h : g.ok) (hn : ∀ e ∈ g.E, nameB e.name = true) : orderOk (inodesG g) g.E ∧ shapeOk (inodesG g) g.E ∧ lostOk (inodesG g) g.E ∧ countOk (inodesG g) g.E := by
  refine ⟨⟨?_, h.sortE⟩, ⟨?_, hn, ?_⟩, ?_, ?_⟩
  · rw [h.inodes, List.pairwise_map]
    exact h.sortI
  · intro x hx
    rw [h.inodes] at hx
    obtain ⟨y, hy, rfl⟩ := List.mem_map.1 hx
    exact ⟨h.may y hy, h.kinds y hy⟩
  · obtain ⟨x, hx, h0, h1⟩ := h.root
    rw [← h0, h.kindI hx, h1]
  · intro e he
    obtain ⟨x, hx, hxe, hk⟩ := h.dirs e he
    obtain ⟨y, hy, hye⟩ := h.inos e he
    refine ⟨by rw [← hxe, h.kindI hx, hk], by rw [← hye, h.kindI hy]; rfl⟩
  · intro x hx
    rw [h.inodes] at hx
    obtain ⟨y, hy, rfl⟩ := List.mem_map.1 hx
    rfl

/-- Names may be, whatever is tied. -/
theorem names_tie {g : Gr} (hn : ∀ e ∈ g.E, nameB e.name = true) (x : Ent) : ∀ e ∈ (tieG (nameB x.name) g x).1.E, nameB e.name = true := by
  intro e he
  unfold tieG at he
  by_cases hw : whyG (nameB x.name) g x = 0
  · rw [if_pos hw] at he
    have hnx : nameB x.name = true := by
      cases hq : nameB x.name with
      | true => rfl
      | false => unfold whyG at hw; rw [if_pos hq] at hw; cases hw
    rcases List.mem_cons.1 ((putIn_perm _ _ _).mem_iff.1 he) with rfl | he
    · exact hnx
    · exact hn e he
  · rw [if_neg hw] at he
    exact hn e he

theorem names_make {g : Gr} (hn : ∀ e ∈ g.E, nameB e.name = true) (id : St) (kind : Int) : ∀ e ∈ (makeG g id kind).1.E, nameB e.name = true := by
  intro e he
  unfold makeG at he
  split at he
  · exact hn e he
  · split at he
    · exact hn e he
    · split at he
      · exact hn e he
      · exact hn e he

end Go.Proofs.YtbkijfhfjhpebaaGreatDoor.GraphMath

/-
  Plain mathematics of layer 9: what is tied is untied again, and then all is as it was. It needs no program.
-/
namespace Go.Proofs.YtbkijfhfjhpebaaGreatDoor.GraphMath
open StampMath

/-- Is it the entry nm of d? -/
def atB (d : St) (nm : ByteArray) (e : Ent) : Bool := decide (e.dir = d) && decide (e.name = nm)

theorem atB_iff (d : St) (nm : ByteArray) (e : Ent) : atB d nm e = true ↔ e.dir = d ∧ e.name = nm := by
  unfold atB
  rw [Bool.and_eq_true, decide_eq_true_iff, decide_eq_true_iff]

theorem why_zero {nameOk : Bool} {g : Gr} {e : Ent} (h : whyG nameOk g e = 0) : nameOk = true ∧ lookE g.E e.dir e.name = none := by
  unfold whyG at h
  cases nameOk
  · rw [if_pos rfl] at h; cases h
  refine ⟨rfl, ?_⟩
  rw [if_neg (by decide)] at h
  cases ha : getG g e.dir with
  | none => rw [ha] at h; cases h
  | some a =>
    cases hx : getG g e.ino with
    | none => rw [ha, hx] at h; cases h
    | some x =>
      rw [ha, hx] at h
      dsimp only at h
      by_cases hk : a.kind ≠ 1
      · rw [if_pos hk] at h; cases h
      rw [if_neg hk] at h
      cases hq : lookE g.E e.dir e.name with
      | none => rfl
      | some z => rw [hq, if_pos (show (some z).isSome = true from rfl)] at h; cases h

theorem tie_ok_iff (nameOk : Bool) (g : Gr) (e : Ent) : (tieG nameOk g e).2 = 0 ↔ whyG nameOk g e = 0 := by
  unfold tieG
  by_cases h : whyG nameOk g e = 0
  · rw [if_pos h]; exact ⟨fun _ => h, fun _ => rfl⟩
  · rw [if_neg h]

theorem filter_all {E : List Ent} {d : St} {nm : ByteArray} (h : ∀ e ∈ E, ¬ (e.dir = d ∧ e.name = nm)) : (E.filter fun e => !(decide (e.dir = d) && decide (e.name = nm))) = E := by
  rw [List.filter_eq_self]
  intro e he
  have := h e he
  cases hq : (decide (e.dir = d) && decide (e.name = nm)) with
  | false => rfl
  | true =>
    rw [Bool.and_eq_true, decide_eq_true_iff, decide_eq_true_iff] at hq
    exact absurd hq this

/-- What was tied is untied again. -/
theorem tie_untie {nameOk : Bool} {g : Gr} {e : Ent} (h : (tieG nameOk g e).2 = 0) : untieG (tieG nameOk g e).1 e.dir e.name = (g, e.ino, 0) := by
  have hw := (tie_ok_iff nameOk g e).1 h
  have hn := look_none (why_zero hw).2
  unfold tieG
  rw [if_pos hw]
  have ht : ∀ a ∈ g.E.takeWhile (fun a => aheadE a e), ¬ (a.dir = e.dir ∧ a.name = e.name) := fun a ha => hn a ((List.takeWhile_prefix _).subset ha)
  have hd : ∀ a ∈ g.E.dropWhile (fun a => aheadE a e), ¬ (a.dir = e.dir ∧ a.name = e.name) := fun a ha => hn a ((List.dropWhile_suffix _).subset ha)
  have hlook : lookE (putIn (fun a => aheadE a e) g.E e) e.dir e.name = some e.ino := by
    unfold lookE putIn
    rw [List.find?_append]
    have h1 : (g.E.takeWhile (fun a => aheadE a e)).find? (fun a => decide (a.dir = e.dir) && decide (a.name = e.name)) = none := by
      rw [List.find?_eq_none]
      intro a ha q
      rw [Bool.and_eq_true, decide_eq_true_iff, decide_eq_true_iff] at q
      exact ht a ha q
    rw [h1, List.find?_cons_of_pos (by simp)]
    rfl
  unfold untieG
  dsimp only
  rw [hlook]
  dsimp only
  have hf : ((putIn (fun a => aheadE a e) g.E e).filter fun a => !(decide (a.dir = e.dir) && decide (a.name = e.name))) = g.E := by
    unfold putIn
    rw [List.filter_append, List.filter_cons, filter_all ht, filter_all hd]
    rw [if_neg (by simp), List.takeWhile_append_dropWhile]
  rw [hf]

/-- With an error nothing changes. -/
theorem make_err (g : Gr) (id : St) (kind : Int) (h : (makeG g id kind).2 ≠ 0) : (makeG g id kind).1 = g := by
  unfold makeG at h ⊢
  split
  · rfl
  · split
    · rfl
    · split
      · rfl
      · rename_i h1 h2 h3
        rw [if_neg h1, if_neg h2, if_neg h3] at h
        exact absurd rfl h

theorem tie_err (nameOk : Bool) (g : Gr) (e : Ent) (h : (tieG nameOk g e).2 ≠ 0) : (tieG nameOk g e).1 = g := by
  have hw : ¬ whyG nameOk g e = 0 := fun q => h ((tie_ok_iff nameOk g e).2 q)
  unfold tieG
  rw [if_neg hw]

theorem untie_err (g : Gr) (d : St) (nm : ByteArray) (h : (untieG g d nm).2.2 ≠ 0) : (untieG g d nm).1 = g := by
  unfold untieG at h ⊢
  cases hl : lookE g.E d nm with
  | none => rfl
  | some id => rw [hl] at h; exact absurd rfl h

theorem drop_err (g : Gr) (id : St) (h : (dropG g id).2 ≠ 0) : (dropG g id).1 = g := by
  unfold dropG at h ⊢
  cases hg : getG g id with
  | none => rfl
  | some x =>
    rw [hg] at h
    dsimp only at h ⊢
    by_cases h1 : id = (0, 0)
    · rw [if_pos h1]
    · rw [if_neg h1] at h ⊢
      by_cases h2 : 0 < x.links ∨ 0 < (listE g.E id).length
      · rw [if_pos h2]
      · rw [if_neg h2] at h
        exact absurd rfl h

theorem set_err (g : Gr) (id : St) (mode : Int) (data : ByteArray) (h : (setG g id mode data).2 ≠ 0) : (setG g id mode data).1 = g := by
  unfold setG at h ⊢
  cases hg : getG g id with
  | none => rfl
  | some x => rw [hg] at h; exact absurd rfl h

end Go.Proofs.YtbkijfhfjhpebaaGreatDoor.GraphMath

/-
  What a call that writes to some blocks leaves: outside these all that was there is as it was. It needs no program.
-/
namespace Go.Proofs.YtbkijfhfjhpebaaGreatDoor
open Go.RowKit

/-- Outside the blocks S all that was there is as it was. -/
structure But (S : Nat → Prop) (w w' : World) : Prop where
  os : w'.os = w.os
  tape : w'.tape = w.tape
  output : w'.output = w.output
  size : w.heap.size ≤ w'.heap.size
  block : ∀ k, k < w.heap.size → ¬ S k → w'.heap[k]? = w.heap[k]?

theorem But.refl (S : Nat → Prop) (w : World) : But S w w := ⟨rfl, rfl, rfl, Nat.le_refl _, fun _ _ _ => rfl⟩

theorem But.of_below {S : Nat → Prop} {w w' : World} (h : Below w.heap.size w w') : But S w w' := ⟨h.os, h.tape, h.output, h.size, fun k hk _ => h.block k hk⟩

theorem But.trans {S T : Nat → Prop} {a b c : World} (h : But S a b) (k : But T b c) (hT : ∀ i, T i → i < a.heap.size → S i) : But S a c :=
  ⟨k.os.trans h.os, k.tape.trans h.tape, k.output.trans h.output, Nat.le_trans h.size k.size, fun i hi hn =>
    (k.block i (Nat.lt_of_lt_of_le hi h.size) fun ht => hn (hT i ht hi)).trans (h.block i hi hn)⟩

theorem But.mono {S T : Nat → Prop} {a b : World} (h : But S a b) (hT : ∀ i, S i → T i) : But T a b :=
  ⟨h.os, h.tape, h.output, h.size, fun i hi hn => h.block i hi fun hs => hn (hT i hs)⟩

theorem But.below {S : Nat → Prop} {a b : World} {B : Nat} (h : But S a b) (hS : ∀ i, S i → B ≤ i) (hB : B ≤ a.heap.size) : Below B a b :=
  ⟨h.os, h.tape, h.output, h.size, fun i hi => h.block i (by omega) fun hs => by have := hS i hs; omega⟩

theorem But.then_below {S : Nat → Prop} {a b c : World} (h : But S a b) (k : Below b.heap.size b c) : But S a c := h.trans (T := fun _ => False) (.of_below k) fun _ h => h.elim

theorem But.alloc {S : Nat → Prop} {a b : World} (h : But S a b) (o : Obj) : But S a (b.alloc o) := h.then_below ((Below.refl _ _).alloc (Nat.le_refl _) o)

theorem But.drewN {S : Nat → Prop} {a b : World} (h : But S a b) (n : Nat) : But S a (b.drewN n) := ⟨h.os, h.tape, h.output, h.size, h.block⟩

theorem But.setCell {S : Nat → Prop} {a b : World} (h : But S a b) {p : Addr} (hp : S p.block ∨ a.heap.size ≤ p.block) (v : Value) : But S a (b.setCell p v) := by
  refine ⟨?_, ?_, ?_, ?_, fun k hk hn => ?_⟩
  · rw [← h.os]; rfl
  · rw [← h.tape]; rfl
  · rw [← h.output]; rfl
  · rw [World.size_setCell]; exact h.size
  · rw [← h.block k hk hn]
    refine heap_setCell_other _ _ _ _ fun e => ?_
    subst e
    rcases hp with hp | hp
    · exact hn hp
    · omega

/-- What stood in a block that isn't one of them stands there. -/
theorem But.heap {S : Nat → Prop} {a b : World} (h : But S a b) {g : Nat} {o : Obj} (hg : a.heap[g]? = some o) (hn : ¬ S g) : b.heap[g]? = some o := (h.block g (heap_lt hg) hn).trans hg

theorem But.cell {S : Nat → Prop} {a b : World} (h : But S a b) {p : Addr} {v : Value} (hp : a.cell? p = some v) (hn : ¬ S p.block) : b.cell? p = some v :=
  (World.cell?_of_block (h.block p.block (World.block_lt_of_cell? _ _ hp) hn)).trans hp

end Go.Proofs.YtbkijfhfjhpebaaGreatDoor

/-
  Maps whose keys and elements are of any shape: what lies in one as a list of pairs, in no order; each operation on one, and going through it.
-/
namespace Go.Proofs.YtbkijfhfjhpebaaGreatDoor
open Go.RowKit Go.MapKept
open Go.ChangeMaps (setBlock)

/-- What a key's type must give: equal keys are found, others aren't. -/
structure KShape (P : Program) (k : TypeId) {K : Type} (ek : K → Value) : Prop where
  inj : ∀ x y, ek x = ek y → x = y
  check : ∀ (w : World) (em : Bool) (x : K), (Instr.checkKey em 10000 k (ek x)).run P w = .ok () w
  find : ∀ (w : World) (x : K) (es : List MapEntry), (∀ e ∈ es, ∃ y, e.key = ek y) →
    ((Instr.findKey k (ek x) es).run P w = .ok none w ∧ ∀ e ∈ es, e.key ≠ ek x) ∨ ∃ j e, (Instr.findKey k (ek x) es).run P w = .ok (some (j, e.val)) w ∧ es[j]? = some e ∧ e.key = ek x
  stays : ∀ (w : World) (x : K), (Instr.keyThatStays (ek x) (ek x)).run P w = .ok (ek x) w

theorem findAsking_by {P : Program} {k : TypeId} {K : Type} [DecidableEq K] {ek : K → Value} (w : World) (heq : ∀ x y, (Op.equal k (ek x) (ek y)).run P w = .ok (decide (x = y)) w) (x : K) :
    ∀ (es : List MapEntry) (i : Nat), (∀ e ∈ es, ∃ y, e.key = ek y) →
      ((Instr.findAsking k (ek x) es i).run P w = .ok none w ∧ ∀ e ∈ es, ∀ y, e.key = ek y → x ≠ y) ∨
      ∃ j e, (Instr.findAsking k (ek x) es i).run P w = .ok (some (i + j, e.val)) w ∧ es[j]? = some e ∧ e.key = ek x
  | [], i, _ => Or.inl ⟨by simp [Instr.findAsking], by simp⟩
  | e :: es, i, hall => by
    obtain ⟨y, hy⟩ := hall e (by simp)
    have hr := heq x y
    rw [← hy] at hr
    by_cases hxy : x = y
    · right
      rw [decide_eq_true hxy] at hr
      exact ⟨0, e, by simp [Instr.findAsking, hr], rfl, by rw [hy, hxy]⟩
    · rw [decide_eq_false hxy] at hr
      rcases findAsking_by w heq x es (i + 1) (fun z hz => hall z (by simp [hz])) with ⟨h1, h2⟩ | ⟨j, e', h1, h2, h3⟩
      · left
        refine ⟨by simp [Instr.findAsking, hr, h1], fun z hz v hv => ?_⟩
        rcases List.mem_cons.1 hz with rfl | hz
        · intro e2
          subst e2
          have h5 := heq x x
          rw [hv, h5, decide_eq_true rfl] at hr
          cases hr
        · exact h2 z hz v hv
      · right
        exact ⟨j + 1, e', by simp [Instr.findAsking, hr, h1, Nat.add_assoc, Nat.add_comm 1 j], by simpa using h2, h3⟩

/-- A struct's or an array's: told by how two of them are held equal. -/
theorem KShape.of_equal {P : Program} {k : TypeId} {K : Type} [DecidableEq K] {ek : K → Value} (hwide : (match P.underlying k with | some (.array _ _) | some (.struct _) => true | _ => false) = true)
    (inj : ∀ x y, ek x = ek y → x = y) (heq : ∀ w x y, (Op.equal k (ek x) (ek y)).run P w = .ok (decide (x = y)) w)
    (check : ∀ (w : World) (em : Bool) (x : K), (Instr.checkKey em 10000 k (ek x)).run P w = .ok () w) (bits : ∀ x, Instr.sameBits 10000 (ek x) (ek x) = true) : KShape P k ek where
  inj := inj
  check := check
  find := fun w x es hall => by
    rw [run_findKey_eq w hwide]
    rcases findAsking_by w (heq w) x es 0 hall with ⟨h1, h2⟩ | ⟨j, e, h1, h2, h3⟩
    · exact Or.inl ⟨h1, fun e he e1 => h2 e he x e1 rfl⟩
    · exact Or.inr ⟨j, e, by simpa using h1, h2, h3⟩
  stays := fun w x => by simp [Instr.keyThatStays, bits x]

theorem checkKey_struct {P : Program} {t : TypeId} {fs : Array Field} (hu : P.underlying t = some (.struct fs)) (w : World) (em : Bool) (n : Nat) (cs : Array Value)
    (each : ∀ f ∈ fs.toList, f.name ≠ "_" ∧ ∃ v, (part f.type cs f.offset).run P w = .ok v w ∧ (Instr.checkKey em n f.type v).run P w = .ok () w) : (Instr.checkKey em (n + 1) t (.agg cs)).run P w = .ok () w := by
  rw [Instr.checkKey]
  simp only [Sem.run_bind, run_underlying hu, Result.andThen_ok]
  rw [← Array.forIn_toList]
  generalize fs.toList = L at each
  induction L with
  | nil => simp
  | cons f L ih =>
    obtain ⟨hn, a, p1, p2⟩ := each f (by simp)
    simp only [List.forIn_cons, Sem.run_bind, hn, ne_eq, not_false_eq_true, if_true, Result.andThen_ok, p1, p2, Sem.run_pure]
    exact ih (fun y hy => each y (by simp [hy]))

theorem checkKey_int {P : Program} {t : TypeId} {q q' : IntKind} (hu : P.underlying t = some (.int q)) (w : World) (em : Bool) (n : Nat) (x : Int) : (Instr.checkKey em (n + 1) t (.int q' x)).run P w = .ok () w := by
  rw [Instr.checkKey]
  simp [run_underlying hu]

theorem checkKey_string {P : Program} {t : TypeId} (hu : P.underlying t = some .string) (w : World) (em : Bool) (n : Nat) (x : ByteArray) : (Instr.checkKey em (n + 1) t (.string x)).run P w = .ok () w := by
  rw [Instr.checkKey]
  simp [run_underlying hu]

section
variable {K V : Type}

/-- What stands at a key. -/
def lookL [DecidableEq K] (L : List (K × V)) (x : K) : Option V := (L.find? fun p => decide (p.1 = x)).map Prod.snd

/-- All but what stands at a key. -/
def offL [DecidableEq K] (L : List (K × V)) (x : K) : List (K × V) := L.filter fun p => !decide (p.1 = x)

theorem mem_lookL [DecidableEq K] {L : List (K × V)} (hn : (L.map Prod.fst).Nodup) {x : K} {v : V} : lookL L x = some v ↔ (x, v) ∈ L := by
  induction L with
  | nil => simp [lookL]
  | cons p l ih =>
    simp only [List.map_cons, List.nodup_cons] at hn
    unfold lookL
    rw [List.find?_cons]
    by_cases h : p.1 = x
    · subst h
      simp only [decide_true, Option.map_some, Option.some.injEq, List.mem_cons]
      constructor
      · intro h; exact Or.inl (Prod.ext rfl h.symm)
      · rintro (h | h)
        · rw [← h]
        · exact absurd (List.mem_map_of_mem (f := Prod.fst) h) hn.1
    · simp only [h, decide_false, List.mem_cons]
      rw [show (Option.map Prod.snd (l.find? fun p => decide (p.1 = x))) = lookL l x from rfl, ih hn.2]
      constructor
      · exact Or.inr
      · rintro (h1 | h1)
        · exact absurd (by rw [← h1]) h
        · exact h1

theorem nodup_perm_keys {L L' : List (K × V)} (hp : L.Perm L') (hn : (L.map Prod.fst).Nodup) : (L'.map Prod.fst).Nodup := (hp.map _).nodup_iff.1 hn

theorem lookL_perm [DecidableEq K] {L L' : List (K × V)} (hp : L.Perm L') (hn : (L.map Prod.fst).Nodup) (x : K) : lookL L x = lookL L' x := by
  have h1 : ∀ v, lookL L x = some v ↔ lookL L' x = some v := fun v => by
    rw [mem_lookL hn, mem_lookL (nodup_perm_keys hp hn)]
    exact hp.mem_iff
  cases h : lookL L x with
  | some v => exact ((h1 v).1 h).symm
  | none =>
    cases h' : lookL L' x with
    | none => rfl
    | some v => rw [(h1 v).2 h'] at h; cases h

theorem lookL_none [DecidableEq K] {L : List (K × V)} {x : K} (h : ∀ p ∈ L, p.1 ≠ x) : lookL L x = none := by
  unfold lookL
  rw [List.find?_eq_none.2 (fun p hp => by simpa using h p hp)]
  rfl

theorem offL_none [DecidableEq K] {L : List (K × V)} {x : K} (h : ∀ p ∈ L, p.1 ≠ x) : offL L x = L := List.filter_eq_self.2 fun p hp => by simpa using h p hp

theorem offL_at [DecidableEq K] {L : List (K × V)} (hn : (L.map Prod.fst).Nodup) {j : Nat} (hj : j < L.length) : offL L L[j].1 = L.take j ++ L.drop (j + 1) := by
  have hs : L = L.take j ++ L[j] :: L.drop (j + 1) := by simp
  obtain ⟨x, hx⟩ : ∃ x, x = L[j].1 := ⟨_, rfl⟩
  obtain ⟨A, hA⟩ : ∃ A, A = L.take j := ⟨_, rfl⟩
  obtain ⟨C, hC⟩ : ∃ C, C = L.drop (j + 1) := ⟨_, rfl⟩
  obtain ⟨p, hp⟩ : ∃ p, p = L[j] := ⟨_, rfl⟩
  rw [← hA, ← hC, ← hp] at hs
  rw [← hp] at hx
  rw [← hp, ← hA, ← hC, ← hx, hs]
  rw [hs] at hn
  simp only [List.map_append, List.map_cons] at hn
  have hn' := List.nodup_append.1 hn
  have h1 : ∀ q ∈ A, q.1 ≠ x := fun q hq e => by
    rw [hx] at e
    exact hn'.2.2 q.1 (List.mem_map_of_mem hq) p.1 (by simp) e
  have h2 : ∀ q ∈ C, q.1 ≠ x := fun q hq e => by
    rw [hx] at e
    have := (List.nodup_cons.1 hn'.2.1).1
    exact this (by rw [← e]; exact List.mem_map_of_mem hq)
  have e1 : offL A x = A := offL_none h1
  have e2 : offL C x = C := offL_none h2
  unfold offL at e1 e2 ⊢
  rw [List.filter_append, List.filter_cons, e1, e2]
  simp [hx]

variable (ek : K → Value) (ev : V → Value)

/-- In the block b lies a map of just these pairs. -/
def KMap (w : World) (b : Nat) (L : List (K × V)) : Prop :=
  ∃ (es : Array MapEntry) (clock : Nat) (M : List (K × V)), w.heap[b]? = some (.map es clock) ∧ Stamped es clock ∧ es.toList.map (fun e => (e.key, e.val)) = M.map (fun p => (ek p.1, ev p.2)) ∧ M.Perm L

/-- .. and in the block r it is gone through; what is still to come. -/
def KRange (w : World) (b r : Nat) (L todo : List (K × V)) : Prop :=
  ∃ (es : Array MapEntry) (clock since : Nat) (seen : Array Nat) (c0 : Nat) (M T : List (K × V)), w.heap[b]? = some (.map es clock) ∧ Stamped es clock ∧ es.toList.map (fun e => (e.key, e.val)) = M.map (fun p => (ek p.1, ev p.2)) ∧ M.Perm L ∧
    w.heap[r]? = some (.mapIter (some b) since seen c0) ∧ (∀ x ∈ es.toList, x.born < since) ∧ since ≤ c0 ∧ since ≤ clock ∧
    (leftOf es seen).toList.map (fun e => (e.key, e.val)) = T.map (fun p => (ek p.1, ev p.2)) ∧ T.Perm todo

variable {ek ev}

theorem KMap.perm {w : World} {b : Nat} {L L' : List (K × V)} (h : KMap ek ev w b L) (hp : L.Perm L') : KMap ek ev w b L' := by
  obtain ⟨es, clock, M, h1, h2, h3, h4⟩ := h
  exact ⟨es, clock, M, h1, h2, h3, h4.trans hp⟩

theorem KMap.kept {w w' : World} {b : Nat} {L : List (K × V)} (h : KMap ek ev w b L) (hb : w'.heap[b]? = w.heap[b]?) : KMap ek ev w' b L := by
  obtain ⟨es, clock, M, h1, h2⟩ := h
  exact ⟨es, clock, M, hb.trans h1, h2⟩

theorem KMap.lt {w : World} {b : Nat} {L : List (K × V)} (h : KMap ek ev w b L) : b < w.heap.size := by
  obtain ⟨es, clock, M, h1, _⟩ := h
  exact (Array.getElem?_eq_some_iff.1 h1).1

theorem KRange.map {w : World} {b r : Nat} {L todo : List (K × V)} (h : KRange ek ev w b r L todo) : KMap ek ev w b L := by
  obtain ⟨es, clock, since, seen, c0, M, T, h1, h2, h3, h4, _⟩ := h
  exact ⟨es, clock, M, h1, h2, h3, h4⟩

theorem KRange.kept {w w' : World} {b r : Nat} {L todo : List (K × V)} (h : KRange ek ev w b r L todo) (hb : w'.heap[b]? = w.heap[b]?) (hr : w'.heap[r]? = w.heap[r]?) : KRange ek ev w' b r L todo := by
  obtain ⟨es, clock, since, seen, c0, M, T, h1, h2, h3, h4, h5, rest⟩ := h
  exact ⟨es, clock, since, seen, c0, M, T, hb.trans h1, h2, h3, h4, hr.trans h5, rest⟩

theorem KRange.ltr {w : World} {b r : Nat} {L todo : List (K × V)} (h : KRange ek ev w b r L todo) : r < w.heap.size := by
  obtain ⟨es, clock, since, seen, c0, M, T, h1, h2, h3, h4, h5, rest⟩ := h
  exact (Array.getElem?_eq_some_iff.1 h5).1

theorem KRange.perm {w : World} {b r : Nat} {L todo todo' : List (K × V)} (h : KRange ek ev w b r L todo) (hp : todo.Perm todo') : KRange ek ev w b r L todo' := by
  obtain ⟨es, clock, since, seen, c0, M, T, h1, h2, h3, h4, h5, h6, h7, h8, h9, h10⟩ := h
  exact ⟨es, clock, since, seen, c0, M, T, h1, h2, h3, h4, h5, h6, h7, h8, h9, h10.trans hp⟩

/-- For the loop's measure. -/
theorem KRange.left_eq {w : World} {b r : Nat} {L todo : List (K × V)} (h : KRange ek ev w b r L todo) : w.rangeLeft b r = todo.length := by
  obtain ⟨es, clock, since, seen, c0, M, T, h1, h2, h3, h4, h5, h6, h7, h8, h9, h10⟩ := h
  simp only [World.rangeLeft, h1, h5]
  have := congrArg List.length h9
  simp only [List.length_map, Array.length_toList] at this
  rw [this, h10.length_eq]

variable {P : Program} {k e : TypeId}

theorem keys_of {es : Array MapEntry} {clock : Nat} {M : List (K × V)} (hs : Stamped es clock) (hM : es.toList.map (fun e => (e.key, e.val)) = M.map (fun p => (ek p.1, ev p.2))) : (M.map Prod.fst).Nodup := by
  have h1 := ((stamped_iff es clock).1 hs).2.2
  have e1 : es.toList.map (·.key) = (M.map Prod.fst).map ek := by
    have := congrArg (List.map Prod.fst) hM
    simpa [List.map_map, Function.comp_def] using this
  have h2 : ((M.map Prod.fst).map ek).Nodup := by rw [← e1]; exact hs.2.2
  rw [List.Nodup, List.pairwise_map] at h2
  exact h2.imp fun h e2 => h (by rw [e2])

theorem KMap.keys {w : World} {b : Nat} {L : List (K × V)} (h : KMap ek ev w b L) : (L.map Prod.fst).Nodup := by
  obtain ⟨es, clock, M, h1, h2, h3, h4⟩ := h
  exact nodup_perm_keys h4 (keys_of h2 h3)

theorem entry_shape {es : Array MapEntry} {M : List (K × V)} (hM : es.toList.map (fun e => (e.key, e.val)) = M.map (fun p => (ek p.1, ev p.2))) {j : Nat} {x : MapEntry} (hx : es.toList[j]? = some x) : ∃ p, M[j]? = some p ∧ x.key = ek p.1 ∧ x.val = ev p.2 := by
  have h1 : (M.map (fun p => (ek p.1, ev p.2)))[j]? = some (x.key, x.val) := by rw [← hM, List.getElem?_map, hx]; rfl
  rw [List.getElem?_map] at h1
  cases hp : M[j]? with
  | none => rw [hp] at h1; cases h1
  | some p =>
    rw [hp] at h1
    have := Option.some.inj h1
    exact ⟨p, rfl, (congrArg Prod.fst this).symm, (congrArg Prod.snd this).symm⟩

theorem all_shape {es : Array MapEntry} {M : List (K × V)} (hM : es.toList.map (fun e => (e.key, e.val)) = M.map (fun p => (ek p.1, ev p.2))) : ∀ x ∈ es.toList, ∃ y, x.key = ek y := fun x hx => by
  obtain ⟨j, hj, rfl⟩ := List.getElem_of_mem hx
  obtain ⟨p, _, h2, _⟩ := entry_shape hM (List.getElem?_eq_getElem hj)
  exact ⟨p.1, h2⟩

/-- 'm[k]' and 'v, ok := m[k]'. -/
theorem KMap.look [DecidableEq K] (S : KShape P k ek) {t : TypeId} {w : World} {b : Nat} {L : List (K × V)} (h : KMap ek ev w b L) (ht : P.underlying t = some (.map k e)) {z : Value} (hz : (zeroValue e).run P w = .ok z w) (x : K) (c : Bool) :
    (Instr.lookup t (.map (some b)) (ek x) c).run P w = .ok (if c then .tuple #[((lookL L x).map ev).getD z, .bool (lookL L x).isSome] else ((lookL L x).map ev).getD z) w := by
  have hk := h.keys
  obtain ⟨es, clock, M, h1, h2, h3, h4⟩ := h
  have hkM := keys_of h2 h3
  rw [← lookL_perm h4 hkM]
  rcases S.find w x es.toList (all_shape h3) with ⟨f1, f2⟩ | ⟨j, e0, f1, f2, f3⟩
  · have hn : lookL M x = none := lookL_none fun p hp e1 => by
      obtain ⟨j, hj, rfl⟩ := List.getElem_of_mem hp
      have hl : j < es.toList.length := by have := congrArg List.length h3; simp only [List.length_map] at this; omega
      obtain ⟨p', q1, q2, _⟩ := entry_shape h3 (List.getElem?_eq_getElem hl)
      rw [List.getElem?_eq_getElem hj] at q1
      have := Option.some.inj q1
      subst this
      exact f2 _ (List.getElem_mem hl) (by rw [q2, e1])
    rw [hn]
    simp [Instr.lookup, run_underlying ht, MapKept.run_getObj_map h1, S.check w, f1, hz, Result.andThen]
  · obtain ⟨p, q1, q2, q3⟩ := entry_shape h3 f2
    have hpx : p.1 = x := S.inj _ _ (q2.symm.trans f3)
    have hm : lookL M x = some p.2 := (mem_lookL hkM).2 (by rw [← hpx]; exact List.mem_of_getElem? q1)
    rw [hm]
    simp [Instr.lookup, run_underlying ht, MapKept.run_getObj_map h1, S.check w, f1, Result.andThen, q3]

theorem setBlock_but {w : World} {b : Nat} {o o' : Obj} (hb : w.heap[b]? = some o) : But (fun i => i = b) w (setBlock w b o') :=
  ⟨rfl, rfl, rfl, by simp [setBlock], fun i _ hi => (heap_set hb).2 i hi⟩

/-- 'm[k] = v'. -/
theorem KMap.store [DecidableEq K] (S : KShape P k ek) {t : TypeId} {w : World} {b : Nat} {L : List (K × V)} (h : KMap ek ev w b L) (ht : P.underlying t = some (.map k e)) (x : K) (v : V) :
    ∃ w', (Instr.mapUpdate t (.map (some b)) (ek x) (ev v)).run P w = .ok () w' ∧ KMap ek ev w' b ((x, v) :: offL L x) ∧ But (fun i => i = b) w w' ∧ w'.heap.size = w.heap.size := by
  obtain ⟨es, clock, M, h1, h2, h3, h4⟩ := h
  have hkM := keys_of h2 h3
  have hlen : M.length = es.toList.length := by have := congrArg List.length h3; simp only [List.length_map] at this; omega
  rcases S.find w x es.toList (all_shape h3) with ⟨f1, f2⟩ | ⟨j, e0, f1, f2, f3⟩
  · refine ⟨setBlock w b (.map (es.push ⟨ek x, ev v, clock⟩) (clock + 1)), ?_, ⟨_, _, M ++ [(x, v)], (heap_set h1).1, stamped_push h2 f2, by simp [h3], ?_⟩, setBlock_but h1, by simp [setBlock]⟩
    · simp [Instr.mapUpdate, run_underlying ht, MapKept.run_getObj_map h1, S.check w, f1, MapKept.run_setObj_map _ h1, Result.andThen, setBlock]
    · have hn : ∀ p ∈ M, p.1 ≠ x := fun p hp e1 => by
        obtain ⟨j, hj, rfl⟩ := List.getElem_of_mem hp
        obtain ⟨p', q1, q2, _⟩ := entry_shape h3 (List.getElem?_eq_getElem (show j < es.toList.length by omega))
        rw [List.getElem?_eq_getElem hj] at q1
        have := Option.some.inj q1
        subst this
        exact f2 _ (List.getElem_mem _) (by rw [q2, e1])
      refine (List.perm_append_singleton _ _).trans (List.Perm.cons _ ?_)
      have e2 : (offL M x).Perm (offL L x) := h4.filter _
      rw [offL_none hn] at e2
      exact e2
  · obtain ⟨p, q1, q2, q3⟩ := entry_shape h3 f2
    have hpx : p.1 = x := S.inj _ _ (q2.symm.trans f3)
    have hj : es[j]? = some e0 := by simpa using f2
    have hjl : j < es.toList.length := (List.getElem?_eq_some_iff.1 f2).1
    have hkeyf : ∀ e', es[j]? = some e' → ({ e' with key := ek x, val := ev v } : MapEntry).key = e'.key := fun e' he' => by rw [hj] at he'; cases he'; exact f3.symm
    have hlist : (es.modify j (fun e' => { e' with key := ek x, val := ev v })).toList = es.toList.set j { e0 with key := ek x, val := ev v } := by rw [Array.toList_modify, ChangeMaps.modify_eq_set _ _ _ _ f2]
    have hjM : j < M.length := by omega
    refine ⟨setBlock w b (.map (es.modify j (fun e' => { e' with key := ek x, val := ev v })) clock), ?_, ⟨_, _, M.set j (x, v), (heap_set h1).1, stamped_modify h2 _ _ (fun _ _ => rfl) (fun e' _ he' => hkeyf e' he'), ?_, ?_⟩, setBlock_but h1, by simp [setBlock]⟩
    · simp [Instr.mapUpdate, run_underlying ht, MapKept.run_getObj_map h1, S.check w, f1, hj, f3, S.stays w, MapKept.run_setObj_map _ h1, Result.andThen, setBlock]
    · rw [hlist, List.map_set, List.map_set, h3]
    · have e1 : M[j] = p := by rw [List.getElem?_eq_getElem hjM] at q1; exact Option.some.inj q1
      have e2 := offL_at hkM hjM
      rw [e1, hpx] at e2
      have e3 : (offL M x).Perm (offL L x) := h4.filter _
      rw [e2] at e3
      rw [List.set_eq_take_append_cons_drop, if_pos hjM]
      exact List.perm_middle.trans (List.Perm.cons _ e3)

/-- 'delete(m, k)'. -/
theorem KMap.drop [DecidableEq K] (S : KShape P k ek) {t : TypeId} {w : World} {b : Nat} {L : List (K × V)} (h : KMap ek ev w b L) (ht : P.underlying t = some (.map k e)) (x : K) (ty : TypeId) :
    ∃ w', (Builtin.delete_ #[t, k] ty #[.map (some b), ek x]).run P w = .ok (.tuple #[]) w' ∧ KMap ek ev w' b (offL L x) ∧ But (fun i => i = b) w w' ∧ w'.heap.size = w.heap.size := by
  obtain ⟨es, clock, M, h1, h2, h3, h4⟩ := h
  have hkM := keys_of h2 h3
  have hlen : M.length = es.toList.length := by have := congrArg List.length h3; simp only [List.length_map] at this; omega
  have e3 : (offL M x).Perm (offL L x) := h4.filter _
  rcases S.find w x es.toList (all_shape h3) with ⟨f1, f2⟩ | ⟨j, e0, f1, f2, f3⟩
  · refine ⟨setBlock w b (.map es clock), ?_, ⟨es, clock, M, (heap_set h1).1, h2, h3, ?_⟩, setBlock_but h1, by simp [setBlock]⟩
    · simp [Builtin.delete_, run_underlying ht, MapKept.run_getObj_map h1, S.check w, f1, MapKept.run_setObj_map _ h1, Result.andThen, setBlock]
    · have hn : ∀ p ∈ M, p.1 ≠ x := fun p hp e1 => by
        obtain ⟨j, hj, rfl⟩ := List.getElem_of_mem hp
        obtain ⟨p', q1, q2, _⟩ := entry_shape h3 (List.getElem?_eq_getElem (show j < es.toList.length by omega))
        rw [List.getElem?_eq_getElem hj] at q1
        have := Option.some.inj q1
        subst this
        exact f2 _ (List.getElem_mem _) (by rw [q2, e1])
      rwa [offL_none hn] at e3
  · obtain ⟨p, q1, q2, q3⟩ := entry_shape h3 f2
    have hpx : p.1 = x := S.inj _ _ (q2.symm.trans f3)
    have hjl : j < es.toList.length := (List.getElem?_eq_some_iff.1 f2).1
    have hjs : j < es.size := by simpa using hjl
    have hjM : j < M.length := by omega
    have hsub : (es.eraseIdxIfInBounds j).toList = es.toList.eraseIdx j := by
      unfold Array.eraseIdxIfInBounds
      rw [dif_pos hjs]
      simp
    refine ⟨setBlock w b (.map (es.eraseIdxIfInBounds j) clock), ?_, ⟨_, clock, M.eraseIdx j, (heap_set h1).1, stamped_erase h2 j, ?_, ?_⟩, setBlock_but h1, by simp [setBlock]⟩
    · simp [Builtin.delete_, run_underlying ht, MapKept.run_getObj_map h1, S.check w, f1, MapKept.run_setObj_map _ h1, Result.andThen, setBlock]
    · rw [hsub, ChangeMaps.map_eraseIdx, ChangeMaps.map_eraseIdx, h3]
    · have e1 : M[j] = p := by rw [List.getElem?_eq_getElem hjM] at q1; exact Option.some.inj q1
      have e2 := offL_at hkM hjM
      rw [e1, hpx] at e2
      rw [List.eraseIdx_eq_take_drop_succ, ← e2]
      exact e3

/-- 'len(m)'. -/
theorem KMap.len {t : TypeId} {w : World} {b : Nat} {L : List (K × V)} (h : KMap ek ev w b L) (ht : P.underlying t = some (.map k e)) (ty : TypeId) : (Builtin.len_ #[t] ty #[.map (some b)]).run P w = .ok (.int .i64 (L.length : Int)) w := by
  obtain ⟨es, clock, M, h1, h2, h3, h4⟩ := h
  have e1 : es.size = L.length := by
    have := congrArg List.length h3
    simp only [List.length_map, Array.length_toList] at this
    rw [this, h4.length_eq]
  rw [← e1]
  simp [Builtin.len_, run_underlying ht, MapKept.run_getObj_map h1, goInt, Result.andThen]

/-- 'make(map[K]V)'. -/
theorem KMap.made (w : World) : KMap ek ev (w.alloc (.map #[] 0)) w.heap.size [] :=
  ⟨#[], 0, [], (MapKept.heap_alloc w _).1, stamped_empty 0, rfl, List.Perm.nil⟩

/-- 'range m'. -/
theorem KMap.range {t : TypeId} {w : World} {b : Nat} {L : List (K × V)} (h : KMap ek ev w b L) (ht : P.underlying t = some (.map k e)) :
    ∃ w', (Instr.range t (.map (some b))).run P w = .ok (.pointer (some ⟨w.heap.size, 0, none⟩)) w' ∧ KRange ek ev w' b w.heap.size L L ∧ Below w.heap.size w w' ∧ w'.heap.size = w.heap.size + 1 := by
  have hlt := h.lt
  obtain ⟨es, clock, M, h1, h2, h3, h4⟩ := h
  refine ⟨_, run_range_map w t k e b es clock ht h1, ⟨es, clock, clock, #[], clock, M, M, ((MapKept.heap_alloc w _).2 b hlt).trans h1, h2, h3, h4, (MapKept.heap_alloc w _).1, h2.1, Nat.le_refl _, Nat.le_refl _, ?_, h4⟩, (Below.refl _ _).alloc (Nat.le_refl _) _, by simp⟩
  rw [← h3]
  unfold leftOf
  rw [show (es.filter fun e => !(#[] : Array Nat).contains e.born) = es from Array.filter_eq_self.2 fun x _ => by simp]

/-- The step. -/
theorem KRange.next {w : World} {b r : Nat} {L todo : List (K × V)} (h : KRange ek ev w b r L todo) (ty : TypeId) :
    (todo = [] ∧ (Instr.next (.pointer (some ⟨r, 0, none⟩)) false ty).run P w = .ok (.tuple #[.bool false]) w) ∨
    ∃ p todo' w', todo.Perm (p :: todo') ∧ (Instr.next (.pointer (some ⟨r, 0, none⟩)) false ty).run P w = .ok (.tuple #[.bool true, ek p.1, ev p.2]) w' ∧
      KRange ek ev w' b r L todo' ∧ But (fun i => i = r) w w' ∧ w'.heap.size = w.heap.size ∧ (Instr.entry (.pointer (some ⟨r, 0, none⟩))).run P w' = .ok (.tuple #[ek p.1, ev p.2]) w' := by
  obtain ⟨es, clock, since, seen, c0, M, T, h1, h2, h3, h4, h5, h6, h7, h8, h9, h10⟩ := h
  have hne : r ≠ b := fun e1 => by rw [e1, h1] at h5; cases h5
  rcases run_next_at (P := P) w ty r b since c0 seen es clock h5 h1 h6 h7 with ⟨h0, hrun⟩ | ⟨x, hx, w1, hal, hrun⟩
  · refine Or.inl ⟨?_, hrun⟩
    have : T.length = 0 := by
      have := congrArg List.length h9
      simp only [List.length_map, Array.length_toList] at this
      omega
    rw [List.length_eq_zero_iff.1 this] at h10
    exact h10.nil_eq.symm
  · obtain ⟨hem, hes⟩ := mem_left hx
    obtain ⟨j, hj, hjx⟩ := List.getElem_of_mem hx
    have hTl : T.length = (leftOf es seen).toList.length := by have := congrArg List.length h9; simp only [List.length_map] at this; omega
    obtain ⟨p, q1, q2, q3⟩ := entry_shape h9 (show (leftOf es seen).toList[j]? = some x by rw [List.getElem?_eq_getElem hj, hjx])
    have hr1 : w1.heap[r]? = some (.mapIter (some b) since seen c0) := by rcases hal with rfl | rfl <;> exact h5
    have hb1 : w1.heap[b]? = some (.map es clock) := by rcases hal with rfl | rfl <;> exact h1
    have hset := heap_set (o' := .mapIter (some b) since (seen.push x.born) clock) hr1
    have hb' : (setBlock w1 r (.mapIter (some b) since (seen.push x.born) clock)).heap[b]? = some (.map es clock) := (hset.2 b (fun e1 => hne e1.symm)).trans hb1
    have hborn : ((leftOf es seen).toList.map (·.born)).Nodup := by
      have hsl : (leftOf es seen).toList.Sublist es.toList := by
        unfold leftOf
        rw [Array.toList_filter]
        exact List.filter_sublist
      exact (hsl.map _).nodup h2.2.1
    have hleft : (leftOf es (seen.push x.born)).toList = (leftOf es seen).toList.take j ++ (leftOf es seen).toList.drop (j + 1) := by
      have e1 : (leftOf es (seen.push x.born)).toList = (leftOf es seen).toList.filter (fun y => !(y.born == x.born)) := by
        unfold leftOf
        rw [Array.toList_filter, Array.toList_filter, List.filter_filter]
        refine List.filter_congr fun y _ => ?_
        rw [contains_push]
        cases seen.contains y.born <;> cases (y.born == x.born) <;> rfl
      have e2 := offL_at (L := (leftOf es seen).toList.map fun y => (y.born, y)) (by rw [List.map_map]; exact hborn) (j := j) (by simpa using hj)
      unfold offL at e2
      rw [List.filter_map, ← List.map_take, ← List.map_drop, ← List.map_append] at e2
      have e3 := congrArg (List.map Prod.snd) e2
      simp only [List.map_map, Function.comp_def, List.map_id'] at e3
      rw [e1, ← e3]
      refine List.filter_congr fun y _ => ?_
      simp only [List.getElem_map, hjx]
      by_cases hq : y.born = x.born <;> simp [hq]
    have hjT : j < T.length := by omega
    have hTj : T[j] = p := by rw [List.getElem?_eq_getElem hjT] at q1; exact Option.some.inj q1
    have hTs : T.Perm (p :: (T.take j ++ T.drop (j + 1))) := by
      have : T = T.take j ++ p :: T.drop (j + 1) := by rw [← hTj]; simp
      exact (List.Perm.of_eq this).trans List.perm_middle
    refine Or.inr ⟨p, T.take j ++ T.drop (j + 1), _, h10.symm.trans hTs, by rw [← q2, ← q3]; exact hrun,
      ⟨es, clock, since, seen.push x.born, clock, M, _, hb', h2, h3, h4, hset.1, h6, h8, h8, ?_, List.Perm.refl _⟩, ?_, ?_, by
        rw [← q2, ← q3]
        exact run_entry_at _ r b since seen es clock x hset.1 hb' hem ((stamped_iff es clock).1 h2).2.1⟩
    · rw [hleft, List.map_append, List.map_append, List.map_take, List.map_drop, List.map_take, List.map_drop, h9]
    · rcases hal with rfl | rfl <;> exact ⟨rfl, rfl, rfl, by simp [setBlock], fun i _ hi => hset.2 i hi⟩
    · rcases hal with rfl | rfl <;> simp [setBlock]

/-! ### at the operation -/

/-- 'v, ok := m[k]'. -/
theorem wpList_k_look_ok [DecidableEq K] (S : KShape P k ek) {w : World} {ops : Array Oper} {rest : List Oper} {o : Oper} {a : Act} {Q : Exit → Act → World → Prop} (hg : o.guard = none) (m x : Operand) (t : TypeId)
    (hop : o.op = Op.lookup t m x true) (ht : P.underlying t = some (.map k e)) (zv : V) (hz : (zeroValue e).run P w = .ok (ev zv) w) (b : Nat) (L : List (K × V)) (hm : a.eval m = .map (some b)) (h : KMap ek ev w b L) (key : K) (hx : a.eval x = ek key)
    (hK : ∀ v, v = (lookL L key).getD zv → wpList P ops Q rest (a.put o.dst (.tuple #[ev v, .bool (lookL L key).isSome])) w) : wpList P ops Q (o :: rest) a w := by
  refine wpList_plain hg fun K' hK' => ?_
  have hrun := h.look S ht hz key true
  rw [if_pos rfl, show ((lookL L key).map ev).getD (ev zv) = ev ((lookL L key).getD zv) by cases lookL L key <;> rfl] at hrun
  unfold Oper.wp
  simp [execOp, hop, hm, hx, hrun, Result.andThen]
  exact hK' _ _ (hK _ rfl)

/-- 'm[k]'. -/
theorem wpList_k_look [DecidableEq K] (S : KShape P k ek) {w : World} {ops : Array Oper} {rest : List Oper} {o : Oper} {a : Act} {Q : Exit → Act → World → Prop} (hg : o.guard = none) (m x : Operand) (t : TypeId)
    (hop : o.op = Op.lookup t m x false) (ht : P.underlying t = some (.map k e)) (zv : V) (hz : (zeroValue e).run P w = .ok (ev zv) w) (b : Nat) (L : List (K × V)) (hm : a.eval m = .map (some b)) (h : KMap ek ev w b L) (key : K) (hx : a.eval x = ek key)
    (hK : ∀ v, v = (lookL L key).getD zv → wpList P ops Q rest (a.put o.dst (ev v)) w) : wpList P ops Q (o :: rest) a w := by
  refine wpList_plain hg fun K' hK' => ?_
  have hrun := h.look S ht hz key false
  rw [if_neg (by decide), show ((lookL L key).map ev).getD (ev zv) = ev ((lookL L key).getD zv) by cases lookL L key <;> rfl] at hrun
  unfold Oper.wp
  simp [execOp, hop, hm, hx, hrun, Result.andThen]
  exact hK' _ _ (hK _ rfl)

/-- 'm[k] = v'. -/
theorem wpList_k_store [DecidableEq K] (S : KShape P k ek) {w : World} {ops : Array Oper} {rest : List Oper} {o : Oper} {a : Act} {Q : Exit → Act → World → Prop} (hg : o.guard = none) (m x v : Operand) (t : TypeId)
    (hop : o.op = Op.mapUpdate t m x v) (ht : P.underlying t = some (.map k e)) (b : Nat) (L : List (K × V)) (hm : a.eval m = .map (some b)) (h : KMap ek ev w b L) (key : K) (hx : a.eval x = ek key) (val : V) (hv : a.eval v = ev val)
    (hK : ∀ w', Hid (KMap ek ev w' b ((key, val) :: offL L key)) → Hid (But (fun i => i = b) w w') → Hid (w'.heap.size = w.heap.size) → wpList P ops Q rest (a.put o.dst undef) w') : wpList P ops Q (o :: rest) a w := by
  refine wpList_plain hg fun K' hK' => ?_
  obtain ⟨w', hrun, r1, r2, r3⟩ := h.store S ht key val
  unfold Oper.wp
  simp [execOp, hop, hm, hx, hv, hrun, Result.andThen]
  exact hK' _ _ (hK w' r1 r2 r3)

/-- 'delete(m, k)'. -/
theorem wpList_k_drop [DecidableEq K] (S : KShape P k ek) {w : World} {ops : Array Oper} {rest : List Oper} {o : Oper} {a : Act} {Q : Exit → Act → World → Prop} (hg : o.guard = none) (m x : Operand) (t : TypeId)
    (hop : o.op = Op.call { callee := Callee.builtin Builtin.delete, args := #[m, x], argTypes := #[t, k] }) (ht : P.underlying t = some (.map k e)) (b : Nat) (L : List (K × V)) (hm : a.eval m = .map (some b)) (h : KMap ek ev w b L) (key : K) (hx : a.eval x = ek key)
    (hK : ∀ w', Hid (KMap ek ev w' b (offL L key)) → Hid (But (fun i => i = b) w w') → Hid (w'.heap.size = w.heap.size) → wpList P ops Q rest (a.put o.dst (.tuple #[])) w') : wpList P ops Q (o :: rest) a w := by
  refine wpList_plain hg fun K' hK' => ?_
  obtain ⟨w', hrun, r1, r2, r3⟩ := h.drop S ht key o.type
  unfold Oper.wp
  simp [execOp, hop, resolve, invoke, builtin, hm, hx, hrun, Result.andThen]
  exact hK' _ _ (hK w' r1 r2 r3)

/-- 'len(m)'. -/
theorem wpList_k_len {w : World} {ops : Array Oper} {rest : List Oper} {o : Oper} {a : Act} {Q : Exit → Act → World → Prop} (hg : o.guard = none) (m : Operand) (t : TypeId)
    (hop : o.op = Op.call { callee := Callee.builtin Builtin.len, args := #[m], argTypes := #[t] }) (ht : P.underlying t = some (.map k e)) (b : Nat) (L : List (K × V)) (hm : a.eval m = .map (some b)) (h : KMap ek ev w b L)
    (hK : wpList P ops Q rest (a.put o.dst (.int .i64 (L.length : Int))) w) : wpList P ops Q (o :: rest) a w := by
  refine wpList_plain hg fun K' hK' => ?_
  have hrun := h.len (P := P) ht o.type
  unfold Oper.wp
  simp [execOp, hop, resolve, invoke, builtin, hm, hrun, Result.andThen]
  exact hK' _ _ hK

/-- 'range m'. -/
theorem wpList_k_range {w : World} {ops : Array Oper} {rest : List Oper} {o : Oper} {a : Act} {Q : Exit → Act → World → Prop} (hg : o.guard = none) (m : Operand) (t : TypeId)
    (hop : o.op = Op.range t m) (ht : P.underlying t = some (.map k e)) (b : Nat) (L : List (K × V)) (hm : a.eval m = .map (some b)) (h : KMap ek ev w b L)
    (hK : ∀ w', Hid (KRange ek ev w' b w.heap.size L L) → Hid (Below w.heap.size w w') → Hid (w'.heap.size = w.heap.size + 1) → wpList P ops Q rest (a.put o.dst (.pointer (some ⟨w.heap.size, 0, none⟩))) w') : wpList P ops Q (o :: rest) a w := by
  refine wpList_plain hg fun K' hK' => ?_
  obtain ⟨w', hrun, r1, r2, r3⟩ := h.range (P := P) ht
  unfold Oper.wp
  simp [execOp, hop, hm, hrun, Result.andThen]
  exact hK' _ _ (hK w' r1 r2 r3)

/-- The step. -/
theorem wpList_k_next {w : World} {ops : Array Oper} {rest : List Oper} {o : Oper} {a : Act} {Q : Exit → Act → World → Prop} (hg : o.guard = none) (it : Operand) (hop : o.op = Op.next it false)
    (b r : Nat) (L todo : List (K × V)) (hit : a.eval it = .pointer (some ⟨r, 0, none⟩)) (h : KRange ek ev w b r L todo)
    (hDone : todo = [] → wpList P ops Q rest (a.put o.dst (.tuple #[.bool false])) w)
    (hMore : ∀ (p : K × V) (todo' : List (K × V)) (w' : World), Hid (todo.Perm (p :: todo')) → Hid (KRange ek ev w' b r L todo') → Hid (But (fun i => i = r) w w') → Hid (w'.heap.size = w.heap.size) →
      (Instr.entry (.pointer (some ⟨r, 0, none⟩))).run P w' = .ok (.tuple #[ek p.1, ev p.2]) w' → wpList P ops Q rest (a.put o.dst (.tuple #[.bool true, ek p.1, ev p.2])) w') :
    wpList P ops Q (o :: rest) a w := by
  refine wpList_plain hg fun K' hK' => ?_
  unfold Oper.wp
  rcases h.next (P := P) o.type with ⟨h0, hrun⟩ | ⟨p, todo', w', hp, hrun, hr, hb, hs, hen⟩
  · simp [execOp, hop, hit, hrun, Result.andThen]
    exact hK' _ _ (hDone h0)
  · simp [execOp, hop, hit, hrun, Result.andThen]
    exact hK' _ _ (hMore p todo' w' hp hr hb hs hen)

end
end Go.Proofs.YtbkijfhfjhpebaaGreatDoor

/-
  A graph as two maps: what stands in them, and what each call makes of them. It needs no program.
-/
namespace Go.Proofs.YtbkijfhfjhpebaaGreatDoor
open StampMath GraphMath

def pairsI (g : Gr) : List (St × Ino) := (inodesG g).map fun x => (x.id, x)
def pairsE (g : Gr) : List ((St × ByteArray) × St) := g.E.map fun e => ((e.dir, e.name), e.ino)

section
variable {K V : Type} [DecidableEq K]

omit [DecidableEq K] in
theorem nodup_of_keys {L : List (K × V)} (h : (L.map Prod.fst).Nodup) : L.Nodup := by
  unfold List.Nodup at h ⊢
  rw [List.pairwise_map] at h
  exact h.imp fun q e => q (by rw [e])

omit [DecidableEq K] in
theorem perm_by {L M : List (K × V)} (hL : (L.map Prod.fst).Nodup) (hM : (M.map Prod.fst).Nodup) (h : ∀ k v, (k, v) ∈ L ↔ (k, v) ∈ M) : L.Perm M :=
  (List.perm_ext_iff_of_nodup (nodup_of_keys hL) (nodup_of_keys hM)).2 fun p => h p.1 p.2

theorem mem_offL {L : List (K × V)} {x k : K} {v : V} : (k, v) ∈ offL L x ↔ (k, v) ∈ L ∧ k ≠ x := by
  unfold offL
  simp

theorem keys_offL {L : List (K × V)} (h : (L.map Prod.fst).Nodup) (x : K) : ((offL L x).map Prod.fst).Nodup :=
  List.Pairwise.sublist (List.Sublist.map _ List.filter_sublist) h

theorem keys_put {L : List (K × V)} (h : (L.map Prod.fst).Nodup) (x : K) (v : V) : (((x, v) :: offL L x).map Prod.fst).Nodup := by
  rw [List.map_cons, List.nodup_cons]
  refine ⟨fun hm => ?_, keys_offL h x⟩
  obtain ⟨⟨k, u⟩, hp, rfl⟩ := List.mem_map.1 hm
  exact (mem_offL.1 hp).2 rfl

/-- A map with one thing more is this one. -/
theorem put_perm {L M : List (K × V)} (hL : (L.map Prod.fst).Nodup) (hM : (M.map Prod.fst).Nodup) {x : K} {v : V} (h : ∀ k, lookL M k = if k = x then some v else lookL L k) : ((x, v) :: offL L x).Perm M := by
  refine perm_by (keys_put hL x v) hM fun k u => ?_
  rw [List.mem_cons, mem_offL, ← mem_lookL hM, h k, ← mem_lookL hL]
  by_cases hk : k = x
  · subst hk
    simp [eq_comm]
  · simp [hk]

/-- A map with one thing less is this one. -/
theorem off_perm {L M : List (K × V)} (hL : (L.map Prod.fst).Nodup) (hM : (M.map Prod.fst).Nodup) {x : K} (h : ∀ k, lookL M k = if k = x then none else lookL L k) : (offL L x).Perm M := by
  refine perm_by (keys_offL hL x) hM fun k u => ?_
  rw [mem_offL, ← mem_lookL hM, h k, ← mem_lookL hL]
  by_cases hk : k = x
  · simp [hk]
  · simp [hk]
end

theorem look_pairsI {g : Gr} (h : g.ok) (id : St) : lookL (pairsI g) id = getG g id := by
  unfold lookL pairsI
  rw [h.inodes, List.map_map, List.find?_map, Option.map_map]
  unfold getG
  cases hq : g.I.find? (fun x => decide (x.id = id)) with
  | none =>
    rw [show (g.I.find? ((fun p => decide (p.1 = id)) ∘ (fun x : Ino => (x.id, x)) ∘ fun x => { x with links := (linksE g.E x.id : Int) })) = g.I.find? (fun x => decide (x.id = id)) from rfl, hq]
    rfl
  | some x =>
    rw [show (g.I.find? ((fun p => decide (p.1 = id)) ∘ (fun x : Ino => (x.id, x)) ∘ fun x => { x with links := (linksE g.E x.id : Int) })) = g.I.find? (fun x => decide (x.id = id)) from rfl, hq]
    have := List.find?_some hq
    simp at this
    simp [this]

theorem look_pairsE (g : Gr) (d : St) (nm : ByteArray) : lookL (pairsE g) (d, nm) = lookE g.E d nm := by
  unfold lookL pairsE lookE
  rw [List.find?_map, Option.map_map]
  congr 1
  refine congrArg (fun f => List.find? f g.E) (funext fun e => ?_)
  by_cases h1 : e.dir = d
  · by_cases h2 : e.name = nm
    · simp [h1, h2]
    · simp [h1, h2]
  · simp [h1]

theorem keys_pairsI {g : Gr} (h : g.ok) : ((pairsI g).map Prod.fst).Nodup := by
  unfold pairsI
  rw [List.map_map, h.inodes, List.map_map]
  unfold List.Nodup
  rw [List.pairwise_map]
  exact h.sortI.imp fun {x y} q (e : x.id = y.id) => by
    rw [e, lessS_irrefl] at q
    cases q

theorem keys_pairsE {g : Gr} (h : g.ok) : ((pairsE g).map Prod.fst).Nodup := by
  unfold pairsE
  rw [List.map_map]
  unfold List.Nodup
  rw [List.pairwise_map]
  refine h.sortE.imp fun {x y} q e => ?_
  have e1 : x.dir = y.dir := congrArg (fun p => p.1) e
  have e2 : x.name = y.name := congrArg (fun p => p.2) e
  rcases (aheadE_iff x y).1 q with q | ⟨_, q⟩
  · rw [e1, lessS_irrefl] at q
    cases q
  · rw [e2] at q
    exact bytes_irrefl _ q

theorem get_iff {g : Gr} (h : g.ok) {k : St} {v : Ino} : getG g k = some v ↔ ∃ x ∈ g.I, x.id = k ∧ v = { x with links := (linksE g.E k : Int) } := by
  constructor
  · exact get_some
  · rintro ⟨x, hx, rfl, rfl⟩
    exact h.get hx

theorem look_iff {g : Gr} (h : g.ok) {d : St} {nm : ByteArray} {id : St} : lookE g.E d nm = some id ↔ (⟨d, nm, id⟩ : Ent) ∈ g.E := by
  rw [← look_pairsE, mem_lookL (keys_pairsE h)]
  unfold pairsE
  rw [List.mem_map]
  constructor
  · rintro ⟨e, he, q⟩
    have : e = ⟨d, nm, id⟩ := by
      obtain ⟨a, b, c⟩ := e
      simp only [Prod.mk.injEq] at q
      obtain ⟨⟨rfl, rfl⟩, rfl⟩ := q
      rfl
    rw [← this]
    exact he
  · intro he
    exact ⟨_, he, rfl⟩

/-- No entry is of what isn't there. -/
theorem links_none {g : Gr} (h : g.ok) {id : St} (hn : getG g id = none) : linksE g.E id = 0 := by
  unfold linksE
  rw [List.filter_eq_nil_iff.2 (fun e he q => ?_)]
  · rfl
  · obtain ⟨x, hx, e1⟩ := h.inos e he
    exact get_none hn x hx (e1.trans (by simpa using q))

/-! ### Make -/
theorem make_get {g : Gr} (h : g.ok) {id : St} {kind : Int} (h1 : (makeG g id kind).2 = 0) (k : St) :
    getG (makeG g id kind).1 k = if k = id then some ⟨id, kind, 0, 0, ⟨#[]⟩⟩ else getG g k := by
  have hok := h.make id kind
  unfold makeG at h1 hok ⊢
  by_cases c1 : mayB id.1 id.2 = false ∨ kind < 1 ∨ 3 < kind
  · rw [if_pos c1] at h1; cases h1
  rw [if_neg c1] at h1 hok ⊢
  by_cases c2 : (getG g id).isSome = true
  · rw [if_pos c2] at h1; cases h1
  rw [if_neg c2] at h1 hok ⊢
  by_cases c3 : 40 ≤ g.I.length
  · rw [if_pos c3] at h1; cases h1
  rw [if_neg c3] at hok ⊢
  have hn : getG g id = none := by cases hq : getG g id with | none => rfl | some _ => rw [hq] at c2; simp at c2
  refine Option.ext fun v => ?_
  rw [get_iff hok]
  simp only [putIn_mem]
  by_cases hk : k = id
  · subst hk
    rw [if_pos rfl]
    constructor
    · rintro ⟨x, rfl | hx, e1, rfl⟩
      · simp [links_none h hn]
      · exact absurd e1 (get_none hn x hx)
    · intro e
      injection e with e
      exact ⟨_, Or.inl rfl, rfl, by rw [← e]; simp [links_none h hn]⟩
  · rw [if_neg hk, get_iff h]
    constructor
    · rintro ⟨x, rfl | hx, e1, rfl⟩
      · exact absurd e1.symm hk
      · exact ⟨x, hx, e1, rfl⟩
    · rintro ⟨x, hx, e1, rfl⟩
      exact ⟨x, Or.inr hx, e1, rfl⟩

theorem make_ents (g : Gr) (id : St) (kind : Int) : (makeG g id kind).1.E = g.E := by
  unfold makeG
  split <;> try rfl
  split <;> try rfl
  split <;> rfl

/-! ### Tie -/
theorem tie_get {g : Gr} {b : Bool} {e : Ent} (h1 : (tieG b g e).2 = 0) (k : St) :
    getG (tieG b g e).1 k = (getG g k).map fun x => if k = e.ino then { x with links := x.links + 1 } else x := by
  unfold tieG at h1 ⊢
  by_cases c : whyG b g e = 0
  · rw [if_pos c]
    unfold getG
    simp only [linksE_put, Option.map_map]
    congr 1
    funext x
    by_cases hk : k = e.ino
    · subst hk
      simp
    · have hk' : ¬ e.ino = k := fun q => hk q.symm
      simp [hk, hk']
  · rw [if_neg c] at h1
    exact absurd h1 c

theorem tie_look {g : Gr} (h : g.ok) {b : Bool} {e : Ent} (h1 : (tieG b g e).2 = 0) (p : St × ByteArray) :
    lookL (pairsE (tieG b g e).1) p = if p = (e.dir, e.name) then some e.ino else lookL (pairsE g) p := by
  have hok := h.tie b e
  unfold tieG at h1 hok ⊢
  by_cases c : whyG b g e = 0
  · rw [if_pos c] at hok ⊢
    have hn : lookE g.E e.dir e.name = none := by
      cases hq : lookE g.E e.dir e.name with
      | none => rfl
      | some y =>
        unfold whyG at c
        split at c
        · cases c
        · split at c
          · split at c
            · cases c
            · rw [hq] at c
              simp at c
          · cases c
    obtain ⟨d, nm⟩ := p
    rw [look_pairsE, look_pairsE]
    refine Option.ext fun id => ?_
    rw [look_iff hok, putIn_mem]
    by_cases hp : (d, nm) = (e.dir, e.name)
    · rw [if_pos hp]
      simp only [Prod.mk.injEq] at hp
      obtain ⟨rfl, rfl⟩ := hp
      constructor
      · rintro (q | q)
        · rw [← q]
        · exact absurd ⟨rfl, rfl⟩ (look_none hn _ q)
      · intro q
        injection q with q
        exact Or.inl (by rw [← q])
    · rw [if_neg hp, look_iff h]
      constructor
      · rintro (q | q)
        · exact absurd (by rw [← q]) hp
        · exact q
      · exact Or.inr
  · rw [if_neg c] at h1
    exact absurd h1 c

/-! ### Untie -/
theorem untie_look {g : Gr} (h : g.ok) {d : St} {nm : ByteArray} {id : St} (h1 : lookE g.E d nm = some id) (p : St × ByteArray) :
    lookL (pairsE (untieG g d nm).1) p = if p = (d, nm) then none else lookL (pairsE g) p := by
  have hok := h.untie d nm
  unfold untieG at hok ⊢
  rw [h1] at hok ⊢
  simp only at hok ⊢
  obtain ⟨d', nm'⟩ := p
  rw [look_pairsE, look_pairsE]
  refine Option.ext fun u => ?_
  rw [look_iff hok, List.mem_filter]
  by_cases hp : (d', nm') = (d, nm)
  · rw [if_pos hp]
    simp only [Prod.mk.injEq] at hp
    obtain ⟨rfl, rfl⟩ := hp
    simp
  · rw [if_neg hp, look_iff h]
    have : (!(decide (d' = d) && decide (nm' = nm))) = true := by
      by_cases a : d' = d
      · by_cases c : nm' = nm
        · exact absurd (by rw [a, c]) hp
        · simp [c]
      · simp [a]
    constructor
    · exact fun q => q.1
    · exact fun q => ⟨q, this⟩

theorem untie_links {g : Gr} (h : g.ok) {d : St} {nm : ByteArray} {id : St} (h1 : lookE g.E d nm = some id) (k : St) :
    (linksE (g.E.filter fun e => !(decide (e.dir = d) && decide (e.name = nm))) k : Int) = (linksE g.E k : Int) - if k = id then 1 else 0 := by
  have hm := (look_iff h).1 h1
  have hnd : g.E.Nodup := by
    have q := keys_pairsE h
    unfold pairsE at q
    rw [List.map_map] at q
    unfold List.Nodup at q ⊢
    rw [List.pairwise_map] at q
    exact q.imp fun r e => r (by rw [e])
  have hu : ∀ e ∈ g.E, (!(decide (e.dir = d) && decide (e.name = nm))) = !decide (e = ⟨d, nm, id⟩) := by
    intro e he
    by_cases q : e = ⟨d, nm, id⟩
    · subst q; simp
    · have : ¬ (e.dir = d ∧ e.name = nm) := by
        rintro ⟨rfl, rfl⟩
        refine q ?_
        have r := (look_iff h (d := e.dir) (nm := e.name) (id := e.ino)).2 he
        rw [h1] at r
        injection r with r
        rw [r]
      simp only [q, decide_false, Bool.not_false, Bool.not_eq_true', Bool.and_eq_false_iff, decide_eq_false_iff_not]
      by_cases a : e.dir = d
      · exact Or.inr fun c => this ⟨a, c⟩
      · exact Or.inl a
  rw [List.filter_congr hu]
  obtain ⟨A, B, hE⟩ := List.append_of_mem hm
  rw [hE] at hnd ⊢
  have hA : ∀ e ∈ A, (!decide (e = (⟨d, nm, id⟩ : Ent))) = true := fun e he => by
    have := (List.nodup_append.1 hnd).2.2 e he ⟨d, nm, id⟩ (List.mem_cons_self ..)
    simp [this]
  have hB : ∀ e ∈ B, (!decide (e = (⟨d, nm, id⟩ : Ent))) = true := fun e he => by
    have q := (List.nodup_cons.1 (List.nodup_append.1 hnd).2.1).1
    have : e ≠ ⟨d, nm, id⟩ := fun r => q (r ▸ he)
    simp [this]
  rw [List.filter_append, List.filter_eq_self.2 hA, List.filter_cons_of_neg (by simp), List.filter_eq_self.2 hB]
  unfold linksE
  simp only [List.filter_append, List.filter_cons, List.length_append]
  by_cases hk : k = id
  · subst hk
    simp
    omega
  · have hk' : ¬ id = k := fun q => hk q.symm
    simp [hk, hk']

theorem untie_get {g : Gr} (h : g.ok) {d : St} {nm : ByteArray} {id : St} (h1 : lookE g.E d nm = some id) (k : St) :
    getG (untieG g d nm).1 k = (getG g k).map fun x => if k = id then { x with links := x.links - 1 } else x := by
  unfold untieG
  rw [h1]
  unfold getG
  simp only [untie_links h h1, Option.map_map]
  congr 1
  funext x
  by_cases hk : k = id
  · simp [hk]
  · simp [hk]

/-! ### Drop -/
theorem drop_get {g : Gr} (h : g.ok) {id : St} (h1 : (dropG g id).2 = 0) (k : St) : getG (dropG g id).1 k = if k = id then none else getG g k := by
  have hok := h.drop id
  cases hq : getG g id with
  | none =>
    unfold dropG at h1
    rw [hq] at h1
    cases h1
  | some x =>
    unfold dropG at h1 hok ⊢
    rw [hq] at h1 hok ⊢
    simp only at h1 hok ⊢
    by_cases c1 : id = (0, 0)
    · rw [if_pos c1] at h1; cases h1
    rw [if_neg c1] at h1 hok ⊢
    by_cases c2 : 0 < x.links ∨ 0 < (listE g.E id).length
    · rw [if_pos c2] at h1; cases h1
    rw [if_neg c2] at hok ⊢
    refine Option.ext fun v => ?_
    rw [get_iff hok]
    simp only [List.mem_filter]
    by_cases hk : k = id
    · subst hk
      rw [if_pos rfl]
      constructor
      · rintro ⟨y, ⟨_, hy⟩, e1, _⟩
        simp [e1] at hy
      · intro q; cases q
    · rw [if_neg hk, get_iff h]
      constructor
      · rintro ⟨y, ⟨hy, _⟩, e1, rfl⟩
        exact ⟨y, hy, e1, rfl⟩
      · rintro ⟨y, hy, e1, rfl⟩
        refine ⟨y, ⟨hy, ?_⟩, e1, rfl⟩
        have : ¬ y.id = id := fun q => hk (e1.symm.trans q)
        simp [this]

theorem drop_ents (g : Gr) (id : St) : (dropG g id).1.E = g.E := by
  unfold dropG
  split
  · rfl
  · split
    · rfl
    · split <;> rfl

/-! ### Set -/
theorem set_get {g : Gr} {id : St} {mode : Int} {data : ByteArray} (k : St) :
    getG (setG g id mode data).1 k = (getG g k).map fun x => if k = id then { x with mode := mode, data := data } else x := by
  have hx : ∀ {x : Ino} {s : St}, g.I.find? (fun x => decide (x.id = s)) = some x → x.id = s := fun h => by
    have := List.find?_some h
    simpa using this
  cases hq : getG g id with
  | none =>
    unfold setG
    rw [hq]
    cases hk : getG g k with
    | none => rfl
    | some x =>
      have : ¬ k = id := fun q => by rw [q, hq] at hk; cases hk
      simp [this]
  | some y =>
    unfold setG
    rw [hq]
    unfold getG
    simp only [List.find?_map, Option.map_map]
    have e : ((fun x : Ino => decide (x.id = k)) ∘ fun x => if x.id = id then { x with mode := mode, data := data } else x) = fun x => decide (x.id = k) := by
      funext x
      simp only [Function.comp]
      split <;> rfl
    rw [e]
    cases hf : g.I.find? (fun x => decide (x.id = k)) with
    | none => rfl
    | some x =>
      have hxk := hx hf
      simp only [Option.map_some, Function.comp, Option.some.injEq]
      by_cases hk : k = id
      · have : x.id = id := hxk.trans hk
        simp [hk, this]
      · have : ¬ x.id = id := fun r => hk (hxk.symm.trans r)
        simp [hk, this]

theorem set_ents (g : Gr) (id : St) (mode : Int) (data : ByteArray) : (setG g id mode data).1.E = g.E := by
  unfold setG
  split <;> rfl

end Go.Proofs.YtbkijfhfjhpebaaGreatDoor

/-
  Plain mathematics of layer 9: directories are trees; links are counted right. It needs no program.
-/
namespace Go.Proofs.YtbkijfhfjhpebaaGreatDoor.GraphMath
open StampMath

theorem leads_trans {g : Gr} {a b c : St} (h : Leads g a b) (k : Leads g b c) : Leads g a c := by
  induction h with
  | here _ => exact k
  | up e d he hd _ ih => exact Leads.up e c he hd (ih k)

theorem leads_rank {g : Gr} {f : St → Nat} (hf : ∀ e ∈ g.E, g.isDir e.ino → f e.dir < f e.ino) {a b : St} (h : Leads g a b) : a = b ∨ f b < f a := by
  induction h with
  | here _ => exact Or.inl rfl
  | up e d he hd _ ih =>
    have := hf e he hd
    rcases ih with rfl | h
    · exact Or.inr this
    · exact Or.inr (by omega)

theorem Gr.ok.anti {g : Gr} (h : g.ok) {a b : St} (h1 : underG g a b = true) (h2 : underG g b a = true) : a = b := by
  obtain ⟨f, hf⟩ := h.rank
  rcases leads_rank hf (h.leads.1 h1) with e | e
  · exact e
  · rcases leads_rank hf (h.leads.1 h2) with q | q
    · exact q.symm
    · omega

theorem Gr.ok.utrans {g : Gr} (h : g.ok) {a b c : St} (h1 : underG g a b = true) (h2 : underG g b c = true) : underG g a c = true :=
  h.leads.2 (leads_trans (h.leads.1 h1) (h.leads.1 h2))

theorem under_self (g : Gr) (a : St) : underG g a a = true := by
  unfold underG
  rw [underN_step, if_pos rfl]

/-- None is under itself by another one. -/
theorem Gr.ok.no_loop {g : Gr} (h : g.ok) {id p : St} (hp : parentG g id = some p) : underG g p id = false := by
  cases hu : underG g p id with
  | false => rfl
  | true =>
    obtain ⟨e, he, rfl, rfl, hd⟩ := parent_of hp
    obtain ⟨f, hf⟩ := h.rank
    have := hf e he hd
    rcases leads_rank hf (h.leads.1 hu) with q | q
    · rw [q] at this; omega
    · omega

theorem Gr.ok.under_up {g : Gr} (h : g.ok) {a p : St} (hp : parentG g a = some p) : underG g a p = true := by
  obtain ⟨e, he, rfl, rfl, hd⟩ := parent_of hp
  exact h.leads.2 (Leads.up e _ he hd (Leads.here _))

/-- Behind the first step. -/
theorem Gr.ok.under_step {g : Gr} (h : g.ok) {a b p : St} (hp : parentG g a = some p) (hab : a ≠ b) : underG g a b = underG g p b := by
  rw [Bool.eq_iff_iff, h.leads, h.leads]
  constructor
  · intro hl
    cases hl with
    | here _ => exact absurd rfl hab
    | up e d he hd hl =>
      have := h.parent he hd
      rw [hp] at this
      rw [Option.some.inj this]
      exact hl
  · intro hl
    obtain ⟨e, he, rfl, rfl, hd⟩ := parent_of hp
    exact Leads.up e b he hd hl

/-- A parent there is just of a directory with a link. -/
theorem Gr.ok.parent_iff {g : Gr} (h : g.ok) {x : Ino} (hx : x ∈ g.I) : (parentG g x.id).isSome = (decide (x.kind = 1) && decide (linksE g.E x.id = 1)) := by
  cases hp : parentG g x.id with
  | some p =>
    obtain ⟨e, he, hei, _, hd⟩ := parent_of hp
    have h1 := h.one x.id hd
    have h2 : 0 < linksE g.E x.id := List.length_pos_of_mem (a := e) (List.mem_filter.2 ⟨he, by simp [hei]⟩)
    obtain ⟨y, hy, hyi, hyk⟩ := hd
    have := h.ids hy hx hyi
    subst this
    rw [decide_eq_true hyk, decide_eq_true (by omega)]
    rfl
  | none =>
    symm
    rw [Option.isSome_none, Bool.and_eq_false_iff]
    by_cases hk : x.kind = 1
    · refine Or.inr (decide_eq_false fun hl => ?_)
      have hpos : 0 < (g.E.filter fun e => decide (e.ino = x.id)).length := by unfold linksE at hl; omega
      obtain ⟨e, hem⟩ := List.exists_mem_of_length_pos hpos
      obtain ⟨he, hei⟩ := List.mem_filter.1 hem
      have hei : e.ino = x.id := by simpa using hei
      have := h.parent he ⟨x, hx, hei.symm, hk⟩
      rw [hei, hp] at this
      cases this
    · exact Or.inl (decide_eq_false hk)

end Go.Proofs.YtbkijfhfjhpebaaGreatDoor.GraphMath

/-
  Plain mathematics of layer 8: bytes written, cut off, read. It needs no program.
-/
namespace Go.Proofs.YtbkijfhfjhpebaaGreatDoor.ExtentMath
open Go.RowKit

/-- The first k bytes that a function tells. -/
def bld (f : Nat → UInt8) (k : Nat) : List UInt8 := (List.range k).map f

theorem bld_succ (f : Nat → UInt8) (k : Nat) : bld f (k + 1) = bld f k ++ [f k] := by
  unfold bld
  rw [List.range_succ, List.map_append]
  rfl

theorem bld_len (f : Nat → UInt8) (k : Nat) : (bld f k).length = k := by simp [bld]

theorem bld_get (f : Nat → UInt8) {k i : Nat} (h : i < k) : (bld f k)[i]? = some (f i) := by
  unfold bld
  rw [List.getElem?_map, List.getElem?_range h]
  rfl

/-- A byte of d; 0 behind its end. -/
def bAt (d : List UInt8) (i : Nat) : UInt8 := d.getD i 0

theorem bAt_lt {d : List UInt8} {i : Nat} (h : i < d.length) : bAt d i = d[i] := by
  unfold bAt
  rw [List.getD_eq_getElem?_getD, List.getElem?_eq_getElem h]
  rfl

theorem bAt_ge {d : List UInt8} {i : Nat} (h : d.length ≤ i) : bAt d i = 0 := by
  unfold bAt
  rw [List.getD_eq_getElem?_getD, List.getElem?_eq_none h]
  rfl

theorem bAt_bld (f : Nat → UInt8) {k i : Nat} (h : i < k) : bAt (bld f k) i = f i := by
  unfold bAt
  rw [List.getD_eq_getElem?_getD, bld_get f h]
  rfl

/-- Lists with the same bytes are the same. -/
theorem same_bytes {a b : List UInt8} (hl : a.length = b.length) (h : ∀ i, i < a.length → bAt a i = bAt b i) : a = b := by
  apply List.ext_getElem hl
  intro i h1 h2
  have := h i h1
  rw [bAt_lt h1, bAt_lt h2] at this
  exact this

theorem bld_self (d : List UInt8) : bld (bAt d) d.length = d :=
  same_bytes (bld_len _ _) fun i hi => bAt_bld _ (by rw [bld_len] at hi; exact hi)

/-- Written at o. -/
def wF (d s : List UInt8) (o i : Nat) : UInt8 := if o ≤ i ∧ i < o + s.length then bAt s (i - o) else bAt d i
def wL (d s : List UInt8) (o : Nat) : List UInt8 := bld (wF d s o) (max d.length (o + s.length))
/-- Of size n. -/
def tL (d : List UInt8) (n : Nat) : List UInt8 := bld (bAt d) n
/-- Read at o. -/
def rL (d : List UInt8) (o m : Nat) : List UInt8 := (d.drop o).take m

theorem wL_len (d s : List UInt8) (o : Nat) : (wL d s o).length = max d.length (o + s.length) := bld_len _ _
theorem tL_len (d : List UInt8) (n : Nat) : (tL d n).length = n := bld_len _ _
theorem rL_len (d : List UInt8) (o m : Nat) : (rL d o m).length = min m (d.length - o) := by unfold rL; rw [List.length_take, List.length_drop]

theorem bAt_wL (d s : List UInt8) (o i : Nat) : bAt (wL d s o) i = wF d s o i := by
  unfold wL
  by_cases h : i < max d.length (o + s.length)
  · exact bAt_bld _ h
  · rw [bAt_ge (by rw [bld_len]; omega)]
    unfold wF
    rw [if_neg (by omega), bAt_ge (by omega)]

theorem bAt_tL (d : List UInt8) (n i : Nat) : bAt (tL d n) i = if i < n then bAt d i else 0 := by
  unfold tL
  by_cases h : i < n
  · rw [if_pos h]; exact bAt_bld _ h
  · rw [if_neg h]; exact bAt_ge (by rw [bld_len]; omega)

theorem bAt_rL (d : List UInt8) (o m i : Nat) : bAt (rL d o m) i = if i < m then bAt d (o + i) else 0 := by
  unfold rL bAt
  rw [List.getD_eq_getElem?_getD, List.getD_eq_getElem?_getD, List.getElem?_take]
  by_cases h : i < m
  · rw [if_pos h, if_pos h, List.getElem?_drop]
  · rw [if_neg h, if_neg h]; rfl

/-- What Write tells: the data, the error. -/
def wR (d : ByteArray) (off : Int) (s : ByteArray) : ByteArray × Int :=
  if off < 0 ∨ s.size = 0 then (d, 1)
  else if 64 < off ∨ 64 < s.size ∨ 64 < d.size ∨ 64 < off + (s.size : Int) then (d, 11)
  else (⟨(wL d.data.toList s.data.toList off.toNat).toArray⟩, 0)

def tR (d : ByteArray) (n : Int) : ByteArray × Int :=
  if n < 0 then (d, 1) else if 64 < n ∨ 64 < d.size then (d, 11) else (⟨(tL d.data.toList n.toNat).toArray⟩, 0)

def rR (d : ByteArray) (off many : Int) : ByteArray := if off < 0 then ⟨#[]⟩ else ⟨(rL d.data.toList off.toNat many.toNat).toArray⟩

/-- Reading byte by byte. -/
theorem rL_bld (d : List UInt8) (o m : Nat) : rL d o m = bld (fun i => bAt d (o + i)) (min m (d.length - o)) :=
  same_bytes (by rw [rL_len, bld_len]) fun i hi => by
    rw [rL_len] at hi
    rw [bAt_rL, if_pos (by omega), bAt_bld _ hi]

/-- What was written is read. -/
theorem read_wrote (d s : List UInt8) (o : Nat) : rL (wL d s o) o s.length = s :=
  same_bytes (by rw [rL_len, wL_len]; omega) fun i hi => by
    rw [rL_len, wL_len] at hi
    rw [bAt_rL, if_pos (by omega), bAt_wL]
    unfold wF
    rw [if_pos (by omega)]
    congr 1
    omega

/-- One byte elsewhere is as it was, a zero between. -/
theorem read_else (d s : List UInt8) (o k : Nat) (h : k < o ∨ o + s.length ≤ k) : rL (wL d s o) k 1 = if d.length ≤ k ∧ k < o then [0] else rL d k 1 := by
  by_cases hz : d.length ≤ k ∧ k < o
  · rw [if_pos hz]
    refine same_bytes (by rw [rL_len, wL_len]; simp; omega) fun i hi => ?_
    rw [rL_len, wL_len] at hi
    obtain rfl : i = 0 := by omega
    rw [bAt_rL, if_pos (by omega), bAt_wL]
    unfold wF
    rw [if_neg (by omega), bAt_ge (by omega)]
    rfl
  · rw [if_neg hz]
    refine same_bytes (by rw [rL_len, rL_len, wL_len]; omega) fun i hi => ?_
    rw [rL_len, wL_len] at hi
    obtain rfl : i = 0 := by omega
    rw [bAt_rL, bAt_rL, if_pos Nat.zero_lt_one, bAt_wL]
    unfold wF
    rw [if_neg (by omega)]
    rfl

theorem trunc_twice (d : List UInt8) (n : Nat) : tL (tL d n) n = tL d n :=
  same_bytes (by rw [tL_len, tL_len]) fun i hi => by
    rw [tL_len] at hi
    rw [bAt_tL, if_pos hi]

theorem trunc_read (d : List UInt8) (m n k : Nat) (hm : k ≤ m) (hn : k ≤ n) (hd : k ≤ d.length) : rL (tL (tL d m) n) 0 k = rL d 0 k :=
  same_bytes (by rw [rL_len, rL_len, tL_len]; omega) fun i hi => by
    rw [rL_len, tL_len] at hi
    rw [bAt_rL, bAt_rL, if_pos (by omega), if_pos (by omega), bAt_tL, if_pos (by omega), bAt_tL, if_pos (by omega)]

theorem trunc_zero (d : List UInt8) (m n i : Nat) (h : m ≤ i ∨ d.length ≤ i) : bAt (tL (tL d m) n) i = 0 := by
  rw [bAt_tL]
  split
  · rw [bAt_tL]
    split
    · rw [bAt_ge (by omega)]
    · rfl
  · rfl

theorem write_twice (d s : List UInt8) : wL (wL d s 0) s 0 = wL d s 0 :=
  same_bytes (by rw [wL_len, wL_len]; omega) fun i hi => by
    rw [bAt_wL, bAt_wL]
    unfold wF
    by_cases h : 0 ≤ i ∧ i < 0 + s.length
    · rw [if_pos h, if_pos h]
    · rw [if_neg h, bAt_wL]
      unfold wF
      rw [if_neg h]

theorem write_apart (d s t : List UInt8) (i k : Nat) (h : i + s.length ≤ k ∨ k + t.length ≤ i) : wL (wL d s i) t k = wL (wL d t k) s i :=
  same_bytes (by rw [wL_len, wL_len, wL_len, wL_len]; omega) fun j hj => by
    rw [bAt_wL, bAt_wL]
    unfold wF
    rw [bAt_wL, bAt_wL]
    unfold wF
    by_cases h1 : k ≤ j ∧ j < k + t.length
    · rw [if_pos h1, if_neg (by omega)]
      rw [if_pos h1]
    · rw [if_neg h1]
      by_cases h2 : i ≤ j ∧ j < i + s.length
      · rw [if_pos h2, if_pos h2]
      · rw [if_neg h2, if_neg h2, if_neg h1]

theorem write_over (d s t : List UInt8) (i k : Nat) (h1 : k ≤ i) (h2 : i + s.length ≤ k + t.length) : wL (wL d s i) t k = wL d t k :=
  same_bytes (by rw [wL_len, wL_len, wL_len]; omega) fun j hj => by
    rw [bAt_wL, bAt_wL]
    unfold wF
    by_cases h : k ≤ j ∧ j < k + t.length
    · rw [if_pos h, if_pos h]
    · rw [if_neg h, if_neg h, bAt_wL]
      unfold wF
      rw [if_neg (by omega)]

end Go.Proofs.YtbkijfhfjhpebaaGreatDoor.ExtentMath

/-
  Plain mathematics of layer 11: why an operation can't be done on a graph, and what it makes. It needs no program.
-/
namespace Go.Proofs.YtbkijfhfjhpebaaGreatDoor.GraphMath
open StampMath OpMath ExtentMath

def oAt (o : Opn) : St := (o.pt, o.pr)
def oIno (o : Opn) : St := (o.it, o.ir)
def oTo (o : Opn) : St := (o.tt, o.tr)
def oSt (o : Opn) : St := (o.st, o.sr)

/-- An inode's kind; 0: there is none. -/
def kindG (g : Gr) (id : St) : Int := ((getG g id).getD noIno).kind
/-- An inode's links. -/
def linksG (g : Gr) (id : St) : Int := ((getG g id).getD noIno).links

/-- Why can't an inode be made, or have one entry more? -/
def makesW (g : Gr) (o : Opn) : Int :=
  if kindG g (oAt o) = 0 ∨ (o.k = 4 ∧ kindG g (oIno o) = 0) then 3
  else if kindG g (oAt o) ≠ 1 then 6
  else if o.k = 4 ∧ kindG g (oIno o) = 1 then 5
  else if (lookE g.E (oAt o) o.name).isSome ∨ (o.k ≠ 4 ∧ kindG g (oSt o) ≠ 0) then 4
  else if o.k ≠ 4 ∧ 40 ≤ g.I.length then 13
  else if o.k = 4 ∧ 6 ≤ linksG g (oIno o) then 12
  else 0

/-- The target of a Rename. -/
def targetG (g : Gr) (o : Opn) : Option St := lookE g.E (oTo o) o.new

/-- Why can't an entry be another one? -/
def renamesW (g : Gr) (o : Opn) : Int :=
  if lookE g.E (oAt o) o.name ≠ some (oIno o) ∨ kindG g (oTo o) = 0 then 3
  else if kindG g (oTo o) ≠ 1 then 6
  else if targetG g o = some (oIno o) then 0
  else if kindG g (oIno o) = 1 ∧ underG g (oTo o) (oIno o) = true then 8
  else if ((targetG g o).isSome ∧ kindG g ((targetG g o).getD (0, 0)) = 1) ∧ kindG g (oIno o) ≠ 1 then 5
  else if (targetG g o).isSome ∧ kindG g (oIno o) = 1 ∧ ¬ ((targetG g o).isSome ∧ kindG g ((targetG g o).getD (0, 0)) = 1) then 6
  else if ((targetG g o).isSome ∧ kindG g ((targetG g o).getD (0, 0)) = 1) ∧ 0 < (listE g.E ((targetG g o).getD (0, 0))).length then 7
  else 0

/-- Why can't an operation be done? -/
def whyA (g : Gr) (o : Opn) : Int :=
  if mayO o = false then 1
  else if o.k ≤ 4 then makesW g o
  else if o.k = 7 then renamesW g o
  else if (o.k ≤ 6 ∧ lookE g.E (oAt o) o.name ≠ some (oIno o)) ∨ kindG g (oIno o) = 0 then 3
  else if (o.k = 5 ∨ o.k = 8 ∨ o.k = 9) ∧ kindG g (oIno o) = 1 then 5
  else if o.k = 6 ∧ kindG g (oIno o) ≠ 1 then 6
  else if o.k = 6 ∧ 0 < (listE g.E (oIno o)).length then 7
  else if (o.k = 8 ∨ o.k = 9) ∧ kindG g (oIno o) = 3 then 8
  else 0

/-- Without an entry, and without its inode, if that was the last one. -/
def goneG (g : Gr) (d : St) (nm : ByteArray) : Gr :=
  if linksE (untieG g d nm).1.E (untieG g d nm).2.1 = 0 then (dropG (untieG g d nm).1 (untieG g d nm).2.1).1 else (untieG g d nm).1

def tie1 (g : Gr) (d : St) (nm : ByteArray) (ino : St) : Gr := (tieG (nameB nm) g ⟨d, nm, ino⟩).1

/-- What an inode has. -/
def inoG (g : Gr) (id : St) : Ino := (getG g id).getD noIno

def bytes (l : List UInt8) : ByteArray := ⟨l.toArray⟩

/-- What an operation that can be done makes. -/
def madeA (g : Gr) (o : Opn) : Gr :=
  if o.k ≤ 3 then tie1 (setG (makeG g (oSt o) o.k).1 (oSt o) 0 o.data).1 (oAt o) o.name (oSt o)
  else if o.k = 4 then tie1 g (oAt o) o.name (oIno o)
  else if o.k ≤ 6 then goneG g (oAt o) o.name
  else if o.k = 7 then
    if targetG g o = some (oIno o) then g
    else tie1 (untieG (if (targetG g o).isSome then goneG g (oTo o) o.new else g) (oAt o) o.name).1 (oTo o) o.new (oIno o)
  else if o.k = 8 then (setG g (oIno o) (inoG g (oIno o)).mode (bytes (wL (inoG g (oIno o)).data.data.toList o.data.data.toList o.off.toNat))).1
  else if o.k = 9 then (setG g (oIno o) (inoG g (oIno o)).mode (bytes (tL (inoG g (oIno o)).data.data.toList o.off.toNat))).1
  else (setG g (oIno o) o.off (inoG g (oIno o)).data).1

/-- What an operation makes, and what it answers. -/
def doA (g : Gr) (o : Opn) : Gr × Int := if whyA g o = 0 then (madeA g o, 0) else (g, whyA g o)

/-- A graph that is fine. -/
structure Gr.fine (g : Gr) : Prop where
  ok : g.ok
  names : ∀ e ∈ g.E, nameB e.name = true
  held : ∀ x ∈ g.I, x.id ≠ (0, 0) → 1 ≤ linksE g.E x.id
  bound : ∀ x ∈ g.I, boundOk1 x

/-! ### kinds -/

theorem kindG_I (g : Gr) (id : St) : kindG g id = ((g.I.find? fun x => decide (x.id = id)).map (·.kind)).getD 0 := by
  unfold kindG getG
  cases g.I.find? (fun x => decide (x.id = id)) <;> rfl

theorem kindG_same {g g' : Gr} (h : g.I = g'.I) (id : St) : kindG g id = kindG g' id := by rw [kindG_I, kindG_I, h]

theorem Gr.ok.kindG {g : Gr} (h : g.ok) {x : Ino} (hx : x ∈ g.I) : GraphMath.kindG g x.id = x.kind := by
  unfold GraphMath.kindG
  rw [h.get hx]
  rfl

theorem kindG_some {g : Gr} {id : St} (h : kindG g id ≠ 0) : ∃ x ∈ g.I, x.id = id ∧ x.kind = kindG g id := by
  rw [kindG_I] at h ⊢
  cases hq : g.I.find? (fun x => decide (x.id = id)) with
  | none => rw [hq] at h; exact absurd rfl h
  | some x => exact ⟨x, List.mem_of_find?_eq_some hq, by simpa using List.find?_some hq, rfl⟩

theorem kindG_dir {g : Gr} {id : St} (h : kindG g id = 1) : g.isDir id := by
  obtain ⟨x, hx, h1, h2⟩ := kindG_some (g := g) (id := id) (by rw [h]; decide)
  exact ⟨x, hx, h1, h2.trans h⟩

theorem Gr.ok.kindDir {g : Gr} (h : g.ok) {id : St} (hd : g.isDir id) : GraphMath.kindG g id = 1 := by
  obtain ⟨x, hx, h1, h2⟩ := hd
  rw [← h1, h.kindG hx, h2]

theorem Gr.ok.there {g : Gr} (h : g.ok) {id : St} (hk : GraphMath.kindG g id ≠ 0) : ∃ x, getG g id = some x := by
  obtain ⟨x, hx, h1, _⟩ := kindG_some hk
  exact ⟨_, by rw [← h1]; exact h.get hx⟩

theorem kindG_zero {g : Gr} (h : g.ok) {id : St} (hk : kindG g id = 0) : ∀ x ∈ g.I, x.id ≠ id := fun x hx e => by
  have := h.kindG hx
  rw [e, hk] at this
  have := (h.kinds x hx).1
  omega

theorem getG_zero {g : Gr} (h : g.ok) {id : St} (hk : kindG g id = 0) : getG g id = none := by
  unfold getG
  rw [List.find?_eq_none.2 fun x hx => by simpa using kindG_zero h hk x hx]
  rfl

/-! ### all is reached -/

theorem Gr.fine.reached {g : Gr} (h : g.fine) : ∀ x ∈ g.I, Reached (inodesG g) g.E x.id := by
  obtain ⟨f, hf⟩ := h.ok.rank
  have hroot : Reached (inodesG g) g.E (0, 0) := by
    obtain ⟨x, hx, h0, _⟩ := h.ok.root
    refine ⟨0, .root ?_⟩
    rw [← h0, h.ok.kindI hx]
    rfl
  have hdir : ∀ (n : Nat) (x : Ino), x ∈ g.I → x.kind = 1 → f x.id ≤ n → Reached (inodesG g) g.E x.id := by
    intro n
    induction n with
    | zero =>
      intro x hx hk hn
      by_cases h0 : x.id = (0, 0)
      · rw [h0]; exact hroot
      · obtain ⟨e, he, hei⟩ := links_pos (h.held x hx h0)
        have := hf e he ⟨x, hx, hei.symm, hk⟩
        rw [hei] at this
        omega
    | succ n ih =>
      intro x hx hk hn
      by_cases h0 : x.id = (0, 0)
      · rw [h0]; exact hroot
      · obtain ⟨e, he, hei⟩ := links_pos (h.held x hx h0)
        have hr := hf e he ⟨x, hx, hei.symm, hk⟩
        rw [hei] at hr
        obtain ⟨d, hd, hde, hdk⟩ := h.ok.dirs e he
        obtain ⟨m, hm⟩ := ih d hd hdk (by rw [hde]; omega)
        rw [hde] at hm
        rw [← hei]
        exact ⟨m + 1, .step he hm (by rw [← hde, h.ok.kindI hd, hdk]) (by rw [hei, h.ok.kindI hx]; rfl)⟩
  intro x hx
  by_cases h0 : x.id = (0, 0)
  · rw [h0]; exact hroot
  · obtain ⟨e, he, hei⟩ := links_pos (h.held x hx h0)
    obtain ⟨d, hd, hde, hdk⟩ := h.ok.dirs e he
    obtain ⟨m, hm⟩ := hdir _ d hd hdk (Nat.le_refl _)
    rw [hde] at hm
    rw [← hei]
    exact ⟨m + 1, .step he hm (by rw [← hde, h.ok.kindI hd, hdk]) (by rw [hei, h.ok.kindI hx]; rfl)⟩

/-- A graph that is fine has no fault. -/
theorem Gr.fine.audit {g : Gr} (h : g.fine) : fineP (inodesG g) g.E := by
  obtain ⟨a1, a2, a3, a4⟩ := h.ok.audit h.names
  refine ⟨a1, a2, a3, a4, ?_, ?_, ?_, ?_⟩
  · intro x hx
    rw [h.ok.inodes] at hx
    obtain ⟨y, hy, rfl⟩ := List.mem_map.1 hx
    unfold manyOk1
    dsimp only
    by_cases h0 : y.id = (0, 0)
    · rw [if_pos h0, h0]
      unfold linksE
      rw [List.length_eq_zero_iff, List.filter_eq_nil_iff]
      intro e he
      simpa using h.ok.noRoot e he
    · rw [if_neg h0]
      refine ⟨h.held y hy h0, ?_⟩
      by_cases hk : y.kind = 1
      · rw [if_pos hk]; exact h.ok.one _ ⟨y, hy, rfl, hk⟩
      · rw [if_neg hk]; exact h.ok.six _
  · intro x hx
    rw [h.ok.inodes] at hx
    obtain ⟨y, hy, rfl⟩ := List.mem_map.1 hx
    exact h.reached y hy
  · intro x hx
    rw [h.ok.inodes] at hx
    obtain ⟨y, hy, rfl⟩ := List.mem_map.1 hx
    exact h.bound y hy
  · rw [h.ok.inodes, List.length_map]
    exact h.ok.few

theorem new_fine : newG.fine where
  ok := new_okG
  names := fun e he => by cases he
  held := fun x hx h0 => by rw [List.mem_singleton.1 hx] at h0; exact absurd rfl h0
  bound := fun x hx => by rw [List.mem_singleton.1 hx]; unfold boundOk1; decide

end Go.Proofs.YtbkijfhfjhpebaaGreatDoor.GraphMath

/-
  Plain mathematics of layer 15: where a path leads. It needs no program.
-/
namespace Go.Proofs.YtbkijfhfjhpebaaGreatDoor.GraphMath

/-- Where a path leads. -/
structure Spt where
  at_ : St
  name : ByteArray
  ino : St
  there : Bool
deriving DecidableEq

def noSpt : Spt := ⟨(0, 0), ⟨#[]⟩, (0, 0), false⟩

/-- Where a path begins. -/
def startS (at_ : St) (p : Bs) : Spt := ⟨(0, 0), ⟨#[]⟩, if p.head? = some 47 then (0, 0) else at_, true⟩

/-- A part down, or up. -/
def stepS (g : Gr) (s : Spt) (a : Bs) : Except Int Spt :=
  if s.there = false then .error 3
  else if kindG g s.ino ≠ 1 then .error 6
  else if a = [46, 46] then .ok ⟨(0, 0), ⟨#[]⟩, (parentG g s.ino).getD (0, 0), true⟩
  else .ok ⟨s.ino, bytes a, (lookE g.E s.ino (bytes a)).getD (0, 0), (lookE g.E s.ino (bytes a)).isSome⟩

/-- Is it a symbolic link that is there? -/
def symS (g : Gr) (s : Spt) : Bool := s.there && decide (kindG g s.ino = 3)

def dataG (g : Gr) (id : St) : Bs := (inoG g id).data.data.toList

/-- Part by part; J: what comes of a link that is followed. k: so many links may still be followed. -/
def downS (g : Gr) (follow : Bool) (k : Nat) (J : Spt → List Bs → Except Int (Spt × Nat)) : List Bs → Spt → Except Int (Spt × Nat)
  | [], s => if symS g s && follow then J s [] else .ok (s, k)
  | a :: r, s => if symS g s then J s (a :: r) else match stepS g s a with
    | .error e => .error e
    | .ok s' => downS g follow k J r s'

def goS (g : Gr) (follow : Bool) : Nat → List Bs → Spt → Except Int (Spt × Nat)
  | 0 => downS g follow 0 fun _ _ => .error 9
  | k + 1 => downS g follow (k + 1) fun s rest => if errP (dataG g s.ino) ≠ 0 then .error (errP (dataG g s.ino)) else goS g follow k (partsP (dataG g s.ino) ++ rest) (startS s.at_ (dataG g s.ino))

/-- What Find tells: a spot, and why not. -/
def findG (g : Gr) (at_ : St) (p : Bs) (follow : Bool) : Spt × Int :=
  if errP p ≠ 0 then (noSpt, errP p)
  else if kindG g at_ = 0 then (noSpt, 3)
  else match goS g follow 40 (partsP p) (startS at_ p) with
    | .error e => (noSpt, e)
    | .ok s => (s.1, 0)

/-! ### a path and what stands behind it -/

theorem down_more (g : Gr) (f : Bool) (k : Nat) (J J' : Spt → List Bs → Except Int (Spt × Nat)) (m : List Bs) (hm : m ≠ [])
    (T : List Bs → Spt → Except Int (Spt × Nat)) (hT : ∀ s, symS g s = false → T m s = downS g f k J' m s)
    (hJ : ∀ s r, match J s r with
      | .error e => J' s (r ++ m) = .error e
      | .ok (s', k') => J' s (r ++ m) = goS g f k' m s')
    (hk : ∀ s, symS g s = false → goS g f k m s = downS g f k J' m s) :
    ∀ (l : List Bs) (s : Spt), match downS g true k J l s with
      | .error e => downS g f k J' (l ++ m) s = .error e
      | .ok (s', k') => downS g f k J' (l ++ m) s = goS g f k' m s'
  | [], s => by
    rw [show downS g true k J [] s = if symS g s && true then J s [] else .ok (s, k) from rfl, Bool.and_true, List.nil_append]
    by_cases h : symS g s = true
    · rw [if_pos h]
      cases m with
      | nil => exact absurd rfl hm
      | cons a t =>
        have := hJ s []
        rw [List.nil_append] at this
        have e : ∀ x, J' s (a :: t) = x → downS g f k J' (a :: t) s = x := fun x hx => by
          unfold downS
          rw [if_pos h]
          exact hx
        revert this
        cases J s [] with
        | error e' => exact e _
        | ok q => exact e _
    · rw [if_neg h]
      exact (hk s (by simpa using h)).symm
  | a :: r, s => by
    rw [List.cons_append]
    unfold downS
    by_cases h : symS g s = true
    · rw [if_pos h, if_pos h]
      exact hJ s (a :: r)
    · rw [if_neg h, if_neg h]
      cases hs : stepS g s a with
      | error e => rfl
      | ok s' => exact down_more g f k J J' m hm T hT hJ hk r s'

theorem go_more (g : Gr) (f : Bool) (m : List Bs) (hm : m ≠ []) : ∀ (k : Nat) (l : List Bs) (s : Spt), match goS g true k l s with
    | .error e => goS g f k (l ++ m) s = .error e
    | .ok (s', k') => goS g f k (l ++ m) s = goS g f k' m s'
  | 0, l, s => by
    refine down_more g f 0 _ _ m hm (goS g f 0) (fun _ _ => rfl) (fun _ _ => rfl) (fun _ _ => rfl) l s
  | k + 1, l, s => by
    refine down_more g f (k + 1) _ _ m hm (goS g f (k + 1)) (fun _ _ => rfl) (fun s r => ?_) (fun _ _ => rfl) l s
    by_cases he : errP (dataG g s.ino) ≠ 0
    · simp only [if_pos he]
    · simp only [if_neg he]
      rw [← List.append_assoc]
      exact go_more g f m hm k (partsP (dataG g s.ino) ++ r) (startS s.at_ (dataG g s.ino))

/-! ### what holds of each spot -/

structure Spt.fit (g : Gr) (s : Spt) : Prop where
  is : s.there = true → kindG g s.ino ≠ 0
  zero : s.there = false → s.ino = (0, 0)
  by_ : s.name = ⟨#[]⟩ ∧ s.at_ = (0, 0) ∨ lookE g.E s.at_ s.name = if s.there = true then some s.ino else none
  dir : kindG g s.at_ ≠ 0
  size : s.name.size ≤ 8

theorem Gr.ok.kind_root {g : Gr} (h : g.ok) : GraphMath.kindG g (0, 0) = 1 := by
  obtain ⟨x, hx, h1, h2⟩ := h.root
  rw [← h1, h.kindG hx, h2]

theorem start_fit {g : Gr} (h : g.ok) {at_ : St} (ha : kindG g at_ ≠ 0) (p : Bs) : (startS at_ p).fit g where
  is := fun _ => by
    unfold startS
    dsimp only
    split
    · rw [h.kind_root]; decide
    · exact ha
  zero := fun q => by cases q
  by_ := .inl ⟨rfl, rfl⟩
  dir := by show kindG g (0, 0) ≠ 0; rw [h.kind_root]; decide
  size := by show (0 : Nat) ≤ 8; decide

theorem look_mem {E : List Ent} {d : St} {nm : ByteArray} {id : St} (h : lookE E d nm = some id) : ∃ e ∈ E, e.dir = d ∧ e.name = nm ∧ e.ino = id := by
  unfold lookE at h
  cases hf : E.find? (fun e => decide (e.dir = d) && decide (e.name = nm)) with
  | none => rw [hf] at h; cases h
  | some e =>
    rw [hf] at h
    have := List.find?_some hf
    simp only [Bool.and_eq_true, decide_eq_true_iff] at this
    exact ⟨e, List.mem_of_find?_eq_some hf, this.1, this.2, Option.some.inj h⟩

theorem step_fit {g : Gr} (h : g.ok) {s s' : Spt} {a : Bs} (ha : a.length ≤ 8) (hst : stepS g s a = .ok s') : s'.fit g := by
  have hb : (bytes a).size ≤ 8 := ha
  unfold stepS at hst
  split at hst
  · cases hst
  rename_i h1
  split at hst
  · cases hst
  rename_i h2
  have h2 : kindG g s.ino = 1 := Classical.byContradiction h2
  split at hst
  · cases hst
    refine ⟨fun _ => ?_, (fun q => by cases q), .inl ⟨rfl, rfl⟩, by show kindG g (0, 0) ≠ 0; rw [h.kind_root]; decide, by show (0 : Nat) ≤ 8; decide⟩
    dsimp only
    cases hp : parentG g s.ino with
    | none => show kindG g (0, 0) ≠ 0; rw [h.kind_root]; decide
    | some d =>
      obtain ⟨e, he, _, h4, _⟩ := parent_of hp
      show kindG g d ≠ 0
      rw [← h4, h.kindDir (h.dirs e he)]
      decide
  · cases hst
    cases hl : lookE g.E s.ino (bytes a) with
    | none => exact ⟨(fun q => by cases q), fun _ => rfl, .inr (by dsimp only; rw [hl]; rfl), by dsimp only; rw [h2]; decide, hb⟩
    | some id =>
      refine ⟨fun _ => ?_, (fun q => by cases q), .inr (by dsimp only; rw [hl]; rfl), by dsimp only; rw [h2]; decide, hb⟩
      obtain ⟨e, he, _, _, e3⟩ := look_mem hl
      obtain ⟨x, hx, hxe⟩ := h.inos e he
      show kindG g id ≠ 0
      rw [← e3, ← hxe, h.kindG hx]
      have := (h.kinds x hx).1
      omega

theorem go_fit {g : Gr} (h : g.ok) (f : Bool) : ∀ (k : Nat) (l : List Bs) (s s' : Spt) (k' : Nat), (∀ a ∈ l, a.length ≤ 8) → s.fit g → goS g f k l s = .ok (s', k') → s'.fit g ∧ (f = true → symS g s' = false) := by
  have D : ∀ (k : Nat) (J : Spt → List Bs → Except Int (Spt × Nat)), (∀ s r s' k', (∀ a ∈ r, a.length ≤ 8) → s.fit g → J s r = .ok (s', k') → s'.fit g ∧ (f = true → symS g s' = false)) →
      ∀ (l : List Bs) (s s' : Spt) (k' : Nat), (∀ a ∈ l, a.length ≤ 8) → s.fit g → downS g f k J l s = .ok (s', k') → s'.fit g ∧ (f = true → symS g s' = false) := by
    intro k J hJ l
    induction l with
    | nil =>
      intro s s' k' hl hs he
      unfold downS at he
      split at he
      · exact hJ _ _ _ _ hl hs he
      · rename_i hq
        cases he
        exact ⟨hs, fun hf => by rw [hf, Bool.and_true] at hq; simpa using hq⟩
    | cons a r ih =>
      intro s s' k' hl hs he
      unfold downS at he
      split at he
      · exact hJ _ _ _ _ hl hs he
      · split at he
        · cases he
        · rename_i s1 hst
          exact ih s1 s' k' (fun b hb => hl b (List.mem_cons_of_mem _ hb)) (step_fit h (hl a List.mem_cons_self) hst) he
  intro k
  induction k with
  | zero => exact D 0 _ fun _ _ _ _ _ _ q => by cases q
  | succ k ih =>
    refine D (k + 1) _ fun s r s' k' hr hs he => ?_
    split at he
    · cases he
    · rename_i hne
      have hz : errP (dataG g s.ino) = 0 := Classical.byContradiction hne
      refine ih _ _ _ _ (fun b hb => ?_) (start_fit h hs.dir _) he
      rcases List.mem_append.1 hb with q | q
      · exact (err_zero hz).2.2.1 b q
      · exact hr b q

/-- An error is one. -/
theorem go_err (g : Gr) (f : Bool) : ∀ (k : Nat) (l : List Bs) (s : Spt) (e : Int), goS g f k l s = .error e → e ≠ 0 := by
  have D : ∀ (k : Nat) (J : Spt → List Bs → Except Int (Spt × Nat)), (∀ s r e, J s r = .error e → e ≠ 0) →
      ∀ (l : List Bs) (s : Spt) (e : Int), downS g f k J l s = .error e → e ≠ 0 := by
    intro k J hJ l
    induction l with
    | nil =>
      intro s e he
      unfold downS at he
      split at he
      · exact hJ _ _ _ he
      · cases he
    | cons a r ih =>
      intro s e he
      unfold downS at he
      split at he
      · exact hJ _ _ _ he
      · split at he
        · rename_i e' hst
          cases he
          unfold stepS at hst
          split at hst
          · cases hst; decide
          split at hst
          · cases hst; decide
          split at hst <;> cases hst
        · exact ih _ _ he
  intro k
  induction k with
  | zero => exact D 0 _ fun _ _ e q => by cases q; decide
  | succ k ih =>
    refine D (k + 1) _ fun s r e he => ?_
    split at he
    · rename_i hne
      cases he
      exact hne
    · exact ih _ _ _ he

/-- P15.4: points and slashes more change nothing. -/
theorem find_points (g : Gr) (a : St) {p : Bs} (h : p ≠ []) (h60 : p.length ≤ 128) (hl : (moreP p ++ [47, 46]).length ≤ 128) (f : Bool) : findG g a (moreP p ++ [47, 46]) f = findG g a p f := by
  have hst : startS a (moreP p ++ [47, 46]) = startS a p := by
    unfold startS
    have : (moreP p ++ [47, 46]).head? = p.head? := by
      rw [List.head?_append, more_head]
      cases p with
      | nil => exact absurd rfl h
      | cons x r => rfl
    rw [this]
  unfold findG
  rw [err_points h h60 hl, parts_points, hst]

/-- What is found is in the graph. -/
theorem Gr.ok.find_fit {g : Gr} (h : g.ok) (a : St) (p : Bs) (f : Bool) : ((findG g a p f).2 ≠ 0 → (findG g a p f).1 = noSpt) ∧ ((findG g a p f).2 = 0 → (findG g a p f).1.fit g ∧ (f = true → symS g (findG g a p f).1 = false)) := by
  unfold findG
  by_cases he : errP p ≠ 0
  · rw [if_pos he]
    exact ⟨fun _ => rfl, fun q => absurd q he⟩
  · rw [if_neg he]
    by_cases ha : GraphMath.kindG g a = 0
    · rw [if_pos ha]
      exact ⟨fun _ => rfl, fun q => by cases q⟩
    · rw [if_neg ha]
      cases hg : goS g f 40 (partsP p) (startS a p) with
      | error e => exact ⟨fun _ => rfl, fun q => absurd q (go_err g f 40 _ _ e hg)⟩
      | ok q =>
        obtain ⟨s, k⟩ := q
        exact ⟨fun q => absurd rfl q, fun _ => go_fit h f 40 _ _ s k ((err_zero (Classical.byContradiction he)).2.2.1) (start_fit h ha p) hg⟩

end Go.Proofs.YtbkijfhfjhpebaaGreatDoor.GraphMath
