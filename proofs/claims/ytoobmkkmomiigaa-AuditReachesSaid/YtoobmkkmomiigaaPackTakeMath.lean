/-
  Plain mathematics of layer 1: what a string begins with. It imports no program.
-/
import Derived.Test.YtoobmkkmomiigaaPackMath
namespace Go.Proofs.Ytoobmkkmomiigaa.PackMath

/-- The number with which a list of bytes begins, of which the first byte is the i-th one. -/
def takeF : Nat → List UInt8 → Option (Nat × List UInt8)
  | _, [] => none
  | i, b :: r =>
    if i = 9 ∧ 1 < b.toNat then none
    else if 128 ≤ b.toNat then (takeF (i + 1) r).map fun x => (b.toNat - 128 + 128 * x.1, x.2)
    else if b.toNat = 0 ∧ 0 < i then none else some (b.toNat, r)

def takeL (s : List UInt8) : Option (Nat × List UInt8) := takeF 0 s

/-- The three results. -/
def takeRes : Option (Nat × List UInt8) → Value
  | some (m, t) => .tuple #[.int .u64 (m : Int), .string ⟨t.toArray⟩, .int .i64 0]
  | none => .tuple #[.int .u64 0, .string ⟨#[]⟩, .int .i64 2]

/-- What the loop carries: the bytes that are gone through, and what they make. -/
def TakeInv (s : List UInt8) (k acc : Nat) : Prop :=
  k ≤ 9 ∧ k ≤ s.length ∧ acc < 128 ^ k ∧ takeL s = (takeF k (s.drop k)).map fun x => (acc + x.1 * 128 ^ k, x.2)

theorem takeInv_start (s : List UInt8) : TakeInv s 0 0 := by
  refine ⟨by omega, by omega, by omega, ?_⟩
  simp [takeL]

theorem takeF_step (s : List UInt8) (k : Nat) (h : k < s.length) : takeF k (s.drop k) =
    if k = 9 ∧ 1 < (s[k]).toNat then none
    else if 128 ≤ (s[k]).toNat then (takeF (k + 1) (s.drop (k + 1))).map fun x => ((s[k]).toNat - 128 + 128 * x.1, x.2)
    else if (s[k]).toNat = 0 ∧ 0 < k then none else some ((s[k]).toNat, s.drop (k + 1)) := by
  rw [List.drop_eq_getElem_cons h]
  rfl

theorem takeInv_over {s : List UInt8} {k acc : Nat} (h : TakeInv s k acc) (hk : s.length ≤ k) : takeL s = none := by
  obtain ⟨_, h2, _, h4⟩ := h
  rw [h4, List.drop_eq_nil_of_le hk]
  rfl

theorem takeInv_nine {s : List UInt8} {acc : Nat} (h : TakeInv s 9 acc) (hk : 9 < s.length) (hb : 1 < (s[9]).toNat) : takeL s = none := by
  obtain ⟨_, h2, _, h4⟩ := h
  rw [h4, takeF_step s 9 hk, if_pos ⟨rfl, hb⟩]
  rfl

theorem takeInv_zero {s : List UInt8} {k acc : Nat} (h : TakeInv s k acc) (hk : k < s.length) (h0 : 0 < k) (hb : (s[k]).toNat = 0) : takeL s = none := by
  obtain ⟨_, h2, _, h4⟩ := h
  rw [h4, takeF_step s k hk, if_neg (by omega), if_neg (by omega), if_pos ⟨hb, h0⟩]
  rfl

theorem takeInv_done {s : List UInt8} {k acc : Nat} (h : TakeInv s k acc) (hk : k < s.length) (h9 : ¬ (k = 9 ∧ 1 < (s[k]).toNat)) (hb : (s[k]).toNat < 128) (h0 : ¬ ((s[k]).toNat = 0 ∧ 0 < k)) :
    takeL s = some (acc + (s[k]).toNat * 128 ^ k, s.drop (k + 1)) := by
  obtain ⟨_, h2, _, h4⟩ := h
  rw [h4, takeF_step s k hk, if_neg h9, if_neg (by omega), if_neg h0]
  rfl

theorem takeInv_step {s : List UInt8} {k acc : Nat} (h : TakeInv s k acc) (hk : k < s.length) (h9 : ¬ (k = 9 ∧ 1 < (s[k]).toNat)) (hb : 128 ≤ (s[k]).toNat) :
    TakeInv s (k + 1) (acc + ((s[k]).toNat - 128) * 128 ^ k) := by
  obtain ⟨h1, h2, h3, h4⟩ := h
  have hlt : (s[k]).toNat < 256 := UInt8.toNat_lt _
  have hk9 : k ≠ 9 := fun e => h9 ⟨e, by omega⟩
  have hp : 0 < 128 ^ k := Nat.pow_pos (by omega)
  refine ⟨by omega, by omega, ?_, ?_⟩
  · rw [Nat.pow_succ]
    have : ((s[k]).toNat - 128) * 128 ^ k ≤ 127 * 128 ^ k := Nat.mul_le_mul_right _ (by omega)
    omega
  · rw [h4, takeF_step s k hk, if_neg h9, if_pos hb, Option.map_map]
    congr 1
    funext x
    simp only [Function.comp, Prod.mk.injEq, and_true]
    rw [Nat.add_mul, Nat.pow_succ, Nat.add_assoc]
    congr 2
    rw [Nat.mul_comm 128 x.1, Nat.mul_assoc, Nat.mul_comm 128 (128 ^ k)]

theorem pow7 (k : Nat) : 2 ^ (7 * k) = 128 ^ k := by rw [Nat.pow_mul]

theorem pow7i (k : Nat) : (2 : Int) ^ (7 * k) = ((128 ^ k : Nat) : Int) := by
  rw [← pow7]; norm_cast

theorem sum_step {k acc b : Nat} (hk : k ≤ 8) (ha : acc < 128 ^ k) (h1 : 128 ≤ b) (h2 : b < 256) :
    IntKind.u64.wrap ((acc : Int) + IntKind.u64.wrap (((b : Int) - 128) * 2 ^ (7 * k))) = ((acc + (b - 128) * 128 ^ k : Nat) : Int) := by
  rw [pow7i, show ((b : Int) - 128) = ((b - 128 : Nat) : Int) by omega, ← Int.natCast_mul]
  have hp : 128 ^ k ≤ 128 ^ 8 := Nat.pow_le_pow_right (by omega) hk
  have hq : (b - 128) * 128 ^ k ≤ 127 * 128 ^ 8 := Nat.mul_le_mul (by omega) hp
  have e : (128 : Nat) ^ 8 = 72057594037927936 := by decide
  rw [e] at hp hq
  generalize (b - 128) * 128 ^ k = q at *
  generalize 128 ^ k = p at *
  rw [IsU64.wrap (n := q) (by unfold IsU64; omega), ← Int.natCast_add, IsU64.wrap (by unfold IsU64; omega)]

theorem sum_last {k acc b : Nat} (hk : k ≤ 9) (ha : acc < 128 ^ k) (h9 : ¬ (k = 9 ∧ 1 < b)) (h2 : b < 128) :
    acc + b * 128 ^ k < 18446744073709551616 := by
  by_cases h : k = 9
  · have hb : b * 128 ^ k ≤ 1 * 128 ^ k := Nat.mul_le_mul_right _ (by omega)
    have e : (128 : Nat) ^ 9 = 9223372036854775808 := by decide
    subst h
    rw [e] at ha hb ⊢
    omega
  · have hp : 128 ^ k ≤ 128 ^ 8 := Nat.pow_le_pow_right (by omega) (by omega)
    have hq : b * 128 ^ k ≤ 127 * 128 ^ 8 := Nat.mul_le_mul (by omega) hp
    have e : (128 : Nat) ^ 8 = 72057594037927936 := by decide
    rw [e] at hp hq
    omega

theorem sum_end {k acc b : Nat} (hk : k ≤ 9) (ha : acc < 128 ^ k) (h9 : ¬ (k = 9 ∧ 1 < b)) (h2 : b < 128) :
    IntKind.u64.wrap ((acc : Int) + IntKind.u64.wrap ((b : Int) * 2 ^ (7 * k))) = ((acc + b * 128 ^ k : Nat) : Int) := by
  have h := sum_last hk ha h9 h2
  rw [pow7i, ← Int.natCast_mul, IsU64.wrap (n := b * 128 ^ k) (by unfold IsU64; omega), ← Int.natCast_add, IsU64.wrap (by unfold IsU64; omega)]

/-- What is taken is a number of 64 bits. -/
theorem takeF_bound : ∀ (l : List UInt8) (i m : Nat) (t : List UInt8), i ≤ 9 → takeF i l = some (m, t) → m < 2 * 128 ^ (9 - i)
  | [], _, _, _, _, h => by simp [takeF] at h
  | b :: r, i, m, t, hi, h => by
    unfold takeF at h
    have hb : b.toNat < 256 := UInt8.toNat_lt _
    have hp : 0 < 128 ^ (9 - i) := Nat.pow_pos (by omega)
    split at h
    · cases h
    · rename_i h9
      split at h
      · rename_i h128
        have hi9 : i ≠ 9 := fun e => h9 ⟨e, by omega⟩
        cases hx : takeF (i + 1) r with
        | none => rw [hx] at h; cases h
        | some x =>
          obtain ⟨m', t'⟩ := x
          rw [hx] at h
          simp at h
          obtain ⟨rfl, rfl⟩ := h
          have := takeF_bound r (i + 1) m' t' (by omega) hx
          have e : 128 ^ (9 - i) = 128 * 128 ^ (9 - (i + 1)) := by
            rw [show 9 - i = (9 - (i + 1)) + 1 by omega, Nat.pow_succ, Nat.mul_comm]
          omega
      · split at h
        · cases h
        · simp at h
          obtain ⟨rfl, rfl⟩ := h
          by_cases h9' : i = 9
          · have : ¬ 1 < b.toNat := fun e => h9 ⟨h9', e⟩
            omega
          · have e : 128 ^ (9 - i) = 128 * 128 ^ (9 - (i + 1)) := by
              rw [show 9 - i = (9 - (i + 1)) + 1 by omega, Nat.pow_succ, Nat.mul_comm]
            have hp' : 0 < 128 ^ (9 - (i + 1)) := Nat.pow_pos (by omega)
            omega

theorem takeL_u64 {l : List UInt8} {m : Nat} {t : List UInt8} (h : takeL l = some (m, t)) : IsU64 m := by
  have := takeF_bound l 0 m t (by omega) h
  have e : (128 : Nat) ^ 9 = 9223372036854775808 := by decide
  unfold IsU64
  simp only [Nat.sub_zero, e] at this
  omega

/-- What was packed is taken, whatever stands behind. -/
theorem takeF_numF (s : List UInt8) : ∀ (f n i : Nat), i + f = 9 → n < 2 * 128 ^ f → (0 < i → 0 < n) → takeF i (numF f n ++ s) = some (n, s)
  | 0, n, i, hi, hn, h0 => by
    obtain rfl : i = 9 := by omega
    have hn' : n < 2 := by simpa using hn
    have h0' := h0 (by omega)
    have hb : (UInt8.ofNat n).toNat = n := by rw [UInt8.toNat_ofNat']; omega
    simp only [numF, List.cons_append, List.nil_append, takeF, hb]
    rw [if_neg (by omega), if_neg (by omega), if_neg (by omega)]
  | f + 1, n, i, hi, hn, h0 => by
    by_cases h : n < 128
    · have hb : (UInt8.ofNat n).toNat = n := by rw [UInt8.toNat_ofNat']; omega
      rw [numF_small _ _ h]
      simp only [List.cons_append, List.nil_append, takeF, hb]
      rw [if_neg (by omega), if_neg (by omega), if_neg (by omega)]
    · have hb : (UInt8.ofNat (128 + n % 128)).toNat = 128 + n % 128 := by rw [UInt8.toNat_ofNat']; omega
      rw [numF_big _ _ (by omega)]
      simp only [List.cons_append, takeF, hb]
      rw [if_neg (by omega), if_pos (by omega), takeF_numF s f (n / 128) (i + 1) (by omega) (by rw [Nat.pow_succ] at hn; omega) (by omega)]
      simp only [Option.map_some, Option.some.injEq, Prod.mk.injEq, and_true]
      omega

theorem takeL_numL (n : Nat) (h : IsU64 n) (s : List UInt8) : takeL (numL n ++ s) = some (n, s) := by
  unfold IsU64 at h
  exact takeF_numF s 9 n 0 (by omega) (by simpa using h) (by omega)

/-- What is taken has the very bytes. -/
theorem numF_takeF : ∀ (l : List UInt8) (i m : Nat) (t : List UInt8), i ≤ 9 → takeF i l = some (m, t) → numF (9 - i) m ++ t = l ∧ (0 < i → 0 < m)
  | [], _, _, _, _, h => by simp [takeF] at h
  | b :: r, i, m, t, hi, h => by
    unfold takeF at h
    have hb : b.toNat < 256 := UInt8.toNat_lt _
    have hbb : UInt8.ofNat b.toNat = b := by simp
    split at h
    · cases h
    · rename_i h9
      split at h
      · rename_i h128
        have hi9 : i ≠ 9 := fun e => h9 ⟨e, by omega⟩
        cases hx : takeF (i + 1) r with
        | none => rw [hx] at h; cases h
        | some x =>
          obtain ⟨m', t'⟩ := x
          rw [hx] at h
          simp at h
          obtain ⟨rfl, rfl⟩ := h
          obtain ⟨h1, h2⟩ := numF_takeF r (i + 1) m' t' (by omega) hx
          have h2' := h2 (by omega)
          refine ⟨?_, fun _ => by omega⟩
          rw [show 9 - i = (9 - (i + 1)) + 1 by omega, numF_big _ _ (by omega), show (b.toNat - 128 + 128 * m') / 128 = m' by omega, List.cons_append, h1]
          rw [show 128 + (b.toNat - 128 + 128 * m') % 128 = b.toNat by omega, hbb]
      · split at h
        · cases h
        · rename_i h128 h0
          simp at h
          obtain ⟨rfl, rfl⟩ := h
          exact ⟨by rw [numF_small _ _ (by omega), hbb]; rfl, fun h => by omega⟩

theorem numL_takeL {l : List UInt8} {m : Nat} {t : List UInt8} (h : takeL l = some (m, t)) : numL m ++ t = l := (numF_takeF l 0 m t (by omega) h).1

theorem takeL_len {l : List UInt8} {m : Nat} {t : List UInt8} (h : takeL l = some (m, t)) : t.length ≤ l.length := by
  rw [← numL_takeL h]; simp

/-- Back to a number with a sign. -/
def unzig (m : Nat) : Int := if m % 2 = 1 then -((m / 2 : Nat) : Int) - 1 else ((m / 2 : Nat) : Int)

theorem zig_unzig (m : Nat) : zig (unzig m) = m := by
  unfold unzig zig
  split <;> split <;> omega

theorem unzig_zig (n : Int) : unzig (zig n) = n := by
  unfold unzig zig
  split <;> split <;> omega

theorem unzig_i64 {m : Nat} (h : IsU64 m) : IsI64 (unzig m) := by
  unfold IsU64 at h; unfold IsI64 unzig; split <;> omega

/-- The text, of so many bytes at most, with which a list begins. -/
def textL (l : List UInt8) (most : Int) : Option (List UInt8 × List UInt8) :=
  match takeL l with
  | none => none
  | some (n, t) => if most < 0 ∨ most < (n : Int) ∨ t.length < n then none else some (t.take n, t.drop n)

theorem textL_text (t s : List UInt8) (h : t.length < 9223372036854775808) : textL (numL t.length ++ t ++ s) t.length = some (t, s) := by
  unfold textL
  rw [List.append_assoc, takeL_numL _ (IsU64.small h)]
  simp

theorem textL_short (t s : List UInt8) (h : t.length < 9223372036854775808) : textL (numL t.length ++ t ++ s) ((t.length : Int) - 1) = none := by
  unfold textL
  rw [List.append_assoc, takeL_numL _ (IsU64.small h)]
  simp only
  rw [if_pos (by omega)]

theorem text_textL {l : List UInt8} {most : Int} {a b : List UInt8} (h : textL l most = some (a, b)) : numL a.length ++ a ++ b = l ∧ (a.length : Int) ≤ most ∧ a.length ≤ l.length := by
  unfold textL at h
  cases hx : takeL l with
  | none => rw [hx] at h; cases h
  | some x =>
    obtain ⟨n, t⟩ := x
    rw [hx] at h
    simp only at h
    split at h
    · cases h
    · rename_i hc
      simp at h
      obtain ⟨rfl, rfl⟩ := h
      have hl := takeL_len hx
      have e : (t.take n).length = n := by simp; omega
      rw [e, List.append_assoc, List.take_append_drop]
      exact ⟨numL_takeL hx, by omega, by omega⟩

end Go.Proofs.Ytoobmkkmomiigaa.PackMath
