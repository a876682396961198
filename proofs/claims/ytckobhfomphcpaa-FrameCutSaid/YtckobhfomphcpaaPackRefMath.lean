/-
  Plain mathematics of layer 1: the document's own way to take a number is the same. It imports no program.
-/
import Derived.Test.YtckobhfomphcpaaPackTakeMath
namespace Go.Proofs.Ytckobhfomphcpaa.PackMath

/-- The begin of a list up to the first byte below 128, in so many bytes at most. -/
def beginF : Nat → List UInt8 → Option (List UInt8)
  | 0, _ => none
  | _ + 1, [] => none
  | j + 1, b :: r => if b.toNat < 128 then some [b] else (beginF j r).map (b :: ·)

def beginL (l : List UInt8) : List UInt8 := (beginF 10 l).getD []

theorem beginF_step (s : List UInt8) (k j : Nat) (h : k < s.length) : beginF (j + 1) (s.drop k) = if (s[k]).toNat < 128 then some [s[k]] else (beginF j (s.drop (k + 1))).map (s[k] :: ·) := by
  rw [List.drop_eq_getElem_cons h]
  rfl

/-- What the loop carries. -/
def BeginInv (s : List UInt8) (k : Nat) : Prop := k ≤ 10 ∧ k ≤ s.length ∧ beginF 10 s = (beginF (10 - k) (s.drop k)).map (s.take k ++ ·)

theorem beginInv_start (s : List UInt8) : BeginInv s 0 := ⟨by omega, by omega, by simp⟩

theorem beginInv_over {s : List UInt8} {k : Nat} (h : BeginInv s k) (hk : s.length ≤ k ∨ 10 ≤ k) : beginL s = [] := by
  obtain ⟨h1, h2, h3⟩ := h
  have : beginF (10 - k) (s.drop k) = none := by
    rcases hk with hk | hk
    · rw [List.drop_eq_nil_of_le hk]
      cases 10 - k <;> rfl
    · rw [show 10 - k = 0 by omega]; rfl
  rw [beginL, h3, this]
  rfl

theorem beginInv_done {s : List UInt8} {k : Nat} (h : BeginInv s k) (hk : k < s.length) (h10 : k < 10) (hb : (s[k]).toNat < 128) : beginL s = s.take (k + 1) := by
  obtain ⟨h1, h2, h3⟩ := h
  rw [beginL, h3, show 10 - k = (9 - k) + 1 by omega, beginF_step s k _ hk, if_pos hb]
  simp only [Option.map_some, Option.getD_some]
  rw [List.take_succ_eq_append_getElem hk]

theorem beginInv_step {s : List UInt8} {k : Nat} (h : BeginInv s k) (hk : k < s.length) (h10 : k < 10) (hb : ¬ (s[k]).toNat < 128) : BeginInv s (k + 1) := by
  obtain ⟨h1, h2, h3⟩ := h
  refine ⟨by omega, by omega, ?_⟩
  rw [h3, show 10 - k = (9 - k) + 1 by omega, beginF_step s k _ hk, if_neg hb, Option.map_map, show 10 - (k + 1) = 9 - k by omega]
  congr 1
  funext x
  simp only [Function.comp]
  rw [List.take_succ_eq_append_getElem hk, List.append_assoc]
  rfl

theorem beginF_prefix : ∀ (j : Nat) (l b : List UInt8), beginF j l = some b → ∃ t, l = b ++ t
  | 0, _, _, h => by simp [beginF] at h
  | _ + 1, [], _, h => by simp [beginF] at h
  | j + 1, x :: r, b, h => by
    unfold beginF at h
    split at h
    · simp at h; subst h; exact ⟨r, rfl⟩
    · cases hx : beginF j r with
      | none => rw [hx] at h; cases h
      | some y =>
        rw [hx] at h
        simp at h
        subst h
        obtain ⟨t, rfl⟩ := beginF_prefix j r y hx
        exact ⟨t, rfl⟩

theorem beginF_numF (t : List UInt8) : ∀ (f m : Nat), m < 2 * 128 ^ f → beginF (f + 1) (numF f m ++ t) = some (numF f m)
  | 0, m, h => by
    have hm : m < 2 := by simpa using h
    have hb : (UInt8.ofNat m).toNat = m := by rw [UInt8.toNat_ofNat']; omega
    simp only [numF, List.cons_append, beginF, hb]
    rw [if_pos (by omega)]
  | f + 1, m, h => by
    by_cases h1 : m < 128
    · have hb : (UInt8.ofNat m).toNat = m := by rw [UInt8.toNat_ofNat']; omega
      rw [numF_small _ _ h1]
      simp only [List.cons_append, beginF, hb]
      rw [if_pos h1]
    · have hb : (UInt8.ofNat (128 + m % 128)).toNat = 128 + m % 128 := by rw [UInt8.toNat_ofNat']; omega
      rw [numF_big _ _ (by omega)]
      simp only [List.cons_append, beginF, hb]
      rw [if_neg (by omega)]
      have := beginF_numF t f (m / 128) (by rw [Nat.pow_succ] at h; omega)
      rw [this]
      rfl

theorem beginL_numL (m : Nat) (h : IsU64 m) (t : List UInt8) : beginL (numL m ++ t) = numL m := by
  unfold IsU64 at h
  rw [beginL, numL, beginF_numF t 9 m (by simpa using h)]
  rfl

/-- The number of some bytes, in 64 bits. -/
def valU : List UInt8 → Nat
  | [] => 0
  | b :: r => (128 * valU r + b.toNat % 128) % 18446744073709551616

theorem valU_u64 (l : List UInt8) : IsU64 (valU l) := by
  unfold IsU64
  cases l with
  | nil => simp [valU]
  | cons b r => exact Nat.mod_lt _ (by omega)

theorem valU_numF : ∀ (f n : Nat), n < 2 * 128 ^ f → n < 18446744073709551616 → valU (numF f n) = n
  | 0, n, h, h2 => by
    have hm : n < 2 := by simpa using h
    have hb : (UInt8.ofNat n).toNat = n := by rw [UInt8.toNat_ofNat']; omega
    simp only [numF, valU, hb]
    omega
  | f + 1, n, h, h2 => by
    by_cases h1 : n < 128
    · have hb : (UInt8.ofNat n).toNat = n := by rw [UInt8.toNat_ofNat']; omega
      rw [numF_small _ _ h1]
      simp only [valU, hb]
      omega
    · have hb : (UInt8.ofNat (128 + n % 128)).toNat = 128 + n % 128 := by rw [UInt8.toNat_ofNat']; omega
      rw [numF_big _ _ (by omega)]
      simp only [valU, hb]
      rw [valU_numF f (n / 128) (by rw [Nat.pow_succ] at h; omega) (by omega)]
      omega

theorem valU_numL {n : Nat} (h : IsU64 n) : valU (numL n) = n := by
  unfold IsU64 at h
  exact valU_numF 9 n (by simpa using h) h

/-- The document's way, when the bytes are the number's own. -/
theorem ref_take_yes {l : List UInt8} (h0 : beginL l ≠ []) (h : numL (valU (beginL l)) = beginL l) : takeL l = some (valU (beginL l), l.drop (beginL l).length) := by
  cases hb : beginF 10 l with
  | none => rw [beginL, hb] at h0; exact absurd rfl h0
  | some b =>
    have e : beginL l = b := by rw [beginL, hb]; rfl
    rw [e] at h ⊢
    obtain ⟨t, ht⟩ := beginF_prefix _ _ _ hb
    have := takeL_numL (valU b) (valU_u64 b) t
    rw [h, ← ht] at this
    rw [this]
    rw [ht]
    simp

/-- The document's way, when they aren't. -/
theorem ref_take_no {l : List UInt8} (h : beginL l = [] ∨ numL (valU (beginL l)) ≠ beginL l) : takeL l = none := by
  cases hx : takeL l with
  | none => rfl
  | some x =>
    obtain ⟨m, t⟩ := x
    exfalso
    have hu := takeL_u64 hx
    have e := numL_takeL hx
    have hb : beginL l = numL m := by rw [← e]; exact beginL_numL m hu t
    rw [hb, valU_numL hu] at h
    rcases h with h | h
    · have := (numL_length m).1
      rw [h] at this
      simp at this
    · exact h rfl

theorem val_step (n b : Nat) :
    IntKind.u64.wrap (IntKind.u64.wrap (128 * (n : Int)) + (b : Int) % 128) = (((128 * n + b % 128) % 18446744073709551616 : Nat) : Int) := by
  simp only [wrap_u64]
  omega

end Go.Proofs.Ytckobhfomphcpaa.PackMath
