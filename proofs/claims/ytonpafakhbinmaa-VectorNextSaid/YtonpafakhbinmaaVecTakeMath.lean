/-
  Plain mathematics of layer 4: a vector as bytes, and back. It needs no program.
-/
import Derived.Test.YtonpafakhbinmaaVecMath
namespace Go.Proofs.Ytonpafakhbinmaa.VecMath
open Go.RowKit PackMath

/-- The bytes of the first k numbers. -/
def putU (v : Nat → Int) : Nat → List UInt8
  | 0 => []
  | k + 1 => putU v k ++ numL (zig (v k))

/-- The bytes of a vector. -/
def putV (v : Nat → Int) : List UInt8 := putU v 8

theorem putU_len (v : Nat → Int) (k : Nat) : (putU v k).length ≤ 10 * k := by
  induction k with
  | zero => exact Nat.le_refl _
  | succ k ih =>
    have h := (numL_length (zig (v k))).2
    rw [putU, List.length_append]
    omega

theorem putV_len (v : Nat → Int) : (putV v).length ≤ 80 := putU_len v 8

theorem putU_str (v : Nat → Int) (k : Nat) : (⟨(putU v k).toArray⟩ : ByteArray) ++ ⟨(numL (zig (v k))).toArray⟩ = ⟨(putU v (k + 1)).toArray⟩ := by
  rw [mk_append_data]; rfl

theorem putU_congr {u v : Nat → Int} {k : Nat} (h : ∀ i, i < k → u i = v i) : putU u k = putU v k := by
  induction k with
  | zero => rfl
  | succ k ih => rw [putU, putU, ih (fun i hi => h i (by omega)), h k (by omega)]

/-- n numbers more are taken, from place k on. -/
def takeF : Nat → Nat → (Nat → Int) → List UInt8 → Option ((Nat → Int) × List UInt8)
  | 0, _, f, l => some (f, l)
  | n + 1, k, f, l => match takeL l with
    | none => none
    | some (m, t) => if 0 ≤ unzig m ∧ unzig m ≤ 1073741824 then takeF n (k + 1) (put f k (unzig m)) t else none

theorem takeF_none {n k : Nat} {f : Nat → Int} {l : List UInt8} (h : takeL l = none) : takeF (n + 1) k f l = none := by rw [takeF, h]
theorem takeF_bad {n k : Nat} {f : Nat → Int} {l t : List UInt8} {m : Nat} (h : takeL l = some (m, t)) (hm : ¬ (0 ≤ unzig m ∧ unzig m ≤ 1073741824)) : takeF (n + 1) k f l = none := by rw [takeF, h]; simp only; rw [if_neg hm]
theorem takeF_good {n k : Nat} {f : Nat → Int} {l t : List UInt8} {m : Nat} (h : takeL l = some (m, t)) (hm : 0 ≤ unzig m ∧ unzig m ≤ 1073741824) : takeF (n + 1) k f l = takeF n (k + 1) (put f k (unzig m)) t := by rw [takeF, h]; simp only; rw [if_pos hm]

/-- The vector that may be with which a list begins. -/
def vecL (l : List UInt8) : Option ((Nat → Int) × List UInt8) := takeF 8 0 (fun _ => 0) l

/-- The three results. -/
def vecRes : Option ((Nat → Int) × List UInt8) → Value
  | some (f, u) => .tuple #[.agg (arr f), .string ⟨u.toArray⟩, .int .i64 0]
  | none => .tuple #[.agg (arr fun _ => 0), .string ⟨#[]⟩, .int .i64 2]

/-- The bytes of the n numbers from place k on. -/
def putFrom (v : Nat → Int) : Nat → Nat → List UInt8
  | 0, _ => []
  | n + 1, k => numL (zig (v k)) ++ putFrom v n (k + 1)

theorem putU_from (v : Nat → Int) (n : Nat) : ∀ k, putU v k ++ putFrom v n k = putU v (k + n) := by
  induction n with
  | zero => intro k; rw [putFrom, List.append_nil]; rfl
  | succ n ih => intro k; rw [putFrom, ← List.append_assoc, ← putU, ih (k + 1), show k + (n + 1) = k + 1 + n by omega]

theorem putV_from (v : Nat → Int) : putFrom v 8 0 = putV v := by
  have h := putU_from v 8 0
  rw [putU, List.nil_append] at h
  exact h

/-- What was put is taken. -/
theorem takeF_put (v : Nat → Int) (hv : ∀ i, IsI64 (v i)) (s : List UInt8) (n : Nat) : ∀ (k : Nat) (f : Nat → Int), (∀ i, i < k → f i = v i) → (∀ i, k ≤ i → i < k + n → 0 ≤ v i ∧ v i ≤ 1073741824) →
    ∃ g, takeF n k f (putFrom v n k ++ s) = some (g, s) ∧ ∀ i, i < k + n → g i = v i := by
  induction n with
  | zero => intro k f hf _; exact ⟨f, rfl, hf⟩
  | succ n ih =>
    intro k f hf hb
    have hk := hb k (by omega) (by omega)
    have ht : takeL (putFrom v (n + 1) k ++ s) = some (zig (v k), putFrom v n (k + 1) ++ s) := by
      rw [putFrom, List.append_assoc]
      exact takeL_numL _ (zig_u64 (hv k)) _
    rw [takeF_good ht (by rw [unzig_zig]; exact hk), unzig_zig]
    obtain ⟨g, h1, h2⟩ := ih (k + 1) (put f k (v k)) (fun i hi => by
      unfold put
      by_cases e : i = k
      · subst e; rw [if_pos rfl]
      · rw [if_neg e]; exact hf i (by omega)) (fun i h1 h2 => hb i (by omega) (by omega))
    exact ⟨g, h1, fun i hi => h2 i (by omega)⟩

theorem takeF_put_no (v : Nat → Int) (hv : ∀ i, IsI64 (v i)) (s : List UInt8) (n : Nat) : ∀ (k : Nat) (f : Nat → Int), (∃ i, k ≤ i ∧ i < k + n ∧ ¬ (0 ≤ v i ∧ v i ≤ 1073741824)) → takeF n k f (putFrom v n k ++ s) = none := by
  induction n with
  | zero => intro k f ⟨i, h1, h2, _⟩; omega
  | succ n ih =>
    intro k f ⟨i, h1, h2, h3⟩
    have ht : takeL (putFrom v (n + 1) k ++ s) = some (zig (v k), putFrom v n (k + 1) ++ s) := by
      rw [putFrom, List.append_assoc]
      exact takeL_numL _ (zig_u64 (hv k)) _
    by_cases hk : 0 ≤ v k ∧ v k ≤ 1073741824
    · rw [takeF_good ht (by rw [unzig_zig]; exact hk), unzig_zig]
      refine ih (k + 1) _ ⟨i, ?_, by omega, h3⟩
      by_cases e : i = k
      · subst e; exact absurd hk h3
      · omega
    · exact takeF_bad ht (by rw [unzig_zig]; exact hk)

theorem vecL_put_yes (v : Nat → Int) (hv : ∀ i, IsI64 (v i)) (h : mayV v = true) (s : List UInt8) : ∃ g, vecL (putV v ++ s) = some (g, s) ∧ arr g = arr v := by
  obtain ⟨g, h1, h2⟩ := takeF_put v hv s 8 0 (fun _ => 0) (fun i hi => by omega) (fun i _ hi => mayV_iff.1 h i (by omega))
  rw [putV_from] at h1
  exact ⟨g, h1, arr_ext fun k hk => h2 k (by omega)⟩

theorem vecL_put_no (v : Nat → Int) (hv : ∀ i, IsI64 (v i)) (h : mayV v = false) (s : List UInt8) : vecL (putV v ++ s) = none := by
  have hx : ∃ i, 0 ≤ i ∧ i < 0 + 8 ∧ ¬ (0 ≤ v i ∧ v i ≤ 1073741824) := by
    refine Classical.byContradiction fun hn => ?_
    have : mayV v = true := mayV_iff.2 fun i hi => Classical.byContradiction fun e => hn ⟨i, by omega, by omega, e⟩
    rw [this] at h
    cases h
  have := takeF_put_no v hv s 8 0 (fun _ => 0) hx
  rw [putV_from] at this
  exact this

/-- What is taken has the very bytes, and may be. -/
theorem takeF_very (n : Nat) : ∀ (k : Nat) (f g : Nat → Int) (l u : List UInt8), takeF n k f l = some (g, u) →
    (∀ i, i < k → g i = f i) ∧ (∀ i, k ≤ i → i < k + n → 0 ≤ g i ∧ g i ≤ 1073741824) ∧ putFrom g n k ++ u = l ∧ u.length ≤ l.length := by
  induction n with
  | zero =>
    intro k f g l u h
    simp only [takeF, Option.some.injEq, Prod.mk.injEq] at h
    obtain ⟨rfl, rfl⟩ := h
    exact ⟨fun _ _ => rfl, fun i h1 h2 => by omega, rfl, Nat.le_refl _⟩
  | succ n ih =>
    intro k f g l u h
    cases ht : takeL l with
    | none => rw [takeF_none ht] at h; cases h
    | some x =>
      obtain ⟨m, t⟩ := x
      by_cases hm : 0 ≤ unzig m ∧ unzig m ≤ 1073741824
      · rw [takeF_good ht hm] at h
        obtain ⟨h1, h2, h3, h4⟩ := ih _ _ _ _ _ h
        have hk : g k = unzig m := by rw [h1 k (by omega)]; unfold put; rw [if_pos rfl]
        have hl := numL_takeL ht
        refine ⟨fun i hi => ?_, fun i a b => ?_, ?_, ?_⟩
        · rw [h1 i (by omega)]; unfold put; rw [if_neg (by omega)]
        · by_cases e : i = k
          · subst e; rw [hk]; exact hm
          · exact h2 i (by omega) (by omega)
        · rw [putFrom, hk, zig_unzig, List.append_assoc, h3, hl]
        · have := takeL_len ht
          omega
      · rw [takeF_bad ht hm] at h; cases h

theorem vecL_very {l u : List UInt8} {g : Nat → Int} (h : vecL l = some (g, u)) : mayV g = true ∧ putV g ++ u = l ∧ u.length ≤ l.length := by
  obtain ⟨_, h2, h3, h4⟩ := takeF_very 8 0 _ g l u h
  rw [putV_from] at h3
  exact ⟨mayV_iff.2 fun i hi => h2 i (by omega) (by omega), h3, h4⟩

/-- Of no vector do those beyond the eighth tell anything. -/
theorem vecL_i64 {l u : List UInt8} {g : Nat → Int} (h : vecL l = some (g, u)) : ∀ i, i < 8 → IsI64 (g i) := fun i hi => by
  have := mayV_iff.1 (vecL_very h).1 i hi
  unfold IsI64
  omega

end Go.Proofs.Ytonpafakhbinmaa.VecMath
