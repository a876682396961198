/-
  Plain mathematics of layer 2: csteps of a cyclic sum, on natural numbers. It imports no program.
-/
import Derived.WalkKit
namespace Go.Proofs.Ytckobhfomphcpaa.CrcMath

def poly : Nat := 3988292384

/-- One cstep. -/
def cstep (c : Nat) : Nat := if c % 2 = 1 then c / 2 ^^^ poly else c / 2

/-- So many csteps. -/
def csteps : Nat → Nat → Nat
  | 0, c => c
  | k + 1, c => csteps k (cstep c)

def cstep8 (c : Nat) : Nat := csteps 8 c

/-- The state behind some bytes. -/
def cfeed (c : Nat) (l : List UInt8) : Nat := l.foldl (fun c b => cstep8 (c ^^^ b.toNat)) c

/-- More: all bits turned, the bytes, all bits turned. -/
def cmore (c : Nat) (l : List UInt8) : Nat := 4294967295 - cfeed (4294967295 - c) l

theorem xor_cancel (a b : Nat) : a ^^^ b ^^^ b = a := by rw [Nat.xor_assoc, Nat.xor_self, Nat.xor_zero]
theorem xor_cancel' (a b : Nat) : b ^^^ (b ^^^ a) = a := by rw [← Nat.xor_assoc, Nat.xor_self, Nat.zero_xor]
theorem xor_inj {a b c : Nat} (h : a ^^^ c = b ^^^ c) : a = b := by rw [← xor_cancel a c, h, xor_cancel]
theorem xor_inj' {a b c : Nat} (h : c ^^^ a = c ^^^ b) : a = b := by rw [Nat.xor_comm c a, Nat.xor_comm c b] at h; exact xor_inj h
theorem xor_eq_zero {a b : Nat} (h : a ^^^ b = 0) : a = b := by
  have : a ^^^ b = b ^^^ b := by rw [h, Nat.xor_self]
  exact xor_inj this
theorem xor_swap (a b c d : Nat) : (a ^^^ b) ^^^ (c ^^^ d) = (a ^^^ c) ^^^ (b ^^^ d) := by
  rw [Nat.xor_assoc, ← Nat.xor_assoc b c d, Nat.xor_comm b c, Nat.xor_assoc c b d, ← Nat.xor_assoc a c]

theorem poly_lt : poly < 2 ^ 32 := by decide

theorem step_lt {c : Nat} (h : c < 2 ^ 32) : cstep c < 2 ^ 32 := by
  unfold cstep
  split
  · exact Nat.xor_lt_two_pow (by omega) poly_lt
  · omega

theorem steps_lt : ∀ (k : Nat) {c : Nat}, c < 2 ^ 32 → csteps k c < 2 ^ 32
  | 0, _, h => h
  | k + 1, _, h => steps_lt k (step_lt h)

theorem steps_next {k j c d : Nat} (h : csteps (k - j) d = csteps k c) (hj : j < k) : csteps (k - (j + 1)) (cstep d) = csteps k c := by
  rw [← h, show k - j = (k - (j + 1)) + 1 by omega]; rfl
theorem step_odd {d : Nat} (h : d % 2 = 1) : cstep d = d / 2 ^^^ 3988292384 := by unfold cstep; rw [if_pos h]; rfl
theorem step_even {d : Nat} (h : ¬ d % 2 = 1) : cstep d = d / 2 := by unfold cstep; rw [if_neg h]

theorem step8_lt {c : Nat} (h : c < 2 ^ 32) : cstep8 c < 2 ^ 32 := steps_lt 8 h

/-- Steps go through exclusive or. -/
theorem step_xor (a b : Nat) : cstep (a ^^^ b) = cstep a ^^^ cstep b := by
  unfold cstep
  have h := Nat.xor_mod_two_eq_one (a := a) (b := b)
  rw [Nat.xor_div_two]
  by_cases ha : a % 2 = 1 <;> by_cases hb : b % 2 = 1
  · rw [if_neg (by simp [h, ha, hb]), if_pos ha, if_pos hb, xor_swap, Nat.xor_self, Nat.xor_zero]
  · rw [if_pos (by simp [h, ha, hb]), if_pos ha, if_neg hb, Nat.xor_assoc, Nat.xor_assoc, Nat.xor_comm (b / 2)]
  · rw [if_pos (by simp [h, ha, hb]), if_neg ha, if_pos hb, Nat.xor_assoc]
  · rw [if_neg (by simp [h, ha, hb]), if_neg ha, if_neg hb]

theorem steps_xor : ∀ (k a b : Nat), csteps k (a ^^^ b) = csteps k a ^^^ csteps k b
  | 0, _, _ => rfl
  | k + 1, a, b => by
    show csteps k (cstep (a ^^^ b)) = csteps k (cstep a) ^^^ csteps k (cstep b)
    rw [step_xor, steps_xor k]

theorem step8_xor (a b : Nat) : cstep8 (a ^^^ b) = cstep8 a ^^^ cstep8 b := steps_xor 8 a b

theorem step_zero {c : Nat} (h : c < 2 ^ 32) (h0 : cstep c = 0) : c = 0 := by
  unfold cstep at h0
  split at h0
  · exfalso
    have := xor_eq_zero h0
    unfold poly at this
    omega
  · omega

theorem steps_zero : ∀ (k : Nat) {c : Nat}, c < 2 ^ 32 → csteps k c = 0 → c = 0
  | 0, _, _, h0 => h0
  | k + 1, _, h, h0 => step_zero h (steps_zero k (step_lt h) h0)

theorem step8_inj {a b : Nat} (ha : a < 2 ^ 32) (hb : b < 2 ^ 32) (h : cstep8 a = cstep8 b) : a = b := by
  have h2 : cstep8 (a ^^^ b) = 0 := by rw [step8_xor, h, Nat.xor_self]
  exact xor_eq_zero (steps_zero 8 (Nat.xor_lt_two_pow ha hb) h2)

theorem byte_lt (b : UInt8) : b.toNat < 2 ^ 32 := Nat.lt_of_lt_of_le (UInt8.toNat_lt b) (by decide)

theorem feed_nil (c : Nat) : cfeed c [] = c := rfl
theorem feed_cons (c : Nat) (b : UInt8) (l : List UInt8) : cfeed c (b :: l) = cfeed (cstep8 (c ^^^ b.toNat)) l := rfl
theorem feed_append (c : Nat) (l k : List UInt8) : cfeed c (l ++ k) = cfeed (cfeed c l) k := by unfold cfeed; rw [List.foldl_append]
theorem feed_snoc (c : Nat) (l : List UInt8) (b : UInt8) : cfeed c (l ++ [b]) = cstep8 (cfeed c l ^^^ b.toNat) := by rw [feed_append]; rfl

theorem feed_lt : ∀ (l : List UInt8) {c : Nat}, c < 2 ^ 32 → cfeed c l < 2 ^ 32
  | [], _, h => h
  | b :: l, _, h => feed_lt l (step8_lt (Nat.xor_lt_two_pow h (byte_lt b)))

theorem feed_inj : ∀ (l : List UInt8) {a b : Nat}, a < 2 ^ 32 → b < 2 ^ 32 → cfeed a l = cfeed b l → a = b
  | [], _, _, _, _, h => h
  | x :: l, _, _, ha, hb, h =>
    xor_inj (step8_inj (Nat.xor_lt_two_pow ha (byte_lt x)) (Nat.xor_lt_two_pow hb (byte_lt x))
      (feed_inj l (step8_lt (Nat.xor_lt_two_pow ha (byte_lt x))) (step8_lt (Nat.xor_lt_two_pow hb (byte_lt x))) h))

theorem more_lt (c : Nat) (l : List UInt8) : cmore c l < 2 ^ 32 := by unfold cmore; omega

theorem neg_lt (c : Nat) : 4294967295 - c < 2 ^ 32 := by omega

theorem more_append (c : Nat) (l k : List UInt8) : cmore c (l ++ k) = cmore (cmore c l) k := by
  unfold cmore
  rw [feed_append]
  have := feed_lt l (neg_lt c)
  rw [show 4294967295 - (4294967295 - cfeed (4294967295 - c) l) = cfeed (4294967295 - c) l by omega]

theorem more_nil (c : Nat) (h : c < 2 ^ 32) : cmore c [] = c := by
  unfold cmore cfeed
  simp only [List.foldl_nil]
  omega

/-- A byte that is another one is told. -/
theorem more_other (c : Nat) (l k : List UInt8) (x y : UInt8) : cmore c (l ++ x :: k) = cmore c (l ++ y :: k) ↔ x = y := by
  constructor
  · intro h
    unfold cmore at h
    rw [feed_append, feed_append, feed_cons, feed_cons] at h
    have hl := feed_lt l (neg_lt c)
    have hx := step8_lt (Nat.xor_lt_two_pow hl (byte_lt x))
    have hy := step8_lt (Nat.xor_lt_two_pow hl (byte_lt y))
    have h1 := feed_lt k hx
    have h2 := feed_lt k hy
    have h3 := feed_inj k hx hy (by omega)
    have h4 := xor_inj' (step8_inj (Nat.xor_lt_two_pow hl (byte_lt x)) (Nat.xor_lt_two_pow hl (byte_lt y)) h3)
    exact UInt8.toNat_inj.1 h4
  · rintro rfl; rfl

/-- No byte but 0 is its own eight csteps. -/
theorem step8_fix {z : Nat} (hz : z < 256) (h : cstep8 z = z) : z = 0 := by
  have : ∀ z : Fin 256, cstep8 z.val = z.val → z.val = 0 := by decide +kernel
  exact this ⟨z, hz⟩ h

/-- Two unlike bytes that change places are told. -/
theorem more_places (c : Nat) (l k : List UInt8) (x y : UInt8) : cmore c (l ++ x :: y :: k) = cmore c (l ++ y :: x :: k) ↔ x = y := by
  constructor
  · intro h
    unfold cmore at h
    simp only [feed_append, feed_cons] at h
    have hl := feed_lt l (neg_lt c)
    generalize cfeed (4294967295 - c) l = s at h hl
    have bx := byte_lt x
    have bw := byte_lt y
    have hx := step8_lt (Nat.xor_lt_two_pow hl bx)
    have hy := step8_lt (Nat.xor_lt_two_pow hl bw)
    have gx := step8_lt (Nat.xor_lt_two_pow hx bw)
    have gy := step8_lt (Nat.xor_lt_two_pow hy bx)
    have h1 := feed_lt k gx
    have h2 := feed_lt k gy
    have h3 := feed_inj k gx gy (by omega)
    have h4 := step8_inj (Nat.xor_lt_two_pow hx bw) (Nat.xor_lt_two_pow hy bx) h3
    rw [step8_xor, step8_xor, Nat.xor_assoc, Nat.xor_assoc] at h4
    have h5 := xor_inj' h4
    have h6 : cstep8 (x.toNat ^^^ y.toNat) = x.toNat ^^^ y.toNat := by
      rw [step8_xor]
      have e : (cstep8 x.toNat ^^^ y.toNat) ^^^ (y.toNat ^^^ cstep8 y.toNat) = (cstep8 y.toNat ^^^ x.toNat) ^^^ (y.toNat ^^^ cstep8 y.toNat) := by rw [h5]
      rw [Nat.xor_assoc, ← Nat.xor_assoc y.toNat y.toNat, Nat.xor_self, Nat.zero_xor] at e
      rw [e, xor_swap, Nat.xor_comm (cstep8 y.toNat) y.toNat, xor_swap, Nat.xor_comm y.toNat x.toNat, Nat.xor_self, Nat.xor_zero]
    have h7 := step8_fix (Nat.xor_lt_two_pow (n := 8) (UInt8.toNat_lt x) (UInt8.toNat_lt y)) h6
    exact UInt8.toNat_inj.1 (xor_eq_zero h7)
  · rintro rfl; rfl

/-- Eight csteps of a number whose lowest eight bits are 0 move it down. -/
theorem steps_low : ∀ (k c : Nat), csteps k (c * 2 ^ k) = c
  | 0, c => by simp [csteps]
  | k + 1, c => by
    show csteps k (cstep (c * 2 ^ (k + 1))) = c
    have e : cstep (c * 2 ^ (k + 1)) = c * 2 ^ k := by
      unfold cstep
      rw [Nat.pow_succ, ← Nat.mul_assoc]
      rw [if_neg (by omega)]
      omega
    rw [e, steps_low k c]

/-- A byte looked up, and the rest moved down. -/
theorem step8_split (c : Nat) : cstep8 c = cstep8 (c % 256) ^^^ c / 256 := by
  have e : c = (c % 256) ^^^ (c / 256 * 256) := by
    have h : c / 256 * 256 = (c / 256) <<< 8 := by rw [Nat.shiftLeft_eq]
    have h2 : (c % 256) ^^^ ((c / 256) <<< 8) = (c / 256) <<< 8 + c % 256 := by
      rw [Nat.xor_comm]
      apply Nat.eq_of_testBit_eq
      intro i
      rw [Nat.shiftLeft_add_eq_or_of_lt (by omega : c % 256 < 2 ^ 8)]
      rw [Nat.testBit_xor, Nat.testBit_or]
      by_cases hi : i < 8
      · have : ((c / 256) <<< 8).testBit i = false := by simp [Nat.testBit_shiftLeft]; omega
        rw [this]; simp
      · have : (c % 256).testBit i = false := Nat.testBit_lt_two_pow (Nat.lt_of_lt_of_le (by omega : c % 256 < 2 ^ 8) (Nat.pow_le_pow_right (by omega) (by omega)))
        rw [this]; simp
    rw [h, h2, Nat.shiftLeft_eq]
    omega
  have h8 : cstep8 (c / 256 * 256) = c / 256 := steps_low 8 (c / 256)
  calc cstep8 c = cstep8 ((c % 256) ^^^ (c / 256 * 256)) := by rw [← e]
    _ = cstep8 (c % 256) ^^^ c / 256 := by rw [step8_xor, h8]

theorem xor_low (c b : Nat) (h : b < 256) : (c ^^^ b) % 256 = (c % 256) ^^^ b := by
  have := Nat.xor_mod_two_pow (a := c) (b := b) (n := 8)
  rw [show b % 2 ^ 8 = b from Nat.mod_eq_of_lt h] at this
  exact this

theorem xor_high (c b : Nat) (h : b < 256) : (c ^^^ b) / 256 = c / 256 := by
  have := Nat.xor_div_two_pow (a := c) (b := b) (n := 8)
  rw [show b / 2 ^ 8 = 0 from Nat.div_eq_of_lt h, Nat.xor_zero] at this
  exact this

/-- One byte more, looked up. -/
theorem step8_byte (c b : Nat) (h : b < 256) : cstep8 (c ^^^ b) = cstep8 ((c % 256) ^^^ b) ^^^ c / 256 := by
  rw [step8_split, xor_low c b h, xor_high c b h]

theorem more_snoc (l : List UInt8) (b : UInt8) : cmore 0 (l ++ [b]) = 4294967295 - cstep8 (cfeed 4294967295 l ^^^ b.toNat) := by
  unfold cmore
  rw [feed_snoc]

theorem not_u32 {d : Nat} (h : d < 4294967296) : bits .xor .u32 IntKind.u32.max (d : Int) = ((4294967295 - d : Nat) : Int) := by
  rw [show IntKind.u32.max = ((4294967295 : Nat) : Int) from by decide, u32_xor_nat 4294967295 d (by omega) h]
  congr 1
  have : 4294967295 ^^^ d = 4294967295 - d := by
    have h1 := congrArg BitVec.toNat (BitVec.allOnes_xor (x := BitVec.ofNat 32 d))
    rw [BitVec.toNat_xor, BitVec.toNat_not, BitVec.toNat_allOnes, BitVec.toNat_ofNat, Nat.mod_eq_of_lt (by omega)] at h1
    exact h1
  exact this

theorem set_split (l : List UInt8) (k : Nat) (h : k < l.length) (v : UInt8) : l.set k v = l.take k ++ v :: l.drop (k + 1) := by
  rw [List.set_eq_take_append_cons_drop, if_pos h]

theorem list_split (l : List UInt8) (k : Nat) (h : k < l.length) : l = l.take k ++ l[k] :: l.drop (k + 1) := by
  rw [← List.drop_eq_getElem_cons h, List.take_append_drop]

/-- One byte set to another value is told. -/
theorem more_set (l : List UInt8) (k : Nat) (h : k < l.length) (v : UInt8) : cmore 0 (l.set k v) = cmore 0 l ↔ v = l[k] := by
  have h1 := more_other 0 (l.take k) (l.drop (k + 1)) v l[k]
  rw [← set_split l k h, ← list_split l k h] at h1
  exact h1

/-- Two neighbours that change places are told. -/
theorem more_swap (l : List UInt8) (k : Nat) (h : k + 1 < l.length) : cmore 0 ((l.set k l[k + 1]).set (k + 1) l[k]) = cmore 0 l ↔ l[k] = l[k + 1] := by
  have e1 : l = l.take k ++ l[k] :: l[k + 1] :: l.drop (k + 2) := by
    rw [← List.drop_eq_getElem_cons h, ← List.drop_eq_getElem_cons (by omega), List.take_append_drop]
  have e2 : (l.set k l[k + 1]).set (k + 1) l[k] = l.take k ++ l[k + 1] :: l[k] :: l.drop (k + 2) := by
    rw [set_split l k (by omega), List.set_append_right _ _ (by simp; omega)]
    have e : k + 1 - (l.take k).length = 1 := by simp; omega
    rw [e, List.drop_eq_getElem_cons h]
    rfl
  have h1 := more_places 0 (l.take k) (l.drop (k + 2)) l[k + 1] l[k]
  rw [← e2, ← e1] at h1
  rw [h1]
  exact eq_comm

theorem xor_same (x y : UInt8) : x ^^^ y = x ↔ y.toNat = 0 := by
  rw [← UInt8.toNat_inj, UInt8.toNat_xor]
  constructor
  · intro h
    have : x.toNat ^^^ y.toNat = x.toNat ^^^ 0 := by rw [Nat.xor_zero]; exact h
    exact xor_inj' this
  · intro h; rw [h, Nat.xor_zero]

end Go.Proofs.Ytckobhfomphcpaa.CrcMath
