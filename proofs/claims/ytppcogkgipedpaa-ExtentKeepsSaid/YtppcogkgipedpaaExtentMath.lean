/-
  Plain mathematics of layer 8: bytes written, cut off, read. It needs no program.
-/
import Derived.Test.YtppcogkgipedpaaBase
namespace Go.Proofs.Ytppcogkgipedpaa.ExtentMath
open Go.RowKit

/-- The first k bytes that a function tells. -/
def bld (f : Nat → UInt8) (k : Nat) : List UInt8 := (List.range k).map f

theorem bld_succ (f : Nat → UInt8) (k : Nat) : bld f (k + 1) = bld f k ++ [f k] := by
  unfold bld
  rw [List.range_succ, List.map_append]
  rfl

theorem bld_len (f : Nat → UInt8) (k : Nat) : (bld f k).length = k := by simp [bld]

theorem bld_get (f : Nat → UInt8) {k i : Nat} (h : i < k) : (bld f k)[i]? = some (f i) := by
  unfold bld
  rw [List.getElem?_map, List.getElem?_range h]
  rfl

/-- A byte of d; 0 behind its end. -/
def bAt (d : List UInt8) (i : Nat) : UInt8 := d.getD i 0

theorem bAt_lt {d : List UInt8} {i : Nat} (h : i < d.length) : bAt d i = d[i] := by
  unfold bAt
  rw [List.getD_eq_getElem?_getD, List.getElem?_eq_getElem h]
  rfl

theorem bAt_ge {d : List UInt8} {i : Nat} (h : d.length ≤ i) : bAt d i = 0 := by
  unfold bAt
  rw [List.getD_eq_getElem?_getD, List.getElem?_eq_none h]
  rfl

theorem bAt_bld (f : Nat → UInt8) {k i : Nat} (h : i < k) : bAt (bld f k) i = f i := by
  unfold bAt
  rw [List.getD_eq_getElem?_getD, bld_get f h]
  rfl

/-- Lists with the same bytes are the same. -/
theorem same_bytes {a b : List UInt8} (hl : a.length = b.length) (h : ∀ i, i < a.length → bAt a i = bAt b i) : a = b := by
  apply List.ext_getElem hl
  intro i h1 h2
  have := h i h1
  rw [bAt_lt h1, bAt_lt h2] at this
  exact this

theorem bld_self (d : List UInt8) : bld (bAt d) d.length = d :=
  same_bytes (bld_len _ _) fun i hi => bAt_bld _ (by rw [bld_len] at hi; exact hi)

/-- Written at o. -/
def wF (d s : List UInt8) (o i : Nat) : UInt8 := if o ≤ i ∧ i < o + s.length then bAt s (i - o) else bAt d i
def wL (d s : List UInt8) (o : Nat) : List UInt8 := bld (wF d s o) (max d.length (o + s.length))
/-- Of size n. -/
def tL (d : List UInt8) (n : Nat) : List UInt8 := bld (bAt d) n
/-- Read at o. -/
def rL (d : List UInt8) (o m : Nat) : List UInt8 := (d.drop o).take m

theorem wL_len (d s : List UInt8) (o : Nat) : (wL d s o).length = max d.length (o + s.length) := bld_len _ _
theorem tL_len (d : List UInt8) (n : Nat) : (tL d n).length = n := bld_len _ _
theorem rL_len (d : List UInt8) (o m : Nat) : (rL d o m).length = min m (d.length - o) := by unfold rL; rw [List.length_take, List.length_drop]

theorem bAt_wL (d s : List UInt8) (o i : Nat) : bAt (wL d s o) i = wF d s o i := by
  unfold wL
  by_cases h : i < max d.length (o + s.length)
  · exact bAt_bld _ h
  · rw [bAt_ge (by rw [bld_len]; omega)]
    unfold wF
    rw [if_neg (by omega), bAt_ge (by omega)]

theorem bAt_tL (d : List UInt8) (n i : Nat) : bAt (tL d n) i = if i < n then bAt d i else 0 := by
  unfold tL
  by_cases h : i < n
  · rw [if_pos h]; exact bAt_bld _ h
  · rw [if_neg h]; exact bAt_ge (by rw [bld_len]; omega)

theorem bAt_rL (d : List UInt8) (o m i : Nat) : bAt (rL d o m) i = if i < m then bAt d (o + i) else 0 := by
  unfold rL bAt
  rw [List.getD_eq_getElem?_getD, List.getD_eq_getElem?_getD, List.getElem?_take]
  by_cases h : i < m
  · rw [if_pos h, if_pos h, List.getElem?_drop]
  · rw [if_neg h, if_neg h]; rfl

/-- What Write tells: the data, the error. -/
def wR (d : ByteArray) (off : Int) (s : ByteArray) : ByteArray × Int :=
  if off < 0 ∨ s.size = 0 then (d, 1)
  else if 64 < off ∨ 64 < s.size ∨ 64 < d.size ∨ 64 < off + (s.size : Int) then (d, 11)
  else (⟨(wL d.data.toList s.data.toList off.toNat).toArray⟩, 0)

def tR (d : ByteArray) (n : Int) : ByteArray × Int :=
  if n < 0 then (d, 1) else if 64 < n ∨ 64 < d.size then (d, 11) else (⟨(tL d.data.toList n.toNat).toArray⟩, 0)

def rR (d : ByteArray) (off many : Int) : ByteArray := if off < 0 then ⟨#[]⟩ else ⟨(rL d.data.toList off.toNat many.toNat).toArray⟩

/-- Reading byte by byte. -/
theorem rL_bld (d : List UInt8) (o m : Nat) : rL d o m = bld (fun i => bAt d (o + i)) (min m (d.length - o)) :=
  same_bytes (by rw [rL_len, bld_len]) fun i hi => by
    rw [rL_len] at hi
    rw [bAt_rL, if_pos (by omega), bAt_bld _ hi]

/-- What was written is read. -/
theorem read_wrote (d s : List UInt8) (o : Nat) : rL (wL d s o) o s.length = s :=
  same_bytes (by rw [rL_len, wL_len]; omega) fun i hi => by
    rw [rL_len, wL_len] at hi
    rw [bAt_rL, if_pos (by omega), bAt_wL]
    unfold wF
    rw [if_pos (by omega)]
    congr 1
    omega

/-- One byte elsewhere is as it was, a zero between. -/
theorem read_else (d s : List UInt8) (o k : Nat) (h : k < o ∨ o + s.length ≤ k) : rL (wL d s o) k 1 = if d.length ≤ k ∧ k < o then [0] else rL d k 1 := by
  by_cases hz : d.length ≤ k ∧ k < o
  · rw [if_pos hz]
    refine same_bytes (by rw [rL_len, wL_len]; simp; omega) fun i hi => ?_
    rw [rL_len, wL_len] at hi
    obtain rfl : i = 0 := by omega
    rw [bAt_rL, if_pos (by omega), bAt_wL]
    unfold wF
    rw [if_neg (by omega), bAt_ge (by omega)]
    rfl
  · rw [if_neg hz]
    refine same_bytes (by rw [rL_len, rL_len, wL_len]; omega) fun i hi => ?_
    rw [rL_len, wL_len] at hi
    obtain rfl : i = 0 := by omega
    rw [bAt_rL, bAt_rL, if_pos Nat.zero_lt_one, bAt_wL]
    unfold wF
    rw [if_neg (by omega)]
    rfl

theorem trunc_twice (d : List UInt8) (n : Nat) : tL (tL d n) n = tL d n :=
  same_bytes (by rw [tL_len, tL_len]) fun i hi => by
    rw [tL_len] at hi
    rw [bAt_tL, if_pos hi]

theorem trunc_read (d : List UInt8) (m n k : Nat) (hm : k ≤ m) (hn : k ≤ n) (hd : k ≤ d.length) : rL (tL (tL d m) n) 0 k = rL d 0 k :=
  same_bytes (by rw [rL_len, rL_len, tL_len]; omega) fun i hi => by
    rw [rL_len, tL_len] at hi
    rw [bAt_rL, bAt_rL, if_pos (by omega), if_pos (by omega), bAt_tL, if_pos (by omega), bAt_tL, if_pos (by omega)]

theorem trunc_zero (d : List UInt8) (m n i : Nat) (h : m ≤ i ∨ d.length ≤ i) : bAt (tL (tL d m) n) i = 0 := by
  rw [bAt_tL]
  split
  · rw [bAt_tL]
    split
    · rw [bAt_ge (by omega)]
    · rfl
  · rfl

theorem write_twice (d s : List UInt8) : wL (wL d s 0) s 0 = wL d s 0 :=
  same_bytes (by rw [wL_len, wL_len]; omega) fun i hi => by
    rw [bAt_wL, bAt_wL]
    unfold wF
    by_cases h : 0 ≤ i ∧ i < 0 + s.length
    · rw [if_pos h, if_pos h]
    · rw [if_neg h, bAt_wL]
      unfold wF
      rw [if_neg h]

theorem write_apart (d s t : List UInt8) (i k : Nat) (h : i + s.length ≤ k ∨ k + t.length ≤ i) : wL (wL d s i) t k = wL (wL d t k) s i :=
  same_bytes (by rw [wL_len, wL_len, wL_len, wL_len]; omega) fun j hj => by
    rw [bAt_wL, bAt_wL]
    unfold wF
    rw [bAt_wL, bAt_wL]
    unfold wF
    by_cases h1 : k ≤ j ∧ j < k + t.length
    · rw [if_pos h1, if_neg (by omega)]
      rw [if_pos h1]
    · rw [if_neg h1]
      by_cases h2 : i ≤ j ∧ j < i + s.length
      · rw [if_pos h2, if_pos h2]
      · rw [if_neg h2, if_neg h2, if_neg h1]

theorem write_over (d s t : List UInt8) (i k : Nat) (h1 : k ≤ i) (h2 : i + s.length ≤ k + t.length) : wL (wL d s i) t k = wL d t k :=
  same_bytes (by rw [wL_len, wL_len, wL_len]; omega) fun j hj => by
    rw [bAt_wL, bAt_wL]
    unfold wF
    by_cases h : k ≤ j ∧ j < k + t.length
    · rw [if_pos h, if_pos h]
    · rw [if_neg h, if_neg h, bAt_wL]
      unfold wF
      rw [if_neg (by omega)]

end Go.Proofs.Ytppcogkgipedpaa.ExtentMath
