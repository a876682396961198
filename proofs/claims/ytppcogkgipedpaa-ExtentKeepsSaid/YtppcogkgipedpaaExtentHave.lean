/-
  What the statements of layer 8 need of the package's own calls; and the statements' head.
-/
import Derived.Test.YtppcogkgipedpaaExtentRef
namespace Go.Proofs.Ytppcogkgipedpaa
open Go.RowKit ExtentMath PackMath

structure ExtentHave : Prop where
  write : ∀ (d : ByteArray) (off : Int) (s : ByteArray) (w : World), d.size ≤ 2000 → s.size ≤ 2000 → IsI64 off →
    Calls Try.prog 8 #[.string d, .int .i64 off, .string s] w fun e w' => e = .returned (.tuple #[.string (wR d off s).1, .int .i64 (wR d off s).2]) ∧ Below w.heap.size w w'
  trunc : ∀ (d : ByteArray) (n : Int) (w : World), d.size ≤ 2000 → IsI64 n →
    Calls Try.prog 10 #[.string d, .int .i64 n] w fun e w' => e = .returned (.tuple #[.string (tR d n).1, .int .i64 (tR d n).2]) ∧ Below w.heap.size w w'
  read : ∀ (d : ByteArray) (off many : Int) (w : World), d.size ≤ 2000 → IsI64 off → IsI64 many →
    Calls Try.prog 12 #[.string d, .int .i64 off, .int .i64 many] w fun e w' => e = .returned (.string (rR d off many)) ∧ Below w.heap.size w w'

theorem ExtentHave.shown (H : ExtentHave) (w : World) :
    Calls Try.prog 7 #[] w fun e w' => e = .returned (.bool true) ∧ Below w.heap.size w w' := by
  have h1 := fun W => H.write ⟨#[97]⟩ 3 ⟨#[120]⟩ W (by decide) (by decide) (by unfold IsI64; omega)
  rw [show wR ⟨#[97]⟩ 3 ⟨#[120]⟩ = (⟨#[97, 0, 0, 120]⟩, 0) by rfl] at h1
  have h2 := fun W => H.read ⟨#[97, 0, 0, 120]⟩ 3 9 W (by decide) (by unfold IsI64; omega) (by unfold IsI64; omega)
  rw [show rR ⟨#[97, 0, 0, 120]⟩ 3 9 = ⟨#[120]⟩ by rfl] at h2
  have H1 : Hid (∀ W : World, Calls Try.prog 8 #[.string ⟨#[97]⟩, .int .i64 3, .string ⟨#[120]⟩] W fun e w' => e = .returned (.tuple #[.string ⟨#[97, 0, 0, 120]⟩, .int .i64 0]) ∧ Below W.heap.size W w') := h1
  have H2 := Lib.hid h2
  clear h1 h2
  go_enter Try.func7, Try.ntmps7
  go_wp2_with fail
  refine (H1.out _).mono ?_
  rintro e w1 ⟨rfl, hb1⟩
  go_wp2_with fail
  refine (H2.out _).mono ?_
  rintro e w2 ⟨rfl, hb2⟩
  go_wp2_with fail
  go_ret
  exact ⟨rfl, below_step hb1 hb2⟩

theorem mk_bytes (d : ByteArray) : (⟨d.data.toList.toArray⟩ : ByteArray) = d := by cases d; simp

theorem size_bytes (l : List UInt8) : (⟨l.toArray⟩ : ByteArray).size = l.length := rfl

theorem len_bytes (d : ByteArray) : d.data.toList.length = d.size := by simp

/-- What a write that is done was asked. -/
theorem wR_good {d s : ByteArray} {off : Int} (h : (wR d off s).2 = 0) : ∃ o : Nat, off = (o : Int) ∧ s.size ≠ 0 ∧ o + s.size ≤ 64 ∧ d.size ≤ 64 ∧ wR d off s = (⟨(wL d.data.toList s.data.toList o).toArray⟩, 0) := by
  unfold wR at h ⊢
  by_cases h0 : off < 0 ∨ s.size = 0
  · rw [if_pos h0] at h; exact absurd (show (1 : Int) = 0 from h) (by decide)
  · rw [if_neg h0] at h ⊢
    by_cases h1 : 64 < off ∨ 64 < s.size ∨ 64 < d.size ∨ 64 < off + (s.size : Int)
    · rw [if_pos h1] at h; exact absurd (show (11 : Int) = 0 from h) (by decide)
    · rw [if_neg h1]
      refine ⟨off.toNat, by omega, by omega, by omega, by omega, rfl⟩

theorem wR_bad {d s : ByteArray} {off : Int} (h : (wR d off s).2 ≠ 0) : (wR d off s).1 = d := by
  unfold wR at h ⊢
  by_cases h0 : off < 0 ∨ s.size = 0
  · rw [if_pos h0]
  · rw [if_neg h0] at h ⊢
    by_cases h1 : 64 < off ∨ 64 < s.size ∨ 64 < d.size ∨ 64 < off + (s.size : Int)
    · rw [if_pos h1]
    · rw [if_neg h1] at h; exact absurd rfl h

theorem wR_size (d s : ByteArray) (off : Int) (hd : d.size ≤ 2000) : (wR d off s).1.size ≤ 2000 := by
  by_cases h : (wR d off s).2 = 0
  · obtain ⟨o, _, _, h2, h3, h4⟩ := wR_good h
    rw [h4]
    show (wL d.data.toList s.data.toList o).length ≤ 2000
    rw [wL_len, len_bytes, len_bytes]
    omega
  · rw [wR_bad h]; exact hd

end Go.Proofs.Ytppcogkgipedpaa
