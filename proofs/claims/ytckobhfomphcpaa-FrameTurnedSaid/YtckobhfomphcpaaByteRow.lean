/-
  A string's bytes in memory: turned, and taken back as a string.
-/
import Derived.Test.YtckobhfomphcpaaBase
import Derived.Test.YtckobhfomphcpaaRows
import Derived.ProofKit
import Derived.OpenShut
import Derived.Lib.ConvBytes
namespace Go.Proofs.Ytckobhfomphcpaa
open Go.RowKit

/-- Block g holds the bytes l, and they may be written. -/
def IsBytes (W : World) (g : Nat) (l : List UInt8) : Prop :=
  ∀ j (h : j < l.length), W.cell? ⟨g, j, none⟩ = some (.int .u8 (l[j].toNat : Int)) ∧ W.frozen? ⟨g, j, none⟩ = false

theorem bytes_of (W : World) (s : ByteArray) : ∃ cap W', (convert 9 43 (.string s)).run Try.prog W = .ok (.slice (some ⟨W.heap.size, 0, none⟩) s.size cap) W' ∧
    IsBytes W' W.heap.size s.data.toList ∧ Below W.heap.size W W' := by
  refine ⟨_, _, run_bytes_of_string W _ _ _ s Try.underlying9 Try.underlying43 Try.underlying5, ?_, ((Below.refl _ _).drew).alloc (Nat.le_refl _) _⟩
  intro j hj
  have hj' : j < s.data.size := by simpa using hj
  constructor
  · have h := World.cell?_alloc_mark W.drew (bytesRow s (grownCap W s.size 0 5)) 5 ((bytesRow s (grownCap W s.size 0 5)).size, (bytesRow s (grownCap W s.size 0 5)).size + 1) j
    rw [bytesRow_at s _ j hj'] at h
    exact h
  · have h := World.frozen?_alloc_mark W.drew (bytesRow s (grownCap W s.size 0 5)) 5 (bytesRow s (grownCap W s.size 0 5)).size ((bytesRow s (grownCap W s.size 0 5)).size + 1) j
    refine h.trans ?_
    have : (bytesRow s (grownCap W s.size 0 5)).size ≥ s.data.size := by simp [bytesRow]
    simp; omega

theorem IsBytes.set {W : World} {g : Nat} {l : List UInt8} (h : IsBytes W g l) (k : Nat) (v : UInt8) : IsBytes (W.setCell ⟨g, k, none⟩ (.int .u8 (v.toNat : Int))) g (l.set k v) := by
  intro j hj
  have hj' : j < l.length := by simpa using hj
  have h2 := h j hj'
  constructor
  · by_cases e : k = j
    · subst e
      have := World.cell?_setCell_same W ⟨g, k, none⟩ (.int .u8 (v.toNat : Int)) (u := _) h2.1
      rw [this]; simp
    · rw [World.cell?_setCell_other W _ _ _ (fun he => e (by injection he)), h2.1]
      simp [e]
  · rw [World.frozen?_setCell]; exact h2.2

theorem IsBytes.back {W : World} {g : Nat} {l : List UInt8} (h : IsBytes W g l) (cap : Nat) :
    (convert 43 9 (.slice (some ⟨g, 0, none⟩) l.length cap)).run Try.prog W = .ok (.string ⟨l.toArray⟩) W := by
  refine run_convert_bytes_back W _ _ _ _ cap l Try.underlying43 Try.underlying5 Try.underlying9 (fun j hj => ?_)
  have hadd : (⟨g, 0, none⟩ : Addr).add j = ⟨g, j, none⟩ := by unfold Addr.add; split <;> simp_all
  rw [hadd]
  exact (h j hj).1

end Go.Proofs.Ytckobhfomphcpaa
