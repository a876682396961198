/-
  Layer 10's statements: are inodes and entries few? Slices of a call's own among what is given.
-/
import Derived.Test.YtoobmkkmomiigaaAuditHave
namespace Go.Proofs.Ytoobmkkmomiigaa
open Go.RowKit StampMath GraphMath OpMath

theorem few_any (A : Option Addr) (n c : Nat) (A' : Option Addr) (m d : Nat) (_ : n ≤ maxLen) (_ : m ≤ maxLen) (w : World) :
    Calls Try.prog 7 #[.slice A n c, .slice A' m d] w fun e w' => e = .returned (.bool (decide (n ≤ 60 ∧ m ≤ 60))) ∧ w = w' := by
  by_cases h1 : n ≤ 60
  · by_cases h2 : m ≤ 60
    · rw [decide_eq_true ⟨h1, h2⟩]
      go_enter Try.func7, Try.ntmps7
      go_wp2_with fail
      go_ret
      exact ⟨by simp; omega, rfl⟩
    · rw [decide_eq_false (fun q => h2 q.2)]
      go_enter Try.func7, Try.ntmps7
      go_wp2_with fail
      go_ret
      exact ⟨by simp; omega, rfl⟩
  · rw [decide_eq_false (fun q => h1 q.1)]
    go_enter Try.func7, Try.ntmps7
    go_wp2_with fail
    go_ret
    exact ⟨by simp, rfl⟩

theorem ino_sizes {I : List Ino} : ∀ r ∈ I.map inoA, r.size = 6 := fun r hr => by obtain ⟨e, _, rfl⟩ := List.mem_map.1 hr; rfl
theorem ino_ones {I : List Ino} : ∀ r ∈ I.map inoA, ∀ u ∈ r.toList, u.oneCell' = true := fun r hr => by obtain ⟨e, _, rfl⟩ := List.mem_map.1 hr; exact ino_one e
theorem ent_sizes {E : List Ent} : ∀ r ∈ E.map entA, r.size = 5 := fun r hr => by obtain ⟨e, _, rfl⟩ := List.mem_map.1 hr; rfl
theorem ent_ones {E : List Ent} : ∀ r ∈ E.map entA, ∀ u ∈ r.toList, u.oneCell' = true := fun r hr => by obtain ⟨e, _, rfl⟩ := List.mem_map.1 hr; exact ent_one e

theorem given_own {w W : World} {A : Option Addr} {n : Nat} {N : List Ino} {A' : Option Addr} {m : Nat} {E : List Ent} (h : Given w A n N A' m E) (hb : Below w.heap.size w W) {A2 : Option Addr} {N2 : List Ino} (h2 : InosIn W W.heap.size A2 N2.length N2) (hs : ∀ x ∈ N2, x ∈ N) (hl : N2.length ≤ n) : Given W A2 N2.length N2 A' m E :=
  ⟨h2, (h.below hb).ents, by have := h.fewI; omega, h.fewE, fun x hx => h.datas x (hs x hx), h.names⟩

end Go.Proofs.Ytoobmkkmomiigaa
