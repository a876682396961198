/-
  Bytes in memory as strings: facts on the types []byte and string of this translation.
-/
import Derived.Test.YtppcogkgipedpaaBase
import Derived.Test.YtppcogkgipedpaaRows
namespace Go.Proofs.Ytppcogkgipedpaa
open Go.RowKit

theorem u8_info : (Try.prog.info? 5).map (fun i => (i.zero, i.size, i.bytes)) = some (some (.int .u8 0), 1, 1) := by kernel_rfl

/-- An owned row of bytes as a string. -/
theorem conv_own {w : World} {base n : Nat} {v : Value} {xs : List UInt8} (hown : w.ownsRow base 5 1 v n (xs.map bcell)) (hn : 0 < n) :
    (convert 35 9 v).run Try.prog w = .ok (.string ⟨xs.toArray⟩) w := by
  obtain ⟨g, cap, hv, _, _⟩ := hown.form hn
  have hl : xs.length = n := by have := hown.1; simpa using this
  subst hv
  subst hl
  have hc := hown.cells (g := g) rfl
  refine run_convert_bytes_back w _ _ _ _ cap xs Try.underlying35 Try.underlying5 Try.underlying9 (fun j hj => hc j _ ?_)
  rw [List.getElem?_map, List.getElem?_eq_getElem hj]
  rfl

/-- One byte in memory as a string. -/
theorem conv_one (b : Nat) (w : World) (x : UInt8) (hc : w.cell? ⟨b, 0, none⟩ = some (.int .u8 (x.toNat : Int))) :
    (convert 35 9 (.slice (some ⟨b, 0, none⟩) 1 1)).run Try.prog w = .ok (.string ⟨[x].toArray⟩) w := by
  refine run_convert_bytes_back w _ _ _ _ 1 [x] Try.underlying35 Try.underlying5 Try.underlying9 (fun j hj => ?_)
  have : j = 0 := by simp at hj; omega
  subst this
  simpa [Addr.add] using hc

end Go.Proofs.Ytppcogkgipedpaa
