/-
  Whatever is appended, synced, switched to, and lost, each answer, and the disk, are the document's; a copy of it stays as it was: for all rooms and lists of deeds (the first 200 are done) that bring no more bytes than a log may have. (Where what comes in is of bulk at most 1048576.)
-/
import Derived.Test.YtgbfgjhaglmklaaDiskPlaysCore
import Derived.Test.YtgbfgjhaglmklaaDiskCode
import Derived.Test.YtgbfgjhaglmklaaDeedsOpen
import Derived.JoinedCond
namespace Go.Proofs.Ytgbfgjhaglmklaa.lawDiskPlays
open Go.RowKit

theorem walk (a0 : Int) (A : Option Addr) (n c : Nat) (ds : List Deed) (w : World) (w0 : (Lit.int .i64 a0).wf = true) (h1 : n ≤ c) (h2 : c ≤ maxLen) (h3 : ∀ x ∈ ds, PackMath.IsI64 x.keep ∧ x.s.size ≤ maxLen) (h4 : DeedsIn w w.heap.size A n ds) (hs : (ds.map fun d => d.s.size).sum ≤ 1048576) :
    Calls Try.prog 3 #[.int .i64 a0, .slice A n c] w fun e w' => e = .returned (.bool true) ∧ Below w.heap.size w w' :=
  walk0 diskHave a0 A n c ds w (fun k _ _ => Nat.le_trans (Nat.le_trans (brought_all ds k) hs) (Nat.le_trans (by decide) diskHave.most_ge)) w0 h1 h2 h3 h4

/-- What the bound gives: how many bytes the deeds bring. -/
theorem short {H : Type} {d0 d1 : DataW H} {k : Nat} (h : Rows.uptoBulkAll [d0, d1] ≤ 1048576) (hk : k ≤ Rows.uptoBulk d1) : k ≤ 1048576 := by
  simp only [Rows.uptoBulkAll] at h
  omega

end Go.Proofs.Ytgbfgjhaglmklaa.lawDiskPlays

namespace Go.Proofs.Ytgbfgjhaglmklaa.lawDiskPlays
open Go.ChangeShapes Go.WideShapes Go.ChangeAt Go.RowKit
open Go.ChangeMaps (open_string shut_string)

theorem own : ownKnob Try.prog.godebug = none := by kernel_rfl
theorem laidOut : laidOutB Try.prog = true := by kernel_rfl

set_option maxRecDepth 100000 in
theorem lifted (os : Os) (started : os.Started) (H : Type) (enc : TypeId × Value → H) (F : Stop.Interp) :
    ReturnsInHanded {} Try.checked os 3 .any ((Rows.OpenSpec.upto Rows.diskPlaysSpec).pre6 enc Try.prog Try.f3 Rows.diskPlaysUptoRow.domain false) (((Rows.OpenSpec.upto Rows.diskPlaysSpec).at F).post enc Try.prog Try.f3 false true false false) := by
  refine returnsInHanded_of_cond (C := Try.checked) (s := Rows.OpenSpec.upto Rows.diskPlaysSpec) (k := Rows.uptoSmall) rfl own started (by kernel_rfl) Try.func3
    (OpenSpec.witness (enc := enc) (C := Try.checked) (s := Rows.OpenSpec.upto Rows.diskPlaysSpec) (k := Rows.uptoSmall) rfl false ⟨#[], #[.int .i64 0, .slice none 0 0], []⟩ 8 (by kernel_rfl) (by kernel_rfl) (by kernel_rfl)
      (x := ([.lit (.int .i64 0), .nil], [], [])) (by kernel_rfl) rfl (by kernel_rfl)) ?_
  intro W base args ds gs before hval0 hW _ hk0 _
  have hval : ∀ (j : Nat) t v, Try.f3.params[j]? = some t → args[j]? = some v → Value.okWide Try.prog W .any base t v := hval0
  have hW' := hW
  obtain ⟨p, q, hA0, hV, rfl, hfz, hnd⟩ := hW
  have hA : DataW.TrodAll enc Try.prog W 0 (fun _ => true) true Try.f3.params.toList args.toList ds p := hA0
  rw [Try.params3] at hA hval
  obtain ⟨v0, vs0, d0, ds0, p0, q0, hargs, rfl, rfl, h0, r0⟩ := trodAll_cons hA
  obtain ⟨v1, vs1, d1, ds1, p1, q1, rfl, rfl, rfl, h1, r1⟩ := trodAll_cons r0
  obtain ⟨rfl, rfl, rfl⟩ := trodAll_nil r1
  obtain rfl : args = #[v0, v1] := by cases args; simp_all
  obtain ⟨rfl, rfl⟩ := trodVars_none hV
  simp only [List.append_nil] at hk0
  have hu0 := of_decide_eq_true hk0
  obtain ⟨a0, rfl, rfl, rfl, w0⟩ := open_int Try.underlying3 (hval 0 3 v0 rfl rfl) h0
  have k1 := h1
  have lt1 : ∀ x ∈ p1, x.block < W.heap.size := by obtain ⟨m, hm⟩ := k1; exact DataW.trod_lt m _ _ _ hm
  obtain ⟨a1A, a1n, a1c, a1x, rfl, w1a, w1b, w1k, w1x, w1u⟩ := open_deeds (hval 1 22 v1 rfl rfl) h1
  clear hA0 hval0
  simp only [List.append_nil] at hW'
  refine (walk a0 a1A a1n a1c a1x W w0 w1a w1b w1k w1x (by first | exact short hu0 (by assumption))).mono fun e W' ⟨he, hb⟩ => ?_
  subst he
  exact ⟨_, rfl, _, _, _, [], _, [], hW', trodAll_mk1 (shut_bool Try.underlying4 _), (trodAll_cons_mk (shut_int Try.underlying3 w0) (trodAll_cons_mk (Below.trod laidOut (by kernel_rfl) (of_decide_eq_true (by kernel_rfl)) k1 hb lt1) trodAll_mk0)), rfl, hb.frame _, fun h => by cases h⟩

theorem proved : Rows.DiskPlaysUptoSaid :=
  OpenClaim.holds_of_cond 3 Try.f3 rfl rfl rfl rfl rfl rfl rfl ⟨rfl, rfl, rfl, rfl, rfl⟩ rfl rfl rfl rfl rfl (by kernel_rfl) Try.func3 (by kernel_rfl)
    (of_decide_eq_true (by kernel_rfl)) (by unfold Func.isWrapper; first | (rw [if_pos (by decide +kernel)]; kernel_rfl) | (rw [if_neg (by decide +kernel)]; exact ⟨rfl, rfl⟩))
    (fun os started H enc _ F => lifted os started H enc F)
#print axioms proved
end Go.Proofs.Ytgbfgjhaglmklaa.lawDiskPlays
