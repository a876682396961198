/-
  A slice of deeds (two numbers and a string) that is only read; states of a disk behind them. It needs no program.
-/
import Derived.Test.YtgbfgjhaglmklaaDiskMath
namespace Go.Proofs.Ytgbfgjhaglmklaa
open Go.RowKit DiskMath

/-- A deed: its kind, a number, a string. -/
structure Deed where
  kind : Int
  keep : Int
  s : ByteArray

/-- The slice with address A and length n reads as the deeds ds, and lies below block B. -/
def DeedsIn (W : World) (B : Nat) (A : Option Addr) (n : Nat) (ds : List Deed) : Prop :=
  ds.length = n ∧ (0 < n → ∃ g o, A = some ⟨g, o, none⟩ ∧ g < B ∧
    ∀ j (h : j < ds.length), W.cell? ⟨g, o + j * 3, none⟩ = some (.int .i64 ds[j].kind) ∧ W.cell? ⟨g, o + j * 3 + 1, none⟩ = some (.int .i64 ds[j].keep) ∧ W.cell? ⟨g, o + j * 3 + 2, none⟩ = some (.string ds[j].s))

theorem DeedsIn.below {W W' : World} {B : Nat} {A : Option Addr} {n : Nat} {ds : List Deed} (h : DeedsIn W B A n ds) (hb : Below B W W') : DeedsIn W' B A n ds :=
  ⟨h.1, fun hn => by
    obtain ⟨g, o, e, hg, hc⟩ := h.2 hn
    exact ⟨g, o, e, hg, fun j hj => ⟨(hb.cell (p := ⟨g, o + j * 3, none⟩) hg).trans (hc j hj).1, (hb.cell (p := ⟨g, o + j * 3 + 1, none⟩) hg).trans (hc j hj).2.1, (hb.cell (p := ⟨g, o + j * 3 + 2, none⟩) hg).trans (hc j hj).2.2⟩⟩⟩

/-- How many bytes the first k deeds bring. -/
def broughtBy (ds : List Deed) (k : Nat) : Nat := ((ds.take k).map fun d => d.s.size).sum

theorem brought_zero (ds : List Deed) : broughtBy ds 0 = 0 := by unfold broughtBy; rw [List.take_zero]; rfl
theorem brought_succ (ds : List Deed) {k : Nat} (h : k < ds.length) : broughtBy ds (k + 1) = broughtBy ds k + ds[k].s.size := by
  unfold broughtBy
  rw [List.take_succ_eq_append_getElem h, List.map_append, List.sum_append]
  simp

theorem log_append (x : Dsk) (s : ByteArray) : (appD x s).safe.size + (appD x s).rest.size ≤ x.safe.size + x.rest.size + s.size := by
  unfold appD
  split
  · omega
  · simp only [ByteArray.size_append]; omega
theorem log_sync (x : Dsk) : (syncD x).safe.size + (syncD x).rest.size ≤ x.safe.size + x.rest.size := by
  unfold syncD
  simp only [ByteArray.size_append, size_none]; omega
theorem log_switch (x : Dsk) (s : ByteArray) : (swD x s).safe.size + (swD x s).rest.size ≤ x.safe.size + x.rest.size := by
  unfold swD
  split
  · omega
  · simp only [size_none]; omega
theorem log_crash (x : Dsk) (keep : Int) : (crashD x keep).safe.size + (crashD x keep).rest.size ≤ x.safe.size + x.rest.size := by
  unfold crashD
  simp only [ByteArray.size_append, size_none, ByteArray.size_extract]; omega

end Go.Proofs.Ytgbfgjhaglmklaa
