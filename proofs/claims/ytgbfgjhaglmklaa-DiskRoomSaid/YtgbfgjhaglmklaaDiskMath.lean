/-
  Plain mathematics of layer 7: a disk's states. It needs no program.
-/
import Derived.Test.YtgbfgjhaglmklaaBase
namespace Go.Proofs.Ytgbfgjhaglmklaa.DiskMath
open Go.RowKit

/-- A disk: its room, its snapshot, what of its log is synced, and what isn't. -/
structure Dsk where
  room : Int
  snap : ByteArray
  safe : ByteArray
  rest : ByteArray

def Dsk.log (x : Dsk) : ByteArray := x.safe ++ x.rest
def Dsk.free (x : Dsk) : Int := x.room - (x.snap.size : Int) - (x.safe.size : Int) - (x.rest.size : Int)

def newD (room : Int) : Dsk := ⟨if room < 0 then 0 else room, ⟨#[]⟩, ⟨#[]⟩, ⟨#[]⟩⟩
def appE (x : Dsk) (s : ByteArray) : Int := if x.free < (s.size : Int) then 13 else 0
def appD (x : Dsk) (s : ByteArray) : Dsk := if x.free < (s.size : Int) then x else ⟨x.room, x.snap, x.safe, x.rest ++ s⟩
def syncD (x : Dsk) : Dsk := ⟨x.room, x.snap, x.safe ++ x.rest, ⟨#[]⟩⟩
def swE (x : Dsk) (s : ByteArray) : Int := if x.room < (s.size : Int) then 13 else 0
def swD (x : Dsk) (s : ByteArray) : Dsk := if x.room < (s.size : Int) then x else ⟨x.room, s, ⟨#[]⟩, ⟨#[]⟩⟩
def crashD (x : Dsk) (keep : Int) : Dsk := ⟨x.room, x.snap, x.safe ++ x.rest.extract 0 keep.toNat, ⟨#[]⟩⟩

/-- There is never more than there is room for. -/
def Dsk.ok (x : Dsk) : Prop := 0 ≤ x.room ∧ x.room ≤ 9223372036854775807 ∧ 0 ≤ x.free

theorem size_none : (⟨#[]⟩ : ByteArray).size = 0 := rfl

theorem new_ok {room : Int} (h : room ≤ 9223372036854775807) : (newD room).ok := by
  unfold newD Dsk.ok Dsk.free
  simp only [size_none]
  split <;> omega

theorem app_ok {x : Dsk} {s : ByteArray} (h : x.ok) : (appD x s).ok := by
  unfold appD
  split
  · exact h
  · unfold Dsk.ok Dsk.free at *
    simp only [ByteArray.size_append]
    omega

theorem sync_ok {x : Dsk} (h : x.ok) : (syncD x).ok := by
  unfold syncD Dsk.ok Dsk.free at *
  simp only [ByteArray.size_append, size_none]
  omega

theorem sw_ok {x : Dsk} {s : ByteArray} (h : x.ok) : (swD x s).ok := by
  unfold swD
  split
  · exact h
  · unfold Dsk.ok Dsk.free at *
    simp only [size_none]
    omega

theorem crash_ok {x : Dsk} {keep : Int} (h : x.ok) : (crashD x keep).ok := by
  unfold crashD Dsk.ok Dsk.free at *
  simp only [ByteArray.size_append, size_none, ByteArray.size_extract]
  omega

theorem cut_most (b : ByteArray) (k : Nat) (keep : Int) (h : k = b.size ∧ (k : Int) ≤ keep ∨ (k : Int) ≤ (b.size : Int) ∧ k = keep.toNat) : b.extract 0 k = b.extract 0 keep.toNat := by
  rw [extract_take, extract_take]
  congr 2
  rcases h with ⟨h1, h2⟩ | ⟨_, h2⟩
  · have e : b.data.toList.length = b.size := by simp
    rw [List.take_of_length_le (by omega), List.take_of_length_le (by omega)]
  · rw [h2]

/-- A disk as a value of the document's. -/
def dskA (x : Dsk) : Array Value := #[.int .i64 x.room, .string x.snap, .string x.safe, .string x.rest]

end Go.Proofs.Ytgbfgjhaglmklaa.DiskMath
