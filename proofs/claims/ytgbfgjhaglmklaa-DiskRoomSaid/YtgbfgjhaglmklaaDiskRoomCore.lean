/-
  There is never more than there is room for: what doesn't fit is refused, and changes nothing; a switch makes room: for all rooms of a byte, and strings of 300 bytes at most; others are let go.
-/
import Derived.Test.YtgbfgjhaglmklaaDiskLaw
import Derived.OpenShut
namespace Go.Proofs.Ytgbfgjhaglmklaa.lawDiskRoom
open Go.RowKit DiskMath PackMath

set_option maxRecDepth 100000 in
set_option maxHeartbeats 1600000 in
theorem long1 (H : DiskHave) (r : Int) (s t : ByteArray) (z0 : s.size ≤ 9223372036854775807) (h0 : 300 < s.size) (w : World) :
    Calls Try.prog 5 #[.int .u8 r, .string s, .string t] w fun e w' => e = .returned (.bool true) ∧ Below w.heap.size w w' := by
  go_enter Try.func5, Try.ntmps5
  go_wp2_with fail
  refine (H.shown _).mono ?_
  rintro e w1 ⟨rfl, hb1⟩
  go_wp2_with fail
  go_ret
  exact ⟨rfl, hb1⟩

set_option maxRecDepth 100000 in
set_option maxHeartbeats 1600000 in
theorem long2 (H : DiskHave) (r : Int) (s t : ByteArray) (z0 : s.size ≤ 9223372036854775807) (z1 : t.size ≤ 9223372036854775807) (h0 : ¬ 300 < s.size) (h1 : 300 < t.size) (w : World) :
    Calls Try.prog 5 #[.int .u8 r, .string s, .string t] w fun e w' => e = .returned (.bool true) ∧ Below w.heap.size w w' := by
  go_enter Try.func5, Try.ntmps5
  go_wp2_with fail
  refine (H.shown _).mono ?_
  rintro e w1 ⟨rfl, hb1⟩
  go_wp2_with fail
  go_ret
  exact ⟨rfl, hb1⟩

set_option maxRecDepth 100000 in
set_option maxHeartbeats 1600000 in
theorem yy (H : DiskHave) (r : Int) (r0 : 0 ≤ r) (r1 : r ≤ 255) (s t : ByteArray) (h0 : ¬ 300 < s.size) (h1 : ¬ 300 < t.size) (hp : (s.size : Int) ≤ r) (hq : (s.size : Int) + (t.size : Int) ≤ r) (w : World) :
    Calls Try.prog 5 #[.int .u8 r, .string s, .string t] w fun e w' => e = .returned (.bool true) ∧ Below w.heap.size w w' := by
  obtain ⟨l, hl⟩ : ∃ l, l = s ++ t := ⟨_, rfl⟩
  have hls : l.size = s.size + t.size := by rw [hl, ByteArray.size_append]
  have x0 : newD r = ⟨r, ⟨#[]⟩, ⟨#[]⟩, ⟨#[]⟩⟩ := by unfold newD; rw [if_neg (by omega)]
  have x1 : appD ⟨r, ⟨#[]⟩, ⟨#[]⟩, ⟨#[]⟩⟩ s = ⟨r, ⟨#[]⟩, ⟨#[]⟩, s⟩ := by unfold appD; rw [if_neg (by unfold Dsk.free; simp only [size_none]; omega), nil_app]
  have e1 : appE ⟨r, ⟨#[]⟩, ⟨#[]⟩, ⟨#[]⟩⟩ s = 0 := if_neg (by unfold Dsk.free; simp only [size_none]; omega)
  have x2 : appD ⟨r, ⟨#[]⟩, ⟨#[]⟩, s⟩ t = ⟨r, ⟨#[]⟩, ⟨#[]⟩, l⟩ := by unfold appD; rw [if_neg (by unfold Dsk.free; simp only [size_none]; omega), hl]
  have e2 : appE ⟨r, ⟨#[]⟩, ⟨#[]⟩, s⟩ t = 0 := if_neg (by unfold Dsk.free; simp only [size_none]; omega)
  have x3 : swD ⟨r, ⟨#[]⟩, ⟨#[]⟩, l⟩ s = ⟨r, s, ⟨#[]⟩, ⟨#[]⟩⟩ := if_neg (by have := H.most_ge; simp only; omega)
  have e3 : swE ⟨r, ⟨#[]⟩, ⟨#[]⟩, l⟩ s = 0 := if_neg (by have := H.most_ge; simp only; omega)
  have e4 : (⟨r, s, ⟨#[]⟩, ⟨#[]⟩⟩ : Dsk).free = r - (s.size : Int) := by unfold Dsk.free; simp only [size_none]; omega
  have hadd : ∀ W : World, (Op.stringOp .add s t).run Try.prog W = .ok (.string l) W := fun W => by rw [run_string_add_sum W _ _ (by omega), hl]
  have hz := size_none
  have X0' := Lib.hid x0
  have X1' := Lib.hid x1
  have E1' := Lib.hid e1
  have X2' := Lib.hid x2
  have E2' := Lib.hid e2
  have X3' := Lib.hid x3
  have E3' := Lib.hid e3
  have E4' := Lib.hid e4
  have HLS' := Lib.hid hls
  have HZ' := Lib.hid hz
  clear x0 x1 e1 x2 e2 x3 e3 e4 hls hz hl
  have g1 : 0 ≤ r - (s.size : Int) := by omega
  go_enter Try.func5, Try.ntmps5
  go_wp2_with fail
  refine (H.shown _).mono ?_
  rintro e w1 ⟨rfl, hb1⟩
  go_wp2_with fail
  refine (Disk1.new (H := H) hb1 r (by unfold IsI64; omega)).mono ?_
  rintro e w2 ⟨a, rfl, d⟩
  rw [X0'.out] at d
  have D2 := Lib.hid d
  clear d
  go_wp2_with fail
  refine (D2.out.append s (by have := HZ'.out; have := HLS'.out; have := H.most_ge; simp only; omega)).mono ?_
  rw [E1'.out, X1'.out]
  rintro e w3 ⟨rfl, d⟩
  have D3 := Lib.hid d
  clear d D2
  go_wp2_with fail
  refine (D3.out.append t (by have := HZ'.out; have := HLS'.out; have := H.most_ge; simp only; omega)).mono ?_
  rw [E2'.out, X2'.out]
  rintro e w4 ⟨rfl, d⟩
  have D4 := Lib.hid d
  clear d D3
  go_wp2_with fail
  refine (D4.out.log (by have := HZ'.out; have := HLS'.out; have := H.most_ge; simp only; omega)).mono ?_
  simp only [nil_app]
  rintro e w5 ⟨rfl, d⟩
  have D5 := Lib.hid d
  clear d D4
  go_wp2_with fail
  refine (D5.out.switch s (by omega)).mono ?_
  rw [E3'.out, X3'.out]
  rintro e w6 ⟨rfl, d⟩
  have D6 := Lib.hid d
  clear d D5
  go_wp2_with fail
  refine (D6.out.snap (by have := HZ'.out; have := HLS'.out; have := H.most_ge; simp only; omega)).mono ?_
  simp only
  rintro e w7 ⟨rfl, d⟩
  have D7 := Lib.hid d
  clear d D6
  go_wp2_with fail
  refine (D7.out.log (by have := HZ'.out; have := HLS'.out; have := H.most_ge; simp only; omega)).mono ?_
  simp only [nil_app]
  rintro e w8 ⟨rfl, d⟩
  have D8 := Lib.hid d
  clear d D7
  go_wp2_with fail
  refine (D8.out.synced (by have := HZ'.out; have := HLS'.out; have := H.most_ge; simp only; omega)).mono ?_
  simp only [size_none, Int.natCast_zero]
  rintro e w9 ⟨rfl, d⟩
  have D9 := Lib.hid d
  clear d D8
  go_wp2_with fail
  refine (D9.out.free (by have := HZ'.out; have := HLS'.out; have := H.most_ge; simp only; omega)).mono ?_
  rw [E4'.out]
  rintro e w10 ⟨rfl, d⟩
  have D10 := Lib.hid d
  clear d D9
  go_wp2_with fail
  go_ret
  exact ⟨rfl, D10.out.2⟩

set_option maxRecDepth 100000 in
set_option maxHeartbeats 1600000 in
theorem yn (H : DiskHave) (r : Int) (r0 : 0 ≤ r) (r1 : r ≤ 255) (s t : ByteArray) (h0 : ¬ 300 < s.size) (h1 : ¬ 300 < t.size) (hp : (s.size : Int) ≤ r) (hq : ¬ (s.size : Int) + (t.size : Int) ≤ r) (w : World) :
    Calls Try.prog 5 #[.int .u8 r, .string s, .string t] w fun e w' => e = .returned (.bool true) ∧ Below w.heap.size w w' := by
  have x0 : newD r = ⟨r, ⟨#[]⟩, ⟨#[]⟩, ⟨#[]⟩⟩ := by unfold newD; rw [if_neg (by omega)]
  have x1 : appD ⟨r, ⟨#[]⟩, ⟨#[]⟩, ⟨#[]⟩⟩ s = ⟨r, ⟨#[]⟩, ⟨#[]⟩, s⟩ := by unfold appD; rw [if_neg (by unfold Dsk.free; simp only [size_none]; omega), nil_app]
  have e1 : appE ⟨r, ⟨#[]⟩, ⟨#[]⟩, ⟨#[]⟩⟩ s = 0 := if_neg (by unfold Dsk.free; simp only [size_none]; omega)
  have x2 : appD ⟨r, ⟨#[]⟩, ⟨#[]⟩, s⟩ t = ⟨r, ⟨#[]⟩, ⟨#[]⟩, s⟩ := if_pos (by unfold Dsk.free; simp only [size_none]; omega)
  have e2 : appE ⟨r, ⟨#[]⟩, ⟨#[]⟩, s⟩ t = 13 := if_pos (by unfold Dsk.free; simp only [size_none]; omega)
  have x3 : swD ⟨r, ⟨#[]⟩, ⟨#[]⟩, s⟩ s = ⟨r, s, ⟨#[]⟩, ⟨#[]⟩⟩ := if_neg (by have := H.most_ge; simp only; omega)
  have e3 : swE ⟨r, ⟨#[]⟩, ⟨#[]⟩, s⟩ s = 0 := if_neg (by have := H.most_ge; simp only; omega)
  have e4 : (⟨r, s, ⟨#[]⟩, ⟨#[]⟩⟩ : Dsk).free = r - (s.size : Int) := by unfold Dsk.free; simp only [size_none]; omega
  have hz := size_none
  have X0' := Lib.hid x0
  have X1' := Lib.hid x1
  have E1' := Lib.hid e1
  have X2' := Lib.hid x2
  have E2' := Lib.hid e2
  have X3' := Lib.hid x3
  have E3' := Lib.hid e3
  have E4' := Lib.hid e4
  have HZ' := Lib.hid hz
  clear x0 x1 e1 x2 e2 x3 e3 e4 hz
  have g1 : 0 ≤ r - (s.size : Int) := by omega
  go_enter Try.func5, Try.ntmps5
  go_wp2_with fail
  refine (H.shown _).mono ?_
  rintro e w1 ⟨rfl, hb1⟩
  go_wp2_with fail
  refine (Disk1.new (H := H) hb1 r (by unfold IsI64; omega)).mono ?_
  rintro e w2 ⟨a, rfl, d⟩
  rw [X0'.out] at d
  have D2 := Lib.hid d
  clear d
  go_wp2_with fail
  refine (D2.out.append s (by have := HZ'.out; have := H.most_ge; simp only; omega)).mono ?_
  rw [E1'.out, X1'.out]
  rintro e w3 ⟨rfl, d⟩
  have D3 := Lib.hid d
  clear d D2
  go_wp2_with fail
  refine (D3.out.append t (by have := HZ'.out; have := H.most_ge; simp only; omega)).mono ?_
  rw [E2'.out, X2'.out]
  rintro e w4 ⟨rfl, d⟩
  have D4 := Lib.hid d
  clear d D3
  go_wp2_with fail
  refine (D4.out.log (by have := HZ'.out; have := H.most_ge; simp only; omega)).mono ?_
  simp only [nil_app]
  rintro e w5 ⟨rfl, d⟩
  have D5 := Lib.hid d
  clear d D4
  go_wp2_with fail
  refine (D5.out.switch s (by omega)).mono ?_
  rw [E3'.out, X3'.out]
  rintro e w6 ⟨rfl, d⟩
  have D6 := Lib.hid d
  clear d D5
  go_wp2_with fail
  refine (D6.out.snap (by have := HZ'.out; have := H.most_ge; simp only; omega)).mono ?_
  simp only
  rintro e w7 ⟨rfl, d⟩
  have D7 := Lib.hid d
  clear d D6
  go_wp2_with fail
  refine (D7.out.log (by have := HZ'.out; have := H.most_ge; simp only; omega)).mono ?_
  simp only [nil_app]
  rintro e w8 ⟨rfl, d⟩
  have D8 := Lib.hid d
  clear d D7
  go_wp2_with fail
  refine (D8.out.synced (by have := HZ'.out; have := H.most_ge; simp only; omega)).mono ?_
  simp only [size_none, Int.natCast_zero]
  rintro e w9 ⟨rfl, d⟩
  have D9 := Lib.hid d
  clear d D8
  go_wp2_with fail
  refine (D9.out.free (by have := HZ'.out; have := H.most_ge; simp only; omega)).mono ?_
  rw [E4'.out]
  rintro e w10 ⟨rfl, d⟩
  have D10 := Lib.hid d
  clear d D9
  go_wp2_with fail
  go_ret
  exact ⟨rfl, D10.out.2⟩

set_option maxRecDepth 100000 in
set_option maxHeartbeats 1600000 in
theorem ny (H : DiskHave) (r : Int) (r0 : 0 ≤ r) (r1 : r ≤ 255) (s t : ByteArray) (h0 : ¬ 300 < s.size) (h1 : ¬ 300 < t.size) (hp : ¬ (s.size : Int) ≤ r) (hq : (t.size : Int) ≤ r) (w : World) :
    Calls Try.prog 5 #[.int .u8 r, .string s, .string t] w fun e w' => e = .returned (.bool true) ∧ Below w.heap.size w w' := by
  have x0 : newD r = ⟨r, ⟨#[]⟩, ⟨#[]⟩, ⟨#[]⟩⟩ := by unfold newD; rw [if_neg (by omega)]
  have x1 : appD ⟨r, ⟨#[]⟩, ⟨#[]⟩, ⟨#[]⟩⟩ s = ⟨r, ⟨#[]⟩, ⟨#[]⟩, ⟨#[]⟩⟩ := if_pos (by unfold Dsk.free; simp only [size_none]; omega)
  have e1 : appE ⟨r, ⟨#[]⟩, ⟨#[]⟩, ⟨#[]⟩⟩ s = 13 := if_pos (by unfold Dsk.free; simp only [size_none]; omega)
  have x2 : appD ⟨r, ⟨#[]⟩, ⟨#[]⟩, ⟨#[]⟩⟩ t = ⟨r, ⟨#[]⟩, ⟨#[]⟩, t⟩ := by unfold appD; rw [if_neg (by unfold Dsk.free; simp only [size_none]; omega), nil_app]
  have e2 : appE ⟨r, ⟨#[]⟩, ⟨#[]⟩, ⟨#[]⟩⟩ t = 0 := if_neg (by unfold Dsk.free; simp only [size_none]; omega)
  have x3 : swD ⟨r, ⟨#[]⟩, ⟨#[]⟩, t⟩ s = ⟨r, ⟨#[]⟩, ⟨#[]⟩, t⟩ := if_pos (by have := H.most_ge; simp only; omega)
  have e3 : swE ⟨r, ⟨#[]⟩, ⟨#[]⟩, t⟩ s = 13 := if_pos (by have := H.most_ge; simp only; omega)
  have hadd : ∀ W : World, (Op.stringOp .add ⟨#[]⟩ t).run Try.prog W = .ok (.string t) W := fun W => by rw [run_string_add_sum W _ _ (by simp only [size_none]; omega), nil_app]
  have hz := size_none
  have X0' := Lib.hid x0
  have X1' := Lib.hid x1
  have E1' := Lib.hid e1
  have X2' := Lib.hid x2
  have E2' := Lib.hid e2
  have X3' := Lib.hid x3
  have E3' := Lib.hid e3
  have HZ' := Lib.hid hz
  clear x0 x1 e1 x2 e2 x3 e3 hz
  go_enter Try.func5, Try.ntmps5
  go_wp2_with fail
  refine (H.shown _).mono ?_
  rintro e w1 ⟨rfl, hb1⟩
  go_wp2_with fail
  refine (Disk1.new (H := H) hb1 r (by unfold IsI64; omega)).mono ?_
  rintro e w2 ⟨a, rfl, d⟩
  rw [X0'.out] at d
  have D2 := Lib.hid d
  clear d
  go_wp2_with fail
  refine (D2.out.append s (by have := HZ'.out; have := H.most_ge; simp only; omega)).mono ?_
  rw [E1'.out, X1'.out]
  rintro e w3 ⟨rfl, d⟩
  have D3 := Lib.hid d
  clear d D2
  go_wp2_with fail
  refine (D3.out.append t (by have := HZ'.out; have := H.most_ge; simp only; omega)).mono ?_
  rw [E2'.out, X2'.out]
  rintro e w4 ⟨rfl, d⟩
  have D4 := Lib.hid d
  clear d D3
  go_wp2_with fail
  refine (D4.out.log (by have := HZ'.out; have := H.most_ge; simp only; omega)).mono ?_
  simp only [nil_app]
  rintro e w5 ⟨rfl, d⟩
  have D5 := Lib.hid d
  clear d D4
  go_wp2_with fail
  refine (D5.out.switch s (by omega)).mono ?_
  rw [E3'.out, X3'.out]
  rintro e w6 ⟨rfl, d⟩
  have D6 := Lib.hid d
  clear d D5
  go_wp2_with fail
  refine (D6.out.snap (by have := HZ'.out; have := H.most_ge; simp only; omega)).mono ?_
  simp only
  rintro e w7 ⟨rfl, d⟩
  have D7 := Lib.hid d
  clear d D6
  go_wp2_with fail
  refine (D7.out.log (by have := HZ'.out; have := H.most_ge; simp only; omega)).mono ?_
  simp only [nil_app]
  rintro e w8 ⟨rfl, d⟩
  have D8 := Lib.hid d
  clear d D7
  go_wp2_with fail
  go_ret
  exact ⟨rfl, D8.out.2⟩

set_option maxRecDepth 100000 in
set_option maxHeartbeats 1600000 in
theorem nn (H : DiskHave) (r : Int) (r0 : 0 ≤ r) (r1 : r ≤ 255) (s t : ByteArray) (h0 : ¬ 300 < s.size) (h1 : ¬ 300 < t.size) (hp : ¬ (s.size : Int) ≤ r) (hq : ¬ (t.size : Int) ≤ r) (w : World) :
    Calls Try.prog 5 #[.int .u8 r, .string s, .string t] w fun e w' => e = .returned (.bool true) ∧ Below w.heap.size w w' := by
  have x0 : newD r = ⟨r, ⟨#[]⟩, ⟨#[]⟩, ⟨#[]⟩⟩ := by unfold newD; rw [if_neg (by omega)]
  have x1 : appD ⟨r, ⟨#[]⟩, ⟨#[]⟩, ⟨#[]⟩⟩ s = ⟨r, ⟨#[]⟩, ⟨#[]⟩, ⟨#[]⟩⟩ := if_pos (by unfold Dsk.free; simp only [size_none]; omega)
  have e1 : appE ⟨r, ⟨#[]⟩, ⟨#[]⟩, ⟨#[]⟩⟩ s = 13 := if_pos (by unfold Dsk.free; simp only [size_none]; omega)
  have x2 : appD ⟨r, ⟨#[]⟩, ⟨#[]⟩, ⟨#[]⟩⟩ t = ⟨r, ⟨#[]⟩, ⟨#[]⟩, ⟨#[]⟩⟩ := if_pos (by unfold Dsk.free; simp only [size_none]; omega)
  have e2 : appE ⟨r, ⟨#[]⟩, ⟨#[]⟩, ⟨#[]⟩⟩ t = 13 := if_pos (by unfold Dsk.free; simp only [size_none]; omega)
  have x3 : swD ⟨r, ⟨#[]⟩, ⟨#[]⟩, ⟨#[]⟩⟩ s = ⟨r, ⟨#[]⟩, ⟨#[]⟩, ⟨#[]⟩⟩ := if_pos (by have := H.most_ge; simp only; omega)
  have e3 : swE ⟨r, ⟨#[]⟩, ⟨#[]⟩, ⟨#[]⟩⟩ s = 13 := if_pos (by have := H.most_ge; simp only; omega)
  have hz := size_none
  have X0' := Lib.hid x0
  have X1' := Lib.hid x1
  have E1' := Lib.hid e1
  have X2' := Lib.hid x2
  have E2' := Lib.hid e2
  have X3' := Lib.hid x3
  have E3' := Lib.hid e3
  have HZ' := Lib.hid hz
  clear x0 x1 e1 x2 e2 x3 e3 hz
  go_enter Try.func5, Try.ntmps5
  go_wp2_with fail
  refine (H.shown _).mono ?_
  rintro e w1 ⟨rfl, hb1⟩
  go_wp2_with fail
  refine (Disk1.new (H := H) hb1 r (by unfold IsI64; omega)).mono ?_
  rintro e w2 ⟨a, rfl, d⟩
  rw [X0'.out] at d
  have D2 := Lib.hid d
  clear d
  go_wp2_with fail
  refine (D2.out.append s (by have := HZ'.out; have := H.most_ge; simp only; omega)).mono ?_
  rw [E1'.out, X1'.out]
  rintro e w3 ⟨rfl, d⟩
  have D3 := Lib.hid d
  clear d D2
  go_wp2_with fail
  refine (D3.out.append t (by have := HZ'.out; have := H.most_ge; simp only; omega)).mono ?_
  rw [E2'.out, X2'.out]
  rintro e w4 ⟨rfl, d⟩
  have D4 := Lib.hid d
  clear d D3
  go_wp2_with fail
  refine (D4.out.log (by have := HZ'.out; have := H.most_ge; simp only; omega)).mono ?_
  simp only [nil_app]
  rintro e w5 ⟨rfl, d⟩
  have D5 := Lib.hid d
  clear d D4
  go_wp2_with fail
  refine (D5.out.switch s (by omega)).mono ?_
  rw [E3'.out, X3'.out]
  rintro e w6 ⟨rfl, d⟩
  have D6 := Lib.hid d
  clear d D5
  go_wp2_with fail
  refine (D6.out.snap (by have := HZ'.out; have := H.most_ge; simp only; omega)).mono ?_
  simp only
  rintro e w7 ⟨rfl, d⟩
  have D7 := Lib.hid d
  clear d D6
  go_wp2_with fail
  refine (D7.out.log (by have := HZ'.out; have := H.most_ge; simp only; omega)).mono ?_
  simp only [nil_app]
  rintro e w8 ⟨rfl, d⟩
  have D8 := Lib.hid d
  clear d D7
  go_wp2_with fail
  go_ret
  exact ⟨rfl, D8.out.2⟩

theorem walk0 (H : DiskHave) (r : Int) (s t : ByteArray) (w0 : (Lit.int .u8 r).wf = true) (w1 : s.size ≤ maxLen) (w2 : t.size ≤ maxLen) (w : World) :
    Calls Try.prog 5 #[.int .u8 r, .string s, .string t] w fun e w' => e = .returned (.bool true) ∧ Below w.heap.size w w' := by
  unfold maxLen at w1 w2
  obtain ⟨r0, r1⟩ := bounds_u8 w0
  by_cases h0 : 300 < s.size
  · exact long1 H r s t (by omega) h0 w
  by_cases h1 : 300 < t.size
  · exact long2 H r s t (by omega) (by omega) h0 h1 w
  by_cases hp : (s.size : Int) ≤ r
  · by_cases hq : (s.size : Int) + (t.size : Int) ≤ r
    · exact yy H r r0 r1 s t h0 h1 hp hq w
    · exact yn H r r0 r1 s t h0 h1 hp hq w
  · by_cases hq : (t.size : Int) ≤ r
    · exact ny H r r0 r1 s t h0 h1 hp hq w
    · exact nn H r r0 r1 s t h0 h1 hp hq w

end Go.Proofs.Ytgbfgjhaglmklaa.lawDiskRoom
