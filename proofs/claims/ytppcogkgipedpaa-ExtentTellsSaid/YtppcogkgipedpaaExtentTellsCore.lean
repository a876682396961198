/-
  Any data with any bytes anywhere, of any size, and any part of it, are the document's: for all strings of 2000 bytes at most (others are let go) and numbers.
-/
import Derived.Test.YtppcogkgipedpaaExtentHave
import Derived.OpenShut
namespace Go.Proofs.Ytppcogkgipedpaa.lawExtentTells
open Go.RowKit ExtentMath PackMath

theorem walk0 (H : ExtentHave) (d : ByteArray) (off : Int) (s : ByteArray) (many : Int) (w0 : d.size ≤ maxLen) (w1 : (Lit.int .i64 off).wf = true) (w2 : s.size ≤ maxLen) (w3 : (Lit.int .i64 many).wf = true) (w : World) :
    Calls Try.prog 3 #[.string d, .int .i64 off, .string s, .int .i64 many] w fun e w' => e = .returned (.bool true) ∧ Below w.heap.size w w' := by
  unfold maxLen at w0 w2
  have z0 : d.size ≤ 9223372036854775807 := by omega
  have z2 : s.size ≤ 9223372036854775807 := by omega
  have ho : IsI64 off := bounds_i64 w1
  have hm : IsI64 many := bounds_i64 w3
  clear w0 w1 w2 w3
  by_cases h1 : 2000 < d.size
  · clear ho hm
    go_enter Try.func3, Try.ntmps3
    go_wp2_with fail
    refine (H.shown _).mono ?_
    rintro e w1 ⟨rfl, hb⟩
    go_wp2_with fail
    go_ret
    exact ⟨rfl, hb⟩
  by_cases h2 : 2000 < s.size
  · clear ho hm
    go_enter Try.func3, Try.ntmps3
    go_wp2_with fail
    refine (H.shown _).mono ?_
    rintro e w1 ⟨rfl, hb⟩
    go_wp2_with fail
    go_ret
    exact ⟨rfl, hb⟩
  have S : Hid (∀ W : World, Calls Try.prog 7 #[] W fun e w' => e = .returned (.bool true) ∧ Below W.heap.size W w') := fun W => H.shown W
  have A1 := fun W => H.write d off s W (by omega) (by omega) ho
  have A2 := fun W => refWrite d off s (by omega) (by omega) ho W
  have B1 := fun W => H.trunc d many W (by omega) hm
  have B2 := fun W => refTrunc d many (by omega) W
  have C1 := fun W => H.read d off many W (by omega) ho hm
  have C2 := fun W => refRead d off many (by omega) ho W
  generalize wR d off s = p at A1 A2
  generalize tR d many = q at B1 B2
  generalize rR d off many = r at C1 C2
  obtain ⟨p1, p2⟩ := p
  obtain ⟨q1, q2⟩ := q
  have HA1 := Lib.hid A1
  have HA2 := Lib.hid A2
  have HB1 := Lib.hid B1
  have HB2 := Lib.hid B2
  have HC1 := Lib.hid C1
  have HC2 := Lib.hid C2
  clear A1 A2 B1 B2 C1 C2 H ho hm
  go_enter Try.func3, Try.ntmps3
  go_wp2_with fail
  refine (S.out _).mono ?_
  rintro e w1 ⟨rfl, hb1⟩
  go_wp2_with fail
  refine (HA1.out _).mono ?_
  rintro e w2 ⟨rfl, hb2⟩
  have b2 := below_step hb1 hb2
  clear hb1 hb2
  go_wp2_with fail
  refine (HA2.out _).mono ?_
  rintro e w3 ⟨rfl, hb3⟩
  have b3 := below_step b2 hb3
  clear b2 hb3
  go_wp2_with fail
  refine (HB1.out _).mono ?_
  rintro e w4 ⟨rfl, hb4⟩
  have b4 := below_step b3 hb4
  clear b3 hb4
  go_wp2_with fail
  refine (HB2.out _).mono ?_
  rintro e w5 ⟨rfl, hb5⟩
  have b5 := below_step b4 hb5
  clear b4 hb5
  go_wp2_with fail
  refine (HC1.out _).mono ?_
  rintro e w6 ⟨rfl, hb6⟩
  have b6 := below_step b5 hb6
  clear b5 hb6
  go_wp2_with fail
  refine (HC2.out _).mono ?_
  rintro e w7 ⟨rfl, hb7⟩
  have b7 := below_step b6 hb7
  clear b6 hb7
  go_wp2_with fail
  go_ret
  exact ⟨rfl, b7⟩

end Go.Proofs.Ytppcogkgipedpaa.lawExtentTells
