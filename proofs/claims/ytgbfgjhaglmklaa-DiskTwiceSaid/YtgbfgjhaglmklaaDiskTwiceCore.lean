/-
  Crashed twice it is as crashed once; synced, nothing is lost; what is appended behind is behind what stayed: for all strings (of 100 bytes at most; others are let go) and numbers.
-/
import Derived.Test.YtgbfgjhaglmklaaDiskLaw
import Derived.OpenShut
namespace Go.Proofs.Ytgbfgjhaglmklaa.lawDiskTwice
open Go.RowKit DiskMath PackMath

set_option maxRecDepth 100000 in
set_option maxHeartbeats 800000 in
theorem long1 (H : DiskHave) (s t u : ByteArray) (keep : Int) (z0 : s.size ≤ 9223372036854775807) (h0 : 100 < s.size) (w : World) :
    Calls Try.prog 7 #[.string s, .string t, .string u, .int .i64 keep] w fun e w' => e = .returned (.bool true) ∧ Below w.heap.size w w' := by
  go_enter Try.func7, Try.ntmps7
  go_wp2_with fail
  refine (H.shown _).mono ?_
  rintro e w1 ⟨rfl, hb1⟩
  go_wp2_with fail
  go_ret
  exact ⟨rfl, hb1⟩

set_option maxRecDepth 100000 in
set_option maxHeartbeats 800000 in
theorem long2 (H : DiskHave) (s t u : ByteArray) (keep : Int) (z0 : s.size ≤ 9223372036854775807) (z1 : t.size ≤ 9223372036854775807) (h0 : ¬ 100 < s.size) (h1 : 100 < t.size) (w : World) :
    Calls Try.prog 7 #[.string s, .string t, .string u, .int .i64 keep] w fun e w' => e = .returned (.bool true) ∧ Below w.heap.size w w' := by
  go_enter Try.func7, Try.ntmps7
  go_wp2_with fail
  refine (H.shown _).mono ?_
  rintro e w1 ⟨rfl, hb1⟩
  go_wp2_with fail
  go_ret
  exact ⟨rfl, hb1⟩

set_option maxRecDepth 100000 in
set_option maxHeartbeats 800000 in
theorem long3 (H : DiskHave) (s t u : ByteArray) (keep : Int) (z0 : s.size ≤ 9223372036854775807) (z1 : t.size ≤ 9223372036854775807) (z2 : u.size ≤ 9223372036854775807) (h0 : ¬ 100 < s.size) (h1 : ¬ 100 < t.size) (h2 : 100 < u.size) (w : World) :
    Calls Try.prog 7 #[.string s, .string t, .string u, .int .i64 keep] w fun e w' => e = .returned (.bool true) ∧ Below w.heap.size w w' := by
  go_enter Try.func7, Try.ntmps7
  go_wp2_with fail
  refine (H.shown _).mono ?_
  rintro e w1 ⟨rfl, hb1⟩
  go_wp2_with fail
  go_ret
  exact ⟨rfl, hb1⟩

set_option maxRecDepth 100000 in
set_option maxHeartbeats 3200000 in
theorem core (H : DiskHave) (s t u : ByteArray) (keep : Int) (hk : IsI64 keep) (h0 : ¬ 100 < s.size) (h1 : ¬ 100 < t.size) (h2 : ¬ 100 < u.size) (w : World) :
    Calls Try.prog 7 #[.string s, .string t, .string u, .int .i64 keep] w fun e w' => e = .returned (.bool true) ∧ Below w.heap.size w w' := by
  obtain ⟨q, hq⟩ : ∃ q, q = s ++ t.extract 0 keep.toNat := ⟨_, rfl⟩
  have hqs : q.size ≤ 200 := by rw [hq, ByteArray.size_append, ByteArray.size_extract]; omega
  have x0 : newD 400 = ⟨400, ⟨#[]⟩, ⟨#[]⟩, ⟨#[]⟩⟩ := rfl
  have x1 : appD ⟨400, ⟨#[]⟩, ⟨#[]⟩, ⟨#[]⟩⟩ s = ⟨400, ⟨#[]⟩, ⟨#[]⟩, s⟩ := by
    unfold appD
    rw [if_neg (by unfold Dsk.free; simp only [size_none]; omega), nil_app]
  have e1 : appE ⟨400, ⟨#[]⟩, ⟨#[]⟩, ⟨#[]⟩⟩ s = 0 := if_neg (by unfold Dsk.free; simp only [size_none]; omega)
  have x2 : syncD ⟨400, ⟨#[]⟩, ⟨#[]⟩, s⟩ = ⟨400, ⟨#[]⟩, s, ⟨#[]⟩⟩ := by unfold syncD; rw [nil_app]
  have x3 : appD ⟨400, ⟨#[]⟩, s, ⟨#[]⟩⟩ t = ⟨400, ⟨#[]⟩, s, t⟩ := by
    unfold appD
    rw [if_neg (by unfold Dsk.free; simp only [size_none]; omega), nil_app]
  have e3 : appE ⟨400, ⟨#[]⟩, s, ⟨#[]⟩⟩ t = 0 := if_neg (by unfold Dsk.free; simp only [size_none]; omega)
  have x4 : crashD ⟨400, ⟨#[]⟩, s, t⟩ keep = ⟨400, ⟨#[]⟩, q, ⟨#[]⟩⟩ := by unfold crashD; rw [hq]
  have x5 : crashD ⟨400, ⟨#[]⟩, q, ⟨#[]⟩⟩ keep = ⟨400, ⟨#[]⟩, q, ⟨#[]⟩⟩ := by unfold crashD; rw [nil_cut, app_nil]
  have x6 : appD ⟨400, ⟨#[]⟩, q, ⟨#[]⟩⟩ u = ⟨400, ⟨#[]⟩, q, u⟩ := by
    unfold appD
    rw [if_neg (by unfold Dsk.free; simp only [size_none]; omega), nil_app]
  have e6 : appE ⟨400, ⟨#[]⟩, q, ⟨#[]⟩⟩ u = 0 := if_neg (by unfold Dsk.free; simp only [size_none]; omega)
  have x7 : syncD ⟨400, ⟨#[]⟩, q, u⟩ = ⟨400, ⟨#[]⟩, q ++ u, ⟨#[]⟩⟩ := rfl
  have x8 : crashD ⟨400, ⟨#[]⟩, q ++ u, ⟨#[]⟩⟩ 0 = ⟨400, ⟨#[]⟩, q ++ u, ⟨#[]⟩⟩ := by unfold crashD; rw [nil_cut, app_nil]
  have hs2 : (q ++ u).size ≤ 300 := by rw [ByteArray.size_append]; omega
  have hz : (⟨#[]⟩ : ByteArray).size = 0 := rfl
  have B1 : Hid (∀ W : World, Calls Try.prog 25 #[.string q, .string s] W fun e w' => e = .returned (.bool true) ∧ W = w') := fun W => begins_yes q s (by rw [hq]; exact begin_self _ _) (by rw [hq, ByteArray.size_append]; omega) W
  have B2 : Hid (∀ W : World, Calls Try.prog 25 #[.string (s ++ t), .string q] W fun e w' => e = .returned (.bool true) ∧ W = w') := fun W => begins_yes (s ++ t) q (by rw [hq]; exact begin_part _ _ _) (by rw [hq, ByteArray.size_append, ByteArray.size_append, ByteArray.size_extract]; omega) W
  have hadd1 : ∀ W : World, (Op.stringOp .add q u).run Try.prog W = .ok (.string (q ++ u)) W := fun W => run_string_add_sum W _ _ (by omega)
  have hadd2 : ∀ W : World, (Op.stringOp .add s t).run Try.prog W = .ok (.string (s ++ t)) W := fun W => run_string_add_sum W _ _ (by omega)
  have HQ := Lib.hid hqs
  have HS2 := Lib.hid hs2
  obtain ⟨r, hr⟩ : ∃ r, r = q ++ u := ⟨_, rfl⟩
  rw [← hr] at x7 x8 hadd1 HS2
  have HR := Lib.hid hr
  clear hq hr hqs hs2
  have X0' := Lib.hid x0
  have X1' := Lib.hid x1
  have E1' := Lib.hid e1
  have X2' := Lib.hid x2
  have X3' := Lib.hid x3
  have E3' := Lib.hid e3
  have X4' := Lib.hid x4
  have X5' := Lib.hid x5
  have X6' := Lib.hid x6
  have E6' := Lib.hid e6
  have X7' := Lib.hid x7
  have X8' := Lib.hid x8
  have HZ' := Lib.hid hz
  clear x0 x1 e1 x2 x3 e3 x4 x5 x6 e6 x7 x8 hz
  go_enter Try.func7, Try.ntmps7
  go_wp2_with fail
  refine (H.shown _).mono ?_
  rintro e w1 ⟨rfl, hb1⟩
  go_wp2_with fail
  refine (Disk1.new (H := H) hb1 400 (by unfold IsI64; omega)).mono ?_
  rintro e w2 ⟨a, rfl, d⟩
  rw [X0'.out] at d
  have D2 := Lib.hid d
  clear d
  go_wp2_with fail
  refine (D2.out.append s (by have := HQ.out; have := HZ'.out; have := H.most_ge; simp only; omega)).mono ?_
  rw [E1'.out, X1'.out]
  rintro e w3 ⟨rfl, d⟩
  have D3 := Lib.hid d
  clear d D2
  go_wp2_with fail
  refine (D3.out.sync).mono ?_
  rw [X2'.out]
  rintro e w4 ⟨rfl, d⟩
  have D4 := Lib.hid d
  clear d D3
  go_wp2_with fail
  refine (D4.out.append t (by have := HQ.out; have := HZ'.out; have := H.most_ge; simp only; omega)).mono ?_
  rw [E3'.out, X3'.out]
  rintro e w5 ⟨rfl, d⟩
  have D5 := Lib.hid d
  clear d D4
  go_wp2_with fail
  refine (D5.out.crash keep hk (by have := HQ.out; have := HZ'.out; have := H.most_ge; simp only; omega)).mono ?_
  rw [X4'.out]
  rintro e w6 ⟨rfl, d⟩
  have D6 := Lib.hid d
  clear d D5
  go_wp2_with fail
  refine (D6.out.log (by have := HQ.out; have := HZ'.out; have := H.most_ge; simp only; omega)).mono ?_
  simp only [app_nil]
  rintro e w7 ⟨rfl, d⟩
  have D7 := Lib.hid d
  clear d D6
  go_wp2_with fail
  refine (D7.out.crash keep hk (by have := HQ.out; have := HZ'.out; have := H.most_ge; simp only; omega)).mono ?_
  rw [X5'.out]
  rintro e w8 ⟨rfl, d⟩
  have D8 := Lib.hid d
  clear d D7
  go_wp2_with fail
  refine (D8.out.append u (by have := HQ.out; have := HZ'.out; have := H.most_ge; simp only; omega)).mono ?_
  rw [E6'.out, X6'.out]
  rintro e w9 ⟨rfl, d⟩
  have D9 := Lib.hid d
  clear d D8
  go_wp2_with fail
  refine (D9.out.log (by have := HQ.out; have := HZ'.out; have := H.most_ge; simp only; omega)).mono ?_
  simp only
  rw [← HR.out]
  rintro e w10 ⟨rfl, d⟩
  have D10 := Lib.hid d
  clear d D9
  go_wp2_with fail
  refine (D10.out.sync).mono ?_
  rw [X7'.out]
  rintro e w11 ⟨rfl, d⟩
  have D11 := Lib.hid d
  clear d D10
  go_wp2_with fail
  refine (D11.out.crash 0 (by unfold IsI64; omega) (by have := HS2.out; have := HZ'.out; have := H.most_ge; simp only; omega)).mono ?_
  rw [X8'.out]
  rintro e w12 ⟨rfl, d⟩
  have D12 := Lib.hid d
  clear d D11
  go_wp2_with fail
  refine (D12.out.log (by have := HS2.out; have := HZ'.out; have := H.most_ge; simp only; omega)).mono ?_
  simp only [app_nil]
  rintro e w13 ⟨rfl, d⟩
  have hB := d.2
  clear d D12
  go_wp2_with fail
  refine (B1.out _).mono ?_
  rintro e w14 ⟨rfl, rfl⟩
  go_wp2_with fail
  refine (B2.out _).mono ?_
  rintro e w15 ⟨rfl, rfl⟩
  go_wp2_with fail
  go_ret
  exact ⟨rfl, hB⟩

theorem walk0 (H : DiskHave) (s t u : ByteArray) (keep : Int) (w0 : s.size ≤ maxLen) (w1 : t.size ≤ maxLen) (w2 : u.size ≤ maxLen) (w3 : (Lit.int .i64 keep).wf = true) (w : World) :
    Calls Try.prog 7 #[.string s, .string t, .string u, .int .i64 keep] w fun e w' => e = .returned (.bool true) ∧ Below w.heap.size w w' := by
  unfold maxLen at w0 w1 w2
  by_cases h0 : 100 < s.size
  · exact long1 H s t u keep (by omega) h0 w
  by_cases h1 : 100 < t.size
  · exact long2 H s t u keep (by omega) (by omega) h0 h1 w
  by_cases h2 : 100 < u.size
  · exact long3 H s t u keep (by omega) (by omega) (by omega) h0 h1 h2 w
  exact core H s t u keep (bounds_i64 w3) h0 h1 h2 w

end Go.Proofs.Ytgbfgjhaglmklaa.lawDiskTwice
