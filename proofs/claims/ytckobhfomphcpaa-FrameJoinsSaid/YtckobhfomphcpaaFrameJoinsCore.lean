/-
  Records behind records: what is found in them and anything behind is what is found in both, one behind the other: for all lists of texts (20 of 200 bytes at most; others are let go) and strings of 2000 bytes at most.
-/
import Derived.Test.YtckobhfomphcpaaFrameLaw
import Derived.Test.YtckobhfomphcpaaFrameRefTexts
import Derived.Test.YtckobhfomphcpaaStrsAppend
import Derived.OpenShut
namespace Go.Proofs.Ytckobhfomphcpaa.lawFrameJoins
open Go.RowKit FrameMath PackMath CrcMath

set_option maxHeartbeats 400000 in
theorem many (H : FrameHave) (A : Option Addr) (n c : Nat) (xs : List (List UInt8)) (s : ByteArray) (hn : n ≤ maxLen) (hx : ∀ x ∈ xs, x.length ≤ maxLen) (w : World) (h : StrsIn w w.heap.size A n xs) (hf : fewB xs = false) :
    Calls Try.prog 7 #[.slice A n c, .string s] w fun e w' => e = .returned (.bool true) ∧ Below w.heap.size w w' := by
  have HF : Hid (∀ W : World, Below w.heap.size w W → Calls Try.prog 16 #[.slice A n c] W fun e w' => e = .returned (.bool false) ∧ W = w') := fun W hb => by
    rw [← hf]
    exact few_any A n c xs hn hx W ((h.below hb).more hb.size)
  clear hn hx h hf
  go_enter Try.func7, Try.ntmps7
  go_wp2_with fail
  refine (H.shown _).mono ?_
  rintro e w1 ⟨rfl, hb1⟩
  go_wp2_with fail
  refine (HF.out _ hb1).mono ?_
  rintro e w2 ⟨rfl, rfl⟩
  go_wp2_with fail
  go_ret
  exact ⟨rfl, hb1⟩

set_option maxHeartbeats 400000 in
theorem long (H : FrameHave) (A : Option Addr) (n c : Nat) (xs : List (List UInt8)) (s : ByteArray) (hn : n ≤ maxLen) (hx : ∀ x ∈ xs, x.length ≤ maxLen) (w : World) (h : StrsIn w w.heap.size A n xs) (hf : fewB xs = true) (hs : 2000 < s.size) (hs2 : s.size ≤ 9223372036854775807) :
    Calls Try.prog 7 #[.slice A n c, .string s] w fun e w' => e = .returned (.bool true) ∧ Below w.heap.size w w' := by
  have HF : Hid (∀ W : World, Below w.heap.size w W → Calls Try.prog 16 #[.slice A n c] W fun e w' => e = .returned (.bool true) ∧ W = w') := fun W hb => by
    rw [← hf]
    exact few_any A n c xs hn hx W ((h.below hb).more hb.size)
  clear hn hx h hf
  go_enter Try.func7, Try.ntmps7
  go_wp2_with fail
  refine (H.shown _).mono ?_
  rintro e w1 ⟨rfl, hb1⟩
  go_wp2_with fail
  refine (HF.out _ hb1).mono ?_
  rintro e w2 ⟨rfl, rfl⟩
  go_wp2_with fail
  go_ret
  exact ⟨rfl, hb1⟩

theorem laid_len {xs : List (List UInt8)} (h1 : xs.length ≤ 20) (h2 : ∀ x ∈ xs, x.length ≤ 200) : (recs xs).length ≤ 4280 := by
  have h := recs_len xs 200 h2
  have : xs.length * (200 + 14) ≤ 20 * 214 := Nat.mul_le_mul h1 (Nat.le_refl _)
  omega

theorem recs_count : ∀ bs : List (List UInt8), bs.length ≤ (recs bs).length
  | [] => Nat.zero_le _
  | b :: bs => by
    have ih := recs_count bs
    have h1 := (recL_lens b).1
    rw [recs_cons, List.length_append, List.length_cons]
    omega

set_option maxRecDepth 100000 in
set_option maxHeartbeats 3200000 in
theorem core (H : FrameHave) (A : Option Addr) (n c : Nat) (hnc : A = none → c = 0) (xs : List (List UInt8)) (s : ByteArray) (hs : ¬ 2000 < s.size) (hxl : xs.length = n) (h1 : xs.length ≤ 20) (h2 : ∀ x ∈ xs, x.length ≤ 200) (w : World) (h : StrsIn w w.heap.size A n xs) :
    Calls Try.prog 7 #[.slice A n c, .string s] w fun e w' => e = .returned (.bool true) ∧ Below w.heap.size w w' := by
  obtain ⟨i0, hi0, hz0, hz1, hz2⟩ := info_parts str_infos
  have hlen := laid_len h1 h2
  have h20 : n ≤ 20 := by omega
  have hl0 : s.data.toList.length = s.size := by simp
  have hv := congrArg List.length (allR_very s.data.toList).1
  rw [List.length_append] at hv
  obtain ⟨ys, hys⟩ : ∃ ys, ys = (allR s.data.toList).1 := ⟨_, rfl⟩
  obtain ⟨r, hr⟩ : ∃ r, r = (allR s.data.toList).2 := ⟨_, rfl⟩
  have hc := recs_count ys
  rw [← hys, ← hr] at hv
  have hall := allR_recs xs s.data.toList (fun x hx => by have := h2 x hx; omega)
  rw [← hys, ← hr] at hall
  have hy2 : ys.length ≤ 2000 := by omega
  obtain ⟨a, ha⟩ : ∃ a, a = recs xs := ⟨_, rfl⟩
  rw [← ha] at hlen hall
  have hrl : (r.length : Int) ≤ 2000 := by omega
  have hrs : (r.length : Int) ≤ (s.size : Int) := by omega
  have HF : Hid (∀ W : World, Below w.heap.size w W → Calls Try.prog 16 #[.slice A n c] W fun e w' => e = .returned (.bool true) ∧ W = w') := fun W hb => by
    rw [← fewB_iff.2 ⟨h1, h2⟩]
    exact few_any A n c xs (by unfold maxLen; omega) (fun x hx => by have := h2 x hx; unfold maxLen; omega) W ((h.below hb).more hb.size)
  have HL : Hid (∀ W : World, Below w.heap.size w W → Calls Try.prog 17 #[.slice A n c] W (fun e w' => ∃ (A' : Option Addr) (c' : Nat), e = .returned (.tuple #[.string ⟨a.toArray⟩, .slice A' n c']) ∧ Below W.heap.size W w')) := fun W hb => by
    refine (laid_any H A n c xs (by omega) (fun x hx => by have := h2 x hx; omega) (by rw [← ha]; omega) W ((h.below hb).more hb.size)).mono ?_
    rintro e w' ⟨A', c', he, _, _, _, q2⟩
    rw [hxl, ← ha] at he
    exact ⟨A', c', he, q2⟩
  have HA : Hid (∀ W : World, Calls Try.prog 13 #[.string ((⟨a.toArray⟩ : ByteArray) ++ s)] W (AllPost (xs ++ ys) ((a.length : Int) + ((s.size : Int) - (r.length : Int))) W)) := fun W => by
    have hsz : ((⟨a.toArray⟩ : ByteArray) ++ s).size = a.length + s.size := by rw [ByteArray.size_append]; rfl
    have q := H.all ((⟨a.toArray⟩ : ByteArray) ++ s) W (by omega)
    rw [show ((⟨a.toArray⟩ : ByteArray) ++ s).data.toList = a ++ s.data.toList by rw [mk_append_data], hall, hsz] at q
    rw [show ((a.length + s.size : Nat) : Int) - (r.length : Int) = (a.length : Int) + ((s.size : Int) - (r.length : Int)) by omega] at q
    exact q
  have HS : Hid (∀ W : World, Calls Try.prog 13 #[.string s] W (AllPost ys ((s.size : Int) - (r.length : Int)) W)) := fun W => by
    have q := H.all s W (by omega)
    rw [← hys, ← hr] at q
    exact q
  have hadd : ∀ W : World, (Op.stringOp .add ⟨a.toArray⟩ s).run Try.prog W = .ok (.string ((⟨a.toArray⟩ : ByteArray) ++ s)) W := fun W => run_string_add_sum W _ _ (by show a.length + s.size ≤ _; omega)
  obtain ⟨m, hm⟩ : ∃ m : Int, m = (s.size : Int) - (r.length : Int) := ⟨_, rfl⟩
  have hm0 : 0 ≤ m := by omega
  have hm1 : m ≤ 2000 := by omega
  rw [← hm] at HA HS
  obtain ⟨zs, hzs⟩ : ∃ zs, zs = xs ++ ys := ⟨_, rfl⟩
  rw [← hzs] at HA
  have hzl : zs.length = n + ys.length := by rw [hzs, List.length_append, hxl]
  have HZ := Lib.hid hzs
  have HZL := Lib.hid hzl
  clear hzs hzl
  have HX := Lib.hid h
  have HXL := Lib.hid hxl
  have HNC := Lib.hid hnc
  clear h hxl hall hys hr ha h1 h2 hv hc hl0 hm hrl hrs hnc
  go_enter Try.func7, Try.ntmps7
  go_wp2_with fail
  refine (H.shown _).mono ?_
  rintro e w1 ⟨rfl, hb1⟩
  go_wp2_with fail
  refine (HF.out _ hb1).mono ?_
  rintro e w2 ⟨rfl, rfl⟩
  go_wp2_with fail
  refine (HL.out _ hb1).mono ?_
  rintro e w3 ⟨A', c', rfl, hb3⟩
  have hB := below_step hb1 hb3
  clear hb1 hb3 HF HL
  go_wp2_with fail
  refine (HA.out _).mono ?_
  rintro e w4 ⟨B4, c4, rfl, q4, _, _, hb4⟩
  go_wp2_with fail
  refine (HS.out _).mono ?_
  rintro e w5 ⟨B5, c5, rfl, q5, _, ⟨_, n5⟩, hb5⟩
  have hB5 := below_step (below_step hB hb4) hb5
  have q4' := (q4.below hb5).more hb5.size
  have N5 := Lib.hid n5
  have HQ4 := Lib.hid q4'
  have HQ5 := Lib.hid q5
  have hX5 := (HX.out.below hB5).more hB5.size
  have HX5 := Lib.hid hX5
  clear hB hb4 hb5 q4 q4' q5 n5 hX5 hadd
  have hown0 : (w5.alloc (.cells #[] 9)).ownsRow w5.heap.size 9 1 (.slice (some ⟨w5.heap.size, 0, none⟩) 0 0) 0 (strV []) := World.ownsRow_made w5 #[] 0 (Nat.le_refl _) (by decide) rfl
  have hb0 : Below w5.heap.size w5 (w5.alloc (.cells #[] 9)) := (Below.refl _ _).alloc (Nat.le_refl _) _
  have hml : (0 : Nat) + n ≤ maxLen := by unfold maxLen; omega
  have hml2 : n + ys.length ≤ maxLen := by unfold maxLen; omega
  go_wp2_with (first
    | (at_builtin; refine wpList_append_strs rfl (.tmp 40) (.tmp 41) 32 rfl w5.heap.size 9 i0 _ 16 Try.underlying32 hi0 hz0 hz1 hz2 rfl _ 0 [] rfl hown0 A n c w5.heap.size xs rfl (HX5.out.below hb0) HNC.out hml (by omega) hb0.size ?_; intro v6 w6 own6 g6; simp only [Nat.zero_add, List.nil_append] at own6; have hb6 : Below w5.heap.size w5 w6 := hb0.grown g6 hb0.size (fun q hq => (hown0.lt q hq).1); clear g6)
    | (at_builtin; refine wpList_append_strs rfl (.tmp 42) (.tmp 43) 32 rfl w5.heap.size 9 i0 _ 16 Try.underlying32 hi0 hz0 hz1 hz2 rfl _ n xs rfl own6 B5 ys.length c5 w5.heap.size ys rfl (HQ5.out.below hb6) N5.out hml2 (by omega) hb6.size ?_; intro v7 w7 own7 g7; have hb7 : Below w5.heap.size w5 w7 := hb6.grown g7 hb6.size (fun q hq => (own6.lt q hq).1); clear g7; obtain ⟨B7, c7, rfl, q7, _, _⟩ := strs_own own7))
  rw [← HZ.out] at q7
  refine (refTexts B4 zs.length c4 zs B7 (n + ys.length) c7 zs (by rw [HZL.out]; omega) (by omega) _ ((HQ4.out.below hb7).more hb7.size) q7).mono ?_
  rintro e w8 ⟨rfl, hb8⟩
  rw [sameS_self]
  go_wp2_with fail
  go_ret
  exact ⟨rfl, below_step (below_step hB5 hb7) hb8⟩

theorem walk0 (H : FrameHave) (A : Option Addr) (n c : Nat) (xs : List (List UInt8)) (s : ByteArray) (w : World) (hnc : n ≤ c) (hc : c ≤ maxLen) (hA : A = none → c = 0) (hx : ∀ x ∈ xs, x.length ≤ maxLen) (h : StrsIn w w.heap.size A n xs) (w1 : s.size ≤ maxLen) :
    Calls Try.prog 7 #[.slice A n c, .string s] w fun e w' => e = .returned (.bool true) ∧ Below w.heap.size w w' := by
  cases hf : fewB xs with
  | false => exact many H A n c xs s (Nat.le_trans hnc hc) hx w h hf
  | true =>
    obtain ⟨f1, f2⟩ := fewB_iff.1 hf
    by_cases hs : 2000 < s.size
    · exact long H A n c xs s (Nat.le_trans hnc hc) hx w h hf hs (by unfold maxLen at w1; omega)
    · exact core H A n c hA xs s hs h.1 f1 f2 w h

end Go.Proofs.Ytckobhfomphcpaa.lawFrameJoins
