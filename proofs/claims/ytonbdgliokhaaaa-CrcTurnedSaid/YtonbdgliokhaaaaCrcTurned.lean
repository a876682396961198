/-
  A byte that is another one, and two unlike ones, one behind the other, that change places, make another sum: for every string of 2 to 2000 bytes, at every place; other strings are let go.
-/
import Derived.Test.YtonbdgliokhaaaaCrcCode
import Derived.ProofKit
import Derived.OpenShut
import Derived.Lib.ConvBytes
import Derived.Deep.QuietTactic
import Derived.BigQuiet
namespace Go.Proofs.Ytonbdgliokhaaaa.lawCrcTurned
open Go.RowKit CrcMath

/-- Block g holds the bytes l, and they may be written. -/
def IsBytes (W : World) (g : Nat) (l : List UInt8) : Prop :=
  ∀ j (h : j < l.length), W.cell? ⟨g, j, none⟩ = some (.int .u8 (l[j].toNat : Int)) ∧ W.frozen? ⟨g, j, none⟩ = false

theorem bytes_of (W : World) (s : ByteArray) : ∃ cap W', (convert 9 32 (.string s)).run Try.prog W = .ok (.slice (some ⟨W.heap.size, 0, none⟩) s.size cap) W' ∧
    IsBytes W' W.heap.size s.data.toList ∧ Below W.heap.size W W' := by
  refine ⟨_, _, run_bytes_of_string W _ _ _ s Try.underlying9 Try.underlying32 Try.underlying5, ?_, ((Below.refl _ _).drew).alloc (Nat.le_refl _) _⟩
  intro j hj
  have hj' : j < s.data.size := by simpa using hj
  constructor
  · have h := World.cell?_alloc_mark W.drew (bytesRow s (grownCap W s.size 0 5)) 5 ((bytesRow s (grownCap W s.size 0 5)).size, (bytesRow s (grownCap W s.size 0 5)).size + 1) j
    rw [bytesRow_at s _ j hj'] at h
    exact h
  · have h := World.frozen?_alloc_mark W.drew (bytesRow s (grownCap W s.size 0 5)) 5 (bytesRow s (grownCap W s.size 0 5)).size ((bytesRow s (grownCap W s.size 0 5)).size + 1) j
    refine h.trans ?_
    have : (bytesRow s (grownCap W s.size 0 5)).size ≥ s.data.size := by simp [bytesRow]
    simp; omega

theorem IsBytes.set {W : World} {g : Nat} {l : List UInt8} (h : IsBytes W g l) (k : Nat) (v : UInt8) : IsBytes (W.setCell ⟨g, k, none⟩ (.int .u8 (v.toNat : Int))) g (l.set k v) := by
  intro j hj
  have hj' : j < l.length := by simpa using hj
  have h2 := h j hj'
  constructor
  · by_cases e : k = j
    · subst e
      have := World.cell?_setCell_same W ⟨g, k, none⟩ (.int .u8 (v.toNat : Int)) (u := _) h2.1
      rw [this]; simp
    · rw [World.cell?_setCell_other W _ _ _ (fun he => e (by injection he)), h2.1]
      simp [e]
  · rw [World.frozen?_setCell]; exact h2.2

theorem IsBytes.back {W : World} {g : Nat} {l : List UInt8} (h : IsBytes W g l) (cap : Nat) :
    (convert 32 9 (.slice (some ⟨g, 0, none⟩) l.length cap)).run Try.prog W = .ok (.string ⟨l.toArray⟩) W := by
  refine run_convert_bytes_back W _ _ _ _ cap l Try.underlying32 Try.underlying5 Try.underlying9 (fun j hj => ?_)
  have hadd : (⟨g, 0, none⟩ : Addr).add j = ⟨g, j, none⟩ := by unfold Addr.add; split <;> simp_all
  rw [hadd]
  exact (h j hj).1

set_option maxRecDepth 100000 in
set_option maxHeartbeats 400000 in
theorem other (H : CrcHave) (s : ByteArray) (a y : Nat) (h : 2000 < s.size ∨ s.size < 2) (hs : s.size ≤ maxLen) (w : World) :
    Calls Try.prog 5 #[.string s, .int .u16 a, .int .u8 y] w fun e w' => e = .returned (.bool true) ∧ Below w.heap.size w w' := by
  unfold maxLen at hs
  rcases h with h | h
  · go_enter Try.func5, Try.ntmps5
    go_wp2_with fail
    refine (H.shown _).mono ?_
    rintro e w1 ⟨rfl, hb1⟩
    go_wp2_with fail
    go_ret
    exact ⟨rfl, hb1⟩
  · have h2 : ¬ 2000 < s.size := by omega
    go_enter Try.func5, Try.ntmps5
    go_wp2_with fail
    refine (H.shown _).mono ?_
    rintro e w1 ⟨rfl, hb1⟩
    go_wp2_with fail
    go_ret
    exact ⟨rfl, hb1⟩

set_option maxRecDepth 100000 in
set_option maxHeartbeats 1600000 in
theorem core (H : CrcHave) (s : ByteArray) (a k : Nat) (y x : UInt8) (D E1 E2 : Nat) (w : World) (hs : s.size ≤ 2000) (hs2 : 2 ≤ s.size) (hk : k + 1 < s.size) (ha : a ≤ 65535)
    (hak : (a : Int) % ((s.size : Int) - 1) = (k : Int)) (hx : bits .xor .u8 (s[k].toNat : Int) (y.toNat : Int) = (x.toNat : Int))
    (hD : D = cmore 0 s.data.toList) (hE1 : E1 = cmore 0 (s.data.toList.set k x)) (hE2 : E2 = cmore 0 ((s.data.toList.set k s[k + 1]).set (k + 1) s[k]))
    (b1 : ((E1 : Int) == (D : Int)) = ((y.toNat : Int) == 0)) (b2 : ((E2 : Int) == (D : Int)) = ((s[k].toNat : Int) == (s[k + 1].toNat : Int))) :
    Calls Try.prog 5 #[.string s, .int .u16 a, .int .u8 (y.toNat : Int)] w fun e w' => e = .returned (.bool true) ∧ Below w.heap.size w w' := by
  have HO : Hid (∀ W : World, Calls Try.prog 10 #[.string s] W fun e w' => e = .returned (.int .u32 (D : Int)) ∧ Below W.heap.size W w') := fun W => by
    rw [hD]; exact H.of s W (by omega)
  have HP : Hid (∀ W : World, Calls Try.prog 10 #[.string ⟨(s.data.toList.set k x).toArray⟩] W fun e w' => e = .returned (.int .u32 (E1 : Int)) ∧ Below W.heap.size W w') := fun W => by
    rw [hE1]; exact H.of ⟨(s.data.toList.set k x).toArray⟩ W (by show (s.data.toList.set k x).length ≤ 5000; rw [List.length_set]; simp; omega)
  have HQ : Hid (∀ W : World, Calls Try.prog 10 #[.string ⟨((s.data.toList.set k s[k + 1]).set (k + 1) s[k]).toArray⟩] W fun e w' => e = .returned (.int .u32 (E2 : Int)) ∧ Below W.heap.size W w') := fun W => by
    rw [hE2]; exact H.of ⟨((s.data.toList.set k s[k + 1]).set (k + 1) s[k]).toArray⟩ W (by show ((s.data.toList.set k s[k + 1]).set (k + 1) s[k]).length ≤ 5000; rw [List.length_set, List.length_set]; simp; omega)
  have HL : Hid (s.data.toList.length = s.size) := by show s.data.toList.length = s.size; simp
  clear hD hE1 hE2
  go_enter Try.func5, Try.ntmps5
  go_wp2_with fail
  refine (H.shown _).mono ?_
  rintro e w1 ⟨rfl, hb1⟩
  obtain ⟨cap, w2, hrun, hB, hb2⟩ := bytes_of w1 s
  have hc2 := (hB k (by rw [HL.out]; omega)).1
  have hf2 := (hB k (by rw [HL.out]; omega)).2
  have hback := (hB.set k x).back cap
  rw [List.length_set, HL.out] at hback
  rw [show s.data.toList[k]'(by rw [HL.out]; omega) = s[k] from by simp; rfl] at hc2
  have HB := Lib.hid hB
  clear hB
  go_wp2_with fail
  refine (HP.out _).mono ?_
  rintro e w3 ⟨rfl, hb3⟩
  go_wp2_with fail
  refine (HO.out _).mono ?_
  rintro e w4 ⟨rfl, hb4⟩
  obtain ⟨cap2, w5, hrun2, hB2, hb5⟩ := bytes_of w4 s
  have hc5 := (hB2 k (by rw [HL.out]; omega)).1
  have hf5 := (hB2 k (by rw [HL.out]; omega)).2
  have hc6 := (hB2 (k + 1) (by rw [HL.out]; omega)).1
  have hf6 := (hB2 (k + 1) (by rw [HL.out]; omega)).2
  have hback2 := ((hB2.set k s[k + 1]).set (k + 1) s[k]).back cap2
  rw [List.length_set, List.length_set, HL.out] at hback2
  clear hrun hc2 hf2 hback HB hB2
  go_wp2_with fail
  refine (HQ.out _).mono ?_
  rintro e w6 ⟨rfl, hb6⟩
  go_wp2_with fail
  refine (HO.out _).mono ?_
  rintro e w7 ⟨rfl, hb7⟩
  clear hrun2 hc5 hf5 hc6 hf6 hback2
  go_wp2_with fail
  go_quiet (fail)
  go_wp2_with fail
  go_ret
  refine ⟨rfl, ?_⟩
  have A2 : Below w.heap.size w w2 := below_step hb1 hb2
  have A4 : Below w.heap.size w w4 := below_step (below_step (A2.setCell (p := ⟨w1.heap.size, k, none⟩) hb1.size _) hb3) hb4
  have A5 : Below w.heap.size w w5 := below_step A4 hb5
  exact below_drewN' (below_step (below_step ((A5.setCell (p := ⟨w4.heap.size, k, none⟩) A4.size _).setCell (p := ⟨w4.heap.size, k + 1, none⟩) A4.size _) hb6) hb7) _

theorem short (H : CrcHave) (s : ByteArray) (a : Nat) (y : UInt8) (ha : a ≤ 65535) (hs : s.size ≤ 2000) (hs2 : 2 ≤ s.size) (w : World) :
    Calls Try.prog 5 #[.string s, .int .u16 a, .int .u8 (y.toNat : Int)] w fun e w' => e = .returned (.bool true) ∧ Below w.heap.size w w' := by
  obtain ⟨k, hk⟩ : ∃ k, k = a % (s.size - 1) := ⟨_, rfl⟩
  have hlt : k < s.size - 1 := by rw [hk]; exact Nat.mod_lt _ (by omega)
  have hk1 : k + 1 < s.size := by omega
  have hl : s.data.toList.length = s.size := by simp
  have g1 : s.data.toList[k]'(by omega) = s[k] := by simp; rfl
  have g2 : s.data.toList[k + 1]'(by omega) = s[k + 1] := by simp; rfl
  refine core H s a k y (s[k] ^^^ y) (cmore 0 s.data.toList) _ _ w hs hs2 hk1 ha ?_ ?_ rfl rfl rfl ?_ ?_
  · rw [hk, Int.natCast_emod, Int.natCast_sub (by omega)]; rfl
  · rw [u8_xor_nat _ _ (UInt8.toNat_lt _) (UInt8.toNat_lt _), UInt8.toNat_xor]
  · have h := more_set s.data.toList k (by omega) (s[k] ^^^ y)
    rw [g1, xor_same] at h
    rw [Bool.eq_iff_iff, beq_iff_eq, beq_iff_eq]
    omega
  · have h := more_swap s.data.toList k (by omega)
    rw [g1, g2, ← UInt8.toNat_inj] at h
    rw [Bool.eq_iff_iff, beq_iff_eq, beq_iff_eq]
    omega

theorem walk (a0 : ByteArray) (a1 a2 : Int) (w0 : a0.size ≤ maxLen) (w1 : (Lit.int .u16 a1).wf = true) (w2 : (Lit.int .u8 a2).wf = true) (w : World) :
    Calls Try.prog 5 #[.string a0, .int .u16 a1, .int .u8 a2] w fun e w' => e = .returned (.bool true) ∧ Below w.heap.size w w' := by
  obtain ⟨a, rfl, ha⟩ := nat_of_int (bounds_u16 w1)
  obtain ⟨y, rfl⟩ := byte_of_int (bounds_u8 w2)
  by_cases h : 2000 < a0.size ∨ a0.size < 2
  · exact other crcHave a0 a y.toNat h w0 w
  · exact short crcHave a0 a y (by omega) (by omega) (by omega) w
end Go.Proofs.Ytonbdgliokhaaaa.lawCrcTurned

namespace Go.Proofs.Ytonbdgliokhaaaa.lawCrcTurned
open Go.ChangeShapes Go.WideShapes Go.ChangeAt Go.RowKit
open Go.ChangeMaps (open_string shut_string)

theorem own : ownKnob Try.prog.godebug = none := by kernel_rfl

set_option maxRecDepth 100000 in
theorem lifted (os : Os) (started : os.Started) (H : Type) (enc : TypeId × Value → H) :
    ReturnsInHanded {} Try.checked os 5 .any (Rows.crcTurnedSpec.pre6 enc Try.prog Try.f5 Rows.crcTurnedRow.domain false) (Rows.crcTurnedSpec.post enc Try.prog Try.f5 false true false false) := by
  refine returnsInHanded_of_change (C := Try.checked) own started (by kernel_rfl) Try.func5
    (ChangeSpec.witness6 (enc := enc) (C := Try.checked) false ⟨#[], #[.string ByteArray.empty, .int .u16 0, .int .u8 0], []⟩ 8 (by kernel_rfl) (by kernel_rfl) (by kernel_rfl) (by kernel_rfl)) ?_
  intro W base args ds gs before hval0 hW hcnd _
  have hval : ∀ (j : Nat) t v, Try.f5.params[j]? = some t → args[j]? = some v → Value.okWide Try.prog W .any base t v := hval0
  have hW' := hW
  obtain ⟨p, q, hA0, hV, rfl, hfz, hnd⟩ := hW
  have hA : DataW.TrodAll enc Try.prog W 0 (fun _ => true) true Try.f5.params.toList args.toList ds p := hA0
  rw [Try.params5] at hA hval
  obtain ⟨v0, vs0, d0, ds0, p0, q0, hargs, rfl, rfl, h0, r0⟩ := trodAll_cons hA
  obtain ⟨v1, vs1, d1, ds1, p1, q1, rfl, rfl, rfl, h1, r1⟩ := trodAll_cons r0
  obtain ⟨v2, vs2, d2, ds2, p2, q2, rfl, rfl, rfl, h2, r2⟩ := trodAll_cons r1
  obtain ⟨rfl, rfl, rfl⟩ := trodAll_nil r2
  obtain rfl : args = #[v0, v1, v2] := by cases args; simp_all
  obtain ⟨rfl, rfl⟩ := trodVars_none hV
  obtain ⟨a0, rfl, rfl, rfl, w0⟩ := open_string Try.underlying9 (hval 0 9 v0 rfl rfl) h0
  obtain ⟨a1, rfl, rfl, rfl, w1⟩ := open_int Try.underlying31 (hval 1 31 v1 rfl rfl) h1
  obtain ⟨a2, rfl, rfl, rfl, w2⟩ := open_int Try.underlying5 (hval 2 5 v2 rfl rfl) h2
  clear hA0 hval0
  simp only [List.append_nil] at hW'
  refine (walk a0 a1 a2 w0 w1 w2 W).mono fun e W' ⟨he, hb⟩ => ?_
  subst he
  exact ⟨_, rfl, _, _, _, [], _, [], hW', trodAll_mk1 (shut_bool Try.underlying4 _), (trodAll_cons_mk (shut_string Try.underlying9 w0) (trodAll_cons_mk (shut_int Try.underlying31 w1) (trodAll_cons_mk (shut_int Try.underlying5 w2) trodAll_mk0))), rfl, hb.frame _, fun h => by cases h⟩

theorem proved : Rows.CrcTurnedSaid :=
  OpenClaim.holds_of_wide 5 Try.f5 rfl rfl rfl rfl rfl rfl rfl ⟨rfl, rfl, rfl, rfl, rfl⟩ rfl rfl rfl rfl rfl (by kernel_rfl) Try.func5 (by kernel_rfl)
    (of_decide_eq_true (by kernel_rfl)) (by unfold Func.isWrapper; first | (rw [if_pos (by decide +kernel)]; kernel_rfl) | (rw [if_neg (by decide +kernel)]; exact ⟨rfl, rfl⟩))
    (fun os started H enc _ => lifted os started H enc)
#print axioms proved
end Go.Proofs.Ytonbdgliokhaaaa.lawCrcTurned
